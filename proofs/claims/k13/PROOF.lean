import PyProof.Rows.All
import Wide.All
import OpenK.AllK
import Wide.FinOn
import Lean
import PyProof.EqAt
import PyProof.EqKinds
import PyProof.TupleCall
import PyProof.NeKinds
import PyProof.StrOps2
import PySem.Challenge.RW_twigtable_k13_a_store
section
set_option Elab.async false
set_option linter.all false
set_option maxRecDepth 100000
namespace L2
open PySem PySem.Spec PyProof.Rows

/-- a key: an int or a str -/
abbrev Key := Sum Int Str
def keyIs : Key → Value → Bool
  | .inl k, v => Value.isInt k v
  | .inr x, v => Value.isStrOf x v
def keyH (w : World) : Key → Int
  | .inl k => hashInt k
  | .inr x => hashStr w x
theorem keyIs_shape : ∀ {k : Key} {v : Value}, keyIs k v = true → (∃ i t, k = Sum.inl i ∧ v = Value.int i t) ∨ (∃ x t, k = Sum.inr x ∧ v = Value.str x t)
  | .inl i, v, h => by
    obtain ⟨t, e⟩ := Value.isInt_shape (k := i) (v := v) h
    exact .inl ⟨i, t, rfl, e⟩
  | .inr x, v, h => by
    obtain ⟨t, e⟩ := Value.isStrOf_shape (x := x) (v := v) h
    exact .inr ⟨x, t, rfl, e⟩
theorem keyIs_int (i : Int) (t : Tok) : keyIs (.inl i) (.int i t) = true := by simp [keyIs, Value.isInt]
theorem keyIs_str (x : Str) (t : Tok) : keyIs (.inr x) (.str x t) = true := by simp [keyIs, Value.isStrOf]
theorem key_ll (a b : Int) : decide ((Sum.inl a : Key) = Sum.inl b) = (a == b) := by
  by_cases e : a = b
  · subst e; simp
  · have h : ¬ (Sum.inl a : Key) = Sum.inl b := fun q => e (Sum.inl.inj q)
    rw [decide_eq_false h]
    exact (beq_eq_false_iff_ne.mpr e).symm
theorem key_rr (a b : Str) : decide ((Sum.inr a : Key) = Sum.inr b) = decide (a = b) := by
  by_cases e : a = b
  · subst e; simp
  · have h : ¬ (Sum.inr a : Key) = Sum.inr b := fun q => e (Sum.inr.inj q)
    rw [decide_eq_false h, decide_eq_false e]
theorem key_lr (a : Int) (b : Str) : decide ((Sum.inl a : Key) = Sum.inr b) = false := decide_eq_false (fun q => nomatch q)
theorem key_rl (a : Str) (b : Int) : decide ((Sum.inr a : Key) = Sum.inl b) = false := decide_eq_false (fun q => nomatch q)

def mixKind (prog : Program) (w : World) : PySem.KeyKind prog w Key where
  is := keyIs
  hash := keyH w
  inj := fun v a b ha hb => by
    rcases keyIs_shape ha with ⟨i, t, rfl, rfl⟩ | ⟨x, t, rfl, rfl⟩
    · rcases keyIs_shape hb with ⟨j, u, rfl, e⟩ | ⟨y, u, rfl, e⟩
      · injection e with e1 _; rw [e1]
      · exact nomatch e
    · rcases keyIs_shape hb with ⟨j, u, rfl, e⟩ | ⟨y, u, rfl, e⟩
      · exact nomatch e
      · injection e with e1 _; rw [e1]
  byValue := fun k v h => by
    rcases keyIs_shape h with ⟨i, t, rfl, rfl⟩ | ⟨x, t, rfl, rfl⟩ <;> rfl
  pyHash := fun hv h => by
    rcases keyIs_shape hv with ⟨i, t, rfl, rfl⟩ | ⟨x, t, rfl, rfl⟩
    · exact wpAny_pyHash_int h
    · exact wpAny_pyHash_str h
  eqBool := fun hu hv h => by
    rcases keyIs_shape hu with ⟨i, t, rfl, rfl⟩ | ⟨x, t, rfl, rfl⟩
    · rcases keyIs_shape hv with ⟨j, u, rfl, rfl⟩ | ⟨y, u, rfl, rfl⟩
      · rw [key_ll] at h; exact wpAny_eqBool_int h
      · rw [key_lr] at h; exact SeqAt.EqAt.int_str i t y u _ _ _ _ h
    · rcases keyIs_shape hv with ⟨j, u, rfl, rfl⟩ | ⟨y, u, rfl, rfl⟩
      · rw [key_rl] at h; exact SeqAt.EqAt.str_int x t j u _ _ _ _ h
      · rw [key_rr] at h; exact wpAny_eqBool_str h
  «strs» := fun k x t v h => by
    rcases keyIs_shape h with ⟨i, u, rfl, e⟩ | ⟨y, u, rfl, e⟩
    · exact nomatch e
    · injection e with e1 _
      subst e1
      cases v <;> rfl

theorem mixKind_int (prog : Program) (w : World) (i : Int) (t : Tok) : (mixKind prog w).is (.inl i) (.int i t) = true := keyIs_int i t
theorem mixKind_str (prog : Program) (w : World) (x : Str) (t : Tok) : (mixKind prog w).is (.inr x) (.str x t) = true := keyIs_str x t
end L2

namespace L2
open PySem PySem.Spec PyProof.Rows

/-- a value, without the heap -/
inductive V where
  | non | bl (b : Bool) | int (i : Int) | str (x : Str) | byt (b : Array UInt8) | flt (b : UInt64) | ref (a : Addr) | ty (n : String)
  deriving DecidableEq

def RelV : V → Value → Prop
  | .non, u => u = Value.none
  | .bl b, u => u = Value.bool b
  | .int i, u => ∃ t, u = Value.int i t
  | .str x, u => ∃ t, u = Value.str x t
  | .byt b, u => ∃ t, u = Value.bytes b t
  | .flt b, u => ∃ t, u = Value.float b t
  | .ref a, u => u = Value.ref a
  | .ty n, u => u = Value.type n

abbrev Vals : List V → List Value → Prop := Paired RelV
theorem Vals.length {xs : List V} {us : List Value} (r : Vals xs us) : xs.length = us.length := Paired.length r
theorem Vals.get : ∀ {xs : List V} {us : List Value} {i : Nat} {x : V}, Vals xs us → xs[i]? = some x → ∃ u, us[i]? = some u ∧ RelV x u
  | _, _, _, _, .nil, e => by simp at e
  | _, _, 0, _, .cons r _, e => by simp at e; subst e; exact ⟨_, rfl, r⟩
  | _, _, i + 1, x, .cons _ t, e => by
    obtain ⟨u, h1, h2⟩ := Vals.get (i := i) (x := x) t (by simpa using e)
    exact ⟨u, by simpa using h1, h2⟩
theorem Vals.set {x : V} {u : Value} (r : RelV x u) : ∀ {xs : List V} {us : List Value} (i : Nat), Vals xs us → Vals (xs.set i x) (us.set i u)
  | _, _, _, .nil => .nil
  | _, _, 0, .cons _ t => .cons r t
  | _, _, i + 1, .cons q t => .cons q (Vals.set r i t)
theorem Vals.append : ∀ {xs ys : List V} {us ws : List Value}, Vals xs us → Vals ys ws → Vals (xs ++ ys) (us ++ ws)
  | _, _, _, _, .nil, s => s
  | _, _, _, _, .cons r t, s => .cons r (Vals.append t s)
theorem Vals.take : ∀ {xs : List V} {us : List Value} (n : Nat), Vals xs us → Vals (xs.take n) (us.take n)
  | _, _, 0, _ => .nil
  | _, _, _ + 1, .nil => .nil
  | _, _, n + 1, .cons r t => .cons r (Vals.take n t)
theorem Vals.drop : ∀ {xs : List V} {us : List Value} (n : Nat), Vals xs us → Vals (xs.drop n) (us.drop n)
  | _, _, 0, r => r
  | _, _, _ + 1, .nil => .nil
  | _, _, n + 1, .cons _ t => Vals.drop n t
theorem Vals.none_of : ∀ {xs : List V} {us : List Value} {i : Nat}, Vals xs us → xs[i]? = none → us[i]? = none := fun {xs us i} r e => by
  have h1 := r.length
  have h2 : xs.length ≤ i := List.getElem?_eq_none_iff.mp e
  exact List.getElem?_eq_none_iff.mpr (by omega)

def RelO : Option V → Option Value → Prop
  | some v, some u => RelV v u
  | none, none => True
  | _, _ => False
def KV {κ : Type} : List (κ × V) → List (κ × Value) → Prop := Paired fun (p : κ × V) (q : κ × Value) => p.1 = q.1 ∧ RelV p.2 q.2

/-- a key of a dict (00_mix): an int or a text -/
def kV : Key → V
  | .inl i => .int i
  | .inr x => .str x

/-- what stands at a tracked address -/
inductive HO where
  /-- a list -/
  | lst (xs : List V)
  /-- a tuple (never changes) -/
  | tup (xs : List V)
  /-- a dict whose keys are ints and texts; one whose keys are tuples of ints and texts (the empty one is both) -/
  | dK (kvs : List (Key × V)) | dT (kvs : List (List Key × V))
  /-- a set of ints: its members, its size -/
  | set (S : Int → Bool) (n : Nat)
  /-- an instance of the class at C, its dict at dx, its attributes -/
  | ins (C dx : Addr) (fs : List (Str × V))
  /-- the dict of the instance at x -/
  | own (x : Addr)
  /-- the dict of an exception -/
  | xd (fs : List (Str × V))
  /-- a bound method, f of x -/
  | met (f x : Addr)
  /-- a range object lo, lo + 1, .. below hi -/
  | rng (lo hi : Int)
  /-- a thing that is known to the object (the script; a dict while a loop walks it): read, never written while it is so -/
  | frz (o : Obj) (u : HO)
  /-- a code object's table -/
  | tbl (ps : Array Value)
  /-- any other thing, by what is true of its one object (a def of one's own: SetO a S n := HO.ext fun h => ..) -/
  | ext (φ : Heap → Prop)

abbrev Hp := Addr → Option HO
def upd (H : Hp) (a : Addr) (o : HO) : Hp := fun b => if b = a then some o else H b
theorem upd_same {H : Hp} {a : Addr} {o : HO} : upd H a o a = some o := by unfold upd; rw [if_pos rfl]
theorem upd_ne {H : Hp} {a b : Addr} {o : HO} (h : b ≠ a) : upd H a o b = H b := by unfold upd; rw [if_neg h]
theorem upd_upd {H : Hp} {a : Addr} {o u : HO} : upd (upd H a o) a u = upd H a u := by
  funext b; unfold upd; split <;> rfl
/-- two objects of different content stand apart -/
theorem ne_of {H : Hp} {a b : Addr} {o u : HO} (h : H a = some o) (h' : H b = some u) (d : o ≠ u) : a ≠ b := by
  intro e; subst e; rw [h] at h'; exact d (Option.some.inj h')
theorem ne_of_none {H : Hp} {a b : Addr} {o : HO} (h : H a = some o) (h' : H b = none) : a ≠ b := by
  intro e; subst e; rw [h] at h'; cases h'

section
variable (P : Program) (w : World)
def ObjOk (H : Hp) (h : Heap) (a : Addr) : HO → Prop
  | .lst xs => xs.length ≤ sizeLine ∧ ∃ (its : List Value) (n : Nat), Vals xs its ∧ h.get? a = some { cls := .type "list", data := .seq its.toArray n }
  | .tup xs => xs.length ≤ sizeLine ∧ ∃ its : List Value, Vals xs its ∧ IsTup h a its.toArray
  | .dK kvs => kvs.length ≤ sizeLine ∧ (a == sysModules) = false ∧ ∃ vs, KV kvs vs ∧ h.DictOf (mixKind P w) a vs
  | .dT kvs => kvs.length ≤ sizeLine ∧ (a == sysModules) = false ∧ ∃ xs : List (List Key × Addr × Value),
      Paired (fun (p : List Key × V) (q : List Key × Addr × Value) => p.1 = q.1 ∧ H q.2.1 = some (.tup (p.1.map kV)) ∧ RelV p.2 q.2.2) kvs xs ∧
      ∃ o es ep, h.get? a = some o ∧ o.ExactDict ∧ o.data = .dict es ep ∧ es.toList = xs.map (entryOfKey (tupleKind (mixKind P w))) ∧ (xs.map (·.1)).Nodup
  | .set S n => h.SetOf (intKind P w) a S n
  | .ins C dx fs => H dx = some (.own a) ∧ fs.length ≤ 1000 ∧ dx ≠ a ∧ h.get? a = some (PySem.W.instObj C dx) ∧
      ∃ mA, h.Ns1 dx mA ∧ (∀ f, RelO (fs.lookup f) (mA f)) ∧ PySem.Within mA (fs.map (·.1))
  | .own _ => ∃ o, h.get? a = some o
  | .xd fs => ∃ mA, h.Ns1 a mA ∧ ∀ f, RelO (fs.lookup f) (mA f)
  | .rng lo hi => ∃ t u v, h.get? a = some { cls := .type "range", data := .fields #[.int lo t, .int hi u, .int 1 v] }
  | .frz o u => h.get? a = some o ∧ ObjOk H h a u
  | .tbl ps => h.get? a = some { cls := .none, data := .fields ps }
  | .met f x => h.get? a = some (PySem.W.methodObj (.ref f) (.ref x))
  | .ext φ => φ h ∧ (∃ o, h.get? a = some o) ∧ ∀ h1 h2 : Heap, φ h1 → (∀ o, h1.get? a = some o → h2.get? a = some o) → φ h2
/-- the abstract heap is held -/
def HOk (H : Hp) (h : Heap) : Prop := ∀ a o, H a = some o → ObjOk P w H h a o
end

section
variable {P : Program} {w : World} {H H' : Hp} {h h' : Heap} {a : Addr} {o : HO}
theorem ObjOk.lt (x : ObjOk P w H h a o) : a < h.objs.size := by
  cases o with
  | lst xs => obtain ⟨_, _, _, _, e⟩ := x; exact Heap.lt_size e
  | tup xs => obtain ⟨_, _, _, p⟩ := x; exact p.lt
  | dK kvs => obtain ⟨_, _, _, _, o, _, _, e, _⟩ := x; exact Heap.lt_size e
  | dT kvs => obtain ⟨_, _, _, _, o, _, _, e, _⟩ := x; exact Heap.lt_size e
  | set S n => obtain ⟨o, _, _, _, e, _⟩ := x; exact Heap.lt_size e
  | ins C dx fs => obtain ⟨_, _, _, e, _⟩ := x; exact Heap.lt_size e
  | own y => obtain ⟨_, e⟩ := x; exact Heap.lt_size e
  | xd fs => obtain ⟨_, ⟨_, _, _, e, _⟩, _⟩ := x; exact Heap.lt_size e
  | rng lo hi => obtain ⟨_, _, _, e⟩ := x; exact Heap.lt_size e
  | frz ob u => obtain ⟨e, _⟩ := x; exact Heap.lt_size e
  | tbl ps => exact Heap.lt_size (show h.get? a = some _ from x)
  | met f y => exact Heap.lt_size (show h.get? a = some _ from x)
  | ext φ => obtain ⟨_, ⟨_, e⟩, _⟩ := x; exact Heap.lt_size e
theorem Paired.mapP {α β : Type} {F G : α → β → Prop} : ∀ {l₁ : List α} {l₂ : List β}, Paired F l₁ l₂ → (∀ a b, F a b → G a b) → Paired G l₁ l₂
  | _, _, .nil, _ => .nil
  | _, _, .cons r t, f => .cons (f _ _ r) (Paired.mapP t f)
/-- what an object's description leans on: its own object, its own dict, the tuples -/
theorem ObjOk.stay (x : ObjOk P w H h a o) (k : ∀ b u, (b = a ∨ H b = some (.own a)) → h.get? b = some u → h'.get? b = some u)
    (ho : ∀ b, H b = some (.own a) → H' b = some (.own a)) (ht : ∀ b xs, H b = some (.tup xs) → H' b = some (.tup xs)) : ObjOk P w H' h' a o := by
  induction o with
  | lst xs => obtain ⟨z, its, n, r, e⟩ := x; exact ⟨z, its, n, r, k _ _ (.inl rfl) e⟩
  | tup xs => obtain ⟨z, its, r, ob, e, c⟩ := x; exact ⟨z, its, r, ob, k _ _ (.inl rfl) e, c⟩
  | dK kvs => obtain ⟨z, y, vs, r, ob, es, ep, e, c⟩ := x; exact ⟨z, y, vs, r, ob, es, ep, k _ _ (.inl rfl) e, c⟩
  | dT kvs =>
    obtain ⟨z, y, xs, r, ob, es, ep, e, c⟩ := x
    exact ⟨z, y, xs, Paired.mapP r fun p q z => ⟨z.1, ht _ _ z.2.1, z.2.2⟩, ob, es, ep, k _ _ (.inl rfl) e, c⟩
  | set S n => obtain ⟨ob, es, ep, t, e, c⟩ := x; exact ⟨ob, es, ep, t, k _ _ (.inl rfl) e, c⟩
  | ins C dx fs =>
    obtain ⟨d, z, ne, e, mA, ⟨od, es, ep, e2, c⟩, r⟩ := x
    exact ⟨ho _ d, z, ne, k _ _ (.inl rfl) e, mA, ⟨od, es, ep, k _ _ (.inr d) e2, c⟩, r⟩
  | own y => obtain ⟨ob, e⟩ := x; exact ⟨ob, k _ _ (.inl rfl) e⟩
  | xd fs => obtain ⟨mA, ⟨od, es, ep, e, c⟩, r⟩ := x; exact ⟨mA, ⟨od, es, ep, k _ _ (.inl rfl) e, c⟩, r⟩
  | rng lo hi => obtain ⟨t, u, v, e⟩ := x; exact ⟨t, u, v, k _ _ (.inl rfl) e⟩
  | frz ob u ih => obtain ⟨e, q⟩ := x; exact ⟨k _ _ (.inl rfl) e, ih q⟩
  | tbl ps =>
    have e : h.get? a = some { cls := .none, data := .fields ps } := x
    show h'.get? a = some { cls := .none, data := .fields ps }
    exact k a _ (.inl rfl) e
  | met f y =>
    have e : h.get? a = some (PySem.W.methodObj (.ref f) (.ref y)) := x
    show h'.get? a = some (PySem.W.methodObj (.ref f) (.ref y))
    exact k a _ (.inl rfl) e
  | ext φ => obtain ⟨p, ⟨o, e⟩, st⟩ := x; exact ⟨st _ _ p fun o q => k _ _ (.inl rfl) q, ⟨o, k _ _ (.inl rfl) e⟩, st⟩
theorem HOk.lt (x : HOk P w H h) (e : H a = some o) : a < h.objs.size := (x a o e).lt
theorem HOk.fresh (x : HOk P w H h) (e : h.objs.size ≤ a) : H a = none := by
  cases q : H a with
  | none => rfl
  | some u => exact absurd (Nat.lt_of_lt_of_le (x.lt q) e) (Nat.lt_irrefl _)
/-- every object of the heap is kept -/
theorem HOk.kept (x : HOk P w H h) (k : ∀ b u, h.get? b = some u → h'.get? b = some u) : HOk P w H h' := fun a o e =>
  (x a o e).stay (fun b u _ q => k b u q) (fun _ q => q) fun _ _ q => q
/-- a new object is laid and tracked -/
theorem HOk.laid (x : HOk P w H h) (k : ∀ b u, h.get? b = some u → h'.get? b = some u) (hp : h.objs.size ≤ a) (new : ObjOk P w (upd H a o) h' a o) : HOk P w (upd H a o) h' := fun b u e => by
  have hn := x.fresh hp
  by_cases hb : b = a
  · subst hb; rw [upd_same] at e; cases e; exact new
  · rw [upd_ne hb] at e
    exact (x b u e).stay (fun c v _ q => k c v q) (fun c q => by rw [upd_ne (ne_of_none q hn)]; exact q) fun c xs q => by rw [upd_ne (ne_of_none q hn)]; exact q
end

/-- what may be read as u: it is u, or a known u -/
def Rd (H : Hp) (a : Addr) (u : HO) : Prop := H a = some u ∨ ∃ o, H a = some (.frz o u)
theorem Rd.of {H : Hp} {a : Addr} {u : HO} (h : H a = some u) : Rd H a u := .inl h
theorem Rd.ok {P : Program} {w : World} {H : Hp} {h : Heap} {a : Addr} {u : HO} (r : Rd H a u) (x : HOk P w H h) : ObjOk P w H h a u := by
  rcases r with r | ⟨o, r⟩
  · exact x a u r
  · obtain ⟨_, q⟩ := x a _ r
    exact q
/-- what may be written -/
def Mut : Option HO → Prop
  | some (.lst _) => True
  | some (.dK _) => True
  | some (.dT _) => True
  | some (.set _ _) => True
  | some (.ins _ _ _) => True
  | some (.ext _) => True
  | _ => False
section
variable {P : Program} {w : World} {H : Hp} {h h' : Heap} {x e : Addr} {o' : HO}
/-- the object at e is changed: x itself, or the dict of the instance x -/
theorem HOk.write (ok : HOk P w H h) (mu : Mut (H x)) (he : e = x ∨ H e = some (.own x)) (k : ∀ b u, b ≠ e → h.get? b = some u → h'.get? b = some u) (heo : ∃ u, h'.get? e = some u)
    (new : ObjOk P w (upd H x o') h' x o') : HOk P w (upd H x o') h' := fun b u q => by
  have nown : ∀ c y, H c = some (.own y) → c ≠ x := fun c y r z => by subst z; rw [r] at mu; exact mu
  have ntup : ∀ c xs, H c = some (.tup xs) → c ≠ x := fun c xs r z => by subst z; rw [r] at mu; exact mu
  by_cases hb : b = x
  · subst hb; rw [upd_same] at q; cases q; exact new
  · rw [upd_ne hb] at q
    by_cases hbe : b = e
    · have q' : H b = some (.own x) := by
        rcases he with z | z
        · exact absurd (hbe.trans z) hb
        · rw [hbe]; exact z
      rw [q] at q'; cases q'
      obtain ⟨v, hv⟩ := heo
      exact ⟨v, by rw [hbe]; exact hv⟩
    · refine (ok b u q).stay (fun c v hc r => k c v ?_ r) (fun c r => by rw [upd_ne (nown c b r)]; exact r) fun c xs r => by rw [upd_ne (ntup c xs r)]; exact r
      rcases hc with rfl | hc
      · exact hbe
      · rintro rfl
        rcases he with z | z
        · exact nown c b hc z
        · rw [hc] at z; cases z; exact hb rfl
end

structure Un (fs ex : List Addr) (H H' : Hp) (h h' : Heap) : Prop where
  keep : ∀ b o, h.get? b = some o → H b = none → b ∉ fs → b ∉ ex → h'.get? b = some o
  slot : ∀ b o, h.get? b = some o → H b = none → b ∈ fs → b ∉ ex → ∃ sl, h'.get? b = some { o with slots := sl }
  free : ∀ b o, h.get? b = some o → H b = none → b ∉ ex → H' b = none
  there : ∀ b o, h.get? b = some o → b ∉ ex → ∃ o', h'.get? b = some o'
  tups : ∀ b xs, H b = some (.tup xs) → H' b = some (.tup xs)
  frzs : ∀ b o u, H b = some (.frz o u) → H' b = some (.frz o u)
  tbls : ∀ b ps, H b = some (.tbl ps) → ∃ more, H' b = some (.tbl (ps ++ more))
section
variable {fs fs' ex ex' : List Addr} {H H1 H2 : Hp} {h h1 h2 h' : Heap} {a x e : Addr} {o : HO}
theorem Un.any (u : Un fs ex H H1 h h1) {b : Addr} {ob : Obj} (q : h.get? b = some ob) (n : H b = none) (hx : b ∉ ex) : ∃ sl, h1.get? b = some { ob with slots := sl } := by
  by_cases hb : b ∈ fs
  · exact u.slot b ob q n hb hx
  · exact ⟨ob.slots, u.keep b ob q n hb hx⟩
theorem Un.trans (a : Un fs ex H H1 h h1) (b : Un fs ex H1 H2 h1 h2) : Un fs ex H H2 h h2 where
  keep := fun c ob q n hc hx => b.keep c ob (a.keep c ob q n hc hx) (a.free c ob q n hx) hc hx
  slot := fun c ob q n hc hx => by
    obtain ⟨sl, e1⟩ := a.slot c ob q n hc hx
    obtain ⟨sl', e2⟩ := b.slot c _ e1 (a.free c ob q n hx) hc hx
    exact ⟨sl', e2⟩
  free := fun c ob q n hx => by
    obtain ⟨o', e1⟩ := a.there c ob q hx
    exact b.free c o' e1 (a.free c ob q n hx) hx
  there := fun c ob q hx => by
    obtain ⟨o', e1⟩ := a.there c ob q hx
    exact b.there c o' e1 hx
  tups := fun c xs q => b.tups c xs (a.tups c xs q)
  frzs := fun c ob xs q => b.frzs c ob xs (a.frzs c ob xs q)
  tbls := fun c ps q => by
    obtain ⟨m1, e1⟩ := a.tbls c ps q
    obtain ⟨m2, e2⟩ := b.tbls c _ e1
    exact ⟨m1 ++ m2, by rw [e2, Array.append_assoc]⟩
theorem Un.kept (k : ∀ b u, h.get? b = some u → h'.get? b = some u) : Un fs ex H H h h' :=
  ⟨fun b ob q _ _ _ => k b ob q, fun b ob q _ _ _ => ⟨ob.slots, k b ob q⟩, fun _ _ _ n _ => n, fun b ob q _ => ⟨ob, k b ob q⟩, fun _ _ q => q, fun _ _ _ q => q, fun _ ps q => ⟨#[], by rw [q]; simp⟩⟩
theorem Un.refl : Un fs ex H H h h := Un.kept fun _ _ q => q
theorem Un.laid (k : ∀ b u, h.get? b = some u → h'.get? b = some u) (hp : h.objs.size ≤ a) (hn : H a = none) : Un fs ex H (upd H a o) h h' where
  keep := fun b u q _ _ _ => k b u q
  slot := fun b u q _ _ _ => ⟨u.slots, k b u q⟩
  free := fun b u q n _ => by rw [upd_ne (Nat.ne_of_lt (Nat.lt_of_lt_of_le (Heap.lt_size q) hp))]; exact n
  there := fun b u q _ => ⟨u, k b u q⟩
  tups := fun b xs q => by rw [upd_ne (ne_of_none q hn)]; exact q
  frzs := fun b u xs q => by rw [upd_ne (ne_of_none q hn)]; exact q
  tbls := fun b ps q => ⟨#[], by rw [upd_ne (ne_of_none q hn), q]; simp⟩
theorem Un.write (mu : Mut (H x)) (he : e = x ∨ H e = some (.own x)) (k : ∀ b u, b ≠ e → h.get? b = some u → h'.get? b = some u) (heo : ∃ u, h'.get? e = some u) : Un fs ex H (upd H x o) h h' := by
  have hx : ∀ b, H b = none → b ≠ x := fun b n z => by subst z; rw [n] at mu; exact mu
  have hb : ∀ b, H b = none → b ≠ e := fun b n z => by
    subst z
    rcases he with r | r
    · exact hx b n r
    · rw [n] at r; cases r
  have hm : ∀ b u, H b = some u → ¬ Mut (some u) → b ≠ x := fun b u q nm z => by subst z; rw [q] at mu; exact nm mu
  refine ⟨fun b u q n _ _ => k b u (hb b n) q, fun b u q n _ _ => ⟨u.slots, k b u (hb b n) q⟩, fun b u q n _ => by rw [upd_ne (hx b n)]; exact n, fun b u q _ => ?_,
    fun b xs q => by rw [upd_ne (hm b _ q fun z => z)]; exact q, fun b u xs q => by rw [upd_ne (hm b _ q fun z => z)]; exact q, fun b ps q => ⟨#[], by rw [upd_ne (hm b _ q fun z => z), q]; simp⟩⟩
  by_cases hbe : b = e
  · subst hbe; exact heo
  · exact ⟨u, k b u hbe q⟩
theorem Un.mono (u : Un fs ex H H1 h h1) (hs : ∀ b ∈ fs, b ∈ fs') (hx : ∀ b ∈ ex, b ∈ ex') : Un fs' ex' H H1 h h1 :=
  ⟨fun b ob q n hb he => u.keep b ob q n (fun z => hb (hs b z)) fun z => he (hx b z), fun _ _ q n _ he => u.any q n fun z => he (hx _ z), fun b ob q n he => u.free b ob q n fun z => he (hx b z), fun b ob q he => u.there b ob q fun z => he (hx b z), u.tups, u.frzs, u.tbls⟩
end

def trk (h : Heap) (H : Hp) : List Addr := (List.range h.objs.size).filter fun a => (H a).isSome
def hidT (h : Heap) (H : Hp) : Heap := PySem.W.hideAll h (trk h H)
theorem hidT_size (h : Heap) (H : Hp) : (hidT h H).objs.size = h.objs.size := PySem.W.hideAll_size _ _
theorem hidT_get {h : Heap} {H : Hp} {b : Addr} {o : Obj} (e : h.get? b = some o) (n : H b = none) : (hidT h H).get? b = some o :=
  PySem.W.hideAll_get _ e fun hm => by
    have q : (H b).isSome = true := (List.mem_filter.mp hm).2
    rw [n] at q; simp at q
theorem of_hidT {h : Heap} {H : Hp} {b : Addr} {o : Obj} (e : (hidT h H).get? b = some o) : h.get? b = some o ∧ H b = none := by
  have e' : h.get? b = some o := PySem.W.of_hideAll (trk h H) e
  refine ⟨e', ?_⟩
  cases q : H b with
  | none => rfl
  | some x =>
    have hm : b ∈ trk h H := List.mem_filter.mpr ⟨List.mem_range.mpr (Heap.lt_size e'), by simp [q]⟩
    have z : (hidT h H).get? b = none := PySem.W.hideAll_none (trk h H) hm
    rw [z] at e; cases e

def allNews (g h : Heap) (L : Addr) : List (Addr × Obj) := (List.range h.objs.size).filterMap fun a => if a = L ∨ (g.get? a).isSome = true then none else (h.get? a).map fun o => (a, o)
def rest (g h : Heap) (L d : Addr) : List (Addr × Obj) := (allNews g h L).filter fun p => decide (p.1 ≠ d)
end L2

namespace L2
open PySem PySem.Spec PyProof.Rows

/-- the module's facts, over the base: the heap at the law's entry without what is tracked there -/
structure Mod (K : PySem.W.Frag) (mg : Str → Option Value) (base : Heap) : Prop where
  kin : K.In base
  glob : base.Ns mainGlobals mg
  blt : ∃ mb, base.Ns builtinsNs mb ∧ ∀ x : Str, x ≠ "__name__" → mb x = bootBuiltins x
  nolimit : base.NoLimit

/-- the context: a def's body (or a comprehension's block) running. base: fixed through the whole law; s₀, H₀: the entry; outer: the frames whose slots others may change (a def's callers); stack: all frames that run;
   ex: iterators that were made ahead of the entry and are walked here (a comprehension's); fn: the names whose cells were made at the entry (a def: all; a comprehension's block: its own); calm: not within an except suite; pn: pins that every state bears; xe: what is wanted of an exception that leaves the code -/
structure Cx where
  prog : Program
  w : World
  K : PySem.W.Frag
  mg : Str → Option Value
  base : Heap
  A : Around
  N : List Str
  s₀ : Shared
  H₀ : Hp
  env : Env
  outer : List Env
  stack : List Env
  ex : List Addr
  fn : Str → Bool
  calm : Bool
  pn : List (Addr × Obj)
  xe : Value → Shared → Prop
/-- the callers' frames -/
def frs (l : List Env) : List Addr := l.filterMap (·.frame)
abbrev Cx.fs (X : Cx) : List Addr := frs X.outer

def Vis (sc : Scope) (x : Str) : Prop := sc.names.lookup x = some .local ∨ sc.names.lookup x = some .cell ∨ sc.names.lookup x = some .free
def Loc (sc : Scope) (x : Str) : Prop := sc.names.lookup x = some .local ∨ sc.names.lookup x = some .cell
def Look (env : Env) (h : Heap) (m : Str → Option Value) (x : Str) (u : Value) : Prop :=
  (env.kindOf x = some .local ∧ m x = some u) ∨ ((env.kindOf x = some .cell ∨ env.kindOf x = some .free) ∧ ∃ c, env.cells.lookup x = some c ∧ h.IsCell c (some u))

structure Cx.Ok (X : Cx) : Prop where
  mod : Mod X.K X.mg X.base
  kind : X.env.scope.kind = .function
  glob : X.env.globals = mainGlobals
  blt : X.env.builtins = builtinsNs
  above : X.s₀.heap.objs.size ≤ X.env.locals
  inj : ∀ x y c, X.env.cells.lookup x = some c → X.env.cells.lookup y = some c → x = y
  has : ∀ x, (X.env.kindOf x = some .cell ∨ X.env.kindOf x = some .free) → ∃ c, X.env.cells.lookup x = some c
  cab : ∀ x c, X.fn x = true → X.env.cells.lookup x = some c → X.s₀.heap.objs.size ≤ c
  hd : X.calm = true → X.A.handled = none
  frames : X.A.frames = some X.stack
  stk : X.stack = X.outer ∨ (X.stack = X.env :: X.outer ∧ X.env.frame = some X.env.locals)
  exf : ∀ b ∈ X.ex, b ≠ X.env.locals ∧ ∀ x c, X.env.cells.lookup x = some c → c ≠ b
  bs : ∀ b o, X.base.get? b = some o → X.s₀.heap.get? b = some o ∧ X.H₀ b = none
  bsz : X.base.objs.size ≤ X.s₀.heap.objs.size
  noex : ∀ b o, X.base.get? b = some o → b ∉ X.ex
  exfs : ∀ b ∈ X.ex, b ∉ X.fs
  funs : X.s₀.heap.FunFrames X.base X.outer
  frf : ∀ b ∈ X.fs, X.H₀ b = none

structure Inv (X : Cx) (pins : List (Addr × Obj)) (σ : List (Option V)) (H : Hp) (s : Shared) : Prop where
  ok : X.Ok
  os : s.os = X.s₀.os
  bare : AllBare s.gens
  base : Un X.fs X.ex X.H₀ H X.s₀.heap s.heap
  loc : ∃ m, s.heap.Ns X.env.locals m ∧ ∀ (i : Nat) (x : Str) (v : V), X.N[i]? = some x → σ[i]? = some (some v) → Vis X.env.scope x → ∃ u, RelV v u ∧ Look X.env s.heap m x u
  cell : ∀ x c, X.env.cells.lookup x = some c → ∃ v, s.heap.IsCell c v
  free : H X.env.locals = none
  freeC : ∀ x c, X.env.cells.lookup x = some c → H c = none
  pin : ∀ p ∈ X.pn ++ pins, s.heap.get? p.1 = some p.2 ∧ H p.1 = none ∧ p.1 ≠ X.env.locals ∧ p.1 ∉ X.fs ∧ ∀ v, p.2.data ≠ .cell v
  hok : HOk X.prog X.w H s.heap
  len : σ.length = X.N.length

section
variable {X : Cx} {pins : List (Addr × Obj)} {σ : List (Option V)} {H H' : Hp} {s : Shared} {h' : Heap}

theorem Cx.Ok.nofr (ok : X.Ok) {b : Addr} {o : Obj} (e : X.base.get? b = some o) : b ∉ X.fs := fun hb => by
  have := (ok.funs.mem hb).1
  rw [e] at this; cases this
theorem Inv.bs (I : Inv X pins σ H s) : ∀ b o, X.base.get? b = some o → s.heap.get? b = some o ∧ H b = none := fun b o e =>
  ⟨I.base.keep b o (I.ok.bs b o e).1 (I.ok.bs b o e).2 (I.ok.nofr e) (I.ok.noex b o e), I.base.free b o (I.ok.bs b o e).1 (I.ok.bs b o e).2 (I.ok.noex b o e)⟩
theorem Inv.bk (I : Inv X pins σ H s) : ∀ b o, X.base.get? b = some o → s.heap.get? b = some o := fun b o e => (I.bs b o e).1
theorem Inv.mod (I : Inv X pins σ H s) : Mod X.K X.mg X.base := I.ok.mod
theorem Inv.kIn (I : Inv X pins σ H s) : X.K.In s.heap := I.ok.mod.kin.keeps I.bk
theorem Inv.nolimit (I : Inv X pins σ H s) : s.heap.NoLimit := I.ok.mod.nolimit.keeps I.bk
/-- the frame over the base: for OpenK's rules (K.In X.base is I.mod.kin) -/
theorem Inv.fr (I : Inv X pins σ H s) : ∃ m, Fr X.base X.env.locals s.heap m :=
  let ⟨m, hn, _⟩ := I.loc
  ⟨m, hn, I.bk, Nat.le_trans I.ok.bsz I.ok.above⟩
theorem Inv.lt (I : Inv X pins σ H s) : X.env.locals < s.heap.objs.size := let ⟨_, hn, _⟩ := I.loc; hn.lt
theorem Inv.sz (I : Inv X pins σ H s) : X.s₀.heap.objs.size ≤ s.heap.objs.size := Nat.le_trans I.ok.above (Nat.le_of_lt I.lt)
theorem Inv.nofs (I : Inv X pins σ H s) {a : Addr} (h : s.heap.objs.size ≤ a) : a ∉ X.fs := fun hb => by
  obtain ⟨_, o, ho, _⟩ := I.ok.funs.mem hb
  exact absurd (Nat.lt_of_lt_of_le (Heap.lt_size ho) (Nat.le_trans I.sz h)) (Nat.lt_irrefl _)
theorem Inv.cne (I : Inv X pins σ H s) : ∀ x c, X.env.cells.lookup x = some c → c ≠ X.env.locals := fun x c e z => by
  obtain ⟨v, o, ho, hd⟩ := I.cell x c e
  obtain ⟨m, ⟨o', es, ep, ho', hd', _⟩, _⟩ := I.loc
  rw [z, ho'] at ho; cases ho; rw [hd'] at hd; cases hd
theorem Inv.funs (I : Inv X pins σ H s) : s.heap.FunFrames X.base X.outer := by
  have all : ∀ (l : List Env), (∀ b ∈ frs l, b ∈ X.fs) → X.s₀.heap.FunFrames X.base l → s.heap.FunFrames X.base l := by
    intro l
    induction l with
    | nil => intro _ _; trivial
    | cons env r ih =>
      intro hs hl
      obtain ⟨hk, ⟨L, o, hf, hn, ho, hd⟩, hr⟩ := hl
      have hL : L ∈ X.fs := hs L (by unfold frs; rw [List.filterMap_cons, hf]; exact List.mem_cons_self)
      obtain ⟨sl, e⟩ := I.base.slot L o ho (I.ok.frf L hL) hL fun z => I.ok.exfs L z hL
      exact ⟨hk, ⟨L, _, hf, hn, e, hd⟩, ih (fun b hb => hs b (by unfold frs; rw [List.filterMap_cons, hf]; exact List.mem_cons_of_mem _ hb)) hr⟩
  exact all X.outer (fun _ hb => hb) I.ok.funs

/-- the frames that run, for a call -/
theorem Inv.stack (I : Inv X pins σ H s) : s.heap.FunFrames X.base X.stack := by
  rcases I.ok.stk with e | ⟨e, hf⟩
  · rw [e]; exact I.funs
  · rw [e]
    obtain ⟨m, hn, _⟩ := I.loc
    refine .cons (by rw [I.ok.kind]; decide) hf hn ?_ I.funs
    exact Heap.get?_none_of_le (Nat.le_trans I.ok.bsz I.ok.above)
theorem Inv.stkSub (I : Inv X pins σ H s) : ∀ b ∈ frs X.stack, b ∈ X.env.locals :: X.fs := fun b hb => by
  rcases I.ok.stk with e | ⟨e, hf⟩
  · rw [e] at hb; exact List.mem_cons_of_mem _ hb
  · rw [e] at hb
    unfold frs at hb
    rw [List.filterMap_cons, hf] at hb
    exact hb
theorem Inv.stkFree (I : Inv X pins σ H s) : ∀ b ∈ frs X.stack, H b = none := fun b hb => by
  rcases List.mem_cons.mp (I.stkSub b hb) with e | hb
  · rw [e]; exact I.free
  · obtain ⟨_, o, ho, _⟩ := I.ok.funs.mem hb
    exact I.base.free b o ho (I.ok.frf b hb) fun z => I.ok.exfs b z hb

/-- THE STEP: the untracked objects but the frame and the records at ch are kept (the callers' frames up to slots), the frame's map is kept, the new abstract heap is held -/
theorem Inv.step {g' : Array GenState} {t' : Nat} {d' : Drawn} {ch : List Addr} (I : Inv X pins σ H s)
    (hch : ∀ b ∈ ch, (b ∈ X.ex ∨ X.s₀.heap.objs.size ≤ b) ∧ b ≠ X.env.locals ∧ (∀ x c, X.env.cells.lookup x = some c → c ≠ b) ∧ ∀ p ∈ X.pn ++ pins, p.1 ≠ b)
    (keep : ∀ b o, b ≠ X.env.locals → b ∉ X.fs → b ∉ ch → s.heap.get? b = some o → H b = none → h'.get? b = some o)
    (slot : ∀ b o, b ≠ X.env.locals → b ∈ X.fs → b ∉ ch → s.heap.get? b = some o → H b = none → ∃ sl, h'.get? b = some { o with slots := sl }) (free : ∀ b o, b ∉ ch → s.heap.get? b = some o → H b = none → H' b = none)
    (there : ∀ b o, b ∉ ch → s.heap.get? b = some o → ∃ o', h'.get? b = some o')
    (tups : ∀ b xs, H b = some (.tup xs) → H' b = some (.tup xs)) (frzs : ∀ b o u, H b = some (.frz o u) → H' b = some (.frz o u)) (tbls : ∀ b ps, H b = some (.tbl ps) → ∃ more, H' b = some (.tbl (ps ++ more)))
    (ns : ∀ m, s.heap.Ns X.env.locals m → h'.Ns X.env.locals m) (hok : HOk X.prog X.w H' h') (hg : AllBare g') :
    Inv X pins σ H' { s with heap := h', gens := g', drawn := d', toks := t' } := by
  have neL : ∀ b o, X.s₀.heap.get? b = some o → b ≠ X.env.locals := fun b o e => Nat.ne_of_lt (Nat.lt_of_lt_of_le (Heap.lt_size e) I.ok.above)
  have neC : ∀ b o, X.s₀.heap.get? b = some o → b ∉ X.ex → b ∉ ch := fun b o e hx hb => by
    rcases (hch b hb).1 with z | z
    · exact hx z
    · exact absurd (Nat.lt_of_lt_of_le (Heap.lt_size e) z) (Nat.lt_irrefl _)
  have cellK : ∀ x c, X.env.cells.lookup x = some c → ∀ v, s.heap.IsCell c v → h'.IsCell c v := fun x c e v ⟨o, ho, hd⟩ => by
    have nch : c ∉ ch := fun z => (hch c z).2.2.1 x c e rfl
    by_cases hc : c ∈ X.fs
    · obtain ⟨sl, q⟩ := slot c o (I.cne x c e) hc nch ho (I.freeC x c e)
      exact ⟨_, q, hd⟩
    · exact ⟨o, keep c o (I.cne x c e) hc nch ho (I.freeC x c e), hd⟩
  refine ⟨I.ok, I.os, hg, ⟨fun b o e n hb hx => ?_, fun b o e n hb hx => ?_, fun b o e n hx => ?_, fun b o e hx => ?_, fun b xs e => tups b xs (I.base.tups b xs e), fun b o xs e => frzs b o xs (I.base.frzs b o xs e), fun b ps e => ?_⟩, ?_, fun x c e => ?_, ?_, fun x c e => ?_, fun p hp => ?_, hok, I.len⟩
  · exact keep b o (neL b o e) hb (neC b o e hx) (I.base.keep b o e n hb hx) (I.base.free b o e n hx)
  · obtain ⟨sl, e1⟩ := I.base.slot b o e n hb hx
    obtain ⟨sl', e2⟩ := slot b _ (neL b o e) hb (neC b o e hx) e1 (I.base.free b o e n hx)
    exact ⟨sl', e2⟩
  · obtain ⟨o', e1⟩ := I.base.there b o e hx
    exact free b o' (neC b o e hx) e1 (I.base.free b o e n hx)
  · obtain ⟨o', e1⟩ := I.base.there b o e hx
    exact there b o' (neC b o e hx) e1
  · obtain ⟨m1, e1⟩ := I.base.tbls b ps e
    obtain ⟨m2, e2⟩ := tbls b _ e1
    exact ⟨m1 ++ m2, by rw [e2, Array.append_assoc]⟩
  · obtain ⟨m, hn, hl⟩ := I.loc
    refine ⟨m, ns m hn, fun i x v e1 e2 e3 => ?_⟩
    obtain ⟨u, r, l⟩ := hl i x v e1 e2 e3
    refine ⟨u, r, ?_⟩
    rcases l with l | ⟨k, c, e, z⟩
    · exact .inl l
    · exact .inr ⟨k, c, e, cellK x c e _ z⟩
  · obtain ⟨v, z⟩ := I.cell x c e
    exact ⟨v, cellK x c e v z⟩
  · obtain ⟨m, ⟨o, _, _, ho, _⟩, _⟩ := I.loc
    exact free _ o (fun z => (hch _ z).2.1 rfl) ho I.free
  · obtain ⟨v, o, ho, hd⟩ := I.cell x c e
    exact free c o (fun z => (hch c z).2.2.1 x c e rfl) ho (I.freeC x c e)
  · obtain ⟨e, n, ne, nf, d⟩ := I.pin p hp
    have nch : p.1 ∉ ch := fun z => (hch p.1 z).2.2.2 p hp rfl
    exact ⟨keep p.1 p.2 ne nf nch e n, free p.1 p.2 nch e n, ne, nf, d⟩
/-- .. where the frame's own object is kept too -/
theorem Inv.un {t' : Nat} (I : Inv X pins σ H s) (u : Un X.fs [] H H' s.heap h') (hok : HOk X.prog X.w H' h') : Inv X pins σ H' { s with heap := h', toks := t' } := by
  obtain ⟨m, ⟨o, es, ep, ho, r⟩, _⟩ := id I.loc
  obtain ⟨sl, hL⟩ := u.any ho I.free (by simp)
  exact I.step (g' := s.gens) (d' := s.drawn) (ch := []) (fun _ z => nomatch z) (fun b o _ hb _ e n => u.keep b o e n hb (by simp)) (fun b o _ hb _ e n => u.slot b o e n hb (by simp)) (fun b o _ e n => u.free b o e n (by simp)) (fun b o _ e => u.there b o e (by simp)) u.tups u.frzs u.tbls (fun m' hm => by
    obtain ⟨o', es', ep', ho', r'⟩ := hm
    rw [ho] at ho'; cases ho'
    exact ⟨_, es', ep', hL, r'⟩) hok I.bare
/-- behind a call (or a comprehension's block): the slots of this frame may have changed too, the records at ch may have turned -/
theorem Inv.call {g' : Array GenState} {t' : Nat} {d' : Drawn} {ch : List Addr} (I : Inv X pins σ H s) (u : Un (frs X.stack) ch H H' s.heap h') (hok : HOk X.prog X.w H' h') (hg : AllBare g')
    (hch : ∀ b ∈ ch, (b ∈ X.ex ∨ X.s₀.heap.objs.size ≤ b) ∧ b ≠ X.env.locals ∧ (∀ x c, X.env.cells.lookup x = some c → c ≠ b) ∧ ∀ p ∈ X.pn ++ pins, p.1 ≠ b) :
    Inv X pins σ H' { s with heap := h', gens := g', drawn := d', toks := t' } := by
  obtain ⟨m, ⟨o, es, ep, ho, r⟩, _⟩ := id I.loc
  obtain ⟨sl, hL⟩ := u.any ho I.free fun z => (hch _ z).2.1 rfl
  exact I.step (ch := ch) hch (fun b o hL hb hc e n => u.keep b o e n (fun z => (List.mem_cons.mp (I.stkSub b z)).elim hL hb) hc) (fun b o _ _ hc e n => u.any e n hc) (fun b o hc e n => u.free b o e n hc) (fun b o hc e => u.there b o e hc) u.tups u.frzs u.tbls (fun m' hm => by
    obtain ⟨o', es', ep', ho', r'⟩ := hm
    rw [ho] at ho'; cases ho'
    exact ⟨_, es', ep', hL, r'⟩) hok hg
/-- an untracked record of ours (an iterator) has turned -/
theorem Inv.turned {t' : Nat} {it : Addr} (I : Inv X pins σ H s) (k : ∀ b o, b ≠ it → s.heap.get? b = some o → h'.get? b = some o) (hn : H it = none) (hL : it ≠ X.env.locals)
    (h1 : it ∈ X.ex ∨ X.s₀.heap.objs.size ≤ it) (h2 : ∀ x c, X.env.cells.lookup x = some c → c ≠ it) (h3 : ∀ p ∈ X.pn ++ pins, p.1 ≠ it) : Inv X pins σ H { s with heap := h', toks := t' } := by
  have nit : ∀ b u, H b = some u → b ≠ it := fun b u e z => by rw [z, hn] at e; cases e
  refine I.step (g' := s.gens) (d' := s.drawn) (ch := [it]) (fun b hb => ?_) (fun b o _ _ hc e _ => k b o (fun z => hc (by simp [z])) e) (fun b o _ _ hc e _ => ⟨o.slots, k b o (fun z => hc (by simp [z])) e⟩) (fun _ _ _ _ n => n)
    (fun b o hc e => ⟨o, k b o (fun z => hc (by simp [z])) e⟩) (fun _ _ e => e) (fun _ _ _ e => e) (fun b ps e => ⟨#[], by rw [e]; simp⟩) (fun m hm => ?_) (fun b u e => ?_) I.bare
  · have e : b = it := by simpa using hb
    subst e
    exact ⟨h1, hL, h2, h3⟩
  · obtain ⟨o, es, ep, ho, r⟩ := hm
    exact ⟨o, es, ep, k _ o (Ne.symm hL) ho, r⟩
  · refine (I.hok b u e).stay (fun c v hc q => k c v ?_ q) (fun _ q => q) fun _ _ q => q
    rcases hc with z | z
    · rw [z]; exact nit b u e
    · exact nit c _ z
theorem Inv.tok (I : Inv X pins σ H s) (t : Nat) : Inv X pins σ H { s with toks := t } := I.un (h' := s.heap) (t' := t) Un.refl I.hok
/-- all objects kept -/
theorem Inv.kept {t' : Nat} (I : Inv X pins σ H s) (k : ∀ b u, s.heap.get? b = some u → h'.get? b = some u) : Inv X pins σ H { s with heap := h', toks := t' } := I.un (Un.kept k) (I.hok.kept k)
/-- a new object laid and tracked -/
theorem Inv.laid {a : Addr} {o : HO} {t' : Nat} (I : Inv X pins σ H s) (k : ∀ b u, s.heap.get? b = some u → h'.get? b = some u) (hp : s.heap.objs.size ≤ a) (new : ObjOk X.prog X.w (upd H a o) h' a o) :
    Inv X pins σ (upd H a o) { s with heap := h', toks := t' } := I.un (Un.laid k hp (I.hok.fresh hp)) (I.hok.laid k hp new)
/-- an object written -/
theorem Inv.write {x e : Addr} {o : HO} {t' : Nat} (I : Inv X pins σ H s) (mu : Mut (H x)) (he : e = x ∨ H e = some (.own x)) (k : ∀ b u, b ≠ e → s.heap.get? b = some u → h'.get? b = some u) (heo : ∃ u, h'.get? e = some u)
    (new : ObjOk X.prog X.w (upd H x o) h' x o) : Inv X pins σ (upd H x o) { s with heap := h', toks := t' } := I.un (Un.write mu he k heo) (I.hok.write mu he k heo new)
theorem Inv.pins_of {pins' : List (Addr × Obj)} (I : Inv X pins σ H s) (h : ∀ p ∈ pins', s.heap.get? p.1 = some p.2 ∧ H p.1 = none ∧ p.1 ≠ X.env.locals ∧ p.1 ∉ X.fs ∧ ∀ v, p.2.data ≠ .cell v) : Inv X pins' σ H s :=
  ⟨I.ok, I.os, I.bare, I.base, I.loc, I.cell, I.free, I.freeC, fun p hp => (List.mem_append.mp hp).elim (fun z => I.pin p (List.mem_append_left _ z)) (h p), I.hok, I.len⟩

theorem nodup_ix {N : List Str} (hN : N.Nodup) {i j : Nat} {x : Str} (a : N[i]? = some x) (b : N[j]? = some x) : i = j := by
  obtain ⟨h1, e1⟩ := List.getElem?_eq_some_iff.mp a
  obtain ⟨h2, e2⟩ := List.getElem?_eq_some_iff.mp b
  exact (List.getElem_inj hN).mp (e1.trans e2.symm)

/-- a name is stored; what changed -/
theorem store_ok2 {M : Model} {A : Around} {E : Value → Shared → Prop} {i : Nat} {x : Str} {v : V} {u : Value} {Q : Unit → Shared → Prop} (I : Inv X pins σ H s) (hN : X.N.Nodup) (hi : X.N[i]? = some x) (hx : Loc X.env.scope x) (r : RelV v u)
    (h : ∀ s', Inv X pins (σ.set i (some v)) H s' → (∃ a, Heap.SameBut a s.heap s'.heap ∧ (a = X.env.locals ∨ X.env.cells.lookup x = some a)) → Q () s') (hf : X.fn x = true ∨ X.env.scope.names.lookup x = some .local := by first | exact .inl rfl | exact .inr rfl | assumption) : wpAny M A (storeName X.env x u) Q E s := by
  obtain ⟨m, hn, hl⟩ := id I.loc
  have hcls : (X.env.scope.kind == .class || (X.env.scope.kind == .module && X.env.locals != X.env.globals)) = false := by rw [I.ok.kind]; rfl
  have hiσ : i < σ.length := by rw [I.len]; exact (List.getElem?_eq_some_iff.mp hi).1
  have cne := I.cne
  have tracked : ∀ {a : Addr} {h' : Heap}, (∃ o, s.heap.get? a = some o ∧ H a = none) → Heap.SameBut a s.heap h' → HOk X.prog X.w H h' := fun {a h'} ha hs b ob e => by
    obtain ⟨_, _, hfree⟩ := ha
    refine (I.hok b ob e).stay (fun c w' hc q => (hs.2 c ?_).trans q) (fun _ q => q) fun _ _ q => q
    rintro rfl
    rcases hc with rfl | hc
    · rw [hfree] at e; cases e
    · rw [hfree] at hc; cases hc
  rcases hx with hk | hk
  · refine wpAny_storeName_local hk hn (fun h' hn' hs => ?_) hcls
    obtain ⟨oL, _, _, hoL, _⟩ := id hn
    refine h _ ⟨I.ok, I.os, I.bare, ⟨fun b o e n hb hx => ?_, fun b o e n hb hx => ?_, I.base.free, fun b o e hx => ?_, I.base.tups, I.base.frzs, I.base.tbls⟩, ⟨_, hn', fun j y v' e1 e2 e3 => ?_⟩, fun y c e => ?_, I.free, I.freeC, fun p hp => ?_, tracked ⟨oL, hoL, I.free⟩ hs, by simpa using I.len⟩ ⟨_, hs, .inl rfl⟩
    · exact (hs.2 b (Nat.ne_of_lt (Nat.lt_of_lt_of_le (Heap.lt_size e) I.ok.above))).trans (I.base.keep b o e n hb hx)
    · obtain ⟨sl, e1⟩ := I.base.slot b o e n hb hx
      exact ⟨sl, (hs.2 b (Nat.ne_of_lt (Nat.lt_of_lt_of_le (Heap.lt_size e) I.ok.above))).trans e1⟩
    · obtain ⟨o', e1⟩ := I.base.there b o e hx
      exact ⟨o', (hs.2 b (Nat.ne_of_lt (Nat.lt_of_lt_of_le (Heap.lt_size e) I.ok.above))).trans e1⟩
    · by_cases hj : j = i
      · subst hj
        rw [hi] at e1; cases e1
        rw [List.getElem?_set_self hiσ] at e2
        cases e2
        exact ⟨u, r, .inl ⟨hk, by simp⟩⟩
      · rw [List.getElem?_set_ne (Ne.symm hj)] at e2
        obtain ⟨u', r', q⟩ := hl j y v' e1 e2 e3
        refine ⟨u', r', ?_⟩
        rcases q with ⟨k, e⟩ | ⟨k, c, e, z⟩
        · refine .inl ⟨k, ?_⟩
          have : y ≠ x := fun e => hj (nodup_ix hN e1 (e ▸ hi))
          simp [this, e]
        · exact .inr ⟨k, c, e, z.sameBut hs (cne y c e)⟩
    · obtain ⟨w', z⟩ := I.cell y c e
      exact ⟨w', z.sameBut hs (cne y c e)⟩
    · obtain ⟨e, n, ne, nf, d⟩ := I.pin p hp
      exact ⟨(hs.2 p.1 ne).trans e, n, ne, nf, d⟩
  · have hfn : X.fn x = true := by
      rcases hf with z | z
      · exact z
      · rw [z] at hk; cases hk
    obtain ⟨c, hc⟩ := I.ok.has x (.inl hk)
    obtain ⟨w', z⟩ := I.cell x c hc
    refine wpAny_storeName_cell I.ok.kind hk hc z (fun h' hc' hs => ?_)
    obtain ⟨oc, hoc, hocd⟩ := id z
    refine h { s with heap := h' } ⟨I.ok, I.os, I.bare, ⟨fun b o e n hb hx => ?_, fun b o e n hb hx => ?_, I.base.free, fun b o e hx => ?_, I.base.tups, I.base.frzs, I.base.tbls⟩, ⟨m, hn.sameBut hs (Ne.symm (cne x c hc)), fun j y v' e1 e2 e3 => ?_⟩, fun y c' e => ?_, I.free, I.freeC, fun p hp => ?_, tracked ⟨oc, hoc, I.freeC x c hc⟩ hs, by simpa using I.len⟩ ⟨c, hs, .inr hc⟩
    · exact (hs.2 b (Nat.ne_of_lt (Nat.lt_of_lt_of_le (Heap.lt_size e) (I.ok.cab x c hfn hc)))).trans (I.base.keep b o e n hb hx)
    · obtain ⟨sl, e1⟩ := I.base.slot b o e n hb hx
      exact ⟨sl, (hs.2 b (Nat.ne_of_lt (Nat.lt_of_lt_of_le (Heap.lt_size e) (I.ok.cab x c hfn hc)))).trans e1⟩
    · obtain ⟨o', e1⟩ := I.base.there b o e hx
      exact ⟨o', (hs.2 b (Nat.ne_of_lt (Nat.lt_of_lt_of_le (Heap.lt_size e) (I.ok.cab x c hfn hc)))).trans e1⟩
    · by_cases hj : j = i
      · subst hj
        rw [hi] at e1; cases e1
        rw [List.getElem?_set_self hiσ] at e2
        cases e2
        exact ⟨u, r, .inr ⟨.inl hk, c, hc, hc'⟩⟩
      · rw [List.getElem?_set_ne (Ne.symm hj)] at e2
        obtain ⟨u', r', q⟩ := hl j y v' e1 e2 e3
        refine ⟨u', r', ?_⟩
        rcases q with q | ⟨k, c', e, z'⟩
        · exact .inl q
        · refine .inr ⟨k, c', e, z'.sameBut hs ?_⟩
          rintro rfl
          exact hj (nodup_ix hN e1 (I.ok.inj _ _ _ e hc ▸ hi))
    · by_cases hcc : c' = c
      · subst hcc; exact ⟨_, hc'⟩
      · obtain ⟨w2, z2⟩ := I.cell y c' e
        exact ⟨w2, z2.sameBut hs hcc⟩
    · obtain ⟨e, n, ne, nf, d⟩ := I.pin p hp
      refine ⟨(hs.2 p.1 ?_).trans e, n, ne, nf, d⟩
      intro q
      rw [q, hoc] at e
      have q' : oc = p.2 := Option.some.inj e
      exact d w' (by rw [← q']; exact hocd)
theorem store_ok {M : Model} {A : Around} {E : Value → Shared → Prop} {i : Nat} {x : Str} {v : V} {u : Value} {Q : Unit → Shared → Prop} (I : Inv X pins σ H s) (hN : X.N.Nodup) (hi : X.N[i]? = some x) (hx : Loc X.env.scope x) (r : RelV v u)
    (h : ∀ s', Inv X pins (σ.set i (some v)) H s' → Q () s') (hf : X.fn x = true ∨ X.env.scope.names.lookup x = some .local := by first | exact .inl rfl | exact .inr rfl | assumption) : wpAny M A (storeName X.env x u) Q E s :=
  store_ok2 I hN hi hx r (fun s' I' _ => h s' I') hf
/-- behind a call or a block, the state as it is -/
theorem Inv.call' {s' : Shared} {ch : List Addr} (I : Inv X pins σ H s) (ho : s'.os = s.os) (u : Un (frs X.stack) ch H H' s.heap s'.heap) (hok : HOk X.prog X.w H' s'.heap) (hg : AllBare s'.gens)
    (hch : ∀ b ∈ ch, (b ∈ X.ex ∨ X.s₀.heap.objs.size ≤ b) ∧ b ≠ X.env.locals ∧ (∀ x c, X.env.cells.lookup x = some c → c ≠ b) ∧ ∀ p ∈ X.pn ++ pins, p.1 ≠ b) : Inv X pins σ H' s' := by
  obtain ⟨h', g', d', t', o'⟩ := s'
  have e : o' = s.os := ho
  subst e
  exact I.call (g' := g') (t' := t') (d' := d') u hok hg hch
end

/-- an exception: its class, its own dict's address (where it has one), the abstract heap behind it -/
abbrev XK := Value → Option Addr → Hp → Prop
abbrev St := List (Option V)
abbrev VK := V → Hp → Prop
/-- an expression's reading; a test's; an argument list's -/
abbrev TE := St → Hp → VK → Prop
abbrev TT := St → Hp → (Bool → Hp → Prop) → Prop
abbrev TA := St → Hp → (List V → Hp → Prop) → Prop
/-- what is wanted behind a statement -/
structure Ends where
  nx : St → Hp → Prop
  rt : VK
  bk : St → Hp → Prop := fun _ _ => False
  ct : St → Hp → Prop := fun _ _ => False
abbrev TS := Ends → St → Hp → Prop

def EP (X : Cx) (pins : List (Addr × Obj)) (σ : St) (Q : VK) (u : Value) (s' : Shared) : Prop := ∃ v H', Inv X pins σ H' s' ∧ RelV v u ∧ Q v H'
def TP (X : Cx) (pins : List (Addr × Obj)) (σ : St) (Q : Bool → Hp → Prop) (b : Bool) (s' : Shared) : Prop := ∃ H', Inv X pins σ H' s' ∧ Q b H'
def AP (X : Cx) (pins : List (Addr × Obj)) (σ : St) (Q : List V → Hp → Prop) (us : List Value) (s' : Shared) : Prop := ∃ vs H', Inv X pins σ H' s' ∧ Vals vs us ∧ Q vs H'
def SP (X : Cx) (pins : List (Addr × Obj)) (D : Ends) (f : Flow) (s' : Shared) : Prop :=
  match f with
  | .next => ∃ σ' H', Inv X pins σ' H' s' ∧ D.nx σ' H'
  | .brk => ∃ σ' H', Inv X pins σ' H' s' ∧ D.bk σ' H'
  | .cont => ∃ σ' H', Inv X pins σ' H' s' ∧ D.ct σ' H'
  | .ret u => ∃ v σ' H', Inv X pins σ' H' s' ∧ RelV v u ∧ D.rt v H'

def PE (X : Cx) (e : Expr) (t : TE) : Prop :=
  ∀ (pins : List (Addr × Obj)) (s : Shared) (σ : St) (H : Hp) (Q : VK), Inv X pins σ H s → t σ H Q → wpAny (model X.prog X.w) X.A (eval e X.env) (EP X pins σ Q) X.xe s
def PT (X : Cx) (e : Expr) (t : TT) : Prop :=
  ∀ (pins : List (Addr × Obj)) (s : Shared) (σ : St) (H : Hp) (Q : Bool → Hp → Prop), Inv X pins σ H s → t σ H Q → wpAny (model X.prog X.w) X.A (isTrue e X.env (eval e X.env)) (TP X pins σ Q) X.xe s
/-- a test whatever its 'whole' is (and, or) -/
def PW (X : Cx) (e : Expr) (t : TT) : Prop :=
  ∀ (whole : Sem Value) (pins : List (Addr × Obj)) (s : Shared) (σ : St) (H : Hp) (Q : Bool → Hp → Prop), Inv X pins σ H s → t σ H Q → wpAny (model X.prog X.w) X.A (isTrue e X.env whole) (TP X pins σ Q) X.xe s
theorem PW.pt {X : Cx} {e : Expr} {t : TT} (h : PW X e t) : PT X e t := h _
/-- an argument list (no star), from the left -/
def PA (X : Cx) (es : List Expr) (t : TA) : Prop :=
  ∀ (pos : Pos) (pins : List (Addr × Obj)) (s : Shared) (σ : St) (H : Hp) (Q : List V → Hp → Prop), Inv X pins σ H s → t σ H Q → wpAny (model X.prog X.w) X.A (spliced (backTo pos (starEach es X.env))) (AP X pins σ Q) X.xe s
def PS (X : Cx) (st : Stmt) (t : TS) : Prop :=
  ∀ (pins : List (Addr × Obj)) (s : Shared) (σ : St) (H : Hp) (D : Ends), Inv X pins σ H s → t D σ H → wpAny (model X.prog X.w) X.A (exec st X.env) (SP X pins D) X.xe s
def PSs (X : Cx) (st : List Stmt) (t : TS) : Prop :=
  ∀ (pins : List (Addr × Obj)) (s : Shared) (σ : St) (H : Hp) (D : Ends), Inv X pins σ H s → t D σ H → wpAny (model X.prog X.w) X.A (execs st X.env) (SP X pins D) X.xe s
/-- weaken the end -/
theorem thn {α : Type} {t : Sem α} {Q Q' : α → Shared → Prop} {M : Model} {A : Around} {E : Value → Shared → Prop} {s : Shared} (h : wpAny M A t Q E s) (hQ : ∀ a s, Q a s → Q' a s) : wpAny M A t Q' E s := wpAny_mono h hQ fun _ _ x => x
end L2

namespace L2
open PySem PySem.Spec PyProof.Rows
section
variable {X : Cx}

def tVar (i : Nat) : TE := fun σ H Q => ∃ v, σ[i]? = some (some v) ∧ Q v H
def tC (v : V) : TE := fun _ H Q => Q v H
theorem pe_var {i : Nat} {x : Str} {pos : Pos} (hN : X.N[i]? = some x) (hv : Vis X.env.scope x) (hd : (x == ("__debug__" : Str)) = false := by decide) (hcd : (x == ("__classdict__" : Str)) = false := by decide) : PE X (.Name x pos) (tVar i) := by
  intro pins s σ H Q I h
  obtain ⟨v, e, h⟩ := h
  obtain ⟨m, hn, hl⟩ := I.loc
  obtain ⟨u, r, l⟩ := hl i x v hN e hv
  have fin : EP X pins σ Q u s := ⟨v, H, I, r, h⟩
  rcases l with ⟨hk, hm⟩ | ⟨hk, c, hc, hcell⟩
  · exact wpAny_Name (wpAny_loadName_local I.ok.kind hk hn hm fin) hd
  · rcases hk with hk | hk
    · exact wpAny_Name (wpAny_loadName_cell I.ok.kind hk hc hcell fin) hd
    · exact wpAny_Name (wpAny_loadName_free I.ok.kind hk hc hcell fin hcd) hd
theorem pe_int {i j pos} : PE X (.Constant (.int i) j pos) (tC (.int i)) := fun _ _ _ H _ I h => wpAny_Constant_int ⟨.int i, H, I.tok _, ⟨_, rfl⟩, h⟩
theorem pe_bl {b j pos} : PE X (.Constant (.bool b) j pos) (tC (.bl b)) := fun _ _ _ H _ I h => Constant_bool ⟨.bl b, H, I, rfl, h⟩
theorem pe_non {j pos} : PE X (.Constant .none j pos) (tC .non) := fun _ _ _ H _ I h => Constant_none ⟨.non, H, I, rfl, h⟩
theorem pe_str {x j pos} : PE X (.Constant (.str x) j pos) (tC (.str x)) := fun _ _ _ H _ I h => Calls.Constant_str ⟨.str x, H, I.tok _, ⟨_, rfl⟩, h⟩

/-- a global name of the def -/
def Gl (X : Cx) (x : Str) : Prop := X.env.kindOf x = some .globalImplicit
theorem ld_glob {E : Value → Shared → Prop} {pins : List (Addr × Obj)} {s : Shared} {σ : St} {H : Hp} {x : Str} {u : Value} {pos : Pos} {Q : Value → Shared → Prop} (I : Inv X pins σ H s) (hg : Gl X x) (hm : X.mg x = some u) (h : Q u s)
    (hd : (x == ("__debug__" : Str)) = false := by decide) : wpAny (model X.prog X.w) X.A (eval (.Name x pos) X.env) Q E s :=
  Calls.Name_function_global I.ok.kind hg (Calls.loadGlobal_global (by rw [I.ok.glob]; exact I.mod.glob.keeps I.bk) hm h) hd
theorem ld_blt {E : Value → Shared → Prop} {pins : List (Addr × Obj)} {s : Shared} {σ : St} {H : Hp} {x : Str} {u : Value} {pos : Pos} {Q : Value → Shared → Prop} (I : Inv X pins σ H s) (hg : Gl X x) (hm : X.mg x = none) (hv : bootBuiltins x = some u) (h : Q u s)
    (hn : x ≠ "__name__" := by decide) (hd : (x == ("__debug__" : Str)) = false := by decide) : wpAny (model X.prog X.w) X.A (eval (.Name x pos) X.env) Q E s := by
  obtain ⟨mb, h1, h2⟩ := I.mod.blt
  exact Calls.Name_function_global I.ok.kind hg (Calls.loadGlobal_builtin (by rw [I.ok.glob]; exact I.mod.glob.keeps I.bk) hm (by rw [I.ok.blt]; exact h1.keeps I.bk) ((h2 x hn).trans hv) h) hd
/-- a module's constant, a class, a function, as a value -/
theorem pe_glob {x : Str} {v : V} {u : Value} {pos : Pos} (hg : Gl X x) (hm : X.mg x = some u) (r : RelV v u) (hd : (x == ("__debug__" : Str)) = false := by decide) : PE X (.Name x pos) (tC v) :=
  fun _ _ _ H _ I h => ld_glob I hg hm ⟨v, H, I, r, h⟩ hd
theorem pe_bltn {x : Str} {v : V} {u : Value} {pos : Pos} (hg : Gl X x) (hm : X.mg x = none) (hv : bootBuiltins x = some u) (r : RelV v u) (hn : x ≠ "__name__" := by decide) (hd : (x == ("__debug__" : Str)) = false := by decide) : PE X (.Name x pos) (tC v) :=
  fun _ _ _ H _ I h => ld_blt I hg hm hv ⟨v, H, I, r, h⟩ hn hd

variable {a b : Expr} {ta tb : TE} {pos : Pos}
def PC (X : Cx) (op : CmpOp) (a b : Expr) (t : TE) : Prop :=
  ∀ (pins : List (Addr × Obj)) (s : Shared) (σ : St) (H : Hp) (Q : VK), Inv X pins σ H s → t σ H Q →
    wpAny (model X.prog X.w) X.A (eval a X.env) (fun v s₁ => wpAny (model X.prog X.w) X.A (eval b X.env) (fun u s₂ => wpAny (model X.prog X.w) X.A (compareOp op v u) (EP X pins σ Q) X.xe s₂) X.xe s₁) X.xe s
theorem nobehind (b : Expr) {op : CmpOp} (h : op ≠ .In) (h2 : op ≠ .NotIn) : behindInMarks op b = false := by
  have e1 : (op == CmpOp.In) = false := by cases op <;> first | rfl | exact absurd rfl h
  have e2 : (op == CmpOp.NotIn) = false := by cases op <;> first | rfl | exact absurd rfl h2
  cases b <;> simp [behindInMarks, e1, e2]
/-- a comparison as a value, as a test -/
def tB (t : TE) : TT := fun σ H Q => t σ H fun x H1 => ∃ c, x = .bl c ∧ Q c H1
theorem pt_cmp {op : CmpOp} {t : TE} (h : PC X op a b t) (h1 : behindInMarks op b = false := by first | exact nobehind _ (by decide) (by decide) | rfl) : PT X (.Compare a [op] [b] pos) (tB t) := by
  intro pins s σ H Q I hw
  refine wpAny_isTrue_Compare1 (thn (h pins s σ H _ I hw) fun v s1 h1 => thn h1 fun u s2 h2 => thn h2 fun c s3 ⟨x, H1, I1, r1, q1⟩ => ?_) h1
  obtain ⟨d, rfl, q⟩ := q1
  cases r1
  exact wpAny_truthy_bool ⟨H1, I1, q⟩
/-- an expression whose value is a bool, as a test -/
theorem pt_val {e : Expr} {t : TE} (h : PE X e t) (he : ∀ whole, isTrue e X.env whole = (do let v ← whole; standAt e.pos; holding [v] (truthy v)) := by intro _; rfl) : PT X e (tB t) := by
  intro pins s σ H Q I hw
  refine isTrue_plain (thn (h pins s σ H _ I hw) fun v s1 ⟨x, H1, I1, r1, q1⟩ => ?_) (he _)
  obtain ⟨d, rfl, q⟩ := q1
  cases r1
  exact wpAny_truthy_bool ⟨H1, I1, q⟩

variable {tA tB' : TT} {rest : List Expr}
def tAnd (t u : TT) : TT := fun σ H Q => t σ H fun c H1 => if c = true then u σ H1 Q else Q false H1
def tOr (t u : TT) : TT := fun σ H Q => t σ H fun c H1 => if c = true then Q true H1 else u σ H1 Q
def tNot (t : TT) : TT := fun σ H Q => t σ H fun c H1 => Q (!c) H1
theorem pw_and1 (ha : PT X a tA) : PW X (.BoolOp .And [a] pos) tA := by
  intro wh pins s σ H Q I h
  refine isTrue_and (thn (ha pins s σ H Q I h) fun c s1 e => ?_)
  cases c with
  | true => exact isTrue_and_nil e
  | false => exact e
theorem pw_or1 (ha : PT X a tA) : PW X (.BoolOp .Or [a] pos) tA := by
  intro wh pins s σ H Q I h
  refine isTrue_or (thn (ha pins s σ H Q I h) fun c s1 e => ?_)
  cases c with
  | false => exact isTrue_or_nil e
  | true => exact e
theorem pw_and (ha : PT X a tA) (hb : PW X (.BoolOp .And (b :: rest) pos) tB') : PW X (.BoolOp .And (a :: b :: rest) pos) (tAnd tA tB') := by
  intro wh pins s σ H Q I h
  refine isTrue_and (thn (ha pins s σ H _ I h) fun c s1 ⟨H1, I1, q1⟩ => ?_)
  cases c with
  | true => exact hb wh pins s1 σ H1 Q I1 q1
  | false => exact ⟨H1, I1, q1⟩
theorem pw_or (ha : PT X a tA) (hb : PW X (.BoolOp .Or (b :: rest) pos) tB') : PW X (.BoolOp .Or (a :: b :: rest) pos) (tOr tA tB') := by
  intro wh pins s σ H Q I h
  refine isTrue_or (thn (ha pins s σ H _ I h) fun c s1 ⟨H1, I1, q1⟩ => ?_)
  cases c with
  | true => exact ⟨H1, I1, q1⟩
  | false => exact hb wh pins s1 σ H1 Q I1 q1
theorem pt_not (ha : PT X a tA) : PT X (.UnaryOp .Not a pos) (tNot tA) := by
  intro pins s σ H Q I h
  exact isTrue_not (ha pins s σ H (fun c H1 => Q (!c) H1) I h)
/-- .. as values (bools) -/
def tAndV (ta tb : TE) : TE := fun σ H Q => ta σ H fun x H1 => ∃ c, x = .bl c ∧ if c = true then tb σ H1 Q else Q (.bl false) H1
def tOrV (ta tb : TE) : TE := fun σ H Q => ta σ H fun x H1 => ∃ c, x = .bl c ∧ if c = true then Q (.bl true) H1 else tb σ H1 Q
def tNotV (ta : TE) : TE := fun σ H Q => ta σ H fun x H1 => ∃ c, x = .bl c ∧ Q (.bl (!c)) H1
theorem pe_one {op} {t : TE} (h : PE X a t) : PE X (.BoolOp op [a] pos) t := fun pins s σ H Q I hw => BoolOp_one (h pins s σ H Q I hw)
theorem pe_and (ha : PE X a ta) (hb : PE X (.BoolOp .And (b :: rest) pos) tb) : PE X (.BoolOp .And (a :: b :: rest) pos) (tAndV ta tb) := by
  intro pins s σ H Q I h
  refine BoolOp_and (thn (ha pins s σ H _ I h) fun v s1 ⟨x, H1, I1, r1, q1⟩ => ?_)
  obtain ⟨c, rfl, q1⟩ := q1
  cases r1
  refine wpAny_truthy_bool ?_
  cases c with
  | true => exact hb pins s1 σ H1 Q I1 q1
  | false => exact ⟨.bl false, H1, I1, rfl, q1⟩
theorem pe_not (ha : PE X a ta) : PE X (.UnaryOp .Not a pos) (tNotV ta) := by
  intro pins s σ H Q I h
  refine UnaryOp_ (thn (ha pins s σ H _ I h) fun v s1 ⟨x, H1, I1, r1, q1⟩ => ?_)
  obtain ⟨c, rfl, q1⟩ := q1
  cases r1
  exact not_of (wpAny_truthy_bool ⟨.bl (!c), H1, I1, rfl, q1⟩)
/-- a if t else b -/
def tIf (t : TT) (ta tb : TE) : TE := fun σ H Q => t σ H fun c H1 => if c = true then ta σ H1 Q else tb σ H1 Q
end
end L2

namespace L2
open PySem PySem.Spec PyProof.Rows

def SqL (K : PySem.W.Frag) (H : Hp) (a : Addr) (xs : List V) : Prop :=
  Rd H a (.lst xs) ∨
    ∃ (o : Obj) (its : Array Value) (n : Nat), K.lookup a = some o ∧ o.cls = .type "list" ∧ o.dict = none ∧ o.data = .seq its n ∧ its.size ≤ sizeLine ∧ Vals xs its.toList
def SqT (K : PySem.W.Frag) (H : Hp) (a : Addr) (xs : List V) : Prop :=
  Rd H a (.tup xs) ∨
    ∃ (o : Obj) (its : Array Value) (n : Nat), K.lookup a = some o ∧ o.cls = .type "tuple" ∧ o.data = .seq its n ∧ its.size ≤ sizeLine ∧ Vals xs its.toList
def absV : Value → Option V
  | .none => some .non
  | .bool b => some (.bl b)
  | .int i _ => some (.int i)
  | .str x _ => some (.str x)
  | .bytes b _ => some (.byt b)
  | .float b _ => some (.flt b)
  | .ref a => some (.ref a)
  | .type n => some (.ty n)
  | _ => none
theorem RelV.abs {x : V} {u : Value} (r : RelV x u) : absV u = some x := by
  cases x with
  | non => cases r; rfl
  | bl _ => cases r; rfl
  | int _ => obtain ⟨t, rfl⟩ := r; rfl
  | str _ => obtain ⟨t, rfl⟩ := r; rfl
  | byt _ => obtain ⟨t, rfl⟩ := r; rfl
  | flt _ => obtain ⟨t, rfl⟩ := r; rfl
  | ref _ => cases r; rfl
  | ty _ => cases r; rfl
theorem RelV.inj {x y : V} {u : Value} (r : RelV x u) (q : RelV y u) : x = y := Option.some.inj (r.abs.symm.trans q.abs)
theorem Vals.inj : ∀ {xs ys : List V} {us : List Value}, Vals xs us → Vals ys us → xs = ys
  | _, _, _, .nil, .nil => rfl
  | _, _, _, .cons r t, .cons r' t' => by rw [r.inj r', Vals.inj t t']
section
variable {X : Cx} {pins : List (Addr × Obj)} {σ : St} {H : Hp} {s : Shared} {a : Addr} {xs ys : List V}
theorem SqL.of {K : PySem.W.Frag} (h : H a = some (.lst xs)) : SqL K H a xs := .inl (.inl h)
theorem SqT.of {K : PySem.W.Frag} (h : H a = some (.tup xs)) : SqT K H a xs := .inl (.inl h)
theorem Inv.list (I : Inv X pins σ H s) (h : SqL X.K H a xs) : ∃ its : List Value, Vals xs its ∧ PlainL s.heap a its.toArray ∧ xs.length ≤ sizeLine := by
  rcases h with h | ⟨o, its, n, hk, hc, hd, hs, hz, r⟩
  · obtain ⟨z, its, n, r, e⟩ := h.ok I.hok
    exact ⟨its, r, ⟨_, n, e, rfl, rfl, rfl⟩, z⟩
  · refine ⟨its.toList, r, ⟨o, n, I.kIn a o hk, hc, hd, by simpa using hs⟩, ?_⟩
    have e := r.length
    simp only [Array.length_toList] at e
    omega
theorem Inv.tuple (I : Inv X pins σ H s) (h : SqT X.K H a xs) : ∃ its : List Value, Vals xs its ∧ IsTup s.heap a its.toArray ∧ xs.length ≤ sizeLine := by
  rcases h with h | ⟨o, its, n, hk, hc, hs, hz, r⟩
  · obtain ⟨z, its, r, p⟩ := h.ok I.hok
    exact ⟨its, r, p, z⟩
  · refine ⟨its.toList, r, ⟨o, I.kIn a o hk, hc, n, by simpa using hs⟩, ?_⟩
    have e := r.length
    simp only [Array.length_toList] at e
    omega
theorem Inv.list_inj (I : Inv X pins σ H s) (h : SqL X.K H a xs) (h' : SqL X.K H a ys) : xs = ys := by
  obtain ⟨its, r, ⟨o, n, e, _, _, d⟩, _⟩ := I.list h
  obtain ⟨its', r', ⟨o', n', e', _, _, d'⟩, _⟩ := I.list h'
  rw [e] at e'; cases e'
  rw [d] at d'
  injection d' with d1 _
  have : its = its' := by simpa using congrArg Array.toList d1
  subst this
  exact r.inj r'
theorem Inv.tuple_inj (I : Inv X pins σ H s) (h : SqT X.K H a xs) (h' : SqT X.K H a ys) : xs = ys := by
  obtain ⟨its, r, ⟨o, e, _, n, d⟩, _⟩ := I.tuple h
  obtain ⟨its', r', ⟨o', e', _, n', d'⟩, _⟩ := I.tuple h'
  rw [e] at e'; cases e'
  rw [d] at d'
  injection d' with d1 _
  have : its = its' := by simpa using congrArg Array.toList d1
  subst this
  exact r.inj r'
end

abbrev Cx.wish (X : Cx) (E : Value → Shared → Prop) : Cx := { X with xe := E }
/-- no exception leaves -/
abbrev Cx.nox (X : Cx) : Cx := X.wish fun _ _ => False
theorem Cx.Ok.wish {X : Cx} (ok : X.Ok) (E : Value → Shared → Prop) : (X.wish E).Ok :=
  ⟨ok.mod, ok.kind, ok.glob, ok.blt, ok.above, ok.inj, ok.has, ok.cab, ok.hd, ok.frames, ok.stk, ok.exf, ok.bs, ok.bsz, ok.noex, ok.exfs, ok.funs, ok.frf⟩
theorem Cx.Ok.unwish {X : Cx} {E : Value → Shared → Prop} (ok : (X.wish E).Ok) : X.Ok :=
  ⟨ok.mod, ok.kind, ok.glob, ok.blt, ok.above, ok.inj, ok.has, ok.cab, ok.hd, ok.frames, ok.stk, ok.exf, ok.bs, ok.bsz, ok.noex, ok.exfs, ok.funs, ok.frf⟩
section
variable {X : Cx} {pins : List (Addr × Obj)} {σ : St} {H : Hp} {s : Shared} {E : Value → Shared → Prop}
theorem Inv.wish (I : Inv X pins σ H s) (E : Value → Shared → Prop) : Inv (X.wish E) pins σ H s := ⟨I.ok.wish E, I.os, I.bare, I.base, I.loc, I.cell, I.free, I.freeC, I.pin, I.hok, I.len⟩
theorem Inv.unwish (I : Inv (X.wish E) pins σ H s) : Inv X pins σ H s := ⟨I.ok.unwish, I.os, I.bare, I.base, I.loc, I.cell, I.free, I.freeC, I.pin, I.hok, I.len⟩
theorem SP.unwish {D : Ends} {f : Flow} {s' : Shared} (h : SP (X.wish E) pins D f s') : SP X pins D f s' := by
  cases f with
  | next => obtain ⟨σ', H', I, q⟩ := h; exact ⟨σ', H', I.unwish, q⟩
  | brk => obtain ⟨σ', H', I, q⟩ := h; exact ⟨σ', H', I.unwish, q⟩
  | cont => obtain ⟨σ', H', I, q⟩ := h; exact ⟨σ', H', I.unwish, q⟩
  | ret u => obtain ⟨v, σ', H', I, r, q⟩ := h; exact ⟨v, σ', H', I.unwish, r, q⟩
theorem PE.nox {e : Expr} {t : TE} (h : PE X.nox e t) : PE X e t := fun pins s σ H Q I hw =>
  wpAny_mono (h pins s σ H Q (I.wish _) hw) (fun _ _ ⟨v, H', I', r, q⟩ => ⟨v, H', I'.unwish, r, q⟩) fun _ _ z => False.elim z
theorem PT.nox {e : Expr} {t : TT} (h : PT X.nox e t) : PT X e t := fun pins s σ H Q I hw =>
  wpAny_mono (h pins s σ H Q (I.wish _) hw) (fun _ _ ⟨H', I', q⟩ => ⟨H', I'.unwish, q⟩) fun _ _ z => False.elim z
theorem PSs.nox {st : List Stmt} {t : TS} (h : PSs X.nox st t) : PSs X st t := fun pins s σ H D I hw =>
  wpAny_mono (h pins s σ H D (I.wish _) hw) (fun _ _ q => q.unwish) fun _ _ z => False.elim z
end

section
variable {X : Cx} {st : Stmt} {rest : List Stmt} {t u : TS} {e : Expr} {te : TE} {pos : Pos}
def tNext : TS := fun D σ H => D.nx σ H
def tSeq (t u : TS) : TS := fun D σ H => t { D with nx := u D } σ H
theorem pss_nil : PSs X [] tNext := fun _ _ σ H _ I h => wpAny_execs_nil ⟨σ, H, I, h⟩
theorem pss_cons (h1 : PS X st t) (h2 : PSs X rest u) : PSs X (st :: rest) (tSeq t u) := by
  intro pins s σ H D I h
  refine wpAny_execs_cons (thn (h1 pins s σ H { D with nx := u D } I h) fun f s1 q => ?_)
  cases f with
  | next =>
    obtain ⟨σ', H', I', q⟩ := q
    exact h2 pins s1 σ' H' D I' q
  | ret v => exact q
  | brk => exact q
  | cont => exact q
theorem pss_one (h1 : PS X st t) : PSs X [st] t := by
  intro pins s σ H D I h
  refine wpAny_execs_cons (thn (h1 pins s σ H D I h) fun f s1 q => ?_)
  cases f with
  | next => exact wpAny_execs_nil q
  | ret v => exact q
  | brk => exact q
  | cont => exact q
/-- in a def's body nothing is shown -/
theorem Inv.quiet {pins : List (Addr × Obj)} {σ : St} {H : Hp} {s : Shared} (I : Inv X pins σ H s) : interactive X.env = false := by simp [interactive, I.ok.kind]
/-- an expression whose value is dropped -/
def tDrop (te : TE) : TS := fun D σ H => te σ H fun _ H1 => D.nx σ H1
theorem ps_expr (he : PE X e te) (hs : swapsWith e none pos.line X.env = pure false := by rfl) : PS X (.Expr e pos) (tDrop te) := by
  intro pins s σ H D I h
  exact wpAny_Expr_any (thn (he pins s σ H _ I h) fun v s1 ⟨x, H1, I1, r1, q1⟩ => ⟨σ, H1, I1, q1⟩) I.quiet hs
def tRet (te : TE) : TS := fun D σ H => te σ H D.rt
theorem ps_ret (he : PE X e te) : PS X (.Return (some e) pos) (tRet te) := by
  intro pins s σ H D I h
  exact wpAny_Return_some (thn (he pins s σ H _ I h) fun v s1 ⟨x, H1, I1, r1, q1⟩ => ⟨x, σ, H1, I1, r1, q1⟩)
def tRetN : TS := fun D _ H => D.rt .non H
def tIfS (c : TT) (t u : TS) : TS := fun D σ H => c σ H fun b H1 => if b = true then t D σ H1 else u D σ H1
theorem ps_if {c : Expr} {a b : List Stmt} {tc : TT} (hc : PT X c tc) (ha : PSs X a t) (hb : PSs X b u) : PS X (.If c a b pos) (tIfS tc t u) := by
  intro pins s σ H D I h
  refine wpAny_If (thn (hc pins s σ H _ I h) fun d s1 ⟨H1, I1, q1⟩ => ?_)
  cases d with
  | true => exact ha pins s1 σ H1 D I1 q1
  | false => exact hb pins s1 σ H1 D I1 q1
end

abbrev TG := V → St → Hp → (St → Hp → Prop) → Prop
abbrev TGs := List V → St → Hp → (St → Hp → Prop) → Prop
def PG (X : Cx) (target : Expr) (t : TG) : Prop :=
  ∀ (pins : List (Addr × Obj)) (s : Shared) (σ : St) (H : Hp) (v : V) (u : Value) (Q : St → Hp → Prop), Inv X pins σ H s → RelV v u → t v σ H Q →
    wpAny (model X.prog X.w) X.A (assign target X.env u) (fun _ s' => ∃ σ' H', Inv X pins σ' H' s' ∧ Q σ' H') X.xe s
/-- several targets, one after another -/
def PGs (X : Cx) (ts : List Expr) (t : TGs) : Prop :=
  ∀ (pins : List (Addr × Obj)) (s : Shared) (σ : St) (H : Hp) (vs : List V) (us : List Value) (Q : St → Hp → Prop), Inv X pins σ H s → Vals vs us → t vs σ H Q →
    wpAny (model X.prog X.w) X.A (assignInOrder ((assignEach ts X.env).map (·.2)) us) (fun _ s' => ∃ σ' H', Inv X pins σ' H' s' ∧ Q σ' H') X.xe s
/-- o[i] = v, by values -/
abbrev TSet := V → V → V → Hp → (Hp → Prop) → Prop
def PSet (X : Cx) (t : TSet) : Prop :=
  ∀ (pins : List (Addr × Obj)) (s : Shared) (σ : St) (H : Hp) (o i v : V) (ov iv u : Value) (Q : Hp → Prop), Inv X pins σ H s → RelV o ov → RelV i iv → RelV v u → t o i v H Q →
    wpAny (model X.prog X.w) X.A (setItem ov iv u) (fun _ s' => ∃ H', Inv X pins σ H' s' ∧ Q H') X.xe s
section
variable {X : Cx} {pos : Pos}
def gName (i : Nat) : TG := fun v σ H Q => Q (σ.set i (some v)) H
theorem pg_name {i : Nat} {x : Str} (hN : X.N.Nodup) (hi : X.N[i]? = some x) (hx : Loc X.env.scope x) (hf : X.fn x = true ∨ X.env.scope.names.lookup x = some .local := by first | exact .inl rfl | exact .inr rfl | assumption) : PG X (.Name x pos) (gName i) := by
  intro pins s σ H v u Q I r h
  exact wpAny_assign_Name (store_ok I hN hi hx r (fun s' I' => ⟨_, H, I', h⟩) hf)
def gNil : TGs := fun vs σ H Q => vs = [] ∧ Q σ H
def gCons (t : TG) (u : TGs) : TGs := fun vs σ H Q => ∃ v r, vs = v :: r ∧ t v σ H fun σ' H' => u r σ' H' Q
/-- (a, b, ..) = a tuple of that length -/
def gTup (K : PySem.W.Frag) (n : Nat) (t : TGs) : TG := fun v σ H Q => ∃ a xs, v = .ref a ∧ SqT K H a xs ∧ xs.length = n ∧ t xs σ H Q
/-- o[i] = .. -/
def gSub (to ti : TE) (t : TSet) : TG := fun v σ H Q => to σ H fun o H1 => ti σ H1 fun i H2 => t o i v H2 fun H3 => Q σ H3
theorem pg_sub {o i : Expr} {to ti : TE} {t : TSet} (ho : PE X o to) (hi : PE X i ti) (hs : PSet X t)
    (ha : ∀ v, assign (.Subscript o i pos) X.env v = (do
      let ov ← holding [v] (eval o X.env)
      let iv ← holding [v, ov] (eval i X.env)
      standAt pos
      holding [v, ov, iv] (setItem ov iv v)
      release [v, ov, iv] []) := by intro _; rfl) : PG X (.Subscript o i pos) (gSub to ti t) := by
  intro pins s σ H v u Q I r h
  rw [ha]
  refine wpAny_bind (wpAny_holding (thn (ho pins s σ H _ I h) fun ov s1 ⟨x, H1, I1, r1, q1⟩ => ?_))
  refine wpAny_bind (wpAny_holding (thn (hi pins s1 σ H1 _ I1 q1) fun iv s2 ⟨y, H2, I2, r2, q2⟩ => ?_))
  refine wpAny_bind (wpAny_standAt (wpAny_bind (wpAny_holding (thn (hs pins s2 σ H2 x y v ov iv u _ I2 r1 r2 r q2) fun _ s3 ⟨H3, I3, q3⟩ => ?_))))
  exact wpAny_release ⟨σ, H3, I3, q3⟩
/-- target = value -/
def tAsg (te : TE) (g : TG) : TS := fun D σ H => te σ H fun x H1 => g x σ H1 D.nx
theorem ps_asg {tg e : Expr} {te : TE} {g : TG} (he : PE X e te) (hg : PG X tg g) (hs : swapsWithSole [tg] e pos.line X.env = pure false := by rfl) (hw : swappedStores [tg] e X.env = pure none := by rfl)
    (h1 : (assignEach [tg] X.env).map (·.2) = [assign tg X.env] := by rfl) : PS X (.Assign [tg] e pos) (tAsg te g) := by
  intro pins s σ H D I h
  refine wpAny_Assign_stores (thn (he pins s σ H _ I h) fun v s1 ⟨x, H1, I1, r1, q1⟩ => ?_) hs hw
  rw [h1]
  exact thn (hg pins s1 σ H1 x v _ I1 r1 q1) fun _ s2 q => q
/-- name = value -/
theorem ps_set {i : Nat} {x : Str} {e : Expr} {te : TE} {pos' : Pos} (hN : X.N.Nodup) (hi : X.N[i]? = some x) (hx : Loc X.env.scope x) (he : PE X e te) (hs : swapsWith e (some (.Name x pos')) pos.line X.env = pure false := by rfl) (hf : X.fn x = true ∨ X.env.scope.names.lookup x = some .local := by first | exact .inl rfl | exact .inr rfl | assumption) :
    PS X (.Assign [.Name x pos'] e pos) (tAsg te (gName i)) := by
  intro pins s σ H D I h
  refine wpAny_Assign_Name (thn (he pins s σ H _ I h) fun v s1 ⟨y, H1, I1, r1, q1⟩ => ?_) hs
  exact store_ok I1 hN hi hx r1 (fun s2 I2 => ⟨_, H1, I2, q1⟩) hf
end

section
variable {X : Cx} {pos : Pos}
end

/-- at turn i: it yields x (the heap may grow), or it stops -/
structure It where
  go : Nat → Hp → Prop
  yld : Nat → Hp → V → Hp → Prop
  stop : Nat → Hp → Prop
/-- the iterator's own objects may turn: they are not the frame's, not pinned, younger than the entry (or a comprehension's own) -/
def FpOk (X : Cx) (pins : List (Addr × Obj)) (H : Hp) (b : Addr) : Prop :=
  H b = none ∧ b ≠ X.env.locals ∧ b ∉ X.fs ∧ (b ∈ X.ex ∨ X.s₀.heap.objs.size ≤ b) ∧ (∀ x c, X.env.cells.lookup x = some c → c ≠ b) ∧ ∀ p ∈ X.pn ++ pins, p.1 ≠ b
theorem Inv.fpOk {X : Cx} {pins : List (Addr × Obj)} {σ : St} {H H' : Hp} {s : Shared} {b : Addr} (I : Inv X pins σ H s) (hb : s.heap.objs.size ≤ b) (hn : H' b = none) : FpOk X pins H' b := by
  refine ⟨hn, Nat.ne_of_gt (Nat.lt_of_lt_of_le I.lt hb), I.nofs hb, .inr (Nat.le_trans I.sz hb), fun x c e z => ?_, fun p hp z => ?_⟩
  · obtain ⟨v, q⟩ := I.cell x c e
    exact absurd (Nat.lt_of_lt_of_le q.lt (by rw [z]; exact hb)) (Nat.lt_irrefl _)
  · exact absurd (Nat.lt_of_lt_of_le (Heap.lt_size (I.pin p hp).1) (by rw [z]; exact hb)) (Nat.lt_irrefl _)
structure Turn (P : Program) (w : World) (K : PySem.W.Frag) (tg : Expr) (J : It) (fp : List Addr) (it : Addr) (tn : Nat → Heap → Prop) : Prop where
  mem : it ∈ fp
  obj : ∀ i h, tn i h → ∀ b ∈ fp, ∃ o, h.get? b = some o ∧ ∀ v, o.data ≠ .cell v
  keep : ∀ i h h', tn i h → (∀ b ∈ fp, ∀ o, h.get? b = some o → h'.get? b = some o) → tn i h'
  item : ∀ (X : Cx), X.prog = P → X.w = w → X.K = K → X.calm = true → ∀ (i : Nat) (pins : List (Addr × Obj)) (s : Shared) (σ : St) (H : Hp) (E : Value → Shared → Prop), Inv X pins σ H s → (∀ b ∈ fp, FpOk X pins H b) → tn i s.heap → J.go i H →
    wpAny (model P w) X.A (pyNext (.ref it)) (fun r s1 => ∃ u, r = some u ∧
      wpAny (model P w) X.A (letOwnedTupleGo tg (.ref it) u) (fun _ s2 => ∃ x H', Inv X pins σ H' s2 ∧ RelV x u ∧ J.yld i H x H' ∧ tn (i + 1) s2.heap ∧ ∀ b ∈ fp, H' b = none) E s1) E s
  done : ∀ (X : Cx), X.prog = P → X.w = w → X.K = K → X.calm = true → ∀ (i : Nat) (pins : List (Addr × Obj)) (s : Shared) (σ : St) (H : Hp) (E : Value → Shared → Prop), Inv X pins σ H s → (∀ b ∈ fp, FpOk X pins H b) → tn i s.heap → J.stop i H →
    wpAny (model P w) X.A (pyNext (.ref it)) (fun r s1 => r = none ∧ Inv X pins σ H s1) E s
  self : ∀ (A : Around) (i : Nat) (s : Shared) (Q : Value → Shared → Prop) (E : Value → Shared → Prop), tn i s.heap → Q (.ref it) s → wpAny (model P w) A (pyIter (.ref it)) Q E s
abbrev TI := St → Hp → (It → Hp → Prop) → Prop
/-- an iterator has come -/
def PIE (X : Cx) (pins : List (Addr × Obj)) (σ : St) (tg : Expr) (R : It → Hp → Prop) (itv : Value) (s2 : Shared) : Prop :=
  ∃ (it : Addr) (fp : List Addr) (tn : Nat → Heap → Prop) (J : It) (H' : Hp), itv = .ref it ∧ Inv X pins σ H' s2 ∧ Turn X.prog X.w X.K tg J fp it tn ∧ tn 0 s2.heap ∧ (∀ b ∈ fp, FpOk X pins H' b) ∧ R J H'
def PI (X : Cx) (tg iter : Expr) (wi : TI) : Prop :=
  ∀ (pins : List (Addr × Obj)) (s : Shared) (σ : St) (H : Hp) (R : It → Hp → Prop), Inv X pins σ H s → wi σ H R →
    wpAny (model X.prog X.w) X.A (eval iter X.env) (fun v s1 => wpAny (model X.prog X.w) X.A (pyIter v) (PIE X pins σ tg R) X.xe s1) X.xe s

/-- the step ahead of the store is nothing for an iterator that keeps no tuple -/
theorem go_of {M : Model} {A : Around} {E : Value → Shared → Prop} {s : Shared} {tg : Expr} {it : Addr} {u : Value} {o : Obj} {n : String} {vs : Array Value} {Q : Unit → Shared → Prop} (ho : s.heap.get? it = some o) (hc : o.cls = .type n) (hd : o.data = .fields vs)
    (hn : ["enumerate", "zip", "dict_itemiterator", "dict_reverseitemiterator", "odict_iterator", "itertools.zip_longest", "itertools.pairwise"].contains n = false) (hQ : Q () s) : wpAny M A (letOwnedTupleGo tg (.ref it) u) Q E s := by
  unfold letOwnedTupleGo
  cases tg <;> first
    | exact wpAny_pure hQ
    | (cases u <;> first
        | exact wpAny_pure hQ
        | (refine wpAny_bind (wpAny_load ho ?_)
           rw [hc, hd]
           show wpAny M A (if (["enumerate", "zip", "dict_itemiterator", "dict_reverseitemiterator", "odict_iterator", "itertools.zip_longest", "itertools.pairwise"].contains n && vs[0]? == some (rawInt _)) = true then _ else _) Q E s
           rw [if_neg (by intro h; rw [hn, Bool.false_and] at h; cases h)]
           exact wpAny_pure hQ))

/-- the list at a, as it stands at each turn (a loop may append to it) -/
def Itl (K : PySem.W.Frag) (a : Addr) : It :=
  ⟨fun i H => ∃ xs x, SqL K H a xs ∧ xs[i]? = some x, fun i H x H' => H' = H ∧ ∀ xs, SqL K H a xs → xs[i]? = some x, fun i H => ∃ xs, SqL K H a xs ∧ xs.length ≤ i⟩
def Itt (K : PySem.W.Frag) (a : Addr) : It :=
  ⟨fun i H => ∃ xs x, SqT K H a xs ∧ xs[i]? = some x, fun i H x H' => H' = H ∧ ∀ xs, SqT K H a xs → xs[i]? = some x, fun i H => ∃ xs, SqT K H a xs ∧ xs.length ≤ i⟩
/-- lo, lo + 1, .. (n of them) -/
def Itr (lo : Int) (n : Nat) : It := ⟨fun i _ => i < n, fun i H x H' => H' = H ∧ x = .int (lo + i), fun i _ => n ≤ i⟩
theorem turn_list {P : Program} {w : World} {K : PySem.W.Frag} {tg : Expr} (a it : Addr) : Turn P w K tg (Itl K a) [it] it (fun i h => h.IsListIter it a i) where
  mem := by simp
  obj := fun i h st b hb => by
    have e : b = it := by simpa using hb
    subst e
    obtain ⟨o, e, c, d⟩ := st
    exact ⟨o, e, fun v z => by rw [d] at z; cases z⟩
  keep := fun i h h' st k => st.at fun o e => k it (by simp) o e
  item := by
    intro X hP hw hK hc i pins s σ H E I hf st hg
    subst hP hw hK
    obtain ⟨xs, x, hq, hx⟩ := hg
    obtain ⟨its, rv, p, hz⟩ := I.list hq
    obtain ⟨u, hu, ru⟩ := rv.get hx
    obtain ⟨f0, f1, f2, f3, f4, f5⟩ := hf it (by simp)
    refine wpAny_pyNext_list_item st p.isList (x := u) (by simpa using hu) fun h' st' sb => ?_
    have I1 : Inv X pins σ H { s with heap := h' } := I.turned (t' := s.toks) (fun b o hb e => (sb.2 b hb).trans e) f0 f1 f3 f4 f5
    obtain ⟨o, e, c, d⟩ := id st'
    exact ⟨u, rfl, go_of (s := { s with heap := h' }) e c d (by decide) ⟨x, H, I1, ru, ⟨rfl, fun ys hy => by rw [I.list_inj hy hq]; exact hx⟩, st', fun b hb => (hf b hb).1⟩⟩
  done := by
    intro X hP hw hK hc i pins s σ H E I hf st hg
    subst hP hw hK
    obtain ⟨xs, hq, hx⟩ := hg
    obtain ⟨its, rv, p, hz⟩ := I.list hq
    obtain ⟨f0, f1, f2, f3, f4, f5⟩ := hf it (by simp)
    have hl := rv.length
    exact wpAny_pyNext_list_end (I.ok.hd hc) st p.isList (by simp; omega) fun h' eb => ⟨rfl, I.turned (t' := s.toks) (fun b o hb e => eb b o hb e) f0 f1 f3 f4 f5⟩
  self := fun _ _ _ _ _ st h => wpAny_pyIter_listiter st h
theorem turn_range {P : Program} {w : World} {K : PySem.W.Frag} {tg : Expr} (it : Addr) (lo : Int) (n : Nat) : Turn P w K tg (Itr lo n) [it] it (fun i h => IsRangeIter h it (lo + (i : Nat) * 1) ((n : Int) - (i : Nat)) 1) where
  mem := by simp
  obj := fun i h st b hb => by
    have e : b = it := by simpa using hb
    subst e
    exact ⟨_, st, fun v z => by
      have z' : Data.fields _ = Data.cell v := z
      cases z'⟩
  keep := fun i h h' st k => k it (by simp) _ st
  item := by
    intro X hP hw hK hc i pins s σ H E I hf st hg
    subst hP hw hK
    obtain ⟨f0, f1, f2, f3, f4, f5⟩ := hf it (by simp)
    have W := Walks.range (prog := X.prog) (w := X.w) (I.ok.hd hc) it lo 1 n
    refine W.item i s _ _ hg st fun v h' tk hv st' kk => ?_
    obtain ⟨t, rfl⟩ := hv
    have I1 : Inv X pins σ H { s with heap := h', toks := tk } := I.turned (fun b o hb e => kk b o (by simpa using hb) e) f0 f1 f3 f4 f5
    refine ⟨_, rfl, go_of (s := { s with heap := h', toks := tk }) (n := "range_iterator") st' rfl rfl (by decide) ⟨.int (lo + i), H, I1, ⟨t, ?_⟩, ⟨rfl, rfl⟩, st', fun b hb => (hf b hb).1⟩⟩
    rw [Int.mul_one]
  done := by
    intro X hP hw hK hc i pins s σ H E I hf st hg
    subst hP hw hK
    obtain ⟨f0, f1, f2, f3, f4, f5⟩ := hf it (by simp)
    exact wpAny_pyNext_range_end (I.ok.hd hc) st (by have : n ≤ i := hg; omega) fun h' eb => ⟨rfl, I.turned (t' := s.toks) (fun b o hb e => eb b o hb e) f0 f1 f3 f4 f5⟩
  self := fun _ _ _ _ _ st h => wpAny_pyIter_rangeiter st h
end L2

namespace L2
open PySem PySem.Spec PyProof.Rows
section
variable {X : Cx} {tg : Expr}
def iList (K : PySem.W.Frag) (tl : TE) : TI := fun σ H R => tl σ H fun x H1 => ∃ a, x = .ref a ∧ (∃ xs, SqL K H1 a xs) ∧ R (Itl K a) H1
def iTup (K : PySem.W.Frag) (tl : TE) : TI := fun σ H R => tl σ H fun x H1 => ∃ a, x = .ref a ∧ (∃ xs, SqT K H1 a xs) ∧ R (Itt K a) H1
theorem pi_list {l : Expr} {tl : TE} (hl : PE X l tl) : PI X tg l (iList X.K tl) := by
  intro pins s σ H R I h
  refine thn (hl pins s σ H _ I h) fun v s1 ⟨x, H1, I1, r1, q1⟩ => ?_
  obtain ⟨a, e, ⟨xs, hq⟩, q⟩ := q1
  subst e
  cases r1
  obtain ⟨its, rv, p, hz⟩ := I1.list hq
  refine wpAny_pyIter_list p.isList ?_
  refine ⟨s1.heap.objs.size, [s1.heap.objs.size], _, _, H1, rfl, I1.kept (t' := s1.toks) fun b o e => Heap.get?_push_of_some _ e, turn_list a _, ⟨_, Heap.get?_push_size _ rfl, rfl, rfl⟩, fun b hb => ?_, q⟩
  have e : b = s1.heap.objs.size := by simpa using hb
  subst e
  exact I1.fpOk (Nat.le_refl _) (I1.hok.fresh (Nat.le_refl _))
/-- a range object just made, walked -/
theorem range_it {pins : List (Addr × Obj)} {σ : St} {H : Hp} {s : Shared} {R : It → Hp → Prop} {E : Value → Shared → Prop} {lo hi : Int} {t u v : Tok} {tk : Nat} (I : Inv X pins σ H s) (h1 : -(2 ^ 62) ≤ lo) (h2 : lo < 2 ^ 62) (h3 : -(2 ^ 62) ≤ hi) (h4 : hi < 2 ^ 62)
    (q : R (Itr lo (hi - lo).toNat) H) : wpAny (model X.prog X.w) X.A (pyIter (.ref s.heap.objs.size)) (PIE X pins σ tg R) E { s with heap := s.heap.push { cls := .type "range", data := .fields #[.int lo t, .int hi u, .int 1 v] }, toks := tk } := by
  refine wpAny_pyIter_range (IsRange.new ..) (small_one h1 h2 h3 h4) ?_
  have I1 : Inv X pins σ H { s with heap := s.heap.push { cls := .type "range", data := .fields #[.int lo t, .int hi u, .int 1 v] }, toks := tk } := I.kept fun b o e => Heap.get?_push_of_some _ e
  refine ⟨(s.heap.push { cls := .type "range", data := .fields #[.int lo t, .int hi u, .int 1 v] }).objs.size, [(s.heap.push { cls := .type "range", data := .fields #[.int lo t, .int hi u, .int 1 v] }).objs.size], _, _, H, rfl,
    I1.kept (t' := tk) fun b o e => Heap.get?_push_of_some _ e, turn_range _ lo (hi - lo).toNat, ?_, fun b hb => ?_, q⟩
  · have e1 : lo + ((0 : Nat) : Int) * 1 = lo := by simp
    have e2 : (((hi - lo).toNat : Nat) : Int) - ((0 : Nat) : Int) = Builtin.Range.rangeSize lo hi 1 := by rw [rangeSize_one]; split <;> omega
    show IsRangeIter _ _ (lo + ((0 : Nat) : Int) * 1) ((((hi - lo).toNat : Nat) : Int) - ((0 : Nat) : Int)) 1
    rw [e1, e2]
    exact Heap.get?_push_size _ rfl
  · have e : b = (s.heap.push { cls := .type "range", data := .fields #[.int lo t, .int hi u, .int 1 v] }).objs.size := by simpa using hb
    subst e
    exact I1.fpOk (Nat.le_refl _) (I1.hok.fresh (Nat.le_refl _))
def iRng1 (ta : TA) : TI := fun σ H R => ta σ H fun vs H1 => ∃ j : Int, vs = [.int j] ∧ -(2 ^ 62) ≤ j ∧ j < 2 ^ 62 ∧ R (Itr 0 j.toNat) H1
def iRng2 (ta : TA) : TI := fun σ H R => ta σ H fun vs H1 => ∃ i j : Int, vs = [.int i, .int j] ∧ (-(2 ^ 62) ≤ i ∧ i < 2 ^ 62 ∧ -(2 ^ 62) ≤ j ∧ j < 2 ^ 62) ∧ R (Itr i (j - i).toNat) H1
theorem pi_range1 {a : Expr} {ta : TA} {p pos : Pos} (hg : Gl X "range") (hm : X.mg "range" = none) (ha : PA X [a] ta) (hs : starEach [a] X.env = [(false, eval a X.env)] := by rfl) : PI X tg (.Call (.Name "range" p) [a] [] pos) (iRng1 ta) := by
  intro pins s σ H R I h
  refine Call_ (ld_blt I hg hm boot_range (PyProof.Rows.callWith_type1 (thn (ha pos pins s σ H _ I h) fun us s1 ⟨vs, H1, I1, r1, q1⟩ => ?_) hs rfl))
  obtain ⟨j, e, q1, q2, q⟩ := q1
  subst e
  cases r1 with
  | cons r rr =>
    cases rr
    obtain ⟨t, rfl⟩ := r
    exact call_range_1 (range_it I1 (by omega) (by omega) q1 q2 (by simpa using q))
/-- W: the invariant by the turn and a measure; N: what the body is to reach -/
def tFor (wi : TI) (g : TG) (tb : TS) : TS := fun D σ H => wi σ H fun J H1 => ∃ W : Nat → Nat → St → Hp → Prop, (∃ m, W 0 m σ H1) ∧ ∀ i m σ H, W i m σ H →
  (J.stop i H ∧ D.nx σ H) ∨ (J.go i H ∧ ∃ N : St → Hp → Prop, (∀ σ' H', N σ' H' → ∃ m', m' < m ∧ W (i + 1) m' σ' H') ∧ ∀ x H', J.yld i H x H' → g x σ H' fun σ2 H2 => tb { D with nx := N, ct := N, bk := D.nx } σ2 H2)
/-- the records at fp as they stand -/
def pinsAt (fp : List Addr) (h : Heap) : List (Addr × Obj) := fp.filterMap fun b => (h.get? b).map fun o => (b, o)
theorem mem_pinsAt {fp : List Addr} {h : Heap} {b : Addr} {o : Obj} (hb : b ∈ fp) (e : h.get? b = some o) : (b, o) ∈ pinsAt fp h := List.mem_filterMap.mpr ⟨b, hb, by rw [e]; rfl⟩
theorem of_pinsAt {fp : List Addr} {h : Heap} {p : Addr × Obj} (hp : p ∈ pinsAt fp h) : p.1 ∈ fp ∧ h.get? p.1 = some p.2 := by
  obtain ⟨b, hb, e⟩ := List.mem_filterMap.mp hp
  cases q : h.get? b with
  | none => rw [q] at e; cases e
  | some o =>
    rw [q] at e
    have e' : (b, o) = p := Option.some.inj e
    subst e'
    exact ⟨hb, q⟩
theorem Inv.pinned {pins : List (Addr × Obj)} {σ : St} {H : Hp} {s : Shared} {fp : List Addr} (I : Inv X pins σ H s) (hf : ∀ b ∈ fp, FpOk X pins H b) (ho : ∀ b ∈ fp, ∃ o, s.heap.get? b = some o ∧ ∀ v, o.data ≠ .cell v) : Inv X (pins ++ pinsAt fp s.heap) σ H s :=
  I.pins_of fun p hp => (List.mem_append.mp hp).elim (fun z => I.pin p (List.mem_append_right _ z)) fun z => by
    obtain ⟨hb, e⟩ := of_pinsAt z
    obtain ⟨f0, f1, f2, _⟩ := hf p.1 hb
    obtain ⟨o, e', d⟩ := ho p.1 hb
    rw [e] at e'; cases e'
    exact ⟨e, f0, f1, f2, d⟩
theorem Inv.unpinned {pins pl : List (Addr × Obj)} {σ : St} {H : Hp} {s : Shared} (I : Inv X (pins ++ pl) σ H s) : Inv X pins σ H s := I.pins_of fun p hp => I.pin p (List.mem_append_right _ (List.mem_append_left _ hp))
theorem ps_for {iter : Expr} {body : List Stmt} {wi : TI} {g : TG} {tb : TS} {pos : Pos} (hp : PassesOwn (model X.prog X.w) X.A X.env X.xe) (hc : X.calm = true) (hi : PI X tg iter wi) (hg : PG X tg g) (hb : PSs X body tb)
    (hs : ∀ x, foldedSetIterable iter X.env x = pure x := by intro _; rfl) : PS X (.For tg iter body [] pos) (tFor wi g tb) := by
  intro pins s σ H D I h
  refine wpAny_For (thn (hi pins s σ H _ I h) fun v s1 h1 => thn h1 fun itv s2 h2 => ?_) hs
  obtain ⟨it, fp, tn, J, H2, e, I2, T, st2, f2, W, ⟨m0, w0⟩, turn⟩ := h2
  subst e
  -- what stays true of the iterator's objects through the loop
  have stat : ∀ {H' : Hp}, (∀ b ∈ fp, H' b = none) → ∀ b ∈ fp, FpOk X pins H' b := fun hn b hb => ⟨hn b hb, (f2 b hb).2⟩
  refine codeAny_forLoop_any (fun n s' => ∃ i σ' H', Inv X pins σ' H' s' ∧ tn i s'.heap ∧ (∀ b ∈ fp, H' b = none) ∧ W i n σ' H') ?_ m0 ⟨0, σ, H2, I2, st2, fun b hb => (f2 b hb).1, w0⟩
  rintro n s3 ⟨i, σ3, H3, I3, st3, fr3, w3⟩
  rcases turn i n σ3 H3 w3 with ⟨stop, qn⟩ | ⟨go, N, hN, step⟩
  · refine wpAny_passesOwn hp (thn (T.done X rfl rfl rfl hc i pins s3 σ3 H3 X.xe I3 (stat fr3) st3 stop) fun r s4 ⟨hr, I4⟩ => ?_)
    subst hr
    exact wpAny_execs_nil ⟨σ3, H3, I4, qn⟩
  · refine wpAny_passesOwn hp (thn (T.item X rfl rfl rfl hc i pins s3 σ3 H3 X.xe I3 (stat fr3) st3 go) fun r s4 ⟨u, hr, h4⟩ => ?_)
    subst hr
    refine wpAny_passesOwn hp (thn h4 fun _ s5 ⟨x, H5, I5, r5, y5, st5, fr5⟩ => ?_)
    have I5' := I5.pinned (stat fr5) (T.obj _ _ st5)
    refine wpAny_passesOwn hp (thn (hg _ s5 σ3 H5 x u _ I5' r5 (step x H5 y5)) fun _ s6 ⟨σ6, H6, I6, q6⟩ => ?_)
    refine wpAny_passesOwn hp (thn (hb _ s6 σ6 H6 _ I6 q6) fun f s7 q7 => ?_)
    have again : ∀ {σ7 : St} {H7 : Hp}, Inv X (pins ++ pinsAt fp s5.heap) σ7 H7 s7 → N σ7 H7 → ∃ m, m < n ∧ ∃ i σ' H', Inv X pins σ' H' s7 ∧ tn i s7.heap ∧ (∀ b ∈ fp, H' b = none) ∧ W i m σ' H' := fun {σ7 H7} I7 n7 => by
      obtain ⟨m', hm, w7⟩ := hN σ7 H7 n7
      refine ⟨m', hm, i + 1, σ7, H7, I7.unpinned, T.keep _ _ _ st5 fun b hb o e => (I7.pin (b, o) (List.mem_append_right _ (List.mem_append_right _ (mem_pinsAt hb e)))).1, fun b hb => ?_, w7⟩
      obtain ⟨o, e, d⟩ := T.obj _ _ st5 b hb
      exact (I7.pin (b, o) (List.mem_append_right _ (List.mem_append_right _ (mem_pinsAt hb e)))).2.1
    cases f with
    | next => obtain ⟨σ7, H7, I7, n7⟩ := q7; exact again I7 n7
    | cont => obtain ⟨σ7, H7, I7, n7⟩ := q7; exact again I7 n7
    | brk => obtain ⟨σ7, H7, I7, q7⟩ := q7; exact ⟨σ7, H7, I7.unpinned, q7⟩
    | ret v => obtain ⟨x7, σ7, H7, I7, r7, q7⟩ := q7; exact ⟨x7, σ7, H7, I7.unpinned, r7, q7⟩
end

/-- over a list that the body leaves as it is -/
theorem for_list {K : PySem.W.Frag} {a : Addr} {xs : List V} {g : TG} {tb : TS} {D : Ends} {σ : St} {H : Hp} (Pv : Nat → St → Hp → Prop) (h0 : Pv 0 σ H) (hl : ∀ i σ H, i ≤ xs.length → Pv i σ H → SqL K H a xs)
    (hs : ∀ i x σ H, xs[i]? = some x → Pv i σ H → g x σ H fun σ2 H2 => tb { D with nx := Pv (i + 1), ct := Pv (i + 1), bk := D.nx } σ2 H2) (hd : ∀ σ H, Pv xs.length σ H → D.nx σ H) :
    ∃ W : Nat → Nat → St → Hp → Prop, (∃ m, W 0 m σ H) ∧ ∀ i m σ H, W i m σ H →
      ((Itl K a).stop i H ∧ D.nx σ H) ∨ ((Itl K a).go i H ∧ ∃ N : St → Hp → Prop, (∀ σ' H', N σ' H' → ∃ m', m' < m ∧ W (i + 1) m' σ' H') ∧ ∀ x H', (Itl K a).yld i H x H' → g x σ H' fun σ2 H2 => tb { D with nx := N, ct := N, bk := D.nx } σ2 H2) := by
  refine ⟨fun i m σ H => m = xs.length - i ∧ i ≤ xs.length ∧ Pv i σ H, ⟨xs.length, by simp, Nat.zero_le _, h0⟩, ?_⟩
  rintro i m σ H ⟨rfl, hi, p⟩
  have q := hl i σ H hi p
  by_cases hlt : i < xs.length
  · refine .inr ⟨⟨xs, xs[i], q, by simp [hlt]⟩, Pv (i + 1), fun σ' H' p' => ⟨xs.length - (i + 1), by omega, rfl, hlt, p'⟩, fun x H' y => ?_⟩
    obtain ⟨e, y⟩ := y
    subst e
    exact hs i x σ _ (y xs q) p
  · have e : i = xs.length := by omega
    subst e
    exact .inl ⟨⟨xs, q, Nat.le_refl _⟩, hd σ H p⟩
end L2

namespace L2
open PySem PySem.Spec PyProof.Rows

abbrev R2 := V → V → Hp → VK → Prop
/-- a two-place operation on values: f is binaryOp op, inplaceOp op or compareOp op -/
def OpR (X : Cx) (f : Value → Value → Sem Value) (r : R2) : Prop :=
  ∀ (pins : List (Addr × Obj)) (s : Shared) (σ : St) (H : Hp) (x y : V) (v u : Value) (Q : VK), Inv X pins σ H s → RelV x v → RelV y u → r x y H Q →
    wpAny (model X.prog X.w) X.A (f v u) (EP X pins σ Q) X.xe s
/-- a call of a value that is known (a builtin, a type) with values -/
def CallR (X : Cx) (f : Value) (r : List V → Hp → VK → Prop) : Prop :=
  ∀ (pins : List (Addr × Obj)) (s : Shared) (σ : St) (H : Hp) (xs : List V) (us : List Value) (Q : VK), Inv X pins σ H s → Vals xs us → r xs H Q →
    wpAny (model X.prog X.w) X.A (call f us) (EP X pins σ Q) X.xe s
def tOp (r : R2) (ta tb : TE) : TE := fun σ H Q => ta σ H fun x H1 => tb σ H1 fun y H2 => r x y H2 Q
def tUn (r : V → Hp → VK → Prop) (ta : TE) : TE := fun σ H Q => ta σ H fun x H1 => r x H1 Q
/-- ints in, under C, and a value out -/
def rI (C : Int → Int → Prop) (g : Int → Int → V) : R2 := fun x y H Q => ∃ i j, x = .int i ∧ y = .int j ∧ C i j ∧ Q (g i j) H
def rI0 (g : Int → Int → V) : R2 := fun x y H Q => ∃ i j, x = .int i ∧ y = .int j ∧ Q (g i j) H
def rU (g : Int → V) : V → Hp → VK → Prop := fun x H Q => ∃ i, x = .int i ∧ Q (g i) H

section
variable {X : Cx} {a b c : Expr} {ta tb tc : TE} {pos : Pos}

theorem binT (ha : PE X a ta) (hb : PE X b tb) {pins : List (Addr × Obj)} {s : Shared} {σ : St} {H : Hp} {R : V → V → Hp → Prop} (I : Inv X pins σ H s)
    (h : ta σ H fun x H1 => tb σ H1 fun y H2 => R x y H2) {Q : Value → Shared → Prop} {f : Value → Value → Sem Value}
    (hf : ∀ v u s2 x y H2, Inv X pins σ H2 s2 → RelV x v → RelV y u → R x y H2 → wpAny (model X.prog X.w) X.A (f v u) Q X.xe s2) :
    wpAny (model X.prog X.w) X.A (eval a X.env) (fun v s₁ => wpAny (model X.prog X.w) X.A (eval b X.env) (fun u s₂ => wpAny (model X.prog X.w) X.A (f v u) Q X.xe s₂) X.xe s₁) X.xe s := by
  refine thn (ha pins s σ H _ I h) fun v s1 ⟨x, H1, I1, r1, q1⟩ => ?_
  refine thn (hb pins s1 σ H1 _ I1 q1) fun u s2 ⟨y, H2, I2, r2, q2⟩ => ?_
  exact hf v u s2 x y H2 I2 r1 r2 q2

theorem pe_op {op : Operator} {r : R2} (ho : OpR X (binaryOp op) r) (ha : PE X a ta) (hb : PE X b tb) : PE X (.BinOp a op b pos) (tOp r ta tb) := by
  intro pins s σ H Q I h
  exact wpAny_BinOp (binT ha hb I h fun v u s2 x y H2 I2 rx ry q => ho pins s2 σ H2 x y v u Q I2 rx ry q)
theorem opI {f : Value → Value → Sem Value} {C : Int → Int → Prop} {g : Int → Int → Int}
    (rule : ∀ (i j : Int) (t u : Tok) (s : Shared) (Q : Value → Shared → Prop) (E : Value → Shared → Prop), C i j → Q (.int (g i j) s.toks) { s with toks := s.toks + 1 } → wpAny (model X.prog X.w) X.A (f (.int i t) (.int j u)) Q E s) :
    OpR X f (rI C fun i j => .int (g i j)) := by
  intro pins s σ H x y v u Q I rx ry h
  obtain ⟨i, j, rfl, rfl, hc, q⟩ := h
  obtain ⟨t, rfl⟩ := rx
  obtain ⟨t', rfl⟩ := ry
  exact rule i j t t' s _ _ hc ⟨.int (g i j), H, I.tok _, ⟨_, rfl⟩, q⟩
theorem opI0 {f : Value → Value → Sem Value} {g : Int → Int → Int}
    (rule : ∀ (i j : Int) (t u : Tok) (s : Shared) (Q : Value → Shared → Prop) (E : Value → Shared → Prop), Q (.int (g i j) s.toks) { s with toks := s.toks + 1 } → wpAny (model X.prog X.w) X.A (f (.int i t) (.int j u)) Q E s) :
    OpR X f (rI0 fun i j => .int (g i j)) := by
  intro pins s σ H x y v u Q I rx ry h
  obtain ⟨i, j, rfl, rfl, q⟩ := h
  obtain ⟨t, rfl⟩ := rx
  obtain ⟨t', rfl⟩ := ry
  exact rule i j t t' s _ _ ⟨.int (g i j), H, I.tok _, ⟨_, rfl⟩, q⟩
theorem opB0 {f : Value → Value → Sem Value} {g : Int → Int → Bool}
    (rule : ∀ (i j : Int) (t u : Tok) (s : Shared) (Q : Value → Shared → Prop) (E : Value → Shared → Prop), Q (.bool (g i j)) s → wpAny (model X.prog X.w) X.A (f (.int i t) (.int j u)) Q E s) :
    OpR X f (rI0 fun i j => .bl (g i j)) := by
  intro pins s σ H x y v u Q I rx ry h
  obtain ⟨i, j, rfl, rfl, q⟩ := h
  obtain ⟨t, rfl⟩ := rx
  obtain ⟨t', rfl⟩ := ry
  exact rule i j t t' s _ _ ⟨.bl (g i j), H, I, rfl, q⟩

def CDiv (i j : Int) : Prop := 0 < j ∧ j < 1073741824
def CPow (i j : Int) : Prop := 0 ≤ j ∧ j ≤ 1000000 ∧ i.natAbs < 2 ^ 64
def CMul (i j : Int) : Prop := (-(2 ^ 64) < i ∧ i < 2 ^ 64) ∨ (-(2 ^ 64) < j ∧ j < 2 ^ 64)
theorem CMul.ok {i j : Int} (h : CMul i j) : IntMulOk i j := by
  rcases h with ⟨h1, h2⟩ | ⟨h1, h2⟩
  · exact .of_left (intBits_le_64 h1 h2)
  · exact .of_right (intBits_le_64 h1 h2)
theorem op_add : OpR X (binaryOp .Add) (rI0 fun i j => .int (i + j)) := opI0 fun _ _ _ _ _ _ _ q => add_int q
theorem op_sub : OpR X (binaryOp .Sub) (rI0 fun i j => .int (i - j)) := opI0 fun _ _ _ _ _ _ _ q => sub_int q
/-- // by a positive divisor -/
theorem op_fdiv : OpR X (binaryOp .FloorDiv) (rI CDiv fun i j => .int (i / j)) := opI fun i j _ _ _ _ _ hc q => by
  have h1 : (0 : Int) < j := hc.1
  have h2 : j < 1073741824 := hc.2
  exact floordiv_int (by omega) (by rw [Int.fdiv_eq_ediv_of_nonneg i (by omega)]; exact q) (.inl (PyProof.noPylong_small (by omega)))
/-- % by a positive divisor of any size -/
theorem op_mod : OpR X (binaryOp .Mod) (rI (fun _ j => 0 < j) fun i j => .int (i % j)) := opI fun i j _ _ _ _ _ hc q => by
  have h1 : (0 : Int) < j := hc
  exact mod_int' (by omega) (by rw [Int.fmod_eq_emod_of_nonneg i (by omega)]; exact q)
theorem op_pow : OpR X (binaryOp .Pow) (rI CPow fun i j => .int (i ^ j.toNat)) := opI fun _ _ _ _ _ _ _ hc q => pow_int_small hc.1 hc.2.1 hc.2.2 q
end

/-- the scalars that == tells apart as data does -/
def scal : V → V → Bool
  | .non, .non => true | .non, .int _ => true | .int _, .non => true | .non, .bl _ => true | .bl _, .non => true | .non, .str _ => true | .str _, .non => true
  | .int _, .int _ => true | .bl _, .bl _ => true | .str _, .str _ => true | .byt _, .byt _ => true
  | .int _, .str _ => true | .str _, .int _ => true | .bl _, .str _ => true | .str _, .bl _ => true
  | _, _ => false
def rEq : R2 := fun x y H Q => scal x y = true ∧ Q (.bl (decide (x = y))) H
def rNe : R2 := fun x y H Q => scal x y = true ∧ Q (.bl (!decide (x = y))) H

theorem dec_int {i j : Int} : decide (V.int i = V.int j) = (i == j) := by
  rw [Bool.eq_iff_iff]
  simp
theorem dec_bl {i j : Bool} : decide (V.bl i = V.bl j) = (i == j) := by
  rw [Bool.eq_iff_iff]
  simp
theorem dec_str {i j : Str} : decide (V.str i = V.str j) = (i == j) := by
  rw [Bool.eq_iff_iff]
  simp
theorem dec_byt {i j : Array UInt8} : decide (V.byt i = V.byt j) = (i.toList == j.toList) := by
  rw [Bool.eq_iff_iff]
  cases i
  cases j
  simp

section
variable {X : Cx} {a b c : Expr} {ta tb tc : TE} {pos : Pos}
theorem fin_bl {pins : List (Addr × Obj)} {σ : St} {H : Hp} {s : Shared} {Q : VK} {k k' : Bool} (I : Inv X pins σ H s) (q : Q (.bl k) H) (e : k = k') : EP X pins σ Q (.bool k') s := by
  subst e
  exact ⟨.bl k, H, I, rfl, q⟩
theorem op_eq : OpR X (compareOp .Eq) rEq := by
  intro pins s σ H x y v u Q I rx ry h
  obtain ⟨hs, q⟩ := h
  cases x with
  | non =>
    cases rx
    cases y with
    | non => cases ry; exact PySem.EqNone.eq_none_none (fin_bl I q (by simp))
    | bl j => cases ry; exact PySem.EqNone.eq_none_bool (fin_bl I q (by simp))
    | int j => obtain ⟨t', rfl⟩ := ry; exact PySem.EqNone.eq_none_int (fin_bl I q (by simp))
    | str j => obtain ⟨t', rfl⟩ := ry; exact PySem.EqNone.eq_none_str (fin_bl I q (by simp))
    | _ => exact absurd (show false = true from hs) Bool.false_ne_true
  | bl i =>
    cases rx
    cases y with
    | non => cases ry; exact PySem.EqNone.eq_bool_none (fin_bl I q (by simp))
    | bl j => cases ry; exact eq_bool (fin_bl I q dec_bl)
    | str j => obtain ⟨t', rfl⟩ := ry; exact PySem.EqMixed.eq_bool_str (fin_bl I q (by simp))
    | _ => exact absurd (show false = true from hs) Bool.false_ne_true
  | int i =>
    obtain ⟨t, rfl⟩ := rx
    cases y with
    | non => cases ry; exact PySem.EqNone.eq_int_none (fin_bl I q (by simp))
    | int j => obtain ⟨t', rfl⟩ := ry; exact eq_int (fin_bl I q dec_int)
    | str j => obtain ⟨t', rfl⟩ := ry; exact PySem.EqMixed.eq_int_str (fin_bl I q (by simp))
    | _ => exact absurd (show false = true from hs) Bool.false_ne_true
  | str i =>
    obtain ⟨t, rfl⟩ := rx
    cases y with
    | non => cases ry; exact PySem.EqNone.eq_str_none (fin_bl I q (by simp))
    | bl j => cases ry; exact PySem.EqMixed.eq_str_bool (fin_bl I q (by simp))
    | int j => obtain ⟨t', rfl⟩ := ry; exact PySem.EqMixed.eq_str_int (fin_bl I q (by simp))
    | str j => obtain ⟨t', rfl⟩ := ry; exact eq_str (fin_bl I q dec_str)
    | _ => exact absurd (show false = true from hs) Bool.false_ne_true
  | byt i =>
    obtain ⟨t, rfl⟩ := rx
    cases y with
    | byt j => obtain ⟨t', rfl⟩ := ry; exact PySem.W.eq_bytes (fin_bl I q dec_byt)
    | _ => exact absurd (show false = true from hs) Bool.false_ne_true
  | _ => cases y <;> exact absurd (show false = true from hs) Bool.false_ne_true
theorem op_ne : OpR X (compareOp .NotEq) rNe := by
  intro pins s σ H x y v u Q I rx ry h
  obtain ⟨hs, q⟩ := h
  cases x with
  | non =>
    cases rx
    cases y with
    | non => cases ry; exact PySem.EqNone.ne_none_none (fin_bl I q (by simp))
    | bl j => cases ry; exact PySem.EqNone.ne_none_bool (fin_bl I q (by simp))
    | int j => obtain ⟨t', rfl⟩ := ry; exact PySem.EqNone.ne_none_int (fin_bl I q (by simp))
    | str j => obtain ⟨t', rfl⟩ := ry; exact PySem.EqNone.ne_none_str (fin_bl I q (by simp))
    | _ => exact absurd (show false = true from hs) Bool.false_ne_true
  | bl i =>
    cases rx
    cases y with
    | non => cases ry; exact PySem.EqNone.ne_bool_none (fin_bl I q (by simp))
    | bl j => cases ry; exact ne_bool (fin_bl I q (congrArg not dec_bl))
    | str j => obtain ⟨t', rfl⟩ := ry; exact PySem.EqMixed.ne_bool_str (fin_bl I q (by simp))
    | _ => exact absurd (show false = true from hs) Bool.false_ne_true
  | int i =>
    obtain ⟨t, rfl⟩ := rx
    cases y with
    | non => cases ry; exact PySem.EqNone.ne_int_none (fin_bl I q (by simp))
    | int j => obtain ⟨t', rfl⟩ := ry; exact ne_int (fin_bl I q (congrArg not dec_int))
    | str j => obtain ⟨t', rfl⟩ := ry; exact PySem.EqMixed.ne_int_str (fin_bl I q (by simp))
    | _ => exact absurd (show false = true from hs) Bool.false_ne_true
  | str i =>
    obtain ⟨t, rfl⟩ := rx
    cases y with
    | non => cases ry; exact PySem.EqNone.ne_str_none (fin_bl I q (by simp))
    | bl j => cases ry; exact PySem.EqMixed.ne_str_bool (fin_bl I q (by simp))
    | int j => obtain ⟨t', rfl⟩ := ry; exact PySem.EqMixed.ne_str_int (fin_bl I q (by simp))
    | str j => obtain ⟨t', rfl⟩ := ry; exact ne_str (fin_bl I q (congrArg not dec_str))
    | _ => exact absurd (show false = true from hs) Bool.false_ne_true
  | byt i =>
    obtain ⟨t, rfl⟩ := rx
    cases y with
    | byt j => obtain ⟨t', rfl⟩ := ry; exact PySem.W.ne_bytes (fin_bl I q (congrArg not dec_byt))
    | _ => exact absurd (show false = true from hs) Bool.false_ne_true
  | _ => cases y <;> exact absurd (show false = true from hs) Bool.false_ne_true

theorem op_lt : OpR X (compareOp .Lt) (rI0 fun i j => .bl (decide (i < j))) := opB0 fun _ _ _ _ _ _ _ q => lt_int q
theorem op_gt : OpR X (compareOp .Gt) (rI0 fun i j => .bl (decide (j < i))) := opB0 fun _ _ _ _ _ _ _ q => gt_int q
/-- is None, is not None: the right side a value none -/
theorem op_isN : OpR X (compareOp .Is) (fun x y H Q => y = .non ∧ Q (.bl (decide (x = .non))) H) := by
  intro pins s σ H x y v u Q I rx ry h
  obtain ⟨rfl, q⟩ := h
  cases ry
  refine is_none_gen (fin_bl I q ?_)
  cases x <;> first
    | (cases rx; rfl)
    | (obtain ⟨t, rfl⟩ := rx; rfl)
theorem nomark (b : Expr) {op : CmpOp} (h : op ≠ .In := by decide) (h2 : op ≠ .NotIn := by decide) : behindInMarks op b = false := by
  have e1 : (op == CmpOp.In) = false := by cases op <;> first | rfl | exact absurd rfl h
  have e2 : (op == CmpOp.NotIn) = false := by cases op <;> first | rfl | exact absurd rfl h2
  cases b <;> simp [behindInMarks, e1, e2]
/-- a comparison as a value; hm: nomark b, or (for in, not in) by with_unfolding_all rfl -/
theorem pe_cmpR {op : CmpOp} {r : R2} (ho : OpR X (compareOp op) r) (ha : PE X a ta) (hb : PE X b tb) (hm : behindInMarks op b = false) : PE X (.Compare a [op] [b] pos) (tOp r ta tb) := by
  intro pins s σ H Q I h
  exact wpAny_Compare1 (binT ha hb I h fun v u s2 x y H2 I2 rx ry q => ho pins s2 σ H2 x y v u Q I2 rx ry q) hm
/-- a reading of a value as a test -/
def tTest (t : TE) : TT := fun σ H Q => t σ H fun x H' => ∃ k, x = .bl k ∧ Q k H'
theorem pt_cmpR {op : CmpOp} {r : R2} (ho : OpR X (compareOp op) r) (ha : PE X a ta) (hb : PE X b tb) (hm : behindInMarks op b = false) : PT X (.Compare a [op] [b] pos) (tTest (tOp r ta tb)) := by
  intro pins s σ H Q I h
  refine wpAny_isTrue_Compare1 (thn (ha pins s σ H _ I h) fun v s1 ⟨x, H1, I1, r1, q1⟩ => thn (hb pins s1 σ H1 _ I1 q1) fun u s2 ⟨y, H2, I2, r2, q2⟩ =>
    thn (ho pins s2 σ H2 x y v u _ I2 r1 r2 q2) fun c s3 ⟨z, H3, I3, r3, k, e, q3⟩ => ?_) hm
  subst e
  cases r3
  exact wpAny_truthy_bool ⟨H3, I3, q3⟩
/-- a op1 b op2 c -/
def tChain (r r' : R2) (ta tb tc : TE) : TE := fun σ H Q => ta σ H fun x H1 => tb σ H1 fun y H2 => r x y H2 fun z H3 => ∃ k, z = .bl k ∧
  (if k = true then tc σ H3 fun w' H4 => r' y w' H4 Q else Q (.bl false) H3)
theorem line63 : (sizeLine : Nat) < 2 ^ 63 := by rw [sizeLine_eq]; decide
theorem vals1 {x : V} {us : List Value} (r : Vals [x] us) : ∃ u, us = [u] ∧ RelV x u := by
  cases r with
  | cons r1 r2 => cases r2; exact ⟨_, rfl, r1⟩
theorem vals2 {x y : V} {us : List Value} (r : Vals [x, y] us) : ∃ u w', us = [u, w'] ∧ RelV x u ∧ RelV y w' := by
  cases r with
  | cons r1 r2 =>
    cases r2 with
    | cons r3 r4 => cases r4; exact ⟨_, _, rfl, r1, r3⟩
theorem call_max2 (hc : X.calm = true) : CallR X (.builtin "max") (fun xs H Q => ∃ i j, xs = [.int i, .int j] ∧ Q (.int (if j > i then j else i)) H) := by
  intro pins s σ H xs us Q I r h
  obtain ⟨i, j, rfl, q⟩ := h
  obtain ⟨u, w', rfl, ⟨t, rfl⟩, ⟨t', rfl⟩⟩ := vals2 r
  refine max_two_ints (I.ok.hd hc) fun h' tk k => ⟨_, H, I.kept k, ?_, q⟩
  by_cases hj : j > i
  · rw [if_pos hj, if_pos hj]; exact ⟨_, rfl⟩
  · rw [if_neg hj, if_neg hj]; exact ⟨_, rfl⟩
end
end L2

namespace L2
open PySem PySem.Spec PyProof.Rows

structure ObjM (h : Heap) (x dx C : Addr) (mA : Str → Option Value) : Prop where
  obj : h.get? x = some (PySem.W.instObj C dx)
  ns : h.Ns1 dx mA
  ne : dx ≠ x

theorem lookIn_ns {h : Heap} {dx : Addr} {mA : Str → Option Value} (n : h.Ns1 dx mA) : ∃ od, h.get? dx = some od ∧ ∀ name, PySem.W.lookIn name od = some (mA name) := by
  obtain ⟨o, es, ep, ho, hd, hk, _, hm⟩ := n
  refine ⟨o, ho, fun name => ?_⟩
  have e := hm name
  unfold nsFind findBy at e
  rw [← Array.find?_toList] at e
  unfold PySem.W.lookIn
  rw [hd]
  dsimp only
  split
  · rename_i y q
    rw [q] at e
    exact congrArg some e
  · rename_i q
    rw [q] at e
    have a : es.toList.any (·.refKey) = false := by
      rw [List.any_eq_false]
      intro y hy
      obtain ⟨z, t, hkey⟩ := hk y (Array.mem_toList_iff.mp hy)
      simp [DictEntry.refKey, hkey]
    have a' : ¬ es.toList.any (·.refKey) = true := by rw [a]; exact Bool.false_ne_true
    rw [if_neg a']
    exact congrArg some e

theorem ObjM.look {h : Heap} {x dx C : Addr} {mA : Str → Option Value} (I : ObjM h x dx C mA) : ∃ od, PySem.W.InstAt h x (PySem.W.instObj C dx) C (some od) ∧ ∀ name, PySem.W.lookIn name od = some (mA name) :=
  let ⟨od, ho, hl⟩ := lookIn_ns I.ns
  ⟨od, ⟨I.obj, rfl, rfl, ho⟩, hl⟩

section
variable {prog : Program} {w : World} {A : Around} {E : Value → Shared → Prop} {s : Shared} {K : PySem.W.Frag} {x dx C f : Addr} {mA : Str → Option Value} {name : Str} {v : Value}

theorem get_map {expr : Bool} {Q : Value → Shared → Prop} (X : K.In s.heap) (I : ObjM s.heap x dx C mA) (hg : PySem.W.plainGet K C name = true) (hh : PySem.W.hasDictIn K C = true)
    (ha : PySem.W.findIn K (.ref C) name = some none) (hv : mA name = some v) (hv' : PySem.W.handedIn v = true) (h : Q v { s with toks := s.toks + 1 }) :
    wpAny (model prog w) A (getAttr (.ref x) name expr) Q E s := by
  obtain ⟨od, J, hl⟩ := I.look
  exact PySem.W.get_value X J (PySem.W.plainGet_of hg).1 (PySem.W.findObj_own hh ha rfl (by rw [hl, hv])) hv' h

theorem get_meth {pl : Sem Bool} {Q : Value × List Value → Shared → Prop} (X : K.In s.heap) (I : ObjM s.heap x dx C mA) (hg : PySem.W.plainGet K C name = true)
    (hf : PySem.W.findIn K (.ref C) name = some (some (.ref f))) (ht : PySem.W.isFn K (.ref f) = true) (hv : mA name = none) (h : Q (.ref f, [.ref x]) s) :
    wpAny (model prog w) A (getMethod (.ref x) name pl) Q E s := by
  obtain ⟨od, J, hl⟩ := I.look
  exact PySem.W.method_fn X J (PySem.W.plainGet_of hg).1 (PySem.W.plainGet_of hg).2 hf (beq_iff_eq.mp ht) (by show (PySem.W.lookIn name od).map (·.isSome) = some false; rw [hl, hv]; rfl) h

theorem set_map {ns : List Str} {Q : Unit → Shared → Prop} (X : K.In s.heap) (I : ObjM s.heap x dx C mA)
    (hs : PySem.W.findIn K (.ref C) "__setattr__" = some (some (.builtin "object.__setattr__"))) (hp : PySem.W.plainOver K C = true) (ht : PySem.W.takerIn K C name = some none) (hh : PySem.W.hasDictIn K C = true)
    (hw : PySem.Within mA ns) (hsz : ns.length ≤ sizeLine)
    (h : ∀ h', ObjM h' x dx C (fun y => if y = name then some v else mA y) → Heap.SameBut dx s.heap h' → Q () { s with heap := h', toks := s.toks + 2 }) :
    wpAny (model prog w) A (setAttr (.ref x) name v) Q E s := by
  obtain ⟨od, J, hl⟩ := I.look
  refine PySem.W.set_plain X J hs (PySem.W.osa_open (s := { s with toks := s.toks + 1 }) (r := none) X J hp ht fun b => ?_)
  obtain ⟨cd, hc, hd'⟩ := PySem.W.any_some hh
  have hx : s.heap.get? x = some ⟨.ref C, some dx, .plain, #[]⟩ := I.obj
  refine wpAny_bind (wpAny_pure (wpAny_bind (wpAny_bind (wpAny_loadPart hx (wpAny_bind (PySem.W.Looks.here (s := { s with toks := s.toks + 1 }) (PySem.W.looks_clsIn X hc) ?_))))))
  rw [hd']
  refine wpAny_pure (a := some dx) (wpAny_bind (wpAny_pure (wpAny_bind ?_)))
  refine wpAny_nsSet1 (s := { s with toks := s.toks + 1 }) I.ns fun h' hn2 hs2 => ?_
  obtain ⟨oD, esD, epD, hoD, hdD, hcD⟩ := hn2.count (PySem.Within.cons name v hw)
  refine wpAny_bind (wpAny_lookBehind hoD (by rw [hdD]; exact pastItsLine_dict (Nat.le_trans hcD (by rw [List.length_cons]; omega))) ?_)
  exact wpAny_pure (h _ ⟨(hs2.2 _ (Ne.symm I.ne)).trans I.obj, hn2, I.ne⟩ hs2)

/-- C(..): the dict at the heap's end, the instance behind it; then its __init__ -/
theorem make_map {R : Result → Shared → Prop} {vs : List Value} {kw : List (Str × Value)} (X : K.In s.heap) (hm : PySem.W.makesIn K C = true)
    (hi : PySem.W.findIn K (.ref C) "__init__" = some (some (.ref f))) (hf : PySem.W.typeIn K (.ref f) = some (.type "function"))
    (h : codeAny (model prog w) (A.under (.builtin "type.__call__" ⟨.ref C :: vs, kw⟩)) (.call (.ref f) ⟨.ref (s.heap.objs.size + 1) :: vs, kw⟩) (PySem.W.InitBack (s.heap.objs.size + 1) R)
      { s with heap := (s.heap.push PySem.W.emptyDict).push (PySem.W.instObj C s.heap.objs.size) }) :
    codeAny (model prog w) A (.call (.ref C) ⟨vs, kw⟩) R s := by
  obtain ⟨hh, g, d, t, os⟩ := s
  exact PySem.W.make_core (PySem.W.makes_of X hm) (PySem.W.looks_findIn X hi) (fun self => PySem.W.bind_fn X self hf) (.inl rfl) h
end

def putF (f : Str) (v : V) : List (Str × V) → List (Str × V)
  | [] => [(f, v)]
  | (g, x) :: r => if g = f then (g, v) :: r else (g, x) :: putF f v r
theorem lookup_putF (f g : Str) (v : V) : ∀ fs : List (Str × V), (putF f v fs).lookup g = if g = f then some v else fs.lookup g
  | [] => by
    show List.lookup g [(f, v)] = _
    by_cases h : g = f
    · have hb : (g == f) = true := beq_iff_eq.mpr h
      simp only [List.lookup, hb, if_pos h]
    · have hb : (g == f) = false := beq_eq_false_iff_ne.mpr h
      simp only [List.lookup, hb, if_neg h]
  | (k, x) :: r => by
    have ih := lookup_putF f g v r
    rw [show putF f v ((k, x) :: r) = (if k = f then (k, v) :: r else (k, x) :: putF f v r) from rfl]
    by_cases hk : k = f
    · rw [if_pos hk]
      by_cases h : g = k
      · have hb : (g == k) = true := beq_iff_eq.mpr h
        simp only [List.lookup, hb, if_pos (h.trans hk)]
      · have hb : (g == k) = false := beq_eq_false_iff_ne.mpr h
        simp only [List.lookup, hb, if_neg (fun e : g = f => h (e.trans hk.symm))]
    · rw [if_neg hk]
      by_cases h : g = k
      · have hb : (g == k) = true := beq_iff_eq.mpr h
        simp only [List.lookup, hb, if_neg (fun e : g = f => hk (h.symm.trans e))]
      · have hb : (g == k) = false := beq_eq_false_iff_ne.mpr h
        simp only [List.lookup, hb]
        exact ih
theorem keys_putF (f : Str) (v : V) : ∀ fs : List (Str × V), f ∈ (putF f v fs).map (·.1) ∧ ∀ g, g ∈ fs.map (·.1) → g ∈ (putF f v fs).map (·.1)
  | [] => ⟨by simp [putF], fun g h => by simp at h⟩
  | (k, x) :: r => by
    obtain ⟨i1, i2⟩ := keys_putF f v r
    rw [show putF f v ((k, x) :: r) = (if k = f then (k, v) :: r else (k, x) :: putF f v r) from rfl]
    by_cases hk : k = f
    · rw [if_pos hk]
      subst hk
      exact ⟨by simp, fun g h => by simpa using h⟩
    · rw [if_neg hk]
      refine ⟨?_, fun g h => ?_⟩
      · rw [List.map_cons]
        exact List.mem_cons_of_mem _ i1
      · rw [List.map_cons] at h ⊢
        rcases List.mem_cons.mp h with e | e
        · exact List.mem_cons.mpr (.inl e)
        · exact List.mem_cons_of_mem _ (i2 g e)
theorem length_putF (f : Str) (v : V) : ∀ fs : List (Str × V), (putF f v fs).length ≤ fs.length + 1
  | [] => by simp [putF]
  | (k, x) :: r => by
    have ih := length_putF f v r
    rw [show putF f v ((k, x) :: r) = (if k = f then (k, v) :: r else (k, x) :: putF f v r) from rfl]
    by_cases hk : k = f
    · rw [if_pos hk, List.length_cons, List.length_cons]; omega
    · rw [if_neg hk, List.length_cons, List.length_cons]; omega

theorem RelO.some_of {v : V} {o : Option Value} (r : RelO (some v) o) : ∃ u, o = some u ∧ RelV v u := by
  cases o with
  | none => exact (show False from r).elim
  | some u => exact ⟨u, rfl, r⟩
theorem RelO.none_of {o : Option Value} (r : RelO none o) : o = none := by
  cases o with
  | none => rfl
  | some u => exact (show False from r).elim
theorem handed_of {v : V} {u : Value} (r : RelV v u) : PySem.W.handedIn u = true := by
  cases v with
  | non => cases (show u = Value.none from r); rfl
  | bl b => cases (show u = Value.bool b from r); rfl
  | int i => obtain ⟨t, e⟩ := (show ∃ t, u = Value.int i t from r); cases e; rfl
  | str x => obtain ⟨t, e⟩ := (show ∃ t, u = Value.str x t from r); cases e; rfl
  | byt b => obtain ⟨t, e⟩ := (show ∃ t, u = Value.bytes b t from r); cases e; rfl
  | flt b => obtain ⟨t, e⟩ := (show ∃ t, u = Value.float b t from r); cases e; rfl
  | ref a => cases (show u = Value.ref a from r); rfl
  | ty n => cases (show u = Value.type n from r); rfl

section
variable {P : Program} {w : World} {H H' : Hp} {h h' : Heap} {a C dx : Addr} {fs fs' : List (Str × V)}
theorem ins_get (hok : HOk P w H h) (e : H a = some (.ins C dx fs)) : ∃ mA, ObjM h a dx C mA ∧ (∀ f, RelO (fs.lookup f) (mA f)) ∧ PySem.Within mA (fs.map (·.1)) ∧ fs.length ≤ 1000 ∧ H dx = some (.own a) := by
  obtain ⟨d, z, ne, ob, mA, n, r, q⟩ := (show ObjOk P w H h a (.ins C dx fs) from hok a _ e)
  exact ⟨mA, ⟨ob, n, ne⟩, r, q, z, d⟩
end

structure Cls (K : PySem.W.Frag) (C : Addr) : Prop where
  pg : PySem.W.plainGet K C Str.empty = true
  hd : PySem.W.hasDictIn K C = true
  po : PySem.W.plainOver K C = true
  sa : PySem.W.findIn K (.ref C) "__setattr__" = some (some (.builtin "object.__setattr__"))
theorem Cls.get {K : PySem.W.Frag} {C : Addr} (c : Cls K C) (f : Str) : PySem.W.plainGet K C f = true := c.pg
/-- no class of it has the name -/
def NoAttr (K : PySem.W.Frag) (C : Addr) (f : Str) : Prop := PySem.W.findIn K (.ref C) f = some none
theorem NoAttr.taker {K : PySem.W.Frag} {C : Addr} {f : Str} (n : NoAttr K C f) : PySem.W.takerIn K C f = some none := by
  unfold PySem.W.takerIn
  rw [show PySem.W.findIn K (.ref C) f = some none from n]
  rfl
/-- a method: a plain def of the class or of one above it -/
structure Meth (K : PySem.W.Frag) (C : Addr) (m : Str) (f : Addr) : Prop where
  at_ : PySem.W.findIn K (.ref C) m = some (some (.ref f))
  fn : PySem.W.isFn K (.ref f) = true
  kp : PySem.W.keepIn K (.ref f) = true

section
variable {X : Cx} {pins : List (Addr × Obj)} {σ : St} {H : Hp} {s : Shared} {a C dx : Addr} {fs : List (Str × V)} {f : Str} {v : V} {A : Around} {E : Value → Shared → Prop}

theorem getattr_ok {b : Bool} {Q : Value → Shared → Prop} (I : Inv X pins σ H s) (e : H a = some (.ins C dx fs)) (c : Cls X.K C) (n : NoAttr X.K C f) (l : fs.lookup f = some v)
    (h : ∀ u s', Inv X pins σ H s' → RelV v u → Q u s') : wpAny (model X.prog X.w) A (getAttr (.ref a) f b) Q E s := by
  obtain ⟨mA, O, r, _, _, _⟩ := ins_get I.hok e
  obtain ⟨u, hu, ru⟩ := RelO.some_of (v := v) (o := mA f) (by rw [← l]; exact r f)
  exact get_map I.kIn O (c.get f) c.hd n hu (handed_of ru) (h u _ (I.tok _) ru)

theorem getmeth_ok {m : Str} {g : Addr} {pl : Sem Bool} {Q : Value × List Value → Shared → Prop} (I : Inv X pins σ H s) (e : H a = some (.ins C dx fs)) (c : Cls X.K C) (k : Meth X.K C m g) (l : fs.lookup m = none)
    (h : Q (.ref g, [.ref a]) s) : wpAny (model X.prog X.w) A (getMethod (.ref a) m pl) Q E s := by
  obtain ⟨mA, O, r, _, _, _⟩ := ins_get I.hok e
  have hn : mA m = none := RelO.none_of (by rw [← l]; exact r m)
  exact get_meth I.kIn O (c.get m) k.at_ k.fn hn h

theorem setattr_ok {y : V} {u : Value} {Q : Unit → Shared → Prop} (I : Inv X pins σ H s) (e : H a = some (.ins C dx fs)) (c : Cls X.K C) (n : NoAttr X.K C f) (hl : fs.length < 1000) (ry : RelV y u)
    (h : ∀ s', Inv X pins σ (upd H a (.ins C dx (putF f y fs))) s' → Q () s') : wpAny (model X.prog X.w) A (setAttr (.ref a) f u) Q E s := by
  obtain ⟨mA, O, r, wi, _, ho⟩ := ins_get I.hok e
  have hz : (fs.map (·.1)).length ≤ sizeLine := by rw [List.length_map, sizeLine_eq]; omega
  refine set_map I.kIn O c.sa c.po n.taker c.hd wi hz fun h' O' sb => h _ ?_
  have hd : ∃ o, h'.get? dx = some o := let ⟨o, _, _, e', _⟩ := O'.ns; ⟨o, e'⟩
  refine I.write (x := a) (e := dx) (by rw [e]; exact True.intro) (.inr ho) (fun b q hb z => (sb.2 b hb).trans z) hd ?_
  refine ⟨by rw [upd_ne O.ne]; exact ho, ?_, O.ne, O'.obj, _, O'.ns, fun g => ?_, fun g hg => ?_⟩
  · have := length_putF f y fs; omega
  · show RelO ((putF f y fs).lookup g) (if g = f then some u else mA g)
    rw [lookup_putF]
    by_cases q : g = f
    · rw [if_pos q, if_pos q]; exact ry
    · rw [if_neg q, if_neg q]; exact r g
  · by_cases q : g = f
    · rw [q]; exact (keys_putF f y fs).1
    · refine (keys_putF f y fs).2 g (wi g fun z => hg ?_)
      show (if g = f then some u else mA g) = none
      rw [if_neg q]; exact z

/-- a new instance, tracked, without attributes -/
theorem Inv.made (I : Inv X pins σ H s) : Inv X pins σ (upd (upd H s.heap.objs.size (.own (s.heap.objs.size + 1))) (s.heap.objs.size + 1) (.ins C s.heap.objs.size []))
    { s with heap := (s.heap.push PySem.W.emptyDict).push (PySem.W.instObj C s.heap.objs.size) } := by
  have e1 : (s.heap.push PySem.W.emptyDict).get? s.heap.objs.size = some PySem.W.emptyDict := Heap.get?_push_size s.heap rfl
  have e2 : ((s.heap.push PySem.W.emptyDict).push (PySem.W.instObj C s.heap.objs.size)).get? (s.heap.objs.size + 1) = some (PySem.W.instObj C s.heap.objs.size) := by
    have := Heap.get?_push_size (s.heap.push PySem.W.emptyDict) (o := PySem.W.instObj C s.heap.objs.size) rfl
    rwa [Heap.size_push] at this
  have e3 : (s.heap.push PySem.W.emptyDict).Ns s.heap.objs.size (fun _ => none) := ⟨PySem.W.emptyDict, #[], _, e1, rfl, (fun e he => absurd he (by simp)), fun _ => rfl⟩
  have I1 := I.laid (a := s.heap.objs.size) (o := .own (s.heap.objs.size + 1)) (h' := s.heap.push PySem.W.emptyDict) (t' := s.toks) (fun b u q => Heap.get?_push_of_some _ q) (Nat.le_refl _) ⟨_, e1⟩
  refine I1.laid (a := s.heap.objs.size + 1) (o := .ins C s.heap.objs.size []) (t' := s.toks) (fun b u q => Heap.get?_push_of_some _ q) (Nat.le_of_eq (Heap.size_push _ _)) ?_
  have ne : s.heap.objs.size ≠ s.heap.objs.size + 1 := Nat.ne_of_lt (Nat.lt_succ_self _)
  refine ⟨by rw [upd_ne ne, upd_same], Nat.zero_le _, ne, e2, fun _ => none, (Heap.Ns1.of_empty e3).at fun o q => Heap.get?_push_of_some _ q, fun _ => True.intro, fun y hy => absurd rfl hy⟩

/-- e.f where nothing but the object is asked: through attributeBase (super) and the last hold -/
theorem attr_of {prog : Program} {w : World} {env : Env} {e : Expr} {f : Str} {pos : Pos} {s : Shared} {Q : Value → Shared → Prop} (hb : attributeBase e f env (eval e env) = eval e env)
    (h : wpAny (model prog w) A (eval e env) (fun o s₁ => wpAny (model prog w) A (getAttr o f true) Q E s₁) E s) : wpAny (model prog w) A (eval (.Attribute e f pos) env) Q E s :=
  Attribute_any_ h (by rw [arm_eval_Attribute, hb])
end

/-- e.f, an attribute of the instance -/
def tFld (K : PySem.W.Frag) (ta : TE) (f : Str) : TE := fun σ H Q => ta σ H fun x H1 => ∃ a C dx fs v, x = .ref a ∧ H1 a = some (.ins C dx fs) ∧ Cls K C ∧ NoAttr K C f ∧ fs.lookup f = some v ∧ Q v H1
/-- e.f = value -/
def sFld (K : PySem.W.Frag) (ta tv : TE) (f : Str) : TS := fun D σ H => tv σ H fun y H1 => ta σ H1 fun x H2 => ∃ a C dx fs, x = .ref a ∧ H2 a = some (.ins C dx fs) ∧ Cls K C ∧ NoAttr K C f ∧ fs.length < 1000 ∧
  D.nx σ (upd H2 a (.ins C dx (putF f y fs)))
section
variable {X : Cx} {o e value : Expr} {f : Str} {pos pos' tpos : Pos} {ta tv : TE}
theorem pe_fld (he : PE X e ta) (hb : attributeBase e f X.env (eval e X.env) = eval e X.env) : PE X (.Attribute e f pos) (tFld X.K ta f) := by
  intro pins s σ H Q I h
  refine attr_of hb (thn (he pins s σ H _ I h) fun u s1 ⟨x, H1, I1, rx, a, C, dx, fs, v, ex, ea, c, n, l, q⟩ => ?_)
  subst ex
  obtain rfl : u = Value.ref a := rx
  exact getattr_ok I1 ea c n l fun u' s2 I2 ru => ⟨v, H1, I2, ru, q⟩
theorem ps_fld (ha : PE X o ta) (hv : PE X value tv) (hs : swapsWith value (some (.Attribute o f pos')) pos.line X.env = pure false) : PS X (.Assign [.Attribute o f pos'] value pos) (sFld X.K ta tv f) := by
  intro pins s σ H D I h
  refine plainObj_wpAny_Assign_Attribute (thn (hv pins s σ H _ I h) fun u s1 ⟨y, H1, I1, ry, q⟩ => thn (ha pins s1 σ H1 _ I1 q) fun ov s2 ⟨x, H2, I2, rx, a, C, dx, fs, ex, ea, c, n, l, q2⟩ => ?_) hs
  subst ex
  obtain rfl : ov = Value.ref a := rx
  exact setattr_ok I2 ea c n l ry fun s3 I3 => ⟨σ, _, I3, q2⟩
end

section
variable {X : Cx} {pins : List (Addr × Obj)} {σ : St} {H : Hp} {s : Shared} {A : Around} {E : Value → Shared → Prop} {Q : Value → Shared → Prop} {c : Value} {b : Bool}
/-- the type of a value, as the fragment's deciders take it; for an instance its class -/
inductive TyOf (K : PySem.W.Frag) (H : Hp) : V → Value → Prop where
  | non : TyOf K H .non (.type "NoneType")
  | bl (x : Bool) : TyOf K H (.bl x) (.type "bool")
  | int (i : Int) : TyOf K H (.int i) (.type "int")
  | str (x : Str) : TyOf K H (.str x) (.type "str")
  | flt (x : UInt64) : TyOf K H (.flt x) (.type "float")
  | lst {a : Addr} {xs : List V} (e : H a = some (.lst xs)) : TyOf K H (.ref a) (.type "list")
  | frz {a : Addr} {o : Obj} {xs : List V} (e : H a = some (.frz o (.lst xs))) : TyOf K H (.ref a) (.type "list")
  | tup {a : Addr} {xs : List V} (e : H a = some (.tup xs)) : TyOf K H (.ref a) (.type "tuple")
  | dK {a : Addr} {kvs : List (Key × V)} (e : H a = some (.dK kvs)) : TyOf K H (.ref a) (.type "dict")
  | dT {a : Addr} {kvs : List (List Key × V)} (e : H a = some (.dT kvs)) : TyOf K H (.ref a) (.type "dict")
  | ins {a C dx : Addr} {fs : List (Str × V)} (e : H a = some (.ins C dx fs)) (cl : Cls K C) (ha : PySem.W.findIn K (.ref C) "__class__" = some (some (.builtin "object.__class__")))
      (hn : PySem.W.specialIn K (.builtin "object.__class__") "__get__" = some (some (.builtin "getset_descriptor.__get__"))) (htk : PySem.W.takesIn K (.builtin "object.__class__") = some true)
      (hm : PySem.W.mroIn K C (.type "object") = some true) : TyOf K H (.ref a) (.ref C)
/-- isinstance(x, c) for one class c, a built-in or an own one: kitOne's answer -/
theorem isinst_ok {x : V} {u t : Value} (I : Inv X pins σ H s) (rx : RelV x u) (ty : TyOf X.K H x t) (e : PySem.W.kitOne X.K t c = some b) (h : ∀ tk, Q (.bool b) { s with toks := tk }) :
    wpAny (model X.prog X.w) A (call (.builtin "isinstance") [u, c]) Q E s := by
  cases ty with
  | non => cases (show u = Value.none from rx); exact PySem.W.kia_one PySem.W.kitx_none I.kIn True.intro e (fun z => nomatch z) h
  | bl y => cases (show u = Value.bool y from rx); exact PySem.W.kia_one PySem.W.kitx_bool I.kIn True.intro e (fun z => nomatch z) h
  | int i => obtain ⟨t, q⟩ := (show ∃ t, u = Value.int i t from rx); cases q; exact PySem.W.kia_one PySem.W.kitx_int I.kIn True.intro e (fun z => nomatch z) h
  | str y => obtain ⟨t, q⟩ := (show ∃ t, u = Value.str y t from rx); cases q; exact PySem.W.kia_one PySem.W.kitx_str I.kIn True.intro e (fun z => nomatch z) h
  | flt y => obtain ⟨t, q⟩ := (show ∃ t, u = Value.float y t from rx); cases q; exact PySem.W.kia_one PySem.W.kitx_float I.kIn True.intro e (fun z => nomatch z) h
  | @lst a xs ea =>
    cases (show u = Value.ref a from rx)
    obtain ⟨_, _, n, _, h1⟩ := (show ObjOk X.prog X.w H s.heap a (.lst xs) from I.hok a _ ea)
    exact PySem.W.kia_one PySem.W.kitx_list I.kIn ⟨_, h1, rfl⟩ e (fun z => nomatch z) h
  | @frz a ob xs ea =>
    cases (show u = Value.ref a from rx)
    obtain ⟨_, _, _, n, _, h1⟩ := (show ObjOk X.prog X.w H s.heap a (.frz ob (.lst xs)) from I.hok a _ ea)
    exact PySem.W.kia_one PySem.W.kitx_list I.kIn ⟨_, h1, rfl⟩ e (fun z => nomatch z) h
  | @tup a xs ea =>
    cases (show u = Value.ref a from rx)
    obtain ⟨_, _, _, p⟩ := (show ObjOk X.prog X.w H s.heap a (.tup xs) from I.hok a _ ea)
    obtain ⟨o, h1, h2, _⟩ := p
    exact PySem.W.kia_one PySem.W.kitx_tuple I.kIn ⟨o, h1, h2⟩ e (fun z => nomatch z) h
  | @dK a kvs ea =>
    cases (show u = Value.ref a from rx)
    obtain ⟨_, _, vs, _, p⟩ := (show ObjOk X.prog X.w H s.heap a (.dK kvs) from I.hok a _ ea)
    obtain ⟨o, es, ep, h1, h2, _⟩ := p
    exact PySem.W.kia_one PySem.W.kitx_dict I.kIn ⟨o, h1, h2.1⟩ e (fun z => nomatch z) h
  | @dT a kvs ea =>
    cases (show u = Value.ref a from rx)
    obtain ⟨_, _, xs, _, o, es, ep, h1, h2, _⟩ := (show ObjOk X.prog X.w H s.heap a (.dT kvs) from I.hok a _ ea)
    exact PySem.W.kia_one PySem.W.kitx_dict I.kIn ⟨o, h1, h2.1⟩ e (fun z => nomatch z) h
  | @ins a C dx fs ea cl ha hn htk hm =>
    cases (show u = Value.ref a from rx)
    obtain ⟨mA, O, _⟩ := ins_get I.hok ea
    obtain ⟨od, J, _⟩ := O.look
    exact PySem.W.kia_one (PySem.W.kitx_own (cl.get _) cl.hd ha hn htk hm) I.kIn J e (fun z => nomatch z) h
end
end L2

namespace L2
open PySem PySem.Spec PyProof.Rows

structure Room (k : Nat) (A : Around) : Prop where
  hd : A.handled = none
  dp : A.depth + 3 * k + 5 < recursionLimit
  un : A.units + 16 * k + 200 < cLine
theorem Room.mono {j k : Nat} {A : Around} (r : Room k A) (h : j ≤ k) : Room j A := ⟨r.hd, by have := r.dp; omega, by have := r.un; omega⟩
theorem Room.deeper {k : Nat} {A : Around} (r : Room (k + 1) A) (env : Env) : Room k (A.deeper env) :=
  ⟨r.hd, by have := r.dp; show A.depth + 1 + 3 * k + 5 < _; omega, by have := r.un; show A.units + 3 + 16 * k + 200 < _; omega⟩
theorem Room.in1 {k : Nat} {A : Around} (r : Room (k + 1) A) : Room k A.in1 :=
  ⟨r.hd, by have := r.dp; show A.depth + 3 * k + 5 < _; omega, by have := r.un; show A.units + 1 + 16 * k + 200 < _; omega⟩
theorem make_depth {A : Around} {C : Addr} {us : List Value} {kw : List (Str × Value)} : (A.under (.builtin "type.__call__" ⟨.ref C :: us, kw⟩)).depth = A.depth + 1 := by
  first | rfl | simp [Around.under, Code.weight, Code.isCreation, Code.isGuard, Code.isCaller, Code.frames, Code.isFrame, guardIds]
theorem make_units {A : Around} {C : Addr} {us : List Value} {kw : List (Str × Value)} : (A.under (.builtin "type.__call__" ⟨.ref C :: us, kw⟩)).units = A.units + 1 := by
  first | rfl | simp [Around.under, Code.cUnits, Code.frames, Code.isFrame]
theorem Room.make {k : Nat} {A : Around} (r : Room (k + 1) A) (C : Addr) (us : List Value) (kw : List (Str × Value)) : Room k (A.under (.builtin "type.__call__" ⟨.ref C :: us, kw⟩)) :=
  ⟨r.hd, by have := r.dp; rw [make_depth]; omega, by have := r.un; rw [make_units]; omega⟩
theorem Room.depth {k : Nat} {A : Around} (r : Room k A) : A.depth < recursionLimit := by have := r.dp; omega
theorem Room.units {k : Nat} {A : Around} (r : Room k A) : A.units + 64 < cLine := by have := r.un; omega
def tNil : TA := fun _ H Q => Q [] H
def tCons (ta : TE) (tr : TA) : TA := fun σ H Q => ta σ H fun x H1 => tr σ H1 fun xs H2 => Q (x :: xs) H2
section
variable {X : Cx} {e : Expr} {es : List Expr} {te : TE} {t : TA} {pos : Pos}
theorem pa_nil : PA X [] tNil := fun _ _ _ _ H Q I h => Calls.spliced_nil ⟨[], H, I, .nil, h⟩
theorem pa_cons (ha : PE X e te) (hr : PA X es t) (hs : starEach (e :: es) X.env = (false, eval e X.env) :: starEach es X.env := by rfl) : PA X (e :: es) (tCons te t) := by
  intro pos pins s σ H Q I h
  rw [hs]
  show wpAny _ _ (spliced ((false, eval e X.env) :: backTo pos (starEach es X.env))) _ _ s
  refine Calls.spliced_cons (thn (ha pins s σ H _ I h) fun u s1 ⟨x, H1, I1, r1, q1⟩ => ?_)
  exact thn (hr pos pins s1 σ H1 _ I1 q1) fun us s2 ⟨xs, H2, I2, r2, q2⟩ => ⟨x :: xs, H2, I2, .cons r1 r2, q2⟩

/-- a tuple, a list of written items -/
def tTup (t : TA) : TE := fun σ H Q => t σ H fun xs H1 => xs.length ≤ sizeLine ∧ ∀ p, H1 p = none → Q (.ref p) (upd H1 p (.tup xs))
def tLst (t : TA) : TE := fun σ H Q => t σ H fun xs H1 => xs.length ≤ sizeLine ∧ ∀ p, H1 p = none → Q (.ref p) (upd H1 p (.lst xs))
theorem pe_tup {x1} (h : PA X es t) : PE X (.Tuple es x1 pos) (tTup t) := by
  intro pins s σ H Q I hq
  refine wpAny_Tuple_spliced (thn (h pos pins s σ H _ I hq) fun us s1 ⟨xs, H1, I1, r, z, q⟩ => ⟨by rw [← r.length]; exact z, ?_⟩)
  have hf : H1 s1.heap.objs.size = none := I1.hok.fresh (Nat.le_refl _)
  refine ⟨.ref s1.heap.objs.size, upd H1 s1.heap.objs.size (.tup xs), I1.laid (t' := s1.toks) (fun b u e => Heap.get?_push_of_some _ e) (Nat.le_refl _) ?_, rfl, q _ hf⟩
  exact ⟨z, us, r, ⟨_, Heap.get?_push_size _ rfl, rfl, _, rfl⟩⟩
theorem pe_lst (h : PA X es t) : PE X (.List es pos) (tLst t) := by
  intro pins s σ H Q I hq
  refine wpAny_List_spliced (thn (h pos pins s σ H _ I hq) fun us s1 ⟨xs, H1, I1, r, z, q⟩ => ⟨by rw [← r.length]; exact z, ?_⟩)
  have hf : H1 s1.heap.objs.size = none := I1.hok.fresh (Nat.le_refl _)
  refine ⟨.ref s1.heap.objs.size, upd H1 s1.heap.objs.size (.lst xs), I1.laid (t' := s1.toks) (fun b u e => Heap.get?_push_of_some _ e) (Nat.le_refl _) ?_, rfl, q _ hf⟩
  exact ⟨z, us, 0, r, Heap.get?_push_size _ rfl⟩
end

/-- a def's promise: the bound arguments in the parameters' order, the heap, the wanted end, the wanted exception -/
abbrev Sp := List V → Hp → VK → XK → Prop
/-- how an exception lies behind a call (file 08 gives it): the callers' frames, abstract heap and state ahead of the call, the wish, the exception, the state -/
abbrev CXT := List Env → Hp → Shared → XK → Value → Shared → Prop

/-- the state at a call -/
structure Env0 (P : Program) (w : World) (K : PySem.W.Frag) (mg : Str → Option Value) (base : Heap) (A : Around) (outer : List Env) (s : Shared) (H : Hp) : Prop where
  frames : A.frames = some outer
  mod : Mod K mg base
  bs : ∀ b o, base.get? b = some o → s.heap.get? b = some o ∧ H b = none
  bsz : base.objs.size ≤ s.heap.objs.size
  funs : s.heap.FunFrames base outer
  frf : ∀ b ∈ frs outer, H b = none
  hok : HOk P w H s.heap
  bare : AllBare s.gens
/-- a call's end -/
def CE (outer : List Env) (P : Program) (w : World) (H : Hp) (s : Shared) (Q : VK) (u : Value) (s' : Shared) : Prop :=
  ∃ v H', s'.os = s.os ∧ AllBare s'.gens ∧ Un (frs outer) [] H H' s.heap s'.heap ∧ HOk P w H' s'.heap ∧ RelV v u ∧ Q v H'
def CR (CX : CXT) (outer : List Env) (P : Program) (w : World) (H : Hp) (s : Shared) (Q : VK) (E : XK) (r : Result) (s' : Shared) : Prop :=
  match r with
  | .ok (.ret u) => CE outer P w H s Q u s'
  | .ok _ => False
  | .error e => CX outer H s E e s'
structure FnOk (P : Program) (w : World) (K : PySem.W.Frag) (mg : Str → Option Value) (base : Heap) (CX : CXT) (k : Nat) (f : Addr) (fd : FuncData) (ps : List Str) (sp : Sp) : Prop where
  len : ∀ vs H Q E, sp vs H Q E → vs.length = ps.length
  run : ∀ (A : Around) (outer : List Env) (s : Shared) (H : Hp) (args : Args) (us : List Value) (vs : List V) (Q : VK) (E : XK), Room k A → Env0 P w K mg base A outer s H → BindsTo s fd args (ps.zip us) → Vals vs us → sp vs H Q E →
    codeAny (model P w) A (.call (.ref f) args) (CR CX outer P w H s Q E) s
theorem FnOk.mono {P : Program} {w : World} {K : PySem.W.Frag} {mg : Str → Option Value} {base : Heap} {CX : CXT} {j k : Nat} {f : Addr} {fd : FuncData} {ps : List Str} {sp : Sp} (F : FnOk P w K mg base CX j f fd ps sp) (h : j ≤ k) :
    FnOk P w K mg base CX k f fd ps sp := ⟨F.len, fun A outer s H args us vs Q E hr => F.run A outer s H args us vs Q E (hr.mono h)⟩
/-- a weaker promise -/
theorem FnOk.imp {P : Program} {w : World} {K : PySem.W.Frag} {mg : Str → Option Value} {base : Heap} {CX : CXT} {k : Nat} {f : Addr} {fd : FuncData} {ps : List Str} {sp sp' : Sp} (F : FnOk P w K mg base CX k f fd ps sp)
    (h : ∀ vs H Q E, sp' vs H Q E → sp vs H Q E) : FnOk P w K mg base CX k f fd ps sp' :=
  ⟨fun vs H Q E q => F.len vs H Q E (h _ _ _ _ q), fun A outer s H args us vs Q E hr he hb hv hs => F.run A outer s H args us vs Q E hr he hb hv (h _ _ _ _ hs)⟩

theorem Env0.make {P : Program} {w : World} {K : PySem.W.Frag} {mg : Str → Option Value} {base : Heap} {A : Around} {outer : List Env} {s : Shared} {H : Hp} (e : Env0 P w K mg base A outer s H) (C : Addr) (us : List Value) (kw : List (Str × Value)) :
    Env0 P w K mg base (A.under (.builtin "type.__call__" ⟨.ref C :: us, kw⟩)) outer s H := ⟨by first | exact e.frames | (simpa [Around.under, Code.envs, Code.isFrame, pushEnvs] using e.frames), e.mod, e.bs, e.bsz, e.funs, e.frf, e.hok, e.bare⟩
theorem Env0.in1 {P : Program} {w : World} {K : PySem.W.Frag} {mg : Str → Option Value} {base : Heap} {A : Around} {outer : List Env} {s : Shared} {H : Hp} (e : Env0 P w K mg base A outer s H) :
    Env0 P w K mg base A.in1 outer s H := ⟨e.frames, e.mod, e.bs, e.bsz, e.funs, e.frf, e.hok, e.bare⟩

section
variable {X : Cx} {pins : List (Addr × Obj)} {σ : St} {H : Hp} {s s' : Shared}
/-- from a body: what a callee wants -/
theorem Inv.env0 (I : Inv X pins σ H s) : Env0 X.prog X.w X.K X.mg X.base X.A X.stack s H :=
  ⟨I.ok.frames, I.ok.mod, I.bs, Nat.le_trans I.ok.bsz I.sz, I.stack, I.stkFree, I.hok, I.bare⟩
/-- behind a call -/
theorem Inv.after {Q : VK} {u : Value} (I : Inv X pins σ H s) (h : CE X.stack X.prog X.w H s Q u s') : EP X pins σ Q u s' := by
  obtain ⟨v, H', os, bare, un, hok, r, q⟩ := h
  obtain ⟨hh, g, d, t, os'⟩ := s'
  obtain rfl : os' = s.os := os
  exact ⟨v, H', I.call (h' := hh) (g' := g) (d' := d) (t' := t) (ch := []) un hok bare (fun b z => absurd z (by simp)), r, q⟩
end

/-- f(..): the written arguments, then the defaults dvs; E: what is wanted of an exception -/
def tCall (sp : Sp) (dvs : List V) (E : XK) (t : TA) : TE := fun σ H Q => t σ H fun vs H1 => sp (vs ++ dvs) H1 Q E
/-- C(..): a new instance and its dict, then __init__ -/
def tMake (C : Addr) (sp : Sp) (dvs : List V) (E : XK) (t : TA) : TE := fun σ H Q => t σ H fun vs H1 => ∀ x dx, H1 x = none → H1 dx = none → dx ≠ x →
  sp (.ref x :: (vs ++ dvs)) (upd (upd H1 dx (.own x)) x (.ins C dx [])) (fun v H2 => v = .non ∧ Q (.ref x) H2) E

/-- how the parameters are bound: us the positional arguments, kw the keywords' values by name, ds the defaults that fill up -/
def Binds (K : PySem.W.Frag) (fd : FuncData) (ps : List Str) (ds : List Value) : Prop :=
  ∀ (s : Shared) (us : List Value), K.In s.heap → (us ++ ds).length = ps.length → BindsTo s fd ⟨us, []⟩ (ps.zip (us ++ ds))
/-- every parameter is given -/
theorem Binds.all {K : PySem.W.Frag} {fd : FuncData} {ps : List Str} (h : ∀ us : List Value, us.length = ps.length → bindArgs fd ⟨us, []⟩ = pure (ps.zip us)) : Binds K fd ps [] := fun s us _ hl => by
  rw [List.append_nil] at hl ⊢
  exact .of_eq (h us hl)

/-- an exception of a callee reaches what this body wants of exceptions -/
def Passes (CX : CXT) (X : Cx) (E : XK) : Prop := ∀ (pins : List (Addr × Obj)) (σ : St) (H : Hp) (s : Shared) (e : Value) (s' : Shared), Inv X pins σ H s → CX X.stack H s E e s' → X.xe e s'

section
variable {X : Cx} {CX : CXT} {k : Nat} {f C : Addr} {fd : FuncData} {ps : List Str} {sp : Sp} {dvs : List V} {ds : List Value} {E : XK} {x m : Str} {p pos apos : Pos} {e o : Expr} {es : List Expr} {ta : TE} {t : TA}

/-- the callee runs -/
theorem run_fn {pins : List (Addr × Obj)} {σ : St} {H : Hp} {s : Shared} {Q : VK} {us : List Value} {vs : List V} (F : FnOk X.prog X.w X.K X.mg X.base CX k f fd ps sp) (hr : Room k X.A) (hb : Binds X.K fd ps ds) (hd : Vals dvs ds) (hx : Passes CX X E)
    (I : Inv X pins σ H s) (r : Vals vs us) (h : sp (vs ++ dvs) H Q E) : wpAny (model X.prog X.w) X.A (call (.ref f) us) (EP X pins σ Q) X.xe s := by
  have r2 : Vals (vs ++ dvs) (us ++ ds) := r.append hd
  have hl : (us ++ ds).length = ps.length := by rw [← r2.length]; exact F.len _ _ _ _ h
  refine wpAny_call (codeAny_mono (F.run X.A X.stack s H ⟨us, []⟩ (us ++ ds) (vs ++ dvs) Q E hr I.env0 (hb s us I.kIn hl) r2 h) fun r s' hq => ?_)
  cases r with
  | error e => exact hx pins σ H s e s' I hq
  | ok fl =>
    cases fl with
    | ret u => exact I.after hq
    | next => exact False.elim hq
    | brk => exact False.elim hq
    | cont => exact False.elim hq

theorem pe_call (F : FnOk X.prog X.w X.K X.mg X.base CX k f fd ps sp) (hr : Room k X.A) (hg : Gl X x) (hm : X.mg x = some (.ref f)) (hk : PySem.W.keepIn X.K (.ref f) = true) (hb : Binds X.K fd ps ds) (hd : Vals dvs ds) (hx : Passes CX X E)
    (ha : PA X (e :: es) t) (hdb : (x == ("__debug__" : Str)) = false := by decide) (he : starEach (e :: es) X.env = (false, eval e X.env) :: starEach es X.env := by rfl) (hpl : (backTo pos (starEach es X.env)).any (·.1) = false := by rfl) :
    PE X (.Call (.Name x p) (e :: es) [] pos) (tCall sp dvs E t) := by
  intro pins s σ H Q I h
  refine wpAny_Call_Name_kw (ld_glob I hg hm ?_ hdb)
  refine PySem.W.callWith_K (h₀ := X.base) I.ok.mod.kin hk (thn (ha pos pins s σ H _ I h) fun us s1 ⟨vs, H1, I1, r, q⟩ => ⟨I1.kIn, ?_⟩) he hpl
  exact run_fn F hr hb hd hx I1 r q
/-- what a class must have to be made -/
structure Mk (K : PySem.W.Frag) (C f : Addr) : Prop where
  makes : PySem.W.makesIn K C = true
  init : PySem.W.findIn K (.ref C) "__init__" = some (some (.ref f))
  fn : PySem.W.isFn K (.ref f) = true
  kp : PySem.W.keepIn K (.ref C) = true

theorem run_make {pins : List (Addr × Obj)} {σ : St} {H : Hp} {s : Shared} {Q : VK} {us : List Value} {vs : List V} (M : Mk X.K C f) (F : FnOk X.prog X.w X.K X.mg X.base CX k f fd ps sp) (hr : Room (k + 1) X.A) (hb : Binds X.K fd ps ds) (hd : Vals dvs ds)
    (hx : Passes CX X E) (I : Inv X pins σ H s) (r : Vals vs us)
    (h : ∀ x dx, H x = none → H dx = none → dx ≠ x → sp (.ref x :: (vs ++ dvs)) (upd (upd H dx (.own x)) x (.ins C dx [])) (fun v H2 => v = .non ∧ Q (.ref x) H2) E) :
    wpAny (model X.prog X.w) X.A (call (.ref C) us) (EP X pins σ Q) X.xe s := by
  have hq := h (s.heap.objs.size + 1) s.heap.objs.size (I.hok.fresh (Nat.le_succ _)) (I.hok.fresh (Nat.le_refl _)) (Nat.ne_of_lt (Nat.lt_succ_self _))
  have I2 := Inv.made (C := C) I
  have r2 : Vals (V.ref (s.heap.objs.size + 1) :: (vs ++ dvs)) (Value.ref (s.heap.objs.size + 1) :: (us ++ ds)) := .cons rfl (r.append hd)
  have hl : (Value.ref (s.heap.objs.size + 1) :: us ++ ds).length = ps.length := by
    have e := r2.length
    rw [F.len _ _ _ _ hq] at e
    exact e.symm
  refine wpAny_call (make_map (f := f) I.kIn M.makes M.init (beq_iff_eq.mp M.fn) (codeAny_mono (F.run _ X.stack _ _ ⟨Value.ref (s.heap.objs.size + 1) :: us, []⟩ (Value.ref (s.heap.objs.size + 1) :: (us ++ ds)) _ _ E (hr.make C us [])
    (I2.env0.make C us []) (hb _ (Value.ref (s.heap.objs.size + 1) :: us) I2.kIn hl) r2 hq) fun r s' hq' => ?_))
  cases r with
  | error e => exact hx pins σ _ _ e s' I2 hq'
  | ok fl =>
    cases fl with
    | ret u =>
      obtain ⟨v, H', I3, rv, ev, q3⟩ := I2.after hq'
      subst ev
      exact ⟨rv, ⟨V.ref (s.heap.objs.size + 1), H', I3, rfl, q3⟩⟩
    | next => exact False.elim hq'
    | brk => exact False.elim hq'
    | cont => exact False.elim hq'
theorem pe_make (M : Mk X.K C f) (F : FnOk X.prog X.w X.K X.mg X.base CX k f fd ps sp) (hr : Room (k + 1) X.A) (hg : Gl X x) (hm : X.mg x = some (.ref C)) (hb : Binds X.K fd ps ds) (hd : Vals dvs ds) (hx : Passes CX X E)
    (ha : PA X (e :: es) t) (hdb : (x == ("__debug__" : Str)) = false := by decide) (he : starEach (e :: es) X.env = (false, eval e X.env) :: starEach es X.env := by rfl) (hpl : (backTo pos (starEach es X.env)).any (·.1) = false := by rfl) :
    PE X (.Call (.Name x p) (e :: es) [] pos) (tMake C sp dvs E t) := by
  intro pins s σ H Q I h
  refine wpAny_Call_Name_kw (ld_glob I hg hm ?_ hdb)
  refine PySem.W.callWith_K (h₀ := X.base) I.ok.mod.kin M.kp (thn (ha pos pins s σ H _ I h) fun us s1 ⟨vs, H1, I1, r, q⟩ => ⟨I1.kIn, ?_⟩) he hpl
  exact run_make M F hr hb hd hx I1 r q
theorem pe_make0 (M : Mk X.K C f) (F : FnOk X.prog X.w X.K X.mg X.base CX k f fd ps sp) (hr : Room (k + 1) X.A) (hg : Gl X x) (hm : X.mg x = some (.ref C)) (hb : Binds X.K fd ps ds) (hd : Vals dvs ds) (hx : Passes CX X E)
    (hdb : (x == ("__debug__" : Str)) = false := by decide) : PE X (.Call (.Name x p) [] [] pos) (tMake C sp dvs E tNil) := by
  intro pins s σ H Q I h
  refine wpAny_Call_Name_kw (ld_glob I hg hm ?_ hdb)
  exact PySem.W.callWith_K0 I.kIn M.kp (run_make (us := []) M F hr hb hd hx I .nil h)
end

section
variable {X : Cx} {CX : CXT} {k : Nat} {f C : Addr} {fd : FuncData} {ps ks : List Str} {sp : Sp} {E : XK} {x m : Str} {p pos apos kpos : Pos} {e o : Expr} {es : List Expr} {kws : List Keyword} {te ta : TE} {t tk : TA} {nm : Option Str}
variable {g : List Value → List Value → List Value} {gV : List V → List V → List V}
end

/-- names: the parameters first -/
structure FnScope (N P : List Str) (sc : Scope) : Prop where
  kind : sc.kind = .function
  co : sc.isCoroutine = false
  gen : sc.isGenerator = false
  nd : N.Nodup
  pre : N.take P.length = P
  par : ∀ x ∈ P, sc.names.lookup x = some .local ∨ sc.names.lookup x = some .cell
  nofree : ∀ y ∈ sc.names, y.2 ≠ .free

theorem bindL_out {kindOf : Str → Option NameKind} {x : Str} : ∀ {binds : List (Str × Value)} {m : Str → Option Value}, (∀ v, (x, v) ∉ binds) → bindL kindOf binds m x = m x
  | [], _, _ => rfl
  | (n, v) :: r, m, h => by
    unfold bindL
    rw [bindL_out fun w hw => h w (List.mem_cons_of_mem _ hw)]
    split
    · have : x ≠ n := by rintro rfl; exact h v List.mem_cons_self
      simp [this]
    · rfl
theorem bindC_out {kindOf : Str → Option NameKind} {x : Str} : ∀ {binds : List (Str × Value)} {m : Str → Option Value}, (∀ v, (x, v) ∉ binds) → bindC kindOf binds m x = m x
  | [], _, _ => rfl
  | (n, v) :: r, m, h => by
    unfold bindC
    rw [bindC_out fun w hw => h w (List.mem_cons_of_mem _ hw)]
    split
    · rfl
    · have : x ≠ n := by rintro rfl; exact h v List.mem_cons_self
      simp [this]
theorem bindL_get {kindOf : Str → Option NameKind} {x : Str} {v : Value} : ∀ {P : List Str} {vs : List Value} {i : Nat} {m : Str → Option Value}, P.Nodup → P[i]? = some x → vs[i]? = some v → kindOf x = some .local →
    bindL kindOf (P.zip vs) m x = some v
  | [], _, _, _, _, h, _, _ => by simp at h
  | _ :: _, [], _, _, _, _, h, _ => by simp at h
  | p :: P, w :: vs, 0, m, nd, h1, h2, hk => by
    simp at h1 h2; subst h1; subst h2
    show bindL kindOf ((p, w) :: P.zip vs) m p = _
    unfold bindL
    rw [bindL_out fun v hv => (List.nodup_cons.mp nd).1 (List.of_mem_zip hv).1, if_pos hk]
    simp
  | p :: P, w :: vs, i + 1, m, nd, h1, h2, hk => by
    show bindL kindOf ((p, w) :: P.zip vs) m x = _
    unfold bindL
    exact bindL_get (i := i) (List.nodup_cons.mp nd).2 (by simpa using h1) (by simpa using h2) hk
theorem bindC_get {kindOf : Str → Option NameKind} {x : Str} {v : Value} : ∀ {P : List Str} {vs : List Value} {i : Nat} {m : Str → Option Value}, P.Nodup → P[i]? = some x → vs[i]? = some v → kindOf x ≠ some .local →
    bindC kindOf (P.zip vs) m x = some v
  | [], _, _, _, _, h, _, _ => by simp at h
  | _ :: _, [], _, _, _, _, h, _ => by simp at h
  | p :: P, w :: vs, 0, m, nd, h1, h2, hk => by
    simp at h1 h2; subst h1; subst h2
    show bindC kindOf ((p, w) :: P.zip vs) m p = _
    unfold bindC
    rw [bindC_out fun v hv => (List.nodup_cons.mp nd).1 (List.of_mem_zip hv).1, if_neg hk]
    simp
  | p :: P, w :: vs, i + 1, m, nd, h1, h2, hk => by
    show bindC kindOf ((p, w) :: P.zip vs) m x = _
    unfold bindC
    exact bindC_get (i := i) (List.nodup_cons.mp nd).2 (by simpa using h1) (by simpa using h2) hk

/-- the names' values at the entry -/
def start (N : List Str) (vs : List V) : St := vs.map some ++ List.replicate (N.length - vs.length) none

/-- the context of a def's body, at its entry; an exception leaves the frame, then lies as CX says -/
def cxOf (CX : CXT) (P : Program) (w : World) (K : PySem.W.Frag) (mg : Str → Option Value) (base : Heap) (N : List Str) (qual : Str) (scope : Scope) (f : Addr) (cd : Value) (A : Around) (outer : List Env) (s : Shared) (H : Hp) (E : XK) : Cx where
  prog := P
  w := w
  K := K
  mg := mg
  base := base
  A := A.deeper (envOfC qual scope s.heap.objs.size f cd)
  N := N
  s₀ := s
  H₀ := H
  env := envOfC qual scope s.heap.objs.size f cd
  outer := outer
  stack := envOfC qual scope s.heap.objs.size f cd :: outer
  ex := []
  calm := true
  fn := fun _ => true
  pn := []
  xe := fun e s' => wpAny (model P w) (A.deeper (envOfC qual scope s.heap.objs.size f cd)) (leaving (envOfC qual scope s.heap.objs.size f cd) e) (fun _ s'' => CX outer H s E e s'') (fun e' s'' => CX outer H s E e' s'') s'

theorem cell_has {sc : Scope} {n : Nat} {x : Str} (h : sc.names.lookup x = some .cell) : ∃ c, (cellsFrom n sc.names []).lookup x = some c := by
  have q := PySem.W.cellsFrom_some sc.names n [] (.inl h)
  exact Option.isSome_iff_exists.mp q

theorem inv_start {CX : CXT} {P : Program} {w : World} {K : PySem.W.Frag} {mg : Str → Option Value} {base : Heap} {N ps : List Str} {qual : Str} {scope : Scope} {f : Addr} {cd : Value} {A : Around} {outer : List Env} {s s1 : Shared} {H : Hp} {E : XK} {us : List Value} {vs : List V}
    (S : FnScope N ps scope) (hd : A.handled = none) (e0 : Env0 P w K mg base A outer s H) (hl : vs.length = ps.length) (r : Vals vs us)
    (x : InCallC s s.heap.objs.size (bindL (envOfC qual scope s.heap.objs.size f cd).kindOf (ps.zip us) fun _ => none) (cellsFrom (s.heap.objs.size + 1) scope.names []) (bindC (envOfC qual scope s.heap.objs.size f cd).kindOf (ps.zip us) fun _ => none) s1) :
    Inv (cxOf CX P w K mg base N qual scope f cd A outer s H E) [] (start N vs) H s1 := by
  have hpl : ps.length ≤ N.length := by have := congrArg List.length S.pre; rw [List.length_take] at this; omega
  obtain ⟨h1, tk, rfl, hk⟩ := x.done
  have noA : ∀ b : Addr, b ∉ (cxOf CX P w K mg base N qual scope f cd A outer s H E).ex := fun b z => absurd (show b ∈ ([] : List Addr) from z) (by simp)
  refine ⟨⟨e0.mod, S.kind, rfl, rfl, Nat.le_refl _, fun y z c h1 h2 => ?_, fun y hy => ?_, fun y c _ h => ?_, fun _ => hd, Around.frames_deeper e0.frames, .inr ⟨rfl, rfl⟩, fun b z => absurd z (noA b), e0.bs, e0.bsz, fun b _ _ => noA b, fun b z => absurd z (noA b), e0.funs, e0.frf⟩,
    rfl, e0.bare, Un.kept hk, ⟨_, x.toInCall.ns, fun i y v h1 h2 h3 => ?_⟩, fun y c h => ⟨_, x.cell y c h⟩, e0.hok.fresh (Nat.le_refl _), fun y c h => ?_, fun p hp => absurd (show p ∈ ([] : List (Addr × Obj)) from hp) (by simp), e0.hok.kept hk, ?_⟩
  · exact name_of_addr x.apart (PySem.mem_of_lookup h1) (PySem.mem_of_lookup h2)
  · have hy : scope.names.lookup y = some .cell ∨ scope.names.lookup y = some .free := hy
    rcases hy with hy | hy
    · exact cell_has hy
    · exact absurd rfl (S.nofree _ (PySem.mem_of_lookup hy))
  · exact Nat.le_of_lt (x.above y c (PySem.mem_of_lookup h))
  · have hi : i < vs.length := by
      unfold start at h2
      by_cases hi : i < vs.length
      · exact hi
      · rw [List.getElem?_append_right (by simpa using hi)] at h2
        rw [List.getElem?_replicate] at h2
        split at h2 <;> cases h2
    have ha : vs[i]? = some v := by
      unfold start at h2
      rw [List.getElem?_append_left (by simpa using hi), List.getElem?_map] at h2
      cases e : vs[i]? with
      | none => rw [e] at h2; cases h2
      | some a => rw [e] at h2; cases h2; rfl
    obtain ⟨u, hu, rv⟩ := r.get ha
    have hp : ps[i]? = some y := by
      rw [← S.pre, List.getElem?_take_of_lt (by omega)]; exact h1
    have ndP : ps.Nodup := by rw [← S.pre]; exact S.nd.sublist (List.take_sublist _ _)
    refine ⟨u, rv, ?_⟩
    rcases S.par y (List.mem_of_getElem? hp) with k | k
    · exact .inl ⟨k, bindL_get ndP hp hu k⟩
    · obtain ⟨c, e⟩ := cell_has (n := s.heap.objs.size + 1) k
      refine .inr ⟨.inl k, c, e, ?_⟩
      have q := x.cell y c e
      rw [bindC_get ndP hp hu (by show scope.names.lookup y ≠ _; rw [k]; decide)] at q
      exact q
  · exact e0.hok.fresh (Nat.le_of_lt (x.above y c (PySem.mem_of_lookup h)))
  · unfold start
    show _ = N.length
    rw [List.length_append, List.length_map, List.length_replicate]
    omega

/-- THE RULE: a def (or a method) of the text, by its body. The body's reading t is chosen for each entry; it is run at the parameters' values -/
theorem fn_of {CX : CXT} {P : Program} {w : World} {K : PySem.W.Frag} {mg : Str → Option Value} {base : Heap} {k : Nat} {f : Addr} {name qual : Str} {params : Arguments} {body : List Stmt} {scope : Scope} {dV kV doc pm cdv ct oc : Value} {an od : Option Addr}
    {osl : Array (Option Value)} {N ps : List Str} {sp : Sp} (lk : K.lookup f = some ⟨oc, od, .func (PySem.W.fnOf name qual params body scope dV kV doc pm an cdv ct), osl⟩) (hcd : PySem.W.codeIn K cdv qual = true) (S : FnScope N ps scope)
    (len : ∀ vs H Q E, sp vs H Q E → vs.length = ps.length)
    (hbody : ∀ (A : Around) (outer : List Env) (s : Shared) (H : Hp) (vs : List V) (Q : VK) (E : XK), Room k (A.deeper (envOfC qual scope s.heap.objs.size f cdv)) → sp vs H Q E →
      ∃ t, PSs (cxOf CX P w K mg base N qual scope f cdv A outer s H E) body t ∧ t { nx := fun _ H' => Q .non H', rt := Q } (start N vs) H) :
    FnOk P w K mg base CX (k + 1) f (PySem.W.fnOf name qual params body scope dV kV doc pm an cdv ct) ps sp := by
  refine ⟨len, fun A outer s H args us vs Q E hr e0 hb r hsp => ?_⟩
  have hl := len _ _ _ _ hsp
  have KX : K.In s.heap := e0.mod.kin.keeps fun b o e => (e0.bs b o e).1
  have lim : s.heap.NoLimit := e0.mod.nolimit.keeps fun b o e => (e0.bs b o e).1
  have hkind : ∀ y ∈ ps.zip us, scope.names.lookup y.1 = some .local ∨ (scope.names.lookup y.1 = some .cell ∧ ((cellsFrom (s.heap.objs.size + 1) scope.names []).lookup y.1).isSome = true) := fun ⟨n, v⟩ hy => by
    rcases S.par n (List.of_mem_zip hy).1 with q | q
    · exact .inl q
    · exact .inr ⟨q, PySem.W.cellsFrom_some _ _ _ (.inl q)⟩
  refine codeAny_call_function hr.depth (KX _ _ lk) rfl S.co S.gen rfl (PySem.W.codeRec_of KX hcd) (hb _ _ _ _ ?_)
  refine wpAny_newFunctionEnv_cells S.kind hkind fun env he s1 x => ?_
  subst he
  refine ⟨lim.keeps x.toInCall.keep, codeAny_func ?_⟩
  obtain ⟨t, ht, hq⟩ := hbody A outer s H vs Q E (hr.deeper _) hsp
  have I : Inv (cxOf CX P w K mg base N qual scope f cdv A outer s H E) [] (start N vs) H s1 := inv_start S hr.hd e0 hl r x
  refine wpAny_mono (ht [] s1 (start N vs) H _ I hq) (fun fl s' hs => ?_) fun e s' hs => hs
  have fin : ∀ {σ' : St} {H' : Hp} {v : V} {u : Value}, Inv (cxOf CX P w K mg base N qual scope f cdv A outer s H E) [] σ' H' s' → RelV v u → Q v H' → CE outer P w H s Q u s' :=
    fun {σ' H' v u} J rv q => ⟨v, H', J.os, J.bare, J.base, J.hok, rv, q⟩
  cases fl with
  | ret u =>
    obtain ⟨v, σ', H', J, rv, q⟩ := hs
    exact fin J rv q
  | next =>
    obtain ⟨σ', H', J, q⟩ := hs
    exact fin (v := V.non) (u := Value.none) J rfl q
  | brk =>
    obtain ⟨_, _, _, q⟩ := hs
    exact False.elim q
  | cont =>
    obtain ⟨_, _, _, q⟩ := hs
    exact False.elim q
end L2

namespace L2
open PySem PySem.Spec PyProof.Rows
section
variable {X : Cx} {x : Str} {p pos : Pos} {e : Expr} {es : List Expr} {t : TA} {id T : String} {r : List V → Hp → VK → Prop}

def tCB (r : List V → Hp → VK → Prop) (t : TA) : TE := fun σ H Q => t σ H fun vs H1 => r vs H1 Q
/-- f(e, ..), f a built-in function -/
theorem pe_callB (hc : CallR X (.builtin id) r) (hg : Gl X x) (hm : X.mg x = none) (hv : bootBuiltins x = some (.builtin id)) (ha : PA X (e :: es) t) (hn : x ≠ "__name__" := by decide) (hdb : (x == ("__debug__" : Str)) = false := by decide)
    (he : starEach (e :: es) X.env = (false, eval e X.env) :: starEach es X.env := by rfl) (hpl : (backTo pos (starEach es X.env)).any (·.1) = false := by rfl) : PE X (.Call (.Name x p) (e :: es) [] pos) (tCB r t) := by
  intro pins s σ H Q I h
  refine wpAny_Call_Name_kw (ld_blt I hg hm hv ?_ hn hdb)
  exact PyProof.Rows.callWith_builtin1 (thn (ha pos pins s σ H _ I h) fun us s1 ⟨vs, H1, I1, r1, q1⟩ => hc pins s1 σ H1 vs us Q I1 r1 q1) he hpl
/-- T(e, ..), T a built-in type -/
theorem pe_callTy (hc : CallR X (.type T) r) (hg : Gl X x) (hm : X.mg x = none) (hv : bootBuiltins x = some (.type T)) (ha : PA X (e :: es) t) (hn : x ≠ "__name__" := by decide) (hdb : (x == ("__debug__" : Str)) = false := by decide)
    (he : starEach (e :: es) X.env = (false, eval e X.env) :: starEach es X.env := by rfl) (hpl : (backTo pos (starEach es X.env)).any (·.1) = false := by rfl) : PE X (.Call (.Name x p) (e :: es) [] pos) (tCB r t) := by
  intro pins s σ H Q I h
  refine wpAny_Call_Name_kw (ld_blt I hg hm hv ?_ hn hdb)
  exact PyProof.Rows.callWith_type1 (thn (ha pos pins s σ H _ I h) fun us s1 ⟨vs, H1, I1, r1, q1⟩ => hc pins s1 σ H1 vs us Q I1 r1 q1) he hpl
end
end L2

namespace HT
open PySem PyProof.Rows

section
open PySem.SeqAt
open PySem.AutoSeq1 (wpAny_loadPart')
open PySem.MeetsSeq PySem.MeetsSeq2 PySem.MeetsSeq3

end

section
variable {prog : Program} {w : World} {A : Around} {E : Value → Shared → Prop} {s : Shared}

/-- a slice's bound as a place among n (d where it is left out) -/
def sIx (n d : Nat) : Option Int → Nat
  | none => d
  | some v => if v < 0 then (v + (n : Int)).toNat else min v.toNat n
end
end HT

namespace L2
open PySem PySem.Spec PyProof.Rows

abbrev TO := St → Hp → (Option Int → Hp → Prop) → Prop
/-- a slice's part (left out, or an int) -/
def PO (X : Cx) (e : Option Expr) (t : TO) : Prop :=
  ∀ (pins : List (Addr × Obj)) (s : Shared) (σ : St) (H : Hp) (Q : Option Int → Hp → Prop), Inv X pins σ H s → t σ H Q →
    wpAny (model X.prog X.w) X.A (evalPart e X.env) (fun u s' => ∃ o H', Inv X pins σ H' s' ∧ IsPart u o ∧ Q o H') X.xe s
def tNoPart : TO := fun _ H Q => Q none H
def tPart (t : TE) : TO := fun σ H Q => t σ H fun x H1 => ∃ i, x = .int i ∧ Q (some i) H1

section
variable {X : Cx} {e : Expr} {te : TE} {lo hi : Option Expr} {tl th : TO} {pos p2 : Pos}

theorem po_none : PO X none tNoPart := by
  intro pins s σ H Q I h
  rw [evalPart_none]
  exact wpAny_pure ⟨none, H, I, .none, h⟩
theorem po_some (h : PE X e te) : PO X (some e) (tPart te) := by
  intro pins s σ H Q I hw
  rw [evalPart_some]
  refine thn (h pins s σ H _ I hw) fun u s1 ⟨x, H1, I1, r1, q1⟩ => ?_
  obtain ⟨i, rfl, q⟩ := q1
  obtain ⟨t, rfl⟩ := r1
  exact ⟨some i, H1, I1, .int i t, q⟩

/-- what a slice of a value is, by values: the slice object stands at sl -/
def SlR (X : Cx) (r : V → Option Int → Option Int → Hp → VK → Prop) : Prop :=
  ∀ (pins : List (Addr × Obj)) (s : Shared) (σ : St) (H : Hp) (x : V) (v vl vu : Value) (lo hi : Option Int) (sl : Addr) (Q : VK), Inv X pins σ H s → RelV x v → s.heap.IsSliceOf sl vl vu .none → IsPart vl lo → IsPart vu hi → r x lo hi H Q →
    ∃ T id, typeLookup (.type T) "__getitem__" = pure (some (.builtin id)) ∧ s.TypeIs v T ∧ wpAny (model X.prog X.w) X.A (getItem v (.ref sl)) (EP X pins σ Q) X.xe s
def tSl (r : V → Option Int → Option Int → Hp → VK → Prop) (te : TE) (tl th : TO) : TE := fun σ H Q => te σ H fun x H1 => tl σ H1 fun l H2 => th σ H2 fun u H3 => r x l u H3 Q
/-- a[lo:hi], any a -/
theorem pe_slice {r : V → Option Int → Option Int → Hp → VK → Prop} (hr : SlR X r) (he : PE X e te) (hl : PO X lo tl) (hu : PO X hi th) : PE X (.Subscript e (.Slice lo hi none p2) pos) (tSl r te tl th) := by
  intro pins s σ H Q I h
  refine Subscript_ (thn (he pins s σ H _ I h) fun v s1 ⟨x, H1, I1, r1, q1⟩ => ?_)
  refine wpAny_Slice (thn (hl pins s1 σ H1 _ I1 q1) fun vl s2 ⟨l, H2, I2, pl, q2⟩ => thn (hu pins s2 σ H2 _ I2 q2) fun vu s3 ⟨u, H3, I3, pu, q3⟩ => ?_)
  rw [evalPart_none]
  refine wpAny_pure ?_
  have I4 : Inv X pins σ H3 { s3 with heap := s3.heap.push { cls := .type "slice", data := .fields #[vl, vu, .none] } } := I3.kept (t' := s3.toks) fun b ob q => Heap.get?_push_of_some _ q
  obtain ⟨T, id, hT, ht, hg⟩ := hr pins { s3 with heap := s3.heap.push { cls := .type "slice", data := .fields #[vl, vu, .none] } } σ H3 x v vl vu l u s3.heap.objs.size Q I4 r1 (Heap.IsSliceOf.new ..) pl pu q3
  show wpAny (model X.prog X.w) X.A (subscriptTail e (.Slice lo hi none p2) v (.ref s3.heap.objs.size)) (EP X pins σ Q) X.xe { s3 with heap := s3.heap.push { cls := .type "slice", data := .fields #[vl, vu, .none] } }
  exact tail_any (ops := [.ref s3.heap.objs.size, v]) ht hT hg (by with_unfolding_all rfl)

/-- the items of xs[lo:hi] -/
def cutV (xs : List V) (lo hi : Option Int) : List V := (xs.drop (HT.sIx xs.length 0 lo)).take (HT.sIx xs.length xs.length hi - HT.sIx xs.length 0 lo)
theorem cutV_length (xs : List V) (lo hi : Option Int) : (cutV xs lo hi).length ≤ xs.length := by
  unfold cutV
  rw [List.length_take, List.length_drop]
  omega
end
end L2

namespace L2
open PySem PySem.Spec PyProof.Rows

/-- the place that an index of any sign means -/
def ixN (n : Nat) (i : Int) : Option Nat := if 0 ≤ i then (if i < n then some i.toNat else none) else if -(n : Int) ≤ i then some (i + n).toNat else none
def atI {α : Type} (xs : List α) (i : Int) : Option α := (ixN xs.length i).bind fun j => xs[j]?
theorem ixN_seq {n : Nat} {i : Int} {j : Nat} (h : ixN n i = some j) : seqIndex? i n = some j ∧ j < n ∧ -(n : Int) ≤ i ∧ i < n := by
  unfold ixN at h
  by_cases h0 : 0 ≤ i
  · rw [if_pos h0] at h
    by_cases h1 : i < n
    · rw [if_pos h1] at h
      have e : i.toNat = j := Option.some.inj h
      exact ⟨by rw [seqIndex_of h0 h1, e], by omega, by omega, h1⟩
    · rw [if_neg h1] at h; cases h
  · rw [if_neg h0] at h
    by_cases h1 : -(n : Int) ≤ i
    · rw [if_pos h1] at h
      have e : (i + n).toNat = j := Option.some.inj h
      exact ⟨by rw [seqIndex_neg (by omega) h1, e], by omega, h1, by omega⟩
    · rw [if_neg h1] at h; cases h
theorem atI_get {α : Type} {xs : List α} {i : Int} {v : α} (h : atI xs i = some v) : ∃ j, seqIndex? i xs.length = some j ∧ xs[j]? = some v ∧ j < xs.length ∧ -(xs.length : Int) ≤ i ∧ i < xs.length := by
  unfold atI at h
  cases e : ixN xs.length i with
  | none => rw [e] at h; cases h
  | some j =>
    rw [e] at h
    obtain ⟨h1, h2, h3, h4⟩ := ixN_seq e
    exact ⟨j, h1, h, h2, h3, h4⟩
theorem atI_nat {α : Type} {xs : List α} {j : Nat} {v : α} (h : xs[j]? = some v) : atI xs (j : Int) = some v := by
  have hj : j < xs.length := (List.getElem?_eq_some_iff.mp h).1
  have e : ixN xs.length (j : Int) = some j := by
    unfold ixN
    rw [if_pos (by omega), if_pos (by omega)]; simp
  unfold atI; rw [e]; exact h
/-- what stands as an index of a plain subscript -/
def PlainIx (b : Expr) : Prop := ∀ o i, subscripted b false o i = operate [o, i] (getItem o i)
/-- a subscript by values -/
def IxR (X : Cx) (r : R2) : Prop :=
  ∀ (value slice : Expr) (pins : List (Addr × Obj)) (s : Shared) (σ : St) (H : Hp) (x y : V) (v u : Value) (Q : VK), Inv X pins σ H s → RelV x v → RelV y u → r x y H Q →
    subscripted slice false v u = operate [v, u] (getItem v u) → wpAny (model X.prog X.w) X.A (subscriptTail value slice v u) (EP X pins σ Q) X.xe s
/-- a call of a builtin's method by values: the receiver, the arguments -/
def MtR (X : Cx) (id : String) (r : V → List V → Hp → VK → Prop) : Prop :=
  ∀ (pins : List (Addr × Obj)) (s : Shared) (σ : St) (H : Hp) (x : V) (xs : List V) (v : Value) (us : List Value) (Q : VK), Inv X pins σ H s → RelV x v → Vals xs us → r x xs H Q →
    wpAny (model X.prog X.w) X.A (call (.builtin id) (v :: us)) (EP X pins σ Q) X.xe s
section
variable {X : Cx} {a b : Expr} {ta tb : TE} {pos : Pos}
/-- a[b] -/
theorem pe_ix {r : R2} (hr : IxR X r) (ha : PE X a ta) (hb : PE X b tb) (hs : PlainIx b) : PE X (.Subscript a b pos) (tOp r ta tb) := by
  intro pins s σ H Q I h
  exact Subscript_ (binT ha hb I h fun v u s2 x y H2 I2 rx ry q => hr a b pins s2 σ H2 x y v u Q I2 rx ry q (hs _ _))

def rIxL (K : PySem.W.Frag) : R2 := fun x y H Q => ∃ p xs i v, x = .ref p ∧ y = .int i ∧ SqL K H p xs ∧ atI xs i = some v ∧ Q v H
def rIxT (K : PySem.W.Frag) : R2 := fun x y H Q => ∃ p xs i v, x = .ref p ∧ y = .int i ∧ SqT K H p xs ∧ atI xs i = some v ∧ Q v H
def rIxS : R2 := fun x y H Q => ∃ z i c, x = .str z ∧ y = .int i ∧ z.length ≤ sizeLine ∧ atI z.cps.toList i = some c ∧ Q (.str ⟨#[c]⟩) H
theorem ix_list : IxR X (rIxL X.K) := by
  intro value slice pins s σ H x y v u Q I rx ry h hs
  obtain ⟨p, xs, i, z, rfl, rfl, hq, he, q⟩ := h
  cases rx
  obtain ⟨t, rfl⟩ := ry
  obtain ⟨its, r, pl, hz⟩ := I.list hq
  obtain ⟨j, h1, h2, h3, h4, h5⟩ := atI_get he
  obtain ⟨w, ew, rw'⟩ := r.get h2
  have hl := r.length
  have hn := line63
  have fin : EP X pins σ Q w s := ⟨z, H, I, rw', q⟩
  by_cases h0 : 0 ≤ i
  · have hj : i.toNat = j := by
      rw [seqIndex_of h0 h5] at h1
      exact Option.some.inj h1
    exact item_listR pl.isList h0 (by omega) (by rw [hj]; simpa using ew) fin hs
  · have hj : (i + (its.toArray.size : Int)).toNat = j := by
      rw [seqIndex_neg (by omega) h4] at h1
      rw [List.size_toArray, ← hl]
      exact Option.some.inj h1
    exact subscriptTail_builtinR (x := w) pl.isList.typeIs slot_list_getitem.lookup
      (wpAny_getItem_list_neg (Q := fun r s' => r = w ∧ EP X pins σ Q r s') pl.isList (by omega) (by rw [List.size_toArray] <;> omega) (by omega) (by rw [hj]; simpa using ew) ⟨rfl, fin⟩) hs
theorem ix_tup : IxR X (rIxT X.K) := by
  intro value slice pins s σ H x y v u Q I rx ry h hs
  obtain ⟨p, xs, i, z, rfl, rfl, hq, he, q⟩ := h
  cases rx
  obtain ⟨t, rfl⟩ := ry
  obtain ⟨its, r, pl, hz⟩ := I.tuple hq
  obtain ⟨j, h1, h2, h3, h4, h5⟩ := atI_get he
  obtain ⟨w, ew, rw'⟩ := r.get h2
  have hl := r.length
  have hn := line63
  have fin : EP X pins σ Q w s := ⟨z, H, I, rw', q⟩
  exact subscriptTail_builtinR (x := w) pl.typeIs slot_tuple_getitem.lookup
    (getItem_tuple (j := j) (Q := fun r s' => r = w ∧ EP X pins σ Q r s') pl (by omega) (by omega) (by rw [List.size_toArray, ← hl]; exact h1) (by simpa using ew) ⟨rfl, fin⟩) hs
/-- the list's object behind a store -/
theorem mapSeq_set (its : List Value) (n j : Nat) (u : Value) : Obj.mapSeq (·.setIfInBounds j u) { cls := .type "list", data := .seq its.toArray n } = { cls := .type "list", data := .seq (its.set j u).toArray n } := by
  simp [Obj.mapSeq]
theorem Inv.lst {pins : List (Addr × Obj)} {σ : St} {H : Hp} {s : Shared} {p : Addr} {xs : List V} (I : Inv X pins σ H s) (h : H p = some (.lst xs)) :
    ∃ (its : List Value) (n : Nat), Vals xs its ∧ s.heap.get? p = some { cls := .type "list", data := .seq its.toArray n } ∧ xs.length ≤ sizeLine := by
  obtain ⟨z, its, n, r, e⟩ := I.hok p _ h
  exact ⟨its, n, r, e, z⟩
/-- the list at p is written by an update of its object -/
theorem Inv.lstUpd {pins : List (Addr × Obj)} {σ : St} {H : Hp} {s : Shared} {p : Addr} {xs ys : List V} {its its' : List Value} {n n' : Nat} {f : Obj → Obj} (I : Inv X pins σ H s) (h : H p = some (.lst xs))
    (ho : s.heap.get? p = some { cls := .type "list", data := .seq its.toArray n }) (hf : f { cls := .type "list", data := .seq its.toArray n } = { cls := .type "list", data := .seq its'.toArray n' }) (r : Vals ys its') (hz : ys.length ≤ sizeLine) (t : Nat) :
    Inv X pins σ (upd H p (.lst ys)) { s with heap := s.heap.update p f, toks := t } := by
  have e : (s.heap.update p f).get? p = some { cls := .type "list", data := .seq its'.toArray n' } := by
    rw [Heap.get?_update_self f ho (by rw [hf] <;> rfl), hf]
  refine I.write (x := p) (e := p) (by rw [h]; trivial) (.inl rfl) (fun b u hb q => (Heap.get?_update_other _ _ (Ne.symm hb)).trans q) ⟨_, e⟩ ?_
  exact ⟨hz, its', n', r, e⟩
def rSetL : V → V → V → Hp → (Hp → Prop) → Prop := fun o i v H Q => ∃ p xs k j, o = .ref p ∧ i = .int k ∧ H p = some (.lst xs) ∧ ixN xs.length k = some j ∧ Q (upd H p (.lst (xs.set j v)))
theorem set_list : PSet X rSetL := by
  intro pins s σ H o i v ov iv u Q I ro ri rv h
  obtain ⟨p, xs, k, j, rfl, rfl, hp, hj, q⟩ := h
  cases ro
  obtain ⟨t, rfl⟩ := ri
  obtain ⟨its, n, r, ho, hz⟩ := I.lst hp
  obtain ⟨h1, h2, h3, h4⟩ := ixN_seq hj
  have hl := r.length
  have hn := line63
  have I' : Inv X pins σ (upd H p (.lst (xs.set j v))) { s with heap := s.heap.update p (Obj.mapSeq (·.setIfInBounds j u)) } :=
    I.lstUpd hp ho (mapSeq_set its n j u) (r.set rv j) (by rw [List.length_set]; exact hz) s.toks
  by_cases h0 : 0 ≤ k
  · have hk : k.toNat = j := by
      rw [seqIndex_of h0 h4] at h1
      exact Option.some.inj h1
    exact PySem.W.ki_setAt ho h0 (by omega) (by rw [List.size_toArray, ← hl]; exact h4) (by rw [hk]; exact ⟨_, I', q⟩)
  · have hk : (k + (its.toArray.size : Int)).toNat = j := by
      rw [seqIndex_neg (by omega) h3] at h1
      rw [List.size_toArray, ← hl]
      exact Option.some.inj h1
    exact PySem.W.ki_setBack ho (by omega) (by rw [List.size_toArray, ← hl]; exact h3) (by omega) (by rw [hk]; exact ⟨_, I', q⟩)

theorem slice_bounds (lo hi : Option Int) (n : Nat) : (sliceBounds lo hi none n).1 = ((HT.sIx n 0 lo : Nat) : Int) ∧ (sliceBounds lo hi none n).2.1 = ((HT.sIx n n hi : Nat) : Int) ∧ (sliceBounds lo hi none n).2.2 = 1 := by
  refine ⟨?_, ?_, rfl⟩
  · cases lo with
    | none => simp [sliceBounds, HT.sIx]
    | some i =>
      simp only [sliceBounds, HT.sIx, Option.getD_none, show (1 : Int) > 0 by decide, if_true]
      by_cases h : i < 0
      · simp only [h, if_true] <;> omega
      · simp only [h, if_false] <;> omega
  · cases hi with
    | none => simp [sliceBounds, HT.sIx]
    | some i =>
      simp only [sliceBounds, HT.sIx, Option.getD_none, show (1 : Int) > 0 by decide, if_true]
      by_cases h : i < 0
      · simp only [h, if_true] <;> omega
      · simp only [h, if_false] <;> omega
theorem slicePick_cut (its : List Value) (lo hi : Option Int) : slicePick its.toArray lo hi none = ((its.drop (HT.sIx its.length 0 lo)).take (HT.sIx its.length its.length hi - HT.sIx its.length 0 lo)).toArray := by
  obtain ⟨h1, h2, h3⟩ := slice_bounds lo hi its.toArray.size
  unfold slicePick
  rw [h1, h2, h3]
  simp only [sliceRange_one, pick_run, List.size_toArray] <;> rfl
/-- xs[lo:hi] of a list: a new list -/
def rSlL (K : PySem.W.Frag) : V → Option Int → Option Int → Hp → VK → Prop := fun x lo hi H Q => ∃ a xs, x = .ref a ∧ SqL K H a xs ∧ ∀ p, H p = none → Q (.ref p) (upd H p (.lst (cutV xs lo hi)))
theorem sl_list : SlR X (rSlL X.K) := by
  intro pins s σ H x v vl vu lo hi sl Q I rx hs pl pu h
  obtain ⟨a, xs, rfl, hx, q⟩ := h
  cases rx
  obtain ⟨its, r, ht, hz⟩ := I.list hx
  have hlen := r.length
  refine ⟨"list", _, slot_list_getitem.lookup, ht.isList.typeIs, ?_⟩
  refine wpAny_getItem_list_slice ht.isList hs pl pu .none (by simp) ?_ (by rw [List.size_toArray] <;> omega)
  rw [slicePick_cut, ← hlen]
  refine ⟨.ref s.heap.objs.size, _, I.laid (t' := s.toks) (o := .lst (cutV xs lo hi)) (fun b ob q => Heap.get?_push_of_some _ q) (Nat.le_refl _) ?_, rfl, q _ (I.hok.fresh (Nat.le_refl _))⟩
  exact ⟨Nat.le_trans (cutV_length xs lo hi) hz, _, 0, (r.drop (HT.sIx xs.length 0 lo)).take (HT.sIx xs.length xs.length hi - HT.sIx xs.length 0 lo), Heap.get?_push_size _ rfl⟩

def flatV : V → Bool
  | .non => true
  | .bl _ => true
  | .int _ => true
  | .str _ => true
  | _ => false
/-- == of flat values -/
def eqV : V → V → Bool
  | .non, .non => true
  | .bl a, .bl b => a == b
  | .bl a, .int b => (if a then 1 else 0) == b
  | .int a, .bl b => a == (if b then 1 else 0)
  | .int a, .int b => a == b
  | .str a, .str b => a == b
  | _, _ => false
theorem eqAt_V {A : Around} {s : Shared} {y x : V} {u v : Value} (ry : RelV y u) (rx : RelV x v) (fy : flatV y = true) (fx : flatV x = true) : SeqAt.EqAt A s u v (eqV y x) := by
  cases y with
  | non =>
    cases ry
    cases x with
    | non => cases rx; exact SeqAt.EqAt.same _
    | bl b => cases rx; exact SeqAt.EqAt.none_bool b
    | int b => obtain ⟨t, rfl⟩ := rx; exact SeqAt.EqAt.none_int b t
    | str b => obtain ⟨t, rfl⟩ := rx; exact SeqAt.EqAt.none_str b t
    | _ => exact absurd (show false = true from fx) Bool.false_ne_true
  | bl a =>
    cases ry
    cases x with
    | non => cases rx; exact SeqAt.EqAt.bool_none a
    | bl b => cases rx; exact SeqAt.EqAt.bool_bool a b
    | int b => obtain ⟨t, rfl⟩ := rx; exact SeqAt.EqAt.bool_int a b t
    | str b => obtain ⟨t, rfl⟩ := rx; exact SeqAt.EqAt.bool_str a b t
    | _ => exact absurd (show false = true from fx) Bool.false_ne_true
  | int a =>
    obtain ⟨t', rfl⟩ := ry
    cases x with
    | non => cases rx; exact SeqAt.EqAt.int_none a t'
    | bl b => cases rx; exact SeqAt.EqAt.int_bool a t' b
    | int b => obtain ⟨t, rfl⟩ := rx; exact SeqAt.EqAt.int_int a t' b t
    | str b => obtain ⟨t, rfl⟩ := rx; exact SeqAt.EqAt.int_str a t' b t
    | _ => exact absurd (show false = true from fx) Bool.false_ne_true
  | str a =>
    obtain ⟨t', rfl⟩ := ry
    cases x with
    | non => cases rx; exact SeqAt.EqAt.str_none a t'
    | bl b => cases rx; exact SeqAt.EqAt.str_bool a t' b
    | int b => obtain ⟨t, rfl⟩ := rx; exact SeqAt.EqAt.str_int a t' b t
    | str b => obtain ⟨t, rfl⟩ := rx; exact SeqAt.EqAt.str_str a t' b t
    | _ => exact absurd (show false = true from fx) Bool.false_ne_true
  | _ => exact absurd (show false = true from fy) Bool.false_ne_true
def inV (x : V) (xs : List V) : Bool := xs.any fun y => eqV y x
/-- x in a list or tuple of flat items -/
def rIn (K : PySem.W.Frag) (neg : Bool) : R2 := fun x y H Q => ∃ p xs, y = .ref p ∧ (SqL K H p xs ∨ SqT K H p xs) ∧ flatV x = true ∧ xs.all flatV = true ∧ Q (.bl (if neg then !inV x xs else inV x xs)) H
theorem call_len_seq : CallR X (.builtin "len") (fun xs H Q => ∃ p ys, xs = [.ref p] ∧ (SqL X.K H p ys ∨ SqT X.K H p ys) ∧ Q (.int ys.length) H) := by
  intro pins s σ H xs us Q I r h
  obtain ⟨p, ys, rfl, hq, q⟩ := h
  obtain ⟨u, rfl, rx⟩ := vals1 r
  cases rx
  have hn := line63
  rcases hq with hq | hq
  · obtain ⟨its, r', pl, hz⟩ := I.list hq
    have hlen := r'.length
    exact Calls.call_len_list pl.isList (by simp only [List.size_toArray] <;> omega) ⟨.int ys.length, H, I.tok _, ⟨s.toks + 1, by rw [List.size_toArray, hlen]⟩, q⟩
  · obtain ⟨its, r', pl, hz⟩ := I.tuple hq
    have hlen := r'.length
    exact len_tuple pl (by simp only [List.size_toArray] <;> omega) ⟨.int ys.length, H, I.tok _, ⟨s.toks + 1, by rw [List.size_toArray, hlen]⟩, q⟩
theorem call_list_of : CallR X (.type "list") (fun xs H Q => ∃ p ys, xs = [.ref p] ∧ (SqL X.K H p ys ∨ SqT X.K H p ys) ∧ ∀ l, H l = none → Q (.ref l) (upd H l (.lst ys))) := by
  intro pins s σ H xs us Q I r h
  obtain ⟨p, ys, rfl, hq, q⟩ := h
  obtain ⟨u, rfl, rx⟩ := vals1 r
  cases rx
  have fin : ∀ (its : List Value), Vals ys its → ys.length ≤ sizeLine → ∀ (h' : Heap) (c' : Nat), (∀ b o', s.heap.get? b = some o' → h'.get? b = some o') →
      h'.get? s.heap.objs.size = some { cls := .type "list", dict := none, data := .seq its.toArray c', slots := #[] } → EP X pins σ Q (.ref s.heap.objs.size) { s with heap := h' } := fun its r' hz h' c' kp e =>
    ⟨.ref s.heap.objs.size, _, I.laid (t' := s.toks) kp (Nat.le_refl _) (show ObjOk X.prog X.w _ h' _ (.lst ys) from ⟨hz, its, c', r', e⟩), rfl, q _ (I.hok.fresh (Nat.le_refl _))⟩
  rcases hq with hq | hq
  · obtain ⟨its, r', pl, hz⟩ := I.list hq
    have hlen := r'.length
    obtain ⟨o, ho, hc, n, hd⟩ := pl.isList
    exact call_list_seq p (.inl rfl) ho hc hd (fun h' c' kp e => fin its r' hz h' c' kp e) (by simp only [List.size_toArray] <;> omega)
  · obtain ⟨its, r', pl, hz⟩ := I.tuple hq
    have hlen := r'.length
    obtain ⟨o, ho, hc, n, hd⟩ := pl
    exact call_list_seq p (.inr rfl) ho hc hd (fun h' c' kp e => fin its r' hz h' c' kp e) (by simp only [List.size_toArray] <;> omega)
theorem call_tuple_of : CallR X (.type "tuple") (fun xs H Q => ∃ p ys, xs = [.ref p] ∧ ((SqL X.K H p ys ∧ ∀ l, H l = none → Q (.ref l) (upd H l (.tup ys))) ∨ (SqT X.K H p ys ∧ Q (.ref p) H))) := by
  intro pins s σ H xs us Q I r h
  obtain ⟨p, ys, rfl, h⟩ := h
  obtain ⟨u, rfl, rx⟩ := vals1 r
  cases rx
  rcases h with ⟨hq, q⟩ | ⟨hq, q⟩
  · obtain ⟨its, r', pl, hz⟩ := I.list hq
    have hlen := r'.length
    refine call_tuple_list pl.isList (fun h' kp => ?_) (by simp only [List.size_toArray] <;> omega)
    have I1 : Inv X pins σ H { s with heap := h' } := I.kept (t' := s.toks) kp
    have I2 : Inv X pins σ (upd H h'.objs.size (.tup ys)) { s with heap := h'.push { cls := .type "tuple", data := .seq its.toArray } } :=
      I1.laid (t' := s.toks) (fun b o e => Heap.get?_push_of_some _ e) (Nat.le_refl _) (show ObjOk X.prog X.w _ _ _ (.tup ys) from ⟨hz, its, r', IsTup.new _ _⟩)
    exact ⟨.ref h'.objs.size, _, I2, rfl, q _ (I1.hok.fresh (Nat.le_refl _))⟩
  · obtain ⟨its, r', pl, hz⟩ := I.tuple hq
    exact call_tuple_same pl ⟨.ref p, H, I, rfl, q⟩

/-- the value is of that builtin type -/
def tyV (K : PySem.W.Frag) (T : String) (x : V) (H : Hp) : Prop := match x with
  | .str _ => T = "str"
  | .int _ => T = "int"
  | .ref p => (T = "list" ∧ ∃ xs, SqL K H p xs) ∨ (T = "tuple" ∧ ∃ o, K.lookup p = some o ∧ o.cls = .type "tuple" ∧ o.dict = none) ∨
      (T = "dict" ∧ ((∃ kvs, H p = some (.dK kvs)) ∨ ∃ kvs, H p = some (.dT kvs))) ∨ (T = "set" ∧ ∃ S n, H p = some (.set S n))
  | _ => False
theorem tyV_is {pins : List (Addr × Obj)} {σ : St} {H : Hp} {s : Shared} {T : String} {x : V} {v : Value} (I : Inv X pins σ H s) (r : RelV x v) (ty : tyV X.K T x H) :
    s.TypeIs v T ∧ ∀ a, v = .ref a → ∃ ob, s.heap.get? a = some ob ∧ ob.dict = none := by
  cases x with
  | str z =>
    obtain ⟨t, rfl⟩ := r
    cases (show T = "str" from ty)
    exact ⟨typeIs_str s z t, fun _ e => nomatch e⟩
  | int i =>
    obtain ⟨t, rfl⟩ := r
    cases (show T = "int" from ty)
    exact ⟨typeIs_int s i t, fun _ e => nomatch e⟩
  | ref p =>
    cases r
    rcases ty with ⟨rfl, xs, hq⟩ | ⟨rfl, o, hk, hc, hd⟩ | ⟨rfl, hk⟩ | ⟨rfl, S, n, hk⟩
    · obtain ⟨its, _, pl, _⟩ := I.list hq
      refine ⟨pl.isList.typeIs, fun a e => ?_⟩
      cases e
      obtain ⟨o, n, e, c, hd, _⟩ := pl
      exact ⟨o, e, hd⟩
    · refine ⟨⟨o, I.kIn p o hk, hc⟩, fun a e => ?_⟩
      cases e
      exact ⟨o, I.kIn _ o hk, hd⟩
    · have z : ∃ o, s.heap.get? p = some o ∧ o.ExactDict := by
        rcases hk with ⟨kvs, hk⟩ | ⟨kvs, hk⟩
        · obtain ⟨_, _, _, _, o, _, _, e, ex, _⟩ := I.hok p _ hk
          exact ⟨o, e, ex⟩
        · obtain ⟨_, _, _, _, o, _, _, e, ex, _⟩ := I.hok p _ hk
          exact ⟨o, e, ex⟩
      obtain ⟨o, e, ex⟩ := z
      refine ⟨⟨o, e, ex.1⟩, fun a e2 => ?_⟩
      cases e2
      exact ⟨o, e, ex.2.1⟩
    · obtain ⟨o, _, _, _, e, ex, _⟩ := I.hok p _ hk
      refine ⟨⟨o, e, ex.1⟩, fun a e2 => ?_⟩
      cases e2
      exact ⟨o, e, ex.2.1⟩
  | _ => exact False.elim ty
def tBM0 (K : PySem.W.Frag) (T : String) (r : V → List V → Hp → VK → Prop) (to : TE) : TE := fun σ H Q => to σ H fun x H1 => tyV K T x H1 ∧ r x [] H1 Q
def tBM (K : PySem.W.Frag) (T : String) (r : V → List V → Hp → VK → Prop) (to : TE) (t : TA) : TE := fun σ H Q => to σ H fun x H1 => tyV K T x H1 ∧ t σ H1 fun xs H2 => r x xs H2 Q
variable {o e : Expr} {es : List Expr} {to : TE} {t : TA} {name : Str} {apos cpos : Pos} {T id : String} {r : V → List V → Hp → VK → Prop}
theorem pe_bm (pa : PlainAttrs T) (slot : Slot T name id) (hty : typeOf (.builtin id) = pure (.type "method_descriptor")) (hm : MtR X id r) (ho : PE X o to) (ha : PA X (e :: es) t)
    (hbase : attributeBase o name X.env (eval o X.env) = eval o X.env := by rfl)
    (hfew : ((backTo cpos (starEach (e :: es) X.env)).all (fun x => !x.1) && (backToKw cpos (keywordEach [] X.env)).all (fun x => x.1.isSome)
      && decide ((e :: es).length + ([] : List Keyword).length + (if ([] : List Keyword).isEmpty then 0 else 1) < 30)) = true := by rfl)
    (hline : (apos.endLine == cpos.line) = true := by rfl) (hs : starEach (e :: es) X.env = (false, eval e X.env) :: starEach es X.env := by rfl) (hplain : (backTo cpos (starEach es X.env)).any (·.1) = false := by rfl) :
    PE X (.Call (.Attribute o name apos) (e :: es) [] cpos) (tBM X.K T r to t) := by
  intro pins s σ H Q I h
  refine wpAny_Call_method_late hbase hfew hline rfl (thn (ho pins s σ H _ I h) fun v s1 ⟨x, H1, I1, r1, ty, q1⟩ => ?_)
  obtain ⟨h1, h2⟩ := tyV_is I1 r1 ty
  refine ⟨T, id, pa, slot, hty, h1, h2, ?_⟩
  have hA := ha cpos pins s1 σ H1 _ I1 q1
  rw [hs] at hA ⊢
  refine Calls.callWith_builtin (by show (false || (backTo cpos (starEach es X.env)).any (·.1)) = false; rw [hplain] <;> rfl) (Calls.evalArgs_plain ?_)
  exact thn hA fun us s2 ⟨vs, H2, I2, r2, q2⟩ => hm pins s2 σ H2 x vs v us Q I2 r1 r2 q2
end
end L2

namespace L2
open PySem PySem.Spec PyProof.Rows

def MtM (X : Cx) (id : String) (r : V → List V → Hp → VK → Prop) : Prop :=
  ∀ (pins : List (Addr × Obj)) (s : Shared) (σ : St) (H : Hp) (x : V) (xs : List V) (v : Value) (us : List Value) (Q : VK), Inv X pins σ H s → RelV x v → Vals xs us → r x xs H Q →
    wpAny (model X.prog X.w) X.A (call (.builtin id) (v :: us)) (EP X pins σ Q) X.xe s

theorem Vals.one : ∀ {x : V} {us : List Value}, Vals [x] us → ∃ u, us = [u] ∧ RelV x u
  | _, _, .cons r .nil => ⟨_, rfl, r⟩
theorem Vals.two : ∀ {x y : V} {us : List Value}, Vals [x, y] us → ∃ u v, us = [u, v] ∧ RelV x u ∧ RelV y v
  | _, _, _, .cons r (.cons q .nil) => ⟨_, _, rfl, r, q⟩
theorem Vals.zero : ∀ {us : List Value}, Vals [] us → us = []
  | _, .nil => rfl
theorem Vals.dropLast {xs : List V} {us : List Value} (h : Vals xs us) : Vals xs.dropLast us.dropLast := by
  induction h with
  | nil => exact .nil
  | cons r t ih =>
    cases t with
    | nil => exact .nil
    | cons q t' => exact .cons r ih
theorem Vals.eraseIdx : ∀ {xs : List V} {us : List Value} (i : Nat), Vals xs us → Vals (xs.eraseIdx i) (us.eraseIdx i)
  | _, _, _, .nil => .nil
  | _, _, 0, .cons _ t => t
  | _, _, i + 1, .cons r t => .cons r (Vals.eraseIdx i t)
theorem Vals.reverse {xs : List V} {us : List Value} (h : Vals xs us) : Vals xs.reverse us.reverse := by
  induction h with
  | nil => exact .nil
  | cons r t ih => rw [List.reverse_cons, List.reverse_cons]; exact Vals.append ih (.cons r .nil)
theorem Vals.rep {xs : List V} {us : List Value} (h : Vals xs us) : ∀ k : Nat, Vals (List.replicate k xs).flatten (List.replicate k us).flatten
  | 0 => .nil
  | k + 1 => by
    rw [List.replicate_succ, List.replicate_succ, List.flatten_cons, List.flatten_cons]
    exact Vals.append h (Vals.rep h k)
section
variable {X : Cx} {pins : List (Addr × Obj)} {σ : St} {H : Hp} {s : Shared} {l b : Addr} {xs ys zs : List V}

theorem Inv.lset {its its' : List Value} {n : Nat} {f : Array Value → Array Value} {t' : Nat} (I : Inv X pins σ H s) (hH : H l = some (.lst xs))
    (e : s.heap.get? l = some { cls := .type "list", data := .seq its.toArray n }) (hf : f its.toArray = its'.toArray) (hv : Vals ys its') (hz : ys.length ≤ sizeLine) :
    Inv X pins σ (upd H l (.lst ys)) { s with heap := s.heap.update l (Obj.mapSeq f), toks := t' } := by
  have q := PySem.IsL.update e f
  rw [hf] at q
  refine I.write (x := l) (e := l) (by rw [hH]; exact trivial) (.inl rfl) (fun b' u hb hu => (Heap.get?_update_other s.heap (Obj.mapSeq f) (Ne.symm hb)).trans hu) ⟨_, q⟩ ?_
  exact ⟨hz, its', _, hv, q⟩
theorem Inv.lnew {its : List Value} {t' : Nat} (I : Inv X pins σ H s) (hv : Vals ys its) (hz : ys.length ≤ sizeLine) :
    Inv X pins σ (upd H s.heap.objs.size (.lst ys)) { s with heap := s.heap.push { cls := .type "list", data := .seq its.toArray }, toks := t' } :=
  I.laid (fun _ _ q => Heap.get?_push_of_some _ q) (Nat.le_refl _) ⟨hz, its, 0, hv, Heap.get?_push_size _ rfl⟩
theorem Inv.fresh (I : Inv X pins σ H s) : H s.heap.objs.size = none := I.hok.fresh (Nat.le_refl _)
theorem Inv.lstM (I : Inv X pins σ H s) (hH : H l = some (.lst xs)) : xs.length ≤ sizeLine ∧ ∃ (its : List Value) (n : Nat), Vals xs its ∧ xs.length = its.length ∧ s.heap.get? l = some { cls := .type "list", data := .seq its.toArray n } := by
  obtain ⟨z, its, n, r, e⟩ := I.hok l _ hH
  exact ⟨z, its, n, r, r.length, e⟩

end

section
variable {X : Cx}

def rAppend : V → List V → Hp → VK → Prop := fun x vs H Q => ∃ l xs y, x = .ref l ∧ vs = [y] ∧ H l = some (.lst xs) ∧ xs.length < sizeLine ∧ Q .non (upd H l (.lst (xs ++ [y])))
theorem mt_append : MtM X "list.append" rAppend := by
  intro pins s σ H x vs v us Q I rx rv h
  obtain ⟨l, xs, y, rfl, rfl, hH, hz, q⟩ := h
  cases rx
  obtain ⟨u, rfl, ru⟩ := rv.one
  obtain ⟨z, its, n, r, hl, e⟩ := I.lstM hH
  refine call_meets F.slot_list_append ⟨_, e, rfl⟩ F.entry_list_append (F.args_list_append_2 _ _) (PySem.list_append l its.toArray n u (by rw [List.size_toArray]; omega)) ⟨e, ?_⟩
  refine ⟨.non, _, I.lset (its' := its ++ [u]) hH e (by simp) (r.append (.cons ru .nil)) ?_, rfl, q⟩
  rw [List.length_append, List.length_singleton]
  omega

def rCat : R2 := fun x y H Q => ∃ l b xs zs, x = .ref l ∧ y = .ref b ∧ H l = some (.lst xs) ∧ H b = some (.lst zs) ∧ xs.length + zs.length ≤ sizeLine ∧ ∀ p, H p = none → Q (.ref p) (upd H p (.lst (xs ++ zs)))
end

section
variable {prog : Program} {w : World} {A : Around} {E : Value → Shared → Prop} {s : Shared}
end

section
variable {X : Cx}
end
end L2

namespace Att
open PySem PySem.W PySem.Calls PyProof.Rows

theorem ints_of_wellAll {P : Params} {h : Heap} : ∀ (ns : List Int) (vs : List Value), WellAll P h vs (ns.map WData.int) → IntsAre vs ns := by
  intro ns
  induction ns with
  | nil =>
    intro vs w
    rw [List.map_nil] at w
    cases w
    exact .nil
  | cons n ns ih =>
    intro vs w
    rw [List.map_cons] at w
    cases w with
    | cons a b =>
      cases a
      exact .cons _ _ (ih _ b)

theorem script_of {l : OpenLaw} {n : Nat} (hn : l.most = some n) {P : Params} {h : Heap} {args : List WData} {vals : List Value}
    (hpre : l.row.toRowW.claim.pre args = true) (hwl : WellAll P h vals args) :
    ∃ a vs ns, vals = [Value.ref a] ∧ args = [WData.list (ns.map WData.int)] ∧ h.get? a = some { cls := .type "list", data := .seq vs.toArray } ∧ IntsAre vs ns ∧ ns.length ≤ n := by
  have hsh : WShape.hasAll [] args [.list .int] = true := (pre_splitW hpre).1
  have hc : l.pre.holds [] { args := args } = true := (pre_splitW hpre).2
  obtain ⟨d, r, rfl, h1, h2⟩ := hasAllW_cons hsh
  obtain rfl := hasAllW_nil h2
  obtain ⟨xs, rfl, h3⟩ := hasW_list h1
  obtain ⟨ns, rfl⟩ := items_int h3
  have hlen : ns.length ≤ n := by
    unfold OpenLaw.pre at hc
    have h4 : (WTm.not (.lt (.lit (.int (n : Int))) (.len (.arg 0)))).holds [] { args := [.list (ns.map .int)] } = true := by
      have h4 := (holds_andW hc).1
      rw [hn] at h4
      exact h4
    have h5 := condW_of h4 (w_not (w_lt w_lit (w_len_list (w_arg rfl))))
    rw [List.length_map] at h5
    refine Nat.le_of_not_lt fun q => ?_
    have q' : (n : Int) < ((ns.length : Nat) : Int) := by omega
    first
      | (rw [decide_eq_true q'] at h5; exact absurd h5 (by decide))
      | (simp at h5; omega)
  cases hwl with
  | cons w1 w2 =>
    cases w2
    cases w1 with
    | list ho hall => exact ⟨_, _, ns, rfl, rfl, ho, ints_of_wellAll ns _ hall, hlen⟩

theorem post_true (l : OpenLaw) (args : List WData) : l.row.toRowW.claim.post args (.bool true) args = true :=
  postW_of (r := l.row.toRowW) (X := (true == true))
    (show WShape.has [] (.bool true) .bool = true by first | rfl | decide | simp [WShape.has, WShape.arms, WShape.armsAll])
    (show (WTm.eq .res (.lit (.bool true))).value [] { args := args, res := some (.bool true), after := args } = some (.bool (true == true)) from w_eq_bool (w_res rfl) w_lit) rfl

section
variable {prog : Program} {w : World} {A : Around} {E : Value → Shared → Prop} {s : Shared} {K : Frag}

end
end Att

namespace L2
open PySem PySem.Spec PyProof.Rows

theorem vals_ints : ∀ {vs : List Value} {ns : List Int}, IntsAre vs ns → Vals (ns.map V.int) vs
  | _, _, .nil => .nil
  | _, _, .cons n t h => .cons ⟨t, rfl⟩ (vals_ints h)

/-- nothing is tracked but the script, known to the object (or it is an object of the module) -/
def Only (H : Hp) : Prop := ∀ b, H b = none ∨ ∃ o xs, H b = some (.frz o (.lst xs))

/-- THE HEAD: the law's promise, at the heap behind the top. F, the promise of the law's def, may use that base is part of the heap (so K.In base, base.Ns mainGlobals mg stand in Mod) -/
theorem law_call {P : Program} {w : World} {K : PySem.W.Frag} {mg mb : Str → Option Value} {CX : CXT} {k : Nat} {fa a : Addr} {fd : FuncData} {x : Str} {sp : Sp} {s₁ : Shared} {vs : List Value} {ns : List Int}
    (KX : K.In s₁.heap) (hns : s₁.heap.Ns mainGlobals mg) (hb : s₁.heap.Ns builtinsNs mb) (hbb : ∀ x : Str, x ≠ "__name__" → mb x = bootBuiltins x) (hlim : s₁.heap.NoLimit) (hg : s₁.gens = #[])
    (ha : s₁.heap.get? a = some { cls := .type "list", data := .seq vs.toArray }) (hi : IntsAre vs ns) (hl : ns.length ≤ sizeLine) (hr : Room k callerA)
    (F : ∀ base : Heap, K.In base → base.Ns mainGlobals mg → FnOk P w K mg base CX k fa fd [x] sp) (hbind : ∀ (s : Shared) (u : Value), BindsTo s fd ⟨[u], []⟩ [(x, u)])
    (hsp : ∀ H : Hp, Only H → SqL K H a (ns.map V.int) → sp [.ref a] H (fun v _ => v = .bl true) fun _ _ _ => False)
    (hCX : ∀ H e s', CX [] H s₁ (fun _ _ _ => False) e s' → False) :
    codeAny (model P w) callerA (.call (.ref fa) ⟨[.ref a], []⟩) (fun r s' => r = .ok (.ret (.bool true)) ∧ OldK s₁.heap s'.heap ∧ s'.os = s₁.os ∧ AllBare s'.gens) s₁ := by
  have rv := vals_ints hi
  have lenV := hi.length
  -- from an abstract heap in which nothing but the script may be tracked
  have core : ∀ H : Hp, Only H → SqL K H a (ns.map V.int) → HOk P w H s₁.heap → (∀ b, H b ≠ none → b = a) → (H a ≠ none → K.lookup a = none) →
      codeAny (model P w) callerA (.call (.ref fa) ⟨[.ref a], []⟩) (fun r s' => r = .ok (.ret (.bool true)) ∧ OldK s₁.heap s'.heap ∧ s'.os = s₁.os ∧ AllBare s'.gens) s₁ := by
    intro H hO hS hok hA hK
    have base_of : ∀ {b : Addr} {o : Obj}, s₁.heap.get? b = some o → H b = none → (hidT s₁.heap H).get? b = some o := fun e n => hidT_get e n
    have noA : ∀ {b : Addr} {o : Obj} {es : Array DictEntry} {ep : Nat}, s₁.heap.get? b = some o → o.data = .dict es ep → H b = none := fun {b o es ep} e d => by
      cases q : H b with
      | none => rfl
      | some u =>
        have e' : b = a := hA b (by rw [q]; simp)
        subst e'
        rw [ha] at e; cases e
        have d' : Data.seq vs.toArray _ = Data.dict es ep := d
        cases d'
    have nsK : ∀ {b : Addr} {m : Str → Option Value}, s₁.heap.Ns b m → (hidT s₁.heap H).Ns b m := fun {b m} ⟨o, es, ep, e, d, r⟩ => ⟨o, es, ep, base_of e (noA e d), d, r⟩
    have hKb : K.In (hidT s₁.heap H) := fun b o e => base_of (KX b o e) (by
      cases q : H b with
      | none => rfl
      | some u =>
        have e' : b = a := hA b (by rw [q]; simp)
        subst e'
        rw [hK (by rw [q]; simp)] at e; cases e)
    have hM : Mod K mg (hidT s₁.heap H) := ⟨hKb, nsK hns, ⟨mb, nsK hb, hbb⟩, let ⟨mc, h1, h2⟩ := hlim; ⟨mc, nsK h1, h2⟩⟩
    have e0 : Env0 P w K mg (hidT s₁.heap H) callerA [] s₁ H := ⟨rfl, hM, fun b o e => of_hidT e, Nat.le_of_eq (hidT_size _ _), trivial, fun b hb => absurd (show b ∈ ([] : List Addr) from hb) (by simp), hok, .of_eq hg⟩
    refine codeAny_mono ((F _ hKb (nsK hns)).run callerA [] s₁ H ⟨[.ref a], []⟩ [.ref a] [.ref a] _ _ hr e0 (hbind s₁ (.ref a)) (.cons rfl .nil) (hsp H hO hS)) fun r s' h => ?_
    cases r with
    | error e => exact (hCX H e s' h).elim
    | ok fl =>
      cases fl with
      | next => exact False.elim h
      | brk => exact False.elim h
      | cont => exact False.elim h
      | ret u =>
        obtain ⟨v, H', os, bare, un, hok', r', q⟩ := h
        have q' : v = .bl true := q
        subst q'
        obtain rfl : u = Value.bool true := r'
        refine ⟨rfl, OldK.of_keep fun b o e => ?_, os, bare⟩
        cases q : H b with
        | none => exact un.keep b o e q (by intro z; exact absurd (show b ∈ ([] : List Addr) from z) (by simp)) (by simp)
        | some u =>
          rcases hO b with z | ⟨ob, xs, z⟩
          · rw [q] at z; cases z
          · have z2 := un.frzs b ob _ z
            obtain ⟨e1, _⟩ := hok b _ z
            obtain ⟨e2, _⟩ := hok' b _ z2
            rw [e] at e1; cases e1
            exact e2
  cases hk : K.lookup a with
  | some o =>
    -- the script is one of the module's own objects
    have e := KX a o hk
    rw [ha] at e
    cases e
    refine core (fun _ => none) (fun _ => .inl rfl) (.inr ⟨_, vs.toArray, _, hk, rfl, rfl, rfl, by rw [List.size_toArray, lenV]; exact hl, by simpa using rv⟩) (fun b u z => by have z' : (none : Option HO) = some u := z; cases z') (fun b z => absurd rfl z) fun z => absurd rfl z
  | none =>
    refine core (fun b => if b = a then some (.frz { cls := .type "list", data := .seq vs.toArray } (.lst (ns.map V.int))) else none) (fun b => ?_) (.inl (.inr ⟨{ cls := .type "list", data := .seq vs.toArray }, if_pos rfl⟩)) (fun b u z => ?_) (fun b z => ?_) fun _ => hk
    · by_cases hb : b = a
      · exact .inr ⟨_, _, if_pos hb⟩
      · exact .inl (if_neg hb)
    · by_cases hb : b = a
      · have z' := (if_pos hb).symm.trans z
        cases z'
        subst hb
        exact ⟨ha, by rw [List.length_map]; exact hl, vs, _, rv, ha⟩
      · have z' := (if_neg hb).symm.trans z
        cases z'
    · by_cases hb : b = a
      · exact hb
      · exact absurd (if_neg hb) z
end L2

namespace L2
open PySem PySem.Spec PyProof.Rows

end L2

namespace L2
open PySem PySem.Spec PyProof.Rows

def defArgs (s : Stmt) : Arguments := match s with
  | .FunctionDef _ a _ _ _ _ _ _ _ _ => a
  | _ => { posonlyargs := [], args := [], vararg := none, kwonlyargs := [], kw_defaults := [], kwarg := none, defaults := [] }
def defBody (s : Stmt) : List Stmt := match s with
  | .FunctionDef _ _ b _ _ _ _ _ _ _ => b
  | _ => []
def defScope (s : Stmt) : Scope := match s with
  | .FunctionDef _ _ _ _ _ _ sc _ _ _ => sc
  | _ => { kind := .function, names := [], isGenerator := false, isCoroutine := false }

abbrev CX0 : CXT := fun _ _ _ _ _ _ => False
abbrev E0 : XK := fun _ _ _ => False
theorem pass0 {X : Cx} : Passes CX0 X E0 := fun _ _ _ _ _ _ _ h => h.elim

structure Fun (K : PySem.W.Frag) (x qual : Str) (st : Stmt) (f : Addr) (fd : FuncData) : Prop where
  ex : ∃ (oc : Value) (od : Option Addr) (kV doc pm : Value) (an : Option Addr) (cdv ct : Value) (osl : Array (Option Value)),
    fd = PySem.W.fnOf x qual (defArgs st) (defBody st) (defScope st) .none kV doc pm an cdv ct ∧ K.lookup f = some ⟨oc, od, .func fd, osl⟩ ∧ PySem.W.codeIn K cdv qual = true
  kp : PySem.W.keepIn K (.ref f) = true
section
variable {P : Program} {w : World} {K : PySem.W.Frag} {mg : Str → Option Value} {base : Heap}
/-- THE RULE for a def: its body as a term of rules, and the reading of that term -/
theorem Fun.ok {x qual : Str} {st : Stmt} {f : Addr} {fd : FuncData} {N ps : List Str} {k : Nat} {sp : Sp} (F : Fun K x qual st f fd) (S : FnScope N ps (defScope st)) (len : ∀ vs H Q E, sp vs H Q E → vs.length = ps.length)
    (hbody : ∀ (cdv : Value) (A : Around) (outer : List Env) (s : Shared) (H : Hp) (vs : List V) (Q : VK) (E : XK), Room k (A.deeper (envOfC qual (defScope st) s.heap.objs.size f cdv)) → sp vs H Q E →
      ∃ t, PSs (cxOf CX0 P w K mg base N qual (defScope st) f cdv A outer s H E).nox (defBody st) t ∧ t { nx := fun _ H' => Q .non H', rt := Q } (start N vs) H) : FnOk P w K mg base CX0 (k + 1) f fd ps sp := by
  obtain ⟨oc, od, kV, doc, pm, an, cdv, ct, osl, rfl, lk, hcd⟩ := F.ex
  refine fn_of lk hcd S len fun A outer s H vs Q E hr hsp => ?_
  obtain ⟨t, h, q⟩ := hbody cdv A outer s H vs Q E hr hsp
  exact ⟨t, h.nox, q⟩
/-- how its arguments bind (no defaults): h is «fun _ _ _ _ _ _ us hl => match us, hl with | [_, _], _ => rfl», one _ a parameter -/
theorem Fun.binds {x qual : Str} {st : Stmt} {f : Addr} {fd : FuncData} {ps : List Str} (F : Fun K x qual st f fd)
    (h : ∀ (kV doc pm : Value) (an : Option Addr) (cdv ct : Value) (us : List Value), us.length = ps.length → bindArgs (PySem.W.fnOf x qual (defArgs st) (defBody st) (defScope st) .none kV doc pm an cdv ct) ⟨us, []⟩ = pure (ps.zip us)) : Binds K fd ps [] := by
  obtain ⟨oc, od, kV, doc, pm, an, cdv, ct, osl, rfl, lk, hcd⟩ := F.ex
  exact .all (h kV doc pm an cdv ct)
theorem fun_mk {x qual : Str} {st : Stmt} {f : Addr} {oc : Value} {od an : Option Addr} {osl : Array (Option Value)} {kV doc pm cdv ct : Value} (l : K.lookup f = some ⟨oc, od, .func (PySem.W.fnOf x qual (defArgs st) (defBody st) (defScope st) .none kV doc pm an cdv ct), osl⟩)
    (c : PySem.W.codeIn K cdv qual = true) (k : PySem.W.keepIn K (.ref f) = true) : Fun K x qual st f (PySem.W.fnOf x qual (defArgs st) (defBody st) (defScope st) .none kV doc pm an cdv ct) := ⟨⟨oc, od, kV, doc, pm, an, cdv, ct, osl, rfl, l, c⟩, k⟩
end
theorem small1000 {n : Nat} (h : n ≤ 1000) : n < sizeLine := Nat.lt_of_le_of_lt h (by decide)

section
variable {X : Cx}
theorem pv (i : Nat) {x : Str} {pos : Pos} (hN : X.N[i]? = some x := by rfl) (hv : Vis X.env.scope x := by first | exact Or.inl rfl | exact Or.inr (Or.inl rfl) | exact Or.inr (Or.inr rfl)) (hd : (x == ("__debug__" : Str)) = false := by decide)
    (hcd : (x == ("__classdict__" : Str)) = false := by decide) : PE X (.Name x pos) (tVar i) := pe_var hN hv hd hcd
end

theorem iteT {A B : Prop} (h : A) : if true = true then A else B := by
  rw [if_pos rfl]
  exact h
theorem ite2 {c A B : Prop} [Decidable c] (h1 : c → A) (h2 : ¬ c → B) : if c then A else B := by
  by_cases h : c
  · rw [if_pos h]
    exact h1 h
  · rw [if_neg h]
    exact h2 h
/-- all that was tracked is as it was -/
def Same (H H' : Hp) : Prop := ∀ b o, H b = some o → H' b = some o
theorem Same.refl (H : Hp) : Same H H := fun _ _ h => h
theorem Same.trans {H H1 H2 : Hp} (a : Same H H1) (b : Same H1 H2) : Same H H2 := fun c o h => b c o (a c o h)
theorem Same.free {H H' : Hp} (e : Same H H') {l : Addr} (h : H' l = Option.none) : H l = Option.none := by
  cases q : H l with
  | none => rfl
  | some o =>
    rw [e l o q] at h
    cases h
theorem Same.seq {K : PySem.W.Frag} {H H' : Hp} {a : Addr} {xs : List V} (e : Same H H') (h : SqL K H a xs) : SqL K H' a xs := by
  rcases h with (h | ⟨o, h⟩) | h
  · exact .inl (.inl (e _ _ h))
  · exact .inl (.inr ⟨o, e _ _ h⟩)
  · exact .inr h

end L2


end
section
set_option Elab.async false
set_option linter.all false
set_option maxRecDepth 100000
namespace L2
open PySem PySem.Spec PyProof.Rows

end L2

namespace L2
open PySem PySem.Spec PyProof.Rows

section
variable (P : Program) (w : World)
end

section
variable {P : Program} {w : World} {H H' : Hp} {h h' : Heap} {a : Addr} {o : HO}
end

section
variable {P : Program} {w : World} {H : Hp} {h h' : Heap} {x e : Addr} {o' : HO}
end

section
variable {fs fs' ex ex' : List Addr} {H H1 H2 : Hp} {h h1 h2 h' : Heap} {a x e : Addr} {o : HO}
end

end L2

namespace L2
open PySem PySem.Spec PyProof.Rows

section
variable {X : Cx} {pins : List (Addr × Obj)} {σ : List (Option V)} {H H' : Hp} {s : Shared} {h' : Heap}

end

end L2

namespace L2
open PySem PySem.Spec PyProof.Rows
section
variable {X : Cx}

variable {a b : Expr} {ta tb : TE} {pos : Pos}
variable {tA tB' : TT} {rest : List Expr}
end
end L2

namespace L2
open PySem PySem.Spec PyProof.Rows

section
variable {X : Cx} {pins : List (Addr × Obj)} {σ : St} {H : Hp} {s : Shared} {a : Addr} {xs ys : List V}
end

section
variable {X : Cx} {pins : List (Addr × Obj)} {σ : St} {H : Hp} {s : Shared} {E : Value → Shared → Prop}
end

section
variable {X : Cx} {st : Stmt} {rest : List Stmt} {t u : TS} {e : Expr} {te : TE} {pos : Pos}
end

section
variable {X : Cx} {pos : Pos}
end

section
variable {X : Cx} {pos : Pos}
end

end L2

namespace L2
open PySem PySem.Spec PyProof.Rows
section
variable {X : Cx} {tg : Expr}
end

end L2

namespace L2
open PySem PySem.Spec PyProof.Rows

section
variable {X : Cx} {a b c : Expr} {ta tb tc : TE} {pos : Pos}

end

section
variable {X : Cx} {a b c : Expr} {ta tb tc : TE} {pos : Pos}
end
end L2

namespace L2
open PySem PySem.Spec PyProof.Rows

section
variable {prog : Program} {w : World} {A : Around} {E : Value → Shared → Prop} {s : Shared} {K : PySem.W.Frag} {x dx C f : Addr} {mA : Str → Option Value} {name : Str} {v : Value}

end

section
variable {P : Program} {w : World} {H H' : Hp} {h h' : Heap} {a C dx : Addr} {fs fs' : List (Str × V)}
end

section
variable {X : Cx} {pins : List (Addr × Obj)} {σ : St} {H : Hp} {s : Shared} {a C dx : Addr} {fs : List (Str × V)} {f : Str} {v : V} {A : Around} {E : Value → Shared → Prop}

end

section
variable {X : Cx} {o e value : Expr} {f : Str} {pos pos' tpos : Pos} {ta tv : TE}
end

section
variable {X : Cx} {pins : List (Addr × Obj)} {σ : St} {H : Hp} {s : Shared} {A : Around} {E : Value → Shared → Prop} {Q : Value → Shared → Prop} {c : Value} {b : Bool}
end
end L2

namespace L2
open PySem PySem.Spec PyProof.Rows

section
variable {X : Cx} {e : Expr} {es : List Expr} {te : TE} {t : TA} {pos : Pos}
end

section
variable {X : Cx} {pins : List (Addr × Obj)} {σ : St} {H : Hp} {s s' : Shared}
end

section
variable {X : Cx} {CX : CXT} {k : Nat} {f C : Addr} {fd : FuncData} {ps : List Str} {sp : Sp} {dvs : List V} {ds : List Value} {E : XK} {x m : Str} {p pos apos : Pos} {e o : Expr} {es : List Expr} {ta : TE} {t : TA}

end

section
variable {X : Cx} {CX : CXT} {k : Nat} {f C : Addr} {fd : FuncData} {ps ks : List Str} {sp : Sp} {E : XK} {x m : Str} {p pos apos kpos : Pos} {e o : Expr} {es : List Expr} {kws : List Keyword} {te ta : TE} {t tk : TA} {nm : Option Str}
variable {g : List Value → List Value → List Value} {gV : List V → List V → List V}
end

end L2

namespace L2
open PySem PySem.Spec PyProof.Rows
section
variable {X : Cx} {x : Str} {p pos : Pos} {e : Expr} {es : List Expr} {t : TA} {id T : String} {r : List V → Hp → VK → Prop}

end
end L2

namespace L2
open PySem PySem.Spec PyProof.Rows

section
variable {κ : Type} [DecidableEq κ]
def valV (kvs : List (κ × V)) (k : κ) : Option V := (kvs.find? fun kv => decide (kv.1 = k)).map (·.2)
/-- in its place, or at the end -/
def putK (kvs : List (κ × V)) (k : κ) (v : V) : List (κ × V) :=
  if (kvs.any fun kv => decide (kv.1 = k)) = true then kvs.map (fun kv => if kv.1 = k then (kv.1, v) else kv) else kvs ++ [(k, v)]
def dropK (kvs : List (κ × V)) (k : κ) : List (κ × V) := kvs.filter fun kv => decide (kv.1 ≠ k)

theorem valV_pos {p : κ × V} {r : List (κ × V)} {k : κ} (e : p.1 = k) : valV (p :: r) k = some p.2 := by simp [valV, List.find?_cons, e]
theorem valV_neg {p : κ × V} {r : List (κ × V)} {k : κ} (e : ¬ p.1 = k) : valV (p :: r) k = valV r k := by simp [valV, List.find?_cons, e]
theorem valV_any (k : κ) : ∀ kvs : List (κ × V), (kvs.any fun kv => decide (kv.1 = k)) = (valV kvs k).isSome
  | [] => rfl
  | p :: r => by
    rw [List.any_cons]
    by_cases e : p.1 = k
    · simp only [valV_pos e, decide_eq_true e, Bool.true_or, Option.isSome_some]
    · rw [valV_neg e, decide_eq_false e, Bool.false_or]; exact valV_any k r
theorem length_putK (kvs : List (κ × V)) (k : κ) (v : V) : (putK kvs k v).length ≤ kvs.length + 1 := by
  unfold putK
  split
  · rw [List.length_map]; omega
  · rw [List.length_append, List.length_cons, List.length_nil]; omega
theorem putK_new {kvs : List (κ × V)} {k : κ} (v : V) (h : valV kvs k = none) : putK kvs k v = kvs ++ [(k, v)] := by
  unfold putK
  rw [valV_any, h]
  exact if_neg (by decide)

theorem RelO.isSome_eq {o : Option V} {u : Option Value} (r : RelO o u) : o.isSome = u.isSome := by
  cases o with
  | none => cases u with
    | none => rfl
    | some _ => exact (show False from r).elim
  | some _ => cases u with
    | none => exact (show False from r).elim
    | some _ => rfl
theorem RelO.getD {o : Option V} {u : Option Value} {d : V} {d' : Value} (r : RelO o u) (rd : RelV d d') : RelV (o.getD d) (u.getD d') := by
  cases o with
  | none => cases u with
    | none => exact rd
    | some _ => exact (show False from r).elim
  | some _ => cases u with
    | none => exact (show False from r).elim
    | some _ => exact r

/-- raw tables of the same keys -/
theorem KV.val {kvs : List (κ × V)} {vs : List (κ × Value)} (r : KV kvs vs) (k : κ) : RelO (valV kvs k) (valueAt vs k) := by
  unfold KV at r
  induction r with
  | nil => exact True.intro
  | @cons p q ps qs h t ih =>
    obtain ⟨h1, h2⟩ := h
    by_cases e : p.1 = k
    · have e' : q.1 = k := h1.symm.trans e
      have b : valueAt (q :: qs) k = some q.2 := by simp [valueAt, List.find?_cons, e']
      rw [valV_pos e, b]; exact h2
    · have e' : ¬ q.1 = k := fun z => e (h1.trans z)
      have b : valueAt (q :: qs) k = valueAt qs k := by simp [valueAt, List.find?_cons, e']
      rw [valV_neg e, b]; exact ih
theorem KV.any {kvs : List (κ × V)} {vs : List (κ × Value)} (r : KV kvs vs) (k : κ) : (kvs.any fun kv => decide (kv.1 = k)) = vs.any fun kv => decide (kv.1 = k) := by
  unfold KV at r
  induction r with
  | nil => rfl
  | cons h t ih => rw [List.any_cons, List.any_cons, ih, h.1]
theorem KV.repl {kvs : List (κ × V)} {vs : List (κ × Value)} (r : KV kvs vs) (k : κ) {y : V} {u : Value} (ry : RelV y u) :
    KV (kvs.map fun kv => if kv.1 = k then (kv.1, y) else kv) (vs.map fun kv => if kv.1 = k then (kv.1, u) else kv) := by
  unfold KV at r ⊢
  induction r with
  | nil => exact .nil
  | @cons p q ps qs h t ih =>
    rw [List.map_cons, List.map_cons]
    refine .cons ?_ ih
    obtain ⟨h1, h2⟩ := h
    by_cases e : p.1 = k
    · rw [if_pos e, if_pos (h1.symm.trans e)]; exact ⟨h1, ry⟩
    · rw [if_neg e, if_neg (fun z => e (h1.trans z))]; exact ⟨h1, h2⟩
theorem KV.put {kvs : List (κ × V)} {vs : List (κ × Value)} (r : KV kvs vs) (k : κ) {y : V} {u : Value} (ry : RelV y u) : KV (putK kvs k y) (stored vs k u) := by
  unfold putK stored
  rw [r.any k]
  by_cases e : (vs.any fun kv => decide (kv.1 = k)) = true
  · rw [if_pos e, if_pos e]; exact r.repl k ry
  · rw [if_neg e, if_neg e]; exact Paired.snoc r ⟨rfl, ry⟩
theorem KV.drop {kvs : List (κ × V)} {vs : List (κ × Value)} (r : KV kvs vs) (k : κ) : KV (dropK kvs k) (without vs k) := by
  unfold KV at r ⊢
  unfold dropK without
  induction r with
  | nil => exact .nil
  | @cons p q ps qs h t ih =>
    obtain ⟨h1, h2⟩ := h
    rw [List.filter_cons, List.filter_cons]
    by_cases e : p.1 = k
    · have a : ¬ decide (p.1 ≠ k) = true := by simp [e]
      have b : ¬ decide (q.1 ≠ k) = true := by simp [h1.symm.trans e]
      rw [if_neg a, if_neg b]; exact ih
    · have e' : ¬ q.1 = k := fun z => e (h1.trans z)
      have a : decide (p.1 ≠ k) = true := by simp [e]
      have b : decide (q.1 ≠ k) = true := by simp [e']
      rw [if_pos a, if_pos b]; exact .cons ⟨h1, h2⟩ ih
theorem KV.keys {kvs : List (κ × V)} {vs : List (κ × Value)} (r : KV kvs vs) : kvs.map (·.1) = vs.map (·.1) := by
  unfold KV at r
  induction r with
  | nil => rfl
  | cons h t ih => rw [List.map_cons, List.map_cons, ih, h.1]
theorem KV.length {kvs : List (κ × V)} {vs : List (κ × Value)} (r : KV kvs vs) : kvs.length = vs.length := Paired.length r
theorem dropK_le (kvs : List (κ × V)) (k : κ) : (dropK kvs k).length ≤ kvs.length := List.length_filter_le _ _
end


theorem kV_is {P : Program} {w : World} {k : Key} {u : Value} (r : RelV (kV k) u) : (mixKind P w).is k u = true := by
  cases k with
  | inl i => obtain ⟨t, e⟩ := (show ∃ t, u = Value.int i t from r); subst e; exact mixKind_int P w i t
  | inr x => obtain ⟨t, e⟩ := (show ∃ t, u = Value.str x t from r); subst e; exact mixKind_str P w x t
theorem items_are {P : Program} {w : World} : ∀ {ks : List Key} {us : List Value}, Vals (ks.map kV) us → ItemsAre (mixKind P w) ks us
  | [], _, r => by rw [List.map_nil] at r; cases r; exact .nil
  | k :: ks, _, r => by
    rw [List.map_cons] at r
    cases r with
    | cons h t => exact .cons (kV_is h) (items_are t)

/-- raw entries of a dict with tuple keys -/
abbrev KT (H : Hp) : List (List Key × V) → List (List Key × Addr × Value) → Prop := Paired fun p q => p.1 = q.1 ∧ H q.2.1 = some (.tup (p.1.map kV)) ∧ RelV p.2 q.2.2
theorem KT.val {H : Hp} {kvs : List (List Key × V)} {xs : List (List Key × Addr × Value)} (r : KT H kvs xs) (k : List Key) : RelO (valV kvs k) ((atKey xs k).map (·.2)) := by
  induction r with
  | nil => exact True.intro
  | @cons p q ps qs h t ih =>
    obtain ⟨h1, _, h2⟩ := h
    by_cases e : p.1 = k
    · have e' : q.1 = k := h1.symm.trans e
      have b : atKey (q :: qs) k = some q.2 := by simp [atKey, List.find?_cons, e']
      rw [valV_pos e, b]; exact h2
    · have e' : ¬ q.1 = k := fun z => e (h1.trans z)
      have b : atKey (q :: qs) k = atKey qs k := by simp [atKey, List.find?_cons, e']
      rw [valV_neg e, b]; exact ih
theorem KT.repl {H : Hp} {kvs : List (List Key × V)} {xs : List (List Key × Addr × Value)} (r : KT H kvs xs) (k : List Key) {y : V} {u : Value} (ry : RelV y u) :
    KT H (kvs.map fun kv => if kv.1 = k then (kv.1, y) else kv) (xs.map (putAt k u)) := by
  induction r with
  | nil => exact .nil
  | @cons p q ps qs h t ih =>
    rw [List.map_cons, List.map_cons]
    refine .cons ?_ ih
    obtain ⟨h1, h2, h3⟩ := h
    unfold putAt
    by_cases e : p.1 = k
    · rw [if_pos e, if_pos (h1.symm.trans e)]; exact ⟨h1, h2, ry⟩
    · rw [if_neg e, if_neg (fun z => e (h1.trans z))]; exact ⟨h1, h2, h3⟩
theorem KT.put {H : Hp} {kvs : List (List Key × V)} {xs : List (List Key × Addr × Value)} (r : KT H kvs xs) (k : List Key) {b : Addr} {y : V} {u : Value} (hb : H b = some (.tup (k.map kV))) (ry : RelV y u) :
    KT H (putK kvs k y) (storedH xs k b u) := by
  have e : (kvs.any fun kv => decide (kv.1 = k)) = (atKey xs k).isSome := by
    rw [valV_any, (r.val k).isSome_eq, Option.isSome_map]
  unfold putK storedH
  rw [e]
  by_cases q : (atKey xs k).isSome = true
  · rw [if_pos q, if_pos q]; exact r.repl k ry
  · rw [if_neg q, if_neg q]; exact Paired.snoc r ⟨rfl, hb, ry⟩
theorem KT.keeps {H H' : Hp} {kvs : List (List Key × V)} {xs : List (List Key × Addr × Value)} (r : KT H kvs xs) (ht : ∀ b ys, H b = some (.tup ys) → H' b = some (.tup ys)) : KT H' kvs xs :=
  Paired.mapP r fun _ _ z => ⟨z.1, ht _ _ z.2.1, z.2.2⟩

section
variable {P : Program} {w : World} {H : Hp} {h : Heap} {a : Addr}
theorem rd_of {u : HO} (ok : HOk P w H h) (e : Rd H a u) : ObjOk P w H h a u := e.ok ok
theorem dk_rd {kvs : List (Key × V)} (ok : HOk P w H h) (e : Rd H a (.dK kvs)) : kvs.length ≤ sizeLine ∧ (a == sysModules) = false ∧ ∃ vs, KV kvs vs ∧ h.DictOf (mixKind P w) a vs :=
  show ObjOk P w H h a (.dK kvs) from rd_of ok e
theorem dk_of {kvs : List (Key × V)} (ok : HOk P w H h) (e : H a = some (.dK kvs)) : kvs.length ≤ sizeLine ∧ (a == sysModules) = false ∧ ∃ vs, KV kvs vs ∧ h.DictOf (mixKind P w) a vs := dk_rd ok (.inl e)
/-- a tracked tuple of ints and texts is a key -/
theorem key_of {ks : List Key} (ok : HOk P w H h) (e : H a = some (.tup (ks.map kV))) : (tupleKind (mixKind P w)).is h ks a := by
  obtain ⟨_, its, r, o, h1, h2, n, h3⟩ := (show ObjOk P w H h a (.tup (ks.map kV)) from ok a _ e)
  exact ⟨o, its.toArray, n, h1, h2, h3, by simpa using items_are r⟩
theorem dt_rd {kvs : List (List Key × V)} (ok : HOk P w H h) (e : Rd H a (.dT kvs)) : kvs.length ≤ sizeLine ∧ (a == sysModules) = false ∧
    ∃ xs, KT H kvs xs ∧ h.DictOfH (tupleKind (mixKind P w)) a xs := by
  obtain ⟨z, y, xs, r, o, es, ep, h1, h2, h3, h4, h5⟩ := (show ObjOk P w H h a (.dT kvs) from rd_of ok e)
  refine ⟨z, y, xs, r, o, es, ep, h1, h2, h3, h4, fun x hx => ?_, h5⟩
  have all : ∀ {l : List (List Key × V)} {m : List (List Key × Addr × Value)}, KT H l m → ∀ x ∈ m, (tupleKind (mixKind P w)).is h x.1 x.2.1 := by
    intro l m q
    induction q with
    | nil => intro x hx; exact nomatch hx
    | @cons p q ps qs hq t ih =>
      intro x hx
      rcases List.mem_cons.mp hx with e | hx
      · subst e
        exact key_of ok (by rw [← hq.1]; exact hq.2.1)
      · exact ih x hx
  exact all r x hx
theorem dt_of {kvs : List (List Key × V)} (ok : HOk P w H h) (e : H a = some (.dT kvs)) : kvs.length ≤ sizeLine ∧ (a == sysModules) = false ∧
    ∃ xs, KT H kvs xs ∧ h.DictOfH (tupleKind (mixKind P w)) a xs := dt_rd ok (.inl e)
end

/-- what the dict at a holds at the key y -/
def DGet (H : Hp) (a : Addr) (y : V) (r : Option V) : Prop :=
  (∃ kvs k, Rd H a (.dK kvs) ∧ y = kV k ∧ r = valV kvs k) ∨ ∃ kvs k b, Rd H a (.dT kvs) ∧ y = .ref b ∧ H b = some (.tup (k.map kV)) ∧ r = valV kvs k
/-- the heap behind a[y] = v -/
def DPut (H : Hp) (a : Addr) (y v : V) (H' : Hp) : Prop :=
  (∃ kvs k, H a = some (.dK kvs) ∧ y = kV k ∧ kvs.length < sizeLine ∧ H' = upd H a (.dK (putK kvs k v))) ∨
  ∃ kvs k b, H a = some (.dT kvs) ∧ y = .ref b ∧ H b = some (.tup (k.map kV)) ∧ kvs.length < sizeLine ∧ H' = upd H a (.dT (putK kvs k v))
theorem DGet.k {H : Hp} {a : Addr} {kvs : List (Key × V)} {k : Key} (e : H a = some (.dK kvs)) : DGet H a (kV k) (valV kvs k) := .inl ⟨kvs, k, .inl e, rfl, rfl⟩
theorem DGet.t {H : Hp} {a b : Addr} {kvs : List (List Key × V)} {k : List Key} (e : H a = some (.dT kvs)) (eb : H b = some (.tup (k.map kV))) : DGet H a (.ref b) (valV kvs k) := .inr ⟨kvs, k, b, .inl e, rfl, eb, rfl⟩
theorem DPut.k {H : Hp} {a : Addr} {kvs : List (Key × V)} {k : Key} {v : V} (e : H a = some (.dK kvs)) (hl : kvs.length < sizeLine) : DPut H a (kV k) v (upd H a (.dK (putK kvs k v))) := .inl ⟨kvs, k, e, rfl, hl, rfl⟩
theorem DPut.t {H : Hp} {a b : Addr} {kvs : List (List Key × V)} {k : List Key} {v : V} (e : H a = some (.dT kvs)) (eb : H b = some (.tup (k.map kV))) (hl : kvs.length < sizeLine) :
    DPut H a (.ref b) v (upd H a (.dT (putK kvs k v))) := .inr ⟨kvs, k, b, e, rfl, eb, hl, rfl⟩


section
variable {X : Cx} {pins : List (Addr × Obj)} {σ : St} {H : Hp} {s : Shared} {a : Addr} {y v : V} {u r : Value} {o : Option V} {A : Around} {E : Value → Shared → Prop}

theorem Inv.big (I : Inv X pins σ H s) : sysModules < s.heap.objs.size := by
  have h : mainGlobals < s.heap.objs.size := (I.mod.glob.keeps I.bk).lt
  exact Nat.lt_trans (by decide) h

/-- d[y], there -/
theorem d_getItem {Q : Value → Shared → Prop} (hu : A.units + 1 < cLine) (I : Inv X pins σ H s) (g : DGet H a y (some v)) (ry : RelV y u) (h : ∀ w' s', Inv X pins σ H s' → RelV v w' → Q w' s') :
    wpAny (model X.prog X.w) A (getItem (.ref a) u) Q E s := by
  rcases g with ⟨kvs, k, e, ey, l⟩ | ⟨kvs, k, b, e, ey, eb, l⟩
  · subst ey
    obtain ⟨z, hd, vs, rel, dd⟩ := dk_rd I.hok e
    obtain ⟨w', hw, rw'⟩ := RelO.some_of (v := v) (o := valueAt vs k) (by rw [l]; exact rel.val k)
    exact wpAny_getItem_of (kV_is ry) dd.mapOf hw (h w' _ (I.tok _) rw')
  · subst ey
    cases (show u = Value.ref b from ry)
    obtain ⟨z, hd, xs, rel, dd⟩ := dt_rd I.hok e
    obtain ⟨w', hw, rw'⟩ := RelO.some_of (v := v) (o := (atKey xs k).map (·.2)) (by rw [l]; exact rel.val k)
    obtain ⟨p, hp, hp2⟩ := Option.map_eq_some_iff.mp hw
    refine wpAny_getItem_heap (tupleKind_room_in1 hu) (key_of I.hok eb) dd hp ?_
    rw [hp2]
    exact h w' _ (I.tok _) rw'
theorem d_notIn {Q : Value → Shared → Prop} (hu : A.units + 1 < cLine) (I : Inv X pins σ H s) (g : DGet H a y o) (ry : RelV y u) (h : ∀ s', Inv X pins σ H s' → Q (.bool (!o.isSome)) s') :
    wpAny (model X.prog X.w) A (compareOp .NotIn u (.ref a)) Q E s := by
  rcases g with ⟨kvs, k, e, ey, l⟩ | ⟨kvs, k, b, e, ey, eb, l⟩
  · subst ey
    obtain ⟨z, hd, vs, rel, dd⟩ := dk_rd I.hok e
    refine wpAny_notIn_of (kV_is ry) hd dd.mapOf ?_
    rw [← (rel.val k).isSome_eq, ← l]
    exact h _ (I.tok _)
  · subst ey
    cases (show u = Value.ref b from ry)
    obtain ⟨z, hd, xs, rel, dd⟩ := dt_rd I.hok e
    refine wpAny_notIn_heap (tupleKind_room_in1 hu) (key_of I.hok eb) hd dd ?_
    have q := (rel.val k).isSome_eq
    rw [Option.isSome_map] at q
    rw [← q, ← l]
    exact h _ (I.tok _)
/-- a dict's object is replaced -/
theorem d_write {h' : Heap} {t' : Nat} {ob : HO} (I : Inv X pins σ H s) (mu : Mut (H a)) (hs : Heap.SameBut a s.heap h') (he : ∃ q, h'.get? a = some q) (new : ObjOk X.prog X.w (upd H a ob) h' a ob) :
    Inv X pins σ (upd H a ob) { s with heap := h', toks := t' } :=
  I.write (x := a) (e := a) mu (.inl rfl) (fun b q hb z => (hs.2 b hb).trans z) he new
theorem dk_new {P : Program} {w : World} {H' : Hp} {h' : Heap} {kvs : List (Key × V)} {vs : List (Key × Value)} (z : kvs.length ≤ sizeLine) (hd : (a == sysModules) = false) (rel : KV kvs vs) (dd : h'.DictOf (mixKind P w) a vs) :
    ObjOk P w H' h' a (.dK kvs) := ⟨z, hd, vs, rel, dd⟩
/-- d[y] = v -/
theorem d_setItem {H' : Hp} {Q : Unit → Shared → Prop} (hu : A.units + 1 < cLine) (I : Inv X pins σ H s) (g : DPut H a y v H') (ry : RelV y u) (rv : RelV v r) (h : ∀ s', Inv X pins σ H' s' → Q () s') :
    wpAny (model X.prog X.w) A (setItem (.ref a) u r) Q E s := by
  rcases g with ⟨kvs, k, e, ey, l, eH⟩ | ⟨kvs, k, b, e, ey, eb, l, eH⟩
  · subst ey eH
    obtain ⟨z, hd, vs, rel, dd⟩ := dk_of I.hok e
    have hz : vs.length ≤ sizeLine := by rw [← rel.length]; exact z
    have hl : (putK kvs k v).length ≤ sizeLine := by have := length_putK kvs k v; omega
    refine wpAny_setItem_pairs (hsz := hz) (kV_is ry) dd fun h' dd' hs => h _ ?_
    have he : ∃ q, h'.get? a = some q := let ⟨q, _, _, hq, _⟩ := dd'; ⟨q, hq⟩
    exact d_write I (by rw [e]; exact True.intro) hs he (dk_new hl hd (rel.put k rv) dd')
  · subst ey eH
    cases (show u = Value.ref b from ry)
    obtain ⟨z, hd, xs, rel, dd⟩ := dt_of I.hok e
    have hz : xs.length ≤ sizeLine := by rw [← Paired.length rel]; exact z
    have hl : (putK kvs k v).length ≤ sizeLine := by have := length_putK kvs k v; omega
    refine wpAny_setItem_heap (hsz := hz) (tupleKind_room_in1 hu) (key_of I.hok eb) dd fun h' dd' hs => h _ ?_
    obtain ⟨q, es, ep, hq, h2, h3, h4, _, h5⟩ := dd'
    refine d_write I (by rw [e]; exact True.intro) hs ⟨q, hq⟩ ⟨hl, hd, _, (rel.put k eb rv).keeps fun c ys ec => ?_, q, es, ep, hq, h2, h3, h4, h5⟩
    rw [upd_ne (ne_of ec e (fun z => nomatch z))]
    exact ec
end

section
variable {X : Cx} {pins : List (Addr × Obj)} {σ : St} {H : Hp} {s : Shared} {a : Addr} {kvs : List (Key × V)} {k : Key} {u : Value} {A : Around} {E : Value → Shared → Prop}
/-- d.pop(k[, x]), there -/
theorem d_pop {v : V} {more : List Value} {Q : Value → Shared → Prop} (I : Inv X pins σ H s) (e : H a = some (.dK kvs)) (ry : RelV (kV k) u) (l : valV kvs k = some v) (hm : more = [] ∨ ∃ x, more = [x])
    (h : ∀ w' s', Inv X pins σ (upd H a (.dK (dropK kvs k))) s' → RelV v w' → Q w' s') : wpAny (model X.prog X.w) A (call (.builtin "dict.pop") (.ref a :: u :: more)) Q E s := by
  obtain ⟨z, hd, vs, rel, dd⟩ := dk_of I.hok e
  obtain ⟨w', hw, rw'⟩ := RelO.some_of (v := v) (o := valueAt vs k) (by rw [← l]; exact rel.val k)
  have hp : (keyPart u).isSome = true := by
    cases k with
    | inl i => obtain ⟨t, q⟩ := (show ∃ t, u = Value.int i t from ry); subst q; rfl
    | inr x => obtain ⟨t, q⟩ := (show ∃ t, u = Value.str x t from ry); subst q; rfl
  have ha : argsOk "dict.pop" ⟨.ref a :: u :: more, []⟩ := by
    rcases hm with q | ⟨x, q⟩
    · subst q; exact PySem.F.args_dict_pop_2 _ _
    · subst q; exact PySem.F.args_dict_pop_3 _ _ _
  refine call_meetsIn PySem.F.slot_dict_pop dd.typeIs PySem.F.entry_dict_pop ha (meets_dict_pop_there (mixKind X.prog X.w) a (kV_is ry) more hm hp)
    ⟨vs, w', dd, by rw [← rel.length]; exact z, hw, fun h' dd' hs => h w' _ ?_ rw'⟩
  have he : ∃ q, h'.get? a = some q := let ⟨q, _, _, hq, _⟩ := dd'; ⟨q, hq⟩
  exact d_write I (by rw [e]; exact True.intro) hs he (dk_new (Nat.le_trans (dropK_le kvs k) z) hd (rel.drop k) dd')
end


/-- the element of a subscription, not a slice -/
def NoSl (i : Expr) : Prop := ∀ ov iv, subscripted i false ov iv = operate [ov, iv] (getItem ov iv)
theorem subD_of {prog : Program} {w : World} {A : Around} {E : Value → Shared → Prop} {s : Shared} {env : Env} {value slice : Expr} {pos : Pos} {T id : String} {Q : Value → Shared → Prop}
    (hl : typeLookup (.type T) "__getitem__" = pure (some (.builtin id))) (hs : NoSl slice)
    (h : wpAny (model prog w) A (eval value env) (fun o s₁ => wpAny (model prog w) A (eval slice env) (fun i s₂ => s₂.TypeIs o T ∧ wpAny (model prog w) A (getItem o i) Q E s₂) E s₁) E s) :
    wpAny (model prog w) A (eval (.Subscript value slice pos) env) Q E s := by
  refine Subscript_ (wpAny_mono h (fun o s₁ h₁ => wpAny_mono h₁ (fun i s₂ h₂ => ?_) fun _ _ x => x) fun _ _ x => x)
  obtain ⟨hT, h₂⟩ := h₂
  unfold subscriptTail
  refine wpAny_bind ?_
  rw [getitemInPython_of_ne hT.not_modules]
  refine wpAny_bind (wpAny_specialOf hT hl ?_)
  have fin : wpAny (model prog w) A (subscripted slice false o i) (fun r s₃ => wpAny (model prog w) A (letTemporaryGo value o r >>= fun _ => pure r) Q E s₃) E s₂ := by
    rw [hs o i]
    exact wpAny_operating (wpAny_mono h₂ (fun r s₃ h₃ => wpAny_bind (wpAny_letTemporaryGo (wpAny_pure h₃))) fun _ _ x => x)
  first
    | exact wpAny_pure (wpAny_bind fin)
    | exact wpAny_bind (wpAny_pure (wpAny_bind fin))
    | exact wpAny_bind fin

theorem dict_typeIs {X : Cx} {pins : List (Addr × Obj)} {σ : St} {H : Hp} {s : Shared} {a : Addr} {y : V} {o : Option V} (I : Inv X pins σ H s) (g : DGet H a y o) : s.TypeIs (.ref a) "dict" := by
  rcases g with ⟨kvs, k, e, _, _⟩ | ⟨kvs, k, b, e, _, _, _⟩
  · obtain ⟨_, _, vs, _, dd⟩ := dk_rd I.hok e
    exact dd.typeIs
  · obtain ⟨_, _, xs, _, dd⟩ := dt_rd I.hok e
    exact dd.typeIs
/-- d[y] -/
def tDGet (td ty : TE) : TE := fun σ H Q => td σ H fun x H1 => ty σ H1 fun y H2 => ∃ a v, x = .ref a ∧ DGet H2 a y (some v) ∧ Q v H2
/-- y in d, y not in d -/
def tDIn (ty td : TE) : TE := fun σ H Q => ty σ H fun y H1 => td σ H1 fun x H2 => ∃ a o, x = .ref a ∧ DGet H2 a y o ∧ Q (.bl o.isSome) H2
def tDNotIn (ty td : TE) : TE := fun σ H Q => ty σ H fun y H1 => td σ H1 fun x H2 => ∃ a o, x = .ref a ∧ DGet H2 a y o ∧ Q (.bl (!o.isSome)) H2
/-- d[y] = v -/
def sDPut (td ty tv : TE) : TS := fun D σ H => tv σ H fun v H1 => td σ H1 fun x H2 => ty σ H2 fun y H3 => ∃ a H4, x = .ref a ∧ DPut H3 a y v H4 ∧ D.nx σ H4
section
variable {X : Cx} {o i e value : Expr} {pos pos' tpos : Pos} {td ty tv : TE}
theorem pe_dget (hu : X.A.units + 1 < cLine) (ho : PE X o td) (hi : PE X i ty) (hs : NoSl i) : PE X (.Subscript o i pos) (tDGet td ty) := by
  intro pins s σ H Q I h
  refine subD_of PySem.F.slot_dict_getitem.lookup hs (thn (ho pins s σ H _ I h) fun u s1 ⟨x, H1, I1, rx, q1⟩ => thn (hi pins s1 σ H1 _ I1 q1) fun iv s2 ⟨y, H2, I2, ry, a, v, ex, g, q2⟩ => ?_)
  subst ex
  obtain rfl : u = Value.ref a := rx
  exact ⟨dict_typeIs I2 g, d_getItem hu I2 g ry fun w' s3 I3 rw' => ⟨v, H2, I3, rw', q2⟩⟩
theorem pc_dnotin (hu : X.A.units + 1 < cLine) (hi : PE X i ty) (ho : PE X o td) : PC X .NotIn i o (tDNotIn ty td) := by
  intro pins s σ H Q I h
  refine thn (hi pins s σ H _ I h) fun iv s1 ⟨y, H1, I1, ry, q1⟩ => thn (ho pins s1 σ H1 _ I1 q1) fun u s2 ⟨x, H2, I2, rx, a, ov, ex, g, q2⟩ => ?_
  subst ex
  obtain rfl : u = Value.ref a := rx
  exact d_notIn hu I2 g ry fun s3 I3 => ⟨.bl (!ov.isSome), H2, I3, rfl, q2⟩
theorem ps_dput (hu : X.A.units + 1 < cLine) (ho : PE X o td) (hi : PE X i ty) (hv : PE X value tv) (hs : swapsWith value (some (.Subscript o i pos')) pos.line X.env = pure false) :
    PS X (.Assign [.Subscript o i pos'] value pos) (sDPut td ty tv) := by
  intro pins s σ H D I h
  refine wpAny_Assign_Subscript (thn (hv pins s σ H _ I h) fun r s1 ⟨v, H1, I1, rv, q1⟩ => thn (ho pins s1 σ H1 _ I1 q1) fun u s2 ⟨x, H2, I2, rx, q2⟩ => thn (hi pins s2 σ H2 _ I2 q2) fun iv s3 ⟨y, H3, I3, ry, a, H4, ex, g, q3⟩ => ?_) hs
  subst ex
  obtain rfl : u = Value.ref a := rx
  exact d_setItem hu I3 g ry rv fun s4 I4 => ⟨σ, H4, I4, q3⟩
end


theorem dk_empty {P : Program} {w : World} {H : Hp} (h : Heap) (hb : sysModules < h.objs.size) : ObjOk P w H (h.push { cls := .type "dict", data := .dict #[] }) h.objs.size (.dK []) :=
  ⟨Nat.zero_le _, beq_eq_false_iff_ne.mpr (Ne.symm (Nat.ne_of_lt hb)), [], .nil, Heap.DictOf.new h⟩
/-- {}, to be a dict of the kind that is wanted -/
def tDNewK : TE := fun _ H Q => ∀ p, H p = none → Q (.ref p) (upd H p (.dK []))
section
variable {X : Cx} {pos : Pos}
theorem pe_dnewK : PE X (.Dict [] [] pos) tDNewK := fun pins s σ H Q I h =>
  wpAny_Dict_empty ⟨.ref s.heap.objs.size, _, I.laid (a := s.heap.objs.size) (o := .dK []) (t' := s.toks) (fun _ _ q => Heap.get?_push_of_some _ q) (Nat.le_refl _) (dk_empty s.heap I.big), rfl, h _ (I.hok.fresh (Nat.le_refl _))⟩
end

/-- a method call o.m(e) of a built-in, with one argument: what must be seen of the text -/
structure M1 (X : Cx) (o : Expr) (m : Str) (apos : Pos) (e : Expr) (cpos : Pos) : Prop where
  base : attributeBase o m X.env (eval o X.env) = eval o X.env
  few : ((backTo cpos (starEach [e] X.env)).all (fun x => !x.1) && (backToKw cpos (keywordEach [] X.env)).all (fun x => x.1.isSome)
    && decide (([e] : List Expr).length + ([] : List Keyword).length + (if ([] : List Keyword).isEmpty then 0 else 1) < 30)) = true
  line : (apos.endLine == cpos.line) = true
  trees : backTo cpos (starEach [e] X.env) = [(false, eval e X.env)]
/-- a is a dict, whatever its keys -/
def IsD (H : Hp) (a : Addr) : Prop := (∃ kvs, Rd H a (.dK kvs)) ∨ ∃ kvs, Rd H a (.dT kvs)
theorem isD_at {X : Cx} {pins : List (Addr × Obj)} {σ : St} {H : Hp} {s : Shared} {a : Addr} (I : Inv X pins σ H s) (d : IsD H a) :
    s.TypeIs (.ref a) "dict" ∧ (∀ b, Value.ref a = .ref b → ∃ ob, s.heap.get? b = some ob ∧ ob.dict = none) ∧ (a == sysModules) = false := by
  rcases d with ⟨kvs, e⟩ | ⟨kvs, e⟩
  · obtain ⟨_, hd, vs, _, dd⟩ := dk_rd I.hok e
    refine ⟨dd.typeIs, fun b q => ?_, hd⟩
    cases q
    obtain ⟨ob, _, _, h1, h2, _⟩ := dd
    exact ⟨ob, h1, h2.2.1⟩
  · obtain ⟨_, hd, xs, _, dd⟩ := dt_rd I.hok e
    refine ⟨dd.typeIs, fun b q => ?_, hd⟩
    cases q
    obtain ⟨ob, _, _, h1, h2, _⟩ := dd
    exact ⟨ob, h1, h2.2.1⟩

section
variable {X : Cx} {pins : List (Addr × Obj)} {σ : St} {H : Hp} {s : Shared} {a : Addr} {y d : V} {u r : Value} {o : Option V} {A : Around} {E : Value → Shared → Prop}
end

def tDGet1 (td ty : TE) : TE := fun σ H Q => td σ H fun x H1 => ∃ a, x = .ref a ∧ IsD H1 a ∧ ty σ H1 fun y H2 => ∃ o, DGet H2 a y o ∧ Q (o.getD .non) H2
/-- d.pop(k): there; d.pop(k, x): there or not -/
def tDPop1 (td ty : TE) : TE := fun σ H Q => td σ H fun x H1 => ∃ a, x = .ref a ∧ IsD H1 a ∧ ty σ H1 fun y H2 => ∃ kvs k v, H2 a = some (.dK kvs) ∧ y = kV k ∧ valV kvs k = some v ∧ Q v (upd H2 a (.dK (dropK kvs k)))
section
variable {X : Cx} {o e f : Expr} {apos cpos : Pos} {td ty tx : TE}
theorem pe_dpop1 (ho : PE X o td) (he : PE X e ty) (m : M1 X o "pop" apos e cpos) : PE X (.Call (.Attribute o "pop" apos) [e] [] cpos) (tDPop1 td ty) := by
  intro pins s σ H Q I h
  refine wpAny_Call_method m.base m.few m.line PySem.F.plainAttrs_dict PySem.F.slot_dict_pop PySem.F.type_dict_pop (thn (ho pins s σ H _ I h) fun u s1 ⟨x, H1, I1, rx, a, ex, d, q1⟩ => ?_)
  subst ex
  obtain rfl : u = Value.ref a := rx
  obtain ⟨t1, t2, _⟩ := isD_at I1 d
  refine ⟨t1, t2, ?_⟩
  rw [m.trees]
  refine Calls.callWith_builtin rfl (Calls.evalArgs_plain (Calls.spliced_cons (thn (he pins s1 σ H1 _ I1 q1) fun iv s2 ⟨y, H2, I2, ry, kvs, k, v, ea, ey, l, q2⟩ => Calls.spliced_nil ?_)))
  subst ey
  exact d_pop I2 ea ry l (.inl rfl) fun w' s3 I3 rw' => ⟨v, _, I3, rw', q2⟩
end

section
variable {X : Cx} {pins : List (Addr × Obj)} {σ : St} {H : Hp} {s : Shared} {a : Addr} {kvs : List (Key × V)} {A : Around} {E : Value → Shared → Prop}
end


section
variable {X : Cx} {pins : List (Addr × Obj)} {σ : St} {H : Hp} {s : Shared} {a : Addr} {y : V} {u : Value} {A : Around} {E : Value → Shared → Prop}
end
end L2

namespace Att
open PySem PySem.W PySem.Calls PyProof.Rows

section
variable {prog : Program} {w : World} {A : Around} {E : Value → Shared → Prop} {s : Shared} {K : Frag}

end
end Att

namespace L2
open PySem PySem.Spec PyProof.Rows

end L2

namespace L2
open PySem PySem.Spec PyProof.Rows

end L2

namespace L2
open PySem PySem.Spec PyProof.Rows

section
variable {P : Program} {w : World} {K : PySem.W.Frag} {mg : Str → Option Value} {base : Heap}
end
section
variable {X : Cx}
end

section
variable {κ : Type} [DecidableEq κ]
end
end L2



end
section
set_option Elab.async false
set_option linter.all false
set_option maxRecDepth 100000
set_option maxHeartbeats 4000000
namespace L2
open PySem PySem.Spec PyProof.Rows

theorem relabel_lookup (env : Env) : ∀ (l : List (Str × NameKind)) (x : Str),
    (l.map fun (n, k) => if (k == NameKind.free && env.scope.kind == .function && env.kindOf n == some .cell) then (n, NameKind.cell) else (n, k)).lookup x
      = (l.lookup x).map fun k => if (k == NameKind.free && env.scope.kind == .function && env.kindOf x == some .cell) then NameKind.cell else k
  | [], _ => rfl
  | (n, k) :: r, x => by
    have ih := relabel_lookup env r x
    show List.lookup x ((if (k == NameKind.free && env.scope.kind == .function && env.kindOf n == some .cell) = true then (n, NameKind.cell) else (n, k)) :: _) = _
    cases hx : x == n with
    | true =>
      have e : x = n := by simpa using hx
      subst e
      by_cases hc : (k == NameKind.free && env.scope.kind == .function && env.kindOf x == some .cell) = true
      · rw [if_pos hc]; simp only [List.lookup_cons, hx, Option.map_some, hc, if_true]
      · rw [if_neg hc]; simp only [List.lookup_cons, hx, Option.map_some, if_neg hc]
    | false =>
      by_cases hc : (k == NameKind.free && env.scope.kind == .function && env.kindOf n == some .cell) = true
      · rw [if_pos hc]; simp only [List.lookup_cons, hx]; exact ih
      · rw [if_neg hc]; simp only [List.lookup_cons, hx]; exact ih

theorem closure_go {env : Env} : ∀ (l : List (Str × NameKind)) (acc : List (Str × Addr)), (∀ y ∈ l, y.2 = .free → ∃ c, env.cells.lookup y.1 = some c) → (∀ y c, acc.lookup y = some c → env.cells.lookup y = some c) →
    ∃ cl, (forIn l acc fun x (cs : List (Str × Addr)) => (if (x.2 == NameKind.free) = true then (do let a ← cellOf env x.1; pure (ForInStep.yield ((x.1, a) :: cs))) else pure (ForInStep.yield cs) : Sem (ForInStep (List (Str × Addr))))) = pure cl ∧ (∀ y c, cl.lookup y = some c → env.cells.lookup y = some c) ∧ (∀ y c, acc.lookup y = some c → ∃ c', cl.lookup y = some c') ∧
      ∀ y ∈ l, y.2 = .free → ∃ c, cl.lookup y.1 = some c
  | [], acc, _, h2 => ⟨acc, rfl, h2, fun _ c h => ⟨c, h⟩, fun _ h => nomatch h⟩
  | (n, k) :: r, acc, h1, h2 => by
    by_cases hk : k = .free
    · subst hk
      obtain ⟨c, hc⟩ := h1 (n, .free) List.mem_cons_self rfl
      have h2' : ∀ y c', ((n, c) :: acc).lookup y = some c' → env.cells.lookup y = some c' := fun y c' h => by
        rw [List.lookup_cons] at h
        cases hy : y == n with
        | true => rw [hy] at h; have e : y = n := by simpa using hy
                  subst e; cases h; exact hc
        | false => rw [hy] at h; exact h2 y c' h
      obtain ⟨cl, e, q1, q2, q3⟩ := closure_go r ((n, c) :: acc) (fun y hy => h1 y (List.mem_cons_of_mem _ hy)) h2'
      refine ⟨cl, ?_, q1, fun y c' h => ?_, fun y hy hf => ?_⟩
      · rw [List.forIn_cons]
        simp only [beq_self_eq_true, if_true]
        unfold cellOf
        rw [hc]
        exact e
      · cases hy : y == n with
        | true => exact q2 y c (by rw [List.lookup_cons, hy])
        | false => exact q2 y c' (by rw [List.lookup_cons, hy]; exact h)
      · rcases List.mem_cons.mp hy with e' | hy
        · subst e'
          exact q2 n c (by simp [List.lookup_cons])
        · exact q3 y hy hf
    · have hb : (k == NameKind.free) = false := by simpa using hk
      obtain ⟨cl, e, q1, q2, q3⟩ := closure_go r acc (fun y hy => h1 y (List.mem_cons_of_mem _ hy)) h2
      refine ⟨cl, ?_, q1, q2, fun y hy hf => ?_⟩
      · rw [List.forIn_cons]
        simp only [hb, Bool.false_eq_true, if_false]
        exact e
      · rcases List.mem_cons.mp hy with e' | hy
        · subst e'; exact absurd hf hk
        · exact q3 y hy hf

theorem closure_ok (env : Env) (sc : Scope) (h : ∀ y ∈ sc.names, y.2 = .free → ∃ c, env.cells.lookup y.1 = some c) :
    ∃ cl, closureFor sc env = pure cl ∧ (∀ y c, cl.lookup y = some c → env.cells.lookup y = some c) ∧ ∀ y ∈ sc.names, y.2 = .free → ∃ c, cl.lookup y.1 = some c := by
  obtain ⟨cl, e, q1, _, q3⟩ := closure_go (env := env) sc.names [] h (fun y c z => by simp at z)
  refine ⟨cl, ?_, q1, q3⟩
  unfold closureFor
  rw [← e]
  simp only [bind_pure]

/-- the block of a comprehension over the slots M of the def, its own name x ahead of them -/
def blk (X : Cx) (sc : Scope) (x : Str) (M : List Str) (cl : List (Str × Addr)) (C : Addr) (s : Shared) (H : Hp) (fp : List Addr) : Cx :=
  { X with N := x :: M, s₀ := s, H₀ := H, env := compEnvC sc cl C X.env, outer := X.stack, ex := fp, fn := fun _ => false, pn := [], xe := fun _ _ => False }

/-- what the text says of the block: its names, as decide sees them -/
structure BlkOk (X : Cx) (sc : Scope) (x : Str) (M : List Str) : Prop where
  kind : sc.kind = .function
  nocell : ∀ y ∈ sc.names, y.2 ≠ .cell
  names : ∀ y ∈ sc.names, y.2 = .local → sc.names.lookup y.1 = some .local
  own : sc.names.lookup x = some .local
  nd : (x :: M).Nodup
  len : M.length = X.N.length
  free : ∀ y ∈ sc.names, y.2 = .free → X.env.kindOf y.1 = some .cell ∨ X.env.kindOf y.1 = some .free
  same : ∀ (i : Nat) (y : Str), M[i]? = some y → sc.names.lookup y = some .free → X.N[i]? = some y
  noloc : ∀ y ∈ M, sc.names.lookup y ≠ some .local

section
variable {X : Cx}
theorem Inv.toBlk {pins : List (Addr × Obj)} {σ : St} {H : Hp} {s : Shared} {sc : Scope} {x : Str} {M : List Str} {cl : List (Str × Addr)} {fp : List Addr} {h₁ : Heap} {tk : Nat}
    (I : Inv X pins σ H s) (B : BlkOk X sc x M) (q1 : ∀ y c, cl.lookup y = some c → X.env.cells.lookup y = some c) (q3 : ∀ y ∈ sc.names, y.2 = .free → ∃ c, cl.lookup y.1 = some c)
    (fpk : ∀ b ∈ fp, FpOk X pins H b) (fpl : ∀ b ∈ fp, b < s.heap.objs.size) {m : Str → Option Value} (hn : h₁.Ns s.heap.objs.size m) (keep : ∀ b o, s.heap.get? b = some o → h₁.get? b = some o) :
    Inv (blk X sc x M cl s.heap.objs.size s H fp) [] (none :: σ) H { s with heap := h₁, toks := tk } := by
  have kindOf' : ∀ y, (blk X sc x M cl s.heap.objs.size s H fp).env.kindOf y = (sc.names.lookup y).map fun k => if (k == NameKind.free && X.env.scope.kind == .function && X.env.kindOf y == some .cell) then NameKind.cell else k := fun y => relabel_lookup X.env sc.names y
  have isfree : ∀ y, ((blk X sc x M cl s.heap.objs.size s H fp).env.kindOf y = some .cell ∨ (blk X sc x M cl s.heap.objs.size s H fp).env.kindOf y = some .free) → sc.names.lookup y = some .free := fun y hy => by
    rw [kindOf'] at hy
    cases e : sc.names.lookup y with
    | none => rw [e] at hy; simp at hy
    | some k =>
      rw [e] at hy
      by_cases hk : k = .free
      · rw [hk]
      · exfalso
        have hb : (k == NameKind.free) = false := by simpa using hk
        simp only [hb, Bool.false_and, Option.map_some, Bool.false_eq_true, if_false, Option.some.injEq] at hy
        rcases hy with z | z
        · exact B.nocell (y, k) (PySem.mem_of_lookup e) z
        · exact hk z
  have ncell : ∀ y c, X.env.cells.lookup y = some c → c < s.heap.objs.size := fun y c e => by
    obtain ⟨v, o, ho, _⟩ := I.cell y c e
    exact Heap.lt_size ho
  have below : ∀ b ∈ fp, FpOk X pins H b := fpk
  refine ⟨⟨I.ok.mod, B.kind, I.ok.glob, I.ok.blt, Nat.le_refl _, fun y z c h1 h2 => I.ok.inj y z c (q1 y c h1) (q1 z c h2), fun y hy => q3 _ (PySem.mem_of_lookup (isfree y hy)) rfl, fun y c h _ => absurd (show false = true from h) Bool.false_ne_true, I.ok.hd, I.ok.frames, .inl rfl,
    fun b hb => ?_, I.bs, Nat.le_trans I.ok.bsz I.sz, fun b o e hb => ?_, fun b hb z => ?_, I.stack, I.stkFree⟩, rfl, I.bare, Un.kept keep, ⟨_, hn, fun i y v e1 e2 e3 => ?_⟩, fun y c h => ?_, I.hok.fresh (Nat.le_refl _), fun y c h => I.freeC y c (q1 y c h), fun p hp => absurd (show p ∈ ([] : List (Addr × Obj)) from hp) (by simp), I.hok.kept keep, ?_⟩
  · exact ⟨Nat.ne_of_lt (fpl b hb), fun y c h => (fpk b hb).2.2.2.2.1 y c (q1 y c h)⟩
  · rcases (fpk b hb).2.2.2.1 with z | z
    · exact I.ok.noex b o e z
    · exact absurd (Nat.lt_of_lt_of_le (Heap.lt_size e) (Nat.le_trans I.ok.bsz z)) (Nat.lt_irrefl _)
  · rcases List.mem_cons.mp (I.stkSub b z) with e | z
    · exact (fpk b hb).2.1 e
    · exact (fpk b hb).2.2.1 z
  · cases i with
    | zero => simp at e2
    | succ i =>
      have e1' : M[i]? = some y := e1
      have e2' : σ[i]? = some (some v) := e2
      have hy : sc.names.lookup y = some .free := by
        rcases e3 with z | z | z
        · exfalso
          have z' : (blk X sc x M cl s.heap.objs.size s H fp).env.kindOf y = some .local := z
          rw [kindOf'] at z'
          cases e : sc.names.lookup y with
          | none => rw [e] at z'; simp at z'
          | some k =>
            rw [e] at z'
            simp only [Option.map_some, Option.some.injEq] at z'
            split at z'
            · cases z'
            · subst z'
              exact B.noloc y (List.mem_of_getElem? e1') e
        · exact isfree y (.inl z)
        · exact isfree y (.inr z)
      have hk := B.free _ (PySem.mem_of_lookup hy) rfl
      obtain ⟨m0, hn0, hl⟩ := I.loc
      obtain ⟨u, r, l⟩ := hl i y v (B.same i y e1' hy) e2' (hk.elim (fun z => .inr (.inl z)) fun z => .inr (.inr z))
      refine ⟨u, r, .inr ⟨?_, ?_⟩⟩
      · rcases e3 with z | z | z
        · exfalso
          have z' : (blk X sc x M cl s.heap.objs.size s H fp).env.kindOf y = some .local := z
          rw [kindOf', hy] at z'
          simp only [Option.map_some, Option.some.injEq] at z'
          split at z' <;> cases z'
        · exact .inl z
        · exact .inr z
      · rcases l with ⟨k, _⟩ | ⟨_, c, e, hc⟩
        · rcases hk with z | z <;> (have z' : X.env.kindOf y = _ := z; rw [k] at z'; cases z')
        · obtain ⟨c', e'⟩ := q3 _ (PySem.mem_of_lookup hy) rfl
          have e'' := q1 y c' e'
          rw [e] at e''; cases e''
          obtain ⟨o, ho, hd⟩ := hc
          exact ⟨c, e', o, keep c o ho, hd⟩
  · obtain ⟨v, o, ho, hd⟩ := I.cell y c (q1 y c h)
    exact ⟨v, o, keep c o ho, hd⟩
  · show (none :: σ).length = (x :: M).length
    rw [List.length_cons, List.length_cons, I.len, B.len]
end

def PIfs (X : Cx) (ifs : List Expr) (t : TT) : Prop :=
  ∀ (pins : List (Addr × Obj)) (s : Shared) (σ : St) (H : Hp) (Q : Bool → Hp → Prop), Inv X pins σ H s → t σ H Q →
    wpAny (model X.prog X.w) X.A (forIn ifs true fun c r => if r = true then do let ok ← isTrue c X.env (eval c X.env); pure (ForInStep.yield ok) else pure (ForInStep.yield r)) (TP X pins σ Q) X.xe s
def tYes : TT := fun _ H Q => Q true H
theorem pif_nil {X : Cx} : PIfs X [] tYes := fun _ _ _ H _ I h => wpAny_tests_nil ⟨H, I, h⟩
section
variable {prog : Program} {w : World} {A : Around} {E : Value → Shared → Prop} {R : Result → Shared → Prop} {s : Shared}
theorem compLoop_go {elt target iter : Expr} {ifs : List Expr} {scope : Scope} {pos : Pos} {it acc : Value} {env : Env} (I : Nat → Shared → Prop)
    (turn : ∀ n s, I n s → wpAny (model prog w) A (pyNext it) (fun r s₁ => match r with
      | none => R (.ok .next) s₁
      | some v => wpAny (model prog w) A (letOwnedTupleGo target it v) (fun _ s₁ => wpAny (model prog w) A (assign target env v) (fun _ s₂ =>
          wpAny (model prog w) A (forIn ifs true fun c r => if r = true then do let ok ← isTrue c env (eval c env); pure (ForInStep.yield ok) else pure (ForInStep.yield r)) (fun ok s₃ =>
            if ok = true then wpAny (model prog w) A (eval elt env) (fun x s₄ =>
              wpAny (model prog w) A (call (.builtin "list.append") [acc, x]) (fun _ s₅ => ∃ m, m < n ∧ I m s₅) (fun _ _ => False) s₄) (fun _ _ => False) s₃
            else ∃ m, m < n ∧ I m s₃) (fun _ _ => False) s₂) (fun _ _ => False) s₁) (fun _ _ => False) s₁) (fun _ _ => False) s)
    (n : Nat) (h : I n s) :
    codeAny (model prog w) A (.compLoop (.ListComp elt [⟨target, iter, ifs, 0⟩] scope pos) 0 it acc env) R s := by
  refine codeAny_loop rfl I (fun n s hI => ?_) n h
  show wpAny _ A ((compTurn (.ListComp elt [⟨target, iter, ifs, 0⟩] scope pos) 0 it acc env).onRaise (fun x => do noteFrame x env; theTreesLotGoes x)) _ _ s
  refine wpAny_noted ?_
  rw [compTurn_list]
  refine wpAny_bind (wpAny_standAt (wpAny_bind (wpAny_mono (turn n s hI) (fun r s₁ h₁ => ?_) fun _ _ h' => h'.elim)))
  cases r with
  | none => exact wpAny_pure h₁
  | some v =>
    refine wpAny_bind (wpAny_mono h₁ (fun _ s₁ h₁ => ?_) fun _ _ h' => h'.elim)
    refine wpAny_bind (wpAny_mono h₁ (fun _ s₂ h₂ => wpAny_bind (wpAny_mono h₂ (fun ok s₃ h₃ => ?_) fun _ _ h' => h'.elim)) fun _ _ h' => h'.elim)
    cases ok with
    | false => exact wpAny_pure ⟨rfl, h₃⟩
    | true =>
      exact wpAny_bind (wpAny_bind (wpAny_mono h₃ (fun x s₄ h₄ => wpAny_bind (wpAny_mono h₄ (fun _ s₅ h₅ => wpAny_pure (wpAny_pure ⟨rfl, h₅⟩)) fun _ _ h' => h'.elim)) fun _ _ h' => h'.elim))
end

def tLc (wi : TI) (tt : TT) (te : TE) : TE := fun σ H Q => wi σ H fun J H1 => ∀ D, H1 D = none → ∃ W : Nat → Nat → List V → Hp → Prop, (∃ m, W 0 m [] (upd H1 D (.lst []))) ∧ ∀ i m ys H, W i m ys H →
  H D = some (.lst ys) ∧ ((J.stop i H ∧ Q (.ref D) H) ∨ (J.go i H ∧ ys.length < sizeLine ∧ ∀ x H', J.yld i H x H' → tt (some x :: σ) H' fun b H2 => if b = true then te (some x :: σ) H2 fun v H3 =>
    H3 D = some (.lst ys) ∧ ∃ m', m' < m ∧ W (i + 1) m' (ys ++ [v]) (upd H3 D (.lst (ys ++ [v]))) else ∃ m', m' < m ∧ W (i + 1) m' ys H2))

section
variable {X : Cx}
theorem lcomp_core {sc : Scope} {x : Str} {px pos : Pos} {iter elt : Expr} {ifs : List Expr} {M : List Str} {wi : TI} {tt : TT} {te : TE} {cl : List (Str × Addr)} {RR : Value → Addr → Result → Shared → Prop} {pins : List (Addr × Obj)} {s : Shared} {σ : St} {H : Hp} {Q : VK}
    (hc : X.calm = true) (B : BlkOk X sc x M) (hi : PI X (.Name x px) iter wi) (ht : ∀ C s H fp, PIfs (blk X sc x M cl C s H fp) ifs tt) (he : ∀ C s H fp, PE (blk X sc x M cl C s H fp) elt te)
    (q1 : ∀ y c, cl.lookup y = some c → X.env.cells.lookup y = some c) (q3 : ∀ y ∈ sc.names, y.2 = .free → ∃ c, cl.lookup y.1 = some c)
    (I : Inv X pins σ H s) (h : tLc wi tt te σ H Q)
    (hRR : ∀ (D C : Addr) (s' : Shared) (m : Str → Option Value) (H' : Hp), Inv X pins σ H' s' → s'.heap.Ns C m → FpOk X pins H' C → Q (.ref D) H' → RR (.ref D) C (.ok .next) s') :
    wpAny (model X.prog X.w) X.A (eval iter X.env) (fun xv s₁ => wpAny (model X.prog X.w) X.A (pyIter xv) (fun it s₂ => wpAny (model X.prog X.w) X.A (newList []) (fun acc s₃ =>
      wpAny (model X.prog X.w) X.A (newFunctionEnv sc X.env.globals cl [] X.env.qual none .none (some X.env)) (fun cenv s₄ =>
        codeAny (model X.prog X.w) X.A (.compStart (.ListComp elt [⟨.Name x px, iter, ifs, 0⟩] sc pos) 0 it acc { cenv with scope := relabel sc X.env }) (RR acc cenv.locals) s₄) X.xe s₃) X.xe s₂) X.xe s₁) X.xe s := by
  refine thn (hi pins s σ H _ I h) fun v s1 h1 => thn h1 fun itv s2 h2 => ?_
  obtain ⟨it, fp, tn, J, H2, rfl, I2, T, st2, f2, q2⟩ := h2
  refine wpAny_newObj_type (wpAny_newFunctionEnv B.nocell (by intro y hy; simp at hy) (fun h₁ hns₁ hsb₁ => ?_) B.kind)
  dsimp only at hns₁ hsb₁ ⊢
  obtain ⟨W, ⟨m0, w0⟩, turn⟩ := q2 s2.heap.objs.size I2.fresh
  have I3 : Inv X pins σ (upd H2 s2.heap.objs.size (.lst [])) { s2 with heap := s2.heap.push { cls := .type "list", data := .seq ([] : List Value).toArray }, toks := s2.toks } := I2.lnew .nil (Nat.zero_le _)
  generalize hs3 : ({ s2 with heap := s2.heap.push { cls := .type "list", data := .seq ([] : List Value).toArray }, toks := s2.toks } : Shared) = s3 at I3
  have eh : s2.heap.push { cls := .type "list", dict := none, data := .seq ([] : List Value).toArray } = s3.heap := by rw [← hs3]
  have fpl : ∀ b ∈ fp, b < s2.heap.objs.size := fun b hb => by
    obtain ⟨o, e, _⟩ := T.obj _ _ st2 b hb
    exact Heap.lt_size e
  have sz : s3.heap.objs.size = s2.heap.objs.size + 1 := by rw [← eh, Heap.size_push]
  have fpl3 : ∀ b ∈ fp, b < s3.heap.objs.size := fun b hb => by rw [sz]; exact Nat.lt_succ_of_lt (fpl b hb)
  have fp3 : ∀ b ∈ fp, FpOk X pins (upd H2 s2.heap.objs.size (.lst [])) b := fun b hb => ⟨by rw [upd_ne (Nat.ne_of_lt (fpl b hb))]; exact (f2 b hb).1, (f2 b hb).2⟩
  rw [eh] at hns₁ hsb₁ ⊢
  have keep : ∀ b o, s3.heap.get? b = some o → h₁.get? b = some o := fun b o e => hsb₁.extBut b o (Nat.ne_of_lt (Heap.lt_size e)) (Heap.get?_push_of_some _ e)
  have IB := I3.toBlk (tk := s2.toks + ([] : List (Str × Value)).length) B q1 q3 fp3 fpl3 hns₁ keep
  have st4 : tn 0 h₁ := T.keep _ _ _ st2 fun b hb o e => keep b o (by rw [← eh]; exact Heap.get?_push_of_some _ e)
  have es : ({ s3 with heap := h₁, toks := s2.toks + ([] : List (Str × Value)).length } : Shared) = { s2 with heap := h₁, toks := s2.toks + ([] : List (Str × Value)).length } := by rw [← hs3]
  rw [es] at IB
  have hx' : (blk X sc x M cl s3.heap.objs.size s3 (upd H2 s2.heap.objs.size (.lst [])) fp).env.scope.names.lookup x = some .local := lookup_relabel_local B.own
  have hg : PG (blk X sc x M cl s3.heap.objs.size s3 (upd H2 s2.heap.objs.size (.lst [])) fp) (.Name x px) (gName 0) := pg_name B.nd rfl (.inl hx') (.inr hx')
  have he' := he s3.heap.objs.size s3 (upd H2 s2.heap.objs.size (.lst [])) fp
  have ht' := ht s3.heap.objs.size s3 (upd H2 s2.heap.objs.size (.lst [])) fp
  have loop : ∀ s₄ : Shared, s₄ = { s2 with heap := h₁, toks := s2.toks + ([] : List (Str × Value)).length } →
      codeAny (model X.prog X.w) X.A (.compLoop (.ListComp elt [⟨.Name x px, iter, ifs, 0⟩] sc pos) 0 (.ref it) (.ref s2.heap.objs.size) (compEnvC sc cl s3.heap.objs.size X.env)) (RR (.ref s2.heap.objs.size) s3.heap.objs.size) s₄ := by
    rintro s₄ rfl
    refine compLoop_go (fun n s' => ∃ i ys o H', Inv (blk X sc x M cl s3.heap.objs.size s3 (upd H2 s2.heap.objs.size (.lst [])) fp) [] (o :: σ) H' s' ∧ tn i s'.heap ∧ (∀ b ∈ fp, H' b = none) ∧ W i n ys H') ?_ m0
      ⟨0, [], none, _, IB, st4, fun b hb => (fp3 b hb).1, w0⟩
    rintro n s' ⟨i, ys, o, H', I', st', fr', w'⟩
    have fpB : ∀ {H' : Hp} {pl : List (Addr × Obj)}, (∀ b ∈ fp, H' b = none) → ∀ b ∈ fp, FpOk (blk X sc x M cl s3.heap.objs.size s3 (upd H2 s2.heap.objs.size (.lst [])) fp) [] H' b := fun {H' pl} hn b hb =>
      ⟨hn b hb, Nat.ne_of_lt (fpl3 b hb), fun z => I'.ok.exfs b hb z, .inl hb, fun y c hy => (fp3 b hb).2.2.2.2.1 y c (q1 y c hy), fun p hp => absurd (show p ∈ ([] : List (Addr × Obj)) from hp) (by simp)⟩
    obtain ⟨hD, ⟨stop, q⟩ | ⟨go, hlen, step⟩⟩ := turn i n ys H' w'
    · refine wpAny_mono (T.done (blk X sc x M cl s3.heap.objs.size s3 (upd H2 s2.heap.objs.size (.lst [])) fp) rfl rfl rfl hc i [] s' (o :: σ) H' (fun _ _ => False) I' (fpB (pl := []) fr') st' stop) (fun r s4 ⟨hr, I4⟩ => ?_) fun _ _ f => f.elim
      subst hr
      obtain ⟨m, hn, _⟩ := I4.loc
      refine hRR _ _ s4 m H' (I3.call' (ch := fp) I4.os I4.base I4.hok I4.bare fun b hb => ⟨(fp3 b hb).2.2.2.1, (fp3 b hb).2.1, (fp3 b hb).2.2.2.2.1, (fp3 b hb).2.2.2.2.2⟩) hn (I3.fpOk (Nat.le_refl _) I4.free) q
    · refine wpAny_mono (T.item (blk X sc x M cl s3.heap.objs.size s3 (upd H2 s2.heap.objs.size (.lst [])) fp) rfl rfl rfl hc i [] s' (o :: σ) H' (fun _ _ => False) I' (fpB (pl := []) fr') st' go) (fun r s4 ⟨u, hr, h4⟩ => ?_) fun _ _ f => f.elim
      subst hr
      refine wpAny_mono h4 (fun _ s5 ⟨y, H5, I5, r5, y5, st5, fr5⟩ => ?_) fun _ _ f => f.elim
      have I5' := I5.pinned (fpB (pl := []) fr5) (T.obj _ _ st5)
      refine wpAny_mono (hg _ s5 (o :: σ) H5 y u (fun σ' H' => σ' = some y :: σ ∧ H' = H5) I5' r5 ⟨rfl, rfl⟩) (fun _ s6 ⟨σ6, H6, I6, e6, e6'⟩ => ?_) fun _ _ f => f.elim
      subst e6 e6'
      have again : ∀ {H7 : Hp} {s7 : Shared} {zs : List V} {m' : Nat}, Inv (blk X sc x M cl s3.heap.objs.size s3 (upd H2 s2.heap.objs.size (.lst [])) fp) ([] ++ pinsAt fp s5.heap) (some y :: σ) H7 s7 → m' < n → W (i + 1) m' zs H7 →
          ∃ m, m < n ∧ ∃ i ys o H', Inv (blk X sc x M cl s3.heap.objs.size s3 (upd H2 s2.heap.objs.size (.lst [])) fp) [] (o :: σ) H' s7 ∧ tn i s7.heap ∧ (∀ b ∈ fp, H' b = none) ∧ W i m ys H' := fun {H7 s7 zs m'} I7 hm w7 => by
        refine ⟨m', hm, i + 1, zs, some y, H7, I7.unpinned, T.keep _ _ _ st5 fun b hb o e => (I7.pin (b, o) (List.mem_append_right _ (List.mem_append_right _ (mem_pinsAt hb e)))).1, fun b hb => ?_, w7⟩
        obtain ⟨o, e, d⟩ := T.obj _ _ st5 b hb
        exact (I7.pin (b, o) (List.mem_append_right _ (List.mem_append_right _ (mem_pinsAt hb e)))).2.1
      refine wpAny_mono (ht' _ s6 (some y :: σ) H6 _ I6 (step y H6 y5)) (fun b s7 ⟨H7, I7, q7⟩ => ?_) fun _ _ f => f.elim
      cases b with
      | false =>
        rw [if_neg Bool.false_ne_true] at q7 ⊢
        obtain ⟨m', hm, w7⟩ := q7
        exact again I7 hm w7
      | true =>
        rw [if_pos rfl] at q7 ⊢
        refine wpAny_mono (he' _ s7 (some y :: σ) H7 _ I7 q7) (fun u8 s8 ⟨v8, H8, I8, r8, hD8, m', hm, w8⟩ => ?_) fun _ _ f => f.elim
        refine wpAny_mono (mt_append (X := blk X sc x M cl s3.heap.objs.size s3 (upd H2 s2.heap.objs.size (.lst [])) fp) _ s8 (some y :: σ) H8 (.ref s2.heap.objs.size) [v8] (.ref s2.heap.objs.size) [u8] (fun _ H9 => H9 = upd H8 s2.heap.objs.size (.lst (ys ++ [v8]))) I8 rfl (.cons r8 .nil) ⟨_, ys, v8, rfl, rfl, hD8, hlen, rfl⟩) (fun _ s9 ⟨_, H9, I9, _, e9⟩ => ?_) fun _ _ f => f.elim
        subst e9
        exact again I9 hm w8
  exact codeAny_compStart_list (loop _ rfl) (T.self X.A 0 _ _ _ st4 (loop _ rfl))

theorem pe_lcomp {sc : Scope} {x : Str} {px pos : Pos} {iter elt : Expr} {ifs : List Expr} (M : List Str) {wi : TI} {tt : TT} {te : TE} (hc : X.calm = true) (B : BlkOk X sc x M) (hi : PI X (.Name x px) iter wi)
    (ht : ∀ cl C s H fp, PIfs (blk X sc x M cl C s H fp) ifs tt) (he : ∀ cl C s H fp, PE (blk X sc x M cl C s H fp) elt te) (hs : ∀ x, foldedSetIterable iter X.env x = pure x := by intro _; rfl) :
    PE X (.ListComp elt [⟨.Name x px, iter, ifs, 0⟩] sc pos) (tLc wi tt te) := by
  intro pins s σ H Q I h
  obtain ⟨cl, hcl, q1, q3⟩ := closure_ok X.env sc (fun y hy hf => I.ok.has y.1 (B.free y hy hf))
  rw [eval_ListComp]
  refine wpAny_comprehension_free (use := none) rfl hs hcl B.kind B.names (lcomp_core (RR := fun acc C => compPost (model X.prog X.w) X.A X.xe none (EP X pins σ Q) acc C) hc B hi (ht cl) (he cl) q1 q3 I h ?_)
  intro D C s' m H' I' hn fpC q
  exact ⟨m, hn, fun h' sb => ⟨.ref D, H', I'.turned (t' := s'.toks) (fun b o hb e => sb.extBut b o hb e) fpC.1 fpC.2.1 fpC.2.2.2.1 fpC.2.2.2.2.1 fpC.2.2.2.2.2, rfl, q⟩⟩

/-- y = [.. for x in ..] on one row, y a plain local -/
def tSetLc (j : Nat) (wi : TI) (tt : TT) (te : TE) : TS := fun D σ H => tLc wi tt te σ H fun v H' => D.nx (σ.set j (some v)) H'
end
end L2


end
section
set_option Elab.async false
set_option linter.all false
set_option maxRecDepth 100000
set_option maxHeartbeats 4000000
namespace HT
open PySem PyProof.Rows L2
/-- t < u of tuples whose first unlike items are two ints or two texts -/
def lexV : List V → List V → Option Bool
  | [], [] => some false
  | [], _ :: _ => some true
  | _ :: _, [] => some false
  | .int i :: xs, .int j :: ys => if i = j then lexV xs ys else some (decide (i < j))
  | .str i :: xs, .str j :: ys => if i = j then lexV xs ys else some (decide (i.cps.toList < j.cps.toList))
  | _ :: _, _ :: _ => none
section
open PySem.SeqAt
open PySem.AutoSeq1 (wpAny_loadPart')
open PySem.MeetsSeq PySem.MeetsSeq2 PySem.MeetsSeq3
end
section
variable {prog : Program} {w : World} {A : Around} {E : Value → Shared → Prop} {s : Shared}
end
end HT

namespace L2
open PySem PySem.Spec PyProof.Rows
section
variable {X : Cx}
def clsV : V → Option Value
  | .ty n => some (.type n)
  | .ref a => some (.ref a)
  | _ => none
def rIsI (K : PySem.W.Frag) : List V → Hp → VK → Prop := fun xs H Q => ∃ x c t cv b, xs = [x, c] ∧ clsV c = some cv ∧ TyOf K H x t ∧ PySem.W.kitOne K t cv = some b ∧ Q (.bl b) H
theorem call_isinst : CallR X (.builtin "isinstance") (rIsI X.K) := by
  intro pins s σ H xs us Q I r h
  obtain ⟨x, c, t, cv, b, rfl, hc, ty, e, q⟩ := h
  obtain ⟨u, w', rfl, rx, rc⟩ := vals2 r
  have ec : w' = cv := by
    cases c <;> simp [clsV] at hc
    · subst hc; exact rc
    · subst hc; exact rc
  subst ec
  exact isinst_ok I rx ty e fun tk => ⟨.bl b, H, I.tok tk, rfl, q⟩
def rLtV (K : PySem.W.Frag) : R2 := fun x y H Q => ∃ a b xs ys r, x = .ref a ∧ y = .ref b ∧ SqT K H a xs ∧ SqT K H b ys ∧ HT.lexV xs ys = some r ∧ Q (.bl r) H
def Its (z : Str) : It := ⟨fun i _ => i < z.length, fun i H x H' => H' = H ∧ ∃ c, z.cps[i]? = some c ∧ x = .str ⟨#[c]⟩, fun i _ => z.length ≤ i⟩
end
end L2

namespace L2
open PySem PySem.Spec PyProof.Rows
section
variable {X : Cx}
def iStr (tl : TE) : TI := fun σ H R => tl σ H fun x H1 => ∃ z, x = .str z ∧ R (Its z) H1
def rJoin (K : PySem.W.Frag) : V → List V → Hp → VK → Prop := fun x xs H Q => ∃ z l ys, x = .str z ∧ xs = [.ref l] ∧ SqL K H l (ys.map V.str) ∧ (ys.map (·.length)).sum + ys.length * z.length ≤ 16777216 ∧ Q (.str (Txt.join z ys)) H
def rSlS : V → Option Int → Option Int → Hp → VK → Prop := fun x lo hi H Q => ∃ z, x = .str z ∧ z.length ≤ sizeLine ∧ Q (.str (Txt.slice z lo hi)) H
def eqVs (xs ys : List V) : Bool := (List.range (min xs.length ys.length)).all (fun i => eqV (xs.getD i .non) (ys.getD i .non)) && xs.length == ys.length
def rEqL (K : PySem.W.Frag) (neg : Bool) : R2 := fun x y H Q => ∃ a b xs ys, x = .ref a ∧ y = .ref b ∧ SqL K H a xs ∧ SqL K H b ys ∧ xs.all flatV = true ∧ ys.all flatV = true ∧ Q (.bl (if neg then !eqVs xs ys else eqVs xs ys)) H
theorem eqV_refl {x : V} (f : flatV x = true) : eqV x x = true := by cases x <;> simp [eqV, flatV] at *
end
end L2


end
section
set_option Elab.async false
set_option linter.all false
set_option maxRecDepth 100000
set_option maxHeartbeats 4000000
namespace L2
open PySem PySem.Spec PyProof.Rows
theorem bo_len : bootBuiltins "len" = some (.builtin "len") := by decide +kernel
theorem bo_isinstance : bootBuiltins "isinstance" = some (.builtin "isinstance") := by decide +kernel
theorem bo_max : bootBuiltins "max" = some (.builtin "max") := by decide +kernel
theorem bo_int : bootBuiltins "int" = some (.type "int") := by decide +kernel
theorem bo_bool : bootBuiltins "bool" = some (.type "bool") := by decide +kernel
theorem bo_list : bootBuiltins "list" = some (.type "list") := by decide +kernel
theorem bo_tuple : bootBuiltins "tuple" = some (.type "tuple") := by decide +kernel
/-- the block's names, as one test -/
def blkB (dsc sc : Scope) (x : Str) (N M : List Str) : Bool :=
  decide (sc.kind = .function) && sc.names.all (fun y => decide (y.2 ≠ .cell)) && sc.names.all (fun y => decide (y.2 = .local → sc.names.lookup y.1 = some .local)) && decide (sc.names.lookup x = some .local) && decide ((x :: M).Nodup) &&
  decide (M.length = N.length) && sc.names.all (fun y => decide (y.2 = .free → dsc.names.lookup y.1 = some .cell ∨ dsc.names.lookup y.1 = some .free)) &&
  (List.range M.length).all (fun i => match M[i]? with | some y => decide (sc.names.lookup y = some .free → N[i]? = some y) | none => true) && M.all (fun y => decide (sc.names.lookup y ≠ some .local))
theorem blkOk {X : Cx} {sc dsc : Scope} {x : Str} {N M : List Str} (hN : X.N = N) (hs : X.env.scope = dsc) (h : blkB dsc sc x N M = true) : BlkOk X sc x M := by
  unfold blkB at h
  simp only [Bool.and_eq_true, decide_eq_true_eq, List.all_eq_true] at h
  obtain ⟨⟨⟨⟨⟨⟨⟨⟨h1, h2⟩, h3⟩, h4⟩, h5⟩, h6⟩, h7⟩, h8⟩, h9⟩ := h
  refine ⟨h1, h2, h3, h4, h5, by rw [hN]; exact h6, fun y hy hf => ?_, fun i y hi hf => ?_, h9⟩
  · have := h7 y hy hf
    rw [← hs] at this
    exact this
  · have hl : i < M.length := (List.getElem?_eq_some_iff.mp hi).1
    have := h8 i (List.mem_range.mpr hl)
    rw [hi] at this
    rw [hN]
    exact (decide_eq_true_eq.mp this) hf
/-- a def of the text that may be called by its name: its promise, how it binds, where it stands -/
def Cal (P : Program) (w : World) (K : PySem.W.Frag) (mg : Str → Option Value) (base : Heap) (k : Nat) (x : Str) (ps : List Str) (sp : Sp) : Prop :=
  ∃ f fd, FnOk P w K mg base CX0 k f fd ps sp ∧ Binds K fd ps [] ∧ PySem.W.keepIn K (.ref f) = true ∧ mg x = some (.ref f)
section
variable {X : Cx} {e : Expr} {es : List Expr} {t : TA} {p pos : Pos}
theorem pe_cal {j k : Nat} {x : Str} {ps : List Str} {sp : Sp} (G : Cal X.prog X.w X.K X.mg X.base j x ps sp) (hr : Room k X.A) (hj : j ≤ k) (hg : Gl X x) (ha : PA X (e :: es) t) (hdb : (x == ("__debug__" : Str)) = false := by decide)
    (he : starEach (e :: es) X.env = (false, eval e X.env) :: starEach es X.env := by rfl) (hpl : (backTo pos (starEach es X.env)).any (·.1) = false := by rfl) : PE X (.Call (.Name x p) (e :: es) [] pos) (tCall sp [] E0 t) := by
  obtain ⟨f, fd, F, b, kp, m⟩ := G
  exact pe_call F (hr.mono hj) hg m kp b .nil pass0 ha hdb he hpl
end
theorem isI_of {K : PySem.W.Frag} {H : Hp} {Q : VK} {x : V} {n : String} {t : Value} {b : Bool} (ty : TyOf K H x t) (e : PySem.W.kitOne K t (.type n) = some b) (q : Q (.bl b) H) : rIsI K [x, .ty n] H Q := ⟨x, .ty n, t, .type n, b, rfl, rfl, ty, e, q⟩
section
variable {K : PySem.W.Frag}
theorem kit_int_bool : PySem.W.kitOne K (.type "int") (.type "bool") = some false := by rfl
end
end L2
namespace L2
open PySem PySem.Spec PyProof.Rows
theorem rd_start {t : TS} {D : Ends} {σ σ' : St} {H : Hp} (e : σ' = σ) (h : t D σ H) : t D σ' H := by rw [e]; exact h
end L2


end
section
set_option Elab.async false
set_option linter.all false
set_option maxRecDepth 100000
set_option maxHeartbeats 4000000
namespace Att
open PySem PySem.W PySem.Calls PyProof.Rows
theorem bits_all : ∀ (ns : List Int), WData.weightAll (ns.map WData.int) ≤ 2 ^ 20 → ∀ n ∈ ns, Builtin.Int.intBits n ≤ 2 ^ 20
  | [], _, _, h => nomatch h
  | m :: ns, hw, n, h => by
    rw [List.map_cons] at hw
    have e : WData.weightAll (WData.int m :: ns.map WData.int) = WData.weight (.int m) + 1 + WData.weightAll (ns.map WData.int) := by simp only [WData.weightAll]
    rw [e] at hw
    rcases List.mem_cons.mp h with rfl | h
    · have : WData.weight (.int n) ≤ 2 ^ 20 := by omega
      simpa only [WData.weight, Builtin.Int.intBits] using this
    · exact bits_all ns (by omega) n h
theorem attach_callB {l : OpenLaw} {n : Nat} {q : Program} {loose : List Str} {XP : (Str → Option Value) → Heap → Prop} {YP : World → Heap → Prop} {d : DefRec}
    (hn : l.most = some n) (hdf : d.params.defaults = [])
    (call : ∀ (w : World) (s₀ s₁ : Shared) (mg mb : Str → Option Value) (fa : Addr) (o : Obj) (pm cd doc : Value) (a : Addr) (vs : List Value) (ns : List Int),
      Ground q loose [] XP w s₀ mg mb s₁.heap → YP w s₁.heap →
      s₁.heap.get? fa = some o → o.data = .func (docDef d.name d.params d.body d.scope pm cd doc) → s₁.heap.CodeRec cd d.name → mg d.name = some (.ref fa) →
      s₁.heap.get? a = some { cls := .type "list", data := .seq vs.toArray } → IntsAre vs ns → ns.length ≤ n → (∀ i ∈ ns, Builtin.Int.intBits i ≤ 2 ^ 20) → s₁.gens = #[] →
      codeAny (model l.prog w) callerA (.call (.ref fa) ⟨[.ref a], []⟩) (fun r s' => r = .ok (.ret (.bool true)) ∧ OldK s₁.heap s'.heap ∧ s'.os = s₁.os ∧ AllBare s'.gens) s₁) :
    WalkO q loose XP YP l.row.toRowW d [] (fun f vs => PySem.call f vs) := by
  intro w s₀ s₁ mg mb G Y fa o pm cd doc dV kV ho hd hcd hD hmg hg args vals as hpre hlay hrd hwl hlo
  obtain rfl : dV = .none := Dflts.none hD hdf
  obtain rfl : kV = .none := Dflts.noKw hD
  obtain ⟨a, vs, ns, rfl, rfl, hobj, hints, hlen⟩ := script_of hn hpre hwl
  have hb : ∀ i ∈ ns, Builtin.Int.intBits i ≤ 2 ^ 20 := by
    have h1 : WData.layable (.list (ns.map WData.int)) = true := by
      have := hlay
      unfold WData.layableAll at this
      exact List.all_eq_true.mp this _ List.mem_cons_self
    have h2 : WData.weight (.list (ns.map WData.int)) ≤ 2 ^ 20 := of_decide_eq_true (Bool.and_eq_true_iff.mp h1).2
    exact bits_all ns (by simpa only [WData.weight] using h2)
  refine enter_call (codeAny_mono (call w s₀ s₁ mg mb fa o pm cd doc a vs ns G Y ho (fd_plain hd) hcd hmg hobj hints hlen hb hg) fun r s' hq => ?_)
  obtain ⟨rfl, h2, h3, h4⟩ := hq
  exact ⟨.inl ⟨.bool true, .bool true, [], rfl, fun _ => rfl, .bool true, post_true l _, fun _ => ⟨List.Pairwise.nil, fun _ hm => (nomatch hm)⟩⟩, h2, h3, h4⟩
end Att
namespace L2
open PySem PySem.Spec PyProof.Rows
/-- the head, with the bound of the script's ints -/
theorem walk_ofB {l : PySem.W.OpenLaw} {n k : Nat} {q : Program} {loose : List Str} {XP : (Str → Option Value) → Heap → Prop} {YP : World → Heap → Prop} {d : DefRec} {K : Params → PySem.W.Frag} {CX : World → CXT} {sp : PySem.W.Frag → Sp} {x : Str}
    (hn : l.most = some n) (hn2 : n ≤ sizeLine) (hdf : d.params.defaults = []) (hr : Room k callerA)
    (hY : ∀ (w : World) (h : Heap), YP w h → (K w.params).In h)
    (F : ∀ (w : World) (mg : Str → Option Value) (fa : Addr) (h : Heap), (K w.params).In h → h.Ns mainGlobals mg → mg d.name = some (.ref fa) →
      ∃ fd : FuncData, (∀ (s : Shared) (u : Value), BindsTo s fd ⟨[u], []⟩ [(x, u)]) ∧
        ∀ base : Heap, (K w.params).In base → base.Ns mainGlobals mg → FnOk l.prog w (K w.params) mg base (CX w) k fa fd [x] (sp (K w.params)))
    (hsp : ∀ (K : PySem.W.Frag) (H : Hp) (a : Addr) (ns : List Int), ns.length ≤ n → (∀ i ∈ ns, Builtin.Int.intBits i ≤ 2 ^ 20) → Only H → SqL K H a (ns.map V.int) → sp K [.ref a] H (fun v _ => v = .bl true) fun _ _ _ => False)
    (hCX : ∀ (w : World) (H : Hp) (s : Shared) (e : Value) (s' : Shared), CX w [] H s (fun _ _ _ => False) e s' → False) :
    PySem.W.WalkO q loose XP YP l.row.toRowW d [] (fun f vs => PySem.call f vs) := by
  refine Att.attach_callB hn hdf fun w s₀ s₁ mg mb fa o pm cd doc a vs ns G Y ho hd hcd hmg hobj hints hlen hb hg => ?_
  have KX := hY w _ Y
  obtain ⟨fd, hbd, hF⟩ := F w mg fa _ KX G.T.g hmg
  exact law_call KX G.T.g G.T.b G.T.builtins G.T.nolimit hg hobj hints (Nat.le_trans hlen hn2) hr hF hbd (fun H hO hS => hsp _ H a ns hlen hb hO hS) fun H e s' => hCX w H s₁ e s'
section
variable {X : Cx}
theorem op_mulB : OpR X (binaryOp .Mult) (rI IntMulOk fun i j => .int (i * j)) := opI fun _ _ _ _ _ _ _ hc q => mul_int q hc
end
end L2


end
section
set_option Elab.async false
set_option linter.all false
set_option maxRecDepth 100000
set_option maxHeartbeats 4000000
namespace L2
open PySem PySem.Spec PyProof.Rows
section
variable {X : Cx}
end
theorem same_upd {H : Hp} {p : Addr} (h : H p = none) (o : HO) : Same H (upd H p o) := fun b u q => by rw [upd_ne (ne_of_none q h)]; exact q
theorem Same.updL {H H' : Hp} {p : Addr} (s : Same H H') (h : H p = none) (o : HO) : Same H (upd H' p o) := fun b u q => by rw [upd_ne (ne_of_none q h)]; exact s b u q
theorem Same.seqT {K : PySem.W.Frag} {H H' : Hp} {a : Addr} {xs : List V} (e : Same H H') (h : SqT K H a xs) : SqT K H' a xs := by
  rcases h with (h | ⟨o, h⟩) | h
  · exact .inl (.inl (e _ _ h))
  · exact .inl (.inr ⟨o, e _ _ h⟩)
  · exact .inr h
theorem cutV_map {α : Type} (f : α → V) (ns : List α) (lo hi : Option Int) : ∃ ms : List α, cutV (ns.map f) lo hi = ms.map f ∧ ms.length ≤ ns.length ∧ ∀ m ∈ ms, m ∈ ns := by
  refine ⟨(ns.drop (HT.sIx ns.length 0 lo)).take (HT.sIx ns.length ns.length hi - HT.sIx ns.length 0 lo), ?_, ?_, fun m h => List.mem_of_mem_drop (List.mem_of_mem_take h)⟩
  · unfold cutV
    rw [List.length_map, ← List.map_drop, ← List.map_take]
  · rw [List.length_take, List.length_drop]
    omega
end L2
namespace L2
open PySem PySem.Spec PyProof.Rows
def FoR (J : It) (g : TG) (tb : TS) (D : Ends) (σ : St) (H1 : Hp) : Prop := ∃ W : Nat → Nat → St → Hp → Prop, (∃ m, W 0 m σ H1) ∧ ∀ i m σ H, W i m σ H →
  (J.stop i H ∧ D.nx σ H) ∨ (J.go i H ∧ ∃ N : St → Hp → Prop, (∀ σ' H', N σ' H' → ∃ m', m' < m ∧ W (i + 1) m' σ' H') ∧ ∀ x H', J.yld i H x H' → g x σ H' fun σ2 H2 => tb { D with nx := N, ct := N, bk := D.nx } σ2 H2)
def LcR (J : It) (tt : TT) (te : TE) (σ : St) (Q : VK) (H1 : Hp) : Prop := ∀ D, H1 D = none → ∃ W : Nat → Nat → List V → Hp → Prop, (∃ m, W 0 m [] (upd H1 D (.lst []))) ∧ ∀ i m ys H, W i m ys H →
  H D = some (.lst ys) ∧ ((J.stop i H ∧ Q (.ref D) H) ∨ (J.go i H ∧ ys.length < sizeLine ∧ ∀ x H', J.yld i H x H' → tt (some x :: σ) H' fun b H2 => if b = true then te (some x :: σ) H2 fun v H3 =>
    H3 D = some (.lst ys) ∧ ∃ m', m' < m ∧ W (i + 1) m' (ys ++ [v]) (upd H3 D (.lst (ys ++ [v]))) else ∃ m', m' < m ∧ W (i + 1) m' ys H2))
theorem tFor_rng1 {ta : TA} {g : TG} {tb : TS} {D : Ends} {σ : St} {H : Hp} : tFor (iRng1 ta) g tb D σ H = ta σ H fun vs H1 => ∃ j : Int, vs = [.int j] ∧ -(2 ^ 62) ≤ j ∧ j < 2 ^ 62 ∧ FoR (Itr 0 j.toNat) g tb D σ H1 := rfl
theorem tFor_rng2 {ta : TA} {g : TG} {tb : TS} {D : Ends} {σ : St} {H : Hp} : tFor (iRng2 ta) g tb D σ H = ta σ H fun vs H1 => ∃ i j : Int, vs = [.int i, .int j] ∧ (-(2 ^ 62) ≤ i ∧ i < 2 ^ 62 ∧ -(2 ^ 62) ≤ j ∧ j < 2 ^ 62) ∧ FoR (Itr i (j - i).toNat) g tb D σ H1 := rfl
theorem tFor_list {K : PySem.W.Frag} {tl : TE} {g : TG} {tb : TS} {D : Ends} {σ : St} {H : Hp} : tFor (iList K tl) g tb D σ H = tl σ H fun x H1 => ∃ a, x = .ref a ∧ (∃ xs, SqL K H1 a xs) ∧ FoR (Itl K a) g tb D σ H1 := rfl
theorem tFor_tup {K : PySem.W.Frag} {tl : TE} {g : TG} {tb : TS} {D : Ends} {σ : St} {H : Hp} : tFor (iTup K tl) g tb D σ H = tl σ H fun x H1 => ∃ a, x = .ref a ∧ (∃ xs, SqT K H1 a xs) ∧ FoR (Itt K a) g tb D σ H1 := rfl
theorem tFor_str {tl : TE} {g : TG} {tb : TS} {D : Ends} {σ : St} {H : Hp} : tFor (iStr tl) g tb D σ H = tl σ H fun x H1 => ∃ z, x = .str z ∧ FoR (Its z) g tb D σ H1 := rfl
theorem tLc_rng1 {ta : TA} {tt : TT} {te : TE} {σ : St} {H : Hp} {Q : VK} : tLc (iRng1 ta) tt te σ H Q = ta σ H fun vs H1 => ∃ j : Int, vs = [.int j] ∧ -(2 ^ 62) ≤ j ∧ j < 2 ^ 62 ∧ LcR (Itr 0 j.toNat) tt te σ Q H1 := rfl
theorem tLc_list {K : PySem.W.Frag} {tl : TE} {tt : TT} {te : TE} {σ : St} {H : Hp} {Q : VK} : tLc (iList K tl) tt te σ H Q = tl σ H fun x H1 => ∃ a, x = .ref a ∧ (∃ xs, SqL K H1 a xs) ∧ LcR (Itl K a) tt te σ Q H1 := rfl
theorem tLc_tup {K : PySem.W.Frag} {tl : TE} {tt : TT} {te : TE} {σ : St} {H : Hp} {Q : VK} : tLc (iTup K tl) tt te σ H Q = tl σ H fun x H1 => ∃ a, x = .ref a ∧ (∃ xs, SqT K H1 a xs) ∧ LcR (Itt K a) tt te σ Q H1 := rfl
theorem tLc_str {tl : TE} {tt : TT} {te : TE} {σ : St} {H : Hp} {Q : VK} : tLc (iStr tl) tt te σ H Q = tl σ H fun x H1 => ∃ z, x = .str z ∧ LcR (Its z) tt te σ Q H1 := rfl
theorem foR_list {K : PySem.W.Frag} {a : Addr} (xs : List V) {g : TG} {tb : TS} {D : Ends} {σ : St} {H : Hp} (Pv : Nat → St → Hp → Prop) (h0 : Pv 0 σ H) (hl : ∀ i σ H, i ≤ xs.length → Pv i σ H → SqL K H a xs)
    (hs : ∀ i x σ H, xs[i]? = some x → Pv i σ H → g x σ H fun σ2 H2 => tb { D with nx := Pv (i + 1), ct := Pv (i + 1), bk := D.nx } σ2 H2) (hd : ∀ σ H, Pv xs.length σ H → D.nx σ H) : FoR (Itl K a) g tb D σ H := for_list Pv h0 hl hs hd
end L2


end
section
set_option linter.all false
namespace SortT
open PySem PySem.W PyProof.Rows
def K (r : Nat → Nat) (p : Array Nat) (i : Nat) : Nat := r (p.getD i 0)
structure Ok (n : Nat) (p : Array Nat) : Prop where
  size : p.size = n
  perm : p.Perm (List.range n).toArray
theorem Ok.lt {n : Nat} {p : Array Nat} (h : Ok n p) (hn : 0 < n) (i : Nat) : p.getD i 0 < n := by
  rw [Array.getD_eq_getD_getElem?]
  cases e : p[i]? with
  | none => exact hn
  | some x =>
    have hx : x ∈ p := Array.mem_of_getElem? e
    have := (h.perm.mem_iff (a := x)).mp hx
    simpa using this
theorem Ok.start (n : Nat) : Ok n (List.range n).toArray := ⟨by simp, Array.Perm.refl _⟩
theorem Ok.rev {n : Nat} {p : Array Nat} (h : Ok n p) (i j : Nat) : Ok n (kas_rev p i j) := ⟨(mirror_size _ _ _ _).trans h.size, (mirror_perm _ _ _ _).trans h.perm⟩
theorem Ok.bub {n : Nat} {p : Array Nat} (h : Ok n p) (i j : Nat) : Ok n (bubble p i j) := ⟨(bubble_size _ _ _).trans h.size, (bubble_perm _ _ _).trans h.perm⟩
theorem K_of {r : Nat → Nat} {p q : Array Nat} {i j : Nat} (h : p[i]? = q[j]?) : K r p i = K r q j := by
  unfold K; rw [Array.getD_eq_getD_getElem?, Array.getD_eq_getD_getElem?, h]
theorem K_rev {r : Nat → Nat} {p : Array Nat} {i j : Nat} (hj : j ≤ p.size) (k : Nat) : K r (kas_rev p i j) k = if i ≤ k ∧ k < j then K r p (i + j - 1 - k) else K r p k := by
  have h := getElem?_mirror (xs := p) (i := i) hj ((j - i) / 2) (by omega) k
  unfold kas_rev
  by_cases hk : (i ≤ k ∧ k < i + (j - i) / 2) ∨ (j - (j - i) / 2 ≤ k ∧ k < j)
  · rw [if_pos hk] at h
    rw [if_pos (by omega)]
    exact K_of h
  · rw [if_neg hk] at h
    by_cases hk2 : i ≤ k ∧ k < j
    · rw [if_pos hk2]
      have e : i + j - 1 - k = k := by omega
      rw [e]
      exact K_of h
    · rw [if_neg hk2]
      exact K_of h
theorem K_bub {r : Nat → Nat} {p : Array Nat} {k l : Nat} (hk : k < p.size) (hl : l ≤ k) (x : Nat) : K r (bubble p k (k - l)) x = if x = l then K r p k else if l < x ∧ x ≤ k then K r p (x - 1) else K r p x := by
  have h := getElem?_bubble (xs := p) hk (k - l) (by omega) x
  have e : k - (k - l) = l := by omega
  rw [e] at h
  by_cases h1 : x = l
  · rw [if_pos h1] at h ⊢; exact K_of h
  · rw [if_neg h1] at h ⊢
    by_cases h2 : l < x ∧ x ≤ k
    · rw [if_pos h2] at h ⊢; exact K_of h
    · rw [if_neg h2] at h ⊢; exact K_of h
def Up (r : Nat → Nat) (p : Array Nat) (m : Nat) : Prop := ∀ i j, i ≤ j → j < m → K r p i ≤ K r p j
def Dn (r : Nat → Nat) (p : Array Nat) (m : Nat) : Prop := ∀ i j, i ≤ j → j < m → K r p j ≤ K r p i
variable {n : Nat} {r : Nat → Nat}
/-- a block of equals turned round changes no rank -/
theorem rev_same {p : Array Nat} {a b : Nat} (hb : b ≤ p.size) (h : ∀ i, a ≤ i → i < b → K r p i = K r p a) (k : Nat) : K r (kas_rev p a b) k = K r p k := by
  rw [K_rev hb]
  by_cases hk : a ≤ k ∧ k < b
  · rw [if_pos hk, h _ (by omega) (by omega), h k hk.1 hk.2]
  · rw [if_neg hk]
end SortT


end
section
set_option linter.all false
set_option Elab.async false
set_option maxRecDepth 100000
namespace SortB
open PySem PySem.W PyProof.Rows
def gallop' : Bool → Keyed → Array Keyed → Nat → Nat → Nat → StateT SortSt Sem (Option Nat) := sortPriv% PySem.Builtin.gallop
def mergeLo' : Array Keyed → Array Keyed → StateT SortSt Sem (Array Keyed) := sortPriv% PySem.Builtin.mergeLo
def mergeHi' : Array Keyed → Array Keyed → StateT SortSt Sem (Array Keyed) := sortPriv% PySem.Builtin.mergeHi
/-- the rank of what stands at i -/
def K (rk : Keyed → Nat) (a : Array Keyed) (i : Nat) : Nat := match a[i]? with | some p => rk p | none => 0
theorem K_get {rk : Keyed → Nat} {a : Array Keyed} {i : Nat} (h : i < a.size) : K rk a i = rk a[i] := by unfold K; rw [getElem?_pos a i h]
theorem K_of {rk : Keyed → Nat} {a b : Array Keyed} {i j : Nat} (h : a[i]? = b[j]?) : K rk a i = K rk b j := by unfold K; rw [h]
section
variable {prog : Program} {w : World} {A : Around} {E : Value → Shared → Prop} {s : Shared} {κ : SortKind} {rk : Keyed → Nat} {S : Keyed → Prop}
/-- two of the items are asked for: the answer is by their ranks -/
def LtOk (prog : Program) (w : World) (A : Around) (E : Value → Shared → Prop) (s : Shared) (κ : SortKind) (rk : Keyed → Nat) (S : Keyed → Prop) : Prop :=
  ∀ x y (st : SortSt) (Q : Option Bool → SortSt → Prop), kindOf st = κ → S x → S y → Q (some (decide (rk x < rk y))) st → wpS (model prog w) A E s (lt' x y) Q st
theorem wpS_elem {a : Array Keyed} {i : Nat} {st : SortSt} {Q : Keyed → SortSt → Prop} (hi : i < a.size) (h : Q a[i] st) : wpS (model prog w) A E s (elem' a i) Q st := by
  rw [elem'_eq, getElem?_pos a i hi]; exact wpS_pure h
theorem wpS_at (L : LtOk prog w A E s κ rk S) {st : SortSt} {i j : Nat} {Q : Option Bool → SortSt → Prop} (hk : kindOf st = κ) (hS : ∀ x ∈ arrOf st, S x) (hi : i < (arrOf st).size) (hj : j < (arrOf st).size)
    (h : Q (some (decide (K rk (arrOf st) i < K rk (arrOf st) j))) st) : wpS (model prog w) A E s (ltAt' i j) Q st := by
  rw [ltAt'_eq]
  refine wpS_bind (wpS_get (wpS_bind (wpS_elem hi (wpS_bind (wpS_elem hj ?_)))))
  rw [K_get hi, K_get hj] at h
  exact L _ _ st Q hk (hS _ (Array.getElem_mem hi)) (hS _ (Array.getElem_mem hj)) h
/-- whether what stands at bs + i is passed by -/
def bey (rk : Keyed → Nat) (left : Bool) (key : Keyed) (arr : Array Keyed) (bs i : Nat) : Bool := if left = true then decide (K rk arr (bs + i) < rk key) else !decide (rk key < K rk arr (bs + i))
theorem byd_ok (L : LtOk prog w A E s κ rk S) {st : SortSt} {left : Bool} {key : Keyed} {arr : Array Keyed} {bs i : Nat} {Q : Option Bool → SortSt → Prop} (hk : kindOf st = κ) (hS : ∀ x ∈ arr, S x) (hkey : S key) (hi : bs + i < arr.size)
    (h : Q (some (bey rk left key arr bs i)) st) : wpS (model prog w) A E s (elem' arr (bs + i) >>= fun x => if left = true then lt' x key else (lt' key x >>= fun r => pure (Option.map (fun b => !b) r))) Q st := by
  refine wpS_bind (wpS_elem hi ?_)
  have hx := hS _ (Array.getElem_mem hi)
  unfold bey at h
  rw [K_get hi] at h
  cases left with
  | true =>
    simp only [if_true] at h ⊢
    exact L _ _ st Q hk hx hkey h
  | false =>
    simp only [Bool.false_eq_true, if_false] at h ⊢
    exact wpS_bind (L _ _ st _ hk hkey hx (wpS_pure h))
theorem gallop_ok (L : LtOk prog w A E s κ rk S) {st : SortSt} {left : Bool} {key : Keyed} {arr : Array Keyed} {bs n hint : Nat} {Q : Option Nat → SortSt → Prop} (hk : kindOf st = κ) (hS : ∀ x ∈ arr, S x) (hkey : S key) (hb : bs + n ≤ arr.size) (hh : hint < n)
    (mono : ∀ i j, i ≤ j → j < n → bey rk left key arr bs j = true → bey rk left key arr bs i = true)
    (h : ∀ k, k ≤ n → (∀ i, i < k → bey rk left key arr bs i = true) → (∀ i, k ≤ i → i < n → bey rk left key arr bs i = false) → Q (some k) st) : wpS (model prog w) A E s (gallop' left key arr bs n hint) Q st := by
  have monf : ∀ i j, i ≤ j → j < n → bey rk left key arr bs i = false → bey rk left key arr bs j = false := fun i j hij hj e => by
    cases q : bey rk left key arr bs j with
    | false => rfl
    | true => rw [mono i j hij hj q] at e; cases e
  refine wpS_bind (byd_ok L hk hS hkey (by omega) ?_)
  dsimp only
  cases e0 : bey rk left key arr bs hint with
  | true =>
    rw [if_pos rfl]
    refine wpS_bind (wpS_mono (wpS_forRange (I := fun x c st' => st' = st ∧ ∃ l o, c = (none, l, o) ∧ l < o ∧ x < o ∧ l + 1 ≤ n - hint ∧ bey rk left key arr bs (hint + l) = true)
      (Q := fun c st' => st' = st ∧ ∃ l o, c = (none, l, o) ∧ l < o ∧ l + 1 ≤ n - hint ∧ bey rk left key arr bs (hint + l) = true ∧ (o < n - hint → bey rk left key arr bs (hint + o) = false)) ?step ?fin ⟨rfl, 0, 1, rfl, by omega, by omega, by omega, e0⟩) ?post)
    case step =>
      rintro x c st' _ hx ⟨rfl, l, o, rfl, h1, h2, h3, h4⟩
      dsimp only
      by_cases hge : o ≥ n - hint
      · rw [if_pos hge]
        exact wpS_pure ⟨rfl, l, o, rfl, h1, h3, h4, fun z => absurd z (by omega)⟩
      · rw [if_neg hge]
        refine wpS_bind (byd_ok L hk hS hkey (by omega) ?_)
        cases e1 : bey rk left key arr bs (hint + o) with
        | true => exact wpS_pure ⟨rfl, o, 2 * o + 1, rfl, by omega, by omega, by omega, e1⟩
        | false => exact wpS_pure ⟨rfl, l, o, rfl, h1, h3, h4, fun _ => e1⟩
    case fin =>
      rintro c st' ⟨rfl, l, o, rfl, h1, h2, h3, h4⟩
      exact ⟨rfl, l, o, rfl, h1, h3, h4, fun z => absurd z (by omega)⟩
    case post =>
      rintro c st'' ⟨rfl, l, o, rfl, h1, h3, h4, h5⟩
      have a1 : ∀ i, i < hint + l + 1 → bey rk left key arr bs i = true := fun i hi => mono i (hint + l) (by omega) (by omega) h4
      have a2 : ∀ i, hint + min o (n - hint) ≤ i → i < n → bey rk left key arr bs i = false := fun i hi hn => monf (hint + o) i (by omega) hn (h5 (by omega))
      have a3 : hint + l + 1 ≤ hint + min o (n - hint) := by omega
      have a4 : hint + min o (n - hint) ≤ n := by omega
      dsimp only
      generalize hint + l + 1 = lo at a1 a2 a3 a4 ⊢
      generalize hint + min o (n - hint) = hi at a1 a2 a3 a4 ⊢
      refine wpS_bind (wpS_mono (wpS_forRange (I := fun x c st' => st' = st'' ∧ ∃ lo hi, c = (none, lo, hi) ∧ lo ≤ hi ∧ hi ≤ n ∧ hi - lo ≤ n - x ∧ (∀ i, i < lo → bey rk left key arr bs i = true) ∧ ∀ i, hi ≤ i → i < n → bey rk left key arr bs i = false)
        (Q := fun c st' => st' = st'' ∧ ∃ hi, c = (none, hi, hi) ∧ hi ≤ n ∧ (∀ i, i < hi → bey rk left key arr bs i = true) ∧ ∀ i, hi ≤ i → i < n → bey rk left key arr bs i = false) ?_ ?_ ⟨rfl, lo, hi, rfl, a3, a4, by omega, a1, a2⟩) ?_)
      · rintro x c st' _ hx ⟨rfl, lo, hi, rfl, b1, b2, b3, b4, b5⟩
        dsimp only
        by_cases hge : lo ≥ hi
        · rw [if_pos hge]
          have : lo = hi := by omega
          subst this
          exact wpS_pure ⟨rfl, lo, rfl, b2, b4, b5⟩
        · rw [if_neg hge]
          refine wpS_bind (byd_ok L hk hS hkey (by omega) ?_)
          cases e1 : bey rk left key arr bs (lo + (hi - lo) / 2) with
          | true => exact wpS_pure ⟨rfl, _, hi, rfl, by omega, b2, by omega, fun i hi' => mono i _ (by omega) (by omega) e1, b5⟩
          | false => exact wpS_pure ⟨rfl, lo, _, rfl, by omega, by omega, by omega, b4, fun i h1 h2 => monf _ i h1 h2 e1⟩
      · rintro c st' ⟨rfl, lo, hi, rfl, b1, b2, b3, b4, b5⟩
        have : lo = hi := by omega
        subst this
        exact ⟨rfl, lo, rfl, b2, b4, b5⟩
      · rintro c st' ⟨rfl, hi, rfl, b2, b4, b5⟩
        exact wpS_pure (h hi b2 b4 b5)
  | false =>
    rw [if_neg (by simp)]
    refine wpS_bind (wpS_mono (wpS_forRange (I := fun x c st' => st' = st ∧ ∃ l o, c = (none, l, o) ∧ l < o ∧ x < o ∧ l ≤ hint ∧ bey rk left key arr bs (hint - l) = false)
      (Q := fun c st' => st' = st ∧ ∃ l o, c = (none, l, o) ∧ l < o ∧ l ≤ hint ∧ bey rk left key arr bs (hint - l) = false ∧ (o < hint + 1 → bey rk left key arr bs (hint - o) = true)) ?step ?fin ⟨rfl, 0, 1, rfl, by omega, by omega, by omega, e0⟩) ?post)
    case step =>
      rintro x c st' _ hx ⟨rfl, l, o, rfl, h1, h2, h3, h4⟩
      dsimp only
      by_cases hge : o ≥ hint + 1
      · rw [if_pos hge]
        exact wpS_pure ⟨rfl, l, o, rfl, h1, h3, h4, fun z => absurd z (by omega)⟩
      · rw [if_neg hge]
        refine wpS_bind (byd_ok L hk hS hkey (by omega) ?_)
        cases e1 : bey rk left key arr bs (hint - o) with
        | true => exact wpS_pure ⟨rfl, l, o, rfl, h1, h3, h4, fun _ => e1⟩
        | false => exact wpS_pure ⟨rfl, o, 2 * o + 1, rfl, by omega, by omega, by omega, e1⟩
    case fin =>
      rintro c st' ⟨rfl, l, o, rfl, h1, h2, h3, h4⟩
      exact ⟨rfl, l, o, rfl, h1, h3, h4, fun z => absurd z (by omega)⟩
    case post =>
      rintro c st'' ⟨rfl, l, o, rfl, h1, h3, h4, h5⟩
      have a1 : ∀ i, i < hint + 1 - min o (hint + 1) → bey rk left key arr bs i = true := fun i hi => mono i (hint - o) (by omega) (by omega) (h5 (by omega))
      have a2 : ∀ i, hint - l ≤ i → i < n → bey rk left key arr bs i = false := fun i hi hn => monf (hint - l) i hi hn h4
      have a3 : hint + 1 - min o (hint + 1) ≤ hint - l := by omega
      have a4 : hint - l ≤ n := by omega
      dsimp only
      generalize hint + 1 - min o (hint + 1) = lo at a1 a2 a3 a4 ⊢
      generalize hint - l = hi at a1 a2 a3 a4 ⊢
      refine wpS_bind (wpS_mono (wpS_forRange (I := fun x c st' => st' = st'' ∧ ∃ lo hi, c = (none, lo, hi) ∧ lo ≤ hi ∧ hi ≤ n ∧ hi - lo ≤ n - x ∧ (∀ i, i < lo → bey rk left key arr bs i = true) ∧ ∀ i, hi ≤ i → i < n → bey rk left key arr bs i = false)
        (Q := fun c st' => st' = st'' ∧ ∃ hi, c = (none, hi, hi) ∧ hi ≤ n ∧ (∀ i, i < hi → bey rk left key arr bs i = true) ∧ ∀ i, hi ≤ i → i < n → bey rk left key arr bs i = false) ?_ ?_ ⟨rfl, lo, hi, rfl, a3, a4, by omega, a1, a2⟩) ?_)
      · rintro x c st' _ hx ⟨rfl, lo, hi, rfl, b1, b2, b3, b4, b5⟩
        dsimp only
        by_cases hge : lo ≥ hi
        · rw [if_pos hge]
          have : lo = hi := by omega
          subst this
          exact wpS_pure ⟨rfl, lo, rfl, b2, b4, b5⟩
        · rw [if_neg hge]
          refine wpS_bind (byd_ok L hk hS hkey (by omega) ?_)
          cases e1 : bey rk left key arr bs (lo + (hi - lo) / 2) with
          | true => exact wpS_pure ⟨rfl, _, hi, rfl, by omega, b2, by omega, fun i hi' => mono i _ (by omega) (by omega) e1, b5⟩
          | false => exact wpS_pure ⟨rfl, lo, _, rfl, by omega, by omega, by omega, b4, fun i h1 h2 => monf _ i h1 h2 e1⟩
      · rintro c st' ⟨rfl, lo, hi, rfl, b1, b2, b3, b4, b5⟩
        have : lo = hi := by omega
        subst this
        exact ⟨rfl, lo, rfl, b2, b4, b5⟩
      · rintro c st' ⟨rfl, hi, rfl, b2, b4, b5⟩
        exact wpS_pure (h hi b2 b4 b5)
end
end SortB


end
section
set_option linter.all false
set_option Elab.async false
set_option maxRecDepth 100000
namespace SortB
open PySem PySem.W PyProof.Rows
/-- rising by rank -/
abbrev Rs (rk : Keyed → Nat) (l : List Keyed) : Prop := l.Pairwise fun x y => rk x ≤ rk y
/-- merged so far: ia of la, ib of lb -/
structure Mg (rk : Keyed → Nat) (la lb out : List Keyed) (ia ib : Nat) : Prop where
  perm : out.Perm (la.take ia ++ lb.take ib)
  pw : Rs rk out
  ra : ∀ x ∈ out, ∀ y ∈ la.drop ia, rk x ≤ rk y
  rb : ∀ x ∈ out, ∀ y ∈ lb.drop ib, rk x ≤ rk y
section
variable {rk : Keyed → Nat} {la lb out : List Keyed} {ia ib k : Nat}
theorem drop_split (l : List Keyed) (i k : Nat) : l.drop i = (l.drop i).take k ++ l.drop (i + k) := by
  rw [← List.drop_drop, List.take_append_drop]
theorem Mg.takeA (m : Mg rk la lb out ia ib) (pa : Rs rk la) (k : Nat) (h : ∀ x ∈ (la.drop ia).take k, ∀ y ∈ lb.drop ib, rk x ≤ rk y) : Mg rk la lb (out ++ (la.drop ia).take k) (ia + k) ib := by
  have pd : Rs rk (la.drop ia) := pa.sublist (List.drop_sublist _ _)
  have ps := drop_split la ia k
  refine ⟨?_, ?_, ?_, ?_⟩
  · have e : la.take (ia + k) = la.take ia ++ (la.drop ia).take k := by rw [List.take_add]
    rw [e]
    refine (m.perm.append_right _).trans ?_
    rw [List.append_assoc, List.append_assoc]
    exact (List.perm_append_comm).append_left _
  · refine List.pairwise_append.mpr ⟨m.pw, pd.sublist (List.take_sublist _ _), fun x hx y hy => m.ra x hx y (List.mem_of_mem_take hy)⟩
  · intro x hx y hy
    rcases List.mem_append.mp hx with hx | hx
    · exact m.ra x hx y (by rw [ps]; exact List.mem_append_right _ hy)
    · rw [ps] at pd
      exact (List.pairwise_append.mp pd).2.2 x hx y hy
  · intro x hx y hy
    rcases List.mem_append.mp hx with hx | hx
    · exact m.rb x hx y hy
    · exact h x hx y hy
theorem Mg.swap (m : Mg rk la lb out ia ib) : Mg rk lb la out ib ia := ⟨m.perm.trans List.perm_append_comm, m.pw, m.rb, m.ra⟩
theorem Mg.takeB (m : Mg rk la lb out ia ib) (pb : Rs rk lb) (k : Nat) (h : ∀ x ∈ (lb.drop ib).take k, ∀ y ∈ la.drop ia, rk x ≤ rk y) : Mg rk la lb (out ++ (lb.drop ib).take k) ia (ib + k) := (m.swap.takeA pb k h).swap
/-- all of a, then what is left of b -/
theorem Mg.done (m : Mg rk la lb out ia ib) (pa : Rs rk la) (pb : Rs rk lb) (h : ∀ x ∈ la.drop ia, ∀ y ∈ lb.drop ib, rk x ≤ rk y) : (out ++ la.drop ia ++ lb.drop ib).Perm (la ++ lb) ∧ Rs rk (out ++ la.drop ia ++ lb.drop ib) := by
  have e1 : (la.drop ia).take la.length = la.drop ia := List.take_of_length_le (by rw [List.length_drop]; omega)
  have e2 : (lb.drop ib).take lb.length = lb.drop ib := List.take_of_length_le (by rw [List.length_drop]; omega)
  have m1 := m.takeA pa la.length (by rw [e1]; exact h)
  rw [e1] at m1
  have z : la.drop (ia + la.length) = [] := List.drop_eq_nil_of_le (by omega)
  have m2 := m1.takeB pb lb.length (by rw [z]; intro _ _ _ q; cases q)
  rw [e2] at m2
  refine ⟨?_, m2.pw⟩
  have := m2.perm
  rwa [List.take_of_length_le (by omega), List.take_of_length_le (by omega)] at this
theorem Mg.doneB (m : Mg rk la lb out ia ib) (pa : Rs rk la) (pb : Rs rk lb) (h : ∀ x ∈ lb.drop ib, ∀ y ∈ la.drop ia, rk x ≤ rk y) : (out ++ lb.drop ib ++ la.drop ia).Perm (la ++ lb) ∧ Rs rk (out ++ lb.drop ib ++ la.drop ia) := by
  obtain ⟨a, b⟩ := m.swap.done pb pa h
  exact ⟨a.trans List.perm_append_comm, b⟩
end
section
variable {rk : Keyed → Nat} {a : Array Keyed} {i j k n : Nat} {x : Keyed}
theorem ext_all (a : Array Keyed) (i : Nat) : (a.extract i a.size).toList = a.toList.drop i := by
  rw [Array.toList_extract, List.extract_eq_take_drop]
  exact List.take_of_length_le (by simp)
theorem ext_some (a : Array Keyed) (i j : Nat) : (a.extract i j).toList = (a.toList.drop i).take (j - i) := by
  rw [Array.toList_extract, List.extract_eq_take_drop]
theorem take_one (h : i < a.size) : (a.toList.drop i).take 1 = [a[i]] := by
  rw [List.drop_eq_getElem_cons (by simpa using h)]
  simp
theorem mem_dt (h : x ∈ (a.toList.drop i).take k) : ∃ j, j < k ∧ i + j < a.size ∧ rk x = K rk a (i + j) := by
  obtain ⟨j, hj, e⟩ := List.getElem_of_mem h
  have h1 : j < k ∧ i + j < a.size := by
    rw [List.length_take, List.length_drop, Array.length_toList] at hj
    omega
  refine ⟨j, h1.1, h1.2, ?_⟩
  rw [K_get h1.2, ← e]
  simp
theorem mem_d (h : x ∈ a.toList.drop i) : ∃ j, i ≤ j ∧ j < a.size ∧ rk x = K rk a j := by
  obtain ⟨j, hj, e⟩ := List.getElem_of_mem h
  have h1 : i + j < a.size := by
    rw [List.length_drop, Array.length_toList] at hj
    omega
  refine ⟨i + j, by omega, h1, ?_⟩
  rw [K_get h1, ← e]
  simp
theorem Rs.le (h : Rs rk a.toList) (hij : i ≤ j) (hj : j < a.size) : K rk a i ≤ K rk a j := by
  by_cases e : i = j
  · rw [e]; exact Nat.le_refl _
  · rw [K_get (show i < a.size by omega), K_get hj]
    have := List.pairwise_iff_getElem.mp h i j (by simp; omega) (by simp; omega) (by omega)
    simpa using this
end
abbrev setG (st : SortSt) (g : Nat) : SortSt := SortSt.mk' (kindOf st) (arrOf st) (pendingOf st) g (failedOf st)
section
variable {prog : Program} {w : World} {A : Around} {E : Value → Shared → Prop} {s : Shared} {κ : SortKind} {rk : Keyed → Nat} {S : Keyed → Prop}
theorem galR (L : LtOk prog w A E s κ rk S) {st : SortSt} {key : Keyed} {arr : Array Keyed} {bs n hint : Nat} {Q : Option Nat → SortSt → Prop} (hk : kindOf st = κ) (hS : ∀ x ∈ arr, S x) (hkey : S key) (hb : bs + n ≤ arr.size) (hh : hint < n)
    (up : ∀ i j, bs ≤ i → i ≤ j → j < bs + n → K rk arr i ≤ K rk arr j)
    (h : ∀ k, k ≤ n → (∀ i, i < k → K rk arr (bs + i) ≤ rk key) → (∀ i, k ≤ i → i < n → rk key < K rk arr (bs + i)) → Q (some k) st) : wpS (model prog w) A E s (gallop' false key arr bs n hint) Q st := by
  have e : ∀ i, bey rk false key arr bs i = !decide (rk key < K rk arr (bs + i)) := fun i => by unfold bey; rw [if_neg (by simp)]
  refine gallop_ok L hk hS hkey hb hh (fun i j hij hj => ?_) fun k hk1 h1 h2 => h k hk1 (fun i hi => ?_) fun i hi hn => ?_
  · rw [e, e]
    have := up (bs + i) (bs + j) (by omega) (by omega) (by omega)
    simp only [Bool.not_eq_true', decide_eq_false_iff_not]
    omega
  · have := h1 i hi
    rw [e] at this
    simp only [Bool.not_eq_true', decide_eq_false_iff_not] at this
    omega
  · have := h2 i hi hn
    rw [e] at this
    simpa using this
theorem galL (L : LtOk prog w A E s κ rk S) {st : SortSt} {key : Keyed} {arr : Array Keyed} {bs n hint : Nat} {Q : Option Nat → SortSt → Prop} (hk : kindOf st = κ) (hS : ∀ x ∈ arr, S x) (hkey : S key) (hb : bs + n ≤ arr.size) (hh : hint < n)
    (up : ∀ i j, bs ≤ i → i ≤ j → j < bs + n → K rk arr i ≤ K rk arr j)
    (h : ∀ k, k ≤ n → (∀ i, i < k → K rk arr (bs + i) < rk key) → (∀ i, k ≤ i → i < n → rk key ≤ K rk arr (bs + i)) → Q (some k) st) : wpS (model prog w) A E s (gallop' true key arr bs n hint) Q st := by
  have e : ∀ i, bey rk true key arr bs i = decide (K rk arr (bs + i) < rk key) := fun i => by unfold bey; rw [if_pos rfl]
  refine gallop_ok L hk hS hkey hb hh (fun i j hij hj => ?_) fun k hk1 h1 h2 => h k hk1 (fun i hi => ?_) fun i hi hn => ?_
  · rw [e, e]
    have := up (bs + i) (bs + j) (by omega) (by omega) (by omega)
    simp only [decide_eq_true_eq]
    omega
  · have := h1 i hi
    rw [e] at this
    simpa using this
  · have := h2 i hi hn
    rw [e] at this
    simpa using this
theorem mergeLo_ok (L : LtOk prog w A E s κ rk S) {st : SortSt} {a b : Array Keyed} {Q : Array Keyed → SortSt → Prop} (hk : kindOf st = κ) (hSa : ∀ x ∈ a, S x) (hSb : ∀ x ∈ b, S x) (na : 0 < a.size) (nb : 0 < b.size) (pa : Rs rk a.toList) (pb : Rs rk b.toList)
    (h0 : K rk b 0 ≤ K rk a 0) (hl : ∀ i, i < b.size → K rk b i < K rk a (a.size - 1)) (h : ∀ out g, out.toList.Perm (a.toList ++ b.toList) → Rs rk out.toList → Q out (setG st g)) : wpS (model prog w) A E s (mergeLo' a b) Q st := by
  have ua : ∀ i j, i ≤ j → j < a.size → K rk a i ≤ K rk a j := fun i j h1 h2 => pa.le h1 h2
  have ub : ∀ i j, i ≤ j → j < b.size → K rk b i ≤ K rk b j := fun i j h1 h2 => pb.le h1 h2
  have m0 : Mg rk a.toList b.toList (#[b[0]] : Array Keyed).toList 0 1 := by
    have e1 : b.toList.take 1 = [b[0]] := by have := take_one nb; simpa using this
    refine ⟨by rw [e1]; simp, by simp, fun x hx y hy => ?_, fun x hx y hy => ?_⟩
    · obtain ⟨j, _, hj, e⟩ := mem_d (rk := rk) hy
      have : x = b[0] := by simpa using hx
      rw [this, e, ← K_get (rk := rk) nb]
      exact Nat.le_trans h0 (ua 0 j (by omega) hj)
    · obtain ⟨j, _, hj, e⟩ := mem_d (rk := rk) hy
      have : x = b[0] := by simpa using hx
      rw [this, e, ← K_get (rk := rk) nb]
      exact ub 0 j (by omega) hj
  -- the two ends
  have done : ∀ (out : Array Keyed) (ia ib : Nat), Mg rk a.toList b.toList out.toList ia ib → ib = b.size → (out ++ a.extract ia a.size ++ b.extract ib b.size).toList.Perm (a.toList ++ b.toList) ∧ Rs rk (out ++ a.extract ia a.size ++ b.extract ib b.size).toList := fun out ia ib m e => by
    rw [Array.toList_append, Array.toList_append, ext_all, ext_all]
    exact m.done pa pb fun x _ y hy => by
      obtain ⟨j, h1, h2, _⟩ := mem_d (rk := rk) hy
      omega
  have lastA : ∀ (out : Array Keyed) (ia ib : Nat), Mg rk a.toList b.toList out.toList ia ib → ia + 1 = a.size → (out ++ b.extract ib b.size ++ a.extract ia a.size).toList.Perm (a.toList ++ b.toList) ∧ Rs rk (out ++ b.extract ib b.size ++ a.extract ia a.size).toList := fun out ia ib m e => by
    rw [Array.toList_append, Array.toList_append, ext_all, ext_all]
    exact m.doneB pa pb fun x hx y hy => by
      obtain ⟨j, h1, h2, e1⟩ := mem_d (rk := rk) hx
      obtain ⟨i, h3, h4, e2⟩ := mem_d (rk := rk) hy
      have : i = a.size - 1 := by omega
      rw [e1, e2, this]
      exact Nat.le_of_lt (hl j h2)
  -- one more of a, of b
  have pushA : ∀ (out : Array Keyed) (ia ib : Nat) (hi : ia < a.size), Mg rk a.toList b.toList out.toList ia ib → (ib < b.size → K rk a ia ≤ K rk b ib) → Mg rk a.toList b.toList (out.push a[ia]).toList (ia + 1) ib := fun out ia ib hi m hle => by
    have := m.takeA pa 1 fun x hx y hy => by
      obtain ⟨j, h1, h2, e1⟩ := mem_dt (rk := rk) hx
      obtain ⟨i, h3, h4, e2⟩ := mem_d (rk := rk) hy
      have : j = 0 := by omega
      subst this
      rw [e1, e2]
      exact Nat.le_trans (hle (by omega)) (ub ib i h3 h4)
    rwa [take_one hi, ← Array.toList_push] at this
  have pushB : ∀ (out : Array Keyed) (ia ib : Nat) (hi : ib < b.size), Mg rk a.toList b.toList out.toList ia ib → (ia < a.size → K rk b ib ≤ K rk a ia) → Mg rk a.toList b.toList (out.push b[ib]).toList ia (ib + 1) := fun out ia ib hi m hle => by
    have := m.takeB pb 1 fun x hx y hy => by
      obtain ⟨j, h1, h2, e1⟩ := mem_dt (rk := rk) hx
      obtain ⟨i, h3, h4, e2⟩ := mem_d (rk := rk) hy
      have : j = 0 := by omega
      subst this
      rw [e1, e2]
      exact Nat.le_trans (hle (by omega)) (ua ia i h3 h4)
    rwa [take_one hi, ← Array.toList_push] at this
  refine wpS_bind (wpS_lift (wpAny_rule ⟨rfl, ?_⟩))
  refine wpS_bind (wpS_elem nb ?_)
  dsimp only
  by_cases hb1 : 1 = b.size
  · rw [if_pos (by simpa using hb1)]
    obtain ⟨p, r⟩ := done _ 0 1 m0 hb1
    exact wpS_pure (h _ (gallopOf st) p r)
  rw [if_neg (by simpa using hb1)]
  by_cases ha1 : 0 + 1 = a.size
  · rw [if_pos (by simpa using ha1)]
    obtain ⟨p, r⟩ := lastA _ 0 1 m0 ha1
    exact wpS_pure (h _ (gallopOf st) p r)
  rw [if_neg (by simpa using ha1)]
  refine wpS_bind (wpS_get (wpS_bind (wpS_mono (wpS_forRange
    (I := fun x c st' => ∃ out ia ib g g', c = (none, out, ia, ib, g) ∧ st' = setG st g' ∧ Mg rk a.toList b.toList (out : Array Keyed).toList ia ib ∧ ia + 1 < a.size ∧ ib < b.size ∧ x ≤ ia + ib)
    (Q := fun c st' => ∃ r g' z, c = (some r, z) ∧ st' = setG st g' ∧ (r : Array Keyed).toList.Perm (a.toList ++ b.toList) ∧ Rs rk r.toList) ?step ?fin ⟨_, 0, 1, _, gallopOf st, rfl, rfl, m0, by omega, by omega, by omega⟩) ?post)))
  case post =>
    rintro c st' ⟨r, g', z, rfl, rfl, p, q⟩
    exact wpS_pure (h r g' p q)
  case fin =>
    rintro c st' ⟨out, ia, ib, g, g', rfl, rfl, m, h1, h2, h3⟩
    omega
  case step =>
    rintro x c st' _ hx ⟨out, ia, ib, g, g', rfl, rfl, m, h1, h2, h3⟩
    dsimp only
    refine wpS_bind (wpS_mono (wpS_forRange
      (I := fun y c st' => st' = setG st g' ∧ ∃ out ja jb ac bc, c = (none, out, ja, jb, ac, bc) ∧ Mg rk a.toList b.toList (out : Array Keyed).toList ja jb ∧ ja + 1 < a.size ∧ jb < b.size ∧ y + (ia + ib) ≤ ja + jb)
      (Q := fun c st' => st' = setG st g' ∧ ((∃ out ja jb ac bc, c = (none, out, ja, jb, ac, bc) ∧ Mg rk a.toList b.toList (out : Array Keyed).toList ja jb ∧ ja + 1 < a.size ∧ jb < b.size ∧ ia + ib ≤ ja + jb) ∨ ∃ r z, c = (some r, z) ∧ (r : Array Keyed).toList.Perm (a.toList ++ b.toList) ∧ Rs rk r.toList)) ?istep ?ifin ⟨rfl, out, ia, ib, 0, 0, rfl, m, h1, h2, by omega⟩) ?ipost)
    case ifin =>
      rintro c st' ⟨rfl, out, ja, jb, ac, bc, rfl, m, h4, h5, h6⟩
      omega
    case istep =>
      rintro y c st' _ hy ⟨rfl, out, ja, jb, ac, bc, rfl, m, h4, h5, h6⟩
      dsimp only
      refine wpS_bind (wpS_elem h5 (wpS_bind (wpS_elem (show ja < a.size by omega) (wpS_bind (L _ _ _ _ hk (hSb _ (Array.getElem_mem h5)) (hSa _ (Array.getElem_mem _)) ?_)))))
      by_cases hw : rk b[jb] < rk a[ja]
      · have m1 := pushB out ja jb h5 m fun _ => by rw [K_get h5, K_get (show ja < a.size by omega)]; exact Nat.le_of_lt hw
        simp only [hw, decide_true, if_true]
        refine wpS_bind (wpS_elem h5 ?_)
        by_cases he : jb + 1 = b.size
        · rw [if_pos (by simpa using he)]
          exact wpS_pure ⟨rfl, .inr ⟨_, _, rfl, done _ ja (jb + 1) m1 he⟩⟩
        · rw [if_neg (by simpa using he)]
          by_cases hc : bc + 1 ≥ g
          · rw [if_pos hc]
            exact wpS_pure ⟨rfl, .inl ⟨_, _, _, _, _, rfl, m1, h4, by omega, by omega⟩⟩
          · rw [if_neg hc]
            exact wpS_pure ⟨rfl, _, _, _, _, _, rfl, m1, h4, by omega, by omega⟩
      · have m1 := pushA out ja jb (by omega) m fun _ => by rw [K_get h5, K_get (show ja < a.size by omega)]; omega
        simp only [hw, decide_false, Bool.false_eq_true, if_false]
        refine wpS_bind (wpS_elem (show ja < a.size by omega) ?_)
        by_cases he : ja + 1 + 1 = a.size
        · rw [if_pos (by simpa using he)]
          exact wpS_pure ⟨rfl, .inr ⟨_, _, rfl, lastA _ (ja + 1) jb m1 he⟩⟩
        · rw [if_neg (by simpa using he)]
          by_cases hc : ac + 1 ≥ g
          · rw [if_pos hc]
            exact wpS_pure ⟨rfl, .inl ⟨_, _, _, _, _, rfl, m1, by omega, h5, by omega⟩⟩
          · rw [if_neg hc]
            exact wpS_pure ⟨rfl, _, _, _, _, _, rfl, m1, by omega, h5, by omega⟩
    case ipost =>
      rintro c st' ⟨rfl, ⟨out, ja, jb, ac, bc, rfl, m, h4, h5, h6⟩ | ⟨r, z, rfl, p, q⟩⟩
      · dsimp only
        refine wpS_bind (wpS_lift (wpAny_rule ⟨rfl, ?_⟩))
        refine wpS_bind (wpS_mono (wpS_forRange
          (I := fun y c st' => ∃ out ka kb g g' ac bc, c = (none, out, ka, kb, g, ac, bc) ∧ st' = setG st g' ∧ Mg rk a.toList b.toList (out : Array Keyed).toList ka kb ∧ ka + 1 < a.size ∧ kb < b.size ∧ y + (ja + jb) ≤ ka + kb)
          (Q := fun c st' => (∃ out ka kb g g' ac bc, c = (none, out, ka, kb, g, ac, bc) ∧ st' = setG st g' ∧ Mg rk a.toList b.toList (out : Array Keyed).toList ka kb ∧ ka + 1 < a.size ∧ kb < b.size ∧ ja + jb + 1 ≤ ka + kb) ∨ ∃ r z g', c = (some r, z) ∧ st' = setG st g' ∧ (r : Array Keyed).toList.Perm (a.toList ++ b.toList) ∧ Rs rk r.toList) ?jstep ?jfin ⟨out, ja, jb, _, g', ac, bc, rfl, rfl, m, h4, h5, by omega⟩) ?jpost)
        case jfin =>
          rintro c st' ⟨out, ka, kb, g, g', ac, bc, rfl, rfl, m, h7, h8, h9⟩
          omega
        case jpost =>
          rintro c st' (⟨out, ka, kb, g, g', ac, bc, rfl, rfl, m, h7, h8, h9⟩ | ⟨r, z, g', rfl, rfl, p, q⟩)
          · dsimp only
            refine wpS_bind (wpS_modify (wpS_pure ⟨out, ka, kb, _, g + 1, rfl, rfl, m, h7, h8, by omega⟩))
          · exact wpS_pure ⟨r, g', _, rfl, rfl, p, q⟩
        case jstep =>
          rintro y c st' _ hy ⟨out, ka, kb, g, g', ac, bc, rfl, rfl, m, h7, h8, h9⟩
          dsimp only
          by_cases hg : g > 1
          · rw [if_pos hg]
            generalize g - 1 = g1
            refine wpS_bind (wpS_modify ?_)
            refine wpS_bind (wpS_elem h8 (wpS_bind (galR L hk hSa (hSb _ (Array.getElem_mem h8)) (by omega) (by omega) (fun i j h1 h2 h3 => ua i j h2 (by omega)) fun k hkn q1 q2 => ?_)))
            dsimp only
            rw [← K_get (rk := rk) h8] at q1 q2
            have hlt : ka + k < a.size := by
              by_cases hz : ka + k < a.size
              · exact hz
              · have z1 := q1 (a.size - 1 - ka) (by omega)
                rw [show ka + (a.size - 1 - ka) = a.size - 1 by omega] at z1
                have z2 := hl kb h8
                omega
            have m1 : Mg rk a.toList b.toList (out ++ a.extract ka (ka + k)).toList (ka + k) kb := by
              rw [Array.toList_append, ext_some, show ka + k - ka = k by omega]
              refine m.takeA pa k fun x hx y hy => ?_
              obtain ⟨j, hj1, hj2, e1⟩ := mem_dt (rk := rk) hx
              obtain ⟨i, hi1, hi2, e2⟩ := mem_d (rk := rk) hy
              rw [e1, e2]
              exact Nat.le_trans (q1 j hj1) (ub kb i hi1 hi2)
            have q3 : K rk b kb ≤ K rk a (ka + k) := Nat.le_of_lt (q2 k (Nat.le_refl _) (by omega))
            have q4 : k = 0 → out ++ a.extract ka (ka + k) = out := fun e => by
              subst e; rw [Nat.add_zero, Array.extract_empty_of_stop_le_start (Nat.le_refl _)]; simp
            by_cases hk0 : k > 0
            · rw [if_pos hk0]
              by_cases he : ka + k + 1 = a.size
              · rw [if_pos (by simpa using he)]
                obtain ⟨p, r⟩ := lastA _ (ka + k) kb m1 he
                exact wpS_pure (.inr ⟨_, _, _, rfl, rfl, p, r⟩)
              rw [if_neg (by simpa using he), if_neg (by simp; omega)]
              have h10 : ka + k + 1 < a.size := by omega
              have h11 : ka ≤ ka + k := by omega
              generalize out ++ a.extract ka (ka + k) = out1 at m1 ⊢
              generalize ka + k = ka1 at m1 q3 h10 h11 ⊢
              clear q4 m
              refine wpS_bind (wpS_elem h8 ?_)
              have m2 := pushB out1 ka1 kb h8 m1 fun _ => q3
              by_cases he2 : kb + 1 = b.size
              · rw [if_pos (by simpa using he2)]
                obtain ⟨p, r⟩ := done _ ka1 (kb + 1) m2 he2
                exact wpS_pure (.inr ⟨_, _, _, rfl, rfl, p, r⟩)
              rw [if_neg (by simpa using he2)]
              have ha1 : ka1 < a.size := by omega
              refine wpS_bind (wpS_elem ha1 (wpS_bind (galL L hk hSb (hSa _ (Array.getElem_mem ha1)) (by omega) (by omega) (fun i j h1 h2 h3 => ub i j h2 (by omega)) fun k2 hkn2 q5 q6 => ?_)))
              dsimp only
              rw [← K_get (rk := rk) ha1] at q5 q6
              have m3 : Mg rk a.toList b.toList (out1.push b[kb] ++ b.extract (kb + 1) (kb + 1 + k2)).toList ka1 (kb + 1 + k2) := by
                rw [Array.toList_append, ext_some, show kb + 1 + k2 - (kb + 1) = k2 by omega]
                refine m2.takeB pb k2 fun x hx y hy => ?_
                obtain ⟨j, hj1, hj2, e1⟩ := mem_dt (rk := rk) hx
                obtain ⟨i, hi1, hi2, e2⟩ := mem_d (rk := rk) hy
                rw [e1, e2]
                exact Nat.le_trans (Nat.le_of_lt (q5 j hj1)) (ua ka1 i hi1 hi2)
              have q7 : kb + 1 + k2 < b.size → K rk a ka1 ≤ K rk b (kb + 1 + k2) := fun hz => q6 k2 (Nat.le_refl _) (by omega)
              have q8 : k2 = 0 → out1.push b[kb] ++ b.extract (kb + 1) (kb + 1 + k2) = out1.push b[kb] := fun e => by
                subst e; rw [Nat.add_zero, Array.extract_empty_of_stop_le_start (Nat.le_refl _)]; simp
              by_cases hk2 : k2 > 0
              · rw [if_pos hk2]
                by_cases he3 : kb + 1 + k2 = b.size
                · rw [if_pos (by simpa using he3)]
                  obtain ⟨p, r⟩ := done _ ka1 (kb + 1 + k2) m3 he3
                  exact wpS_pure (.inr ⟨_, _, _, rfl, rfl, p, r⟩)
                rw [if_neg (by simpa using he3)]
                refine wpS_bind (wpS_elem ha1 ?_)
                have m4 := pushA _ ka1 _ ha1 m3 q7
                by_cases he4 : ka1 + 1 + 1 = a.size
                · rw [if_pos (by simpa using he4)]
                  obtain ⟨p, r⟩ := lastA _ (ka1 + 1) _ m4 he4
                  exact wpS_pure (.inr ⟨_, _, _, rfl, rfl, p, r⟩)
                rw [if_neg (by simpa using he4)]
                split
                · exact wpS_pure (.inl ⟨_, _, _, _, _, _, _, rfl, rfl, m4, by omega, by omega, by omega⟩)
                · exact wpS_pure ⟨_, _, _, _, _, _, _, rfl, rfl, m4, by omega, by omega, by omega⟩
              · rw [if_neg hk2]
                have hkz2 : k2 = 0 := by omega
                rw [q8 hkz2, hkz2, Nat.add_zero] at m3
                rw [hkz2, Nat.add_zero] at q7
                refine wpS_bind (wpS_elem ha1 ?_)
                have m4 := pushA _ ka1 _ ha1 m3 q7
                by_cases he4 : ka1 + 1 + 1 = a.size
                · rw [if_pos (by simpa using he4)]
                  obtain ⟨p, r⟩ := lastA _ (ka1 + 1) _ m4 he4
                  exact wpS_pure (.inr ⟨_, _, _, rfl, rfl, p, r⟩)
                rw [if_neg (by simpa using he4)]
                split
                · exact wpS_pure (.inl ⟨_, _, _, _, _, _, _, rfl, rfl, m4, by omega, by omega, by omega⟩)
                · exact wpS_pure ⟨_, _, _, _, _, _, _, rfl, rfl, m4, by omega, by omega, by omega⟩
            · rw [if_neg hk0]
              have hkz : k = 0 := by omega
              rw [q4 hkz, hkz, Nat.add_zero] at m1
              rw [hkz, Nat.add_zero] at q3
              have h10 : ka + 1 < a.size := by omega
              have h11 : ka ≤ ka := Nat.le_refl _
              clear q4 m
              generalize hout1 : out = out1 at m1 ⊢
              generalize hka1 : ka = ka1 at m1 q3 h10 ⊢
              replace h11 : ka ≤ ka1 := by omega
              refine wpS_bind (wpS_elem h8 ?_)
              have m2 := pushB out1 ka1 kb h8 m1 fun _ => q3
              by_cases he2 : kb + 1 = b.size
              · rw [if_pos (by simpa using he2)]
                obtain ⟨p, r⟩ := done _ ka1 (kb + 1) m2 he2
                exact wpS_pure (.inr ⟨_, _, _, rfl, rfl, p, r⟩)
              rw [if_neg (by simpa using he2)]
              have ha1 : ka1 < a.size := by omega
              refine wpS_bind (wpS_elem ha1 (wpS_bind (galL L hk hSb (hSa _ (Array.getElem_mem ha1)) (by omega) (by omega) (fun i j h1 h2 h3 => ub i j h2 (by omega)) fun k2 hkn2 q5 q6 => ?_)))
              dsimp only
              rw [← K_get (rk := rk) ha1] at q5 q6
              have m3 : Mg rk a.toList b.toList (out1.push b[kb] ++ b.extract (kb + 1) (kb + 1 + k2)).toList ka1 (kb + 1 + k2) := by
                rw [Array.toList_append, ext_some, show kb + 1 + k2 - (kb + 1) = k2 by omega]
                refine m2.takeB pb k2 fun x hx y hy => ?_
                obtain ⟨j, hj1, hj2, e1⟩ := mem_dt (rk := rk) hx
                obtain ⟨i, hi1, hi2, e2⟩ := mem_d (rk := rk) hy
                rw [e1, e2]
                exact Nat.le_trans (Nat.le_of_lt (q5 j hj1)) (ua ka1 i hi1 hi2)
              have q7 : kb + 1 + k2 < b.size → K rk a ka1 ≤ K rk b (kb + 1 + k2) := fun hz => q6 k2 (Nat.le_refl _) (by omega)
              have q8 : k2 = 0 → out1.push b[kb] ++ b.extract (kb + 1) (kb + 1 + k2) = out1.push b[kb] := fun e => by
                subst e; rw [Nat.add_zero, Array.extract_empty_of_stop_le_start (Nat.le_refl _)]; simp
              by_cases hk2 : k2 > 0
              · rw [if_pos hk2]
                by_cases he3 : kb + 1 + k2 = b.size
                · rw [if_pos (by simpa using he3)]
                  obtain ⟨p, r⟩ := done _ ka1 (kb + 1 + k2) m3 he3
                  exact wpS_pure (.inr ⟨_, _, _, rfl, rfl, p, r⟩)
                rw [if_neg (by simpa using he3)]
                refine wpS_bind (wpS_elem ha1 ?_)
                have m4 := pushA _ ka1 _ ha1 m3 q7
                by_cases he4 : ka1 + 1 + 1 = a.size
                · rw [if_pos (by simpa using he4)]
                  obtain ⟨p, r⟩ := lastA _ (ka1 + 1) _ m4 he4
                  exact wpS_pure (.inr ⟨_, _, _, rfl, rfl, p, r⟩)
                rw [if_neg (by simpa using he4)]
                split
                · exact wpS_pure (.inl ⟨_, _, _, _, _, _, _, rfl, rfl, m4, by omega, by omega, by omega⟩)
                · exact wpS_pure ⟨_, _, _, _, _, _, _, rfl, rfl, m4, by omega, by omega, by omega⟩
              · rw [if_neg hk2]
                have hkz2 : k2 = 0 := by omega
                rw [q8 hkz2, hkz2, Nat.add_zero] at m3
                rw [hkz2, Nat.add_zero] at q7
                refine wpS_bind (wpS_elem ha1 ?_)
                have m4 := pushA _ ka1 _ ha1 m3 q7
                by_cases he4 : ka1 + 1 + 1 = a.size
                · rw [if_pos (by simpa using he4)]
                  obtain ⟨p, r⟩ := lastA _ (ka1 + 1) _ m4 he4
                  exact wpS_pure (.inr ⟨_, _, _, rfl, rfl, p, r⟩)
                rw [if_neg (by simpa using he4)]
                split
                · exact wpS_pure (.inl ⟨_, _, _, _, _, _, _, rfl, rfl, m4, by omega, by omega, by omega⟩)
                · exact wpS_pure ⟨_, _, _, _, _, _, _, rfl, rfl, m4, by omega, by omega, by omega⟩
          · rw [if_neg hg]
            generalize g = g1
            refine wpS_bind (wpS_modify ?_)
            refine wpS_bind (wpS_elem h8 (wpS_bind (galR L hk hSa (hSb _ (Array.getElem_mem h8)) (by omega) (by omega) (fun i j h1 h2 h3 => ua i j h2 (by omega)) fun k hkn q1 q2 => ?_)))
            dsimp only
            rw [← K_get (rk := rk) h8] at q1 q2
            have hlt : ka + k < a.size := by
              by_cases hz : ka + k < a.size
              · exact hz
              · have z1 := q1 (a.size - 1 - ka) (by omega)
                rw [show ka + (a.size - 1 - ka) = a.size - 1 by omega] at z1
                have z2 := hl kb h8
                omega
            have m1 : Mg rk a.toList b.toList (out ++ a.extract ka (ka + k)).toList (ka + k) kb := by
              rw [Array.toList_append, ext_some, show ka + k - ka = k by omega]
              refine m.takeA pa k fun x hx y hy => ?_
              obtain ⟨j, hj1, hj2, e1⟩ := mem_dt (rk := rk) hx
              obtain ⟨i, hi1, hi2, e2⟩ := mem_d (rk := rk) hy
              rw [e1, e2]
              exact Nat.le_trans (q1 j hj1) (ub kb i hi1 hi2)
            have q3 : K rk b kb ≤ K rk a (ka + k) := Nat.le_of_lt (q2 k (Nat.le_refl _) (by omega))
            have q4 : k = 0 → out ++ a.extract ka (ka + k) = out := fun e => by
              subst e; rw [Nat.add_zero, Array.extract_empty_of_stop_le_start (Nat.le_refl _)]; simp
            by_cases hk0 : k > 0
            · rw [if_pos hk0]
              by_cases he : ka + k + 1 = a.size
              · rw [if_pos (by simpa using he)]
                obtain ⟨p, r⟩ := lastA _ (ka + k) kb m1 he
                exact wpS_pure (.inr ⟨_, _, _, rfl, rfl, p, r⟩)
              rw [if_neg (by simpa using he), if_neg (by simp; omega)]
              have h10 : ka + k + 1 < a.size := by omega
              have h11 : ka ≤ ka + k := by omega
              generalize out ++ a.extract ka (ka + k) = out1 at m1 ⊢
              generalize ka + k = ka1 at m1 q3 h10 h11 ⊢
              clear q4 m
              refine wpS_bind (wpS_elem h8 ?_)
              have m2 := pushB out1 ka1 kb h8 m1 fun _ => q3
              by_cases he2 : kb + 1 = b.size
              · rw [if_pos (by simpa using he2)]
                obtain ⟨p, r⟩ := done _ ka1 (kb + 1) m2 he2
                exact wpS_pure (.inr ⟨_, _, _, rfl, rfl, p, r⟩)
              rw [if_neg (by simpa using he2)]
              have ha1 : ka1 < a.size := by omega
              refine wpS_bind (wpS_elem ha1 (wpS_bind (galL L hk hSb (hSa _ (Array.getElem_mem ha1)) (by omega) (by omega) (fun i j h1 h2 h3 => ub i j h2 (by omega)) fun k2 hkn2 q5 q6 => ?_)))
              dsimp only
              rw [← K_get (rk := rk) ha1] at q5 q6
              have m3 : Mg rk a.toList b.toList (out1.push b[kb] ++ b.extract (kb + 1) (kb + 1 + k2)).toList ka1 (kb + 1 + k2) := by
                rw [Array.toList_append, ext_some, show kb + 1 + k2 - (kb + 1) = k2 by omega]
                refine m2.takeB pb k2 fun x hx y hy => ?_
                obtain ⟨j, hj1, hj2, e1⟩ := mem_dt (rk := rk) hx
                obtain ⟨i, hi1, hi2, e2⟩ := mem_d (rk := rk) hy
                rw [e1, e2]
                exact Nat.le_trans (Nat.le_of_lt (q5 j hj1)) (ua ka1 i hi1 hi2)
              have q7 : kb + 1 + k2 < b.size → K rk a ka1 ≤ K rk b (kb + 1 + k2) := fun hz => q6 k2 (Nat.le_refl _) (by omega)
              have q8 : k2 = 0 → out1.push b[kb] ++ b.extract (kb + 1) (kb + 1 + k2) = out1.push b[kb] := fun e => by
                subst e; rw [Nat.add_zero, Array.extract_empty_of_stop_le_start (Nat.le_refl _)]; simp
              by_cases hk2 : k2 > 0
              · rw [if_pos hk2]
                by_cases he3 : kb + 1 + k2 = b.size
                · rw [if_pos (by simpa using he3)]
                  obtain ⟨p, r⟩ := done _ ka1 (kb + 1 + k2) m3 he3
                  exact wpS_pure (.inr ⟨_, _, _, rfl, rfl, p, r⟩)
                rw [if_neg (by simpa using he3)]
                refine wpS_bind (wpS_elem ha1 ?_)
                have m4 := pushA _ ka1 _ ha1 m3 q7
                by_cases he4 : ka1 + 1 + 1 = a.size
                · rw [if_pos (by simpa using he4)]
                  obtain ⟨p, r⟩ := lastA _ (ka1 + 1) _ m4 he4
                  exact wpS_pure (.inr ⟨_, _, _, rfl, rfl, p, r⟩)
                rw [if_neg (by simpa using he4)]
                split
                · exact wpS_pure (.inl ⟨_, _, _, _, _, _, _, rfl, rfl, m4, by omega, by omega, by omega⟩)
                · exact wpS_pure ⟨_, _, _, _, _, _, _, rfl, rfl, m4, by omega, by omega, by omega⟩
              · rw [if_neg hk2]
                have hkz2 : k2 = 0 := by omega
                rw [q8 hkz2, hkz2, Nat.add_zero] at m3
                rw [hkz2, Nat.add_zero] at q7
                refine wpS_bind (wpS_elem ha1 ?_)
                have m4 := pushA _ ka1 _ ha1 m3 q7
                by_cases he4 : ka1 + 1 + 1 = a.size
                · rw [if_pos (by simpa using he4)]
                  obtain ⟨p, r⟩ := lastA _ (ka1 + 1) _ m4 he4
                  exact wpS_pure (.inr ⟨_, _, _, rfl, rfl, p, r⟩)
                rw [if_neg (by simpa using he4)]
                split
                · exact wpS_pure (.inl ⟨_, _, _, _, _, _, _, rfl, rfl, m4, by omega, by omega, by omega⟩)
                · exact wpS_pure ⟨_, _, _, _, _, _, _, rfl, rfl, m4, by omega, by omega, by omega⟩
            · rw [if_neg hk0]
              have hkz : k = 0 := by omega
              rw [q4 hkz, hkz, Nat.add_zero] at m1
              rw [hkz, Nat.add_zero] at q3
              have h10 : ka + 1 < a.size := by omega
              have h11 : ka ≤ ka := Nat.le_refl _
              clear q4 m
              generalize hout1 : out = out1 at m1 ⊢
              generalize hka1 : ka = ka1 at m1 q3 h10 ⊢
              replace h11 : ka ≤ ka1 := by omega
              refine wpS_bind (wpS_elem h8 ?_)
              have m2 := pushB out1 ka1 kb h8 m1 fun _ => q3
              by_cases he2 : kb + 1 = b.size
              · rw [if_pos (by simpa using he2)]
                obtain ⟨p, r⟩ := done _ ka1 (kb + 1) m2 he2
                exact wpS_pure (.inr ⟨_, _, _, rfl, rfl, p, r⟩)
              rw [if_neg (by simpa using he2)]
              have ha1 : ka1 < a.size := by omega
              refine wpS_bind (wpS_elem ha1 (wpS_bind (galL L hk hSb (hSa _ (Array.getElem_mem ha1)) (by omega) (by omega) (fun i j h1 h2 h3 => ub i j h2 (by omega)) fun k2 hkn2 q5 q6 => ?_)))
              dsimp only
              rw [← K_get (rk := rk) ha1] at q5 q6
              have m3 : Mg rk a.toList b.toList (out1.push b[kb] ++ b.extract (kb + 1) (kb + 1 + k2)).toList ka1 (kb + 1 + k2) := by
                rw [Array.toList_append, ext_some, show kb + 1 + k2 - (kb + 1) = k2 by omega]
                refine m2.takeB pb k2 fun x hx y hy => ?_
                obtain ⟨j, hj1, hj2, e1⟩ := mem_dt (rk := rk) hx
                obtain ⟨i, hi1, hi2, e2⟩ := mem_d (rk := rk) hy
                rw [e1, e2]
                exact Nat.le_trans (Nat.le_of_lt (q5 j hj1)) (ua ka1 i hi1 hi2)
              have q7 : kb + 1 + k2 < b.size → K rk a ka1 ≤ K rk b (kb + 1 + k2) := fun hz => q6 k2 (Nat.le_refl _) (by omega)
              have q8 : k2 = 0 → out1.push b[kb] ++ b.extract (kb + 1) (kb + 1 + k2) = out1.push b[kb] := fun e => by
                subst e; rw [Nat.add_zero, Array.extract_empty_of_stop_le_start (Nat.le_refl _)]; simp
              by_cases hk2 : k2 > 0
              · rw [if_pos hk2]
                by_cases he3 : kb + 1 + k2 = b.size
                · rw [if_pos (by simpa using he3)]
                  obtain ⟨p, r⟩ := done _ ka1 (kb + 1 + k2) m3 he3
                  exact wpS_pure (.inr ⟨_, _, _, rfl, rfl, p, r⟩)
                rw [if_neg (by simpa using he3)]
                refine wpS_bind (wpS_elem ha1 ?_)
                have m4 := pushA _ ka1 _ ha1 m3 q7
                by_cases he4 : ka1 + 1 + 1 = a.size
                · rw [if_pos (by simpa using he4)]
                  obtain ⟨p, r⟩ := lastA _ (ka1 + 1) _ m4 he4
                  exact wpS_pure (.inr ⟨_, _, _, rfl, rfl, p, r⟩)
                rw [if_neg (by simpa using he4)]
                split
                · exact wpS_pure (.inl ⟨_, _, _, _, _, _, _, rfl, rfl, m4, by omega, by omega, by omega⟩)
                · exact wpS_pure ⟨_, _, _, _, _, _, _, rfl, rfl, m4, by omega, by omega, by omega⟩
              · rw [if_neg hk2]
                have hkz2 : k2 = 0 := by omega
                rw [q8 hkz2, hkz2, Nat.add_zero] at m3
                rw [hkz2, Nat.add_zero] at q7
                refine wpS_bind (wpS_elem ha1 ?_)
                have m4 := pushA _ ka1 _ ha1 m3 q7
                by_cases he4 : ka1 + 1 + 1 = a.size
                · rw [if_pos (by simpa using he4)]
                  obtain ⟨p, r⟩ := lastA _ (ka1 + 1) _ m4 he4
                  exact wpS_pure (.inr ⟨_, _, _, rfl, rfl, p, r⟩)
                rw [if_neg (by simpa using he4)]
                split
                · exact wpS_pure (.inl ⟨_, _, _, _, _, _, _, rfl, rfl, m4, by omega, by omega, by omega⟩)
                · exact wpS_pure ⟨_, _, _, _, _, _, _, rfl, rfl, m4, by omega, by omega, by omega⟩
      · exact wpS_pure ⟨r, g', _, rfl, rfl, p, q⟩
end
end SortB


end
section
set_option linter.all false
set_option Elab.async false
set_option maxRecDepth 100000
namespace SortB
open PySem PySem.W PyProof.Rows
/-- merged so far from the right: na of la, nb of lb are left -/
structure Mh (rk : Keyed → Nat) (la lb R : List Keyed) (na nb : Nat) : Prop where
  perm : R.Perm (la.drop na ++ lb.drop nb)
  pw : Rs rk R
  ra : ∀ x ∈ la.take na, ∀ y ∈ R, rk x ≤ rk y
  rb : ∀ x ∈ lb.take nb, ∀ y ∈ R, rk x ≤ rk y
section
variable {rk : Keyed → Nat} {la lb R : List Keyed} {na nb k : Nat}
theorem Mh.swap (m : Mh rk la lb R na nb) : Mh rk lb la R nb na := ⟨m.perm.trans List.perm_append_comm, m.pw, m.rb, m.ra⟩
theorem drop_mid {l : List Keyed} {k n : Nat} (h : k ≤ n) : l.drop k = (l.drop k).take (n - k) ++ l.drop n := by
  have e : l.drop n = (l.drop k).drop (n - k) := by rw [List.drop_drop]; congr 1; omega
  rw [e, List.take_append_drop]
theorem take_mid {l : List Keyed} {k n : Nat} (h : k ≤ n) : l.take n = l.take k ++ (l.drop k).take (n - k) := by
  have e : n = k + (n - k) := by omega
  rw [e, List.take_add]
  congr 2
  omega
theorem Mh.takeA (m : Mh rk la lb R na nb) (pa : Rs rk la) (k : Nat) (hk : k ≤ na) (h : ∀ x ∈ lb.take nb, ∀ y ∈ (la.drop k).take (na - k), rk x ≤ rk y) : Mh rk la lb ((la.drop k).take (na - k) ++ R) k nb := by
  have pt : Rs rk (la.take na) := pa.sublist (List.take_sublist _ _)
  have ps := take_mid (l := la) hk
  rw [ps] at pt
  obtain ⟨_, p2, p3⟩ := List.pairwise_append.mp pt
  have sub : ∀ y ∈ (la.drop k).take (na - k), y ∈ la.take na := fun y hy => by rw [ps]; exact List.mem_append_right _ hy
  refine ⟨?_, ?_, ?_, ?_⟩
  · refine (m.perm.append_left _).trans (List.Perm.of_eq ?_)
    rw [← List.append_assoc, ← drop_mid hk]
  · exact List.pairwise_append.mpr ⟨p2, m.pw, fun x hx y hy => m.ra x (sub x hx) y hy⟩
  · intro x hx y hy
    rcases List.mem_append.mp hy with hy | hy
    · exact p3 x hx y hy
    · exact m.ra x (by rw [ps]; exact List.mem_append_left _ hx) y hy
  · intro x hx y hy
    rcases List.mem_append.mp hy with hy | hy
    · exact h x hx y hy
    · exact m.rb x hx y hy
theorem Mh.takeB (m : Mh rk la lb R na nb) (pb : Rs rk lb) (k : Nat) (hk : k ≤ nb) (h : ∀ x ∈ la.take na, ∀ y ∈ (lb.drop k).take (nb - k), rk x ≤ rk y) : Mh rk la lb ((lb.drop k).take (nb - k) ++ R) na k := (m.swap.takeA pb k hk h).swap
theorem Mh.doneB (m : Mh rk la lb R na nb) (pa : Rs rk la) (pb : Rs rk lb) (h : ∀ x ∈ lb.take nb, ∀ y ∈ la.take na, rk x ≤ rk y) : (lb.take nb ++ la.take na ++ R).Perm (la ++ lb) ∧ Rs rk (lb.take nb ++ la.take na ++ R) := by
  have m1 := m.takeA pa 0 (Nat.zero_le _) (by simpa using h)
  have m2 := m1.takeB pb 0 (Nat.zero_le _) (by simp)
  have e : ((lb.drop 0).take (nb - 0) ++ ((la.drop 0).take (na - 0) ++ R)) = lb.take nb ++ la.take na ++ R := by simp
  rw [e] at m2
  exact ⟨by simpa using m2.perm, m2.pw⟩
theorem Mh.done (m : Mh rk la lb R na nb) (pa : Rs rk la) (pb : Rs rk lb) (h : ∀ x ∈ la.take na, ∀ y ∈ lb.take nb, rk x ≤ rk y) : (la.take na ++ lb.take nb ++ R).Perm (la ++ lb) ∧ Rs rk (la.take na ++ lb.take nb ++ R) := by
  obtain ⟨a, b⟩ := m.swap.doneB pb pa h
  exact ⟨a.trans List.perm_append_comm, b⟩
end
section
variable {rk : Keyed → Nat} {a : Array Keyed} {i j k n : Nat} {x : Keyed}
theorem ext_pre (a : Array Keyed) (n : Nat) : (a.extract 0 n).toList = a.toList.take n := by rw [ext_some]; simp
theorem mem_t (h : x ∈ a.toList.take n) : ∃ j, j < n ∧ j < a.size ∧ rk x = K rk a j := by
  obtain ⟨j, h1, h2, e⟩ := mem_dt (rk := rk) (i := 0) (a := a) (k := n) (by simpa using h)
  exact ⟨j, h1, by omega, by rw [e]; congr 1; omega⟩
end
section
variable {prog : Program} {w : World} {A : Around} {E : Value → Shared → Prop} {s : Shared} {κ : SortKind} {rk : Keyed → Nat} {S : Keyed → Prop}
theorem mergeHi_ok (L : LtOk prog w A E s κ rk S) {st : SortSt} {a b : Array Keyed} {Q : Array Keyed → SortSt → Prop} (hk : kindOf st = κ) (hSa : ∀ x ∈ a, S x) (hSb : ∀ x ∈ b, S x) (na : 0 < a.size) (nb : 0 < b.size) (pa : Rs rk a.toList) (pb : Rs rk b.toList)
    (h0 : K rk b 0 < K rk a 0) (hl : ∀ i, i < b.size → K rk b i < K rk a (a.size - 1)) (h : ∀ out g, out.toList.Perm (a.toList ++ b.toList) → Rs rk out.toList → Q out (setG st g)) : wpS (model prog w) A E s (mergeHi' a b) Q st := by
  have ua : ∀ i j, i ≤ j → j < a.size → K rk a i ≤ K rk a j := fun i j h1 h2 => pa.le h1 h2
  have ub : ∀ i j, i ≤ j → j < b.size → K rk b i ≤ K rk b j := fun i j h1 h2 => pb.le h1 h2
  have nl : a.size - 1 < a.size := by omega
  have m0 : Mh rk a.toList b.toList (#[a[a.size - 1]] : Array Keyed).toList.reverse (a.size - 1) b.size := by
    have e1 : a.toList.drop (a.size - 1) = [a[a.size - 1]] := by
      have := take_one nl
      rwa [List.take_of_length_le (by simp; omega)] at this
    refine ⟨by rw [e1]; simp, by simp, fun x hx y hy => ?_, fun x hx y hy => ?_⟩
    · obtain ⟨j, _, hj, e⟩ := mem_t (rk := rk) hx
      have : y = a[a.size - 1] := by simpa using hy
      rw [this, e, ← K_get (rk := rk) nl]
      exact ua j _ (by omega) (by omega)
    · obtain ⟨j, _, hj, e⟩ := mem_t (rk := rk) hx
      have : y = a[a.size - 1] := by simpa using hy
      rw [this, e, ← K_get (rk := rk) nl]
      exact Nat.le_of_lt (hl j hj)
  have done : ∀ (out : Array Keyed) (ia ib : Nat), Mh rk a.toList b.toList out.toList.reverse ia ib → ia = 0 → (a.extract 0 ia ++ b.extract 0 ib ++ out.reverse).toList.Perm (a.toList ++ b.toList) ∧ Rs rk (a.extract 0 ia ++ b.extract 0 ib ++ out.reverse).toList := fun out ia ib m e => by
    rw [Array.toList_append, Array.toList_append, ext_pre, ext_pre, Array.toList_reverse]
    exact m.done pa pb fun x hx y _ => by
      obtain ⟨j, h1, h2, _⟩ := mem_t (rk := rk) hx
      omega
  have lastB : ∀ (out : Array Keyed) (ia ib : Nat), Mh rk a.toList b.toList out.toList.reverse ia ib → ib = 1 → (b.extract 0 ib ++ a.extract 0 ia ++ out.reverse).toList.Perm (a.toList ++ b.toList) ∧ Rs rk (b.extract 0 ib ++ a.extract 0 ia ++ out.reverse).toList := fun out ia ib m e => by
    rw [Array.toList_append, Array.toList_append, ext_pre, ext_pre, Array.toList_reverse]
    exact m.doneB pa pb fun x hx y hy => by
      obtain ⟨j, h1, h2, e1⟩ := mem_t (rk := rk) hx
      obtain ⟨i, h3, h4, e2⟩ := mem_t (rk := rk) hy
      have : j = 0 := by omega
      rw [e1, e2, this]
      exact Nat.le_trans (Nat.le_of_lt h0) (ua 0 i (by omega) h4)
  have pushA : ∀ (out : Array Keyed) (ia ib : Nat) (hi : ia < a.size), Mh rk a.toList b.toList out.toList.reverse (ia + 1) ib → ib ≤ b.size → (0 < ib → K rk b (ib - 1) ≤ K rk a ia) → Mh rk a.toList b.toList (out.push a[ia]).toList.reverse ia ib := fun out ia ib hi m hib hle => by
    have := m.takeA pa ia (by omega) fun x hx y hy => by
      obtain ⟨j, h1, h2, e1⟩ := mem_t (rk := rk) hx
      obtain ⟨i, h3, h4, e2⟩ := mem_dt (rk := rk) hy
      have : i = 0 := by omega
      subst this
      rw [e1, e2]
      exact Nat.le_trans (ub j (ib - 1) (by omega) (by omega)) (hle (by omega))
    rw [show ia + 1 - ia = 1 by omega, take_one hi] at this
    rw [Array.toList_push, List.reverse_append]
    exact this
  replace pushA : ∀ (out : Array Keyed) (ia ib : Nat) (hi : ia - 1 < a.size), 0 < ia → Mh rk a.toList b.toList out.toList.reverse ia ib → ib ≤ b.size → (0 < ib → K rk b (ib - 1) ≤ K rk a (ia - 1)) → Mh rk a.toList b.toList (out.push a[ia - 1]).toList.reverse (ia - 1) ib := fun out ia ib hi h0 m h1 h2 => pushA out (ia - 1) ib hi (by rw [Nat.sub_add_cancel h0]; exact m) h1 h2
  have pushB : ∀ (out : Array Keyed) (ia ib : Nat) (hi : ib < b.size), Mh rk a.toList b.toList out.toList.reverse ia (ib + 1) → ia ≤ a.size → (0 < ia → K rk a (ia - 1) ≤ K rk b ib) → Mh rk a.toList b.toList (out.push b[ib]).toList.reverse ia ib := fun out ia ib hi m hia hle => by
    have := m.takeB pb ib (by omega) fun x hx y hy => by
      obtain ⟨j, h1, h2, e1⟩ := mem_t (rk := rk) hx
      obtain ⟨i, h3, h4, e2⟩ := mem_dt (rk := rk) hy
      have : i = 0 := by omega
      subst this
      rw [e1, e2]
      exact Nat.le_trans (ua j (ia - 1) (by omega) (by omega)) (hle (by omega))
    rw [show ib + 1 - ib = 1 by omega, take_one hi] at this
    rw [Array.toList_push, List.reverse_append]
    exact this
  replace pushB : ∀ (out : Array Keyed) (ia ib : Nat) (hi : ib - 1 < b.size), 0 < ib → Mh rk a.toList b.toList out.toList.reverse ia ib → ia ≤ a.size → (0 < ia → K rk a (ia - 1) ≤ K rk b (ib - 1)) → Mh rk a.toList b.toList (out.push b[ib - 1]).toList.reverse ia (ib - 1) := fun out ia ib hi h0 m h1 h2 => pushB out ia (ib - 1) hi (by rw [Nat.sub_add_cancel h0]; exact m) h1 h2
  refine wpS_bind (wpS_lift (wpAny_rule ⟨rfl, ?_⟩))
  refine wpS_bind (wpS_elem nl ?_)
  dsimp only
  by_cases ha1 : a.size - 1 = 0
  · rw [if_pos (by simpa using ha1)]
    obtain ⟨p, r⟩ := done _ _ b.size m0 ha1
    exact wpS_pure (h _ (gallopOf st) p r)
  rw [if_neg (by simpa using ha1)]
  by_cases hb1 : b.size = 1
  · rw [if_pos (by simpa using hb1)]
    obtain ⟨p, r⟩ := lastB _ (a.size - 1) b.size m0 hb1
    exact wpS_pure (h _ (gallopOf st) p r)
  rw [if_neg (by simpa using hb1)]
  refine wpS_bind (wpS_get (wpS_bind (wpS_mono (wpS_forRange
    (I := fun x c st' => ∃ ia ib out g g', c = (none, ia, ib, out, g) ∧ st' = setG st g' ∧ Mh rk a.toList b.toList (out : Array Keyed).toList.reverse ia ib ∧ 0 < ia ∧ ia < a.size ∧ 1 < ib ∧ ib ≤ b.size ∧ x + (ia + ib) ≤ a.size + b.size)
    (Q := fun c st' => ∃ r g' z, c = (some r, z) ∧ st' = setG st g' ∧ (r : Array Keyed).toList.Perm (a.toList ++ b.toList) ∧ Rs rk r.toList) ?step ?fin ⟨_, _, _, _, gallopOf st, rfl, rfl, m0, by omega, by omega, by omega, by omega, by omega⟩) ?post)))
  case post =>
    rintro c st' ⟨r, g', z, rfl, rfl, p, q⟩
    exact wpS_pure (h r g' p q)
  case fin =>
    rintro c st' ⟨ia, ib, out, g, g', rfl, rfl, m, h1, h2, h3, h4, h5⟩
    omega
  case step =>
    rintro x c st' _ hx ⟨ia, ib, out, g, g', rfl, rfl, m, h1, h2, h3, h3', h3x⟩
    dsimp only
    refine wpS_bind (wpS_mono (wpS_forRange
      (I := fun y c st' => st' = setG st g' ∧ ∃ ja jb out ac bc, c = (none, ja, jb, out, ac, bc) ∧ Mh rk a.toList b.toList (out : Array Keyed).toList.reverse ja jb ∧ 0 < ja ∧ ja < a.size ∧ 1 < jb ∧ jb ≤ b.size ∧ y + (ja + jb) ≤ ia + ib)
      (Q := fun c st' => st' = setG st g' ∧ ((∃ ja jb out ac bc, c = (none, ja, jb, out, ac, bc) ∧ Mh rk a.toList b.toList (out : Array Keyed).toList.reverse ja jb ∧ 0 < ja ∧ ja < a.size ∧ 1 < jb ∧ jb ≤ b.size ∧ ja + jb ≤ ia + ib) ∨ ∃ r z, c = (some r, z) ∧ (r : Array Keyed).toList.Perm (a.toList ++ b.toList) ∧ Rs rk r.toList)) ?istep ?ifin ⟨rfl, ia, ib, out, 0, 0, rfl, m, h1, h2, h3, h3', by omega⟩) ?ipost)
    case ifin =>
      rintro c st' ⟨rfl, ja, jb, out, ac, bc, rfl, m, h4, h5, h6, h6', h6x⟩
      omega
    case istep =>
      rintro y c st' _ hy ⟨rfl, ja, jb, out, ac, bc, rfl, m, h4, h5, h6, h6', h6x⟩
      dsimp only
      have ja1 : ja - 1 < a.size := by omega
      have jb1 : jb - 1 < b.size := by omega
      refine wpS_bind (wpS_elem jb1 (wpS_bind (wpS_elem ja1 (wpS_bind (L _ _ _ _ hk (hSb _ (Array.getElem_mem jb1)) (hSa _ (Array.getElem_mem ja1)) ?_)))))
      by_cases hw : rk b[jb - 1] < rk a[ja - 1]
      · have m1 := pushA out ja jb ja1 h4 m h6' fun _ => by rw [K_get jb1, K_get ja1]; exact Nat.le_of_lt hw
        simp only [hw, decide_true, if_true]
        refine wpS_bind (wpS_elem ja1 ?_)
        by_cases he : ja - 1 = 0
        · rw [if_pos (by simpa using he)]
          exact wpS_pure ⟨rfl, .inr ⟨_, _, rfl, done _ (ja - 1) jb m1 he⟩⟩
        · rw [if_neg (by simpa using he)]
          by_cases hc : ac + 1 ≥ g
          · rw [if_pos hc]
            exact wpS_pure ⟨rfl, .inl ⟨_, _, _, _, _, rfl, m1, by omega, by omega, h6, h6', by omega⟩⟩
          · rw [if_neg hc]
            exact wpS_pure ⟨rfl, _, _, _, _, _, rfl, m1, by omega, by omega, h6, h6', by omega⟩
      · have m1 := pushB out ja jb jb1 (by omega) m (by omega) fun _ => by rw [K_get jb1, K_get ja1]; omega
        simp only [hw, decide_false, Bool.false_eq_true, if_false]
        refine wpS_bind (wpS_elem jb1 ?_)
        by_cases he : jb - 1 = 1
        · rw [if_pos (by simpa using he)]
          exact wpS_pure ⟨rfl, .inr ⟨_, _, rfl, lastB _ ja (jb - 1) m1 he⟩⟩
        · rw [if_neg (by simpa using he)]
          by_cases hc : bc + 1 ≥ g
          · rw [if_pos hc]
            exact wpS_pure ⟨rfl, .inl ⟨_, _, _, _, _, rfl, m1, h4, h5, by omega, by omega, by omega⟩⟩
          · rw [if_neg hc]
            exact wpS_pure ⟨rfl, _, _, _, _, _, rfl, m1, h4, h5, by omega, by omega, by omega⟩
    case ipost =>
      rintro c st' ⟨rfl, ⟨ja, jb, out, ac, bc, rfl, m, h4, h5, h6, h6', h6x⟩ | ⟨r, z, rfl, p, q⟩⟩
      · dsimp only
        refine wpS_bind (wpS_lift (wpAny_rule ⟨rfl, ?_⟩))
        refine wpS_bind (wpS_mono (wpS_forRange
          (I := fun y c st' => ∃ ka kb out g g' ac bc, c = (none, ka, kb, out, g, ac, bc) ∧ st' = setG st g' ∧ Mh rk a.toList b.toList (out : Array Keyed).toList.reverse ka kb ∧ 0 < ka ∧ ka < a.size ∧ 1 < kb ∧ kb ≤ b.size ∧ y + (ka + kb) ≤ ja + jb)
          (Q := fun c st' => (∃ ka kb out g g' ac bc, c = (none, ka, kb, out, g, ac, bc) ∧ st' = setG st g' ∧ Mh rk a.toList b.toList (out : Array Keyed).toList.reverse ka kb ∧ 0 < ka ∧ ka < a.size ∧ 1 < kb ∧ kb ≤ b.size ∧ ka + kb + 1 ≤ ja + jb) ∨ ∃ r z g', c = (some r, z) ∧ st' = setG st g' ∧ (r : Array Keyed).toList.Perm (a.toList ++ b.toList) ∧ Rs rk r.toList) ?jstep ?jfin ⟨ja, jb, out, _, g', ac, bc, rfl, rfl, m, h4, h5, h6, h6', by omega⟩) ?jpost)
        case jfin =>
          rintro c st' ⟨ka, kb, out, g, g', ac, bc, rfl, rfl, m, h7, h8, h9, h9', h9x⟩
          omega
        case jpost =>
          rintro c st' (⟨ka, kb, out, g, g', ac, bc, rfl, rfl, m, h7, h8, h9, h9', h9x⟩ | ⟨r, z, g', rfl, rfl, p, q⟩)
          · dsimp only
            refine wpS_bind (wpS_modify (wpS_pure ⟨ka, kb, out, _, g + 1, rfl, rfl, m, h7, h8, h9, h9', by omega⟩))
          · exact wpS_pure ⟨r, g', _, rfl, rfl, p, q⟩
        case jstep =>
          rintro y c st' _ hy ⟨ka, kb, out, g, g', ac, bc, rfl, rfl, m, h7, h8, h9, h9', h9x⟩
          have kb1 : kb - 1 < b.size := by omega
          dsimp only
          by_cases hg : g > 1
          · rw [if_pos hg]
            generalize g - 1 = g1
            refine wpS_bind (wpS_modify ?_)
            refine wpS_bind (wpS_elem kb1 (wpS_bind (galR L hk hSa (hSb _ (Array.getElem_mem kb1)) (by omega) (by omega) (fun i j h1 h2 h3 => ua i j h2 (by omega)) fun at1 hkn q1 q2 => ?_)))
            dsimp only
            rw [← K_get (rk := rk) kb1] at q1 q2
            simp only [Nat.zero_add] at q1 q2
            have m1 : Mh rk a.toList b.toList (out ++ (a.extract at1 ka).reverse).toList.reverse at1 kb := by
              rw [Array.toList_append, List.reverse_append, Array.toList_reverse, List.reverse_reverse, ext_some]
              refine m.takeA pa at1 hkn fun x hx y hy => ?_
              obtain ⟨j, hj1, hj2, e1⟩ := mem_t (rk := rk) hx
              obtain ⟨i, hi1, hi2, e2⟩ := mem_dt (rk := rk) hy
              rw [e1, e2]
              exact Nat.le_trans (ub j (kb - 1) (by omega) kb1) (Nat.le_of_lt (q2 (at1 + i) (by omega) (by omega)))
            have q3 : 0 < at1 → K rk a (at1 - 1) ≤ K rk b (kb - 1) := fun hz => q1 (at1 - 1) (by omega)
            have q4 : ¬ ka - at1 > 0 → out ++ (a.extract at1 ka).reverse = out ∧ at1 = ka := fun e => by
              have : at1 = ka := by omega
              subst this
              refine ⟨?_, rfl⟩
              rw [Array.extract_empty_of_stop_le_start (Nat.le_refl _)]; simp
            by_cases hk0 : ka - at1 > 0
            · rw [if_pos hk0]
              by_cases he : at1 = 0
              · rw [if_pos (by simpa using he)]
                obtain ⟨p, r⟩ := done _ at1 kb m1 he
                exact wpS_pure (.inr ⟨_, _, _, rfl, rfl, p, r⟩)
              rw [if_neg (by simpa using he)]
              have h10 : 0 < at1 := by omega
              have h11 : at1 ≤ ka := hkn
              generalize out ++ (a.extract at1 ka).reverse = out1 at m1 ⊢
              clear q4 m
              refine wpS_bind (wpS_elem kb1 ?_)
              have m2 := pushB out1 at1 kb kb1 (by omega) m1 (by omega) q3
              by_cases he2 : kb - 1 = 1
              · rw [if_pos (by simpa using he2)]
                obtain ⟨p, r⟩ := lastB _ at1 (kb - 1) m2 he2
                exact wpS_pure (.inr ⟨_, _, _, rfl, rfl, p, r⟩)
              rw [if_neg (by simpa using he2)]
              have ha1 : at1 - 1 < a.size := by omega
              refine wpS_bind (wpS_elem ha1 (wpS_bind (galL L hk hSb (hSa _ (Array.getElem_mem ha1)) (by omega) (by omega) (fun i j h1 h2 h3 => ub i j h2 (by omega)) fun at2 hkn2 q5 q6 => ?_)))
              dsimp only
              rw [← K_get (rk := rk) ha1] at q5 q6
              simp only [Nat.zero_add] at q5 q6
              have hat2 : 1 ≤ at2 := by
                by_cases hz : 1 ≤ at2
                · exact hz
                · have z1 := q6 0 (by omega) (by omega)
                  have z2 := ua 0 (at1 - 1) (by omega) ha1
                  omega
              have m3 : Mh rk a.toList b.toList (out1.push b[kb - 1] ++ (b.extract at2 (kb - 1)).reverse).toList.reverse at1 at2 := by
                rw [Array.toList_append, List.reverse_append, Array.toList_reverse, List.reverse_reverse, ext_some]
                refine m2.takeB pb at2 hkn2 fun x hx y hy => ?_
                obtain ⟨j, hj1, hj2, e1⟩ := mem_t (rk := rk) hx
                obtain ⟨i, hi1, hi2, e2⟩ := mem_dt (rk := rk) hy
                rw [e1, e2]
                exact Nat.le_trans (ua j (at1 - 1) (by omega) ha1) (q6 (at2 + i) (by omega) (by omega))
              have q7 : 0 < at2 → K rk b (at2 - 1) ≤ K rk a (at1 - 1) := fun hz => Nat.le_of_lt (q5 (at2 - 1) (by omega))
              have q8 : ¬ kb - 1 - at2 > 0 → out1.push b[kb - 1] ++ (b.extract at2 (kb - 1)).reverse = out1.push b[kb - 1] ∧ at2 = kb - 1 := fun e => by
                have : at2 = kb - 1 := by omega
                subst this
                refine ⟨?_, rfl⟩
                rw [Array.extract_empty_of_stop_le_start (Nat.le_refl _)]; simp
              by_cases hk2 : kb - 1 - at2 > 0
              · rw [if_pos hk2]
                by_cases he3 : at2 = 1
                · rw [if_pos (by simpa using he3)]
                  obtain ⟨p, r⟩ := lastB _ at1 at2 m3 he3
                  exact wpS_pure (.inr ⟨_, _, _, rfl, rfl, p, r⟩)
                rw [if_neg (by simpa using he3), if_neg (by simp; omega)]
                refine wpS_bind (wpS_elem ha1 ?_)
                have m4 := pushA _ at1 _ ha1 h10 m3 (by omega) q7
                by_cases he4 : at1 - 1 = 0
                · rw [if_pos (by simpa using he4)]
                  obtain ⟨p, r⟩ := done _ (at1 - 1) _ m4 he4
                  exact wpS_pure (.inr ⟨_, _, _, rfl, rfl, p, r⟩)
                rw [if_neg (by simpa using he4)]
                split
                · exact wpS_pure (.inl ⟨_, _, _, _, _, _, _, rfl, rfl, m4, by omega, by omega, by omega, by omega, by omega⟩)
                · exact wpS_pure ⟨_, _, _, _, _, _, _, rfl, rfl, m4, by omega, by omega, by omega, by omega, by omega⟩
              · rw [if_neg hk2]
                obtain ⟨z3, z4⟩ := q8 hk2
                rw [z3] at m3
                rw [z4] at m3 q7
                refine wpS_bind (wpS_elem ha1 ?_)
                have m4 := pushA _ at1 _ ha1 h10 m3 (by omega) fun _ => q7 (by omega)
                by_cases he4 : at1 - 1 = 0
                · rw [if_pos (by simpa using he4)]
                  obtain ⟨p, r⟩ := done _ (at1 - 1) _ m4 he4
                  exact wpS_pure (.inr ⟨_, _, _, rfl, rfl, p, r⟩)
                rw [if_neg (by simpa using he4)]
                split
                · exact wpS_pure (.inl ⟨_, _, _, _, _, _, _, rfl, rfl, m4, by omega, by omega, by omega, by omega, by omega⟩)
                · exact wpS_pure ⟨_, _, _, _, _, _, _, rfl, rfl, m4, by omega, by omega, by omega, by omega, by omega⟩
            · rw [if_neg hk0]
              obtain ⟨z1, z2⟩ := q4 hk0
              rw [z1] at m1
              subst z2
              have h10 : 0 < at1 := h7
              have h11 : at1 ≤ at1 := Nat.le_refl _
              clear q4 m z1
              generalize out = out1 at m1 ⊢
              refine wpS_bind (wpS_elem kb1 ?_)
              have m2 := pushB out1 at1 kb kb1 (by omega) m1 (by omega) q3
              by_cases he2 : kb - 1 = 1
              · rw [if_pos (by simpa using he2)]
                obtain ⟨p, r⟩ := lastB _ at1 (kb - 1) m2 he2
                exact wpS_pure (.inr ⟨_, _, _, rfl, rfl, p, r⟩)
              rw [if_neg (by simpa using he2)]
              have ha1 : at1 - 1 < a.size := by omega
              refine wpS_bind (wpS_elem ha1 (wpS_bind (galL L hk hSb (hSa _ (Array.getElem_mem ha1)) (by omega) (by omega) (fun i j h1 h2 h3 => ub i j h2 (by omega)) fun at2 hkn2 q5 q6 => ?_)))
              dsimp only
              rw [← K_get (rk := rk) ha1] at q5 q6
              simp only [Nat.zero_add] at q5 q6
              have hat2 : 1 ≤ at2 := by
                by_cases hz : 1 ≤ at2
                · exact hz
                · have z1 := q6 0 (by omega) (by omega)
                  have z2 := ua 0 (at1 - 1) (by omega) ha1
                  omega
              have m3 : Mh rk a.toList b.toList (out1.push b[kb - 1] ++ (b.extract at2 (kb - 1)).reverse).toList.reverse at1 at2 := by
                rw [Array.toList_append, List.reverse_append, Array.toList_reverse, List.reverse_reverse, ext_some]
                refine m2.takeB pb at2 hkn2 fun x hx y hy => ?_
                obtain ⟨j, hj1, hj2, e1⟩ := mem_t (rk := rk) hx
                obtain ⟨i, hi1, hi2, e2⟩ := mem_dt (rk := rk) hy
                rw [e1, e2]
                exact Nat.le_trans (ua j (at1 - 1) (by omega) ha1) (q6 (at2 + i) (by omega) (by omega))
              have q7 : 0 < at2 → K rk b (at2 - 1) ≤ K rk a (at1 - 1) := fun hz => Nat.le_of_lt (q5 (at2 - 1) (by omega))
              have q8 : ¬ kb - 1 - at2 > 0 → out1.push b[kb - 1] ++ (b.extract at2 (kb - 1)).reverse = out1.push b[kb - 1] ∧ at2 = kb - 1 := fun e => by
                have : at2 = kb - 1 := by omega
                subst this
                refine ⟨?_, rfl⟩
                rw [Array.extract_empty_of_stop_le_start (Nat.le_refl _)]; simp
              by_cases hk2 : kb - 1 - at2 > 0
              · rw [if_pos hk2]
                by_cases he3 : at2 = 1
                · rw [if_pos (by simpa using he3)]
                  obtain ⟨p, r⟩ := lastB _ at1 at2 m3 he3
                  exact wpS_pure (.inr ⟨_, _, _, rfl, rfl, p, r⟩)
                rw [if_neg (by simpa using he3), if_neg (by simp; omega)]
                refine wpS_bind (wpS_elem ha1 ?_)
                have m4 := pushA _ at1 _ ha1 h10 m3 (by omega) q7
                by_cases he4 : at1 - 1 = 0
                · rw [if_pos (by simpa using he4)]
                  obtain ⟨p, r⟩ := done _ (at1 - 1) _ m4 he4
                  exact wpS_pure (.inr ⟨_, _, _, rfl, rfl, p, r⟩)
                rw [if_neg (by simpa using he4)]
                split
                · exact wpS_pure (.inl ⟨_, _, _, _, _, _, _, rfl, rfl, m4, by omega, by omega, by omega, by omega, by omega⟩)
                · exact wpS_pure ⟨_, _, _, _, _, _, _, rfl, rfl, m4, by omega, by omega, by omega, by omega, by omega⟩
              · rw [if_neg hk2]
                obtain ⟨z3, z4⟩ := q8 hk2
                rw [z3] at m3
                rw [z4] at m3 q7
                refine wpS_bind (wpS_elem ha1 ?_)
                have m4 := pushA _ at1 _ ha1 h10 m3 (by omega) fun _ => q7 (by omega)
                by_cases he4 : at1 - 1 = 0
                · rw [if_pos (by simpa using he4)]
                  obtain ⟨p, r⟩ := done _ (at1 - 1) _ m4 he4
                  exact wpS_pure (.inr ⟨_, _, _, rfl, rfl, p, r⟩)
                rw [if_neg (by simpa using he4)]
                split
                · exact wpS_pure (.inl ⟨_, _, _, _, _, _, _, rfl, rfl, m4, by omega, by omega, by omega, by omega, by omega⟩)
                · exact wpS_pure ⟨_, _, _, _, _, _, _, rfl, rfl, m4, by omega, by omega, by omega, by omega, by omega⟩
          · rw [if_neg hg]
            generalize g = g1
            refine wpS_bind (wpS_modify ?_)
            refine wpS_bind (wpS_elem kb1 (wpS_bind (galR L hk hSa (hSb _ (Array.getElem_mem kb1)) (by omega) (by omega) (fun i j h1 h2 h3 => ua i j h2 (by omega)) fun at1 hkn q1 q2 => ?_)))
            dsimp only
            rw [← K_get (rk := rk) kb1] at q1 q2
            simp only [Nat.zero_add] at q1 q2
            have m1 : Mh rk a.toList b.toList (out ++ (a.extract at1 ka).reverse).toList.reverse at1 kb := by
              rw [Array.toList_append, List.reverse_append, Array.toList_reverse, List.reverse_reverse, ext_some]
              refine m.takeA pa at1 hkn fun x hx y hy => ?_
              obtain ⟨j, hj1, hj2, e1⟩ := mem_t (rk := rk) hx
              obtain ⟨i, hi1, hi2, e2⟩ := mem_dt (rk := rk) hy
              rw [e1, e2]
              exact Nat.le_trans (ub j (kb - 1) (by omega) kb1) (Nat.le_of_lt (q2 (at1 + i) (by omega) (by omega)))
            have q3 : 0 < at1 → K rk a (at1 - 1) ≤ K rk b (kb - 1) := fun hz => q1 (at1 - 1) (by omega)
            have q4 : ¬ ka - at1 > 0 → out ++ (a.extract at1 ka).reverse = out ∧ at1 = ka := fun e => by
              have : at1 = ka := by omega
              subst this
              refine ⟨?_, rfl⟩
              rw [Array.extract_empty_of_stop_le_start (Nat.le_refl _)]; simp
            by_cases hk0 : ka - at1 > 0
            · rw [if_pos hk0]
              by_cases he : at1 = 0
              · rw [if_pos (by simpa using he)]
                obtain ⟨p, r⟩ := done _ at1 kb m1 he
                exact wpS_pure (.inr ⟨_, _, _, rfl, rfl, p, r⟩)
              rw [if_neg (by simpa using he)]
              have h10 : 0 < at1 := by omega
              have h11 : at1 ≤ ka := hkn
              generalize out ++ (a.extract at1 ka).reverse = out1 at m1 ⊢
              clear q4 m
              refine wpS_bind (wpS_elem kb1 ?_)
              have m2 := pushB out1 at1 kb kb1 (by omega) m1 (by omega) q3
              by_cases he2 : kb - 1 = 1
              · rw [if_pos (by simpa using he2)]
                obtain ⟨p, r⟩ := lastB _ at1 (kb - 1) m2 he2
                exact wpS_pure (.inr ⟨_, _, _, rfl, rfl, p, r⟩)
              rw [if_neg (by simpa using he2)]
              have ha1 : at1 - 1 < a.size := by omega
              refine wpS_bind (wpS_elem ha1 (wpS_bind (galL L hk hSb (hSa _ (Array.getElem_mem ha1)) (by omega) (by omega) (fun i j h1 h2 h3 => ub i j h2 (by omega)) fun at2 hkn2 q5 q6 => ?_)))
              dsimp only
              rw [← K_get (rk := rk) ha1] at q5 q6
              simp only [Nat.zero_add] at q5 q6
              have hat2 : 1 ≤ at2 := by
                by_cases hz : 1 ≤ at2
                · exact hz
                · have z1 := q6 0 (by omega) (by omega)
                  have z2 := ua 0 (at1 - 1) (by omega) ha1
                  omega
              have m3 : Mh rk a.toList b.toList (out1.push b[kb - 1] ++ (b.extract at2 (kb - 1)).reverse).toList.reverse at1 at2 := by
                rw [Array.toList_append, List.reverse_append, Array.toList_reverse, List.reverse_reverse, ext_some]
                refine m2.takeB pb at2 hkn2 fun x hx y hy => ?_
                obtain ⟨j, hj1, hj2, e1⟩ := mem_t (rk := rk) hx
                obtain ⟨i, hi1, hi2, e2⟩ := mem_dt (rk := rk) hy
                rw [e1, e2]
                exact Nat.le_trans (ua j (at1 - 1) (by omega) ha1) (q6 (at2 + i) (by omega) (by omega))
              have q7 : 0 < at2 → K rk b (at2 - 1) ≤ K rk a (at1 - 1) := fun hz => Nat.le_of_lt (q5 (at2 - 1) (by omega))
              have q8 : ¬ kb - 1 - at2 > 0 → out1.push b[kb - 1] ++ (b.extract at2 (kb - 1)).reverse = out1.push b[kb - 1] ∧ at2 = kb - 1 := fun e => by
                have : at2 = kb - 1 := by omega
                subst this
                refine ⟨?_, rfl⟩
                rw [Array.extract_empty_of_stop_le_start (Nat.le_refl _)]; simp
              by_cases hk2 : kb - 1 - at2 > 0
              · rw [if_pos hk2]
                by_cases he3 : at2 = 1
                · rw [if_pos (by simpa using he3)]
                  obtain ⟨p, r⟩ := lastB _ at1 at2 m3 he3
                  exact wpS_pure (.inr ⟨_, _, _, rfl, rfl, p, r⟩)
                rw [if_neg (by simpa using he3), if_neg (by simp; omega)]
                refine wpS_bind (wpS_elem ha1 ?_)
                have m4 := pushA _ at1 _ ha1 h10 m3 (by omega) q7
                by_cases he4 : at1 - 1 = 0
                · rw [if_pos (by simpa using he4)]
                  obtain ⟨p, r⟩ := done _ (at1 - 1) _ m4 he4
                  exact wpS_pure (.inr ⟨_, _, _, rfl, rfl, p, r⟩)
                rw [if_neg (by simpa using he4)]
                split
                · exact wpS_pure (.inl ⟨_, _, _, _, _, _, _, rfl, rfl, m4, by omega, by omega, by omega, by omega, by omega⟩)
                · exact wpS_pure ⟨_, _, _, _, _, _, _, rfl, rfl, m4, by omega, by omega, by omega, by omega, by omega⟩
              · rw [if_neg hk2]
                obtain ⟨z3, z4⟩ := q8 hk2
                rw [z3] at m3
                rw [z4] at m3 q7
                refine wpS_bind (wpS_elem ha1 ?_)
                have m4 := pushA _ at1 _ ha1 h10 m3 (by omega) fun _ => q7 (by omega)
                by_cases he4 : at1 - 1 = 0
                · rw [if_pos (by simpa using he4)]
                  obtain ⟨p, r⟩ := done _ (at1 - 1) _ m4 he4
                  exact wpS_pure (.inr ⟨_, _, _, rfl, rfl, p, r⟩)
                rw [if_neg (by simpa using he4)]
                split
                · exact wpS_pure (.inl ⟨_, _, _, _, _, _, _, rfl, rfl, m4, by omega, by omega, by omega, by omega, by omega⟩)
                · exact wpS_pure ⟨_, _, _, _, _, _, _, rfl, rfl, m4, by omega, by omega, by omega, by omega, by omega⟩
            · rw [if_neg hk0]
              obtain ⟨z1, z2⟩ := q4 hk0
              rw [z1] at m1
              subst z2
              have h10 : 0 < at1 := h7
              have h11 : at1 ≤ at1 := Nat.le_refl _
              clear q4 m z1
              generalize out = out1 at m1 ⊢
              refine wpS_bind (wpS_elem kb1 ?_)
              have m2 := pushB out1 at1 kb kb1 (by omega) m1 (by omega) q3
              by_cases he2 : kb - 1 = 1
              · rw [if_pos (by simpa using he2)]
                obtain ⟨p, r⟩ := lastB _ at1 (kb - 1) m2 he2
                exact wpS_pure (.inr ⟨_, _, _, rfl, rfl, p, r⟩)
              rw [if_neg (by simpa using he2)]
              have ha1 : at1 - 1 < a.size := by omega
              refine wpS_bind (wpS_elem ha1 (wpS_bind (galL L hk hSb (hSa _ (Array.getElem_mem ha1)) (by omega) (by omega) (fun i j h1 h2 h3 => ub i j h2 (by omega)) fun at2 hkn2 q5 q6 => ?_)))
              dsimp only
              rw [← K_get (rk := rk) ha1] at q5 q6
              simp only [Nat.zero_add] at q5 q6
              have hat2 : 1 ≤ at2 := by
                by_cases hz : 1 ≤ at2
                · exact hz
                · have z1 := q6 0 (by omega) (by omega)
                  have z2 := ua 0 (at1 - 1) (by omega) ha1
                  omega
              have m3 : Mh rk a.toList b.toList (out1.push b[kb - 1] ++ (b.extract at2 (kb - 1)).reverse).toList.reverse at1 at2 := by
                rw [Array.toList_append, List.reverse_append, Array.toList_reverse, List.reverse_reverse, ext_some]
                refine m2.takeB pb at2 hkn2 fun x hx y hy => ?_
                obtain ⟨j, hj1, hj2, e1⟩ := mem_t (rk := rk) hx
                obtain ⟨i, hi1, hi2, e2⟩ := mem_dt (rk := rk) hy
                rw [e1, e2]
                exact Nat.le_trans (ua j (at1 - 1) (by omega) ha1) (q6 (at2 + i) (by omega) (by omega))
              have q7 : 0 < at2 → K rk b (at2 - 1) ≤ K rk a (at1 - 1) := fun hz => Nat.le_of_lt (q5 (at2 - 1) (by omega))
              have q8 : ¬ kb - 1 - at2 > 0 → out1.push b[kb - 1] ++ (b.extract at2 (kb - 1)).reverse = out1.push b[kb - 1] ∧ at2 = kb - 1 := fun e => by
                have : at2 = kb - 1 := by omega
                subst this
                refine ⟨?_, rfl⟩
                rw [Array.extract_empty_of_stop_le_start (Nat.le_refl _)]; simp
              by_cases hk2 : kb - 1 - at2 > 0
              · rw [if_pos hk2]
                by_cases he3 : at2 = 1
                · rw [if_pos (by simpa using he3)]
                  obtain ⟨p, r⟩ := lastB _ at1 at2 m3 he3
                  exact wpS_pure (.inr ⟨_, _, _, rfl, rfl, p, r⟩)
                rw [if_neg (by simpa using he3), if_neg (by simp; omega)]
                refine wpS_bind (wpS_elem ha1 ?_)
                have m4 := pushA _ at1 _ ha1 h10 m3 (by omega) q7
                by_cases he4 : at1 - 1 = 0
                · rw [if_pos (by simpa using he4)]
                  obtain ⟨p, r⟩ := done _ (at1 - 1) _ m4 he4
                  exact wpS_pure (.inr ⟨_, _, _, rfl, rfl, p, r⟩)
                rw [if_neg (by simpa using he4)]
                split
                · exact wpS_pure (.inl ⟨_, _, _, _, _, _, _, rfl, rfl, m4, by omega, by omega, by omega, by omega, by omega⟩)
                · exact wpS_pure ⟨_, _, _, _, _, _, _, rfl, rfl, m4, by omega, by omega, by omega, by omega, by omega⟩
              · rw [if_neg hk2]
                obtain ⟨z3, z4⟩ := q8 hk2
                rw [z3] at m3
                rw [z4] at m3 q7
                refine wpS_bind (wpS_elem ha1 ?_)
                have m4 := pushA _ at1 _ ha1 h10 m3 (by omega) fun _ => q7 (by omega)
                by_cases he4 : at1 - 1 = 0
                · rw [if_pos (by simpa using he4)]
                  obtain ⟨p, r⟩ := done _ (at1 - 1) _ m4 he4
                  exact wpS_pure (.inr ⟨_, _, _, rfl, rfl, p, r⟩)
                rw [if_neg (by simpa using he4)]
                split
                · exact wpS_pure (.inl ⟨_, _, _, _, _, _, _, rfl, rfl, m4, by omega, by omega, by omega, by omega, by omega⟩)
                · exact wpS_pure ⟨_, _, _, _, _, _, _, rfl, rfl, m4, by omega, by omega, by omega, by omega, by omega⟩
      · exact wpS_pure ⟨r, g', _, rfl, rfl, p, q⟩
end
end SortB


end
section
set_option linter.all false
set_option Elab.async false
set_option maxRecDepth 100000
namespace SortB
open PySem PySem.W PyProof.Rows
/-- rising between lo and hi -/
def Up (rk : Keyed → Nat) (a : Array Keyed) (lo hi : Nat) : Prop := ∀ i j, lo ≤ i → i ≤ j → j < hi → K rk a i ≤ K rk a j
/-- changed between lo and hi alone, the same things in all -/
structure Ch (rk : Keyed → Nat) (lo hi : Nat) (a b : Array Keyed) : Prop where
  perm : b.Perm a
  out : ∀ j, j < lo ∨ hi ≤ j → K rk b j = K rk a j
section
variable {rk : Keyed → Nat} {a b c : Array Keyed} {lo hi lo' hi' i j k n : Nat}
theorem Ch.refl : Ch rk lo hi a a := ⟨Array.Perm.refl _, fun _ _ => rfl⟩
theorem Ch.size (h : Ch rk lo hi a b) : b.size = a.size := h.perm.size_eq
theorem Ch.trans (h : Ch rk lo hi a b) (h' : Ch rk lo hi b c) : Ch rk lo hi a c := ⟨h'.perm.trans h.perm, fun j hj => (h'.out j hj).trans (h.out j hj)⟩
theorem Ch.mono (h : Ch rk lo hi a b) (h1 : lo' ≤ lo) (h2 : hi ≤ hi') : Ch rk lo' hi' a b := ⟨h.perm, fun j hj => h.out j (by omega)⟩
theorem Ch.all {S : Keyed → Prop} (h : Ch rk lo hi a b) (hS : ∀ x ∈ a, S x) : ∀ x ∈ b, S x := fun x hx => hS x (h.perm.mem_iff.mp hx)
theorem K_rev (hj : j ≤ a.size) (k : Nat) : K rk (mirror a i j ((j - i) / 2)) k = if i ≤ k ∧ k < j then K rk a (i + j - 1 - k) else K rk a k := by
  have e := getElem?_mirror_all (i := i) hj k
  split at e
  · rename_i h; rw [if_pos h]; exact K_of e
  · rename_i h; rw [if_neg h]; exact K_of e
theorem K_bub {src d : Nat} (hs : src < a.size) (hd : d ≤ src) (k : Nat) : K rk (bubble a src d) k = if k = src - d then K rk a src else if src - d < k ∧ k ≤ src then K rk a (k - 1) else K rk a k := by
  have e := getElem?_bubble hs d hd k
  by_cases h1 : k = src - d
  · rw [if_pos h1] at e ⊢; exact K_of e
  · rw [if_neg h1] at e ⊢
    by_cases h2 : src - d < k ∧ k ≤ src
    · rw [if_pos h2] at e ⊢; exact K_of e
    · rw [if_neg h2] at e ⊢; exact K_of e
theorem Ch.rev (hj : j ≤ a.size) (h1 : lo ≤ i) (h2 : j ≤ hi) : Ch rk lo hi a (mirror a i j ((j - i) / 2)) :=
  ⟨mirror_perm _ _ _ _, fun k hk => by rw [K_rev hj, if_neg (by omega)]⟩
theorem Ch.bub {src d : Nat} (hs : src < a.size) (hd : d ≤ src) (h1 : lo ≤ src - d) (h2 : src < hi) : Ch rk lo hi a (bubble a src d) :=
  ⟨bubble_perm _ _ _, fun k hk => by rw [K_bub hs hd, if_neg (by omega), if_neg (by omega)]⟩
theorem Up.ext (u : Up rk a lo hi) (h : ∀ i, lo ≤ i → i < hi → K rk b i = K rk a i) : Up rk b lo hi := fun i j h1 h2 h3 => by
  rw [h i h1 (by omega), h j (by omega) h3]; exact u i j h1 h2 h3
theorem Up.rs (u : Up rk a lo hi) (hh : hi ≤ a.size) : Rs rk (a.extract lo hi).toList := by
  refine List.pairwise_iff_getElem.mpr ?_
  intro i j hi' hj' hij
  simp only [Array.length_toList, Array.size_extract] at hi' hj'
  have := u (lo + i) (lo + j) (by omega) (by omega) (by omega)
  rw [K_get (by omega), K_get (by omega)] at this
  simpa using this
theorem K_ext (h : lo + i < hi) (hh : hi ≤ a.size) : K rk (a.extract lo hi) i = K rk a (lo + i) := by
  have e : i < (a.extract lo hi).size := by rw [Array.size_extract]; omega
  rw [K_get e, K_get (by omega)]
  simp
theorem mem_ext {x : Keyed} (h : x ∈ a.extract lo hi) : x ∈ a := by
  have := Array.mem_toList_iff.mpr h
  rw [ext_some] at this
  exact Array.mem_toList_iff.mp (List.mem_of_mem_drop (List.mem_of_mem_take this))
/-- things are written from n on -/
theorem put_get (m : List Keyed) : ∀ (a : Array Keyed) (sa n : Nat), sa + n + m.length ≤ a.size → ∀ i : Nat, ((m.zipIdx n).foldl (fun a (x : Keyed × Nat) => a.setIfInBounds (sa + x.2) x.1) a)[i]? = if sa + n ≤ i ∧ i < sa + n + m.length then m[i - (sa + n)]? else a[i]? := by
  induction m with
  | nil => intro a sa n _ i; rw [if_neg (by simp)]; simp
  | cons x m ih =>
    intro a sa n hs i
    rw [List.length_cons] at hs ⊢
    rw [List.zipIdx_cons, List.foldl_cons, ih (a.setIfInBounds (sa + n) x) sa (n + 1) (by simp; omega)]
    by_cases h1 : i = sa + n
    · subst h1
      rw [if_neg (by omega), if_pos (by omega)]
      simp [show sa + n < a.size by omega]
    · by_cases h2 : sa + n ≤ i ∧ i < sa + n + (m.length + 1)
      · rw [if_pos h2, if_pos (by omega), show i - (sa + n) = (i - (sa + (n + 1))) + 1 by omega, List.getElem?_cons_succ]
      · rw [if_neg h2, if_neg (by omega), Array.getElem?_setIfInBounds_ne (by omega)]
theorem put_list (m : List Keyed) (a : Array Keyed) (sa : Nat) (h : sa + m.length ≤ a.size) : (m.zipIdx.foldl (fun a (x : Keyed × Nat) => a.setIfInBounds (sa + x.2) x.1) a).toList = a.toList.take sa ++ m ++ a.toList.drop (sa + m.length) := by
  apply List.ext_getElem?
  intro i
  have e := put_get m a sa 0 (by omega) i
  rw [Array.getElem?_toList, e]
  simp only [Nat.add_zero]
  rw [List.append_assoc]
  by_cases h1 : i < sa
  · rw [if_neg (by omega), List.getElem?_append_left (by simp; omega), List.getElem?_take_of_lt h1]; simp
  · rw [List.getElem?_append_right (by simp; omega)]
    have e2 : (a.toList.take sa).length = sa := by simp; omega
    rw [e2]
    by_cases h2 : i < sa + m.length
    · rw [if_pos (by omega), List.getElem?_append_left (by omega)]
    · rw [if_neg (by omega), List.getElem?_append_right (by omega), List.getElem?_drop, Array.getElem?_toList]
      congr 1; omega
end
section
variable {prog : Program} {w : World} {A : Around} {E : Value → Shared → Prop} {s : Shared} {κ : SortKind} {rk : Keyed → Nat} {S : Keyed → Prop}
theorem wpS_set {M : Model} {σ : Type} {v st : σ} {Q : PUnit → σ → Prop} (h : Q ⟨⟩ v) : wpS M A E s (set v : StateT σ Sem PUnit) Q st := by
  unfold wpS; rw [StateT.run_set]; exact wpAny_pure ⟨rfl, h⟩
theorem mergeAt_ok (L : LtOk prog w A E s κ rk S) {st : SortSt} {i sa na p nb q : Nat} {Q : Bool → SortSt → Prop} (hk : kindOf st = κ) (hf : failedOf st = none) (hS : ∀ x ∈ arrOf st, S x) (hp1 : (pendingOf st)[i]? = some (sa, na, p)) (hp2 : (pendingOf st)[i + 1]? = some (sa + na, nb, q))
    (na0 : 0 < na) (nb0 : 0 < nb) (hsz : sa + na + nb ≤ (arrOf st).size) (uA : Up rk (arrOf st) sa (sa + na)) (uB : Up rk (arrOf st) (sa + na) (sa + na + nb))
    (h : ∀ a' g, Ch rk sa (sa + na + nb) (arrOf st) a' → Up rk a' sa (sa + na + nb) → Q true (SortSt.mk' κ a' (((pendingOf st).setIfInBounds i (sa, na + nb, p)).eraseIdxIfInBounds (i + 1)) g none)) : wpS (model prog w) A E s (mergeAt' i) Q st := by
  rcases st with ⟨kd, a, pd0, g0, f0⟩
  change kd = κ at hk
  change f0 = none at hf
  change ∀ x ∈ a, S x at hS
  change pd0[i]? = some (sa, na, p) at hp1
  change pd0[i + 1]? = some (sa + na, nb, q) at hp2
  change sa + na + nb ≤ a.size at hsz
  change Up rk a sa (sa + na) at uA
  change Up rk a (sa + na) (sa + na + nb) at uB
  change ∀ a' g, Ch rk sa (sa + na + nb) a a' → Up rk a' sa (sa + na + nb) → Q true (SortSt.mk' κ a' ((pd0.setIfInBounds i (sa, na + nb, p)).eraseIdxIfInBounds (i + 1)) g none) at h
  subst hk hf
  refine wpS_bind (wpS_get ?_)
  have e1 : (pd0[i]?, pd0[i + 1]?) = (some (sa, na, p), some (sa + na, nb, q)) := by rw [hp1, hp2]
  dsimp only
  rw [e1]
  dsimp only
  generalize (pd0.setIfInBounds i (sa, na + nb, p)).eraseIdxIfInBounds (i + 1) = pd at h ⊢
  have sb1 : sa + na < a.size := by omega
  have kk : ∀ (x : Array Keyed) (pd : Array (Nat × Nat × Nat)) (g : Nat) (f : Option Value), kindOf (SortSt.mk' kd x pd g f) = kd := fun _ _ _ _ => rfl
  refine wpS_bind (wpS_set (wpS_bind (wpS_elem sb1 (wpS_bind (galR L (kk _ _ _ _) hS (hS _ (Array.getElem_mem sb1)) (by omega) na0 (fun i j h1 h2 h3 => uA i j h1 h2 h3) fun k hkn q1 q2 => ?_)))))
  rw [← K_get (rk := rk) sb1] at q1 q2
  dsimp only
  by_cases hn : na - k = 0
  · rw [if_pos (by simpa using hn)]
    refine wpS_pure (h a _ Ch.refl fun i j h1 h2 h3 => ?_)
    by_cases hj : j < sa + na
    · exact uA i j h1 h2 hj
    · by_cases hi : i < sa + na
      · have z := q1 (i - sa) (by omega)
        rw [show sa + (i - sa) = i by omega] at z
        exact Nat.le_trans z (uB (sa + na) j (Nat.le_refl _) (by omega) h3)
      · exact uB i j (by omega) h2 h3
  rw [if_neg (by simpa using hn)]
  have la1 : sa + k + (na - k) - 1 < a.size := by omega
  refine wpS_bind (wpS_elem la1 (wpS_bind (galL L (kk _ _ _ _) hS (hS _ (Array.getElem_mem la1)) (by omega) (by omega) (fun i j h1 h2 h3 => uB i j h1 h2 h3) fun nb' hkn' q3 q4 => ?_)))
  rw [← K_get (rk := rk) la1, show sa + k + (na - k) - 1 = sa + na - 1 by omega] at q3 q4
  dsimp only
  by_cases hn' : nb' = 0
  · rw [if_pos (by simpa using hn')]
    refine wpS_pure (h a _ Ch.refl fun i j h1 h2 h3 => ?_)
    by_cases hj : j < sa + na
    · exact uA i j h1 h2 hj
    · by_cases hi : i < sa + na
      · have z := q4 (j - (sa + na)) (by omega) (by omega)
        rw [show sa + na + (j - (sa + na)) = j by omega] at z
        exact Nat.le_trans (uA i (sa + na - 1) h1 (by omega) (by omega)) z
      · exact uB i j (by omega) h2 h3
  rw [if_neg (by simpa using hn')]
  have xs : (a.extract (sa + k) (sa + na)).size = na - k := by rw [Array.size_extract]; omega
  have ys : (a.extract (sa + na) (sa + na + nb')).size = nb' := by rw [Array.size_extract]; omega
  have px : Rs rk (a.extract (sa + k) (sa + na)).toList := Up.rs (fun i j h1 h2 h3 => uA i j (by omega) h2 h3) (by omega)
  have py : Rs rk (a.extract (sa + na) (sa + na + nb')).toList := Up.rs (fun i j h1 h2 h3 => uB i j h1 h2 (by omega)) (by omega)
  have sx : ∀ x ∈ a.extract (sa + k) (sa + na), S x := fun x hx => hS x (mem_ext hx)
  have sy : ∀ x ∈ a.extract (sa + na) (sa + na + nb'), S x := fun x hx => hS x (mem_ext hx)
  have h0 : K rk (a.extract (sa + na) (sa + na + nb')) 0 < K rk (a.extract (sa + k) (sa + na)) 0 := by
    rw [K_ext (by omega) (by omega), K_ext (by omega) (by omega)]
    exact q2 k (Nat.le_refl _) (by omega)
  have hl : ∀ i, i < (a.extract (sa + na) (sa + na + nb')).size → K rk (a.extract (sa + na) (sa + na + nb')) i < K rk (a.extract (sa + k) (sa + na)) ((a.extract (sa + k) (sa + na)).size - 1) := fun i hi => by
    rw [ys] at hi
    rw [xs, K_ext (by omega) (by omega), K_ext (by omega) (by omega), show sa + k + (na - k - 1) = sa + na - 1 by omega]
    exact q3 i hi
  -- behind the merging
  have fin : ∀ (m : Array Keyed) (g : Nat), m.toList.Perm ((a.extract (sa + k) (sa + na)).toList ++ (a.extract (sa + na) (sa + na + nb')).toList) → Rs rk m.toList →
      Q true (SortSt.mk' kd (m.toList.zipIdx.foldl (fun a (x : Keyed × Nat) => a.setIfInBounds (sa + k + x.2) x.1) a) pd g none) := fun m g pm rm => by
    have ml : m.toList.length = na - k + nb' := by rw [pm.length_eq, List.length_append, Array.length_toList, Array.length_toList, xs, ys]
    have gl := put_list m.toList a (sa + k) (by omega)
    have gg := put_get m.toList a (sa + k) 0 (by omega)
    simp only [Nat.add_zero] at gg
    generalize hb : m.toList.zipIdx.foldl (fun a (x : Keyed × Nat) => a.setIfInBounds (sa + k + x.2) x.1) a = b at gl gg ⊢
    have out : ∀ j, j < sa + k ∨ sa + na + nb' ≤ j → K rk b j = K rk a j := fun j hj => K_of (by rw [gg j, if_neg (by omega)])
    have ins : ∀ j, sa + k ≤ j → j < sa + na + nb' → K rk b j = K rk m (j - (sa + k)) := fun j h1 h2 => K_of (by rw [gg j, if_pos (by omega), Array.getElem?_toList])
    have bnd : ∀ j, sa + k ≤ j → j < sa + na + nb' → K rk a (sa + na) ≤ K rk b j ∧ K rk b j ≤ K rk a (sa + na - 1) := fun j h1 h2 => by
      have hm : j - (sa + k) < m.size := by rw [← Array.length_toList, ml]; omega
      rw [ins j h1 h2, K_get hm]
      have hin := pm.mem_iff.mp (Array.mem_toList_iff.mpr (Array.getElem_mem hm))
      rcases List.mem_append.mp hin with hx | hx
      · obtain ⟨t, ht, e⟩ := List.getElem_of_mem hx
        rw [Array.length_toList, xs] at ht
        have e' : rk m[j - (sa + k)] = K rk a (sa + k + t) := by
          rw [← e, K_get (by omega)]; simp
        rw [e']
        exact ⟨Nat.le_of_lt (by have := q2 (k + t) (by omega) (by omega); rwa [← Nat.add_assoc] at this), uA _ _ (by omega) (by omega) (by omega)⟩
      · obtain ⟨t, ht, e⟩ := List.getElem_of_mem hx
        rw [Array.length_toList, ys] at ht
        have e' : rk m[j - (sa + k)] = K rk a (sa + na + t) := by
          rw [← e, K_get (by omega)]; simp
        rw [e']
        exact ⟨uB _ _ (by omega) (by omega) (by omega), Nat.le_of_lt (q3 t ht)⟩
    refine h b g ⟨Array.perm_iff_toList_perm.mpr ?_, fun j hj => out j (by omega)⟩ fun i j h1 h2 h3 => ?_
    · rw [gl, ml]
      have ea : a.toList = a.toList.take (sa + k) ++ ((a.extract (sa + k) (sa + na)).toList ++ (a.extract (sa + na) (sa + na + nb')).toList) ++ a.toList.drop (sa + k + (na - k + nb')) := by
        rw [ext_some, ext_some, List.append_assoc, List.append_assoc]
        rw [show sa + na + nb' - (sa + na) = nb' by omega, show sa + k + (na - k + nb') = sa + na + nb' by omega, ← drop_split a.toList (sa + na) nb', ← drop_mid (show sa + k ≤ sa + na by omega), List.take_append_drop]
      exact ((pm.append_left _).append_right _).trans (List.Perm.of_eq ea.symm)
    · by_cases ci : i < sa + k
      · rw [out i (by omega)]
        have z := q1 (i - sa) (by omega)
        rw [show sa + (i - sa) = i by omega] at z
        by_cases cj : j < sa + k
        · rw [out j (by omega)]; exact uA i j h1 h2 (by omega)
        · by_cases cj2 : j < sa + na + nb'
          · exact Nat.le_trans z (bnd j (by omega) cj2).1
          · rw [out j (by omega)]
            exact Nat.le_trans z (uB _ _ (by omega) (by omega) h3)
      · by_cases ci2 : i < sa + na + nb'
        · by_cases cj2 : j < sa + na + nb'
          · rw [ins i (by omega) ci2, ins j (by omega) cj2]
            exact rm.le (by omega) (by rw [← Array.length_toList, ml]; omega)
          · rw [out j (by omega)]
            have z := q4 (j - (sa + na)) (by omega) (by omega)
            rw [show sa + na + (j - (sa + na)) = j by omega] at z
            exact Nat.le_trans (bnd i (by omega) ci2).2 z
        · rw [out i (by omega), out j (by omega)]
          exact uB i j (by omega) h2 h3
  split
  · refine wpS_bind (mergeLo_ok L (kk _ _ _ _) sx sy (by omega) (by omega) px py (Nat.le_of_lt h0) hl fun m g pm rm => ?_)
    exact wpS_bind (wpS_modify (wpS_bind (wpS_get (wpS_pure (fin m g pm rm)))))
  · refine wpS_bind (mergeHi_ok L (kk _ _ _ _) sx sy (by omega) (by omega) px py h0 hl fun m g pm rm => ?_)
    exact wpS_bind (wpS_modify (wpS_bind (wpS_get (wpS_pure (fin m g pm rm)))))
end
end SortB


end
section
set_option linter.all false
set_option Elab.async false
set_option maxRecDepth 100000
namespace SortB
open PySem PySem.W PyProof.Rows
section
variable {prog : Program} {w : World} {A : Around} {E : Value → Shared → Prop} {s : Shared} {κ : SortKind} {rk : Keyed → Nat} {S : Keyed → Prop}
abbrev mk (κ : SortKind) (a : Array Keyed) (pd : Array (Nat × Nat × Nat)) (g : Nat) : SortSt := SortSt.mk' κ a pd g none
theorem ltat (L : LtOk prog w A E s κ rk S) {a : Array Keyed} {pd : Array (Nat × Nat × Nat)} {g i j : Nat} {Q : Option Bool → SortSt → Prop} (hS : ∀ x ∈ a, S x) (hi : i < a.size) (hj : j < a.size)
    (h : Q (some (decide (K rk a i < K rk a j))) (mk κ a pd g)) : wpS (model prog w) A E s (ltAt' i j) Q (mk κ a pd g) := wpS_at L rfl hS hi hj h
theorem rev_ok {a : Array Keyed} {pd : Array (Nat × Nat × Nat)} {g i j : Nat} {Q : Unit → SortSt → Prop} (h : Q () (mk κ (mirror a i j ((j - i) / 2)) pd g)) : wpS (model prog w) A E s (reverseSlice' i j) Q (mk κ a pd g) := wpS_modify h
/-- falling between lo and hi -/
def Dn (rk : Keyed → Nat) (a : Array Keyed) (lo hi : Nat) : Prop := ∀ i j, lo ≤ i → i ≤ j → j < hi → K rk a j ≤ K rk a i
theorem Up.step {a : Array Keyed} {lo n : Nat} (u : Up rk a lo (lo + n)) (hn : 1 ≤ n) (h : ¬ K rk a (lo + n) < K rk a (lo + n - 1)) : Up rk a lo (lo + (n + 1)) := fun i j h1 h2 h3 => by
  by_cases hj : j < lo + n
  · exact u i j h1 h2 hj
  · have : j = lo + n := by omega
    subst this
    by_cases hi : i = lo + n
    · rw [hi]; exact Nat.le_refl _
    · have := u i (lo + n - 1) h1 (by omega) (by omega); omega
theorem Dn.step {a : Array Keyed} {lo n : Nat} (u : Dn rk a lo (lo + n)) (hn : 1 ≤ n) (h : K rk a (lo + n) ≤ K rk a (lo + n - 1)) : Dn rk a lo (lo + (n + 1)) := fun i j h1 h2 h3 => by
  by_cases hj : j < lo + n
  · exact u i j h1 h2 hj
  · have : j = lo + n := by omega
    subst this
    by_cases hi : i = lo + n
    · rw [hi]; exact Nat.le_refl _
    · have := u i (lo + n - 1) h1 (by omega) (by omega); omega
/-- a stretch of equals turned round -/
theorem rev_same {a : Array Keyed} {i j : Nat} (hj : j ≤ a.size) (e : ∀ k, i ≤ k → k < j → K rk a k = K rk a (j - 1)) (k : Nat) : K rk (mirror a i j ((j - i) / 2)) k = K rk a k := by
  rw [K_rev hj]
  by_cases h : i ≤ k ∧ k < j
  · rw [if_pos h, e _ (by omega) (by omega), e k h.1 h.2]
  · rw [if_neg h]
theorem countRun_ok (L : LtOk prog w A E s κ rk S) {a : Array Keyed} {pd : Array (Nat × Nat × Nat)} {g lo nrem : Nat} {Q : Option Nat → SortSt → Prop} (hS : ∀ x ∈ a, S x) (h1 : 1 ≤ nrem) (hsz : lo + nrem ≤ a.size)
    (h : ∀ m b, 1 ≤ m → m ≤ nrem → Ch rk lo (lo + nrem) a b → Up rk b lo (lo + m) → Q (some m) (mk κ b pd g)) : wpS (model prog w) A E s (countRun' lo nrem) Q (mk κ a pd g) := by
  have ll : lo + 1 - 1 = lo := by omega
  refine wpS_bind (wpS_mono (wpS_forRange (I := fun x c st' => st' = mk κ a pd g ∧ c = (none, x) ∧ Up rk a lo (lo + x))
    (Q := fun c st' => st' = mk κ a pd g ∧ ∃ n, c = (none, n) ∧ 1 ≤ n ∧ n ≤ nrem ∧ Up rk a lo (lo + n) ∧ (n = nrem ∨ K rk a (lo + n) < K rk a (lo + n - 1))) ?step ?fin ⟨rfl, rfl, fun i j h1 h2 h3 => by rw [show i = j by omega]; exact Nat.le_refl _⟩) ?post)
  case step =>
    rintro x c st' hx1 hx2 ⟨rfl, rfl, u⟩
    dsimp only
    refine wpS_bind (ltat L hS (by omega) (by omega) ?_)
    by_cases hw : K rk a (lo + x) < K rk a (lo + x - 1)
    · simp only [hw, decide_true, if_true]
      exact wpS_pure ⟨rfl, x, rfl, hx1, by omega, u, .inr hw⟩
    · simp only [hw, decide_false, Bool.false_eq_true, if_false]
      exact wpS_pure ⟨rfl, rfl, u.step hx1 hw⟩
  case fin =>
    rintro c st' ⟨rfl, rfl, u⟩
    have e : max 1 nrem = nrem := by omega
    exact ⟨rfl, _, rfl, by omega, by omega, u, .inl e⟩
  case post =>
    rintro c st' ⟨rfl, n, rfl, hn1, hn2, u, hor⟩
    dsimp only
    by_cases hnn : n = nrem
    · rw [if_pos (by simpa using hnn)]
      exact wpS_pure (h n a hn1 hn2 Ch.refl u)
    rw [if_neg (by simpa using hnn)]
    have hlt := hor.resolve_left hnn
    suffices D : ∀ b : Array Keyed, Ch rk lo (lo + nrem) a b → Dn rk b lo (lo + (n + 1)) → wpS (model prog w) A E s _ Q (mk κ b pd g) by
      by_cases hg : n > 1
      · rw [if_pos hg]
        refine wpS_bind (ltat L hS (by omega) (by omega) ?_)
        by_cases hr : K rk a lo < K rk a (lo + n - 1)
        · simp only [hr, decide_true, if_true]
          exact wpS_pure (h n a hn1 hn2 Ch.refl u)
        · simp only [hr, decide_false, Bool.false_eq_true, if_false]
          have eq : ∀ k, lo ≤ k → k < lo + n → K rk a k = K rk a (lo + n - 1) := fun k h1 h2 => by
            have a1 := u lo k (Nat.le_refl _) h1 h2
            have a2 := u k (lo + n - 1) h1 (by omega) (by omega)
            omega
          have rs := rev_same (rk := rk) (a := a) (i := lo) (j := lo + n) (by omega) eq
          refine wpS_bind (rev_ok (D _ (Ch.rev (by omega) (Nat.le_refl _) (by omega)) ?_))
          refine Dn.step (fun i j h1 h2 h3 => ?_) hn1 ?_
          · rw [rs, rs, eq i h1 (by omega), eq j (by omega) h3]; exact Nat.le_refl _
          · rw [rs, rs]; exact Nat.le_of_lt hlt
      · rw [if_neg hg]
        have : n = 1 := by omega
        subst this
        exact D a Ch.refl (Dn.step (fun i j h1 h2 h3 => by rw [show i = j by omega]; exact Nat.le_refl _) (Nat.le_refl _) (Nat.le_of_lt hlt))
    intro b cb db
    refine wpS_bind (wpS_lift (wpAny_rule ⟨rfl, ?_⟩))
    refine wpS_bind (wpS_mono (wpS_forRange (I := fun x c st' => ∃ b' q, c = (none, x, q) ∧ st' = mk κ b' pd g ∧ Ch rk lo (lo + nrem) a b' ∧ Dn rk b' lo (lo + x) ∧ q + 1 ≤ x ∧ ∀ i, lo + x - (q + 1) ≤ i → i < lo + x → K rk b' i = K rk b' (lo + x - 1))
      (Q := fun c st' => ∃ b' n' q, c = (none, n', q) ∧ st' = mk κ b' pd g ∧ n' ≤ nrem ∧ Ch rk lo (lo + nrem) a b' ∧ Dn rk b' lo (lo + n') ∧ q + 1 ≤ n' ∧ ∀ i, lo + n' - (q + 1) ≤ i → i < lo + n' → K rk b' i = K rk b' (lo + n' - 1)) ?dstep ?dfin ⟨b, 0, rfl, rfl, cb, db, by omega, fun i h1 h2 => by congr 1; omega⟩) ?dpost)
    case dfin =>
      rintro c st' ⟨b', q, rfl, rfl, cb, db, hq, he⟩
      exact ⟨b', _, q, rfl, rfl, by omega, cb, db, hq, he⟩
    case dstep =>
      rintro x c st' hx1 hx2 ⟨b', q, rfl, rfl, cb, db, hq, he⟩
      dsimp only
      have bs := cb.size
      have hS' := cb.all hS
      refine wpS_bind (ltat L hS' (by omega) (by omega) ?_)
      by_cases hw : K rk b' (lo + x) < K rk b' (lo + x - 1)
      · simp only [hw, decide_true, if_true]
        have one : ∀ (y : Array Keyed) i, lo + (x + 1) - (0 + 1) ≤ i → i < lo + (x + 1) → K rk y i = K rk y (lo + (x + 1) - 1) := fun y i h1 h2 => by congr 1; omega
        by_cases hq0 : q > 0
        · rw [if_pos hq0]
          have rs := rev_same (rk := rk) (a := b') (i := lo + x - (q + 1)) (j := lo + x) (by omega) he
          refine wpS_bind (rev_ok (wpS_pure ⟨_, 0, rfl, rfl, cb.trans (Ch.rev (by omega) (by omega) (by omega)), ?_, by omega, one _⟩))
          refine Dn.step (fun i j h1 h2 h3 => ?_) (by omega) ?_
          · rw [rs, rs]; exact db i j h1 h2 h3
          · rw [rs, rs]; exact Nat.le_of_lt hw
        · rw [if_neg hq0]
          exact wpS_pure ⟨b', 0, rfl, rfl, cb, db.step (by omega) (Nat.le_of_lt hw), by omega, one _⟩
      · simp only [hw, decide_false, Bool.false_eq_true, if_false]
        refine wpS_bind (ltat L hS' (by omega) (by omega) ?_)
        by_cases hv : K rk b' (lo + x - 1) < K rk b' (lo + x)
        · simp only [hv, decide_true, if_true]
          exact wpS_pure ⟨b', x, q, rfl, rfl, by omega, cb, db, hq, he⟩
        · simp only [hv, decide_false, Bool.false_eq_true, if_false]
          have e2 : K rk b' (lo + x) = K rk b' (lo + x - 1) := by omega
          refine wpS_pure ⟨b', q + 1, rfl, rfl, cb, db.step (by omega) (by omega), by omega, fun i h1 h2 => ?_⟩
          rw [show lo + (x + 1) - 1 = lo + x by omega]
          by_cases hi : i = lo + x
          · rw [hi]
          · rw [e2]; exact he i (by omega) (by omega)
    case dpost =>
      rintro c st' ⟨b', n', q, rfl, rfl, hn', cb, db, hq, he⟩
      dsimp only
      have bs := cb.size
      suffices T : ∀ c : Array Keyed, Ch rk lo (lo + nrem) a c → Dn rk c lo (lo + n') → wpS (model prog w) A E s _ Q (mk κ c pd g) by
        by_cases hq0 : q > 0
        · rw [if_pos hq0]
          have rs := rev_same (rk := rk) (a := b') (i := lo + n' - (q + 1)) (j := lo + n') (by omega) he
          refine wpS_bind (rev_ok (T _ (cb.trans (Ch.rev (by omega) (by omega) (by omega))) fun i j h1 h2 h3 => ?_))
          rw [rs, rs]; exact db i j h1 h2 h3
        · rw [if_neg hq0]
          exact T b' cb db
      intro c cc dc
      have cs := cc.size
      refine wpS_bind (rev_ok ?_)
      have ce : Ch rk lo (lo + nrem) a (mirror c lo (lo + n') ((lo + n' - lo) / 2)) := cc.trans (Ch.rev (by omega) (Nat.le_refl _) (by omega))
      have ue : Up rk (mirror c lo (lo + n') ((lo + n' - lo) / 2)) lo (lo + n') := fun i j h1 h2 h3 => by
        rw [K_rev (by omega), K_rev (by omega), if_pos (by omega), if_pos (by omega)]
        exact dc _ _ (by omega) (by omega) (by omega)
      generalize mirror c lo (lo + n') ((lo + n' - lo) / 2) = e at ce ue ⊢
      have es := ce.size
      refine wpS_bind (wpS_mono (wpS_forRange (I := fun x c st' => st' = mk κ e pd g ∧ c = (none, x) ∧ Up rk e lo (lo + x))
        (Q := fun c st' => st' = mk κ e pd g ∧ ∃ n, c = (none, n) ∧ 1 ≤ n ∧ n ≤ nrem ∧ Up rk e lo (lo + n)) ?estep ?efin ⟨rfl, rfl, ue⟩) ?epost)
      case estep =>
        rintro x c st' hx1 hx2 ⟨rfl, rfl, u⟩
        dsimp only
        refine wpS_bind (ltat L (ce.all hS) (by omega) (by omega) ?_)
        by_cases hw : K rk e (lo + x) < K rk e (lo + x - 1)
        · simp only [hw, decide_true, if_true]
          exact wpS_pure ⟨rfl, x, rfl, by omega, by omega, u⟩
        · simp only [hw, decide_false, Bool.false_eq_true, if_false]
          exact wpS_pure ⟨rfl, rfl, u.step (by omega) hw⟩
      case efin =>
        rintro c st' ⟨rfl, rfl, u⟩
        exact ⟨rfl, _, rfl, by omega, by omega, u⟩
      case epost =>
        rintro c st' ⟨rfl, m, rfl, hm1, hm2, u⟩
        exact wpS_pure (h m e hm1 hm2 ce u)
theorem binarySort_ok (L : LtOk prog w A E s κ rk S) {a : Array Keyed} {pd : Array (Nat × Nat × Nat)} {g lo n ok : Nat} {Q : Bool → SortSt → Prop} (hS : ∀ x ∈ a, S x) (hsz : lo + n ≤ a.size) (hok : 1 ≤ ok) (hn : ok ≤ n) (u : Up rk a lo (lo + ok))
    (h : ∀ b, Ch rk lo (lo + n) a b → Up rk b lo (lo + n) → Q true (mk κ b pd g)) : wpS (model prog w) A E s (binarySort' lo n ok) Q (mk κ a pd g) := by
  refine wpS_bind (wpS_mono (wpS_forRange (I := fun x c st' => c = (none, ()) ∧ ∃ b, st' = mk κ b pd g ∧ Ch rk lo (lo + n) a b ∧ Up rk b lo (lo + x)) (Q := fun c st' => c = (none, ()) ∧ ∃ b, st' = mk κ b pd g ∧ Ch rk lo (lo + n) a b ∧ Up rk b lo (lo + n)) ?step ?fin ⟨rfl, a, rfl, Ch.refl, by rw [show max ok 1 = ok by omega]; exact u⟩) ?post)
  case fin =>
    rintro c st' ⟨rfl, b, rfl, cb, ub⟩
    rw [show max (max ok 1) n = n by omega] at ub
    exact ⟨rfl, b, rfl, cb, ub⟩
  case post =>
    rintro c st' ⟨rfl, b, rfl, cb, ub⟩
    exact wpS_pure (h b cb ub)
  case step =>
    rintro k c st' hk1 hk2 ⟨rfl, b, rfl, cb, ub⟩
    have bs := cb.size
    dsimp only
    refine wpS_bind (wpS_mono (wpS_forRange (I := fun x c st' => st' = mk κ b pd g ∧ ∃ l r, c = (none, l, r) ∧ l ≤ r ∧ r ≤ k ∧ r - l ≤ k - x ∧ (∀ i, lo ≤ i → i < lo + l → K rk b i ≤ K rk b (lo + k)) ∧ ∀ i, lo + r ≤ i → i < lo + k → K rk b (lo + k) < K rk b i)
      (Q := fun c st' => st' = mk κ b pd g ∧ ∃ l r, c = (none, l, r) ∧ l ≤ k ∧ (∀ i, lo ≤ i → i < lo + l → K rk b i ≤ K rk b (lo + k)) ∧ ∀ i, lo + l ≤ i → i < lo + k → K rk b (lo + k) < K rk b i) ?istep ?ifin ⟨rfl, 0, k, rfl, by omega, by omega, by omega, fun i h1 h2 => by omega, fun i h1 h2 => by omega⟩) ?ipost)
    case ifin =>
      rintro c st' ⟨rfl, l, r, rfl, h1, h2, h3, h4, h5⟩
      have : l = r := by omega
      subst this
      exact ⟨rfl, l, l, rfl, h2, h4, h5⟩
    case istep =>
      rintro x c st' _ hx ⟨rfl, l, r, rfl, h1, h2, h3, h4, h5⟩
      dsimp only
      by_cases hge : l ≥ r
      · rw [if_pos hge]
        have : l = r := by omega
        subst this
        exact wpS_pure ⟨rfl, l, l, rfl, h2, h4, h5⟩
      · rw [if_neg hge]
        refine wpS_bind (ltat L (cb.all hS) (by omega) (by omega) ?_)
        by_cases hw : K rk b (lo + k) < K rk b (lo + (l + r) / 2)
        · simp only [hw, decide_true, if_true]
          exact wpS_pure ⟨rfl, l, _, rfl, by omega, by omega, by omega, h4, fun i a1 a2 => Nat.lt_of_lt_of_le hw (ub _ i (by omega) a1 a2)⟩
        · simp only [hw, decide_false, Bool.false_eq_true, if_false]
          exact wpS_pure ⟨rfl, _, r, rfl, by omega, by omega, by omega, fun i a1 a2 => Nat.le_trans (ub i (lo + (l + r) / 2) a1 (by omega) (by omega)) (Nat.not_lt.mp hw), h5⟩
    case ipost =>
      rintro c st' ⟨rfl, l, r, rfl, h1, h4, h5⟩
      have e : lo + k - (lo + k - (lo + l)) = lo + l := by omega
      refine wpS_bind (wpS_modify (wpS_pure ⟨rfl, bubble b (lo + k) (lo + k - (lo + l)), rfl, cb.trans (Ch.bub (by omega) (by omega) (by omega) (by omega)), fun i j a1 a2 a3 => ?_⟩))
      rw [K_bub (by omega) (by omega), K_bub (by omega) (by omega), e]
      by_cases i1 : i = lo + l
      · rw [if_pos i1]
        by_cases j1 : j = lo + l
        · rw [if_pos j1]; exact Nat.le_refl _
        · rw [if_neg j1, if_pos (by omega)]
          exact Nat.le_of_lt (h5 _ (by omega) (by omega))
      · rw [if_neg i1]
        by_cases i2 : lo + l < i ∧ i ≤ lo + k
        · rw [if_pos i2, if_neg (by omega), if_pos (by omega)]
          exact ub _ _ (by omega) (by omega) (by omega)
        · rw [if_neg i2]
          by_cases j1 : j = lo + l
          · rw [if_pos j1]; exact h4 i a1 (by omega)
          · rw [if_neg j1]
            by_cases j2 : lo + l < j ∧ j ≤ lo + k
            · rw [if_pos j2]; exact ub _ _ (by omega) (by omega) (by omega)
            · rw [if_neg j2]; exact ub _ _ (by omega) (by omega) (by omega)
end
end SortB


end
section
set_option linter.all false
set_option Elab.async false
set_option maxRecDepth 100000
namespace SortB
open PySem PySem.W PyProof.Rows
/-- the runs lie one behind the other, from lo to hi -/
def Cov (rk : Keyed → Nat) (a : Array Keyed) : List (Nat × Nat × Nat) → Nat → Nat → Prop
  | [], lo, hi => lo = hi
  | (s, n, _) :: r, lo, hi => s = lo ∧ 0 < n ∧ Up rk a lo (lo + n) ∧ Cov rk a r (lo + n) hi
section
variable {rk : Keyed → Nat} {a b : Array Keyed} {l r : List (Nat × Nat × Nat)} {lo hi mid : Nat}
theorem Cov.le : ∀ {l : List (Nat × Nat × Nat)} {lo hi : Nat}, Cov rk a l lo hi → lo + l.length ≤ hi
  | [], lo, hi, h => by have : lo = hi := h; simp; omega
  | (s, n, p) :: r, lo, hi, h => by
    obtain ⟨_, h1, _, h2⟩ := h
    have := Cov.le h2
    rw [List.length_cons]; omega
theorem Cov.app : ∀ {l : List (Nat × Nat × Nat)} {lo : Nat}, Cov rk a (l ++ r) lo hi ↔ ∃ mid, Cov rk a l lo mid ∧ Cov rk a r mid hi
  | [], lo => ⟨fun h => ⟨lo, rfl, h⟩, fun ⟨m, e, h⟩ => by have : lo = m := e; subst this; exact h⟩
  | (s, n, p) :: l, lo => by
    show (s = lo ∧ 0 < n ∧ Up rk a lo (lo + n) ∧ Cov rk a (l ++ r) (lo + n) hi) ↔ ∃ mid, (s = lo ∧ 0 < n ∧ Up rk a lo (lo + n) ∧ Cov rk a l (lo + n) mid) ∧ Cov rk a r mid hi
    rw [Cov.app]
    exact ⟨fun ⟨a1, a2, a3, m, a4, a5⟩ => ⟨m, ⟨a1, a2, a3, a4⟩, a5⟩, fun ⟨m, ⟨a1, a2, a3, a4⟩, a5⟩ => ⟨a1, a2, a3, m, a4, a5⟩⟩
theorem Cov.ext : ∀ {l : List (Nat × Nat × Nat)} {lo : Nat}, Cov rk a l lo hi → (∀ j, lo ≤ j → j < hi → K rk b j = K rk a j) → Cov rk b l lo hi
  | [], _, h, _ => h
  | (s, n, p) :: l, lo, h, e => by
    obtain ⟨a1, a2, a3, a4⟩ := h
    have := Cov.le a4
    exact ⟨a1, a2, a3.ext fun i h1 h2 => e i h1 (by omega), a4.ext fun j h1 h2 => e j (by omega) h2⟩
/-- the powers do not matter -/
theorem Cov.pow : ∀ {l l' : List (Nat × Nat × Nat)} {lo : Nat}, l.map (fun x => (x.1, x.2.1)) = l'.map (fun x => (x.1, x.2.1)) → Cov rk a l lo hi → Cov rk a l' lo hi
  | [], [], _, _, h => h
  | [], _ :: _, _, e, _ => by simp at e
  | _ :: _, [], _, e, _ => by simp at e
  | (s, n, p) :: l, (s', n', p') :: l', lo, e, h => by
    simp only [List.map_cons, List.cons.injEq, Prod.mk.injEq] at e
    obtain ⟨⟨rfl, rfl⟩, e⟩ := e
    obtain ⟨a1, a2, a3, a4⟩ := h
    exact ⟨a1, a2, a3, Cov.pow e a4⟩
theorem split2 {l : List (Nat × Nat × Nat)} {i : Nat} (h : i + 1 < l.length) : l = l.take i ++ l[i] :: l[i + 1] :: l.drop (i + 2) := by
  have e1 : l.drop i = l[i] :: l.drop (i + 1) := List.drop_eq_getElem_cons (by omega)
  have e2 : l.drop (i + 1) = l[i + 1] :: l.drop (i + 1 + 1) := List.drop_eq_getElem_cons h
  rw [← e2, ← e1, List.take_append_drop]
theorem fuse {pd : Array (Nat × Nat × Nat)} {i : Nat} {v : Nat × Nat × Nat} (h : i + 1 < pd.size) : ((pd.setIfInBounds i v).eraseIdxIfInBounds (i + 1)).toList = pd.toList.take i ++ v :: pd.toList.drop (i + 2) := by
  have hs : i + 1 < (pd.setIfInBounds i v).size := by simpa using h
  rw [Array.eraseIdxIfInBounds_eq, dif_pos hs, Array.toList_eraseIdx, Array.toList_setIfInBounds, List.eraseIdx_eq_take_drop_succ]
  rw [List.set_eq_take_append_cons_drop, if_pos (by simp; omega)]
  have e1 : (pd.toList.take i).length = i := by simp; omega
  rw [List.take_append, List.drop_append, e1, List.take_of_length_le (by omega), List.drop_of_length_le (by omega : (pd.toList.take i).length ≤ i + 1 + 1)]
  rw [show i + 1 - i = 1 by omega, show i + 1 + 1 - i = 2 by omega]
  simp
end
section
variable {prog : Program} {w : World} {A : Around} {E : Value → Shared → Prop} {s : Shared} {κ : SortKind} {rk : Keyed → Nat} {S : Keyed → Prop}
theorem merge_step (L : LtOk prog w A E s κ rk S) {b : Array Keyed} {pd : Array (Nat × Nat × Nat)} {g i hi : Nat} {Q : Bool → SortSt → Prop} (hS : ∀ x ∈ b, S x) (hsz : hi ≤ b.size) (cv : Cov rk b pd.toList 0 hi) (hi1 : i + 1 < pd.size)
    (h : ∀ c pd' g', Ch rk 0 hi b c → Cov rk c pd'.toList 0 hi → pd'.size + 1 = pd.size → Q true (mk κ c pd' g')) : wpS (model prog w) A E s (mergeAt' i) Q (mk κ b pd g) := by
  have hl : i + 1 < pd.toList.length := by simpa using hi1
  have sp := split2 hl
  rw [sp] at cv
  obtain ⟨mid, c1, c2⟩ := Cov.app.mp cv
  have g1 : pd[i]? = some pd.toList[i] := by simp [show i < pd.size by omega]
  have g2 : pd[i + 1]? = some pd.toList[i + 1] := by simp [hi1]
  generalize pd.toList[i] = u at c2 g1 sp
  generalize pd.toList[i + 1] = v at c2 g2 sp
  obtain ⟨sa, na, p⟩ := u
  obtain ⟨sb, nb, q⟩ := v
  obtain ⟨rfl, n1, u1, rfl, n2, u2, c3⟩ := c2
  have le3 := c3.le
  refine mergeAt_ok L rfl rfl hS g1 g2 n1 n2 (by show sa + na + nb ≤ b.size; omega) u1 u2 fun c g' ch up => h c _ g' (ch.mono (Nat.zero_le _) (by omega)) ?_ ?_
  · show Cov rk c ((pd.setIfInBounds i (sa, na + nb, p)).eraseIdxIfInBounds (i + 1)).toList 0 hi
    rw [fuse hi1]
    have le1 := c1.le
    refine Cov.app.mpr ⟨sa, c1.ext fun j h1 h2 => ch.out j (by omega), rfl, by omega, ?_, ?_⟩
    · rw [← Nat.add_assoc]; exact up
    · rw [← Nat.add_assoc]; exact c3.ext fun j h1 h2 => ch.out j (by omega)
  · show ((pd.setIfInBounds i (sa, na + nb, p)).eraseIdxIfInBounds (i + 1)).size + 1 = pd.size
    rw [← Array.length_toList, fuse hi1]
    simp
    omega
theorem sortRuns_ok (L : LtOk prog w A E s κ rk S) {a : Array Keyed} {g : Nat} {Q : Unit → SortSt → Prop} (hS : ∀ x ∈ a, S x) (h2 : 2 ≤ a.size)
    (h : ∀ b pd g, b.Perm a → Up rk b 0 a.size → Q () (mk κ b pd g)) : wpS (model prog w) A E s sortRuns' Q (mk κ a #[] g) := by
  have pend : ∀ b pd g, pendingOf (mk κ b pd g) = pd := fun _ _ _ => rfl
  rw [sortRuns'_eq]
  refine wpS_bind (wpS_get ?_)
  dsimp only
  rw [show arrOf (mk κ a #[] g) = a from rfl]
  generalize minRun' a.size a.size 0 = mr
  refine wpS_bind (wpS_mono (wpS_forRange (I := fun x c st' => ∃ lo b pd g, c = (none, lo) ∧ st' = mk κ b pd g ∧ b.Perm a ∧ lo ≤ a.size ∧ x ≤ lo ∧ Cov rk b pd.toList 0 lo)
    (Q := fun c st' => ∃ b pd g, c = (none, a.size) ∧ st' = mk κ b pd g ∧ b.Perm a ∧ Cov rk b pd.toList 0 a.size) ?step ?fin ⟨0, a, #[], g, rfl, rfl, Array.Perm.refl _, by omega, by omega, rfl⟩) ?post)
  case fin =>
    rintro c st' ⟨lo, b, pd, g, rfl, rfl, pb, h1, h3, cv⟩
    have : lo = a.size := by omega
    subst this
    exact ⟨b, pd, g, rfl, rfl, pb, cv⟩
  case post =>
    rintro c st' ⟨b, pd, g, rfl, rfl, pb, cv⟩
    dsimp only
    have hlen : pd.size ≤ a.size := by have := cv.le; simpa using this
    refine wpS_bind (wpS_mono (wpS_forRange (I := fun x c st' => c = (none, ()) ∧ ∃ b pd g, st' = mk κ b pd g ∧ b.Perm a ∧ Cov rk b pd.toList 0 a.size ∧ pd.size + x ≤ a.size) (Q := fun c st' => c = (none, ()) ∧ ∃ b pd g, st' = mk κ b pd g ∧ b.Perm a ∧ Cov rk b pd.toList 0 a.size ∧ pd.size ≤ 1) ?lstep ?lfin ⟨rfl, b, pd, g, rfl, pb, cv, hlen⟩) ?lpost)
    case lfin =>
      rintro c st' ⟨rfl, b, pd, g, rfl, pb, cv, hx⟩
      exact ⟨rfl, b, pd, g, rfl, pb, cv, by omega⟩
    case lpost =>
      rintro c st' ⟨rfl, b, pd, g, rfl, pb, cv, hx⟩
      refine wpS_pure (h b pd g pb ?_)
      have hx' : pd.toList.length ≤ 1 := by simpa using hx
      match hpd : pd.toList, hx', cv with
      | [], _, cv => have : 0 = a.size := cv; omega
      | [(s0, n0, p0)], _, cv =>
        obtain ⟨e1, _, u, e2⟩ := cv
        have e2 : 0 + n0 = a.size := e2
        rw [← e2]; exact u
      | _ :: _ :: _, hx', _ => simp at hx'
    case lstep =>
      rintro x c st' _ hx ⟨rfl, b, pd, g, rfl, pb, cv, hx2⟩
      refine wpS_bind (wpS_get ?_)
      rw [pend]
      by_cases hs : pd.size ≤ 1
      · rw [if_pos hs]
        exact wpS_pure ⟨rfl, b, pd, g, rfl, pb, cv, hs⟩
      rw [if_neg hs]
      refine wpS_bind (merge_step L (fun x hx => hS x (pb.mem_iff.mp hx)) (by rw [pb.size_eq]; exact Nat.le_refl _) cv ?_ fun c pd' g' ch cv' hsz => ?_)
      · have hif : ∀ (c : Bool) (i : Nat), (if c = true then i - 1 else i) ≤ i := fun c i => by cases c <;> simp
        exact Nat.lt_of_le_of_lt (Nat.add_le_add_right (hif _ _) 1) (by omega)
      · exact wpS_pure ⟨rfl, c, pd', g', rfl, ch.perm.trans pb, cv', by omega⟩
  case step =>
    rintro x c st' _ hx ⟨lo, b, pd, g, rfl, rfl, pb, h1, h3, cv⟩
    dsimp only
    by_cases hge : lo ≥ a.size
    · rw [if_pos hge]
      have : lo = a.size := by omega
      subst this
      exact wpS_pure ⟨b, pd, g, rfl, rfl, pb, cv⟩
    rw [if_neg hge]
    have bsz := pb.size_eq
    suffices T : ∀ (n : Nat) (b : Array Keyed), 1 ≤ n → lo + n ≤ a.size → b.Perm a → Cov rk b pd.toList 0 lo → Up rk b lo (lo + n) → wpS (model prog w) A E s _ _ (mk κ b pd g) by
      refine wpS_bind (countRun_ok L (fun x hx => hS x (pb.mem_iff.mp hx)) (by omega) (by omega) fun found b1 f1 f2 ch1 up1 => ?_)
      dsimp only
      have pb1 : b1.Perm a := ch1.perm.trans pb
      have cv1 : Cov rk b1 pd.toList 0 lo := cv.ext fun j _ h => ch1.out j (by omega)
      by_cases hm : ¬ found < mr
      · rw [if_neg hm]
        exact T found b1 f1 (by omega) pb1 cv1 up1
      · have hm : found < mr := by omega
        rw [if_pos hm]
        refine wpS_bind (wpS_lift (wpAny_rule ⟨rfl, ?_⟩))
        have bsz1 := pb1.size_eq
        refine wpS_bind (binarySort_ok L (fun x hx => hS x (pb1.mem_iff.mp hx)) (by omega) f1 (by omega) up1 fun b2 ch2 up2 => ?_)
        rw [if_neg (by simp)]
        exact T _ b2 (by omega) (by omega) (ch2.perm.trans pb1) (cv1.ext fun j _ h => ch2.out j (by omega)) up2
    clear cv pb bsz
    intro n b hn1 hn2 pb cv up
    have bsz := pb.size_eq
    refine wpS_bind (wpS_get ?_)
    rw [pend]
    cases hb : pd.back? with
    | none =>
      dsimp only
      refine wpS_bind (wpS_modify (wpS_pure ⟨lo + n, b, pd.push (lo, n, 0), g, rfl, rfl, pb, hn2, by omega, ?_⟩))
      rw [Array.toList_push]
      exact Cov.app.mpr ⟨lo, cv, rfl, hn1, up, rfl⟩
    | some q =>
      obtain ⟨s1, n1, p1⟩ := q
      dsimp only
      generalize power' a.size (2 * s1 + n1) (2 * s1 + n1 + n1 + n) a.size = pw
      refine wpS_bind (wpS_mono (wpS_forRange (I := fun y c st' => c = (none, ()) ∧ ∃ b pd g, st' = mk κ b pd g ∧ b.Perm a ∧ Cov rk b pd.toList 0 lo ∧ Up rk b lo (lo + n)) (Q := fun c st' => c = (none, ()) ∧ ∃ b pd g, st' = mk κ b pd g ∧ b.Perm a ∧ Cov rk b pd.toList 0 lo ∧ Up rk b lo (lo + n)) ?mstep (fun _ _ z => z) ⟨rfl, b, pd, g, rfl, pb, cv, up⟩) ?mpost)
      case mstep =>
        rintro y c st' _ _ ⟨rfl, b, pd, g, rfl, pb, cv, up⟩
        refine wpS_bind (wpS_get ?_)
        rw [pend]
        have bsz := pb.size_eq
        by_cases hs : pd.size > 1
        · rw [if_pos hs]
          cases hq : pd[pd.size - 2]? with
          | none => exact wpS_pure ⟨rfl, b, pd, g, rfl, pb, cv, up⟩
          | some q =>
            obtain ⟨s2, n2, p2⟩ := q
            dsimp only
            by_cases ho : p2 ≤ pw
            · rw [if_pos ho]
              exact wpS_pure ⟨rfl, b, pd, g, rfl, pb, cv, up⟩
            · rw [if_neg ho]
              refine wpS_bind (merge_step L (fun x hx => hS x (pb.mem_iff.mp hx)) (by omega) cv (by omega) fun c pd' g' ch cv' hsz => ?_)
              rw [if_neg (by simp)]
              exact wpS_pure ⟨rfl, c, pd', g', rfl, ch.perm.trans pb, cv', up.ext fun i h1 h2 => ch.out i (by omega)⟩
        · rw [if_neg hs]
          exact wpS_pure ⟨rfl, b, pd, g, rfl, pb, cv, up⟩
      case mpost =>
        rintro c st' ⟨rfl, b, pd, g, rfl, pb, cv, up⟩
        dsimp only
        refine wpS_bind (wpS_modify (wpS_bind (wpS_modify (wpS_pure ⟨lo + n, b, _, g, rfl, rfl, pb, hn2, by omega, ?_⟩))))
        show Cov rk b ((pd.modify (pd.size - 1) fun x => (x.1, x.2.1, pw)).push (lo, n, 0)).toList 0 (lo + n)
        rw [Array.toList_push]
        refine Cov.app.mpr ⟨lo, Cov.pow ?_ cv, rfl, hn1, up, rfl⟩
        rw [Array.toList_modify]
        apply List.ext_getElem?
        intro i
        rw [List.getElem?_map, List.getElem?_map, List.getElem?_modify]
        cases pd.toList[i]? with
        | none => rfl
        | some v => simp only [Option.map_some]; split <;> rfl
end
end SortB


end
section
set_option linter.all false
set_option Elab.async false
set_option maxRecDepth 100000
namespace SortB
open PySem PySem.W PyProof.Rows
theorem perm_lift {α β : Type} {f : α → β} {l' m : List β} (p : l'.Perm m) : ∀ l : List α, m = l.map f → ∃ q : List α, q.Perm l ∧ l' = q.map f := by
  induction p with
  | nil => intro l e; exact ⟨[], by rw [List.map_eq_nil_iff.mp e.symm], rfl⟩
  | cons x p ih =>
    intro l e
    cases l with
    | nil => simp at e
    | cons a l =>
      simp only [List.map_cons, List.cons.injEq] at e
      obtain ⟨q, hq, rfl⟩ := ih l e.2
      exact ⟨a :: q, hq.cons a, by rw [List.map_cons, e.1]⟩
  | swap x y l0 =>
    intro l e
    match l, e with
    | a :: b :: l, e =>
      simp only [List.map_cons, List.cons.injEq] at e
      exact ⟨b :: a :: l, List.Perm.swap a b l, by rw [List.map_cons, List.map_cons, e.1, e.2.1, e.2.2]⟩
  | trans p1 p2 ih1 ih2 =>
    intro l e
    obtain ⟨q2, h2, e2⟩ := ih2 l e
    obtain ⟨q1, h1, e1⟩ := ih1 q2 e2
    exact ⟨q1, h1.trans h2, e1⟩
open Classical in
/-- the rank of an item by its place -/
noncomputable def rkOf (it : Nat → Keyed) (n : Nat) (r : Nat → Nat) (x : Keyed) : Nat := if h : ∃ i, i < n ∧ it i = x then r h.choose else 0
theorem rkOf_at {it : Nat → Keyed} {n : Nat} {r : Nat → Nat} (hw : ∀ i j, i < n → j < n → it i = it j → r i = r j) {i : Nat} (hi : i < n) : rkOf it n r (it i) = r i := by
  unfold rkOf
  have h : ∃ j, j < n ∧ it j = it i := ⟨i, hi, rfl⟩
  rw [dif_pos h]
  exact hw _ _ h.choose_spec.1 hi h.choose_spec.2
section
variable {prog : Program} {w : World} {A : Around} {E : Value → Shared → Prop} {s : Shared} {κ : SortKind} {ks vs : List Value} {r : Nat → Nat}
/-- the items ks.zip vs are sorted by the ranks r of their places -/
theorem big_run (hl : ks.length = vs.length) (h2 : 2 ≤ vs.length) (hc : ∀ i j (C : Bool → Shared → Prop), i < vs.length → j < vs.length → C (decide (r i < r j)) s → kas_ask prog w A κ ks i j C s)
    (hw : ∀ i j, i < vs.length → j < vs.length → ks.getD i Value.none = ks.getD j Value.none → r i = r j) :
    wpAny (model prog w) A (sortRuns'.run (SortSt.mk' κ (ks.toArray.zip vs.toArray) #[] 7 none)) (fun x s' => ∃ p : Array Nat, arrOf x.2 = p.map (kas_item (ks.toArray.zip vs.toArray)) ∧ failedOf x.2 = none ∧ s' = s ∧ SortT.Ok vs.length p ∧ SortT.Up r p vs.length) E s := by
  have it : ∀ i, kas_item (ks.toArray.zip vs.toArray) i = (ks.getD i Value.none, vs.getD i Value.none) := kat_item hl
  have sz : (ks.toArray.zip vs.toArray).size = vs.length := by simp [hl]
  have rng := kas_range (ks.toArray.zip vs.toArray)
  rw [sz] at rng
  have al : (ks.toArray.zip vs.toArray).toList = (List.range vs.length).map (kas_item (ks.toArray.zip vs.toArray)) := by
    have := congrArg Array.toList rng
    rw [Array.toList_map] at this
    exact this.symm
  have hw' : ∀ i j, i < vs.length → j < vs.length → kas_item (ks.toArray.zip vs.toArray) i = kas_item (ks.toArray.zip vs.toArray) j → r i = r j := fun i j hi hj e => by
    rw [it, it] at e
    exact hw i j hi hj (Prod.mk.inj e).1
  have L : LtOk prog w A E s κ (rkOf (kas_item (ks.toArray.zip vs.toArray)) vs.length r) (fun x => ∃ i, i < vs.length ∧ kas_item (ks.toArray.zip vs.toArray) i = x) := by
    rintro x y st Q hk ⟨i, hi, rfl⟩ ⟨j, hj, rfl⟩ hq
    rw [rkOf_at hw' hi, rkOf_at hw' hj] at hq
    rw [lt'_eq]
    refine wpS_bind (wpS_get ?_)
    rw [hk, it, it]
    have := hc i j (fun b s' => s' = s ∧ b = decide (r i < r j)) hi hj ⟨rfl, rfl⟩
    unfold kas_ask at this
    refine wpS_bind (wpS_lift (wpAny_attempt (wpAny_mono this (fun b s' hb => ?_) fun _ _ z => z.elim)))
    obtain ⟨e1, e2⟩ := hb
    subst e1 e2
    exact ⟨rfl, wpS_pure hq⟩
  have run := sortRuns_ok L (a := ks.toArray.zip vs.toArray) (g := 7) (Q := fun _ st' => ∃ p : Array Nat, arrOf st' = p.map (kas_item (ks.toArray.zip vs.toArray)) ∧ failedOf st' = none ∧ SortT.Ok vs.length p ∧ SortT.Up r p vs.length) (fun x hx => ?_) (by omega) fun b pd g pb up => ?_
  · unfold wpS at run
    refine wpAny_mono run (fun x s' hx => ?_) fun _ _ z => z
    obtain ⟨e, p, a1, a2, a3, a4⟩ := hx
    exact ⟨p, a1, a2, e, a3, a4⟩
  · have := Array.mem_toList_iff.mpr hx
    rw [al] at this
    obtain ⟨i, hi, e⟩ := List.mem_map.mp this
    exact ⟨i, List.mem_range.mp hi, e⟩
  · have pl := Array.perm_iff_toList_perm.mp pb
    obtain ⟨q, hq, eq⟩ := perm_lift pl _ al
    have ql : q.length = vs.length := by rw [hq.length_eq, List.length_range]
    have hb : b = q.toArray.map (kas_item (ks.toArray.zip vs.toArray)) := by
      apply Array.toList_inj.mp
      rw [Array.toList_map, eq]
    refine ⟨q.toArray, hb, rfl, ⟨by rw [List.size_toArray, ql], Array.perm_iff_toList_perm.mpr (by simpa using hq)⟩, fun i j hij hj => ?_⟩
    have hu := up i j (Nat.zero_le _) hij (by omega)
    have kk : ∀ i, i < vs.length → K (rkOf (kas_item (ks.toArray.zip vs.toArray)) vs.length r) b i = SortT.K r q.toArray i := fun i hi => by
      have hi' : i < q.length := by omega
      have hib : i < b.size := by rw [hb]; simp; omega
      rw [K_get hib]
      have e1 : b[i] = kas_item (ks.toArray.zip vs.toArray) q[i] := by simp [hb]
      have e2 : q[i] < vs.length := List.mem_range.mp (hq.mem_iff.mp (List.getElem_mem hi'))
      rw [e1, rkOf_at hw' e2]
      unfold SortT.K
      simp [Array.getD, hi']
    rw [kk i (by omega), kk j hj] at hu
    exact hu
end
end SortB


end
section
set_option Elab.async false
set_option linter.all false
set_option maxRecDepth 100000
set_option maxHeartbeats 4000000
namespace L2
open PySem PySem.Spec PyProof.Rows PySem.W
theorem Inv.adopt {X : Cx} {pins : List (Addr × Obj)} {σ : St} {H : Hp} {s : Shared} {h' : Heap} {D : Addr} {o : HO} {t' : Nat} (I : Inv X pins σ H s) (f : FpOk X pins H D) (k : ∀ b u, b ≠ D → s.heap.get? b = some u → h'.get? b = some u)
    (new : ObjOk X.prog X.w (upd H D o) h' D o) : Inv X pins σ (upd H D o) { s with heap := h', toks := t' } := by
  obtain ⟨f0, f1, f2, f3, f4, f5⟩ := f
  have nit : ∀ b u, H b = some u → b ≠ D := fun b u e z => by rw [z, f0] at e; cases e
  refine I.step (g' := s.gens) (d' := s.drawn) (ch := [D]) (fun b hb => ?_) (fun b o _ _ hc e _ => k b o (fun z => hc (by simp [z])) e) (fun b o _ _ hc e _ => ⟨o.slots, k b o (fun z => hc (by simp [z])) e⟩) (fun b _ hc _ n => by rw [upd_ne (fun z => hc (by simp [z]))]; exact n)
    (fun b o hc e => ⟨o, k b o (fun z => hc (by simp [z])) e⟩) (fun b _ e => by rw [upd_ne (nit _ _ e)]; exact e) (fun b _ _ e => by rw [upd_ne (nit _ _ e)]; exact e) (fun b ps e => ⟨#[], by rw [upd_ne (nit _ _ e), e]; simp⟩) (fun m hm => ?_) (fun b u e => ?_) I.bare
  · have e : b = D := by simpa using hb
    subst e
    exact ⟨f3, f1, f4, f5⟩
  · obtain ⟨o, es, ep, ho, r⟩ := hm
    exact ⟨o, es, ep, k _ o (Ne.symm f1) ho, r⟩
  · by_cases hb : b = D
    · subst hb; rw [upd_same] at e; cases e; exact new
    · rw [upd_ne hb] at e
      refine (I.hok b u e).stay (fun c v hc q => k c v ?_ q) (fun c q => by rw [upd_ne (nit _ _ q)]; exact q) fun c xs q => by rw [upd_ne (nit _ _ q)]; exact q
      rcases hc with z | z
      · rw [z]; exact hb
      · exact nit c _ z

theorem Vals.getD : ∀ {xs : List V} {us : List Value}, Vals xs us → ∀ i, RelV (xs.getD i .non) (us.getD i Value.none) := fun {xs us} r i => by
  cases e : xs[i]? with
  | none =>
    have e2 := r.none_of e
    rw [List.getD_eq_getElem?_getD, List.getD_eq_getElem?_getD, e, e2]
    rfl
  | some x =>
    obtain ⟨u, e2, ru⟩ := r.get e
    rw [List.getD_eq_getElem?_getD, List.getD_eq_getElem?_getD, e, e2]
    exact ru
theorem Vals.pick {xs : List V} {us : List Value} (r : Vals xs us) : ∀ l : List Nat, Vals (l.map fun i => xs.getD i .non) (l.map fun i => us.getD i Value.none)
  | [] => .nil
  | i :: l => .cons (r.getD i) (r.pick l)
theorem countP_lt {α : Type} {p q : α → Bool} : ∀ {l : List α} {a : α}, (∀ x ∈ l, p x = true → q x = true) → a ∈ l → q a = true → p a = false → l.countP p < l.countP q
  | x :: l, a, h, hm, hq, hp => by
    have mono : l.countP p ≤ l.countP q := List.countP_mono_left fun y hy => h y (List.mem_cons_of_mem _ hy)
    rw [List.countP_cons, List.countP_cons]
    rcases List.mem_cons.mp hm with e | e
    · subst e
      rw [hq, hp]
      simp only [Bool.false_eq_true, if_false, if_true]
      omega
    · have ih := countP_lt (fun y hy => h y (List.mem_cons_of_mem _ hy)) e hq hp
      have hx := h x List.mem_cons_self
      cases hpx : p x with
      | false => simp only [Bool.false_eq_true, if_false]; split <;> omega
      | true => rw [hx hpx]; simp only [if_true]; omega

/-- lt is a strict weak order on xs -/
structure Swo {α : Type} (xs : List α) (lt : α → α → Bool) : Prop where
  irr : ∀ a ∈ xs, lt a a = false
  tr : ∀ a ∈ xs, ∀ b ∈ xs, ∀ c ∈ xs, lt a b = true → lt b c = true → lt a c = true
  neg : ∀ a ∈ xs, ∀ b ∈ xs, ∀ c ∈ xs, lt a c = true → lt a b = true ∨ lt b c = true
theorem Swo.rank {α : Type} {xs : List α} {lt : α → α → Bool} (w : Swo xs lt) {a b : α} (ha : a ∈ xs) (hb : b ∈ xs) : decide (xs.countP (lt · a) < xs.countP (lt · b)) = lt a b := by
  cases e : lt a b with
  | true => exact decide_eq_true (countP_lt (fun x hx h => w.tr x hx a ha b hb h e) ha e (w.irr a ha))
  | false =>
    refine decide_eq_false fun h => ?_
    have : xs.countP (lt · b) ≤ xs.countP (lt · a) := List.countP_mono_left fun x hx h => (w.neg x hx a ha b hb h).elim id fun z => by rw [e] at z; cases z
    omega
theorem getD_mem {α : Type} {xs : List α} {i : Nat} {d : α} (h : i < xs.length) : xs.getD i d ∈ xs := by
  rw [List.getD_eq_getElem?_getD, List.getElem?_eq_getElem h]
  exact List.getElem_mem h
theorem picks_perm {α : Type} {xs : List α} {d : α} {p : Array Nat} (h : SortT.Ok xs.length p) : (p.toList.map fun i => xs.getD i d).Perm xs := by
  have h1 : p.toList.Perm (List.range xs.length) := by
    have := Array.perm_iff_toList_perm.mp h.perm
    simpa using this
  have h2 := h1.map (fun i => xs.getD i d)
  have h3 : (List.range xs.length).map (fun i => xs.getD i d) = xs := by
    apply List.ext_getElem
    · simp
    · intro i h1 h2
      simp [h2]
  rw [h3] at h2
  exact h2
theorem picks_up {xs : List V} {lt : V → V → Bool} (w : Swo xs lt) {p : Array Nat} (h : SortT.Ok xs.length p) (hn : 0 < xs.length) (u : SortT.Up (fun i => xs.countP (lt · (xs.getD i .non))) p xs.length) :
    (p.toList.map fun i => xs.getD i V.non).Pairwise fun a b => lt b a = false := by
  rw [List.pairwise_iff_getElem]
  intro i j hi hj hij
  have hi' : i < p.size := by simpa using hi
  have hj' : j < p.size := by simpa using hj
  have hjn : j < xs.length := by rw [← h.size]; exact hj'
  have := u i j (by omega) hjn
  unfold SortT.K at this
  have gi : p.getD i 0 = p[i] := by simp [Array.getD, hi']
  have gj : p.getD j 0 = p[j] := by simp [Array.getD, hj']
  have li := h.lt hn i
  have lj := h.lt hn j
  rw [gi] at this li
  rw [gj] at this lj
  have e1 : (p.toList.map fun i => xs.getD i V.non)[i] = xs.getD p[i] .non := by simp
  have e2 : (p.toList.map fun i => xs.getD i V.non)[j] = xs.getD p[j] .non := by simp
  rw [e1, e2, ← w.rank (getD_mem lj) (getD_mem li)]
  dsimp only at this
  exact decide_eq_false (by omega)
end L2


end
section
set_option Elab.async false
set_option linter.all false
set_option maxRecDepth 100000
set_option maxHeartbeats 400000
namespace L2
open PySem PySem.Spec PyProof.Rows PySem.W
section
variable {X : Cx} {pins : List (Addr × Obj)} {σ : St} {H : Hp} {s : Shared} {k : Nat} {f : Addr} {fd : FuncData} {p0 : Str} {sp : Sp} {A : Around} {E : Value → Shared → Prop}
/-- what is known of the key function over the items -/
structure KeyF (K : PySem.W.Frag) (sp : Sp) (H : Hp) (xs : List V) (rk : V → List V) (lt : V → V → Bool) : Prop where
  hd : ∀ v ∈ xs, ∃ n r, rk v = .int n :: r
  key : ∀ v ∈ xs, ∀ H2, Same H H2 → ∀ R : VK, (∀ p H3, Same H2 H3 → SqT K H3 p (rk v) → R (.ref p) H3) → sp [v] H2 R E0
  lex : ∀ v ∈ xs, ∀ u ∈ xs, HT.lexV (rk v) (rk u) = some (lt v u)
  swo : Swo xs lt
theorem pw_small {α : Type} {R : α → α → Prop} : ∀ {xs : List α}, xs.length < 2 → xs.Pairwise R
  | [], _ => List.Pairwise.nil
  | [a], _ => List.pairwise_singleton _ _
end
end L2


end
section
set_option Elab.async false
set_option linter.all false
set_option maxRecDepth 100000
set_option maxHeartbeats 400000
namespace L2
open PySem PySem.Spec PyProof.Rows PySem.W
theorem bo_sorted : bootBuiltins "sorted" = some (.builtin "sorted") := by decide +kernel
section
variable {X : Cx} {pins : List (Addr × Obj)} {σ : St} {H : Hp} {s : Shared} {k : Nat} {f : Addr} {fd : FuncData} {p0 : Str} {sp : Sp}
def tSortK (K : PySem.W.Frag) (sp : Sp) (te : TE) : TE := fun σ H Q => te σ H fun x H1 => ∃ a xs rk lt, x = .ref a ∧ SqL K H1 a xs ∧ xs.length < 64 ∧ KeyF K sp H1 xs rk lt ∧
  ∀ D H' ys, Same H1 H' → H1 D = none → H' D = some (.lst ys) → ys.Perm xs → ys.Pairwise (fun a b => lt b a = false) → Q (.ref D) H'
def tSortKB (K : PySem.W.Frag) (sp : Sp) (te : TE) : TE := fun σ H Q => te σ H fun x H1 => ∃ a xs rk lt, x = .ref a ∧ SqL K H1 a xs ∧ xs.length < 1000 ∧ KeyF K sp H1 xs rk lt ∧
  ∀ D H' ys, Same H1 H' → H1 D = none → H' D = some (.lst ys) → ys.Perm xs → ys.Pairwise (fun a b => lt b a = false) → Q (.ref D) H'
end
end L2


end
section
set_option Elab.async false
set_option linter.all false
set_option maxRecDepth 100000
set_option maxHeartbeats 400000
namespace L2
open PySem PySem.Spec PyProof.Rows
section
variable {X : Cx} {e : Expr} {es : List Expr} {te : TE} {pos : Pos}
def tFmtI (te : TE) : TE := fun σ H Q => te σ H fun x H1 => ∃ i : Int, x = .int i ∧ i.natAbs.log2 < 1920 ∧ Q (.str (toString i)) H1
def tFmtS (te : TE) : TE := fun σ H Q => te σ H fun x H1 => ∃ z : Str, x = .str z ∧ z.length ≤ sizeLine ∧ Q (.str z) H1
def tParts : List TE → Str → TE
  | [], acc => fun _ H Q => acc.length ≤ sizeLine ∧ Q (.str acc) H
  | t :: ts, acc => fun σ H Q => t σ H fun x H1 => ∃ z : Str, x = .str z ∧ (acc ++ z).length ≤ sizeLine ∧ tParts ts (acc ++ z) σ H1 Q
def tJoinF (ts : List TE) : TE := tParts ts Str.empty
end
theorem empty_add (z : Str) : Str.empty ++ z = z := by
  apply PyProof.Rows.ext_toList
  rw [PySem.W.KT.app_list]; rfl
end L2


end
section
set_option Elab.async false
set_option linter.all false
set_option maxRecDepth 100000
set_option maxHeartbeats 400000
namespace Pl
open PySem L2
def plainV : V → Prop
  | .non => True
  | .int i => -(10 ^ 30) < i ∧ i < 10 ^ 30
  | .str z => z.length ≤ 40
  | _ => False
def rk : V → List V
  | .non => [.int 0, .int 0]
  | .str z => [.int 2, .str z]
  | v => [.int 1, v]
def ltV (a b : V) : Bool := (HT.lexV (rk a) (rk b)).getD false
theorem lt_nn : ltV .non .non = false := rfl
theorem lt_ni (i : Int) : ltV .non (.int i) = true := rfl
theorem lt_ns (z : Str) : ltV .non (.str z) = true := rfl
theorem lt_in (i : Int) : ltV (.int i) .non = false := rfl
theorem lt_sn (z : Str) : ltV (.str z) .non = false := rfl
theorem lt_is (i : Int) (z : Str) : ltV (.int i) (.str z) = true := rfl
theorem lt_si (i : Int) (z : Str) : ltV (.str z) (.int i) = false := rfl
theorem lt_ii (i j : Int) : ltV (.int i) (.int j) = decide (i < j) := by
  unfold ltV
  simp only [rk, HT.lexV, if_true]
  by_cases e : i = j
  · rw [if_pos e]; subst e; simp
  · rw [if_neg e]; rfl
theorem lt_ss (x y : Str) : ltV (.str x) (.str y) = decide (x.cps.toList < y.cps.toList) := by
  unfold ltV
  simp only [rk, HT.lexV, if_true]
  by_cases e : x = y
  · rw [if_pos e]; subst e
    have : ¬ (x.cps.toList < x.cps.toList) := List.lt_irrefl _
    simp [this]
  · rw [if_neg e]; rfl
theorem irr {a : V} (ha : plainV a) : ltV a a = false := by
  cases a <;> first | exact ha.elim | skip
  · rfl
  · rw [lt_ii]; simp
  · rw [lt_ss]; exact decide_eq_false (List.lt_irrefl _)
theorem tr {a b c : V} (ha : plainV a) (hb : plainV b) (hc : plainV c) (h1 : ltV a b = true) (h2 : ltV b c = true) : ltV a c = true := by
  cases a <;> first | exact ha.elim | skip
  all_goals (cases b <;> first | exact hb.elim | skip)
  all_goals (cases c <;> first | exact hc.elim | skip)
  all_goals first | rfl | (exfalso; rw [lt_nn] at h1; cases h1; done) | (exfalso; rw [lt_in] at h1; cases h1; done) | (exfalso; rw [lt_sn] at h1; cases h1; done) | (exfalso; rw [lt_si] at h1; cases h1; done) | (exfalso; rw [lt_nn] at h2; cases h2; done) | (exfalso; rw [lt_in] at h2; cases h2; done) | (exfalso; rw [lt_sn] at h2; cases h2; done) | (exfalso; rw [lt_si] at h2; cases h2; done) | skip
  · rw [lt_ii, decide_eq_true_eq] at *; omega
  · rw [lt_ss, decide_eq_true_eq] at *; exact List.lt_trans h1 h2
theorem tri {a b : V} (ha : plainV a) (hb : plainV b) (h1 : ltV a b = false) (h2 : ltV b a = false) : a = b := by
  cases a <;> first | exact ha.elim | skip
  all_goals (cases b <;> first | exact hb.elim | skip)
  all_goals first | rfl | (exfalso; rw [lt_ni] at h1; cases h1; done) | (exfalso; rw [lt_ns] at h1; cases h1; done) | (exfalso; rw [lt_is] at h1; cases h1; done) | (exfalso; rw [lt_ni] at h2; cases h2; done) | (exfalso; rw [lt_ns] at h2; cases h2; done) | (exfalso; rw [lt_is] at h2; cases h2; done) | skip
  · rw [lt_ii, decide_eq_false_iff_not] at *
    congr 1; omega
  · rw [lt_ss, decide_eq_false_iff_not] at *
    congr 1
    exact PyProof.Rows.ext_toList (List.le_antisymm (List.not_lt.mp h2) (List.not_lt.mp h1))
theorem neg {a b c : V} (ha : plainV a) (hb : plainV b) (hc : plainV c) (h : ltV a c = true) : ltV a b = true ∨ ltV b c = true := by
  cases e : ltV a b with
  | true => exact .inl rfl
  | false =>
    cases e2 : ltV b a with
    | true => exact .inr (tr hb ha hc e2 h)
    | false => rw [tri ha hb e e2] at h; exact .inr h
theorem swo {xs : List V} (h : ∀ v ∈ xs, plainV v) : Swo xs ltV := ⟨fun a ha => irr (h a ha), fun a ha b hb c hc => tr (h a ha) (h b hb) (h c hc), fun a ha b hb c hc => neg (h a ha) (h b hb) (h c hc)⟩
/-- what holds while the items, in order, are put one behind the other: each once -/
structure Grow (ys : List V) (i : Nat) (fs : List V) : Prop where
  up : fs.Pairwise fun a b => ltV a b = true
  mem : ∀ v, v ∈ fs ↔ v ∈ ys.take i
  last : ∀ v, fs.getLast? = some v → ∃ k, k < i ∧ ys[k]? = some v
  len : fs.length ≤ i
theorem Grow.start (ys : List V) : Grow ys 0 [] := ⟨List.Pairwise.nil, fun v => by simp, fun v h => by simp at h, Nat.zero_le _⟩
theorem take_succ_mem {ys : List V} {i : Nat} {x v : V} (hx : ys[i]? = some x) : v ∈ ys.take (i + 1) ↔ v ∈ ys.take i ∨ v = x := by
  rw [List.take_succ, hx]; simp
theorem Grow.put {ys fs : List V} {i : Nat} {x : V} (g : Grow ys i fs) (p : ∀ v ∈ ys, plainV v) (so : ys.Pairwise fun a b => ltV b a = false) (hx : ys[i]? = some x) (h : ∀ l, fs.getLast? = some l → ltV l x = true) : Grow ys (i + 1) (fs ++ [x]) := by
  have px := p x (List.mem_of_getElem? hx)
  refine ⟨List.pairwise_append.mpr ⟨g.up, List.pairwise_singleton _ _, fun a ha b hb => ?_⟩, fun v => ?_, fun v hv => ?_, by have := g.len; rw [List.length_append, List.length_singleton]; omega⟩
  · have e : b = x := by simpa using hb
    subst e
    obtain ⟨l, hl⟩ : ∃ l, fs.getLast? = some l := by
      cases q : fs.getLast? with
      | none => rw [List.getLast?_eq_none_iff] at q; rw [q] at ha; cases ha
      | some l => exact ⟨l, rfl⟩
    have pl : plainV l := p l (List.mem_of_mem_take ((g.mem l).mp (List.mem_of_getLast? hl)))
    have pa : plainV a := p a (List.mem_of_mem_take ((g.mem a).mp ha))
    obtain ⟨fs', rfl⟩ := List.getLast?_eq_some_iff.mp hl
    rcases List.mem_append.mp ha with h' | h'
    · exact tr pa pl px ((List.pairwise_append.mp g.up).2.2 a h' l (by simp)) (h l hl)
    · have e : a = l := by simpa using h'
      subst e; exact h a hl
  · rw [take_succ_mem hx, List.mem_append, g.mem v]; simp
  · rw [List.getLast?_append] at hv
    simp at hv
    subst hv
    exact ⟨i, Nat.lt_succ_self _, hx⟩
theorem Grow.skip {ys fs : List V} {i : Nat} {x l : V} (g : Grow ys i fs) (p : ∀ v ∈ ys, plainV v) (so : ys.Pairwise fun a b => ltV b a = false) (hx : ys[i]? = some x) (hl : fs.getLast? = some l) (h : ltV l x = false) : Grow ys (i + 1) fs := by
  have px := p x (List.mem_of_getElem? hx)
  have pl : plainV l := p l (List.mem_of_mem_take ((g.mem l).mp (List.mem_of_getLast? hl)))
  have hxl : ltV x l = false := by
    obtain ⟨k, hk, e⟩ := g.last l hl
    obtain ⟨k1, e1⟩ := List.getElem?_eq_some_iff.mp e
    obtain ⟨i1, e2⟩ := List.getElem?_eq_some_iff.mp hx
    have := (List.pairwise_iff_getElem.mp so) k i k1 i1 hk
    rw [e1, e2] at this
    exact this
  have e : l = x := tri pl px h hxl
  refine ⟨g.up, fun v => ?_, fun v hv => ?_, Nat.le_succ_of_le g.len⟩
  · rw [take_succ_mem hx, g.mem v]
    constructor
    · exact fun h => .inl h
    · rintro (h | h)
      · exact h
      · rw [h, ← e]; exact (g.mem l).mp (List.mem_of_getLast? hl)
  · obtain ⟨k, hk, e⟩ := g.last v hv
    exact ⟨k, by omega, e⟩
end Pl


end
section
set_option Elab.async false
set_option linter.all false
set_option maxRecDepth 100000
set_option maxHeartbeats 400000
namespace L2
open PySem PySem.Spec PyProof.Rows
/-- the tuples are kept -/
def SameT (H H' : Hp) : Prop := ∀ b xs, H b = some (.tup xs) → H' b = some (.tup xs)
theorem Same.t {H H' : Hp} (s : Same H H') : SameT H H' := fun b xs e => s b _ e
theorem SameT.refl (H : Hp) : SameT H H := fun _ _ e => e
theorem SameT.trans {H H1 H2 : Hp} (a : SameT H H1) (b : SameT H1 H2) : SameT H H2 := fun c xs e => b c xs (a c xs e)
theorem sameT_lst {H : Hp} {D : Addr} {ys zs : List V} (h : H D = some (.lst ys)) : SameT H (upd H D (.lst zs)) := fun b xs e => by
  rw [upd_ne (ne_of e h (by intro z; cases z))]; exact e
/-- .. what is true of the items may look at tuples -/
theorem lcR_ofT {J : It} {te : TE} {σ : St} {H1 : Hp} {Q : VK} (n : Nat) (item : Nat → V → Prop) (P : Hp → Nat → V → Prop) (mono : ∀ H H' i v, SameT H H' → P H i v → P H' i v) (hz : n ≤ sizeLine)
    (hgo : ∀ i H2, i < n → Same H1 H2 → J.go i H2 ∧ ∀ x H', J.yld i H2 x H' → H' = H2 ∧ item i x) (hst : ∀ H2, Same H1 H2 → J.stop n H2)
    (he : ∀ i x H2 (R : VK), item i x → Same H1 H2 → (∀ v H3, P H3 i v → Same H2 H3 → R v H3) → te (some x :: σ) H2 R)
    (hq : ∀ D H2 ys, H1 D = none → Same H1 H2 → H2 D = some (.lst ys) → ys.length = n → (∀ i y, ys[i]? = some y → P H2 i y) → Q (.ref D) H2) : LcR J tYes te σ Q H1 := by
  intro D hD
  refine ⟨fun i m ys H2 => m = n - i ∧ i ≤ n ∧ ys.length = i ∧ H2 D = some (.lst ys) ∧ Same H1 H2 ∧ ∀ j y, ys[j]? = some y → P H2 j y, ⟨_, rfl, Nat.zero_le _, rfl, upd_same, same_upd hD _, fun j y h => by simp at h⟩, ?_⟩
  rintro i m ys H2 ⟨rfl, hi, hl, hd, sm, hp⟩
  refine ⟨hd, ?_⟩
  by_cases hlt : i < n
  · obtain ⟨go, yl⟩ := hgo i H2 hlt sm
    refine .inr ⟨go, by omega, fun x H' y => ?_⟩
    obtain ⟨e, hx⟩ := yl x H' y
    subst e
    unfold tYes
    refine iteT ?_
    refine he i x _ _ hx sm fun v H3 pv s3 => ⟨s3 _ _ hd, n - (i + 1), by omega, rfl, hlt, by rw [List.length_append, hl]; rfl, upd_same, (sm.trans s3).updL hD _, fun j y h => ?_⟩
    have st := sameT_lst (zs := ys ++ [v]) (s3 _ _ hd)
    by_cases hj : j < ys.length
    · rw [List.getElem?_append_left hj] at h
      exact mono _ _ _ _ (s3.t.trans st) (hp j y h)
    · rw [List.getElem?_append_right (by omega)] at h
      have hj2 : j = i := by
        have := (List.getElem?_eq_some_iff.mp h).1
        simp at this
        omega
      subst hj2
      rw [hl] at h
      simp at h
      subst h
      exact mono _ _ _ _ st pv
  · have e : i = n := by omega
    subst e
    exact .inl ⟨hst H2 sm, hq D H2 ys hD sm hd hl hp⟩
theorem lcR_rangeT {te : TE} {σ : St} {H1 : Hp} {Q : VK} {lo : Int} {n : Nat} (P : Hp → Nat → V → Prop) (mono : ∀ H H' i v, SameT H H' → P H i v → P H' i v) (hz : n ≤ sizeLine)
    (he : ∀ (i : Nat) H2 (R : VK), i < n → Same H1 H2 → (∀ v H3, P H3 i v → Same H2 H3 → R v H3) → te (some (.int (lo + i)) :: σ) H2 R)
    (hq : ∀ D H2 ys, H1 D = none → Same H1 H2 → H2 D = some (.lst ys) → ys.length = n → (∀ i y, ys[i]? = some y → P H2 i y) → Q (.ref D) H2) : LcR (Itr lo n) tYes te σ Q H1 :=
  lcR_ofT n (fun i x => i < n ∧ x = .int (lo + i)) P mono hz (fun i H2 hi _ => ⟨hi, fun x H' y => ⟨y.1, hi, y.2⟩⟩) (fun _ _ => Nat.le_refl _) (fun i x H2 R ⟨hi, e⟩ s r => by subst e; exact he i H2 R hi s r) hq
theorem add_assoc (a b c : Str) : a ++ b ++ c = a ++ (b ++ c) := PyProof.Rows.ext_toList (by simp only [PySem.W.KT.app_list, List.append_assoc])
/-- the codes of a number's figures -/
def nd (m : Nat) : List Nat := (Nat.toDigits 10 m).map Char.toNat
end L2


end
section
set_option Elab.async false
set_option linter.all false
set_option maxRecDepth 100000
set_option maxHeartbeats 400000
namespace L2
open PySem PySem.Spec PyProof.Rows
def noStar : Expr → Bool
  | .Starred _ _ => false
  | _ => true
theorem star_cons {e : Expr} {es : List Expr} {env : Env} (h : noStar e = true) : starEach (e :: es) env = (false, eval e env) :: starEach es env := by
  cases e <;> first | rfl | (exact absurd h Bool.false_ne_true)
theorem pa_c {X : Cx} {e : Expr} {es : List Expr} {te : TE} {t : TA} (ha : PE X e te) (hr : PA X es t) (hn : noStar e = true := by rfl) : PA X (e :: es) (tCons te t) := pa_cons ha hr (star_cons hn)
end L2


end
section
set_option Elab.async false
set_option linter.all false
set_option maxRecDepth 100000
set_option maxHeartbeats 400000
namespace L2
open PySem PySem.Spec PyProof.Rows
section
variable {prog : Program} {w : World} {A : Around} {E : Value → Shared → Prop} {s : Shared}
structure ZipAt (h : Heap) (z TI TO i1 i2 : Addr) (f0 : Value) : Prop where
  z : IsZip h z TI TO f0
  ti : IsPair h TI (.ref i1) (.ref i2)
  to : ∃ a b, IsPair h TO a b
theorem ZipAt.same {h h' : Heap} {z TI TO i1 i2 c : Addr} {f0 : Value} (x : ZipAt h z TI TO i1 i2 f0) (sb : Heap.SameBut c h h') (n1 : z ≠ c) (n2 : TI ≠ c) (n3 : TO ≠ c) : ZipAt h' z TI TO i1 i2 f0 :=
  ⟨(sb.2 _ n1).trans x.z, (sb.2 _ n2).trans x.ti, let ⟨a, b, e⟩ := x.to; ⟨a, b, (sb.2 _ n3).trans e⟩⟩
variable {z TI TO i1 i2 : Addr} {fp1 fp2 : List Addr} {n1 n2 i : Nat} {P1 P2 : Nat → Value → Prop} {S1 S2 : Nat → Heap → Prop}
end
end L2


end
section
set_option Elab.async false
set_option linter.all false
set_option maxRecDepth 100000
set_option maxHeartbeats 400000
namespace L2
open PySem PySem.Spec PyProof.Rows
def SqB (tup : Bool) (H : Hp) (a : Addr) (xs : List V) : Prop := H a = some (if tup then .tup xs else .lst xs)
theorem SqB.inj {tup : Bool} {H : Hp} {a : Addr} {xs ys : List V} (h : SqB tup H a xs) (h' : SqB tup H a ys) : xs = ys := by
  unfold SqB at h h'
  rw [h] at h'
  cases tup <;> simpa using h'
def seqName (tup : Bool) : String := if tup then "tuple" else "list"
def SeqAtB (tup : Bool) (h : Heap) (a : Addr) (its : Array Value) : Prop := if tup = true then IsTup h a its else h.IsList a its
def IterB (tup : Bool) (h : Heap) (it a : Addr) (i : Nat) : Prop := if tup = true then h.IsTupleIter it a i else h.IsListIter it a i
theorem SeqAtB.cls {tup : Bool} {h : Heap} {a : Addr} {its : Array Value} (x : SeqAtB tup h a its) : ∃ o, h.get? a = some o ∧ o.cls = .type (seqName tup) := by
  cases tup with
  | true => obtain ⟨o, e, c, _⟩ := (x : IsTup h a its); exact ⟨o, e, c⟩
  | false => obtain ⟨o, e, c, _⟩ := (x : h.IsList a its); exact ⟨o, e, c⟩
theorem IterB.get {tup : Bool} {h : Heap} {it a : Addr} {i : Nat} (x : IterB tup h it a i) : ∃ o, h.get? it = some o ∧ (o.cls = .type "tuple_iterator" ∨ o.cls = .type "list_iterator") ∧ o.data = .fields #[.ref a, .int i 0] := by
  cases tup with
  | true => obtain ⟨o, e, c, d⟩ := (x : h.IsTupleIter it a i); exact ⟨o, e, .inl c, d⟩
  | false => obtain ⟨o, e, c, d⟩ := (x : h.IsListIter it a i); exact ⟨o, e, .inr c, d⟩
theorem IterB.keep {tup : Bool} {h h' : Heap} {it a : Addr} {i : Nat} (x : IterB tup h it a i) (k : ∀ o, h.get? it = some o → h'.get? it = some o) : IterB tup h' it a i := by
  cases tup with
  | true => obtain ⟨o, e, r⟩ := (x : h.IsTupleIter it a i); exact (⟨o, k o e, r⟩ : h'.IsTupleIter it a i)
  | false => obtain ⟨o, e, r⟩ := (x : h.IsListIter it a i); exact (⟨o, k o e, r⟩ : h'.IsListIter it a i)
def ItZ (ta tb : Bool) (a b : Addr) : It :=
  ⟨fun i H => ∃ xs ys x y, SqB ta H a xs ∧ SqB tb H b ys ∧ xs[i]? = some x ∧ ys[i]? = some y,
   fun i H v H' => ∃ T x y, H T = none ∧ v = .ref T ∧ H' = upd H T (.tup [x, y]) ∧ (∀ xs, SqB ta H a xs → xs[i]? = some x) ∧ ∀ ys, SqB tb H b ys → ys[i]? = some y,
   fun i H => ∃ xs, SqB ta H a xs ∧ xs.length = i⟩
section
variable {prog : Program} {w : World} {A : Around} {E : Value → Shared → Prop} {s : Shared}
theorem SeqAtB.keep {tup : Bool} {h h' : Heap} {a : Addr} {its : Array Value} (x : SeqAtB tup h a its) (k : ∀ o, h.get? a = some o → h'.get? a = some o) : SeqAtB tup h' a its := by
  cases tup with
  | true => obtain ⟨o, e, r⟩ := (x : IsTup h a its); exact (⟨o, k o e, r⟩ : IsTup h' a its)
  | false => obtain ⟨o, e, r⟩ := (x : h.IsList a its); exact (⟨o, k o e, r⟩ : h'.IsList a its)
end
section
variable {X : Cx} {ea eb : Expr} {ua ub : TE} {p pos tpos : Pos} {elts : List Expr} {kk : Nat}
def iZip (ta tb : Bool) (ua ub : TE) : TI := fun σ H R => ua σ H fun x H1 => ub σ H1 fun y H2 => ∃ a b xs ys, x = .ref a ∧ y = .ref b ∧ SqB ta H2 a xs ∧ SqB tb H2 b ys ∧ R (ItZ ta tb a b) H2
theorem tFor_zip {ta tb : Bool} {g : TG} {t : TS} {D : Ends} {σ : St} {H : Hp} : tFor (iZip ta tb ua ub) g t D σ H = ua σ H fun x H1 => ub σ H1 fun y H2 => ∃ a b xs ys, x = .ref a ∧ y = .ref b ∧ SqB ta H2 a xs ∧ SqB tb H2 b ys ∧ FoR (ItZ ta tb a b) g t D σ H2 := rfl
end
end L2


end
section
set_option Elab.async false
set_option linter.all false
set_option maxRecDepth 100000
set_option maxHeartbeats 400000
namespace L2
open PySem PySem.Spec PyProof.Rows
section
variable {X : Cx}
end
end L2


end
section
set_option Elab.async false
set_option linter.all false
set_option maxRecDepth 100000
set_option maxHeartbeats 400000
namespace L2
open PySem PySem.Spec PyProof.Rows
section
variable {X : Cx}
def rAll (K : PySem.W.Frag) : List V → Hp → VK → Prop := fun xs H Q => ∃ (a : Addr) (bs : List Bool), xs = [.ref a] ∧ SqL K H a (bs.map V.bl) ∧ Q (.bl (bs.all id)) H
def tDNew : TE := fun _ H Q => ∀ p, H p = none → Q (.ref p) (upd H p (.dK []))
def rEqN (K : PySem.W.Frag) : R2 := fun x y H Q => ∃ a b xs ys, x = .ref a ∧ y = .ref b ∧ SqL K H a xs ∧ SqL K H b ys ∧ ((xs.length ≠ ys.length ∧ Q (.bl false) H) ∨ (xs.all flatV = true ∧ ys.all flatV = true ∧ Q (.bl (eqVs xs ys)) H))
theorem tLc_rng2 {ta : TA} {tt : TT} {te : TE} {σ : St} {H : Hp} {Q : VK} : tLc (iRng2 ta) tt te σ H Q = ta σ H fun vs H1 => ∃ i j : Int, vs = [.int i, .int j] ∧ (-(2 ^ 62) ≤ i ∧ i < 2 ^ 62 ∧ -(2 ^ 62) ≤ j ∧ j < 2 ^ 62) ∧ LcR (Itr i (j - i).toNat) tt te σ Q H1 := rfl
end
end L2


end
section
set_option Elab.async false
set_option linter.all false
set_option maxRecDepth 100000
set_option maxHeartbeats 400000
namespace L2
open PySem PySem.Spec PyProof.Rows
/-- all is kept, but that lists may have other items -/
def SameL (H H' : Hp) : Prop := ∀ b o, H b = some o → H' b = some o ∨ ((∃ xs, o = .lst xs) ∧ ∃ ys, H' b = some (.lst ys))
theorem Same.l {H H' : Hp} (s : Same H H') : SameL H H' := fun b o e => .inl (s b o e)
theorem SameL.refl (H : Hp) : SameL H H := (Same.refl H).l
theorem SameL.trans {H H1 H2 : Hp} (a : SameL H H1) (b : SameL H1 H2) : SameL H H2 := fun c o e => by
  rcases a c o e with h | ⟨⟨xs, rfl⟩, ys, h⟩
  · exact b c o h
  · rcases b c _ h with h' | ⟨_, zs, h'⟩
    · exact .inr ⟨⟨xs, rfl⟩, ys, h'⟩
    · exact .inr ⟨⟨xs, rfl⟩, zs, h'⟩
theorem SameL.tup {H H' : Hp} (s : SameL H H') {b : Addr} {xs : List V} (e : H b = some (.tup xs)) : H' b = some (.tup xs) := by
  rcases s b _ e with h | ⟨⟨ys, h⟩, _⟩
  · exact h
  · cases h
theorem SameL.dK {H H' : Hp} (s : SameL H H') {b : Addr} {xs : List (Key × V)} (e : H b = some (.dK xs)) : H' b = some (.dK xs) := by
  rcases s b _ e with h | ⟨⟨ys, h⟩, _⟩
  · exact h
  · cases h
theorem SameL.lst {H H' : Hp} (s : SameL H H') {b : Addr} {xs : List V} (e : H b = some (.lst xs)) : ∃ ys, H' b = some (.lst ys) := by
  rcases s b _ e with h | ⟨_, ys, h⟩
  · exact ⟨xs, h⟩
  · exact ⟨ys, h⟩
end L2
namespace Th
open PySem L2 Pl
def signB (c : Nat) : Bool := decide (32 ≤ c ∧ c ≤ 126 ∧ c ≠ 37)
def goodZ (z : Str) : Prop := z.length ≤ 60 ∧ ∀ c ∈ z.cps.toList, signB c = true ∨ c = 9 ∨ c = 10
def flatG : V → Prop
  | .non => True
  | .bl _ => True
  | .int _ => True
  | .str z => goodZ z
  | _ => False
/-- what a thing is, n tuples deep -/
def TT : Nat → Hp → V → Prop
  | 0, H, v => flatG v ∨ ∃ a, v = .ref a ∧ ((∃ xs, H a = some (.lst xs)) ∨ H a = some (.dK []) ∨ ∃ xs, H a = some (.tup xs) ∧ xs.length ≤ 60)
  | n + 1, H, v => flatG v ∨ ∃ a, v = .ref a ∧ ((∃ xs, H a = some (.lst xs)) ∨ H a = some (.dK []) ∨ ∃ xs, H a = some (.tup xs) ∧ xs.length ≤ 60 ∧ ∀ u ∈ xs, TT n H u)
theorem TT.mono : ∀ {n : Nat} {H H' : Hp} {v : V}, SameL H H' → TT n H v → TT n H' v
  | 0, H, H', v, s, h => by
    rcases h with h | ⟨a, e, h | h | ⟨xs, h, l⟩⟩
    · exact .inl h
    · obtain ⟨xs, h⟩ := h; exact .inr ⟨a, e, .inl (s.lst h)⟩
    · exact .inr ⟨a, e, .inr (.inl (s.dK h))⟩
    · exact .inr ⟨a, e, .inr (.inr ⟨xs, s.tup h, l⟩)⟩
  | n + 1, H, H', v, s, h => by
    rcases h with h | ⟨a, e, h | h | ⟨xs, h, l, p⟩⟩
    · exact .inl h
    · obtain ⟨xs, h⟩ := h; exact .inr ⟨a, e, .inl (s.lst h)⟩
    · exact .inr ⟨a, e, .inr (.inl (s.dK h))⟩
    · exact .inr ⟨a, e, .inr (.inr ⟨xs, s.tup h, l, fun u hu => TT.mono s (p u hu)⟩)⟩
theorem TT.flat {n : Nat} {H : Hp} {v : V} (h : flatG v) : TT n H v := by cases n <;> exact .inl h
theorem TT.ofT {n : Nat} {H : Hp} {a : Addr} {xs : List V} (h : H a = some (.tup xs)) (l : xs.length ≤ 60) (p : ∀ u ∈ xs, TT n H u) : TT (n + 1) H (.ref a) := .inr ⟨a, rfl, .inr (.inr ⟨xs, h, l, p⟩)⟩
end Th


end
section
set_option Elab.async false
set_option linter.all false
set_option maxRecDepth 100000
set_option maxHeartbeats 400000
namespace L2
open PySem PySem.Spec PyProof.Rows
/-- what the head of its traceback is marked with -/
def HeadIs (h : Heap) (Y : Addr → Prop) (e : Addr) (vs : Array Value) : Option Value → Prop
  | none => vs[1]? = some .none
  | some v => ∃ T oT ts, vs[1]? = some (.ref T) ∧ T ≠ e ∧ (Y T ∧ oT.cls = .type "traceback") ∧ h.get? T = some oT ∧ oT.data = .fields ts ∧ ts[3]? = some v
/-- the exceptions behind an exception: each one's context is the next -/
def Links : List (Addr × Obj) → Value → Prop
  | [], c => c = .none
  | p :: r, c => c = .ref p.1 ∧ ∃ va c', p.2.data = .fields va ∧ va[2]? = some c' ∧ Links r c'
/-- they lie in the heap -/
def Lie (h : Heap) (Y : Addr → Prop) (e : Addr) (ch : List (Addr × Obj)) : Prop := (e :: ch.map (·.1)).Nodup ∧ ∀ p ∈ ch, h.get? p.1 = some p.2 ∧ p.2.cls ≠ .type "traceback" ∧ (∃ va, p.2.data = .fields va) ∧ Y p.1
/-- the record at e, of the class cls, with its dict at dx and the exceptions ch behind it; Y: where the traceback's records may lie -/
def Exc (h : Heap) (Y : Addr → Prop) (e : Addr) (cls : Value) (dx : Option Addr) (ch : List (Addr × Obj)) (fl : Option Value) : Prop :=
  ∃ oe vs, h.get? e = some oe ∧ oe.cls = cls ∧ oe.dict = dx ∧ oe.data = .fields vs ∧ ((∃ c, vs[2]? = some c ∧ Links ch c) ∧ Lie h Y e ch) ∧ HeadIs h Y e vs fl
/-- what stays: all but e and the tracebacks in Y, and the frames' slots -/
structure Stay (Y : Addr → Prop) (e : Addr) (fs : List Addr) (h h' : Heap) : Prop where
  keep : ∀ b o, h.get? b = some o → b ≠ e → ¬ (Y b ∧ o.cls = .type "traceback") → b ∉ fs → h'.get? b = some o
  slot : ∀ b o, h.get? b = some o → (∀ vs, o.data ≠ .fields vs) → ∃ sl, h'.get? b = some { o with slots := sl }
  size : h.objs.size ≤ h'.objs.size
theorem Stay.refl (Y : Addr → Prop) (e : Addr) (fs : List Addr) (h : Heap) : Stay Y e fs h h := ⟨fun _ _ q _ _ _ => q, fun _ o q _ => ⟨o.slots, q⟩, Nat.le_refl _⟩
theorem Stay.trans {Y : Addr → Prop} {e : Addr} {fs : List Addr} {h₁ h₂ h₃ : Heap} (x : Stay Y e fs h₁ h₂) (y : Stay Y e fs h₂ h₃) : Stay Y e fs h₁ h₃ :=
  ⟨fun b o q a c d => y.keep b o (x.keep b o q a c d) a c d, fun b o q n => let ⟨_, e1⟩ := x.slot b o q n; let ⟨sl, e2⟩ := y.slot b _ e1 n; ⟨sl, e2⟩, Nat.le_trans x.size y.size⟩
theorem Stay.funs {Y : Addr → Prop} {e : Addr} {fs : List Addr} {h h' base : Heap} {l : List Env} (x : Stay Y e fs h h') (f : h.FunFrames base l) : h'.FunFrames base l :=
  f.of_keeps fun b o q n => let ⟨sl, e1⟩ := x.slot b o q n; ⟨_, e1, rfl⟩
theorem Lie.stay {Y : Addr → Prop} {e : Addr} {fs : List Addr} {h h' : Heap} {ch : List (Addr × Obj)} (l : Lie h Y e ch) (st : Stay Y e fs h h') (nf : ∀ b ∈ fs, ∃ o, h.get? b = some o ∧ ∀ vs, o.data ≠ .fields vs) : Lie h' Y e ch :=
  ⟨l.1, fun p hp => by
    obtain ⟨q, c, ⟨va, d⟩, y⟩ := l.2 p hp
    refine ⟨st.keep p.1 p.2 q (fun z => ?_) (fun z => c z.2) (fun z => ?_), c, ⟨va, d⟩, y⟩
    · exact (List.nodup_cons.mp l.1).1 (by rw [← z]; exact List.mem_map_of_mem hp)
    · obtain ⟨o, q', n⟩ := nf _ z
      rw [q] at q'; cases q'
      exact n va d⟩
theorem dict_mapF (o : Obj) (f) : (o.mapFields f).dict = o.dict := by
  obtain ⟨c, d, dt, sl⟩ := o; cases dt <;> rfl
/-- a record's field is set -/
theorem stay_set {Y : Addr → Prop} {e a : Addr} {fs : List Addr} {h : Heap} {o : Obj} {vs : Array Value} (i : Nat) (x : Value) (ho : h.get? a = some o) (hd : o.data = .fields vs) (ha : a = e ∨ (Y a ∧ o.cls = .type "traceback")) :
    Stay Y e fs h (h.update a (Obj.mapFields (·.setIfInBounds i x))) where
  keep b u q n1 n2 _ := by
    rw [Heap.get?_update_other _ _ (fun z => by subst z; rw [ho] at q; cases q; exact ha.elim n1 n2)]; exact q
  slot b u q n := ⟨u.slots, by
    rw [Heap.get?_update_other _ _ (fun z => by subst z; rw [ho] at q; cases q; exact n vs hd)]; exact q⟩
  size := by rw [Heap.size_update]; exact Nat.le_refl _
theorem set_get {a : Addr} {h : Heap} {o : Obj} {vs : Array Value} (i : Nat) (x : Value) (ho : h.get? a = some o) (hd : o.data = .fields vs) :
    (h.update a (Obj.mapFields (·.setIfInBounds i x))).get? a = some (o.mapFields (·.setIfInBounds i x)) := Heap.get?_update_self _ ho (Obj.isFreed_of_fields (Obj.data_mapFields hd _))
section
variable {M : Model} {A : Around} {E : Value → Shared → Prop} {s : Shared} {Y : Addr → Prop} {base : Heap} {env : Env} {outer : List Env} {L e : Addr} {cls : Value} {dx : Option Addr} {ch : List (Addr × Obj)} {fl : Option Value} {Q : Unit → Shared → Prop}
/-- the mark is taken away -/
theorem land_ok {fs : List Addr} {v : Value} (nf : ∀ b ∈ fs, ∃ o, s.heap.get? b = some o ∧ ∀ vs, o.data ≠ .fields vs) (x : Exc s.heap Y e cls dx ch (some v)) (q : ∀ h', Stay Y e fs s.heap h' → Exc h' Y e cls dx ch (some .none) → Q () { s with heap := h' }) : wpAny M A (setFlight (.ref e) none) Q E s := by
  obtain ⟨oe, vs, he, hc, hdx, hd, ⟨lk, ll⟩, T, oT, ts, h1, hTe, hY, hT, hdT, h3⟩ := x
  unfold setFlight
  refine wpAny_bind (wpAny_field he hd h1 ?_)
  rw [if_pos (show (Value.ref T != Value.none) = true from by simp)]
  have hsz : 3 < ts.size := (Array.getElem?_eq_some_iff.mp h3).1
  have st := stay_set (Y := Y) (e := e) (fs := fs) 3 ((none : Option Addr).elim Value.none fun f => rawInt f) hT hdT (.inr hY)
  refine wpAny_setField hT hdT hsz (q _ st ⟨oe, vs, ?_, hc, hdx, hd, ⟨lk, ll.stay st nf⟩, T, _, _, h1, hTe, ⟨hY.1, (Obj.cls_mapFields _ _).trans hY.2⟩, set_get 3 _ hT hdT, Obj.data_mapFields hdT _, ?_⟩)
  · rw [Heap.get?_update_other _ _ hTe]; exact he
  · simp [hsz]
/-- a new head for the traceback -/
theorem entry_ok {head : Value} {hadNext : Bool} (hfr : A.frames = some (env :: outer)) (hl : s.heap.FunFrames base (env :: outer)) (hf : env.frame = some L) (hy : ∀ b, s.heap.objs.size ≤ b → Y b) {oe : Obj} {vs : Array Value}
    (he : s.heap.get? e = some oe) (hc : oe.cls = cls) (hdx : oe.dict = dx) (hd : oe.data = .fields vs) (hsz : 1 < vs.size) (lk : ∃ c, vs[2]? = some c ∧ Links ch c) (ll : Lie s.heap Y e ch)
    (q : ∀ h', Stay Y e (frs (env :: outer)) s.heap h' → Exc h' Y e cls dx ch (some (rawInt L)) → Q () { s with heap := h' }) :
    wpAny M A (do let a ← frameOf env; let pl ← entryPlaceOf L hadNext; let b ← EntryCells.newEntry head a .none (rawInt L) .none pl; setField (.ref e) 1 b) Q E s := by
  refine wpAny_bind (wpAny_frameOf_fun hfr hl hf fun h₁ hs => ?_)
  refine wpAny_bind (wpAny_entryPlaceOf fun pl hpl => ?_)
  unfold EntryCells.newEntry newFields
  refine wpAny_bind (wpAny_newObj_type ?_ (hpl.sizeOk5 _ _ _ _ _))
  have hef : e ∉ frs (env :: outer) := fun hm => by
    obtain ⟨_, o, ho, hn⟩ := hl.mem hm
    rw [he] at ho; cases ho; exact hn vs hd
  have he1 : h₁.get? e = some oe := (hs.2.1 e hef).trans he
  have hne : h₁.objs.size ≠ e := Nat.ne_of_gt (Heap.lt_size he1)
  generalize htb : ({ cls := .type "traceback", dict := none, data := .fields ([head, .ref L, .none, rawInt L, .none] ++ (if pl.isEmpty then List.replicate 6 Value.none else pl)).toArray } : Obj) = tb
  have htd : tb.data = .fields ([head, .ref L, .none, rawInt L, .none] ++ (if pl.isEmpty then List.replicate 6 Value.none else pl)).toArray := by rw [← htb]
  have hfr' : tb.isFreed = false := Obj.isFreed_of_fields htd
  have he2 : (h₁.push tb).get? e = some oe := Heap.get?_push_of_some _ he1
  have hY : Y h₁.objs.size := hy _ (by rw [hs.1]; exact Nat.le_refl _)
  have htc : tb.cls = .type "traceback" := by rw [← htb]
  have st : Stay Y e (frs (env :: outer)) s.heap ((h₁.push tb).update e (Obj.mapFields (·.setIfInBounds 1 (Value.ref h₁.objs.size)))) := by
    refine Stay.trans ?_ (stay_set 1 _ he2 hd (.inl rfl))
    refine ⟨fun b o g _ _ n => Heap.get?_push_of_some _ ((hs.2.1 b n).trans g), fun b o g _ => ?_, ?_⟩
    · obtain ⟨sl, g1⟩ := hs.2.2 b o g
      exact ⟨sl, Heap.get?_push_of_some _ g1⟩
    · rw [← hs.1]; cases h₁; simp [Heap.push]
  refine wpAny_setField he2 hd hsz (q _ st ⟨_, _, set_get 1 _ he2 hd, (Obj.cls_mapFields _ _).trans hc, (dict_mapF _ _).trans hdx, Obj.data_mapFields hd _, ⟨?_, ll.stay st fun b hb => (hl.mem hb).2⟩, h₁.objs.size, tb, _, by simp [hsz], hne, ⟨hY, htc⟩, ?_, htd, ?_⟩)
  · obtain ⟨c, h2, l⟩ := lk
    exact ⟨c, by rw [Array.getElem?_setIfInBounds_ne (by decide)]; exact h2, l⟩
  · rw [Heap.get?_update_other _ _ (Ne.symm hne)]; exact Heap.get?_push_size _ hfr'
  · first | (simp; done) | (rcases hpl with rfl | ⟨_, _, _, _, _, _, _, rfl⟩ <;> simp)
/-- the frame is noted -/
theorem note_ok (hfr : A.frames = some (env :: outer)) (hl : s.heap.FunFrames base (env :: outer)) (hf : env.frame = some L) (hy : ∀ b, s.heap.objs.size ≤ b → Y b) (x : Exc s.heap Y e cls dx ch fl) (hfl : fl = none ∨ fl = some .none)
    (q : ∀ h', Stay Y e (frs (env :: outer)) s.heap h' → Exc h' Y e cls dx ch (some (rawInt L)) → Q () { s with heap := h' }) : wpAny M A (noteFrame (.ref e) env) Q E s := by
  obtain ⟨oe, vs, he, hc, hdx, hd, ⟨lk, ll⟩, hh⟩ := x
  unfold noteFrame
  simp only [hf]
  rcases hfl with rfl | rfl
  · have h1 : vs[1]? = some .none := hh
    refine wpAny_bind (wpAny_field he hd h1 ?_)
    rw [if_neg (by decide)]
    exact entry_ok hfr hl hf hy he hc hdx hd (Array.getElem?_eq_some_iff.mp h1).1 lk ll q
  · obtain ⟨T, oT, ts, h1, hTe, hY, hT, hdT, h3⟩ := hh
    refine wpAny_bind (wpAny_field he hd h1 ?_)
    rw [if_pos (show (Value.ref T != Value.none) = true from by simp)]
    refine wpAny_bind (wpAny_field hT hdT h3 ?_)
    rw [if_neg (show ¬ ((Value.none == rawInt L) = true) from by simp [rawInt])]
    refine wpAny_bind (wpAny_setField hT hdT (Array.getElem?_eq_some_iff.mp h3).1 ?_)
    have st : Stay Y e (frs (env :: outer)) s.heap (s.heap.update T (Obj.mapFields (·.setIfInBounds 3 Value.none))) := stay_set 3 _ hT hdT (.inr hY)
    refine entry_ok (s := { s with heap := s.heap.update T (Obj.mapFields (·.setIfInBounds 3 Value.none)) }) hfr (st.funs hl) hf (fun b hb => hy b (Nat.le_trans st.size hb)) ((Heap.get?_update_other _ _ hTe).trans he) hc hdx hd (Array.getElem?_eq_some_iff.mp h1).1 lk (ll.stay st fun b hb => (hl.mem hb).2) fun h' t x' => q h' (st.trans t) x'
/-- it leaves a frame -/
theorem leave_ok (hfr : A.frames = some (env :: outer)) (hl : s.heap.FunFrames base (env :: outer)) (hf : env.frame = some L) (hy : ∀ b, s.heap.objs.size ≤ b → Y b) (x : Exc s.heap Y e cls dx ch fl) (hfl : fl = none ∨ fl = some .none)
    (q : ∀ h', Stay Y e (frs (env :: outer)) s.heap h' → Exc h' Y e cls dx ch (some .none) → Q () { s with heap := h' }) : wpAny M A (leaving env (.ref e)) Q E s := by
  unfold leaving
  refine wpAny_bind (note_ok hfr hl hf hy x hfl fun h₁ st x1 => ?_)
  exact land_ok (s := { s with heap := h₁ }) (fs := frs (env :: outer)) (fun b hb => ((st.funs hl).mem hb).2) x1 fun h₂ st2 x2 => q h₂ (st.trans st2) x2
end
end L2


end
section
set_option Elab.async false
set_option linter.all false
set_option maxRecDepth 100000
set_option maxHeartbeats 400000
namespace L2
open PySem PySem.Spec PyProof.Rows
theorem Exc.mono {h : Heap} {Y Y' : Addr → Prop} {e : Addr} {cls : Value} {dx : Option Addr} {ch : List (Addr × Obj)} {fl : Option Value} (x : Exc h Y e cls dx ch fl) (k : ∀ b, Y b → Y' b) : Exc h Y' e cls dx ch fl := by
  obtain ⟨oe, vs, he, hc, hdx, hd, ⟨lk, l1, l2⟩, hh⟩ := x
  refine ⟨oe, vs, he, hc, hdx, hd, ⟨lk, l1, fun p hp => let ⟨a, b, c, d⟩ := l2 p hp; ⟨a, b, c, k _ d⟩⟩, ?_⟩
  cases fl with
  | none => exact hh
  | some v => obtain ⟨T, oT, ts, h1, h2, h3, r⟩ := hh; exact ⟨T, oT, ts, h1, h2, ⟨k T h3.1, h3.2⟩, r⟩
/-- young and not tracked -/
def Yg (old : Heap) (H : Hp) (b : Addr) : Prop := old.get? b = none ∧ H b = none
/-- how an exception lies behind a call -/
def CX1 (P : Program) (w : World) : CXT := fun outer H s E e s' => ∃ ea cls dx ch H', e = .ref ea ∧ s'.os = s.os ∧ AllBare s'.gens ∧ Un (frs outer) [] H H' s.heap s'.heap ∧ HOk P w H' s'.heap ∧
  Exc s'.heap (Yg s.heap H') ea cls dx ch (some .none) ∧ s.heap.get? ea = none ∧ H' ea = none ∧ E cls dx H'
/-- what is thrown in the body reaches the wish -/
def Throws (X : Cx) (E : XK) : Prop := ∀ (pins : List (Addr × Obj)) (σ : St) (H : Hp) (s : Shared) (e : Addr) (cls : Value) (dx : Option Addr) (ch : List (Addr × Obj)) (fl : Option Value), Inv X pins σ H s → Exc s.heap (Yg X.s₀.heap H) e cls dx ch fl → (fl = none ∨ fl = some .none) →
  X.s₀.heap.get? e = none → H e = none → E cls dx H → X.xe (.ref e) s
section
variable {X : Cx} {E : XK} {pins : List (Addr × Obj)} {σ : St} {H : Hp} {s : Shared}
theorem Inv.young (I : Inv X pins σ H s) (hx : X.ex = []) {b : Addr} (h : s.heap.get? b = none) : X.s₀.heap.get? b = none := by
  cases q : X.s₀.heap.get? b with
  | none => rfl
  | some o =>
    obtain ⟨o', e⟩ := I.base.there b o q (by rw [hx]; simp)
    rw [h] at e; cases e
theorem frs_cons {env : Env} {outer : List Env} {L : Addr} (h : env.frame = some L) : frs (env :: outer) = L :: frs outer := by unfold frs; rw [List.filterMap_cons, h]
end
section
variable {P : Program} {w : World} {K : PySem.W.Frag} {mg : Str → Option Value} {base : Heap} {N : List Str} {qual : Str} {scope : Scope} {f : Addr} {cd : Value} {A : Around} {outer : List Env} {s : Shared} {H : Hp} {E : XK}
theorem throws0 : Throws (cxOf (CX1 P w) P w K mg base N qual scope f cd A outer s H E) E := by
  intro pins σ H' s' e cls dx ch fl I x hfl n1 n2 hE
  have n1 : s.heap.get? e = none := n1
  have fr : frs (envOfC qual scope s.heap.objs.size f cd :: outer) = s.heap.objs.size :: frs outer := frs_cons rfl
  have stk : s'.heap.FunFrames base (envOfC qual scope s.heap.objs.size f cd :: outer) := I.stack
  have sf : ∀ b ∈ frs (envOfC qual scope s.heap.objs.size f cd :: outer), H' b = none := I.stkFree
  have ib : Un (frs outer) [] H H' s.heap s'.heap := I.base
  show wpAny (model P w) _ (leaving _ (.ref e)) _ _ s'
  refine leave_ok (base := base) (Y := Yg s.heap H') (L := s.heap.objs.size) (fl := fl) I.ok.frames stk rfl (fun b hb => ⟨Heap.get?_none_of_le (Nat.le_trans I.sz hb), I.hok.fresh hb⟩) x hfl fun h' st x' => ?_
  have nf : ∀ b o, s.heap.get? b = some o → b ∉ frs outer → b ∉ frs (envOfC qual scope s.heap.objs.size f cd :: outer) := fun b o q hb hm => by
    rw [fr] at hm
    rcases List.mem_cons.mp hm with z | z
    · rw [z] at q; exact absurd (Heap.lt_size q) (Nat.lt_irrefl _)
    · exact hb z
  have ne : ∀ b o, s.heap.get? b = some o → b ≠ e := fun b o q z => by rw [z, n1] at q; cases q
  have ny : ∀ b o (o' : Obj), s.heap.get? b = some o → ¬ (Yg s.heap H' b ∧ o'.cls = .type "traceback") := fun b o o' q y => by rw [y.1.1] at q; cases q
  refine ⟨e, cls, dx, ch, H', rfl, I.os, I.bare, ⟨fun b o q n hb hx => ?_, fun b o q n hb hx => ?_, ib.free, fun b o q hx => ?_, ib.tups, ib.frzs, ib.tbls⟩, fun b u eb => ?_, x', n1, n2, hE⟩
  · exact st.keep b o (ib.keep b o q n hb hx) (ne b o q) (ny b o _ q) (nf b o q hb)
  · obtain ⟨sl, q1⟩ := ib.slot b o q n hb hx
    obtain ⟨_, o2, q2, hn⟩ := stk.mem (show b ∈ frs _ by rw [fr]; exact List.mem_cons_of_mem _ hb)
    rw [q1] at q2; cases q2
    obtain ⟨sl', q3⟩ := st.slot b _ q1 hn
    exact ⟨sl', q3⟩
  · obtain ⟨o', q1⟩ := ib.there b o q hx
    by_cases hn : ∀ vs, o'.data ≠ .fields vs
    · obtain ⟨sl, q2⟩ := st.slot b o' q1 hn
      exact ⟨_, q2⟩
    · refine ⟨o', st.keep b o' q1 (ne b o q) (ny b o _ q) fun hm => ?_⟩
      obtain ⟨_, o2, q2, hn2⟩ := stk.mem hm
      rw [q1] at q2; cases q2
      exact hn hn2
  · refine (I.hok b u eb).stay (fun c v hc q => ?_) (fun _ q => q) fun _ _ q => q
    have hc' : H' c ≠ none := by
      rcases hc with z | z
      · rw [z, eb]; simp
      · rw [z]; simp
    exact st.keep c v q (fun z => hc' (by rw [z]; exact n2)) (fun y => hc' y.1.2) fun hm => hc' (sf c hm)
end
theorem ObjOk.obj {P : Program} {w : World} {H : Hp} {h : Heap} {a : Addr} {o : HO} (x : ObjOk P w H h a o) : ∃ ob, h.get? a = some ob := by
  cases o with
  | lst xs => obtain ⟨_, _, _, _, e⟩ := x; exact ⟨_, e⟩
  | tup xs => obtain ⟨_, _, _, p⟩ := x; obtain ⟨o, e, _⟩ := p; exact ⟨_, e⟩
  | dK kvs => obtain ⟨_, _, _, _, o, _, _, e, _⟩ := x; exact ⟨_, e⟩
  | dT kvs => obtain ⟨_, _, _, _, o, _, _, e, _⟩ := x; exact ⟨_, e⟩
  | set S n => obtain ⟨o, _, _, _, e, _⟩ := x; exact ⟨_, e⟩
  | ins C dx fs => obtain ⟨_, _, _, e, _⟩ := x; exact ⟨_, e⟩
  | own y => exact x
  | xd fs => obtain ⟨_, ⟨_, _, _, e, _⟩, _⟩ := x; exact ⟨_, e⟩
  | rng lo hi => obtain ⟨_, _, _, e⟩ := x; exact ⟨_, e⟩
  | frz ob u => obtain ⟨e, _⟩ := x; exact ⟨_, e⟩
  | tbl ps => exact ⟨_, x⟩
  | met f y => exact ⟨_, x⟩
  | ext φ => obtain ⟨_, e, _⟩ := x; exact e
theorem HOk.none_of {P : Program} {w : World} {H : Hp} {h : Heap} {a : Addr} (x : HOk P w H h) (e : h.get? a = none) : H a = none := by
  cases q : H a with
  | none => rfl
  | some u => obtain ⟨o, e'⟩ := (x a u q).obj; rw [e] at e'; cases e'
/-- an own class of exceptions, its bases' row bm; behind the own ones bmB -/
structure ExcC (K : PySem.W.Frag) (C : Addr) (bm bmB : List Value) (newId : String) : Prop where
  ex : ∃ nm q N bs hdct sn sub ab col dd k0 k1 k2 k3 k5, K.lookup C = some (excClassObj nm q C N bs bm hdct sn sub ab col dd k0 k1 k2 k3 k5 newId) ∧ PySem.W.nsOkIn K N = true ∧ PySem.W.nsIn K N "__init__" = some none
  tail : PySem.W.tailIn K bmB bm = true
section
variable {X : Cx} {E : XK} {x : Str} {C : Addr} {bm bmB : List Value} {B newId initId : String} {np cpos pos : Pos}
end
end L2


end
section
set_option Elab.async false
set_option linter.all false
set_option maxRecDepth 100000
set_option maxHeartbeats 400000
namespace L2
open PySem PySem.Spec PyProof.Rows
/-- what was there ahead of the call: all of the entry, all that is pinned -/
structure Old (X : Cx) (pins : List (Addr × Obj)) (old : Heap) : Prop where
  ent : ∀ b, old.get? b = none → X.s₀.heap.get? b = none
  pin : ∀ p ∈ X.pn ++ pins, old.get? p.1 ≠ none
def X1P (X : Cx) (pins : List (Addr × Obj)) (σ : St) (E : XK) (ev : Value) (s' : Shared) : Prop :=
  ∃ ea cls dx ch H' old, ev = .ref ea ∧ Inv X pins σ H' s' ∧ Exc s'.heap (Yg old H') ea cls dx ch (some .none) ∧ Old X pins old ∧ (∀ b, s'.heap.objs.size ≤ b → old.get? b = none) ∧ old.get? ea = none ∧ H' ea = none ∧ E cls dx H'
abbrev TE1 := St → Hp → VK → XK → Prop
abbrev TS1 := Ends → St → Hp → XK → Prop
def PE1 (X : Cx) (e : Expr) (t : TE1) : Prop :=
  ∀ (pins : List (Addr × Obj)) (s : Shared) (σ : St) (H : Hp) (Q : VK) (E : XK), Inv X pins σ H s → t σ H Q E → wpAny (model X.prog X.w) X.A (eval e X.env) (EP X pins σ Q) (X1P X pins σ E) s
def PS1 (X : Cx) (st : Stmt) (t : TS1) : Prop :=
  ∀ (pins : List (Addr × Obj)) (s : Shared) (σ : St) (H : Hp) (D : Ends) (E : XK), Inv X pins σ H s → t D σ H E → wpAny (model X.prog X.w) X.A (exec st X.env) (SP X pins D) (X1P X pins σ E) s
section
variable {X : Cx} {E : XK} {e : Expr} {es : List Expr} {t : TA} {t1 : TE1} {x : Str} {p pos : Pos} {k j : Nat} {f : Addr} {fd : FuncData} {ps : List Str} {sp : Sp}
theorem X1P.thrown {pins : List (Addr × Obj)} {σ : St} {ev : Value} {s' : Shared} (T : Throws X E) (h : X1P X pins σ E ev s') : X.xe ev s' := by
  obtain ⟨ea, cls, dx, ch, H', old, rfl, I, y, o, _, n1, n2, hE⟩ := h
  exact T pins σ H' s' ea cls dx ch _ I (y.mono fun b z => ⟨o.ent b z.1, z.2⟩) (.inr rfl) (o.ent _ n1) n2 hE
theorem PE1.pe (h : PE1 X e t1) (T : Throws X E) : PE X e (fun σ H Q => t1 σ H Q E) := fun pins s σ H Q I q => wpAny_mono (h pins s σ H Q E I q) (fun _ _ z => z) fun _ _ z => z.thrown T
theorem Inv.old {pins : List (Addr × Obj)} {σ : St} {H : Hp} {s : Shared} (I : Inv X pins σ H s) (hex : X.ex = []) : Old X pins s.heap :=
  ⟨fun b h => I.young hex h, fun p hp h => by rw [(I.pin p hp).1] at h; cases h⟩
/-- the callee runs -/
theorem run_fn1 {pins : List (Addr × Obj)} {σ : St} {H : Hp} {s : Shared} {Q : VK} {us : List Value} {vs : List V} (F : FnOk X.prog X.w X.K X.mg X.base (CX1 X.prog X.w) k f fd ps sp) (hr : Room k X.A) (hb : Binds X.K fd ps []) (hex : X.ex = [])
    (I : Inv X pins σ H s) (r : Vals vs us) (h : sp vs H Q E) : wpAny (model X.prog X.w) X.A (call (.ref f) us) (EP X pins σ Q) (X1P X pins σ E) s := by
  have hl : (us ++ []).length = ps.length := by rw [List.append_nil, ← r.length]; exact F.len _ _ _ _ h
  have b := hb s us I.kIn hl
  rw [List.append_nil] at b
  refine wpAny_call (codeAny_mono (F.run X.A X.stack s H ⟨us, []⟩ us vs Q E hr I.env0 b r h) fun res s' hq => ?_)
  cases res with
  | error ev =>
    obtain ⟨ea, cls, dx, ch, H', rfl, os, bare, un, hok, y, n1, n2, hE⟩ := hq
    refine ⟨ea, cls, dx, ch, H', s.heap, rfl, I.call' (ch := []) os un hok bare (fun b z => absurd z (by simp)), y, I.old hex, fun b hb => ?_, n1, n2, hE⟩
    cases q : s.heap.get? b with
    | none => rfl
    | some u =>
      obtain ⟨u', q'⟩ := un.there b u q (by simp)
      exact absurd (Nat.lt_of_lt_of_le (Heap.lt_size q') hb) (Nat.lt_irrefl _)
  | ok fl =>
    cases fl with
    | ret u => exact I.after hq
    | next => exact False.elim hq
    | brk => exact False.elim hq
    | cont => exact False.elim hq
def tCall1 (sp : Sp) (t : TA) : TE1 := fun σ H Q E => t σ H fun vs H1 => sp vs H1 Q E
theorem pa_nox {pins : List (Addr × Obj)} {σ : St} {H : Hp} {s : Shared} {Q : List V → Hp → Prop} {W : Value → Shared → Prop} (ha : PA X.nox es t) (I : Inv X pins σ H s) (q : t σ H Q) : wpAny (model X.prog X.w) X.A (spliced (backTo pos (starEach es X.env))) (AP X pins σ Q) W s :=
  wpAny_mono (ha pos pins s σ H Q (I.wish _) q) (fun _ _ ⟨vs, H', I', r, z⟩ => ⟨vs, H', I'.unwish, r, z⟩) fun _ _ z => False.elim z
theorem ps1_expr (h : PE1 X e t1) (hs : swapsWith e none pos.line X.env = pure false := by rfl) : PS1 X (.Expr e pos) (fun D σ H E => t1 σ H (fun _ H1 => D.nx σ H1) E) := fun pins s σ H D E I q =>
  wpAny_Expr_any (thn (h pins s σ H _ E I q) fun v s1 ⟨x, H1, I1, r1, q1⟩ => ⟨σ, H1, I1, q1⟩) I.quiet hs
end
section
variable {X : Cx} {pins : List (Addr × Obj)} {σ : St} {H : Hp} {s : Shared}
theorem ns_slot {h h' : Heap} {a : Addr} {m : Str → Option Value} (hn : h.Ns a m) (k : ∀ o, h.get? a = some o → (∀ vs, o.data ≠ .fields vs) → ∃ sl, h'.get? a = some { o with slots := sl }) : h'.Ns a m := by
  obtain ⟨o, es, ep, ho, hd, r⟩ := hn
  obtain ⟨sl, e⟩ := k o ho fun vs q => by rw [hd] at q; cases q
  exact ⟨_, es, ep, e, hd, r⟩
/-- the exception's own records and the frames' slots have changed -/
theorem Inv.stayed {old h' : Heap} {e : Addr} (I : Inv X pins σ H s) (hex : X.ex = []) (o : Old X pins old) (n1 : old.get? e = none) (n2 : H e = none) (st : Stay (Yg old H) e (frs X.stack) s.heap h') : Inv X pins σ H { s with heap := h' } := by
  have ne : ∀ b, X.s₀.heap.get? b ≠ none → b ≠ e := fun b q z => q (by rw [z]; exact o.ent _ n1)
  have ny : ∀ b (u : Obj), X.s₀.heap.get? b ≠ none → ¬ (Yg old H b ∧ u.cls = .type "traceback") := fun b _ q y => q (o.ent _ y.1.1)
  have sub : ∀ b, b ∈ frs X.stack → b = X.env.locals ∨ b ∈ X.fs := fun b hb => List.mem_cons.mp (I.stkSub b hb)
  have nl : ∀ b u, X.s₀.heap.get? b = some u → b ≠ X.env.locals := fun b u q => Nat.ne_of_lt (Nat.lt_of_lt_of_le (Heap.lt_size q) I.ok.above)
  have xn : ∀ b : Addr, b ∉ X.ex := fun b z => by rw [hex] at z; exact absurd z (by simp)
  have ck : ∀ c v, s.heap.IsCell c v → ({ s with heap := h' } : Shared).heap.IsCell c v := fun c v ⟨oc, hc, hd⟩ => by
    obtain ⟨sl, q⟩ := st.slot c oc hc fun vs z => by rw [hd] at z; cases z
    exact ⟨_, q, hd⟩
  refine ⟨I.ok, I.os, I.bare, ⟨fun b u q n hb hx => ?_, fun b u q n hb hx => ?_, I.base.free, fun b u q hx => ?_, I.base.tups, I.base.frzs, I.base.tbls⟩, ?_, fun y c q => ?_, I.free, I.freeC, fun p hp => ?_, fun b u eb => ?_, I.len⟩
  · exact st.keep b u (I.base.keep b u q n hb hx) (ne b (by rw [q]; simp)) (ny b _ (by rw [q]; simp)) fun hm => (sub b hm).elim (nl b u q) hb
  · obtain ⟨sl, q1⟩ := I.base.slot b u q n hb hx
    obtain ⟨_, o2, q2, hn⟩ := I.ok.funs.mem hb
    rw [q] at q2; cases q2
    obtain ⟨sl', q3⟩ := st.slot b _ q1 hn
    exact ⟨sl', q3⟩
  · obtain ⟨u', q1⟩ := I.base.there b u q hx
    by_cases hn : ∀ vs, u'.data ≠ .fields vs
    · obtain ⟨sl, q2⟩ := st.slot b u' q1 hn
      exact ⟨_, q2⟩
    · refine ⟨u', st.keep b u' q1 (ne b (by rw [q]; simp)) (ny b _ (by rw [q]; simp)) fun hm => ?_⟩
      obtain ⟨_, o2, q2, hn2⟩ := I.stack.mem hm
      rw [q1] at q2; cases q2
      exact hn hn2
  · obtain ⟨m, hn, hl⟩ := I.loc
    refine ⟨m, ns_slot hn fun u q n => st.slot _ u q n, fun i y v e1 e2 e3 => ?_⟩
    obtain ⟨u, r, l⟩ := hl i y v e1 e2 e3
    refine ⟨u, r, ?_⟩
    rcases l with l | ⟨k, c, ec, z⟩
    · exact .inl l
    · exact .inr ⟨k, c, ec, ck c _ z⟩
  · obtain ⟨v, z⟩ := I.cell y c q
    exact ⟨v, ck c v z⟩
  · obtain ⟨q, n, a, b, d⟩ := I.pin p hp
    have hq := o.pin p hp
    exact ⟨st.keep p.1 p.2 q (fun z => hq (by rw [z]; exact n1)) (fun y => hq y.1.1) fun hm => (sub p.1 hm).elim a b, n, a, b, d⟩
  · refine (I.hok b u eb).stay (fun c v hc q => ?_) (fun _ q => q) fun _ _ q => q
    have hc' : H c ≠ none := by
      rcases hc with z | z
      · rw [z, eb]; simp
      · rw [z]; simp
    exact st.keep c v q (fun z => hc' (by rw [z]; exact n2)) (fun y => hc' y.1.2) fun hm => hc' (I.stkFree c hm)
/-- within an except suite: the exception at ea is held; it and those behind it are pinned -/
abbrev Cx.held (X : Cx) (ea : Addr) (ps : List (Addr × Obj)) : Cx := { X with A := X.A.mark (some (.ref ea)), calm := false, pn := ps ++ X.pn }
theorem Inv.held {ea : Addr} {ps : List (Addr × Obj)} (I : Inv X pins σ H s) (h : ∀ p ∈ ps, s.heap.get? p.1 = some p.2 ∧ H p.1 = none ∧ p.1 ≠ X.env.locals ∧ p.1 ∉ X.fs ∧ ∀ v, p.2.data ≠ .cell v) : Inv (X.held ea ps) pins σ H s :=
  ⟨⟨I.ok.mod, I.ok.kind, I.ok.glob, I.ok.blt, I.ok.above, I.ok.inj, I.ok.has, I.ok.cab, (fun h => by cases h), I.ok.frames, I.ok.stk, I.ok.exf, I.ok.bs, I.ok.bsz, I.ok.noex, I.ok.exfs, I.ok.funs, I.ok.frf⟩, I.os, I.bare, I.base, I.loc, I.cell, I.free, I.freeC, fun p hp => by
    have hp : p ∈ (ps ++ X.pn) ++ pins := hp
    rw [List.append_assoc] at hp
    exact (List.mem_append.mp hp).elim (h p) (I.pin p), I.hok, I.len⟩
theorem Inv.unheld {ea : Addr} {ps : List (Addr × Obj)} (I : Inv (X.held ea ps) pins σ H s) (ok : X.Ok) : Inv X pins σ H s := ⟨ok, I.os, I.bare, I.base, I.loc, I.cell, I.free, I.freeC, fun p hp => I.pin p (by show p ∈ (ps ++ X.pn) ++ pins; rw [List.append_assoc]; exact List.mem_append_right _ hp), I.hok, I.len⟩
theorem Throws.held {E : XK} (T : Throws X E) (ok : X.Ok) (ea : Addr) (ps : List (Addr × Obj)) : Throws (X.held ea ps) E := fun pins σ H s e cls dx ch fl I y hf n1 n2 hE => T pins σ H s e cls dx ch fl (I.unheld ok) y hf n1 n2 hE
end
section
variable {X : Cx} {st b₀ : Stmt} {suite : List Stmt} {t1 : TS1} {ts : TS} {x : Str} {C : Addr} {bm bmB : List Value} {B newId initId : String} {np hpos pos : Pos}
end
end L2


end
section
set_option Elab.async false
set_option linter.all false
set_option maxRecDepth 100000
set_option maxHeartbeats 400000
namespace L2
open PySem PySem.Spec PyProof.Rows
section
variable {prog : Program} {w : World} {A : Around} {s : Shared} {R : Result → Shared → Prop} {value : Value}
end
section
variable {M : Model} {A : Around} {E : Value → Shared → Prop} {env : Env}
variable {nm q : Str} {C N : Addr} {bs bm : List Value} {hdct : Bool} {sn : List Str} {sub : List Value} {ab : Bool} {col : Option Bool} {dd : Option Addr} {k0 k1 k2 k3 k5 : Option Value} {newId : String}
end
section
variable {X : Cx} {E : XK} {x : Str} {C ea : Addr} {ps : List (Addr × Obj)} {bm bmB : List Value} {B newId initId : String} {np cpos kpos pos : Pos} {j : Nat}
end
end L2


end
section
set_option Elab.async false
set_option linter.all false
set_option maxRecDepth 100000
set_option maxHeartbeats 400000
namespace L2
open PySem PySem.Spec PyProof.Rows
/-- a function at f, with its promise -/
def FnV (P : Program) (w : World) (K : PySem.W.Frag) (mg : Str → Option Value) (base : Heap) (k : Nat) (f : Addr) (n : Nat) (sp : Sp) : Prop :=
  ∃ fd ps, FnOk P w K mg base (CX1 P w) k f fd ps sp ∧ Binds K fd ps [] ∧ PySem.W.keepIn K (.ref f) = true ∧ ps.length = n
theorem FnV.mono {P : Program} {w : World} {K : PySem.W.Frag} {mg : Str → Option Value} {base : Heap} {j k : Nat} {f : Addr} {n : Nat} {sp : Sp} (h : FnV P w K mg base j f n sp) (hj : j ≤ k) : FnV P w K mg base k f n sp := by
  obtain ⟨fd, ps, F, b, kp, l⟩ := h
  exact ⟨fd, ps, F.mono hj, b, kp, l⟩
/-- a method of the class at C, with its promise -/
def MeV (P : Program) (w : World) (K : PySem.W.Frag) (mg : Str → Option Value) (base : Heap) (k : Nat) (C : Addr) (m : Str) (sp : Sp) : Prop :=
  ∃ f fd ps, Meth K C m f ∧ FnOk P w K mg base (CX1 P w) k f fd ps sp ∧ Binds K fd ps []
section
variable {X : Cx} {C : Addr} {m x : Str} {k i : Nat} {sp : Sp} {ta : TE} {t : TA} {e o : Expr} {es : List Expr} {p pos apos : Pos} {pl : Sem Bool}
theorem pe_noxW {pins : List (Addr × Obj)} {σ : St} {H : Hp} {s : Shared} {Q : VK} {W : Value → Shared → Prop} (h : PE X.nox e ta) (I : Inv X pins σ H s) (q : ta σ H Q) : wpAny (model X.prog X.w) X.A (eval e X.env) (EP X pins σ Q) W s :=
  wpAny_mono (h pins s σ H Q (I.wish _) q) (fun _ _ ⟨v, H', I', r, z⟩ => ⟨v, H', I'.unwish, r, z⟩) fun _ _ z => False.elim z
end
section
variable {P : Program} {w : World} {K : PySem.W.Frag} {mg : Str → Option Value} {base : Heap}
theorem Fun.ok1 {x qual : Str} {st : Stmt} {f : Addr} {fd : FuncData} {N ps : List Str} {k : Nat} {sp : Sp} (F : Fun K x qual st f fd) (S : FnScope N ps (defScope st)) (len : ∀ vs H Q E, sp vs H Q E → vs.length = ps.length)
    (hbody : ∀ (cdv : Value) (A : Around) (outer : List Env) (s : Shared) (H : Hp) (vs : List V) (Q : VK) (E : XK), Room k (A.deeper (envOfC qual (defScope st) s.heap.objs.size f cdv)) → sp vs H Q E →
      ∃ t, PSs (cxOf (CX1 P w) P w K mg base N qual (defScope st) f cdv A outer s H E) (defBody st) t ∧ t { nx := fun _ H' => Q .non H', rt := Q } (start N vs) H) : FnOk P w K mg base (CX1 P w) (k + 1) f fd ps sp := by
  obtain ⟨oc, od, kV, doc, pm, an, cdv, ct, osl, rfl, lk, hcd⟩ := F.ex
  exact fn_of lk hcd S len fun A outer s H vs Q E hr hsp => hbody cdv A outer s H vs Q E hr hsp
end
end L2


end
section
set_option Elab.async false
set_option linter.all false
set_option maxRecDepth 100000
set_option maxHeartbeats 400000
namespace L2
open PySem PySem.Spec PyProof.Rows
section
variable {X : Cx}
/-- nothing is thrown -/
theorem throwsN : Throws X E0 := fun _ _ _ _ _ _ _ _ _ _ _ _ _ _ h => h.elim
end
section
variable {P : Program} {w : World} {K : PySem.W.Frag} {mg : Str → Option Value} {base : Heap} {N : List Str} {qual : Str} {scope : Scope} {f : Addr} {cd : Value} {A : Around} {outer : List Env} {s : Shared} {H : Hp} {E : XK}
end
end L2


end
section
set_option Elab.async false
set_option linter.all false
set_option maxRecDepth 100000
set_option maxHeartbeats 400000
namespace L2
open PySem PySem.Spec PyProof.Rows
/-- a class that is made by its __init__ -/
def MkV (P : Program) (w : World) (K : PySem.W.Frag) (mg : Str → Option Value) (base : Heap) (k : Nat) (x : Str) (C : Addr) (sp : Sp) : Prop :=
  ∃ f fd ps, Mk K C f ∧ FnOk P w K mg base CX0 k f fd ps sp ∧ Binds K fd ps [] ∧ mg x = some (.ref C)
section
variable {X : Cx} {e o : Expr} {es : List Expr} {t : TA} {ta : TE} {p pos apos : Pos} {j k : Nat} {x m : Str} {ps : List Str} {sp : Sp} {C : Addr} {E : XK} {pl : Sem Bool}
theorem MeV.mono {P : Program} {w : World} {K : PySem.W.Frag} {mg : Str → Option Value} {base : Heap} (G : MeV P w K mg base j C m sp) (hj : j ≤ k) : MeV P w K mg base k C m sp := by
  obtain ⟨f, fd, ps, a, F, b⟩ := G
  exact ⟨f, fd, ps, a, F.mono hj, b⟩
theorem pe_mk (G : MkV X.prog X.w X.K X.mg X.base j x C sp) (hr : Room k X.A) (hj : j + 1 ≤ k) (hg : Gl X x) (ha : PA X (e :: es) t) (hdb : (x == ("__debug__" : Str)) = false := by decide)
    (he : starEach (e :: es) X.env = (false, eval e X.env) :: starEach es X.env := by rfl) (hpl : (backTo pos (starEach es X.env)).any (·.1) = false := by rfl) : PE X (.Call (.Name x p) (e :: es) [] pos) (tMake C sp [] E0 t) := by
  obtain ⟨f, fd, ps, M, F, b, hm⟩ := G
  exact pe_make M F (hr.mono hj) hg hm b .nil pass0 ha hdb he hpl
/-- a def's name as a value -/
theorem pe_gfn {f : Addr} (hm : X.mg x = some (.ref f)) (hg : Gl X x) (hd : (x == ("__debug__" : Str)) = false := by decide) : PE X (.Name x pos) (tC (.ref f)) := pe_glob hg hm rfl hd
end
end L2


end
section
set_option Elab.async false
set_option linter.all false
set_option maxRecDepth 100000
set_option maxHeartbeats 400000
namespace Tg
open PySem L2 Pl
def signB (c : Nat) : Bool := decide (32 ≤ c ∧ c ≤ 126 ∧ c ≠ 37)
def goodZ (z : Str) : Prop := z.length ≤ 10000000
def flatG : V → Prop
  | .non => True
  | .bl _ => True
  | .int _ => True
  | .str z => goodZ z
  | _ => False
/-- what a thing is, n tuples deep -/
def TT : Nat → Hp → V → Prop
  | 0, H, v => flatG v ∨ ∃ a, v = .ref a ∧ ((∃ xs, H a = some (.lst xs)) ∨ H a = some (.dK []) ∨ ∃ xs, H a = some (.tup xs) ∧ xs.length ≤ 100000)
  | n + 1, H, v => flatG v ∨ ∃ a, v = .ref a ∧ ((∃ xs, H a = some (.lst xs)) ∨ H a = some (.dK []) ∨ ∃ xs, H a = some (.tup xs) ∧ xs.length ≤ 100000 ∧ ∀ u ∈ xs, TT n H u)
theorem TT.mono : ∀ {n : Nat} {H H' : Hp} {v : V}, SameL H H' → TT n H v → TT n H' v
  | 0, H, H', v, s, h => by
    rcases h with h | ⟨a, e, h | h | ⟨xs, h, l⟩⟩
    · exact .inl h
    · obtain ⟨xs, h⟩ := h; exact .inr ⟨a, e, .inl (s.lst h)⟩
    · exact .inr ⟨a, e, .inr (.inl (s.dK h))⟩
    · exact .inr ⟨a, e, .inr (.inr ⟨xs, s.tup h, l⟩)⟩
  | n + 1, H, H', v, s, h => by
    rcases h with h | ⟨a, e, h | h | ⟨xs, h, l, p⟩⟩
    · exact .inl h
    · obtain ⟨xs, h⟩ := h; exact .inr ⟨a, e, .inl (s.lst h)⟩
    · exact .inr ⟨a, e, .inr (.inl (s.dK h))⟩
    · exact .inr ⟨a, e, .inr (.inr ⟨xs, s.tup h, l, fun u hu => TT.mono s (p u hu)⟩)⟩
theorem TT.flat {n : Nat} {H : Hp} {v : V} (h : flatG v) : TT n H v := by cases n <;> exact .inl h
theorem TT.ofT {n : Nat} {H : Hp} {a : Addr} {xs : List V} (h : H a = some (.tup xs)) (l : xs.length ≤ 100000) (p : ∀ u ∈ xs, TT n H u) : TT (n + 1) H (.ref a) := .inr ⟨a, rfl, .inr (.inr ⟨xs, h, l, p⟩)⟩
end Tg


end
section
set_option Elab.async false
set_option linter.all false
set_option maxRecDepth 100000
set_option maxHeartbeats 400000
namespace L2
open PySem PySem.Spec PyProof.Rows
section
variable {X : Cx}
end
end L2
namespace L2
open PySem PySem.Spec PyProof.Rows
end L2


end
section
set_option Elab.async false
set_option linter.all false
set_option maxRecDepth 100000
set_option maxHeartbeats 400000
namespace L2
open PySem PySem.Spec PyProof.Rows
section
variable {X : Cx}
end
end L2


end
section
set_option Elab.async false
set_option linter.all false
set_option maxRecDepth 100000
set_option maxHeartbeats 400000
namespace L2
open PySem PySem.Spec PyProof.Rows
end L2


end
section
set_option Elab.async false
set_option linter.all false
set_option maxRecDepth 100000
set_option maxHeartbeats 4000000
namespace PySem
section
variable {prog : Program} {w : World} {A : Around} {E : Value → Shared → Prop} {h : Heap} {g : Array GenState} {d : Drawn} {t : Nat} {os : OsState}
variable {nm q : Str} {C N : Addr} {bs bm bmB : List Value} {hdct : Bool} {sn : List Str} {sub : List Value} {ab : Bool} {col : Option Bool} {dd : Option Addr} {k0 k1 k2 k3 k5 : Option Value} {B newId initId : String}
abbrev excRec (h : Heap) (C : Addr) : Obj := { cls := .ref C, data := .fields #[.ref h.objs.size, .none, .none, .none, .bool false, .none] }
abbrev excTup (rest : List Value) : Obj := { cls := .type "tuple", data := .seq rest.toArray }
end
end PySem


end
section
set_option Elab.async false
set_option linter.all false
set_option maxRecDepth 100000
set_option maxHeartbeats 1000000
namespace PySem.W
open PySem PySem.Spec PySem.Calls PyProof.Rows PySem.Builtin PySem.Builtin.ObjectAttr
abbrev bmV : List Value := [.type "ValueError", .type "Exception", .type "BaseException", .type "object"]
/-- an own class of exceptions straight under the own class CT, which is straight under ValueError -/
structure XCl (K : Frag) (C CT : Addr) : Prop where
  cl : ∃ nm q N bs sn sub ab col dd k0 k1 k2 k3 k5, K.lookup C = some (excClassObj nm q C N bs (.ref CT :: bmV) true sn sub ab col dd k0 k1 k2 k3 k5 "ValueError.__new__") ∧ nsOkIn K N = true
  tail : tailIn K bmV (.ref CT :: bmV) = true
  ga : findIn K (.ref C) "__getattribute__" = some (some (.builtin "BaseException.__getattribute__"))
  gt : findIn K (.ref C) "__getattr__" = some none
  sa : findIn K (.ref C) "__setattr__" = some (some (.builtin "object.__setattr__"))
  cc : findIn K (.ref C) "__class__" = some (some (.builtin "object.__class__"))
  cg : specialIn K (.builtin "object.__class__") "__get__" = some (some (.builtin "getset_descriptor.__get__"))
  ct : takesIn K (.builtin "object.__class__") = some true
section
variable {K : Frag} {C CT : Addr}
theorem XCl.cd (c : XCl K C CT) : ∃ cd, clsIn K C = some cd ∧ cd.mro = .ref C :: .ref CT :: bmV ∧ cd.hasDict = true := by
  obtain ⟨nm, q, N, bs, sn, sub, ab, col, dd, k0, k1, k2, k3, k5, lk, _⟩ := c.cl
  have e : clsIn K C = (match (excClassObj nm q C N bs (.ref CT :: bmV) true sn sub ab col dd k0 k1 k2 k3 k5 "ValueError.__new__") with | ⟨_, _, .cls cd, _⟩ => some cd | _ => none) := by unfold clsIn; rw [lk]
  exact ⟨_, e, rfl, rfl⟩
theorem XCl.has (c : XCl K C CT) : hasDictIn K C = true := by
  obtain ⟨cd, h, _, d⟩ := c.cd
  unfold hasDictIn; rw [h]; exact d
theorem XCl.mro (c : XCl K C CT) (T : Value) : mroIn K C T = some ((Value.ref C :: .ref CT :: bmV).contains T) := by
  obtain ⟨cd, h, m, _⟩ := c.cd
  unfold mroIn; rw [h, Option.bind_some, m]; rfl
theorem XCl.mroT (c : XCl K C CT) {T : String} (h : bmV.contains (.type T) = true) : mroIn K C (.type T) = some true := by
  rw [c.mro, List.contains_cons, List.contains_cons, h]; rfl
end
section
variable {prog : Program} {w : World} {A : Around} {E : Value → Shared → Prop} {s : Shared} {K : Frag} {x C CT : Addr} {ox : Obj} {od : Option Obj} {name : Str}
/-- the attribute is asked for by BaseException's own entry -/
theorem xget_open {tk : Tok} {fill expr : Bool} {Q : Value → Shared → Prop} (X : K.In s.heap) (I : InstAt s.heap x ox C od) (c : XCl K C CT)
    (h : wpAny (model prog w) A.in1 (Builtin.«object.__getattribute__» ⟨[.ref x, .str name tk], []⟩)
      (fun fin s' => match fin with | .done (.ret v) => wpAny (model prog w) A (handedOut v) Q E s' | _ => False) (fun _ _ => False) s) :
    wpAny (model prog w) A (getAttrBy (.ref x) (.str name tk) fill expr) Q E s := by
  have L0 := I.type (M := model prog w)
  have L1 := looks_findIn (M := model prog w) X c.ga
  have SL := PySem.F.attr_ValueError.ga
  unfold getAttrBy
  refine wpAny_holding (wpAny_bind (L0.here (wpAny_bind (L1.here ?_))))
  dsimp only
  rw [show (onTheHeap (Value.ref C) && Value.builtin "BaseException.__getattribute__" == Value.builtin "object.__getattribute__") = false from by rw [show (Value.builtin "BaseException.__getattribute__" == Value.builtin "object.__getattribute__") = false from by decide +kernel, Bool.and_false], if_neg (by decide)]
  unfold getAttrByItsOwn
  refine wpAny_bind ((looks_hook (mc := .ref C) X (r := none) (by show (if onTheHeap (.ref C) = true then findIn K (.ref C) "__getattr__" else some none) = some none; rw [if_pos (show onTheHeap (Value.ref C) = true from rfl)]; exact c.gt)).here (wpAny_bind (wpAny_attempt (wpAny_holding ?_))))
  unfold callGetattribute
  rw [show (expr && onTheHeap (Value.builtin "BaseException.__getattribute__")) = false from Bool.and_false _, if_neg (by decide)]
  unfold boundAndCalled
  rw [SL.bind]
  refine wpAny_bind (wpAny_pure ?_)
  show wpAny _ _ (call (.builtin "BaseException.__getattribute__") [.ref x, .str name tk]) _ _ _
  refine wpAny_call ?_
  refine codeAny_call_builtin SL.plain PySem.F.entry_bexc_ga ?_
  refine @check_slot (model prog w) _ _ s "BaseException.__getattribute__" "BaseException" "__getattribute__" (.ref x) [.str name tk] [] _ (by decide +kernel) (by decide +kernel) (I.type.andThen (looks_mroIn X (c.mroT (by decide)))) (PySem.F.args_bexc_ga _ _) ?_
  refine wpAny_mono h (fun fin s' z => ?_) fun _ _ z => z.elim
  rcases fin with (_ | _ | _ | _) | _ <;> first | exact z | exact z.elim
theorem xget_value {v : Value} {expr : Bool} {Q : Value → Shared → Prop} (X : K.In s.heap) (I : InstAt s.heap x ox C od) (c : XCl K C CT) (hf : findObj K C od name = some (.value v)) (hh : handedIn v = true) (h : Q v { s with toks := s.toks + 1 }) :
    wpAny (model prog w) A (getAttr (.ref x) name expr) Q E s := by
  unfold getAttr
  refine wpAny_bind (wpAny_mkText (xget_open (s := { s with toks := s.toks + 1 }) X I c ?_))
  have L0 := I.type (M := model prog w)
  have L1 := looks_find (M := model prog w) X I hf
  unfold Builtin.«object.__getattribute__»
  refine wpAny_bind (wpAny_pure (wpAny_bind (wpAny_pure (wpAny_bind (L0.here (s := { s with toks := s.toks + 1 }) (wpAny_bind (L1.here (s := { s with toks := s.toks + 1 }) ?_)))))))
  refine wpAny_pure ?_
  show wpAny _ _ (handedOut v) _ _ _
  rw [handedOut_of hh]; exact wpAny_pure h
theorem xget_class {Q : Option Value → Shared → Prop} (X : K.In s.heap) (I : InstAt s.heap x ox C od) (c : XCl K C CT) (h : Q (some (.ref C)) { s with toks := s.toks + 1 }) : wpAny (model prog w) A (getAttr? (.ref x) "__class__") Q E s := by
  have hf : findObj K C od "__class__" = some (.bind (.builtin "getset_descriptor.__get__") (.builtin "object.__class__")) := by
    obtain ⟨cd, hc, _⟩ := c.cd
    simp only [findObj, hc, Option.bind_some, c.cc, c.cg, c.ct]
  unfold getAttr? getAttrBy?
  refine wpAny_bind (wpAny_mkText (wpAny_bind (wpAny_attempt (xget_open (s := { s with toks := s.toks + 1 }) X I c ?_))))
  have L0 := I.type (M := model prog w)
  have L1 := looks_find (M := model prog w) X I hf
  unfold Builtin.«object.__getattribute__»
  refine wpAny_bind (wpAny_pure (wpAny_bind (wpAny_pure (wpAny_bind (L0.here (s := { s with toks := s.toks + 1 }) (wpAny_bind (L1.here (s := { s with toks := s.toks + 1 }) ?_)))))))
  show wpAny _ _ (holding [.builtin "object.__class__"] (call (.builtin "getset_descriptor.__get__") [.builtin "object.__class__", .ref x, .ref C]) >>= ret) _ _ _
  refine wpAny_bind (wpAny_holding (wpAny_call (class_get (s := { s with toks := s.toks + 1 }) (ox := ox) (od := od) X I (c.mroT (by decide)) ?_)))
  refine wpAny_pure ?_
  show wpAny _ _ (handedOut (.ref C)) _ _ _
  exact wpAny_pure (wpAny_pure h)
/-- what is asked of an exception by isinstance -/
theorem kitx_exc (c : XCl K C CT) : KitX K (.ref x) (.ref C) (fun h => InstAt h x ox C od) where
  ty := fun _ _ _ I => I.type
  it := fun _ _ X _ => by
    obtain ⟨cdD, hcD, _⟩ := c.cd
    unfold clsIn at hcD
    split at hcD
    · rename_i c' d' cd' sl' ho
      intro A' Q' E' s' k q
      unfold isType loadHead
      exact wpAny_bind (wpAny_loadPart (k _ _ (X _ _ ho)) (wpAny_pure q))
    · cases hcD
  ne := fun h tp dd its n sl X htp => by
    obtain ⟨cdD, hcD, _⟩ := c.cd
    refine Bool.eq_false_iff.mpr fun q => ?_
    have e : C = tp := Value.ref.inj (beq_iff_eq.mp q)
    subst e
    unfold clsIn at hcD
    split at hcD
    · rename_i c' d' cd' sl' ho
      have z := (X _ _ ho).symm.trans htp
      cases z
    · cases hcD
  ca := fun X I k => xget_class X I c k
/-- o.f = v on an exception: as far as its own dict -/
theorem xosa_open {R : Result → Shared → Prop} {tk : Tok} {v : Value} (X : K.In s.heap) (I : InstAt s.heap x ox C od) (c : XCl K C CT) (ht : findIn K (.ref C) name = some none)
    (h : ∀ b, wpAny (model prog w) A.in1 (storeInOwnDict (.ref x) (.ref C) (.str name tk) name v b)
      (fun fin s' => match fin with | .done f => R (.ok f) s' | .again c' => c'.quiet = true ∧ codeAny (model prog w) A c' R s') (fun e s' => R (.error e) s') s) :
    codeAny (model prog w) A (.call (.builtin "object.__setattr__") ⟨[.ref x, .str name tk, v], []⟩) R s := by
  have SF := PySem.F.store_object
  obtain ⟨cd, hc, ho, _⟩ := c.cd
  have sub : Looks (model prog w) s.heap (isInstance (.ref x) (.type "object")) true := I.type.andThen (looks_mroIn X (c.mroT (by decide)))
  refine codeAny_call_builtin SF.slot.plain SF.entry (@check_slot (model prog w) _ _ s "object.__setattr__" "object" "__setattr__" (.ref x) [.str name tk, v] [] _ SF.kind SF.split sub (SF.args (.ref x) (.str name tk) v) ?_)
  have hm : Looks (model prog w) s.heap (mroOf (.ref C)) cd.mro := (looks_clsIn X hc).andThen .now
  rw [osa_eq, refuse_eq]
  refine wpAny_bind (wpAny_bind (I.type.here (wpAny_bind (hm.here ?_))))
  rw [ho, refuseLoop_ref, refuseLoop_ref, PySem.F.store_ValueError.passes]
  refine wpAny_pure (wpAny_bind (I.type.here (wpAny_bind ((looks_findIn X ht).here (wpAny_bind (wpAny_pure (a := none) ?_))))))
  exact h _
/-- .. which is made -/
theorem xset_none {v : Value} {Q : Unit → Shared → Prop} (X : K.In s.heap) (c : XCl K C CT) (ht : findIn K (.ref C) name = some none) (hx : s.heap.get? x = some ox) (hcl : ox.cls = .ref C) (hn : notCls ox = true) (hfr : ox.isFreed = false)
    (hd : ox.dict = none) (h : ∀ h', h'.Ns1 s.heap.objs.size (fun y => if y = name then some v else none) → h'.get? x = some { ox with dict := some s.heap.objs.size } → (∀ b o, b ≠ x → s.heap.get? b = some o → h'.get? b = some o) → Q () { s with heap := h', toks := s.toks + 2 }) :
    wpAny (model prog w) A (setAttr (.ref x) name v) Q E s := by
  have J : InstAt s.heap x ox C none := ⟨hx, hcl, hn, by rw [hd]; trivial⟩
  refine set_plain X J c.sa (xosa_open (s := { s with toks := s.toks + 1 }) X J c ht fun b => ?_)
  obtain ⟨cd, hc, _, hd'⟩ := c.cd
  obtain ⟨oc, odi, oda, osl⟩ := ox
  dsimp only at hcl hd
  subst hcl hd
  refine wpAny_bind (wpAny_pure (wpAny_bind (wpAny_bind (wpAny_loadPart hx (wpAny_bind (Looks.here (s := { s with toks := s.toks + 1 }) (looks_clsIn X hc) ?_))))))
  rw [hd']
  have hx₁ : (s.heap.push { cls := .type "dict", data := .dict #[] }).get? x = some ⟨.ref C, none, oda, osl⟩ := Heap.get?_push_of_some _ hx
  have hxs : x ≠ s.heap.objs.size := Nat.ne_of_lt (Heap.lt_size hx)
  rw [if_neg (by decide)]
  dsimp only
  rw [if_neg (show ¬ ((!true || !typeHasDict (Value.ref C)) = true) by simp [typeHasDict])]
  have hgd : ((s.heap.push { cls := .type "dict", data := .dict #[] }).update x fun o => { cls := o.cls, dict := some s.heap.objs.size, data := o.data, slots := o.slots }).get? s.heap.objs.size = some { cls := .type "dict", data := .dict #[] } :=
    (Heap.get?_update_ne _ _ _ _ hxs.symm).trans (Heap.get?_push_at rfl rfl)
  have hnd : ((s.heap.push { cls := .type "dict", data := .dict #[] }).update x fun o => { cls := o.cls, dict := some s.heap.objs.size, data := o.data, slots := o.slots }).Ns s.heap.objs.size (fun _ => none) :=
    ⟨_, #[], _, hgd, rfl, fun e he => absurd he (by simp), fun _ => rfl⟩
  have hgx : ((s.heap.push { cls := .type "dict", data := .dict #[] }).update x fun o => { cls := o.cls, dict := some s.heap.objs.size, data := o.data, slots := o.slots }).get? x = some ⟨.ref C, some s.heap.objs.size, oda, osl⟩ := by
    refine Heap.get?_update_self _ hx₁ ?_
    cases oda <;> first | rfl | exact hfr
  have core : wpAny (model prog w) A.in1 (do let d ← alloc { cls := .type "dict", data := .dict #[] }; update x fun o => { cls := o.cls, dict := some d, data := o.data, slots := o.slots }; dictMade (Value.ref C) x d)
      (fun a s' => wpAny (model prog w) A.in1 (match a with | some d => storeInDict d (Value.str name s.toks) name v | none => noDictFor (Value.ref x) (Value.ref C) name b)
        (fun fin s' => match fin with | .done f => (match (Except.ok f : Result) with | .ok (.ret _) => Q () s' | .ok _ => False | .error e => E e s') | .again c' => c'.quiet = true ∧ codeAny (model prog w) A c' (fun r s' => match r with | .ok (.ret _) => Q () s' | .ok _ => False | .error e => E e s') s') (fun e s' => E e s') s')
      (fun e s' => E e s') { s with toks := s.toks + 1 } := by
    refine wpAny_bind (wpAny_alloc' ?_)
    refine wpAny_bind (wpAny_update' hx₁ ?_)
    refine wpAny_pure ?_
    show wpAny _ _ (storeInDict s.heap.objs.size (.str name s.toks) name v) _ _ _
    unfold storeInDict newKeyGuard
    refine wpAny_bind (wpAny_pure (wpAny_bind (wpAny_nsSet1 (Heap.Ns1.of_empty hnd) fun h' hn' hs => ?_)))
    obtain ⟨oD, esD, epD, hoD, hdD, hcD⟩ := hn'.count (Within.cons name v Within.nil)
    refine wpAny_bind (wpAny_lookBehind hoD (by rw [hdD]; exact pastItsLine_dict (Nat.le_trans hcD (by rw [List.length_cons, List.length_nil, sizeLine_eq]; omega))) ?_)
    refine wpAny_pure (h h' hn' ((hs.2 x hxs).trans hgx) fun b ob hbx hb => ?_)
    exact (hs.2 b (Nat.ne_of_lt (Heap.lt_size hb))).trans ((Heap.get?_update_ne _ _ _ _ hbx).trans (Heap.get?_push_of_some _ hb))
  cases oda with
  | cls c => exact absurd hn (by simp [notCls])
  | _ => exact core
end
end PySem.W


end
section
set_option Elab.async false
set_option linter.all false
set_option maxRecDepth 100000
set_option maxHeartbeats 1000000
namespace L2
open PySem PySem.Spec PyProof.Rows
/-- a new exception's record -/
abbrev newX (C : Addr) (dx : Option Addr) (t : Addr) : Obj := { cls := .ref C, dict := dx, data := .fields #[.ref t, .none, .none, .none, .bool false, .none] }
/-- a new exception -/
def xN (e C : Addr) (dx : Option Addr) : HO := .ext fun h => ∃ t, h.get? e = some (newX C dx t)
/-- a caught one -/
def xC (e C : Addr) (dx : Option Addr) : HO := .ext fun h => ∃ o vs, h.get? e = some o ∧ o.cls = .ref C ∧ o.dict = dx ∧ o.data = .fields vs
/-- its dict -/
def xD (d : Addr) (fs : List (Str × V)) : HO := .ext fun h => ∃ mA, h.Ns1 d mA ∧ (∀ f, RelO (fs.lookup f) (mA f)) ∧ PySem.Within mA (fs.map (·.1))
/-- a caught exception of the class C, with its fields -/
def XAt (H : Hp) (a C : Addr) (fs : List (Str × V)) : Prop := (H a = some (xC a C none) ∧ fs = []) ∨ ∃ d, H a = some (xC a C (some d)) ∧ H d = some (xD d fs)
theorem XAt.same {H H' : Hp} {a C : Addr} {fs : List (Str × V)} (x : XAt H a C fs) (s : Same H H') : XAt H' a C fs := by
  rcases x with ⟨h, e⟩ | ⟨d, h, e⟩
  · exact .inl ⟨s _ _ h, e⟩
  · exact .inr ⟨d, s _ _ h, s _ _ e⟩
section
variable {P : Program} {w : World} {H : Hp} {h : Heap} {e C : Addr} {dx : Option Addr} {fs : List (Str × V)}
theorem ok_xN {t : Addr} (q : h.get? e = some (newX C dx t)) : ObjOk P w H h e (xN e C dx) := ⟨⟨t, q⟩, ⟨_, q⟩, fun h1 h2 ⟨t, q⟩ k => ⟨t, k _ q⟩⟩
theorem ok_xC {o : Obj} {vs : Array Value} (q : h.get? e = some o) (a : o.cls = .ref C) (b : o.dict = dx) (c : o.data = .fields vs) : ObjOk P w H h e (xC e C dx) := ⟨⟨o, vs, q, a, b, c⟩, ⟨_, q⟩, fun h1 h2 ⟨o, vs, q, r⟩ k => ⟨o, vs, k _ q, r⟩⟩
theorem ok_xD {mA : Str → Option Value} (q : h.Ns1 e mA) (a : ∀ f, RelO (fs.lookup f) (mA f)) (b : PySem.Within mA (fs.map (·.1))) : ObjOk P w H h e (xD e fs) :=
  ⟨⟨mA, q, a, b⟩, let ⟨o, _, _, z, _⟩ := q; ⟨o, z⟩, fun h1 h2 ⟨mA, q, r⟩ k => ⟨mA, q.at k, r⟩⟩
end
section
variable {X : Cx} {pins : List (Addr × Obj)} {σ : St} {H : Hp} {s : Shared} {a C CT : Addr} {fs : List (Str × V)}
theorem Inv.exc (I : Inv X pins σ H s) (x : XAt H a C fs) : ∃ ox od, PySem.W.InstAt s.heap a ox C od ∧ ∀ f v, fs.lookup f = some v → ∃ o u, od = some o ∧ PySem.W.lookIn f o = some (some u) ∧ RelV v u := by
  rcases x with ⟨h, e⟩ | ⟨d, h, e⟩
  · obtain ⟨⟨o, vs, q, c, dd, dt⟩, _, _⟩ := (show ObjOk X.prog X.w H s.heap a (xC a C none) from I.hok a _ h)
    exact ⟨o, none, ⟨q, c, by unfold PySem.W.notCls; rw [dt], by rw [dd]; trivial⟩, fun f v l => by subst e; simp at l⟩
  · obtain ⟨⟨o, vs, q, c, dd, dt⟩, _, _⟩ := (show ObjOk X.prog X.w H s.heap a (xC a C (some d)) from I.hok a _ h)
    obtain ⟨⟨mA, hns, rel, wi⟩, _, _⟩ := (show ObjOk X.prog X.w H s.heap d (xD d fs) from I.hok d _ e)
    obtain ⟨od, hod, hl⟩ := lookIn_ns hns
    refine ⟨o, some od, ⟨q, c, by unfold PySem.W.notCls; rw [dt], by rw [dd]; exact hod⟩, fun f v l => ?_⟩
    obtain ⟨u, hu, ru⟩ := RelO.some_of (v := v) (o := mA f) (by rw [← l]; exact rel f)
    exact ⟨od, u, rfl, by rw [hl, hu], ru⟩
/-- e.f of a caught exception -/
def tXF (K : PySem.W.Frag) (CT : Addr) (ta : TE) (f : Str) : TE := fun σ H Q => ta σ H fun x H1 => ∃ a C fs v, x = .ref a ∧ XAt H1 a C fs ∧ PySem.W.XCl K C CT ∧ NoAttr K C f ∧ fs.lookup f = some v ∧ Q v H1
theorem pe_xfld {e : Expr} {f : Str} {pos : Pos} {ta : TE} (CT : Addr) (he : PE X e ta) (hb : attributeBase e f X.env (eval e X.env) = eval e X.env) : PE X (.Attribute e f pos) (tXF X.K CT ta f) := by
  intro pins s σ H Q I h
  refine attr_of hb (thn (he pins s σ H _ I h) fun u s1 ⟨x, H1, I1, rx, a, C, fs, v, ex, xa, c, n, l, q⟩ => ?_)
  subst ex
  obtain rfl : u = Value.ref a := rx
  obtain ⟨ox, od, J, g⟩ := I1.exc xa
  obtain ⟨o, u, rfl, hl, ru⟩ := g f v l
  exact PySem.W.xget_value I1.kIn J c (PySem.W.findObj_own c.has n rfl hl) (handed_of ru) ⟨v, H1, I1.tok _, ru, q⟩
/-- isinstance of a caught exception: one class -/
def rIsX (K : PySem.W.Frag) (CT : Addr) : List V → Hp → VK → Prop := fun xs H Q => ∃ a C fs c cv b, xs = [.ref a, c] ∧ clsV c = some cv ∧ XAt H a C fs ∧ PySem.W.XCl K C CT ∧ PySem.W.kitOne K (.ref C) cv = some b ∧ Q (.bl b) H
theorem call_isX (CT : Addr) : CallR X (.builtin "isinstance") (rIsX X.K CT) := by
  intro pins s σ H xs us Q I r h
  obtain ⟨a, C, fs, c, cv, b, rfl, hc, xa, xc, e, q⟩ := h
  obtain ⟨u, w', rfl, rx, rc⟩ := vals2 r
  have ec : w' = cv := by
    cases c <;> simp [clsV] at hc
    · subst hc; exact rc
    · subst hc; exact rc
  subst ec
  obtain rfl : u = Value.ref a := rx
  obtain ⟨ox, od, J, _⟩ := I.exc xa
  exact PySem.W.kia_one (PySem.W.kitx_exc xc) I.kIn J e (fun z => nomatch z) fun tk => ⟨.bl b, H, I.tok tk, rfl, q⟩
theorem vals_refs : ∀ {cs : List Addr} {us : List Value}, Vals (cs.map V.ref) us → us = cs.map Value.ref
  | [], _, .nil => rfl
  | c :: cs, _, .cons h t => by rw [vals_refs t]; cases (show _ = Value.ref c from h); rfl
end
section
variable {X : Cx} {pins : List (Addr × Obj)} {σ : St} {H H' : Hp} {s : Shared} {d e : Addr} {o : HO}
theorem Inv.track (I : Inv X pins σ H s) (hn : H d = none) (y : X.s₀.heap.get? d = none) (nl : d ≠ X.env.locals) (nc : ∀ x c, X.env.cells.lookup x = some c → c ≠ d) (np : ∀ p ∈ X.pn ++ pins, p.1 ≠ d) (ok : ObjOk X.prog X.w (upd H d o) s.heap d o) :
    Inv X pins σ (upd H d o) s :=
  ⟨I.ok, I.os, I.bare, ⟨I.base.keep, I.base.slot, fun b u q n hx => by rw [upd_ne (fun z => by rw [z, y] at q; cases q)]; exact I.base.free b u q n hx, I.base.there, fun b xs q => by have z := I.base.tups b xs q; rw [upd_ne (ne_of_none z hn)]; exact z,
      fun b u xs q => by have z := I.base.frzs b u xs q; rw [upd_ne (ne_of_none z hn)]; exact z, fun b ps q => by obtain ⟨m, z⟩ := I.base.tbls b ps q; exact ⟨m, by rw [upd_ne (ne_of_none z hn)]; exact z⟩⟩,
    I.loc, I.cell, by rw [upd_ne (Ne.symm nl)]; exact I.free, fun x c q => by rw [upd_ne (nc x c q)]; exact I.freeC x c q, fun p hp => by obtain ⟨a, b, r⟩ := I.pin p hp; exact ⟨a, by rw [upd_ne (np p hp)]; exact b, r⟩,
    fun b u q => by
      by_cases hb : b = d
      · subst hb; rw [upd_same] at q; cases q; exact ok
      · rw [upd_ne hb] at q
        exact (I.hok b u q).stay (fun c v _ r => r) (fun c r => by rw [upd_ne (ne_of_none r hn)]; exact r) fun c xs r => by rw [upd_ne (ne_of_none r hn)]; exact r,
    I.len⟩
/-- what lies nowhere yet -/
theorem Inv.nowhere (I : Inv X pins σ H s) (hex : X.ex = []) (h : s.heap.get? d = none) : H d = none ∧ X.s₀.heap.get? d = none ∧ d ≠ X.env.locals ∧ (∀ x c, X.env.cells.lookup x = some c → c ≠ d) ∧ ∀ p ∈ X.pn ++ pins, p.1 ≠ d := by
  refine ⟨I.hok.none_of h, I.young hex h, fun z => ?_, fun x c q z => ?_, fun p hp z => ?_⟩
  · obtain ⟨m, ⟨o, es, ep, ho, _⟩, _⟩ := I.loc
    rw [z, ho] at h; cases h
  · obtain ⟨v, o, ho, _⟩ := I.cell x c q
    rw [z, h] at ho; cases ho
  · have := (I.pin p hp).1
    rw [z, h] at this; cases this
theorem Inv.off {φ : Heap → Prop} (I : Inv X pins σ H s) (he : H e = some (.ext φ)) (y : X.s₀.heap.get? e = none) (h3 : ∀ b, b ≠ e → H' b = H b) (hn : H' e = none) : Inv X pins σ H' s := by
  have ne : ∀ b, H b = none → b ≠ e := fun b q z => by rw [z, he] at q; cases q
  have nt : ∀ b u, H b = some u → (∀ ψ, u ≠ .ext ψ) → b ≠ e := fun b u q n z => by rw [z, he] at q; cases q; exact n _ rfl
  have tt : ∀ b xs, H b = some (.tup xs) → H' b = some (.tup xs) := fun b xs q => (h3 b (nt b _ q (fun _ z => by cases z))).trans q
  refine ⟨I.ok, I.os, I.bare, ⟨I.base.keep, I.base.slot, fun b u q n hx => ?_, I.base.there, fun b xs q => tt b xs (I.base.tups b xs q), fun b u xs q => ?_, fun b ps q => ?_⟩, I.loc, I.cell, (h3 _ (ne _ I.free)).trans I.free, fun x c q => (h3 _ (ne _ (I.freeC x c q))).trans (I.freeC x c q), fun p hp => ?_, fun b u q => ?_, I.len⟩
  · have z := I.base.free b u q n hx
    exact (h3 b (ne b z)).trans z
  · have z := I.base.frzs b u xs q
    exact (h3 b (nt b _ z (fun _ z => by cases z))).trans z
  · obtain ⟨m, z⟩ := I.base.tbls b ps q
    exact ⟨m, (h3 b (nt b _ z (fun _ z => by cases z))).trans z⟩
  · obtain ⟨a, b, r⟩ := I.pin p hp
    exact ⟨a, (h3 _ (ne _ b)).trans b, r⟩
  · have hb : b ≠ e := fun z => by rw [z, hn] at q; cases q
    rw [h3 b hb] at q
    exact (I.hok b u q).stay (fun c v _ r => r) (fun c r => (h3 c (nt c _ r (fun _ z => by cases z))).trans r) tt
/-- a name goes -/
theorem name_gone {M : Model} {A : Around} {E : Value → Shared → Prop} {i : Nat} {n : Str} {pos : Pos} {Q : Unit → Shared → Prop} (I : Inv X pins σ H s) (hN : X.N.Nodup) (hi : X.N[i]? = some n) (hk : X.env.kindOf n = some .local)
    (h : ∀ s', Inv X pins (σ.set i none) H s' → Q () s') : wpAny M A (do bindName X.env n .none; unbindBehindTheSuite X.env n pos) Q E s := by
  obtain ⟨m, hn, hl⟩ := id I.loc
  have hcls : (X.env.scope.kind == .class || (X.env.scope.kind == .module && X.env.locals != X.env.globals)) = false := by rw [I.ok.kind]; rfl
  have hiσ : i < σ.length := by rw [I.len]; exact (List.getElem?_eq_some_iff.mp hi).1
  refine wpAny_nameGoes_keeps hk hn hcls fun h' v hn' hs => h _ ?_
  have cne := I.cne
  refine ⟨I.ok, I.os, I.bare, ⟨fun b o e n hb hx => ?_, fun b o e n hb hx => ?_, I.base.free, fun b o e hx => ?_, I.base.tups, I.base.frzs, I.base.tbls⟩, ⟨_, hn', fun j y v' e1 e2 e3 => ?_⟩, fun y c e => ?_, I.free, I.freeC, fun p hp => ?_, fun b ob e => ?_, by simpa using I.len⟩
  · exact (hs.2 b (Nat.ne_of_lt (Nat.lt_of_lt_of_le (Heap.lt_size e) I.ok.above))).trans (I.base.keep b o e n hb hx)
  · obtain ⟨sl, e1⟩ := I.base.slot b o e n hb hx
    exact ⟨sl, (hs.2 b (Nat.ne_of_lt (Nat.lt_of_lt_of_le (Heap.lt_size e) I.ok.above))).trans e1⟩
  · obtain ⟨o', e1⟩ := I.base.there b o e hx
    exact ⟨o', (hs.2 b (Nat.ne_of_lt (Nat.lt_of_lt_of_le (Heap.lt_size e) I.ok.above))).trans e1⟩
  · by_cases hj : j = i
    · subst hj
      rw [List.getElem?_set_self hiσ] at e2
      cases e2
    · rw [List.getElem?_set_ne (Ne.symm hj)] at e2
      obtain ⟨u', r', q⟩ := hl j y v' e1 e2 e3
      refine ⟨u', r', ?_⟩
      rcases q with ⟨k, e⟩ | ⟨k, c, e, z⟩
      · refine .inl ⟨k, ?_⟩
        have : y ≠ n := fun e => hj (nodup_ix hN e1 (e ▸ hi))
        simp [this, e]
      · exact .inr ⟨k, c, e, z.sameBut hs (cne y c e)⟩
  · obtain ⟨w', z⟩ := I.cell y c e
    exact ⟨w', z.sameBut hs (cne y c e)⟩
  · obtain ⟨e, n, ne, nf, d⟩ := I.pin p hp
    exact ⟨(hs.2 p.1 ne).trans e, n, ne, nf, d⟩
  · refine (I.hok b ob e).stay (fun c w' hc q => (hs.2 c ?_).trans q) (fun _ q => q) fun _ _ q => q
    rintro rfl
    rcases hc with z | hc
    · rw [← z, I.free] at e; cases e
    · rw [I.free] at hc; cases hc
end
section
variable {X : Cx} {pins : List (Addr × Obj)} {σ : St} {H : Hp} {s : Shared} {a C CT : Addr} {f : Str}
/-- self.f = v of a new exception, the first field -/
theorem setX0 {A : Around} {E : Value → Shared → Prop} {y : V} {u : Value} {Q : Unit → Shared → Prop} (I : Inv X pins σ H s) (hex : X.ex = []) (e : H a = some (xN a C none)) (c : PySem.W.XCl X.K C CT) (n : NoAttr X.K C f) (ry : RelV y u)
    (h : ∀ d s', H d = none → d ≠ a → Inv X pins σ (upd (upd H a (xN a C (some d))) d (xD d [(f, y)])) s' → Q () s') : wpAny (model X.prog X.w) A (setAttr (.ref a) f u) Q E s := by
  obtain ⟨⟨t, q⟩, _, _⟩ := (show ObjOk X.prog X.w H s.heap a (xN a C none) from I.hok a _ e)
  refine PySem.W.xset_none I.kIn c n q rfl rfl rfl rfl fun h' hns hx hk => ?_
  obtain ⟨w1, w2, w3, w4, w5⟩ := I.nowhere hex (Heap.get?_none_of_le (Nat.le_refl s.heap.objs.size))
  have hne : s.heap.objs.size ≠ a := fun z => by rw [z, e] at w1; cases w1
  refine h s.heap.objs.size _ w1 hne ?_
  have I1 : Inv X pins σ (upd H a (xN a C (some s.heap.objs.size))) { s with heap := h', toks := s.toks + 2 } :=
    I.write (x := a) (e := a) (by rw [e]; exact True.intro) (.inl rfl) (fun b u hb z => hk b u hb z) ⟨_, hx⟩ (ok_xN (t := t) hx)
  refine I1.track (by rw [upd_ne hne]; exact w1) w2 w3 w4 w5 (ok_xD hns (fun g => ?_) fun g hg => ?_)
  · by_cases hg : g = f
    · have hb : (g == f) = true := beq_iff_eq.mpr hg
      simp only [List.lookup, hb, if_pos hg]; exact ry
    · have hb : (g == f) = false := beq_eq_false_iff_ne.mpr hg
      simp only [List.lookup, hb, if_neg hg]; trivial
  · by_cases z : g = f
    · rw [z]; simp
    · rw [if_neg z] at hg; exact absurd hg (by simp)
def sXF0 (K : PySem.W.Frag) (CT : Addr) (ta tv : TE) (f : Str) : TS := fun D σ H => tv σ H fun y H1 => ta σ H1 fun x H2 => ∃ a C, x = .ref a ∧ H2 a = some (xN a C none) ∧ PySem.W.XCl K C CT ∧ NoAttr K C f ∧
  ∀ d, H2 d = none → d ≠ a → D.nx σ (upd (upd H2 a (xN a C (some d))) d (xD d [(f, y)]))
def sXF1 (K : PySem.W.Frag) (CT : Addr) (ta tv : TE) (f : Str) : TS := fun D σ H => tv σ H fun y H1 => ta σ H1 fun x H2 => ∃ a C d fs, x = .ref a ∧ H2 a = some (xN a C (some d)) ∧ H2 d = some (xD d fs) ∧ PySem.W.XCl K C CT ∧ NoAttr K C f ∧ fs.length < 1000 ∧
  D.nx σ (upd H2 d (xD d (putF f y fs)))
variable {o value : Expr} {pos pos' : Pos} {ta tv : TE}
theorem ps_xf0 (CT : Addr) (hex : X.ex = []) (ha : PE X o ta) (hv : PE X value tv) (hs : swapsWith value (some (.Attribute o f pos')) pos.line X.env = pure false) : PS X (.Assign [.Attribute o f pos'] value pos) (sXF0 X.K CT ta tv f) := by
  intro pins s σ H D I h
  refine plainObj_wpAny_Assign_Attribute (thn (hv pins s σ H _ I h) fun u s1 ⟨y, H1, I1, ry, q⟩ => thn (ha pins s1 σ H1 _ I1 q) fun ov s2 ⟨x, H2, I2, rx, a, C, ex, ea, c, n, q2⟩ => ?_) hs
  subst ex
  obtain rfl : ov = Value.ref a := rx
  exact setX0 I2 hex ea c n ry fun d s3 w1 w2 I3 => ⟨σ, _, I3, q2 d w1 w2⟩
/-- TableError.__init__(self, ..) -/
structure XTop (K : PySem.W.Frag) (mg : Str → Option Value) (x : Str) (CT : Addr) : Prop where
  mg_ : mg x = some (.ref CT)
  cl : ExcC K CT PySem.W.bmV PySem.W.bmV "ValueError.__new__"
  sp : PySem.W.specialIn K (.ref CT) "__getattribute__" = some (some (.builtin "type.__getattribute__"))
  rd : PySem.W.readsIn K CT (.type "type") = true
  ini : PySem.W.findCls K (.ref CT) (.type "type") "__init__" = some (.val (.builtin "ValueError.__init__"))
def tBI (K : PySem.W.Frag) (CT : Addr) (t : TA) : TE := fun σ H Q => t σ H fun vs H1 => ∃ a C ws, vs = .ref a :: ws ∧ ws.length ≤ 1000 ∧ H1 a = some (xN a C none) ∧ PySem.W.XCl K C CT ∧ Q .non H1
end
end L2


end
section
set_option Elab.async false
set_option linter.all false
set_option maxRecDepth 100000
set_option maxHeartbeats 1000000
namespace PySem
section
variable {prog : Program} {w : World} {A : Around} {E : Value → Shared → Prop} {s : Shared} {K : W.Frag} {C CT e t : Addr} {dx : Option Addr}
/-- ValueError.__init__(e, ..) -/
theorem xinit_call {rest : List Value} {Q : Value → Shared → Prop} (X : K.In s.heap) (c : W.XCl K C CT) (he : s.heap.get? e = some { cls := .ref C, dict := dx, data := .fields #[.ref t, .none, .none, .none, .bool false, .none] }) (hl : rest.length ≤ sizeLine)
    (h : ∀ h' t', h'.get? e = some { cls := .ref C, dict := dx, data := .fields #[.ref t', .none, .none, .none, .bool false, .none] } → (∀ b o, b ≠ e → s.heap.get? b = some o → h'.get? b = some o) → Q .none { s with heap := h' }) :
    wpAny (model prog w) A (call (.builtin "ValueError.__init__") (.ref e :: rest)) Q E s := by
  obtain ⟨nm, q, N, bs, sn, sub, ab, col, dd, k0, k1, k2, k3, k5, lk, ok⟩ := c.cl
  have FB := F.excBase_ValueError
  have TL : OwnTail s.heap W.bmV (.ref CT :: W.bmV) := W.tail_of_in X c.tail
  have hC := X _ _ lk
  obtain ⟨hh, g, d, tk, os⟩ := s
  refine wpAny_call (codeAny_call_builtin FB.init.plain FB.initEntry (wpAny_check_init_subT FB TL hC he rfl ?_))
  wp_walk
  refine h _ hh.objs.size ?_ fun b o hb z => ?_
  · rw [Heap.get?_update_self _ (Heap.get?_push_of_some _ he) rfl]
    rfl
  · rw [Heap.get?_update_other _ _ (Ne.symm hb)]
    exact Heap.get?_push_of_some _ z
end
section
variable {prog : Program} {w : World} {A : Around} {E : Value → Shared → Prop} {h : Heap} {g : Array GenState} {d : Drawn} {t : Nat} {os : OsState} {K : W.Frag} {C CT : Addr}
/-- C(..): the record, then its __init__ -/
theorem made_X (X : K.In h) (c : W.XCl K C CT) {rest : List Value} {fI : Addr} {Q : Fin → Shared → Prop} (hf : W.findIn K (.ref C) "__init__" = some (some (.ref fI))) (hfn : W.isFn K (.ref fI) = true)
    (fin : ∀ h' e, Heap.MadeExcOf h h' e (.ref C) rest → wpAny (model prog w) A (call (.ref fI) (.ref e :: rest)) (fun r s' => r = .none ∧ Q (.done (.ret (.ref e))) s') E ⟨h', g, d, t, os⟩) (short : rest.length ≤ sizeLine) :
    wpAny (model prog w) A (Builtin.«type.__call__» ⟨.ref C :: rest, []⟩) Q E ⟨h, g, d, t, os⟩ := by
  obtain ⟨nm, q, N, bs, sn, sub, ab, col, dd, k0, k1, k2, k3, k5, lk, ok⟩ := c.cl
  have FB := F.excBase_ValueError
  have TL : OwnTail h W.bmV (.ref CT :: W.bmV) := W.tail_of_in X c.tail
  have cl := X _ _ lk
  repeat (first | (with_reducible refine wpAny_loadPart_at cl ?_) | (with_reducible refine wpAny_madeBy_exc cl ?_) | wp_step)
  refine codeAny_call_builtin_code (Code.quiet_builtin _ FB.quiet) (wpAny_check_new_subT FB TL cl ?_)
  refine codeAny_exc_new_subT FB TL cl ?_ short
  show wpAny _ _ _ _ _ _
  have kp : ∀ b o, h.get? b = some o → ((h.push (excTup rest)).push (excRec h C)).get? b = some o := fun b o e => Heap.get?_push_of_some _ (Heap.get?_push_of_some _ e)
  have X1 : K.In ((h.push (excTup rest)).push (excRec h C)) := X.keeps kp
  have cl1 : ((h.push (excTup rest)).push (excRec h C)).get? C = _ := kp _ _ cl
  have rec1 : ((h.push (excTup rest)).push (excRec h C)).get? (h.objs.size + 1) = some (excRec h C) := by heap_get
  have self : (Value.ref C :: .ref CT :: W.bmV).contains (.ref C) = true := by rw [List.contains_cons]; simp
  unfold isInstance
  repeat (first | (with_reducible refine wpAny_loadPart_at rec1 ?_) | (with_reducible refine wpAny_isSubtype_exc cl1 ?_; rw [self]) | wp_step)
  show wpAny _ _ (typeLookup (.ref C) _) _ _ _
  refine (W.looks_findIn (M := model prog w) X1 hf).at ?_
  refine wpAny_holding (wpAny_bind ((W.bind_fn (M := model prog w) X1 _ (beq_iff_eq.mp hfn)).at ?_))
  have mk : Heap.MadeExcOf h ((h.push (excTup rest)).push (excRec h C)) (h.objs.size + 1) (.ref C) rest :=
    ⟨kp, Heap.get?_none_of_le (Nat.le_succ _), h.objs.size, rec1, Heap.get?_none_of_le (Nat.le_refl _), Heap.get?_push_of_some _ (Heap.get?_push_at rfl rfl)⟩
  refine wpAny_bind (wpAny_mono (fin _ (h.objs.size + 1) mk) (fun r s' hr => ?_) fun _ _ z => z)
  obtain ⟨rfl, hQ⟩ := hr
  wp_walk
  exact hQ
theorem call_X (X : K.In h) (c : W.XCl K C CT) {rest : List Value} {fI : Addr} {Q : Value → Shared → Prop} (hf : W.findIn K (.ref C) "__init__" = some (some (.ref fI))) (hfn : W.isFn K (.ref fI) = true)
    (fin : ∀ h' e, Heap.MadeExcOf h h' e (.ref C) rest → wpAny (model prog w) (A.under (.builtin "type.__call__" ⟨.ref C :: rest, []⟩)) (call (.ref fI) (.ref e :: rest)) (fun r s' => r = .none ∧ Q (.ref e) s') E ⟨h', g, d, t, os⟩) (short : rest.length ≤ sizeLine) :
    wpAny (model prog w) A (call (.ref C) rest) Q E ⟨h, g, d, t, os⟩ := by
  obtain ⟨nm, q, N, bs, sn, sub, ab, col, dd, k0, k1, k2, k3, k5, lk, ok⟩ := c.cl
  have cl := X _ _ lk
  have l1 := tc_lookup
  have l2 := tc_bind (.ref C)
  have ty : (⟨h, g, d, t, os⟩ : Shared).TypeIs (.ref C) "type" := ⟨_, cl, rfl⟩
  refine wpAny_call (codeAny_of_tree ?_)
  show wpAny _ _ (callAny (.ref C) _) _ _ _
  repeat (any_goals (first | assumption | (with_reducible refine wpAny_loadPart_at cl ?_) | wp_step))
  refine ⟨rfl, ?_⟩
  refine codeAny_call_builtin_at (Code.quiet_builtin _ (by decide +kernel)) entry_typeCall (wpAny_check_type_call_sub cl (made_X X c hf hfn (fun h' e hm => ?_) short))
  exact fin h' e hm
end
section
variable {M : Model} {A : Around} {E : Value → Shared → Prop} {env : Env}
variable {nm q : Str} {C N : Addr} {bs bm : List Value} {hdct : Bool} {sn : List Str} {sub : List Value} {ab : Bool} {col : Option Bool} {dd : Option Addr} {k0 k1 k2 k3 k5 : Option Value} {newId : String}
/-- raise of what is made, whatever its record is -/
theorem raise_any {s : Shared} {x : Sem Value} {Q : Flow → Shared → Prop} (hbase : bm.contains (.type "BaseException") = true) (hh : A.handled = none)
    (h : wpAny M A x (fun v s₁ => ∃ e t dx, v = .ref e ∧ s₁.heap.get? C = some (excClassObj nm q C N bs bm hdct sn sub ab col dd k0 k1 k2 k3 k5 newId) ∧ s₁.heap.get? e = some { cls := .ref C, dict := dx, data := .fields #[.ref t, .none, .none, .none, .bool false, .none] } ∧ E (.ref e) s₁) E s) :
    wpAny M A (raiseStmt env (some x) none) Q E s := by
  have hcB : (Value.ref C :: bm).contains (.type "BaseException") = true := by rw [List.contains_cons, hbase, Bool.or_true]
  unfold raiseStmt
  refine wpAny_bind (wpAny_mono h (fun v s₁ h₁ => ?_) fun _ _ x => x)
  obtain ⟨e, t, dx, rfl, hC, he, hE⟩ := h₁
  obtain ⟨hp, g, d, tk, os⟩ := s₁
  repeat (first | with_reducible refine wpAny_loadPart_at he ?_ | with_reducible refine wpAny_loadPart_at hC ?_ | (with_reducible refine wpAny_isSubtype_exc hC ?_; rw [hcB]) | wp_step)
  exact wpAny_raiseNew_none hh hE
variable {nm' q' : Str} {CT N' : Addr} {bs' bm' : List Value} {hdct' : Bool} {sn' : List Str} {sub' : List Value} {ab' : Bool} {col' : Option Bool} {dd' : Option Addr} {j0 j1 j2 j3 j5 : Option Value} {newId' : String}
/-- except of a class above -/
theorem excMatches_up {h : Heap} {g : Array GenState} {d : Drawn} {t : Nat} {os : OsState} {e : Addr} {oe : Obj} {Q : Bool → Shared → Prop}
    (hC : h.get? C = some (excClassObj nm q C N bs bm hdct sn sub ab col dd k0 k1 k2 k3 k5 newId)) (hT : h.get? CT = some (excClassObj nm' q' CT N' bs' bm' hdct' sn' sub' ab' col' dd' j0 j1 j2 j3 j5 newId'))
    (he : h.get? e = some oe) (hcls : oe.cls = .ref C) (hbase : bm'.contains (.type "BaseException") = true) (hin : (Value.ref C :: bm).contains (.ref CT) = true)
    (hq : Q true ⟨h, g, d, t, os⟩) : wpAny M A (excMatches (.ref e) (.ref CT)) Q E ⟨h, g, d, t, os⟩ := by
  have hcB : (Value.ref CT :: bm').contains (.type "BaseException") = true := by rw [List.contains_cons, hbase, Bool.or_true]
  have f := tc_notTuple
  unfold excMatches
  repeat (first | (with_reducible refine wpAny_loadPart_at he ?_; rw [hcls]) | with_reducible refine wpAny_loadPart_at hT ?_ | (with_reducible refine wpAny_isSubtype_exc hT ?_; rw [hcB]) | (with_reducible refine wpAny_isSubtype_exc hC ?_; rw [hin]) | wp_step)
  exact hq
end
end PySem
namespace PySem.W
open PySem
def xFacts (K : Frag) (C : Addr) (fl : List Str) : Bool := findIn K (.ref C) "__getattribute__" == some (some (.builtin "BaseException.__getattribute__")) && (findIn K (.ref C) "__getattr__" == some none && (findIn K (.ref C) "__setattr__" == some (some (.builtin "object.__setattr__")) && (findIn K (.ref C) "__class__" == some (some (.builtin "object.__class__")) && fl.all fun f => findIn K (.ref C) f == some none)))
section
variable {K : Frag} {C CT : Addr} {fl : List Str}
theorem xFacts_of (h : xFacts K C fl = true) : findIn K (.ref C) "__getattribute__" = some (some (.builtin "BaseException.__getattribute__")) ∧ findIn K (.ref C) "__getattr__" = some none ∧ findIn K (.ref C) "__setattr__" = some (some (.builtin "object.__setattr__")) ∧
    findIn K (.ref C) "__class__" = some (some (.builtin "object.__class__")) ∧ ∀ f ∈ fl, findIn K (.ref C) f = some none := by
  unfold xFacts at h
  simp only [Bool.and_eq_true, beq_iff_eq, List.all_eq_true] at h
  exact h
theorem xFacts_no (h : xFacts K C fl = true) {f : Str} (hf : f ∈ fl) : L2.NoAttr K C f := (xFacts_of h).2.2.2.2 f hf
theorem XCl.of (cl : ∃ nm q N bs sn sub ab col dd k0 k1 k2 k3 k5, K.lookup C = some (excClassObj nm q C N bs (.ref CT :: bmV) true sn sub ab col dd k0 k1 k2 k3 k5 "ValueError.__new__") ∧ nsOkIn K N = true) (tail : tailIn K bmV (.ref CT :: bmV) = true)
    (h : xFacts K C fl = true) (cg : specialIn K (.builtin "object.__class__") "__get__" = some (some (.builtin "getset_descriptor.__get__"))) (ct : takesIn K (.builtin "object.__class__") = some true) : XCl K C CT :=
  let ⟨a, b, c, d, _⟩ := xFacts_of h; ⟨cl, tail, a, b, c, d, cg, ct⟩
def tabOk (K : Frag) (l : List Addr) : Bool := (List.range l.length).all fun i => (List.range l.length).all fun j => kitOne K (.ref (l.getD i 0)) (.ref (l.getD j 0)) == some (decide (i = j))
def tvOk (K : Frag) (l : List Addr) : Bool := (List.range l.length).all fun i => kitOne K (.ref (l.getD i 0)) (.type "ValueError") == some true
theorem xtab_of {l : List Addr} (h : tabOk K l = true) : ∀ i j, i < l.length → j < l.length → kitOne K (.ref (l.getD i 0)) (.ref (l.getD j 0)) = some (decide (i = j)) := by
  unfold tabOk at h
  simp only [List.all_eq_true, List.mem_range, beq_iff_eq] at h
  exact fun i j hi hj => h i hi j hj
theorem xtv_of {l : List Addr} (h : tvOk K l = true) : ∀ i, i < l.length → kitOne K (.ref (l.getD i 0)) (.type "ValueError") = some true := by
  unfold tvOk at h
  simp only [List.all_eq_true, List.mem_range, beq_iff_eq] at h
  exact h
end
end PySem.W
namespace L2
open PySem PySem.Spec PyProof.Rows
theorem bo_ValueError : bootBuiltins "ValueError" = some (.type "ValueError") := by decide +kernel
section
variable {X : Cx} {x : Str} {CT : Addr} {e : Expr} {es : List Expr} {t : TA} {p pos apos cpos np : Pos} {pl : Sem Bool}
theorem pe_binit (T : XTop X.K X.mg x CT) (hg : Gl X x) (ha : PA X (e :: es) t) (hdb : (x == ("__debug__" : Str)) = false := by decide)
    (he : starEach (e :: es) X.env = (false, eval e X.env) :: starEach es X.env := by rfl) (hpl : (backTo pos (starEach es X.env)).any (·.1) = false := by rfl)
    (ht : eval (.Call (.Attribute (.Name x p) "__init__" apos) (e :: es) [] pos) X.env = (do
      let ov ← eval (.Name x p) X.env
      standAt apos.atName
      let (f, first) ← holding [ov] (getMethod ov "__init__" pl)
      callWith pos f first (backTo pos (starEach (e :: es) X.env)) (backToKw pos (keywordEach [] X.env))) := by rfl) :
    PE X (.Call (.Attribute (.Name x p) "__init__" apos) (e :: es) [] pos) (tBI X.K CT t) := by
  intro pins s σ H Q I h
  refine PySem.W.methodCall_KW (pl := pl) (ld_glob I hg T.mg_ ?_ hdb) ht
  refine PySem.W.method_cls I.kIn T.sp (PySem.W.cls_value I.kIn T.rd T.ini (by decide +kernel) ?_)
  refine PyProof.Rows.callWith_builtin1 (thn (ha pos pins _ σ H _ (I.tok _) h) fun us s1 ⟨vs, H1, I1, r, a, C, ws, ev, hl, ea, c, q⟩ => ?_) he hpl
  subst ev
  cases r with
  | cons r0 r1 =>
    cases (show _ = Value.ref a from r0)
    obtain ⟨⟨t, g⟩, _, _⟩ := (show ObjOk X.prog X.w H1 s1.heap a (xN a C none) from I1.hok a _ ea)
    refine xinit_call I1.kIn c g (by rw [← r1.length, sizeLine_eq]; omega) fun h' t' g' k => ⟨.non, H1, ?_, rfl, q⟩
    have I2 := I1.write (h' := h') (t' := s1.toks) (x := a) (e := a) (o := xN a C none) (by rw [ea]; exact True.intro) (.inl rfl) (fun b u hb z => k b u hb z) ⟨_, g'⟩ (ok_xN (t := t') g')
    have eH : upd H1 a (xN a C none) = H1 := by
      funext b
      by_cases hb : b = a
      · rw [hb, upd_same]; exact ea.symm
      · rw [upd_ne hb]
    rw [eH] at I2
    exact I2
/-- what the __init__ of an own exception promises: it bears the fields fl -/
def sp_X (C : Addr) (fl : List Str) : Sp := fun vs H Q _ => ∃ e ws, vs = .ref e :: ws ∧ ws.length = fl.length ∧ H e = some (xN e C none) ∧ ∀ d, H d = none → d ≠ e → Q .non (upd (upd H e (xN e C (some d))) d (xD d (fl.zip ws)))
/-- a class of exceptions with an own __init__ -/
def MkX (P : Program) (w : World) (K : PySem.W.Frag) (mg : Str → Option Value) (base : Heap) (k : Nat) (x : Str) (C CT : Addr) (fl : List Str) : Prop :=
  ∃ f fd ps, FnOk P w K mg base CX0 k f fd ps (sp_X C fl) ∧ Binds K fd ps [] ∧ PySem.W.XCl K C CT ∧ PySem.W.findIn K (.ref C) "__init__" = some (some (.ref f)) ∧ PySem.W.isFn K (.ref f) = true ∧ PySem.W.keepIn K (.ref C) = true ∧ mg x = some (.ref C)
def tRaiseX (E : XK) (C : Addr) (fl : List Str) (t : TA) : TS := fun _ σ H => t σ H fun vs H1 => vs.length = fl.length ∧ vs.length ≤ 1000 ∧ ∀ d, H1 d = none → E (.ref C) (some d) (upd H1 d (xD d (fl.zip vs)))
variable {E : XK} {C : Addr} {fl : List Str} {j k : Nat}
theorem ps_raiseX (T : Throws X E) (hex : X.ex = []) (hcalm : X.calm = true) (hg : Gl X x) (G : MkX X.prog X.w X.K X.mg X.base j x C CT fl) (hr : Room k X.A) (hj : j + 1 ≤ k) (ha : PA X (e :: es) t) (hdb : (x == ("__debug__" : Str)) = false := by decide)
    (he : starEach (e :: es) X.env = (false, eval e X.env) :: starEach es X.env := by rfl) (hpl : (backTo cpos (starEach es X.env)).any (·.1) = false := by rfl) :
    PS X (.Raise (some (.Call (.Name x np) (e :: es) [] cpos)) none pos) (tRaiseX E C fl t) := by
  intro pins s σ H D I h
  obtain ⟨f, fd, ps, F, hb, c, hf, hfn, kp, hm⟩ := G
  obtain ⟨nm, q, N, bs, sn, sub, ab, col, dd, k0, k1, k2, k3, k5, lk, ok⟩ := id c.cl
  rw [arm_exec_Raise]
  refine wpAny_bind (wpAny_standAt (raise_any (C := C) (nm := nm) (q := q) (N := N) (bs := bs) (bm := .ref CT :: PySem.W.bmV) (hdct := true) (sn := sn) (sub := sub) (ab := ab) (col := col) (dd := dd) (k0 := k0) (k1 := k1) (k2 := k2) (k3 := k3) (k5 := k5) (newId := "ValueError.__new__") (by rw [List.contains_cons, PySem.F.excBase_ValueError.hasBase, Bool.or_true]) (I.ok.hd hcalm) ?_))
  refine wpAny_bind (wpAny_mono (wpAny_Call_ofName (ld_glob I hg hm ?_ hdb)) (fun v s₃ h₃ => wpAny_bind (wpAny_standAt (wpAny_pure h₃))) fun _ _ z => z)
  refine PySem.W.callWith_K (h₀ := X.base) I.ok.mod.kin kp (thn (ha cpos pins s σ H _ I h) fun us s1 ⟨vs, H1, I1, r, hl, hz, q⟩ => ⟨I1.kIn, ?_⟩) he hpl
  obtain ⟨hh, g, dr, tk, os⟩ := s1
  refine call_X I1.kIn c hf hfn (fun h' ea mk => ?_) (by rw [sizeLine_eq, List.nil_append, ← r.length]; omega)
  rw [List.nil_append] at mk ⊢
  have hC' := mk.there
  obtain ⟨tt, he', _⟩ := hC'
  obtain ⟨w1, w2, w3, w4, w5⟩ := I1.nowhere hex mk.new
  have I1' : Inv X pins σ H1 ⟨h', g, dr, tk, os⟩ := I1.kept (t' := tk) mk.keeps
  have I2 : Inv X pins σ (upd H1 ea (xN ea C none)) ⟨h', g, dr, tk, os⟩ := I1'.track w1 w2 w3 w4 w5 (ok_xN (t := tt) he')
  have hsp : sp_X C fl (.ref ea :: vs) (upd H1 ea (xN ea C none)) (fun v H2 => v = .non ∧ ∃ d, H1 d = none ∧ d ≠ ea ∧ H2 = upd (upd (upd H1 ea (xN ea C none)) ea (xN ea C (some d))) d (xD d (fl.zip vs))) E0 :=
    ⟨ea, vs, rfl, hl, upd_same, fun d hd hne => ⟨rfl, d, by rw [upd_ne hne] at hd; exact hd, hne, rfl⟩⟩
  have r2 : Vals (V.ref ea :: vs) (Value.ref ea :: us) := .cons rfl r
  have hlen : (Value.ref ea :: us ++ []).length = ps.length := by rw [List.append_nil, ← r2.length]; exact F.len _ _ _ _ hsp
  have b := hb ⟨h', g, dr, tk, os⟩ (Value.ref ea :: us) I2.kIn hlen
  rw [List.append_nil] at b
  refine wpAny_call (codeAny_mono (F.run _ X.stack _ _ ⟨Value.ref ea :: us, []⟩ (Value.ref ea :: us) _ _ E0 ((hr.mono hj).make C us []) (I2.env0.make C us []) b r2 hsp) fun res s' hq => ?_)
  cases res with
  | error ev => exact False.elim hq
  | ok fo =>
    cases fo with
    | next => exact False.elim hq
    | brk => exact False.elim hq
    | cont => exact False.elim hq
    | ret u =>
      obtain ⟨v, H3, I3, rv, ev, d, hd, hne, eH⟩ := I2.after hq
      subst ev
      subst eH
      have e3 : upd (upd (upd H1 ea (xN ea C none)) ea (xN ea C (some d))) d (xD d (fl.zip vs)) ea = some (xN ea C (some d)) := by rw [upd_ne (Ne.symm hne), upd_same]
      obtain ⟨⟨t3, g3⟩, _, _⟩ := (show ObjOk X.prog X.w _ s'.heap ea (xN ea C (some d)) from I3.hok ea _ e3)
      have e4 : upd H1 d (xD d (fl.zip vs)) ea = none := by rw [upd_ne (Ne.symm hne)]; exact w1
      have I4 : Inv X pins σ (upd H1 d (xD d (fl.zip vs))) s' := I3.off e3 w2 (fun y hy => by
        by_cases hyd : y = d
        · rw [hyd, upd_same, upd_same]
        · rw [upd_ne hyd, upd_ne hyd, upd_ne hy, upd_ne hy]) e4
      refine ⟨rv, ea, t3, some d, rfl, I3.kIn _ _ lk, g3, ?_⟩
      exact T pins σ _ s' ea (.ref C) (some d) [] none I4 ⟨_, _, g3, rfl, rfl, rfl, ⟨⟨.none, rfl, rfl⟩, by simp, fun p hp => by cases hp⟩, rfl⟩ (.inl rfl) w2 e4 (q d hd)
end
/-- the ends of a suite behind which the name i goes -/
def Ends.gone (D : Ends) (i : Nat) : Ends := { nx := fun σ H => D.nx (σ.set i none) H, rt := D.rt, bk := fun σ H => D.bk (σ.set i none) H, ct := fun σ H => D.ct (σ.set i none) H }
section
variable {X : Cx} {st b₀ : Stmt} {suite : List Stmt} {t1 : TS1} {ts : TS} {x n : Str} {CT : Addr} {np hpos pos : Pos} {i : Nat}
end
end L2


end
section
set_option Elab.async false
set_option linter.all false
set_option maxRecDepth 100000
set_option maxHeartbeats 1000000
namespace L2
open PySem PySem.Spec PyProof.Rows
inductive Dt where
  | v (x : V)
  | t (xs : List Dt)
  | l (xs : List Dt)
instance : Inhabited Dt := ⟨.v .non⟩
mutual
def eqD : Dt → Dt → Bool
  | .v x, .v y => eqV x y
  | .t xs, .t ys => eqDs xs ys
  | .l xs, .l ys => eqDs xs ys
  | _, _ => false
def eqDs : List Dt → List Dt → Bool
  | [], [] => true
  | x :: xs, y :: ys => eqD x y && eqDs xs ys
  | _, _ => false
end
/-- the value x is the data d, of at most n storeys -/
inductive Rep (K : PySem.W.Frag) (H : Hp) : Nat → Dt → V → Prop where
  | v {n : Nat} {x : V} (f : flatV x = true) : Rep K H n (.v x) x
  | t {n : Nat} {a : Addr} {ds : List Dt} {xs : List V} (h : SqT K H a xs) (e : ds.length = xs.length) (r : ∀ (i : Nat) d x, ds[i]? = some d → xs[i]? = some x → Rep K H n d x) : Rep K H (n + 1) (.t ds) (.ref a)
  | l {n : Nat} {a : Addr} {ds : List Dt} {xs : List V} (h : SqL K H a xs) (e : ds.length = xs.length) (r : ∀ (i : Nat) d x, ds[i]? = some d → xs[i]? = some x → Rep K H n d x) : Rep K H (n + 1) (.l ds) (.ref a)
theorem all_range_succ (n : Nat) (p : Nat → Bool) : (List.range (n + 1)).all p = (p 0 && (List.range n).all fun i => p (i + 1)) := by
  rw [List.range_succ_eq_map, List.all_cons, List.all_map]; rfl
theorem eqDs_eq : ∀ xs ys : List Dt, eqDs xs ys = ((List.range (min xs.length ys.length)).all (fun i => eqD (xs.getD i default) (ys.getD i default)) && (xs.length == ys.length))
  | [], [] => by simp [eqDs]
  | [], y :: ys => by simp [eqDs]
  | x :: xs, [] => by simp [eqDs]
  | x :: xs, y :: ys => by
    rw [eqDs, eqDs_eq xs ys, List.length_cons, List.length_cons, Nat.succ_min_succ, all_range_succ]
    simp only [List.getD_cons_zero, List.getD_cons_succ, Bool.and_assoc]
    have : (xs.length + 1 == ys.length + 1) = (xs.length == ys.length) := by rw [Bool.eq_iff_iff, beq_iff_eq, beq_iff_eq]; omega
    rw [this]
theorem eqDs_len {xs ys : List Dt} (h : xs.length = ys.length) : eqDs xs ys = (List.range xs.length).all (fun i => eqD (xs.getD i default) (ys.getD i default)) := by
  rw [eqDs_eq, ← h, Nat.min_self, beq_self_eq_true, Bool.and_true]
theorem eqDs_ne {xs ys : List Dt} (h : xs.length ≠ ys.length) : eqDs xs ys = false := by
  rw [eqDs_eq, beq_eq_false_iff_ne.mpr h, Bool.and_false]
section
variable {K : PySem.W.Frag} {H H' : Hp} {n m : Nat} {d d' : Dt} {x : V}
theorem Rep.mono (r : Rep K H n d x) : ∀ {m : Nat}, n ≤ m → Rep K H m d x := by
  induction r with
  | v f => exact fun _ => .v f
  | t h e _ ih =>
    intro m hm
    obtain ⟨k, rfl⟩ : ∃ k, m = k + 1 := ⟨m - 1, by omega⟩
    exact .t h e fun i d x a b => ih i d x a b (by omega)
  | l h e _ ih =>
    intro m hm
    obtain ⟨k, rfl⟩ : ∃ k, m = k + 1 := ⟨m - 1, by omega⟩
    exact .l h e fun i d x a b => ih i d x a b (by omega)
theorem Rep.same (r : Rep K H n d x) (s : Same H H') : Rep K H' n d x := by
  induction r with
  | v f => exact .v f
  | t h e _ ih => exact .t (Same.seqT s h) e ih
  | l h e _ ih => exact .l (Same.seq s h) e ih
/-- what equals itself -/
theorem Rep.self (r : Rep K H n d x) : eqD d d = true := by
  induction r with
  | v f => unfold eqD; exact eqV_refl f
  | t h e _ ih =>
    unfold eqD
    rw [eqDs_len rfl, List.all_eq_true]
    intro i hi
    rename_i ds xs _
    have hi := List.mem_range.mp hi
    have h1 : ds[i]? = some ds[i] := List.getElem?_eq_getElem hi
    have h2 : xs[i]? = some (xs[i]'(by omega)) := List.getElem?_eq_getElem (by omega)
    have := ih i _ _ h1 h2
    rwa [show ds.getD i default = ds[i] by simp [List.getD, h1]]
  | l h e _ ih =>
    unfold eqD
    rw [eqDs_len rfl, List.all_eq_true]
    intro i hi
    rename_i ds xs _
    have hi := List.mem_range.mp hi
    have h1 : ds[i]? = some ds[i] := List.getElem?_eq_getElem hi
    have h2 : xs[i]? = some (xs[i]'(by omega)) := List.getElem?_eq_getElem (by omega)
    have := ih i _ _ h1 h2
    rwa [show ds.getD i default = ds[i] by simp [List.getD, h1]]
end
section
variable {X : Cx} {pins : List (Addr × Obj)} {σ : St} {H : Hp} {s : Shared}
theorem Inv.tup_not_list {a : Addr} {xs ys : List V} (I : Inv X pins σ H s) (h : SqT X.K H a xs) (h' : SqL X.K H a ys) : False := by
  obtain ⟨its, r, ⟨o, e, c, _⟩, _⟩ := I.tuple h
  obtain ⟨its', r', ⟨o', n', e', c', _⟩, _⟩ := I.list h'
  rw [e] at e'; cases e'
  rw [c] at c'; exact absurd (Value.type.inj c') (by decide)
theorem Rep.det (I : Inv X pins σ H s) : ∀ {n m : Nat} {d d' : Dt} {x y : V}, Rep X.K H n d x → Rep X.K H m d' y → x = y → d = d' := by
  intro n m d d' x y r
  induction r generalizing m d' y with
  | v f =>
    intro r' e
    subst e
    cases r' with
    | v _ => rfl
    | t _ _ _ => exact absurd f (by simp [flatV])
    | l _ _ _ => exact absurd f (by simp [flatV])
  | t h e _ ih =>
    intro r' ee
    cases r' with
    | v f => subst ee; exact absurd f (by simp [flatV])
    | t h' e' r2 =>
      cases ee
      have := I.tuple_inj h h'
      subst this
      congr 1
      refine List.ext_getElem (by omega) fun i h1 h2 => ?_
      exact ih i _ _ (List.getElem?_eq_getElem h1) (List.getElem?_eq_getElem (show i < _ by omega)) (r2 i _ _ (List.getElem?_eq_getElem h2) (List.getElem?_eq_getElem (by omega))) rfl
    | l h' _ _ => cases ee; exact (I.tup_not_list h h').elim
  | l h e _ ih =>
    intro r' ee
    cases r' with
    | v f => subst ee; exact absurd f (by simp [flatV])
    | l h' e' r2 =>
      cases ee
      have := I.list_inj h h'
      subst this
      congr 1
      refine List.ext_getElem (by omega) fun i h1 h2 => ?_
      exact ih i _ _ (List.getElem?_eq_getElem h1) (List.getElem?_eq_getElem (show i < _ by omega)) (r2 i _ _ (List.getElem?_eq_getElem h2) (List.getElem?_eq_getElem (by omega))) rfl
    | t h' _ _ => cases ee; exact (I.tup_not_list h' h).elim
theorem getD_of {α : Type} {xs : List α} {i : Nat} {x d : α} (h : xs[i]? = some x) : xs.getD i d = x := by simp [List.getD, h]
theorem ne_units {A : Around} {n : Nat} (h : A.units + (n + 1) < cLine) : A.in1.units + n < cLine := by show A.units + 1 + n < cLine; omega
/-- == of data -/
theorem Rep.eqAt (I : Inv X pins σ H s) : ∀ (n : Nat) {A : Around} {d d' : Dt} {x y : V} {u v : Value}, A.units + n < cLine → Rep X.K H n d x → Rep X.K H n d' y → RelV x u → RelV y v → SeqAt.EqAt A s u v (eqD d d') := by
  intro n
  induction n with
  | zero =>
    intro A d d' x y u v hu r r' rx ry
    cases r with
    | v f =>
      cases r' with
      | v f' => unfold eqD; exact eqAt_V rx ry f f'
  | succ n ih =>
    intro A d d' x y u v hu r r' rx ry
    have hu0 : A.units < cLine := by omega
    have elems : ∀ {ds es : List Dt} {xs ys : List V} {us vs : List Value}, ds.length = xs.length → es.length = ys.length → (∀ (i : Nat) d x, ds[i]? = some d → xs[i]? = some x → Rep X.K H n d x) → (∀ (i : Nat) d x, es[i]? = some d → ys[i]? = some x → Rep X.K H n d x) →
        Vals xs us → Vals ys vs → ∀ j (h1 : j < us.toArray.size) (h2 : j < vs.toArray.size), SeqAt.EqAt A.in1 s us.toArray[j] vs.toArray[j] (eqD (ds.getD j default) (es.getD j default)) := by
      intro ds es xs ys us vs l1 l2 r1 r2 w1 w2 j h1 h2
      have m1 := w1.length
      have m2 := w2.length
      have j1 : j < xs.length := by have : j < us.length := by simpa using h1
                                    omega
      have j2 : j < ys.length := by have : j < vs.length := by simpa using h2
                                    omega
      have g1 : ds[j]? = some (ds[j]'(by omega)) := List.getElem?_eq_getElem _
      have g2 : es[j]? = some (es[j]'(by omega)) := List.getElem?_eq_getElem _
      have x1 : xs[j]? = some xs[j] := List.getElem?_eq_getElem _
      have x2 : ys[j]? = some ys[j] := List.getElem?_eq_getElem _
      obtain ⟨u1, e1, q1⟩ := w1.get x1
      obtain ⟨u2, e2, q2⟩ := w2.get x2
      rw [getD_of g1, getD_of g2]
      have k1 : us.toArray[j] = u1 := by
        have : us[j]? = some us[j] := List.getElem?_eq_getElem _
        rw [this] at e1; simpa using e1
      have k2 : vs.toArray[j] = u2 := by
        have : vs[j]? = some vs[j] := List.getElem?_eq_getElem _
        rw [this] at e2; simpa using e2
      rw [k1, k2]
      exact ih (ne_units hu) (r1 j _ _ g1 x1) (r2 j _ _ g2 x2) q1 q2
    cases r with
    | v f =>
      cases r' with
      | v f' => unfold eqD; exact eqAt_V rx ry f f'
      | t h e _ =>
        cases ry
        obtain ⟨its, _, p, _⟩ := I.tuple h
        unfold eqD
        cases x <;> first | (exact (Bool.false_ne_true f).elim) | skip
        · cases (show u = Value.none from rx); exact .none_tuple p hu0
        · cases (show u = Value.bool _ from rx); exact .bool_tuple _ p hu0
        · obtain ⟨t, rfl⟩ := rx; exact .int_tuple _ _ p hu0
        · obtain ⟨t, rfl⟩ := rx; exact .str_tuple _ _ p hu0
      | l h e _ =>
        cases ry
        obtain ⟨its, _, p, _⟩ := I.list h
        unfold eqD
        cases x <;> first | (exact (Bool.false_ne_true f).elim) | skip
        · cases (show u = Value.none from rx); exact .none_list p.isList hu0
        · cases (show u = Value.bool _ from rx); exact .bool_list _ p.isList hu0
        · obtain ⟨t, rfl⟩ := rx; exact .int_list _ _ p.isList hu0
        · obtain ⟨t, rfl⟩ := rx; exact .str_list _ _ p.isList hu0
    | t h e r1 =>
      rename_i a ds xs
      cases rx
      obtain ⟨its, w1, p, _⟩ := I.tuple h
      cases r' with
      | v f' =>
        unfold eqD
        cases y <;> first | (exact (Bool.false_ne_true f').elim) | skip
        · cases (show v = Value.none from ry); exact .tuple_none p hu0
        · cases (show v = Value.bool _ from ry); exact .tuple_bool _ p hu0
        · obtain ⟨t, rfl⟩ := ry; exact .tuple_int _ _ p hu0
        · obtain ⟨t, rfl⟩ := ry; exact .tuple_str _ _ p hu0
      | t h' e' r2 =>
        rename_i b es ys
        cases ry
        obtain ⟨its', w2, p', _⟩ := I.tuple h'
        by_cases ab : a = b
        · subst ab
          have z := Rep.det I (.t h e r1) (.t h' e' r2) rfl
          rw [← z, Rep.self (.t h e r1)]; exact .same _
        · have q := SeqAt.RcAt.tuples (A := A) (e := fun i => eqD (ds.getD i default) (es.getD i default)) p p' hu0 (elems e e' r1 r2 w1 w2)
          have sz : its.toArray.size = ds.length := by rw [List.size_toArray, ← w1.length, e]
          have sz' : its'.toArray.size = es.length := by rw [List.size_toArray, ← w2.length, e']
          rw [sz, sz', ← eqDs_eq] at q
          unfold eqD
          exact .of_refs ab q
      | l h' _ _ =>
        cases ry
        obtain ⟨its', w2, p', _⟩ := I.list h'
        unfold eqD
        exact .tuple_list p p'.isList hu0
    | l h e r1 =>
      rename_i a ds xs
      cases rx
      obtain ⟨its, w1, p, _⟩ := I.list h
      cases r' with
      | v f' =>
        unfold eqD
        cases y <;> first | (exact (Bool.false_ne_true f').elim) | skip
        · cases (show v = Value.none from ry); exact .list_none p.isList hu0
        · cases (show v = Value.bool _ from ry); exact .list_bool _ p.isList hu0
        · obtain ⟨t, rfl⟩ := ry; exact .list_int _ _ p.isList hu0
        · obtain ⟨t, rfl⟩ := ry; exact .list_str _ _ p.isList hu0
      | l h' e' r2 =>
        rename_i b es ys
        cases ry
        obtain ⟨its', w2, p', _⟩ := I.list h'
        by_cases ab : a = b
        · subst ab
          have z := Rep.det I (.l h e r1) (.l h' e' r2) rfl
          rw [← z, Rep.self (.l h e r1)]; exact .same _
        · have sz : its.toArray.size = ds.length := by rw [List.size_toArray, ← w1.length, e]
          have sz' : its'.toArray.size = es.length := by rw [List.size_toArray, ← w2.length, e']
          unfold eqD
          by_cases hl : ds.length = es.length
          · have q := SeqAt.RcAt.lists (A := A) (e := fun i => eqD (ds.getD i default) (es.getD i default)) p.isList p'.isList (by omega) hu0 (elems e e' r1 r2 w1 w2)
            rw [sz, ← eqDs_len hl] at q
            exact .of_refs ab q
          · rw [eqDs_ne hl]
            exact .of_refs ab (SeqAt.RcAt.lists_lengths p.isList p'.isList (by rw [sz, sz']; exact bne_iff_ne.mpr hl) hu0)
      | t h' _ _ =>
        cases ry
        obtain ⟨its', w2, p', _⟩ := I.tuple h'
        unfold eqD
        exact .list_tuple p.isList p' hu0
theorem Rep.elems (I : Inv X pins σ H s) {n : Nat} {A : Around} (hu : A.units + (n + 1) < cLine) {ds es : List Dt} {xs ys : List V} {us vs : List Value} (l1 : ds.length = xs.length) (l2 : es.length = ys.length)
    (r1 : ∀ (i : Nat) d x, ds[i]? = some d → xs[i]? = some x → Rep X.K H n d x) (r2 : ∀ (i : Nat) d x, es[i]? = some d → ys[i]? = some x → Rep X.K H n d x) (w1 : Vals xs us) (w2 : Vals ys vs) (j : Nat) (h1 : j < us.toArray.size) (h2 : j < vs.toArray.size) :
    SeqAt.EqAt A.in1 s us.toArray[j] vs.toArray[j] (eqD (ds.getD j default) (es.getD j default)) := by
  have m1 := w1.length
  have m2 := w2.length
  have j1 : j < xs.length := by have : j < us.length := by simpa using h1
                                omega
  have j2 : j < ys.length := by have : j < vs.length := by simpa using h2
                                omega
  have g1 : ds[j]? = some (ds[j]'(by omega)) := List.getElem?_eq_getElem _
  have g2 : es[j]? = some (es[j]'(by omega)) := List.getElem?_eq_getElem _
  have x1 : xs[j]? = some xs[j] := List.getElem?_eq_getElem _
  have x2 : ys[j]? = some ys[j] := List.getElem?_eq_getElem _
  obtain ⟨u1, e1, q1⟩ := w1.get x1
  obtain ⟨u2, e2, q2⟩ := w2.get x2
  rw [getD_of g1, getD_of g2]
  have k1 : us.toArray[j] = u1 := by
    have : us[j]? = some us[j] := List.getElem?_eq_getElem _
    rw [this] at e1; simpa using e1
  have k2 : vs.toArray[j] = u2 := by
    have : vs[j]? = some vs[j] := List.getElem?_eq_getElem _
    rw [this] at e2; simpa using e2
  rw [k1, k2]
  exact Rep.eqAt I n (ne_units hu) (r1 j _ _ g1 x1) (r2 j _ _ g2 x2) q1 q2
theorem Rep.rcAt (I : Inv X pins σ H s) {n : Nat} {A : Around} {d d' : Dt} {x y : V} {u v : Value} (hu : A.units + n < cLine) (r : Rep X.K H n d x) (r' : Rep X.K H n d' y) (rx : RelV x u) (ry : RelV y v) : SeqAt.RcAt A s u v (eqD d d') := by
  have hu0 : A.units < cLine := by omega
  cases r with
  | v f =>
    cases r' with
    | v f' =>
      unfold eqD
      cases x <;> first | (exact (Bool.false_ne_true f).elim) | skip
      all_goals (cases y <;> first | (exact (Bool.false_ne_true f').elim) | skip)
      · cases (show u = Value.none from rx)
        cases (show v = Value.none from ry)
        exact SeqAt.RcAt.none_none
      · cases (show u = Value.none from rx)
        cases (show v = Value.bool _ from ry)
        exact SeqAt.RcAt.none_bool _
      · cases (show u = Value.none from rx)
        obtain ⟨tv, rfl⟩ := ry
        exact SeqAt.RcAt.none_int _ _
      · cases (show u = Value.none from rx)
        obtain ⟨tv, rfl⟩ := ry
        exact SeqAt.RcAt.none_str _ _
      · cases (show u = Value.bool _ from rx)
        cases (show v = Value.none from ry)
        exact SeqAt.RcAt.bool_none _
      · cases (show u = Value.bool _ from rx)
        cases (show v = Value.bool _ from ry)
        exact SeqAt.RcAt.bool_bool _ _
      · cases (show u = Value.bool _ from rx)
        obtain ⟨tv, rfl⟩ := ry
        exact SeqAt.RcAt.bool_int _ _ _
      · cases (show u = Value.bool _ from rx)
        obtain ⟨tv, rfl⟩ := ry
        exact SeqAt.RcAt.bool_str _ _ _
      · obtain ⟨tu, rfl⟩ := rx
        cases (show v = Value.none from ry)
        exact SeqAt.RcAt.int_none _ _
      · obtain ⟨tu, rfl⟩ := rx
        cases (show v = Value.bool _ from ry)
        exact SeqAt.RcAt.int_bool _ _ _
      · obtain ⟨tu, rfl⟩ := rx
        obtain ⟨tv, rfl⟩ := ry
        exact SeqAt.RcAt.int_int _ _ _ _
      · obtain ⟨tu, rfl⟩ := rx
        obtain ⟨tv, rfl⟩ := ry
        exact SeqAt.RcAt.int_str _ _ _ _
      · obtain ⟨tu, rfl⟩ := rx
        cases (show v = Value.none from ry)
        exact SeqAt.RcAt.str_none _ _
      · obtain ⟨tu, rfl⟩ := rx
        cases (show v = Value.bool _ from ry)
        exact SeqAt.RcAt.str_bool _ _ _
      · obtain ⟨tu, rfl⟩ := rx
        obtain ⟨tv, rfl⟩ := ry
        exact SeqAt.RcAt.str_int _ _ _ _
      · obtain ⟨tu, rfl⟩ := rx
        obtain ⟨tv, rfl⟩ := ry
        exact SeqAt.RcAt.str_str _ _ _ _
    | t h e _ =>
      cases ry
      obtain ⟨its, _, p, _⟩ := I.tuple h
      unfold eqD
      cases x <;> first | (exact (Bool.false_ne_true f).elim) | skip
      · cases (show u = Value.none from rx)
        exact SeqAt.RcAt.none_tuple p hu0
      · cases (show u = Value.bool _ from rx)
        exact SeqAt.RcAt.bool_tuple _ p hu0
      · obtain ⟨tu, rfl⟩ := rx
        exact SeqAt.RcAt.int_tuple _ _ p hu0
      · obtain ⟨tu, rfl⟩ := rx
        exact SeqAt.RcAt.str_tuple _ _ p hu0
    | l h e _ =>
      cases ry
      obtain ⟨its, _, p, _⟩ := I.list h
      unfold eqD
      cases x <;> first | (exact (Bool.false_ne_true f).elim) | skip
      · cases (show u = Value.none from rx)
        exact SeqAt.RcAt.none_list p.isList hu0
      · cases (show u = Value.bool _ from rx)
        exact SeqAt.RcAt.bool_list _ p.isList hu0
      · obtain ⟨tu, rfl⟩ := rx
        exact SeqAt.RcAt.int_list _ _ p.isList hu0
      · obtain ⟨tu, rfl⟩ := rx
        exact SeqAt.RcAt.str_list _ _ p.isList hu0
  | t h e r1 =>
    rename_i n a ds xs
    cases rx
    obtain ⟨its, w1, p, _⟩ := I.tuple h
    cases r' with
    | v f' =>
      unfold eqD
      cases y <;> first | (exact (Bool.false_ne_true f').elim) | skip
      · cases (show v = Value.none from ry)
        exact SeqAt.RcAt.tuple_none p hu0
      · cases (show v = Value.bool _ from ry)
        exact SeqAt.RcAt.tuple_bool _ p hu0
      · obtain ⟨tv, rfl⟩ := ry
        exact SeqAt.RcAt.tuple_int _ _ p hu0
      · obtain ⟨tv, rfl⟩ := ry
        exact SeqAt.RcAt.tuple_str _ _ p hu0
    | t h' e' r2 =>
      rename_i b es ys
      cases ry
      obtain ⟨its', w2, p', _⟩ := I.tuple h'
      have q := SeqAt.RcAt.tuples (A := A) (e := fun i => eqD (ds.getD i default) (es.getD i default)) p p' hu0 (Rep.elems I hu e e' r1 r2 w1 w2)
      have sz : its.toArray.size = ds.length := by rw [List.size_toArray, ← w1.length, e]
      have sz' : its'.toArray.size = es.length := by rw [List.size_toArray, ← w2.length, e']
      rw [sz, sz', ← eqDs_eq] at q
      unfold eqD
      exact q
    | l h' _ _ =>
      cases ry
      obtain ⟨its', w2, p', _⟩ := I.list h'
      unfold eqD
      exact SeqAt.RcAt.tuple_list p p'.isList hu0
  | l h e r1 =>
    rename_i n a ds xs
    cases rx
    obtain ⟨its, w1, p, _⟩ := I.list h
    cases r' with
    | v f' =>
      unfold eqD
      cases y <;> first | (exact (Bool.false_ne_true f').elim) | skip
      · cases (show v = Value.none from ry)
        exact SeqAt.RcAt.list_none p.isList hu0
      · cases (show v = Value.bool _ from ry)
        exact SeqAt.RcAt.list_bool _ p.isList hu0
      · obtain ⟨tv, rfl⟩ := ry
        exact SeqAt.RcAt.list_int _ _ p.isList hu0
      · obtain ⟨tv, rfl⟩ := ry
        exact SeqAt.RcAt.list_str _ _ p.isList hu0
    | l h' e' r2 =>
      rename_i b es ys
      cases ry
      obtain ⟨its', w2, p', _⟩ := I.list h'
      have sz : its.toArray.size = ds.length := by rw [List.size_toArray, ← w1.length, e]
      have sz' : its'.toArray.size = es.length := by rw [List.size_toArray, ← w2.length, e']
      unfold eqD
      by_cases hl : ds.length = es.length
      · have q := SeqAt.RcAt.lists (A := A) (e := fun i => eqD (ds.getD i default) (es.getD i default)) p.isList p'.isList (by omega) hu0 (Rep.elems I hu e e' r1 r2 w1 w2)
        rw [sz, ← eqDs_len hl] at q
        exact q
      · rw [eqDs_ne hl]
        exact SeqAt.RcAt.lists_lengths p.isList p'.isList (by rw [sz, sz']; exact bne_iff_ne.mpr hl) hu0
    | t h' _ _ =>
      cases ry
      obtain ⟨its', w2, p', _⟩ := I.tuple h'
      unfold eqD
      exact SeqAt.RcAt.list_tuple p.isList p' hu0
theorem Rep.rcNeAt (I : Inv X pins σ H s) {n : Nat} {A : Around} {d d' : Dt} {x y : V} {u v : Value} (hu : A.units + n < cLine) (r : Rep X.K H n d x) (r' : Rep X.K H n d' y) (rx : RelV x u) (ry : RelV y v) : SeqAt.RcNeAt A s u v (!eqD d d') := by
  have hu0 : A.units < cLine := by omega
  cases r with
  | v f =>
    cases r' with
    | v f' =>
      unfold eqD
      cases x <;> first | (exact (Bool.false_ne_true f).elim) | skip
      all_goals (cases y <;> first | (exact (Bool.false_ne_true f').elim) | skip)
      · cases (show u = Value.none from rx)
        cases (show v = Value.none from ry)
        exact SeqAt.RcNeAt.none_none
      · cases (show u = Value.none from rx)
        cases (show v = Value.bool _ from ry)
        exact SeqAt.RcNeAt.none_bool _
      · cases (show u = Value.none from rx)
        obtain ⟨tv, rfl⟩ := ry
        exact SeqAt.RcNeAt.none_int _ _
      · cases (show u = Value.none from rx)
        obtain ⟨tv, rfl⟩ := ry
        exact SeqAt.RcNeAt.none_str _ _
      · cases (show u = Value.bool _ from rx)
        cases (show v = Value.none from ry)
        exact SeqAt.RcNeAt.bool_none _
      · cases (show u = Value.bool _ from rx)
        cases (show v = Value.bool _ from ry)
        exact SeqAt.RcNeAt.bool_bool _ _
      · cases (show u = Value.bool _ from rx)
        obtain ⟨tv, rfl⟩ := ry
        exact SeqAt.RcNeAt.bool_int _ _ _
      · cases (show u = Value.bool _ from rx)
        obtain ⟨tv, rfl⟩ := ry
        exact SeqAt.RcNeAt.bool_str _ _ _
      · obtain ⟨tu, rfl⟩ := rx
        cases (show v = Value.none from ry)
        exact SeqAt.RcNeAt.int_none _ _
      · obtain ⟨tu, rfl⟩ := rx
        cases (show v = Value.bool _ from ry)
        exact SeqAt.RcNeAt.int_bool _ _ _
      · obtain ⟨tu, rfl⟩ := rx
        obtain ⟨tv, rfl⟩ := ry
        exact SeqAt.RcNeAt.int_int _ _ _ _
      · obtain ⟨tu, rfl⟩ := rx
        obtain ⟨tv, rfl⟩ := ry
        exact SeqAt.RcNeAt.int_str _ _ _ _
      · obtain ⟨tu, rfl⟩ := rx
        cases (show v = Value.none from ry)
        exact SeqAt.RcNeAt.str_none _ _
      · obtain ⟨tu, rfl⟩ := rx
        cases (show v = Value.bool _ from ry)
        exact SeqAt.RcNeAt.str_bool _ _ _
      · obtain ⟨tu, rfl⟩ := rx
        obtain ⟨tv, rfl⟩ := ry
        exact SeqAt.RcNeAt.str_int _ _ _ _
      · obtain ⟨tu, rfl⟩ := rx
        obtain ⟨tv, rfl⟩ := ry
        exact SeqAt.RcNeAt.str_str _ _ _ _
    | t h e _ =>
      cases ry
      obtain ⟨its, _, p, _⟩ := I.tuple h
      unfold eqD
      cases x <;> first | (exact (Bool.false_ne_true f).elim) | skip
      · cases (show u = Value.none from rx)
        exact SeqAt.RcNeAt.none_tuple p hu0
      · cases (show u = Value.bool _ from rx)
        exact SeqAt.RcNeAt.bool_tuple _ p hu0
      · obtain ⟨tu, rfl⟩ := rx
        exact SeqAt.RcNeAt.int_tuple _ _ p hu0
      · obtain ⟨tu, rfl⟩ := rx
        exact SeqAt.RcNeAt.str_tuple _ _ p hu0
    | l h e _ =>
      cases ry
      obtain ⟨its, _, p, _⟩ := I.list h
      unfold eqD
      cases x <;> first | (exact (Bool.false_ne_true f).elim) | skip
      · cases (show u = Value.none from rx)
        exact SeqAt.RcNeAt.none_list p.isList hu0
      · cases (show u = Value.bool _ from rx)
        exact SeqAt.RcNeAt.bool_list _ p.isList hu0
      · obtain ⟨tu, rfl⟩ := rx
        exact SeqAt.RcNeAt.int_list _ _ p.isList hu0
      · obtain ⟨tu, rfl⟩ := rx
        exact SeqAt.RcNeAt.str_list _ _ p.isList hu0
  | t h e r1 =>
    rename_i n a ds xs
    cases rx
    obtain ⟨its, w1, p, _⟩ := I.tuple h
    cases r' with
    | v f' =>
      unfold eqD
      cases y <;> first | (exact (Bool.false_ne_true f').elim) | skip
      · cases (show v = Value.none from ry)
        exact SeqAt.RcNeAt.tuple_none p hu0
      · cases (show v = Value.bool _ from ry)
        exact SeqAt.RcNeAt.tuple_bool _ p hu0
      · obtain ⟨tv, rfl⟩ := ry
        exact SeqAt.RcNeAt.tuple_int _ _ p hu0
      · obtain ⟨tv, rfl⟩ := ry
        exact SeqAt.RcNeAt.tuple_str _ _ p hu0
    | t h' e' r2 =>
      rename_i b es ys
      cases ry
      obtain ⟨its', w2, p', _⟩ := I.tuple h'
      have q := SeqAt.RcNeAt.tuples (A := A) (e := fun i => eqD (ds.getD i default) (es.getD i default)) p p' hu0 (Rep.elems I hu e e' r1 r2 w1 w2)
      have sz : its.toArray.size = ds.length := by rw [List.size_toArray, ← w1.length, e]
      have sz' : its'.toArray.size = es.length := by rw [List.size_toArray, ← w2.length, e']
      rw [sz, sz', ← eqDs_eq] at q
      unfold eqD
      exact q
    | l h' _ _ =>
      cases ry
      obtain ⟨its', w2, p', _⟩ := I.list h'
      unfold eqD
      exact SeqAt.RcNeAt.tuple_list p p'.isList hu0
  | l h e r1 =>
    rename_i n a ds xs
    cases rx
    obtain ⟨its, w1, p, _⟩ := I.list h
    cases r' with
    | v f' =>
      unfold eqD
      cases y <;> first | (exact (Bool.false_ne_true f').elim) | skip
      · cases (show v = Value.none from ry)
        exact SeqAt.RcNeAt.list_none p.isList hu0
      · cases (show v = Value.bool _ from ry)
        exact SeqAt.RcNeAt.list_bool _ p.isList hu0
      · obtain ⟨tv, rfl⟩ := ry
        exact SeqAt.RcNeAt.list_int _ _ p.isList hu0
      · obtain ⟨tv, rfl⟩ := ry
        exact SeqAt.RcNeAt.list_str _ _ p.isList hu0
    | l h' e' r2 =>
      rename_i b es ys
      cases ry
      obtain ⟨its', w2, p', _⟩ := I.list h'
      have sz : its.toArray.size = ds.length := by rw [List.size_toArray, ← w1.length, e]
      have sz' : its'.toArray.size = es.length := by rw [List.size_toArray, ← w2.length, e']
      unfold eqD
      by_cases hl : ds.length = es.length
      · have q := SeqAt.RcNeAt.lists (A := A) (e := fun i => eqD (ds.getD i default) (es.getD i default)) p.isList p'.isList (by omega) hu0 (Rep.elems I hu e e' r1 r2 w1 w2)
        rw [sz, ← eqDs_len hl] at q
        exact q
      · rw [eqDs_ne hl]
        exact SeqAt.RcNeAt.lists_lengths p.isList p'.isList (by rw [sz, sz']; exact bne_iff_ne.mpr hl) hu0
    | t h' _ _ =>
      cases ry
      obtain ⟨its', w2, p', _⟩ := I.tuple h'
      unfold eqD
      exact SeqAt.RcNeAt.list_tuple p.isList p' hu0
/-- ==, != of data of at most 60 storeys -/
def rD (K : PySem.W.Frag) (neg : Bool) : R2 := fun x y H Q => ∃ n d d', n ≤ 60 ∧ Rep K H n d x ∧ Rep K H n d' y ∧ Q (.bl (if neg then !eqD d d' else eqD d d')) H
theorem op_eqD (hu : X.A.units + 64 < cLine) : OpR X (compareOp .Eq) (rD X.K false) := by
  intro pins s σ H x y v u Q I rx ry h
  obtain ⟨n, d, d', hn, r, r', q⟩ := h
  exact Rep.rcAt I (A := X.A) (by omega) r r' rx ry X.prog X.w X.xe _ ⟨.bl _, H, I, rfl, q⟩
theorem op_neD (hu : X.A.units + 64 < cLine) : OpR X (compareOp .NotEq) (rD X.K true) := by
  intro pins s σ H x y v u Q I rx ry h
  obtain ⟨n, d, d', hn, r, r', q⟩ := h
  exact Rep.rcNeAt I (A := X.A) (by omega) r r' rx ry X.prog X.w X.xe _ ⟨.bl _, H, I, rfl, q⟩
end
end L2


end
section
set_option Elab.async false
set_option linter.all false
set_option maxRecDepth 100000
set_option maxHeartbeats 1000000
namespace L2
open PySem PySem.Spec PyProof.Rows PySem.W
/-- items of one type, and their order -/
structure OneK (xs : List V) (lt : V → V → Bool) : Prop where
  ty : ∃ T : String, (Value.type T != Value.type "tuple") = true ∧ ∀ v ∈ xs, ∀ u, RelV v u → typeOf u = pure (.type T)
  ask : ∀ v ∈ xs, ∀ v' ∈ xs, ∀ u u', RelV v u → RelV v' u' → ∀ (prog : Program) (w : World) (A : Around) (E : Value → Shared → Prop) (s : Shared) (Q : Bool → Shared → Prop), Q (lt v v') s → wpAny (model prog w) A (keyLt' oneType' u u') Q E s
  swo : Swo xs lt
theorem rel_same {v v' : V} {u : Value} (a : RelV v u) (b : RelV v' u) : v = v' := by
  cases v <;> cases v' <;> simp only [RelV] at a b <;> first | rfl | (subst a; cases b; done) | (subst a; cases b; rfl) | (obtain ⟨t, rfl⟩ := a; obtain ⟨t', e⟩ := b; cases e; done) | (obtain ⟨t, rfl⟩ := a; obtain ⟨t', e⟩ := b; cases e; rfl) | (subst a; obtain ⟨t', e⟩ := b; cases e; done) | (obtain ⟨t, rfl⟩ := a; cases b; done)
section
variable {X : Cx} {pins : List (Addr × Obj)} {σ : St} {H : Hp} {s : Shared} {A : Around} {E : Value → Shared → Prop}
end
/-- the order of whole numbers, of texts -/
def ltP : V → V → Bool
  | .int a, .int b => decide (a < b)
  | .str a, .str b => decide (a.cps.toList < b.cps.toList)
  | _, _ => false
theorem one_ints {xs : List V} (h : ∀ v ∈ xs, ∃ n, v = .int n) : OneK xs ltP where
  ty := ⟨"int", by decide, fun v hv u r => by obtain ⟨n, rfl⟩ := h v hv; obtain ⟨t, rfl⟩ := r; rfl⟩
  ask := fun v hv v' hv' u u' r r' prog w A E s Q q => by
    obtain ⟨n, rfl⟩ := h v hv; obtain ⟨t, rfl⟩ := r
    obtain ⟨n', rfl⟩ := h v' hv'; obtain ⟨t', rfl⟩ := r'
    exact kat_lt_int q
  swo := ⟨fun a ha => by obtain ⟨n, rfl⟩ := h a ha; simp [ltP], fun a ha b hb c hc => by
      obtain ⟨x, rfl⟩ := h a ha; obtain ⟨y, rfl⟩ := h b hb; obtain ⟨z, rfl⟩ := h c hc
      simp only [ltP, decide_eq_true_eq]; omega, fun a ha b hb c hc => by
      obtain ⟨x, rfl⟩ := h a ha; obtain ⟨y, rfl⟩ := h b hb; obtain ⟨z, rfl⟩ := h c hc
      simp only [ltP, decide_eq_true_eq]; omega⟩
end L2


end
section
set_option Elab.async false
set_option linter.all false
set_option maxRecDepth 100000
set_option maxHeartbeats 1000000
namespace L2
open PySem PySem.Spec PyProof.Rows
theorem relKey {k : Key} {u : Value} (h : keyIs k u = true) : RelV (kV k) u := by
  rcases keyIs_shape h with ⟨i, t, rfl, rfl⟩ | ⟨x, t, rfl, rfl⟩
  · exact ⟨t, rfl⟩
  · exact ⟨t, rfl⟩
/-- not known to the object at the entry -/
def NF (X : Cx) (d : Addr) : Prop := ∀ o u, X.H₀ d ≠ some (.frz o u)
section
variable {X : Cx} {pins : List (Addr × Obj)} {σ : St} {H : Hp} {s : Shared} {d : Addr} {kvs : List (Key × V)}
/-- another description of a tracked object -/
theorem Inv.recast {u u' : HO} (I : Inv X pins σ H s) (h : H d = some u) (n1 : ∀ xs, u ≠ .tup xs) (n2 : ∀ o v, X.H₀ d ≠ some (.frz o v)) (n3 : ∀ ps, u ≠ .tbl ps) (n4 : ∀ x, u ≠ .own x) (ok : ObjOk X.prog X.w (upd H d u') s.heap d u') : Inv X pins σ (upd H d u') s := by
  have ne : ∀ b, H b = none → b ≠ d := fun b q z => by rw [z, h] at q; cases q
  have nt : ∀ b xs, H b = some (.tup xs) → b ≠ d := fun b xs q z => by rw [z, h] at q; exact n1 xs (Option.some.inj q)
  have no : ∀ b x, H b = some (.own x) → b ≠ d := fun b x q z => by rw [z, h] at q; exact n4 x (Option.some.inj q)
  refine ⟨I.ok, I.os, I.bare, ⟨I.base.keep, I.base.slot, fun b v q n hx => ?_, I.base.there, fun b xs q => ?_, fun b o v q => ?_, fun b ps q => ?_⟩, I.loc, I.cell, by rw [upd_ne (ne _ I.free)]; exact I.free, fun x c q => by rw [upd_ne (ne _ (I.freeC x c q))]; exact I.freeC x c q, fun p hp => ?_, fun b v q => ?_, I.len⟩
  · have z := I.base.free b v q n hx
    rw [upd_ne (ne b z)]; exact z
  · have z := I.base.tups b xs q
    rw [upd_ne (nt b xs z)]; exact z
  · have z := I.base.frzs b o v q
    rw [upd_ne (fun e => by rw [e] at q; exact n2 o v q)]; exact z
  · obtain ⟨m, z⟩ := I.base.tbls b ps q
    exact ⟨m, by rw [upd_ne (fun e => by rw [e, h] at z; exact n3 _ (Option.some.inj z))]; exact z⟩
  · obtain ⟨a, b, r⟩ := I.pin p hp
    exact ⟨a, by rw [upd_ne (ne _ b)]; exact b, r⟩
  · by_cases hb : b = d
    · subst hb; rw [upd_same] at q; cases q; exact ok
    · rw [upd_ne hb] at q
      exact (I.hok b v q).stay (fun c v _ r => r) (fun c r => by rw [upd_ne (no c b r)]; exact r) fun c xs r => by rw [upd_ne (nt c xs r)]; exact r
theorem Inv.nf (I : Inv X pins σ H s) (h : H d = some (.dK kvs)) : NF X d := fun o u q => by
  have z := I.base.frzs d o u q
  rw [h] at z; cases z
theorem Inv.freeze (I : Inv X pins σ H s) (h : H d = some (.dK kvs)) : ∃ ob, s.heap.get? d = some ob ∧ Inv X pins σ (upd H d (.frz ob (.dK kvs))) s := by
  obtain ⟨z, y, vs, r, o, es, ep, e, c⟩ := (show ObjOk X.prog X.w H s.heap d (.dK kvs) from I.hok d _ h)
  exact ⟨o, e, I.recast h (fun _ z => by cases z) (I.nf h) (fun _ z => by cases z) (fun _ z => by cases z) ⟨e, z, y, vs, r, o, es, ep, e, c⟩⟩
theorem Inv.thaw {ob : Obj} (I : Inv X pins σ H s) (nf : NF X d) (h : H d = some (.frz ob (.dK kvs))) : Inv X pins σ (upd H d (.dK kvs)) s := by
  obtain ⟨_, z, y, vs, r, o, es, ep, e, c⟩ := (show ObjOk X.prog X.w H s.heap d (.frz ob (.dK kvs)) from I.hok d _ h)
  exact I.recast h (fun _ z => by cases z) nf (fun _ z => by cases z) (fun _ z => by cases z) ⟨z, y, vs, r, o, es, ep, e, c⟩
end
/-- the keys of the frozen dict at d, in their order -/
def Itd (d : Addr) (ob : Obj) (kvs : List (Key × V)) : It :=
  ⟨fun i H => H d = some (.frz ob (.dK kvs)) ∧ i < kvs.length, fun i H x H' => H' = H ∧ ∃ k v, kvs[i]? = some (k, v) ∧ x = kV k, fun i H => H d = some (.frz ob (.dK kvs)) ∧ kvs.length ≤ i⟩
theorem frz_at {P : Program} {w : World} {H : Hp} {h : Heap} {d : Addr} {ob : Obj} {kvs : List (Key × V)} {es : Array DictEntry} {ep : Nat} (ok : HOk P w H h) (e : H d = some (.frz ob (.dK kvs))) (hd : ob.data = .dict es ep) :
    (d == sysModules) = false ∧ ∃ vs, KV kvs vs ∧ h.DictAt (mixKind P w) d vs ep := by
  obtain ⟨e0, z, y, vs, r, o, es', ep', e1, c1, c2, c3⟩ := (show ObjOk P w H h d (.frz ob (.dK kvs)) from ok d _ e)
  rw [e0] at e1; cases e1
  rw [hd] at c2; cases c2
  exact ⟨y, vs, r, ob, es, e0, c1, hd, c3⟩
theorem KV.get {kvs : List (Key × V)} {vs : List (Key × Value)} (r : KV kvs vs) {i : Nat} {k : Key} {v : V} (h : kvs[i]? = some (k, v)) : ∃ u, vs[i]? = some (k, u) ∧ RelV v u := by
  induction r generalizing i with
  | nil => simp at h
  | cons a b ih =>
    cases i with
    | zero =>
      simp only [List.getElem?_cons_zero, Option.some.injEq] at h ⊢
      subst h
      rename_i q _ _
      obtain ⟨k', u⟩ := q
      exact ⟨u, by rw [show k = k' from a.1], a.2⟩
    | succ j =>
      simp only [List.getElem?_cons_succ] at h ⊢
      exact ih h
theorem KV.len {kvs : List (Key × V)} {vs : List (Key × Value)} (r : KV kvs vs) : kvs.length = vs.length := Paired.length r
theorem turn_dict {P : Program} {w : World} {K : PySem.W.Frag} {tg : Expr} (it d : Addr) (ob : Obj) (kvs : List (Key × V)) (es : Array DictEntry) (ep : Nat) (hdt : ob.data = .dict es ep) : Turn P w K tg (Itd d ob kvs) [it] it (fun i h => h.IsKeyIter it d i kvs.length ep) where
  mem := by simp
  obj := fun i h st b hb => by
    have e : b = it := by simpa using hb
    subst e
    obtain ⟨o, e, c, dd⟩ := st
    exact ⟨o, e, fun v z => by rw [dd] at z; cases z⟩
  keep := fun i h h' st k => let ⟨o, ho, r⟩ := st; ⟨o, k it (by simp) o ho, r⟩
  item := by
    intro X hP hw hK hc i pins s σ H E I hf st hg
    subst hP hw hK
    obtain ⟨hz, hi⟩ := hg
    obtain ⟨_, vs, rv, da⟩ := frz_at I.hok hz hdt
    have hl := rv.len
    obtain ⟨k, v, hkv⟩ : ∃ k v, kvs[i]? = some (k, v) := ⟨kvs[i].1, kvs[i].2, List.getElem?_eq_getElem hi⟩
    obtain ⟨u, hu, _⟩ := rv.get hkv
    obtain ⟨f0, f1, f2, f3, f4, f5⟩ := hf it (by simp)
    rw [hl] at st
    refine wpAny_pyNext_dict_item st da hu fun key h' hk st' sb => ?_
    have I1 : Inv X pins σ H { s with heap := h' } := I.turned (t' := s.toks) (fun b o hb e => (sb.2 b hb).trans e) f0 f1 f3 f4 f5
    obtain ⟨o, e, c, dd⟩ := id st'
    exact ⟨key, rfl, go_of (s := { s with heap := h' }) e c dd (by decide) ⟨kV k, H, I1, relKey hk, ⟨rfl, k, v, hkv, rfl⟩, by rw [hl]; exact st', fun b hb => (hf b hb).1⟩⟩
  done := by
    intro X hP hw hK hc i pins s σ H E I hf st hg
    subst hP hw hK
    obtain ⟨hz, hi⟩ := hg
    obtain ⟨_, vs, rv, da⟩ := frz_at I.hok hz hdt
    have hl := rv.len
    obtain ⟨f0, f1, f2, f3, f4, f5⟩ := hf it (by simp)
    rw [hl] at st
    exact wpAny_pyNext_dict_end (I.ok.hd hc) st da (List.getElem?_eq_none (by omega)) fun h' eb => ⟨rfl, I.turned (t' := s.toks) (fun b o hb e => eb b o hb e) f0 f1 f3 f4 f5⟩
  self := fun _ _ _ _ _ st h => wpAny_pyIter_keyiter st h
/-- the dict is frozen while it is walked -/
def iDict (X : Cx) (tl : TE) : TI := fun σ H R => tl σ H fun x H1 => ∃ d kvs, x = .ref d ∧ H1 d = some (.dK kvs) ∧ ∀ ob, NF X d → R (Itd d ob kvs) (upd H1 d (.frz ob (.dK kvs)))
section
variable {X : Cx}
theorem pi_dict {tg l : Expr} {tl : TE} (hl : PE X l tl) : PI X tg l (iDict X tl) := by
  intro pins s σ H R I h
  refine thn (hl pins s σ H _ I h) fun v s1 ⟨x, H1, I1, r1, q1⟩ => ?_
  obtain ⟨d, kvs, e, hd, q⟩ := q1
  subst e
  obtain rfl : v = Value.ref d := r1
  obtain ⟨ob, hob, I2⟩ := I1.freeze hd
  obtain ⟨z, y, vs, rv, o, es, ep, e0, c1, c2, c3⟩ := (show ObjOk X.prog X.w H1 s1.heap d (.dK kvs) from I1.hok d _ hd)
  rw [hob] at e0; cases e0
  have da : s1.heap.DictAt (mixKind X.prog X.w) d vs ep := ⟨ob, es, hob, c1, c2, c3⟩
  refine wpAny_pyIter_dict y da ?_
  have nf := I1.nf hd
  refine ⟨s1.heap.objs.size, [s1.heap.objs.size], _, _, upd H1 d (.frz ob (.dK kvs)), rfl, I2.kept (t' := s1.toks) fun b o e => Heap.get?_push_of_some _ e, turn_dict _ d ob kvs es ep c2, ⟨_, Heap.get?_push_size _ rfl, rfl, ?_⟩, fun b hb => ?_, q ob nf⟩
  · rw [rv.len]; rfl
  · have e : b = s1.heap.objs.size := by simpa using hb
    subst e
    exact I2.fpOk (Nat.le_refl _) (I2.hok.fresh (Nat.le_refl _))
def Ends.thawed (X : Cx) (D : Ends) : Ends := { D with nx := fun σ H => ∃ d ob kvs, NF X d ∧ H d = some (.frz ob (.dK kvs)) ∧ D.nx σ (upd H d (.dK kvs)), rt := fun v H => ∃ d ob kvs, NF X d ∧ H d = some (.frz ob (.dK kvs)) ∧ D.rt v (upd H d (.dK kvs)) }
def sThaw (X : Cx) (t : TS) : TS := fun D σ H => t (D.thawed X) σ H
def tThaw (X : Cx) (te : TE) : TE := fun σ H Q => te σ H fun v H1 => ∃ d ob kvs, NF X d ∧ H1 d = some (.frz ob (.dK kvs)) ∧ Q v (upd H1 d (.dK kvs))
theorem ps_thaw {st : Stmt} {t : TS} (h : PS X st t) : PS X st (sThaw X t) := fun pins s σ H D I q => wpAny_mono (h pins s σ H (D.thawed X) I q) (fun f s1 z => by
  cases f with
  | next => obtain ⟨σ', H', I', d, ob, kvs, nf, e, q'⟩ := z; exact ⟨σ', _, I'.thaw nf e, q'⟩
  | ret u => obtain ⟨v, σ', H', I', r, d, ob, kvs, nf, e, q'⟩ := z; exact ⟨v, σ', _, I'.thaw nf e, r, q'⟩
  | brk => exact z
  | cont => exact z) fun _ _ z => z
theorem tFor_dict {tl : TE} {g : TG} {tb : TS} {D : Ends} {σ : St} {H : Hp} : tFor (iDict X tl) g tb D σ H = tl σ H fun x H1 => ∃ d kvs, x = .ref d ∧ H1 d = some (.dK kvs) ∧ ∀ ob, NF X d → FoR (Itd d ob kvs) g tb D σ (upd H1 d (.frz ob (.dK kvs))) := rfl
theorem tLc_dict {tl : TE} {tt : TT} {te : TE} {σ : St} {H : Hp} {Q : VK} : tLc (iDict X tl) tt te σ H Q = tl σ H fun x H1 => ∃ d kvs, x = .ref d ∧ H1 d = some (.dK kvs) ∧ ∀ ob, NF X d → LcR (Itd d ob kvs) tt te σ Q (upd H1 d (.frz ob (.dK kvs))) := rfl
end
theorem foR_dict {d : Addr} {ob : Obj} {kvs : List (Key × V)} {g : TG} {tb : TS} {D : Ends} {σ : St} {H : Hp} (Pv : Nat → St → Hp → Prop) (h0 : Pv 0 σ H) (hl : ∀ i σ H, i ≤ kvs.length → Pv i σ H → H d = some (.frz ob (.dK kvs)))
    (hs : ∀ i k v σ H, kvs[i]? = some (k, v) → Pv i σ H → g (kV k) σ H fun σ2 H2 => tb { D with nx := Pv (i + 1), ct := Pv (i + 1), bk := D.nx } σ2 H2) (hd : ∀ σ H, Pv kvs.length σ H → D.nx σ H) : FoR (Itd d ob kvs) g tb D σ H := by
  refine ⟨fun i m σ H => m = kvs.length - i ∧ i ≤ kvs.length ∧ Pv i σ H, ⟨_, rfl, Nat.zero_le _, h0⟩, ?_⟩
  rintro i m σ H ⟨rfl, hi, p⟩
  have hz := hl i σ H hi p
  by_cases hlt : i < kvs.length
  · refine .inr ⟨⟨hz, hlt⟩, Pv (i + 1), fun σ' H' q => ⟨kvs.length - (i + 1), by omega, rfl, by omega, q⟩, fun x H' ⟨e, k, v, hkv, ex⟩ => ?_⟩
    subst e ex
    exact hs i k v σ H' hkv p
  · have : i = kvs.length := by omega
    subst this
    exact .inl ⟨⟨hz, Nat.le_refl _⟩, hd σ H p⟩
end L2


end
section
set_option Elab.async false
set_option linter.all false
set_option maxRecDepth 100000
set_option maxHeartbeats 1000000
namespace L2
open PySem PySem.Spec PyProof.Rows
theorem Room.u1 {k : Nat} {A : Around} (r : Room k A) : A.units + 1 < cLine := by have := r.units; omega
def SqE (b : Bool) (K : PySem.W.Frag) (H : Hp) (a : Addr) (xs : List V) : Prop := if b = true then SqT K H a xs else SqL K H a xs
def ItE (b : Bool) (K : PySem.W.Frag) (a : Addr) : It := if b = true then Itt K a else Itl K a
theorem SqE.same {b : Bool} {K : PySem.W.Frag} {H H' : Hp} {a : Addr} {xs : List V} (h : SqE b K H a xs) (s : Same H H') : SqE b K H' a xs := by
  cases b with
  | true => exact Same.seqT s h
  | false => exact Same.seq s h
theorem SqE.any {b : Bool} {K : PySem.W.Frag} {H : Hp} {a : Addr} {xs : List V} (h : SqE b K H a xs) : SqL K H a xs ∨ SqT K H a xs := by
  cases b with
  | true => exact .inr h
  | false => exact .inl h
def iSeq (K : PySem.W.Frag) (tl : TE) : TI := fun σ H R => tl σ H fun x H1 => ∃ a b, x = .ref a ∧ (∃ xs, SqE b K H1 a xs) ∧ R (ItE b K a) H1
section
variable {X : Cx} {tg : Expr}
end
theorem tFor_seq {K : PySem.W.Frag} {tl : TE} {g : TG} {tb : TS} {D : Ends} {σ : St} {H : Hp} : tFor (iSeq K tl) g tb D σ H = tl σ H fun x H1 => ∃ a b, x = .ref a ∧ (∃ xs, SqE b K H1 a xs) ∧ FoR (ItE b K a) g tb D σ H1 := rfl
end L2


end
section
set_option Elab.async false
set_option linter.all false
set_option maxRecDepth 100000
set_option maxHeartbeats 1000000
namespace PySem.W
open PySem
def clsFacts (K : Frag) (C : Addr) (fl : List Str) : Bool := plainGet K C Str.empty && (hasDictIn K C && (plainOver K C && (findIn K (.ref C) "__setattr__" == some (some (.builtin "object.__setattr__")) && (findIn K (.ref C) "__class__" == some (some (.builtin "object.__class__")) && (mroIn K C (.type "object") == some true && fl.all fun f => findIn K (.ref C) f == some none)))))
theorem clsFacts_of {K : Frag} {C : Addr} {fl : List Str} (h : clsFacts K C fl = true) : L2.Cls K C ∧ findIn K (.ref C) "__class__" = some (some (.builtin "object.__class__")) ∧ mroIn K C (.type "object") = some true ∧ ∀ f ∈ fl, L2.NoAttr K C f := by
  unfold clsFacts at h
  simp only [Bool.and_eq_true, beq_iff_eq, List.all_eq_true] at h
  obtain ⟨a, b, c, d, e, f, g⟩ := h
  exact ⟨⟨a, b, c, d⟩, e, f, g⟩
def mtxOk (K : Frag) (l : List Addr) (m : Nat → Nat → Bool) : Bool := (List.range l.length).all fun i => (List.range l.length).all fun j => kitOne K (.ref (l.getD i 0)) (.ref (l.getD j 0)) == some (m i j)
theorem mtx_of {K : Frag} {l : List Addr} {m : Nat → Nat → Bool} (h : mtxOk K l m = true) : ∀ i j, i < l.length → j < l.length → kitOne K (.ref (l.getD i 0)) (.ref (l.getD j 0)) = some (m i j) := by
  unfold mtxOk at h
  simp only [List.all_eq_true, List.mem_range, beq_iff_eq] at h
  exact fun i j hi hj => h i hi j hj
end PySem.W
namespace L2
open PySem PySem.Spec PyProof.Rows
/-- what is known of a class whose objects are made -/
structure ObC (K : PySem.W.Frag) (C : Addr) (fl : List Str) : Prop where
  cl : Cls K C
  cc : PySem.W.findIn K (.ref C) "__class__" = some (some (.builtin "object.__class__"))
  mo : PySem.W.mroIn K C (.type "object") = some true
  no : ∀ f ∈ fl, NoAttr K C f
  cg : PySem.W.specialIn K (.builtin "object.__class__") "__get__" = some (some (.builtin "getset_descriptor.__get__"))
  ct : PySem.W.takesIn K (.builtin "object.__class__") = some true
theorem ObC.of {K : PySem.W.Frag} {C : Addr} {fl : List Str} (h : PySem.W.clsFacts K C fl = true) (cg : PySem.W.specialIn K (.builtin "object.__class__") "__get__" = some (some (.builtin "getset_descriptor.__get__"))) (ct : PySem.W.takesIn K (.builtin "object.__class__") = some true) : ObC K C fl :=
  let ⟨a, b, c, d⟩ := PySem.W.clsFacts_of h; ⟨a, b, c, d, cg, ct⟩
theorem ObC.ty {K : PySem.W.Frag} {H : Hp} {C a dx : Addr} {fl : List Str} {fs : List (Str × V)} (c : ObC K C fl) (e : H a = some (.ins C dx fs)) : TyOf K H (.ref a) (.ref C) := .ins e c.cl c.cc c.cg c.ct c.mo
/-- o.m(..): the method of the object's own class -/
def tMethV (P : Program) (w : World) (K : PySem.W.Frag) (mg : Str → Option Value) (base : Heap) (k : Nat) (m : Str) (ta : TE) (t : TA) : TE1 := fun σ H Q E => ta σ H fun x H1 => ∃ a C dx fs sp, x = .ref a ∧ H1 a = some (.ins C dx fs) ∧ fs.lookup m = none ∧ Cls K C ∧ MeV P w K mg base k C m sp ∧ t σ H1 fun vs H2 => sp (x :: vs) H2 Q E
section
variable {X : Cx} {m : Str} {k : Nat} {ta : TE} {t : TA} {e o : Expr} {es : List Expr} {pos apos : Pos} {pl : Sem Bool}
theorem pe1_methV (he : PE X.nox o ta) (hr : Room k X.A) (hex : X.ex = []) (ha : PA X.nox (e :: es) t)
    (hst : starEach (e :: es) X.env = (false, eval e X.env) :: starEach es X.env := by rfl) (hpl : (backTo pos (starEach es X.env)).any (·.1) = false := by rfl)
    (ht : eval (.Call (.Attribute o m apos) (e :: es) [] pos) X.env = (do
      let ov ← eval o X.env
      standAt apos.atName
      let (f, first) ← holding [ov] (getMethod ov m pl)
      callWith pos f first (backTo pos (starEach (e :: es) X.env)) (backToKw pos (keywordEach [] X.env))) := by rfl) :
    PE1 X (.Call (.Attribute o m apos) (e :: es) [] pos) (tMethV X.prog X.w X.K X.mg X.base k m ta t) := by
  intro pins s σ H Q E I h
  refine PySem.W.methodCall_KW (pl := pl) (thn (pe_noxW he I h) fun u s1 ⟨y, H1, I1, rx, a, C, dx, fs, sp, ex, ea, l, c, G, q⟩ => ?_) ht
  obtain ⟨f, fd, ps, hm, F, hb⟩ := G
  subst ex
  obtain rfl : u = Value.ref a := rx
  refine getmeth_ok I1 ea c hm l ?_
  refine PySem.W.callWith_K (first := [.ref a]) (h₀ := X.base) I.ok.mod.kin hm.kp (thn (pa_nox ha I1 q) fun us s2 ⟨vs, H2, I2, r, q2⟩ => ⟨I2.kIn, ?_⟩) hst hpl
  exact run_fn1 (us := .ref a :: us) (vs := .ref a :: vs) F hr hb hex I2 (.cons rfl r) q2
theorem pe1_methV0 (he : PE X.nox o ta) (hr : Room k X.A) (hex : X.ex = [])
    (ht : eval (.Call (.Attribute o m apos) [] [] pos) X.env = (do
      let ov ← eval o X.env
      standAt apos.atName
      let (f, first) ← holding [ov] (getMethod ov m pl)
      callWith pos f first (backTo pos (starEach [] X.env)) (backToKw pos (keywordEach [] X.env))) := by rfl) :
    PE1 X (.Call (.Attribute o m apos) [] [] pos) (tMethV X.prog X.w X.K X.mg X.base k m ta tNil) := by
  intro pins s σ H Q E I h
  refine PySem.W.methodCall_KW (pl := pl) (thn (pe_noxW he I h) fun u s1 ⟨y, H1, I1, rx, a, C, dx, fs, sp, ex, ea, l, c, G, q⟩ => ?_) ht
  obtain ⟨f, fd, ps, hm, F, hb⟩ := G
  subst ex
  obtain rfl : u = Value.ref a := rx
  refine getmeth_ok I1 ea c hm l ?_
  exact PySem.W.callWith_K0 (first := [.ref a]) I1.kIn hm.kp (run_fn1 (us := [.ref a]) (vs := [.ref a]) F hr hb hex I1 (.cons rfl .nil) q)
/-- C() -/
theorem pe_mk0 {j : Nat} {x : Str} {C : Addr} {sp : Sp} {p : Pos} (G : MkV X.prog X.w X.K X.mg X.base j x C sp) (hr : Room k X.A) (hj : j + 1 ≤ k) (hg : Gl X x) (hdb : (x == ("__debug__" : Str)) = false := by decide) : PE X (.Call (.Name x p) [] [] pos) (tMake C sp [] E0 tNil) := by
  obtain ⟨f, fd, ps, M, F, b, hm⟩ := G
  exact pe_make0 M F (hr.mono hj) hg hm b .nil pass0 hdb
end
end L2


end
section
set_option Elab.async false
set_option linter.all false
set_option maxRecDepth 100000
set_option maxHeartbeats 1000000
namespace L2
open PySem PySem.Spec PyProof.Rows
inductive Fz (H : Hp) : Nat → V → Prop where
  | v {n : Nat} {x : V} (f : flatV x = true) : Fz H n x
  | t {n : Nat} {a : Addr} {xs : List V} (h : H a = some (.tup xs)) (r : ∀ x ∈ xs, Fz H n x) : Fz H (n + 1) (.ref a)
theorem Fz.sameT {H H' : Hp} {n : Nat} {x : V} (r : Fz H n x) (s : SameT H H') : Fz H' n x := by
  induction r with
  | v f => exact .v f
  | t h _ ih => exact .t (s _ _ h) ih
theorem Fz.same {H H' : Hp} {n : Nat} {x : V} (r : Fz H n x) (s : Same H H') : Fz H' n x := r.sameT s.t
theorem Fz.mono {H : Hp} {n : Nat} {x : V} (r : Fz H n x) : ∀ {m : Nat}, n ≤ m → Fz H m x := by
  induction r with
  | v f => exact fun _ => .v f
  | t h _ ih =>
    intro m hm
    obtain ⟨k, rfl⟩ : ∃ k, m = k + 1 := ⟨m - 1, by omega⟩
    exact .t h fun x hx => ih x hx (by omega)
theorem repsOf {K : PySem.W.Frag} {H : Hp} {n : Nat} : ∀ {xs : List V}, (∀ x ∈ xs, ∃ d, Rep K H n d x) → ∃ ds : List Dt, ds.length = xs.length ∧ ∀ (i : Nat) d x, ds[i]? = some d → xs[i]? = some x → Rep K H n d x
  | [], _ => ⟨[], rfl, fun i d x h => by simp at h⟩
  | x :: xs, h => by
    obtain ⟨d, hd⟩ := h x List.mem_cons_self
    obtain ⟨ds, l, r⟩ := repsOf (xs := xs) fun y hy => h y (List.mem_cons_of_mem _ hy)
    refine ⟨d :: ds, by simp [l], fun i d' x' e1 e2 => ?_⟩
    cases i with
    | zero => simp at e1 e2; subst e1 e2; exact hd
    | succ i => simp at e1 e2; exact r i d' x' e1 e2
theorem Fz.rep {K : PySem.W.Frag} {H : Hp} {n : Nat} {x : V} (r : Fz H n x) : ∃ d, Rep K H n d x := by
  induction r with
  | v f => exact ⟨_, .v f⟩
  | t h _ ih =>
    obtain ⟨ds, l, q⟩ := repsOf (K := K) ih
    exact ⟨.t ds, .t (SqT.of h) l q⟩
theorem Fz.pair {H : Hp} {n : Nat} {a : Addr} {x y : V} (h : H a = some (.tup [x, y])) (hx : Fz H n x) (hy : Fz H n y) : Fz H (n + 1) (.ref a) := .t h fun z hz => by
  rcases List.mem_cons.mp hz with e | hz
  · rw [e]; exact hx
  · rw [List.mem_singleton.mp hz]; exact hy
/-- a list at p, made behind H, whose items are data of tuples -/
structure Coll (H : Hp) (n : Nat) (p : Addr) (H1 : Hp) (xs : List V) : Prop where
  same : Same H H1
  at_ : H1 p = some (.lst xs)
  fz : ∀ x ∈ xs, Fz H1 n x
  new : H p = none
theorem Coll.start {H : Hp} {n : Nat} {p : Addr} (hp : H p = none) : Coll H n p (upd H p (.lst [])) [] := ⟨same_upd hp _, upd_same, (fun x hx => by cases hx), hp⟩
/-- behind what was made since, one item more -/
theorem Coll.more {H H1 H2 : Hp} {n : Nat} {p : Addr} {xs : List V} {x : V} (c : Coll H n p H1 xs) (s : Same H1 H2) (f : Fz H2 n x) : Coll H n p (upd H2 p (.lst (xs ++ [x]))) (xs ++ [x]) where
  same := fun b o hb => by rw [upd_ne (ne_of_none hb c.new)]; exact s _ _ (c.same _ _ hb)
  at_ := upd_same
  fz := fun y hy => by
    have st := sameT_lst (zs := xs ++ [x]) (s _ _ c.at_)
    rcases List.mem_append.mp hy with h | h
    · exact ((c.fz y h).same s).sameT st
    · rw [List.mem_singleton.mp h]; exact f.sameT st
  new := c.new
theorem Coll.pair {H H1 : Hp} {n : Nat} {p q : Addr} {xs : List V} (x y : V) (c : Coll H (n + 1) p H1 xs) (hq : H1 q = none) (fx : flatV x = true := by rfl) (fy : flatV y = true := by rfl) : Coll H (n + 1) p (upd (upd H1 q (.tup [x, y])) p (.lst (xs ++ [.ref q]))) (xs ++ [.ref q]) :=
  c.more (same_upd hq _) (Fz.pair upd_same (.v fx) (.v fy))
theorem two_ok {x y : V} : [x, y].length ≤ sizeLine := show 2 ≤ sizeLine by decide
theorem rd_fld {K : PySem.W.Frag} {C a dx : Addr} {fl : List Str} {f : Str} {fs : List (Str × V)} {v : V} {i : Nat} {σ : St} {H : Hp} {Q : VK} (c : ObC K C fl) (hf : f ∈ fl) (hs : σ[i]? = some (some (.ref a))) (ha : H a = some (.ins C dx fs)) (hv : fs.lookup f = some v) (q : Q v H) : tFld K (tVar i) f σ H Q :=
  ⟨_, hs, a, C, dx, fs, v, rfl, ha, c.cl, c.no f hf, hv, q⟩
theorem rd_set {K : PySem.W.Frag} {C a dx : Addr} {fl : List Str} {f : Str} {fs : List (Str × V)} {i : Nat} {σ : St} {H H1 : Hp} {tv : TE} {D : Ends} {y : V} (c : ObC K C fl) (hf : f ∈ fl) (hs : σ[i]? = some (some (.ref a))) (hv : ∀ Q : VK, Q y H1 → tv σ H Q) (ha : H1 a = some (.ins C dx fs)) (l : fs.length < 1000) (q : D.nx σ (upd H1 a (.ins C dx (putF f y fs)))) : sFld K (tVar i) tv f D σ H :=
  hv _ ⟨_, hs, a, C, dx, fs, rfl, ha, c.cl, c.no f hf, l, q⟩
theorem upd_swap {H : Hp} {a b : Addr} {x y : HO} (h : a ≠ b) : upd (upd H a x) b y = upd (upd H b y) a x := by
  funext c
  by_cases h1 : c = b
  · subst h1; rw [upd_same, upd_ne (Ne.symm h), upd_same]
  · by_cases h2 : c = a
    · subst h2; rw [upd_same, upd_ne h1, upd_same]
    · rw [upd_ne h1, upd_ne h2, upd_ne h2, upd_ne h1]
/-- a list or a tuple of the own heap -/
def HE (b : Bool) (H : Hp) (e : Addr) (xs : List V) : Prop := H e = some (if b = true then .tup xs else .lst xs)
theorem HE.upd_ins {b : Bool} {H : Hp} {a e C dx : Addr} {o : HO} {fs : List (Str × V)} {xs : List V} (h : HE b H e xs) (ha : H a = some (.ins C dx fs)) : HE b (upd H a o) e xs := by
  have ne : e ≠ a := fun z => by
    unfold HE at h
    rw [z, ha] at h
    cases b <;> cases h
  unfold HE
  rw [upd_ne ne]
  exact h
theorem HE.same {b : Bool} {H H' : Hp} {e : Addr} {xs : List V} (h : HE b H e xs) (s : Same H H') : HE b H' e xs := s _ _ h
section
variable {P : Program} {w : World} {K : PySem.W.Frag} {mg : Str → Option Value} {base : Heap} {k i : Nat} {C D a dx : Addr} {m : Str} {sp : Sp} {fs : List (Str × V)} {fl : List Str} {σ : St} {H : Hp} {Q : VK} {E : XK} {t : TA} {b : Bool}
theorem rd_methV0 (hs : σ[i]? = some (some (.ref a))) (ha : H a = some (.ins C dx fs)) (l : fs.lookup m = none) (c : Cls K C) (M : MeV P w K mg base k C m sp) (q : sp [.ref a] H Q E) : tMethV P w K mg base k m (tVar i) tNil σ H Q E := ⟨_, hs, a, C, dx, fs, sp, rfl, ha, l, c, M, q⟩
theorem rd_methV (hs : σ[i]? = some (some (.ref a))) (ha : H a = some (.ins C dx fs)) (l : fs.lookup m = none) (c : Cls K C) (M : MeV P w K mg base k C m sp) (q : t σ H fun vs H2 => sp (.ref a :: vs) H2 Q E) : tMethV P w K mg base k m (tVar i) t σ H Q E := ⟨_, hs, a, C, dx, fs, sp, rfl, ha, l, c, M, q⟩
theorem isO_of (c : ObC K C fl) (ha : H a = some (.ins C dx fs)) (e : PySem.W.kitOne K (.ref C) (.ref D) = some b) (q : Q (.bl b) H) : rIsI K [.ref a, .ref D] H Q := ⟨.ref a, .ref D, .ref C, .ref D, b, rfl, rfl, c.ty ha, e, q⟩
theorem rD_same {n : Nat} {d : Dt} {x y : V} {neg : Bool} (hn : n ≤ 60) (rx : Rep K H n d x) (ry : Rep K H n d y) (q : Q (.bl (!neg)) H) : rD K neg x y H Q := ⟨n, d, d, hn, rx, ry, by
  rw [Rep.self rx]
  cases neg <;> exact q⟩
end
theorem same_mk {H H' : Hp} {x dx : Addr} {o u : HO} (hx : H x = none) (hdx : H dx = none) (s : Same (upd (upd H dx u) x o) H') : Same H H' := fun b v hb => s _ _ (by rw [upd_ne (ne_of_none hb hx), upd_ne (ne_of_none hb hdx)]; exact hb)
theorem same_updN {H H' : Hp} {d : Addr} {o : HO} (s : Same H H') (n : H d = none) : Same H (upd H' d o) := fun b u hb => by
  rw [upd_ne (ne_of_none hb n)]; exact s b u hb
end L2


end
section
set_option Elab.async false
set_option linter.all false
set_option maxRecDepth 100000
set_option maxHeartbeats 1000000
namespace L2
open PySem PySem.Spec PyProof.Rows
def Itd1 (lo : Int) (n : Nat) : It := ⟨fun i _ => i < n, fun i H x H' => H' = H ∧ x = .int (lo - i), fun i _ => n ≤ i⟩
section
variable {X : Cx} {tg : Expr}
def iRngD (ta : TA) : TI := fun σ H R => ta σ H fun vs H1 => ∃ i j : Int, vs = [.int i, .int j, .int (-1)] ∧ (-(2 ^ 62) ≤ i ∧ i < 2 ^ 62 ∧ -(2 ^ 62) ≤ j ∧ j < 2 ^ 62) ∧ R (Itd1 i (i - j).toNat) H1
end
theorem tFor_rngD {ta : TA} {g : TG} {tb : TS} {D : Ends} {σ : St} {H : Hp} : tFor (iRngD ta) g tb D σ H = ta σ H fun vs H1 => ∃ i j : Int, vs = [.int i, .int j, .int (-1)] ∧ (-(2 ^ 62) ≤ i ∧ i < 2 ^ 62 ∧ -(2 ^ 62) ≤ j ∧ j < 2 ^ 62) ∧ FoR (Itd1 i (i - j).toNat) g tb D σ H1 := rfl
end L2


end
section
set_option Elab.async false
set_option linter.all false
set_option maxRecDepth 100000
set_option maxHeartbeats 1000000
namespace L2
open PySem PySem.Spec PyProof.Rows PySem.W
section
variable {X : Cx} {pins : List (Addr × Obj)} {σ : St} {H : Hp} {s : Shared} {A : Around} {E : Value → Shared → Prop}
theorem sorted1_of {l : Addr} {xs : List V} {lt : V → V → Bool} {Q : VK} (I : Inv X pins σ H s) (hz : xs.length ≤ sizeLine) (h64 : xs.length < 1000) (hK : OneK xs lt)
    (hc : ∀ (E : Value → Shared → Prop) (R : List Value → Shared → Prop), (∀ vs h' tk, Vals xs vs → (∀ b o, s.heap.get? b = some o → h'.get? b = some o) → R vs { s with heap := h', toks := tk }) → wpAny (model X.prog X.w) X.A.in1 (collect (.ref l)) R E s)
    (h : ∀ D H' ys, Same H H' → H D = none → H' D = some (.lst ys) → ys.Perm xs → ys.Pairwise (fun a b => lt b a = false) → Q (.ref D) H') :
    wpAny (model X.prog X.w) X.A (call (.builtin "sorted") [.ref l]) (EP X pins σ Q) X.xe s := by
  refine Calls.call_function_entry kind_sorted plain_sorted entry_sorted (args_sorted1 _) ?_
  unfold Builtin.«sorted»
  refine wpAny_bind (m := checkCount "sorted" 1 1 _) (wpAny_pure ?_)
  refine wpAny_bind (hc _ _ fun vs h' tk rv kept => ?_)
  have I0 : Inv X pins σ H { s with heap := h', toks := tk } := I.kept kept
  clear hc I
  generalize ({ s with heap := h', toks := tk } : Shared) = s at I0 ⊢
  have I := I0
  clear I0
  have hlv := rv.length
  have hvz : vs.length ≤ sizeLine := by rw [← hlv]; exact hz
  refine wpAny_bind (wpAny_newList ?_ hvz)
  have hoL := Heap.get?_push_size s.heap (o := seqObj "list" vs.toArray 0) rfl
  have I1 : Inv X pins σ H { s with heap := s.heap.push (seqObj "list" vs.toArray 0) } := I.kept (t' := s.toks) fun b o q => Heap.get?_push_of_some _ q
  have fD : FpOk X pins H s.heap.objs.size := I.fpOk (Nat.le_refl _) (I.hok.fresh (Nat.le_refl _))
  show wpAny _ _ _ _ _ { s with heap := s.heap.push (seqObj "list" vs.toArray 0) }
  generalize s.heap.push (seqObj "list" vs.toArray 0) = h1 at hoL I1
  generalize s.heap.objs.size = D at hoL fD
  refine wpAny_bind (wpAny_holding (wpAny_call_entry slot_list_sort ⟨_, hoL, rfl⟩ entry_list_sort ?body (args_list_sort _)))
  case body =>
    rw [list_sort_plain]
    have s1 := Heap.SameBut.update h1 D (Obj.mapSeq fun _ => (#[] : Array Value))
    obtain ⟨e1, ho1⟩ : ∃ e1, (h1.update D (Obj.mapSeq fun _ => (#[] : Array Value))).get? D = some (seqObj "list" #[] e1) := ⟨_, get?_update_seq hoL fun _ => #[]⟩
    have I2 : Inv X pins σ H { s with heap := h1.update D (Obj.mapSeq fun _ => (#[] : Array Value)) } := I1.turned (t' := s.toks) (fun b o hb q => (s1.2 b hb).trans q) fD.1 fD.2.1 fD.2.2.2.1 fD.2.2.2.2.1 fD.2.2.2.2.2
    have I3 : Inv X (pins ++ [(D, seqObj "list" #[] e1)]) σ H { s with heap := h1.update D (Obj.mapSeq fun _ => (#[] : Array Value)) } := I2.pins_of fun p hp => (List.mem_append.mp hp).elim (fun z => I2.pin p (List.mem_append_right _ z)) fun z => by
      have z : p = (D, seqObj "list" #[] e1) := by simpa using z
      subst z
      exact ⟨ho1, fD.1, fD.2.1, fD.2.2.1, fun v q => by cases q⟩
    have I5 : Inv X (pins ++ [(D, seqObj "list" #[] e1)]) σ H { s with heap := ((h1.update D (Obj.mapSeq fun _ => (#[] : Array Value))).push (seqObj "tuple" vs.toArray 0)).push (seqObj "list" #[] 0) } := I3.kept (t' := s.toks) fun b u q => Heap.get?_push_of_some _ (Heap.get?_push_of_some _ q)
    refine wpAny_bind (listItems_at hoL rfl ?_)
    refine wpAny_bind (listUpdate_at hoL rfl ?_ (by rw [List.size_toArray]; exact hvz) (Nat.zero_le _))
    refine wpAny_bind (seqEpoch_at ho1 rfl ?_)
    refine wpAny_bind (wpAny_newTuple ?_ (by show vs.length ≤ _; exact hvz))
    refine wpAny_bind (wpAny_newList ?_ (Nat.zero_le _))
    refine wpAny_holding ?_
    show wpAny (model X.prog X.w) _ _ _ _ { s with heap := ((h1.update D (Obj.mapSeq fun _ => (#[] : Array Value))).push (seqObj "tuple" vs.toArray 0)).push (seqObj "list" #[] 0) }
    generalize ((h1.update D (Obj.mapSeq fun _ => (#[] : Array Value))).push (seqObj "tuple" vs.toArray 0)).push (seqObj "list" #[] 0) = h2 at I5
    dsimp only
    have tail : ∀ {st : SortSt} {out : List Value} {ys : List V}, (arrOf st).map (·.2) = List.toArray out → failedOf st = none → Vals ys out → ys.length < 1000 → ys.Perm xs → ys.Pairwise (fun a b => lt b a = false) →
        wpAny (model X.prog X.w) X.A.in1.in1 (do
          let ep ← seqEpoch D
          Builtin.List.listUpdate (Value.ref D) fun x => Array.map (fun x => x.snd) (arrOf st)
          match failedOf st with
          | some e => do
            rule "list.sort.comparison-raised"
            throw e
            if (ep != e1) = true then do
                rule "list.sort.modified"
                raiseErrorWords "ValueError" "list modified during sort"
                ret Value.none
              else ret Value.none
          | x =>
            if (ep != e1) = true then do
              rule "list.sort.modified"
              raiseErrorWords "ValueError" "list modified during sort"
              ret Value.none
            else ret Value.none)
          (fun fin s' => ∃ v, fin = Fin.done (Flow.ret v) ∧ wpAny (model X.prog X.w) X.A.in1 (ret (Value.ref D)) (fun fin s' => ∃ v, fin = Fin.done (Flow.ret v) ∧ EP X pins σ Q v s') X.xe s')
          X.xe { s with heap := h2 } := by
      intro st out ys hout hf ro hlo p1 p2
      have hD := (I5.pin (D, seqObj "list" #[] e1) (List.mem_append_right _ (List.mem_append_right _ (by simp)))).1
      have s2 := Heap.SameBut.update h2 D (Obj.mapSeq fun _ => List.toArray out)
      obtain ⟨c2, hc2⟩ : ∃ c2, (h2.update D (Obj.mapSeq fun _ => List.toArray out)).get? D = some (seqObj "list" (List.toArray out) c2) := ⟨_, get?_update_seq hD fun _ => List.toArray out⟩
      have ho : out.length < 1000 := by rw [← ro.length]; exact hlo
      rw [hout]
      refine wpAny_bind (seqEpoch_at hD rfl ?_)
      refine wpAny_bind (listUpdate_at hD rfl ?_ (Nat.zero_le _) (by rw [List.size_toArray]; exact Nat.le_succ_of_le (Nat.le_of_lt (small1000 (by omega)))))
      rw [hf]
      simp only [bne_self_eq_false, Bool.false_eq_true, if_false]
      have I6 : Inv X pins σ (upd H D (.lst ys)) { s with heap := h2.update D (Obj.mapSeq fun _ => List.toArray out) } := (I5.unpinned).adopt (t' := s.toks) fD (fun b u hb q => (s2.2 b hb).trans q) ⟨Nat.le_of_lt (small1000 (by omega)), out, c2, ro, hc2⟩
      exact wpAny_pure ⟨_, rfl, wpAny_pure ⟨_, rfl, .ref D, _, I6, rfl, h D _ ys ((Same.refl _).updL fD.1 _) fD.1 upd_same p1 p2⟩⟩
    by_cases h2' : vs.toArray.size < 2
    · rw [if_pos h2', if_pos h2']
      refine wpAny_bind (wpAny_pure ?_)
      rw [StateT.run_pure]
      refine wpAny_bind (wpAny_pure ?_)
      refine tail (st := SortSt.mk' general' (vs.toArray.zip vs.toArray) #[] 7 none) (out := vs) ?_ rfl rv (by omega) (List.Perm.refl _) (pw_small (by rw [List.size_toArray] at h2'; omega))
      apply Array.toList_inj.mp
      show (Array.map (·.2) (vs.toArray.zip vs.toArray)).toList = _
      rw [Array.toList_map, ksk_zip]
      show List.map (·.2) (vs.zip vs) = vs
      exact List.map_snd_zip (by omega)
    · rw [if_neg h2', if_neg h2']
      rw [List.size_toArray] at h2'
      obtain ⟨T, hT1, hT⟩ := hK.ty
      have mem : ∀ v ∈ vs, ∃ x ∈ xs, RelV x v := fun v hv => by
        obtain ⟨i, hi, rfl⟩ := List.mem_iff_getElem.mp hv
        obtain ⟨u, eu, ru⟩ := rv.get (i := i) (x := xs[i]'(by omega)) (List.getElem?_eq_getElem _)
        rw [List.getElem?_eq_getElem hi] at eu
        cases eu
        exact ⟨_, List.getElem_mem _, ru⟩
      refine wpAny_bind (kas_kind (T := .type T) (by omega) (fun v hv => ?_) hT1 (by simp) ?_)
      · obtain ⟨x, hx, rx⟩ := mem v hv
        exact Looks.of_pure (hT x hx v rx)
      have hn : 0 < xs.length := by omega
      have at_ : ∀ i, i < xs.length → RelV (xs.getD i .non) (vs.getD i Value.none) ∧ xs.getD i .non ∈ xs := fun i hi => by
        obtain ⟨u, eu, ru⟩ := rv.get (i := i) (x := xs[i]) (List.getElem?_eq_getElem _)
        have e1 : xs.getD i .non = xs[i] := by simp [hi]
        have e2 : vs.getD i Value.none = u := by simp [List.getD, eu]
        rw [e1, e2]
        exact ⟨ru, List.getElem_mem _⟩
      have run := SortB.big_run (prog := X.prog) (w := X.w) (A := X.A.in1.in1) (E := X.xe) (κ := oneType') (ks := vs) (vs := vs) (s := { s with heap := h2 }) (r := fun i => xs.countP (lt · (xs.getD i .non))) rfl (by omega)
        (fun i j C hi hj hC => by
          rw [← hlv] at hi hj
          rw [hK.swo.rank (at_ i hi).2 (at_ j hj).2] at hC
          unfold kas_ask
          exact hK.ask _ (at_ i hi).2 _ (at_ j hj).2 _ _ (at_ i hi).1 (at_ j hj).1 _ _ _ _ _ _ hC)
        (fun i j hi hj e => by
          rw [← hlv] at hi hj
          have r1 := (at_ i hi).1
          rw [e] at r1
          show xs.countP (lt · (xs.getD i .non)) = xs.countP (lt · (xs.getD j .non))
          rw [rel_same r1 (at_ j hj).1])
      rw [← hlv] at run
      refine wpAny_bind (wpAny_mono run ?_ fun _ _ x => x)
      rintro ⟨⟨⟩, st'⟩ s' ⟨p, har, hf, es, ok, up⟩
      subst es
      have hout := kat_snds (ks := vs) (vs := vs) rfl har
      exact tail hout hf (rv.pick p.toList) (by rw [List.length_map, Array.length_toList, ok.size]; omega) (picks_perm ok) (picks_up hK.swo ok hn up)
end
section
variable {prog : Program} {w : World} {A : Around} {E : Value → Shared → Prop} {s : Shared} {T : String} {r d : Addr} {n : Nat} {P : Nat → Value → Prop} {OK : Heap → Prop}
theorem code_collect {R : Result → Shared → Prop} (K : KdlSrc prog w T r d n P OK) (hh : A.handled = none) (hok : OK s.heap) (hn : n ≤ sizeLine)
    (hR : ∀ h' tk acc c, (∀ b o, s.heap.get? b = some o → h'.get? b = some o) → h'.get? s.heap.objs.size = some { cls := .type "list", dict := none, data := .seq acc c, slots := #[] } → ItemsOf P acc n → R (.ok (.ret (.ref s.heap.objs.size))) { s with heap := h', toks := tk }) :
    codeAny (model prog w) A (.builtin "proto.collect" ⟨[.ref r], []⟩) R s := by
  have hlt := K.there _ hok
  refine codeAny_builtin PySem.F.entry_proto_collect ?_
  rw [Around.under_plainId PySem.F.plain_proto_collect _]
  show wpAny _ A.in1 (newList [] >>= fun l => again (.builtin "list.__iadd__" ⟨[l, .ref r], []⟩)) _ _ s
  refine wpAny_bind (wpAny_newObj_type ?_)
  refine wpAny_pure ⟨plainId_quiet PySem.F.plain_list_iadd _, codeAny_builtin PySem.F.entry_list_iadd ?_⟩
  rw [Around.under_plainId PySem.F.plain_list_iadd _]
  have hS₁ : (s.heap.push { cls := .type "list", data := .seq ([] : List Value).toArray }).get? s.heap.objs.size = some { cls := .type "list", data := .seq ([] : List Value).toArray } := Heap.get?_push_size _ rfl
  show wpAny _ A.in1 (Builtin.List.listExtendWith (.ref s.heap.objs.size) (.ref r) (.ref s.heap.objs.size)) _ _ _
  exact kdl_extend (R := R) (s := { s with heap := s.heap.push { cls := .type "list", data := .seq ([] : List Value).toArray } }) K hh (K.keep _ _ hok fun b _ o e => Heap.get?_push_of_some _ e) _ (Nat.ne_of_gt hlt.1) (Nat.ne_of_gt hlt.2) _ _ hS₁ (fun h' tk acc' c' hk hS' hacc => hR h' tk acc' c' (fun b o e => hk b o (Nat.ne_of_lt (Heap.lt_size e)) (Heap.get?_push_of_some _ e)) hS' hacc) hn
theorem collect_src {Q : List Value → Shared → Prop} (K : KdlSrc prog w T r d n P OK) (hh : A.handled = none) (hok : OK s.heap) (hn : n ≤ sizeLine)
    (hQ : ∀ h' tk acc, (∀ b o, s.heap.get? b = some o → h'.get? b = some o) → ItemsOf P acc n → Q acc.toList { s with heap := h', toks := tk }) : wpAny (model prog w) A (collect (.ref r)) Q E s := by
  unfold collect
  refine wpAny_bind (wpAny_runValue (code_collect K hh hok hn fun h' tk acc c hk hS hacc => ?_))
  show wpAny _ A (load s.heap.objs.size >>= _) _ _ _
  refine wpAny_bind (wpAny_load hS ?_)
  exact wpAny_pure (hQ h' tk acc hk hacc)
end
theorem vals_at : ∀ {xs : List V} {us : List Value}, xs.length = us.length → (∀ (i : Nat) x u, xs[i]? = some x → us[i]? = some u → RelV x u) → Vals xs us
  | [], [], _, _ => .nil
  | x :: xs, u :: us, l, h => .cons (h 0 x u rfl rfl) (vals_at (by simpa using l) fun i x u a b => h (i + 1) x u (by simpa using a) (by simpa using b))
  | [], u :: us, l, _ => by simp at l
  | x :: xs, [], l, _ => by simp at l
theorem keys_vals {kvs : List (Key × V)} {vs : List (Key × Value)} {acc : Array Value} {prog : Program} {w : World} (rv : KV kvs vs) (h : ItemsOf (fun i v => ∃ k x, vs[i]? = some (k, x) ∧ (mixKind prog w).is k v = true) acc vs.length) : Vals (kvs.map fun p => kV p.1) acc.toList := by
  refine vals_at (by have e1 := h.1; have e2 := rv.len; have e3 : acc.toList.length = acc.size := Array.length_toList; rw [List.length_map]; omega) fun i x u hx hu => ?_
  rw [List.getElem?_map] at hx
  obtain ⟨⟨k, v⟩, hkv, rfl⟩ := Option.map_eq_some_iff.mp hx
  obtain ⟨u', hu', _⟩ := rv.get hkv
  obtain ⟨k', x', e, hk⟩ := h.2 i u (by rw [← Array.getElem?_toList]; exact hu)
  rw [hu'] at e
  cases e
  exact relKey hk
def rSortD : List V → Hp → VK → Prop := fun vs H Q => ∃ d kvs lt, vs = [.ref d] ∧ H d = some (.dK kvs) ∧ kvs.length < 1000 ∧ OneK (kvs.map fun p => kV p.1) lt ∧
  ∀ D H' ys, Same H H' → H D = none → H' D = some (.lst ys) → ys.Perm (kvs.map fun p => kV p.1) → ys.Pairwise (fun a b => lt b a = false) → Q (.ref D) H'
theorem call_sortedD {X : Cx} (hh : X.A.handled = none) : CallR X (.builtin "sorted") rSortD := by
  intro pins s σ H xs us Q I r h
  obtain ⟨d, kvs, lt, rfl, hd, hl, hK, q⟩ := h
  obtain ⟨u, rfl, ru⟩ := vals1 r
  obtain rfl : u = Value.ref d := ru
  obtain ⟨z, y, vs, rv, o, es, ep, e0, c1, c2, c3⟩ := (show ObjOk X.prog X.w H s.heap d (.dK kvs) from I.hok d _ hd)
  have da : s.heap.DictAt (mixKind X.prog X.w) d vs ep := ⟨o, es, e0, c1, c2, c3⟩
  refine sorted1_of I (by rw [List.length_map]; exact Nat.le_of_lt (small1000 (by omega))) (by rw [List.length_map]; exact hl) hK (fun E R hR => ?_) q
  exact collect_src (kdl_dict (knd := mixKind X.prog X.w) (ep := ep) y) hh da (by rw [← rv.len]; exact Nat.le_of_lt (small1000 (by omega))) fun h' tk acc hk hacc => hR _ h' tk (keys_vals rv hacc) hk
end L2


end
section
set_option Elab.async false
set_option linter.all false
set_option maxRecDepth 100000
set_option maxHeartbeats 1000000
namespace L2
open PySem PySem.Spec PyProof.Rows PySem.W
section
variable {prog : Program} {w : World} {A : Around} {E : Value → Shared → Prop} {s : Shared}
end
/-- each once, in the order of their coming -/
def onceK {K : Type} [DecidableEq K] (ks : List K) : List K := ks.foldl (fun acc k => if k ∈ acc then acc else acc ++ [k]) []
section
variable {prog : Program} {w : World} {K : Type} [DecidableEq K] {knd : KeyKind prog w K} {A : Around} {E : Value → Shared → Prop} {s : Shared}
end
end L2


end
section
set_option Elab.async false
set_option linter.all false
set_option maxRecDepth 100000
set_option maxHeartbeats 1000000
namespace L2
open PySem PySem.Spec PyProof.Rows PySem.W
/-- set(e) as it is used by what takes it at once -/
def tSetK (K : PySem.W.Frag) (te : TE) (Q : List Key → Hp → Prop) : St → Hp → Prop := fun σ H => te σ H fun x H1 => ∃ l ks, x = .ref l ∧ SqL K H1 l (ks.map kV) ∧ ks.length < 4000 ∧ Q ks H1
section
variable {X : Cx} {e : Expr} {te : TE} {p pos p2 pos2 : Pos} {pins : List (Addr × Obj)} {σ : St} {H : Hp} {s : Shared}
def tLenSet (K : PySem.W.Frag) (te : TE) : TE := fun σ H Q => tSetK K te (fun ks H1 => Q (.int (onceK ks).length) H1) σ H
end
end L2


end
section
set_option Elab.async false
set_option linter.all false
set_option maxRecDepth 100000
set_option maxHeartbeats 1000000
namespace L2
open PySem PySem.Spec PyProof.Rows PySem.W
section
variable {X : Cx}
def rExtendE (K : PySem.W.Frag) : V → List V → Hp → VK → Prop := fun x vs H Q => ∃ l b xs zs, x = .ref l ∧ vs = [.ref b] ∧ H l = some (.lst xs) ∧ (SqL K H b zs ∨ SqT K H b zs) ∧ xs.length + zs.length ≤ sizeLine ∧ Q .non (upd H l (.lst (xs ++ zs)))
end
end L2


end
section
set_option Elab.async false
set_option linter.all false
set_option maxRecDepth 100000
set_option maxHeartbeats 1000000
namespace L2
open PySem PySem.Spec PyProof.Rows PySem.W
section
variable {X : Cx} {c : Expr} {a b : Stmt} {tc : TT} {ta tb : TS1} {pos : Pos}
theorem one1 {pins : List (Addr × Obj)} {σ : St} {H : Hp} {s : Shared} {D : Ends} {E : XK} (ha : PS1 X a ta) (I : Inv X pins σ H s) (q : ta D σ H E) : wpAny (model X.prog X.w) X.A (execs [a] X.env) (SP X pins D) (X1P X pins σ E) s := by
  refine wpAny_execs_cons (thn (ha pins s σ H D E I q) fun f s1 z => ?_)
  cases f with
  | next => exact wpAny_execs_nil z
  | ret u => exact z
  | brk => exact z
  | cont => exact z
theorem ps1_if (hc : PT X.nox c tc) (ha : PS1 X a ta) (hb : PS1 X b tb) : PS1 X (.If c [a] [b] pos) (fun D σ H E => tc σ H fun d H1 => if d = true then ta D σ H1 E else tb D σ H1 E) := by
  intro pins s σ H D E I h
  refine wpAny_If (wpAny_mono (hc pins s σ H _ (I.wish _) h) (fun d s1 ⟨H1, I1, q1⟩ => ?_) fun _ _ z => False.elim z)
  have I1 := I1.unwish
  cases d with
  | true => exact one1 ha I1 q1
  | false => exact one1 hb I1 q1
end
end L2


end
section
set_option Elab.async false
set_option linter.all false
set_option maxRecDepth 100000
set_option maxHeartbeats 1000000
namespace L2
open PySem PySem.Spec PyProof.Rows
section
variable {X : Cx} {st b₀ : Stmt} {suite : List Stmt} {t1 : TS1} {ts : TS} {x n : Str} {D₀ CT : Addr} {np hpos pos : Pos} {i : Nat}
theorem ps_tryX (h1 : PS1 X st t1) (hex : X.ex = []) (hst : X.stack = X.env :: X.outer) (hfr : X.env.frame = some X.env.locals) (hg : Gl X x) (hm : X.mg x = some (.ref D₀)) (xc : PySem.W.XCl X.K D₀ CT)
    (hN : X.N.Nodup) (hi : X.N[i]? = some n) (hk : X.env.scope.names.lookup n = some .local) (hs : ∀ ea, X.Ok → PSs (X.held ea []).nox (b₀ :: suite) ts) (hdb : (x == ("__debug__" : Str)) = false := by decide) :
    PS X (.Try [st] [.ExceptHandler (some (.Name x np)) (some n) (b₀ :: suite) hpos] [] [] pos)
      (fun D σ H => t1 D σ H fun cls dx H' => cls = .ref D₀ ∧ ∀ ea, H' ea = none → ts (D.gone i) (σ.set i (some (.ref ea))) (upd H' ea (xC ea D₀ dx))) := by
  intro pins s σ H D I h
  refine wpAny_Try_except (wpAny_execs_cons (wpAny_mono (h1 pins s σ H D _ I h) (fun f s1 q => ?_) fun ev s1 q => ?_))
  · cases f with
    | next => exact wpAny_execs_nil (wpAny_execs_nil q)
    | ret v => exact q
    | brk => exact q
    | cont => exact q
  obtain ⟨ea, cls, dx, ch, H', old, rfl, I1, y, o, hsz, n1, n2, rfl, hts⟩ := q
  have frm : X.A.frames = some (X.env :: X.outer) := by rw [← hst]; exact I1.ok.frames
  have stk : s1.heap.FunFrames X.base (X.env :: X.outer) := by rw [← hst]; exact I1.stack
  obtain ⟨nm', q', N', bs', sn', sub', ab', col', dd', j0, j1, j2, j3, j5, lk', ok'⟩ := xc.cl
  refine note_ok (base := X.base) frm stk hfr (fun b hb => ⟨hsz b hb, I1.hok.fresh hb⟩) y (.inr rfl) fun h2 st2 y2 => ?_
  refine land_ok (s := { s1 with heap := h2 }) (fs := frs (X.env :: X.outer)) (fun b hb => ((st2.funs stk).mem hb).2) y2 fun h3 st3 y3 => ?_
  have st := st2.trans st3
  rw [← hst] at st
  have I3 : Inv X pins σ H' { s1 with heap := h3 } := I1.stayed hex o n1 n2 st
  refine wpAny_handleBy_cons (codeAny_handlers_test (ld_glob (X := X.held ea []) (I3.held (ea := ea) (ps := []) fun p hp => by cases hp) hg hm ?_ hdb)) (by intro z; cases z)
  obtain ⟨oe, vs, he, hc, hdx, hd, _, hh⟩ := id y3
  refine excMatches_up (I3.kIn _ _ lk') (I3.kIn _ _ lk') he hc (by rw [List.contains_cons]; exact Bool.or_eq_true _ _ |>.mpr (.inr (by decide))) (by simp) (codeAny_handlers_suite_as ?_)
  refine land_ok (s := { s1 with heap := h3 }) (fs := frs X.stack) (fun b hb => (I3.stack.mem hb).2) y3 fun h4 st4 y4 => ?_
  have I4 : Inv X pins σ H' { s1 with heap := h4 } := I3.stayed hex o n1 n2 st4
  obtain ⟨oe4, vs4, he4, hc4, hdx4, hd4, _, _⟩ := y4
  have nfr : ∀ b u va, h4.get? b = some u → u.data = .fields va → b ≠ X.env.locals := fun b u va q d => by
    have st4 : h4.FunFrames X.base (X.env :: X.outer) := by rw [← hst]; exact I4.stack
    have hno : b ∉ frs (X.env :: X.outer) := fun hm => by
      obtain ⟨_, o2, q2, hn2⟩ := st4.mem hm
      rw [q] at q2; cases q2
      exact hn2 va d
    rw [frs_cons hfr] at hno
    exact fun z => hno (by rw [z]; exact List.mem_cons_self)
  have hok4 := I4.hok
  have I5 : Inv X pins σ (upd H' ea (xC ea D₀ dx)) { s1 with heap := h4 } := I4.track n2 (o.ent _ n1) (nfr _ _ _ he4 hd4) (fun x c q z => by
      obtain ⟨v, oc, ho, hcd⟩ := I4.cell x c q
      rw [z] at ho
      have ho : h4.get? ea = some oc := ho
      rw [he4] at ho; cases ho
      rw [hd4] at hcd; cases hcd) (fun p hp z => o.pin p hp (by rw [z]; exact n1)) (ok_xC he4 hc4 hdx4 hd4)
  have J5 : Inv (X.held ea []).nox pins σ (upd H' ea (xC ea D₀ dx)) { s1 with heap := h4 } := (I5.held (ea := ea) (ps := []) fun p hp => by cases hp).wish _
  refine store_ok (X := (X.held ea []).nox) J5 hN hi (.inl hk) (v := .ref ea) rfl (fun s6 J6 => ?_) (.inr hk)
  refine wpAny_mono (hs ea I.ok pins s6 _ _ (D.gone i) J6 (hts ea n2)) (fun f s7 z => ?_) fun _ _ z => False.elim z
  show wpAny _ _ (do bindName X.env n .none; unbindBehindTheSuite X.env n hpos) _ _ _
  have back : ∀ {σ' : St} {H'' : Hp}, Inv (X.held ea []).nox pins σ' H'' s7 → Inv X pins σ' H'' s7 := fun J => (Inv.unwish J).unheld I.ok
  cases f with
  | next => obtain ⟨σ', H5, J, q⟩ := z; exact name_gone (back J) hN hi hk fun s8 J8 => ⟨_, H5, J8, q⟩
  | brk => obtain ⟨σ', H5, J, q⟩ := z; exact name_gone (back J) hN hi hk fun s8 J8 => ⟨_, H5, J8, q⟩
  | cont => obtain ⟨σ', H5, J, q⟩ := z; exact name_gone (back J) hN hi hk fun s8 J8 => ⟨_, H5, J8, q⟩
  | ret u => obtain ⟨v, σ', H5, J, r, q⟩ := z; exact name_gone (back J) hN hi hk fun s8 J8 => ⟨v, _, H5, J8, r, q⟩
end
section
variable {X : Cx} {ea : Addr} {qs : List (Addr × Obj)}
theorem pe_xfldH {e : Expr} {f : Str} {pos : Pos} {ta : TE} (CT : Addr) (he : PE (X.held ea qs).nox e ta) (hb : attributeBase e f X.env (eval e X.env) = eval e X.env) : PE (X.held ea qs).nox (.Attribute e f pos) (tXF X.K CT ta f) := pe_xfld CT he hb
theorem call_isXH (CT : Addr) : CallR (X.held ea qs).nox (.builtin "isinstance") (rIsX X.K CT) := call_isX CT
end
/-- isinstance(e, T), T the class above -/
theorem kit_up {K : PySem.W.Frag} {C CT : Addr} (c : PySem.W.XCl K C CT) (hT : ExcC K CT PySem.W.bmV PySem.W.bmV "ValueError.__new__") : PySem.W.kitOne K (.ref C) (.ref CT) = some true := by
  obtain ⟨cd, e, m, _⟩ := c.cd
  unfold PySem.W.kitOne
  split
  · rfl
  · have hm : PySem.W.mroIn K C (.ref CT) = some true := by
      unfold PySem.W.mroIn
      rw [e]
      show (if cd.mro.isEmpty = true then none else some (cd.mro.contains (.ref CT))) = some true
      rw [m]
      rw [if_neg (by simp)]
      simp
    obtain ⟨nm, q, N, bs, hdct, sn, sub, ab, col, dd, k0, k1, k2, k3, k5, lk, ok, _⟩ := hT.ex
    have h1 : (PySem.W.clsIn K CT).isSome = true := by unfold PySem.W.clsIn; rw [lk]; rfl
    have h2 : PySem.W.typeIn K (.ref CT) = some (.type "type") := by show (K.lookup CT).map (·.cls) = _; rw [lk]; rfl
    unfold PySem.W.kitCls
    show (if ((PySem.W.clsIn K CT).isSome && PySem.W.typeIn K (Value.ref CT) == some (Value.type "type")) = true then PySem.W.subIn K (Value.ref C) (Value.ref CT) else none) = some true
    rw [h1, h2, if_pos (by rfl)]
    unfold PySem.W.subIn
    exact hm
end L2


end
section
set_option Elab.async false
set_option linter.all false
set_option maxRecDepth 100000
set_option maxHeartbeats 1000000
namespace PySem.W
open PySem
def clI (K : Frag) (C f : Addr) : Bool := (match findCls K (.ref C) (.type "type") "__init__" with | some (.val v) => v == .ref f | _ => false) && (specialIn K (.ref C) "__getattribute__" == some (some (.builtin "type.__getattribute__")) && readsIn K C (.type "type"))
end PySem.W
namespace L2
open PySem PySem.Spec PyProof.Rows
structure ClI (K : PySem.W.Frag) (C f : Addr) : Prop where
  sp : PySem.W.specialIn K (.ref C) "__getattribute__" = some (some (.builtin "type.__getattribute__"))
  rd : PySem.W.readsIn K C (.type "type") = true
  ini : PySem.W.findCls K (.ref C) (.type "type") "__init__" = some (.val (.ref f))
theorem ClI.of {K : PySem.W.Frag} {C f : Addr} (h : PySem.W.clI K C f = true) : ClI K C f := by
  unfold PySem.W.clI at h
  rw [Bool.and_eq_true, Bool.and_eq_true] at h
  obtain ⟨a, b, c⟩ := h
  refine ⟨beq_iff_eq.mp b, c, ?_⟩
  split at a
  · rename_i v e
    rw [e, beq_iff_eq.mp a]
  · exact (Bool.false_ne_true a).elim
/-- a class whose __init__ is called by those below it -/
def BaI (P : Program) (w : World) (K : PySem.W.Frag) (mg : Str → Option Value) (base : Heap) (k : Nat) (x : Str) (sp : Sp) : Prop :=
  ∃ C f fd ps, mg x = some (.ref C) ∧ ClI K C f ∧ PySem.W.keepIn K (.ref f) = true ∧ FnOk P w K mg base CX0 k f fd ps sp ∧ Binds K fd ps []
section
variable {X : Cx} {x : Str} {sp : Sp} {e : Expr} {es : List Expr} {t : TA} {p pos apos : Pos} {pl : Sem Bool} {j k : Nat}
theorem pe_bainit (G : BaI X.prog X.w X.K X.mg X.base j x sp) (hr : Room k X.A) (hj : j ≤ k) (hg : Gl X x) (ha : PA X (e :: es) t) (hdb : (x == ("__debug__" : Str)) = false := by decide)
    (he : starEach (e :: es) X.env = (false, eval e X.env) :: starEach es X.env := by rfl) (hpl : (backTo pos (starEach es X.env)).any (·.1) = false := by rfl)
    (ht : eval (.Call (.Attribute (.Name x p) "__init__" apos) (e :: es) [] pos) X.env = (do
      let ov ← eval (.Name x p) X.env
      standAt apos.atName
      let (f, first) ← holding [ov] (getMethod ov "__init__" pl)
      callWith pos f first (backTo pos (starEach (e :: es) X.env)) (backToKw pos (keywordEach [] X.env))) := by rfl) :
    PE X (.Call (.Attribute (.Name x p) "__init__" apos) (e :: es) [] pos) (tCall sp [] E0 t) := by
  obtain ⟨C, f, fd, ps, hm, T, kp, F, b⟩ := G
  intro pins s σ H Q I h
  refine PySem.W.methodCall_KW (pl := pl) (ld_glob I hg hm ?_ hdb) ht
  refine PySem.W.method_cls I.kIn T.sp (PySem.W.cls_value I.kIn T.rd T.ini rfl ?_)
  refine PySem.W.callWith_K (first := []) (h₀ := X.base) I.ok.mod.kin kp (thn (ha pos pins _ σ H _ (I.tok _) h) fun us s1 ⟨vs, H1, I1, r, q⟩ => ⟨I1.kIn, ?_⟩) he hpl
  rw [List.nil_append]
  exact run_fn F (hr.mono hj) b .nil pass0 I1 r q
end
end L2


end
section
set_option Elab.async false
set_option linter.all false
set_option maxRecDepth 100000
set_option maxHeartbeats 1000000
namespace L2
open PySem PySem.Spec PyProof.Rows
noncomputable instance : DecidableEq Dt := fun a b => Classical.propDecidable (a = b)
/-- a flat value that may stand in a key -/
def hV : V → Bool
  | .int _ => true
  | .str _ => true
  | .non => true
  | _ => false
mutual
def hD : Dt → Bool
  | .v x => hV x
  | .t xs => hDs xs
  | .l _ => false
def hDs : List Dt → Bool
  | [] => true
  | x :: xs => hD x && hDs xs
end
theorem hDs_mem : ∀ {xs : List Dt}, hDs xs = true → ∀ x ∈ xs, hD x = true
  | [], _, x, h => nomatch h
  | y :: ys, h, x, hx => by
    unfold hDs at h
    rw [Bool.and_eq_true] at h
    rcases List.mem_cons.mp hx with e | hx
    · rw [e]; exact h.1
    · exact hDs_mem h.2 x hx
theorem hDs_of : ∀ {xs : List Dt}, (∀ x ∈ xs, hD x = true) → hDs xs = true
  | [], _ => by unfold hDs; rfl
  | y :: ys, h => by
    unfold hDs
    rw [h y List.mem_cons_self, hDs_of fun x hx => h x (List.mem_cons_of_mem _ hx)]; rfl
mutual
def haD (w : World) : Dt → Int
  | .v (.int i) => hashInt i
  | .v (.str x) => hashStr w x
  | .v _ => reduceHash 0xFCA86420
  | .t xs => reduceHash (Builtin.Tuple.tupleHashOf (haDs w xs))
  | .l _ => 0
def haDs (w : World) : List Dt → List Int
  | [] => []
  | x :: xs => haD w x :: haDs w xs
end
mutual
def drD : Dt → Nat
  | .v _ => 1
  | .t xs => drDs xs + 1
  | .l _ => 0
def drDs : List Dt → Nat
  | [] => 0
  | x :: xs => drD x + drDs xs
end
theorem haDs_snoc (w : World) (y : Dt) : ∀ xs, haDs w (xs ++ [y]) = haDs w xs ++ [haD w y]
  | [] => by simp [haDs]
  | x :: xs => by rw [List.cons_append]; unfold haDs; rw [haDs_snoc w y xs]; rfl
theorem drDs_snoc (y : Dt) : ∀ xs, drDs (xs ++ [y]) = drDs xs + drD y
  | [] => by simp [drDs]
  | x :: xs => by
    rw [List.cons_append]
    have h1 : drDs (x :: (xs ++ [y])) = drD x + drDs (xs ++ [y]) := by rw [drDs]
    have h2 : drDs (x :: xs) = drD x + drDs xs := by rw [drDs]
    rw [h1, h2, drDs_snoc y xs]; omega
/-- the value u is the data d, of at most n storeys -/
def HasD (h : Heap) : Nat → Dt → Value → Prop
  | 0, .v x, u => hV x = true ∧ RelV x u
  | 0, .t _, _ => False
  | 0, .l _, _ => False
  | _ + 1, .v x, u => hV x = true ∧ RelV x u
  | n + 1, .t ds, u => ∃ (a : Addr) (its : List Value), u = .ref a ∧ IsTup h a its.toArray ∧ Paired (fun d v => HasD h n d v) ds its
  | _ + 1, .l _, _ => False
theorem HasD.flat {h : Heap} {n : Nat} {x : V} {u : Value} : HasD h n (.v x) u → hV x = true ∧ RelV x u := by
  cases n <;> exact id
theorem HasD.tup {h : Heap} {n : Nat} {ds : List Dt} {u : Value} (q : HasD h n (.t ds) u) : ∃ m a its, n = m + 1 ∧ u = .ref a ∧ IsTup h a (List.toArray its) ∧ Paired (fun d v => HasD h m d v) ds its := by
  cases n with
  | zero => exact q.elim
  | succ m => obtain ⟨a, its, e, p, r⟩ := q; exact ⟨m, a, its, rfl, e, p, r⟩
theorem relV_inj {x y : V} {u : Value} (hx : hV x = true) (hy : hV y = true) (r : RelV x u) (q : RelV y u) : x = y := by
  cases x <;> first | exact (Bool.false_ne_true hx).elim | skip
  all_goals (cases y <;> first | exact (Bool.false_ne_true hy).elim | skip)
  all_goals simp only [RelV] at r q
  all_goals first
    | rfl
    | (obtain ⟨t, rfl⟩ := r; obtain ⟨t', e⟩ := q; cases e; rfl)
    | (obtain ⟨t, rfl⟩ := r; obtain ⟨t', e⟩ := q; cases e)
    | (obtain ⟨t, rfl⟩ := r; cases q)
    | (subst r; obtain ⟨t', e⟩ := q; cases e)
theorem relV_ref {x : V} {a : Addr} (hx : hV x = true) (r : RelV x (.ref a)) : False := by
  cases x <;> first | exact (Bool.false_ne_true hx).elim | skip
  · cases (show Value.ref a = Value.none from r)
  · obtain ⟨t, e⟩ := r; cases e
  · obtain ⟨t, e⟩ := r; cases e
theorem isTup_inj {h : Heap} {a : Addr} {xs ys : List Value} (p : IsTup h a xs.toArray) (q : IsTup h a ys.toArray) : xs = ys := by
  obtain ⟨o, ho, _, n, hd⟩ := p
  obtain ⟨o', ho', _, n', hd'⟩ := q
  rw [ho] at ho'; cases ho'
  rw [hd] at hd'
  injection hd' with e _
  injection e
theorem paired_det {α β : Type} {F G : α → β → Prop} (det : ∀ a b u, F a u → G b u → a = b) : ∀ {xs ys : List α} {us : List β}, Paired F xs us → Paired G ys us → xs = ys
  | _, _, _, .nil, .nil => rfl
  | _, _, _, .cons r t, .cons r' t' => by rw [det _ _ _ r r', paired_det det t t']
theorem HasD.inj {h : Heap} : ∀ (n m : Nat) (x y : Dt) (u : Value), HasD h n x u → HasD h m y u → x = y := by
  intro n
  induction n with
  | zero =>
    intro m x y u p q
    cases x with
    | v x =>
      cases y with
      | v y => obtain ⟨a, b⟩ := p; obtain ⟨c, d⟩ := q.flat; rw [relV_inj a c b d]
      | t ds => obtain ⟨m, a, its, _, rfl, _⟩ := q.tup; exact (relV_ref p.1 p.2).elim
      | l _ => cases m <;> exact q.elim
    | t _ => exact p.elim
    | l _ => exact p.elim
  | succ n ih =>
    intro m x y u p q
    cases x with
    | v x =>
      cases y with
      | v y => obtain ⟨a, b⟩ := p; obtain ⟨c, d⟩ := q.flat; rw [relV_inj a c b d]
      | t ds => obtain ⟨m, a, its, _, rfl, _⟩ := q.tup; exact (relV_ref p.1 p.2).elim
      | l _ => cases m <;> exact q.elim
    | t ds =>
      obtain ⟨a, its, rfl, p1, r⟩ := p
      cases y with
      | v y => obtain ⟨c, d⟩ := q.flat; exact (relV_ref c d).elim
      | t es =>
        obtain ⟨m', a', its', _, e, p2, r2⟩ := q.tup
        cases e
        have := isTup_inj p1 p2
        subst this
        rw [paired_det (fun a b u h1 h2 => ih m' a b u h1 h2) r r2]
      | l _ => cases m <;> exact q.elim
    | l _ => exact p.elim
theorem HasD.keeps {h h' : Heap} {e : Addr} {o : Obj} {es ep} (ho : h.get? e = some o) (hd : o.data = .dict es ep) (hs : Heap.SameBut e h h') : ∀ (n : Nat) (d : Dt) (u : Value), HasD h n d u → HasD h' n d u := by
  intro n
  induction n with
  | zero => intro d u q; cases d <;> exact q
  | succ n ih =>
    intro d u q
    cases d with
    | v x => exact q
    | l x => exact q
    | t ds =>
      obtain ⟨a, its, rfl, ⟨o', ho', hc, m, hd'⟩, r⟩ := q
      have hne : a ≠ e := by
        intro z; subst z
        rw [ho] at ho'; cases ho'
        rw [hd] at hd'; exact nomatch hd'
      exact ⟨a, its, rfl, ⟨o', (hs.2 a hne).trans ho', hc, m, hd'⟩, Paired.mapP r fun d v z => ih d v z⟩
section
variable {prog : Program} {w : World} {E : Value → Shared → Prop}
theorem hash_V {A : Around} {s : Shared} {x : V} {u : Value} {Q : Int → Shared → Prop} (f : hV x = true) (r : RelV x u) (h : Q (haD w (.v x)) { s with toks := s.toks + drD (.v x) }) : wpAny (model prog w) A (pyHash u) Q E s := by
  have e1 : drD (.v x) = 1 := by rw [drD]
  rw [e1] at h
  cases x <;> first | exact (Bool.false_ne_true f).elim | skip
  · cases (show u = Value.none from r)
    rw [haD] at h
    exact PySem.W.pyHash_slot (T := "NoneType") rfl F.slot_NoneType_hash F.entry_NoneType_hash (F.args_NoneType_hash_1 _) (beq_builtin_none _) (.inl rfl) (wpAny_bind (wpAny_pure (wpAny_bind (wpAny_mkInt (wpAny_pure ⟨_, _, rfl, h⟩)))))
    all_goals (intros; rename_i z; cases z)
  · obtain ⟨t, rfl⟩ := r
    rw [haD] at h
    exact wpAny_pyHash_int h
  · obtain ⟨t, rfl⟩ := r
    rw [haD] at h
    exact wpAny_pyHash_str h
theorem hash_D : ∀ (n : Nat) {A : Around} {s : Shared} {d : Dt} {u : Value} {Q : Int → Shared → Prop}, A.units + n < cLine → HasD s.heap n d u → Q (haD w d) { s with toks := s.toks + drD d } → wpAny (model prog w) A (pyHash u) Q E s := by
  intro n
  induction n with
  | zero =>
    intro A s d u Q hu x h
    cases d with
    | v x' => exact hash_V x.1 x.2 h
    | t _ => exact x.elim
    | l _ => exact x.elim
  | succ n ih =>
    intro A s d u Q hu x h
    cases d with
    | v x' => exact hash_V x.1 x.2 h
    | l _ => exact x.elim
    | t ds =>
      obtain ⟨a, its, rfl, ⟨o, ho, hc, m, hd⟩, r⟩ := x
      refine PySem.W.pyHash_slot (T := "tuple") ⟨o, ho, hc⟩ F.slot_tuple_hash F.entry_tuple_hash (F.args_tuple_hash_1 _) (beq_builtin_none _) (.inr (by omega)) ?_
      show wpAny _ _ (Builtin.Tuple.tupleItemsOf (.ref a) >>= _) _ _ s
      refine wpAny_bind (wpAny_tupleItemsOf ho hd ?_)
      refine wpAny_bind ?_
      rw [← Array.forIn_toList]
      refine wpAny_forIn_list _
        (fun rest (b : Array Int) s' => ∃ done left, ds = done ++ left ∧ Paired (fun d v => HasD s.heap n d v) left rest ∧ b.toList = haDs w done ∧ s' = { s with toks := s.toks + drDs done })
        _ ?_ ?_ _ _ ⟨[], ds, rfl, by simpa using r, by simp [haDs], by simp [drDs]⟩
      · rintro x rest b s' ⟨done, left, rfl, hl, hb, rfl⟩
        cases hl with
        | @cons k _ ks' _ h1 hl' =>
          refine wpAny_bind (ih (s := { s with toks := s.toks + drDs done }) (by show A.units + 1 + n < _; omega) h1 ?_)
          first
            | exact wpAny_pure ⟨done ++ [k], ks', by simp, hl', by simp [hb, haDs_snoc], by simp [drDs_snoc, Nat.add_assoc]⟩
            | exact wpAny_bind (wpAny_pure (wpAny_pure ⟨done ++ [k], ks', by simp, hl', by simp [hb, haDs_snoc], by simp [drDs_snoc, Nat.add_assoc]⟩))
      · rintro b s' ⟨done, left, rfl, hl, hb, rfl⟩
        cases hl
        rw [List.append_nil] at h
        show wpAny _ _ (retInt (Builtin.Tuple.tupleHashOf b.toList)) _ _ _
        rw [hb]
        refine wpAny_bind (wpAny_mkInt (wpAny_pure ⟨_, _, rfl, ?_⟩))
        have e1 : haD w (.t done) = reduceHash (Builtin.Tuple.tupleHashOf (haDs w done)) := by rw [haD]
        have e2 : drD (.t done) = drDs done + 1 := by rw [drD]
        rw [e1, e2] at h
        exact h
end
theorem eqV_hV {x y : V} (hx : hV x = true) (hy : hV y = true) : eqV x y = decide (Dt.v x = Dt.v y) := by
  have : eqV x y = decide (x = y) := by
    cases x <;> first | exact (Bool.false_ne_true hx).elim | skip
    all_goals (cases y <;> first | exact (Bool.false_ne_true hy).elim | skip)
    all_goals first | (simp [eqV]; done) | (rw [eqV, Bool.eq_iff_iff, beq_iff_eq, decide_eq_true_iff]; exact ⟨fun e => by rw [e], fun e => by injection e⟩)
  rw [this, Bool.eq_iff_iff, decide_eq_true_iff, decide_eq_true_iff]
  exact ⟨fun e => by rw [e], fun e => by injection e⟩
theorem flat_hV {x : V} (h : hV x = true) : flatV x = true := by
  cases x <;> first | rfl | exact (Bool.false_ne_true h).elim
theorem lists_eq {ds es : List Dt} {e : Nat → Bool} (he : ∀ i, i < ds.length → i < es.length → e i = decide (ds.getD i default = es.getD i default)) : ((List.range (min ds.length es.length)).all e && (ds.length == es.length)) = decide (Dt.t ds = Dt.t es) := by
  rw [Bool.eq_iff_iff, decide_eq_true_iff, Bool.and_eq_true, beq_iff_eq, List.all_eq_true]
  constructor
  · rintro ⟨h1, h2⟩
    congr 1
    refine List.ext_getElem h2 fun i a b => ?_
    have := h1 i (List.mem_range.mpr (by omega))
    rw [he i a b, decide_eq_true_iff] at this
    rw [getD_of (List.getElem?_eq_getElem a), getD_of (List.getElem?_eq_getElem b)] at this
    exact this
  · intro h
    injection h with h
    subst h
    refine ⟨fun i hi => ?_, rfl⟩
    have := List.mem_range.mp hi
    rw [he i (by omega) (by omega), decide_eq_true_iff]
theorem paired_get {α β : Type} {F : α → β → Prop} : ∀ {xs : List α} {us : List β} {i : Nat} {x : α} {u : β}, Paired F xs us → xs[i]? = some x → us[i]? = some u → F x u
  | _, _, _, _, _, .nil, h, _ => by simp at h
  | _, _, 0, _, _, .cons r _, h, h' => by simp at h h'; rw [← h, ← h']; exact r
  | _, _, i + 1, _, _, .cons _ t, h, h' => paired_get (i := i) t (by simpa using h) (by simpa using h')
theorem eq_D : ∀ (n : Nat) {A : Around} {s : Shared} {d d' : Dt} {u v : Value}, A.units + n < cLine → HasD s.heap n d u → HasD s.heap n d' v → SeqAt.EqAt A s u v (decide (d = d')) := by
  intro n
  have flat : ∀ {A : Around} {s : Shared} {x y : V} {u v : Value}, hV x = true → RelV x u → hV y = true → RelV y v → SeqAt.EqAt A s u v (decide (Dt.v x = Dt.v y)) := fun f r f' r' => by
    rw [← eqV_hV f f']; exact eqAt_V r r' (flat_hV f) (flat_hV f')
  induction n with
  | zero =>
    intro A s d d' u v hu p q
    cases d with
    | v x =>
      cases d' with
      | v y => exact flat p.1 p.2 q.1 q.2
      | t _ => exact q.elim
      | l _ => exact q.elim
    | t _ => exact p.elim
    | l _ => exact p.elim
  | succ n ih =>
    intro A s d d' u v hu p q
    have hu0 : A.units < cLine := by omega
    cases d with
    | l _ => exact p.elim
    | v x =>
      cases d' with
      | l _ => exact q.elim
      | v y => exact flat p.1 p.2 q.1 q.2
      | t es =>
        obtain ⟨b, its', rfl, p2, r2⟩ := q
        obtain ⟨f, r⟩ := p
        rw [show decide (Dt.v x = Dt.t es) = false from decide_eq_false (fun z => nomatch z)]
        cases x <;> first | exact (Bool.false_ne_true f).elim | skip
        · cases (show u = Value.none from r); exact .none_tuple p2 hu0
        · obtain ⟨t, rfl⟩ := r; exact .int_tuple _ _ p2 hu0
        · obtain ⟨t, rfl⟩ := r; exact .str_tuple _ _ p2 hu0
    | t ds =>
      obtain ⟨a, its, rfl, p1, r1⟩ := id p
      cases d' with
      | l _ => exact q.elim
      | v y =>
        obtain ⟨f, r⟩ := q
        rw [show decide (Dt.t ds = Dt.v y) = false from decide_eq_false (fun z => nomatch z)]
        cases y <;> first | exact (Bool.false_ne_true f).elim | skip
        · cases (show v = Value.none from r); exact .tuple_none p1 hu0
        · obtain ⟨t, rfl⟩ := r; exact .tuple_int _ _ p1 hu0
        · obtain ⟨t, rfl⟩ := r; exact .tuple_str _ _ p1 hu0
      | t es =>
        obtain ⟨b, its', rfl, p2, r2⟩ := id q
        by_cases ab : a = b
        · subst ab
          rw [show decide (Dt.t ds = Dt.t es) = true from decide_eq_true (HasD.inj _ _ _ _ _ p q)]
          exact .same _
        · have l1 := Paired.length r1
          have l2 := Paired.length r2
          have z := SeqAt.RcAt.tuples (A := A) (e := fun i => decide (ds.getD i default = es.getD i default)) p1 p2 hu0 fun j h1 h2 => by
            have j1 : j < its.length := by simpa using h1
            have j2 : j < its'.length := by simpa using h2
            have g1 : ds[j]? = some (ds[j]'(by omega)) := List.getElem?_eq_getElem _
            have g2 : es[j]? = some (es[j]'(by omega)) := List.getElem?_eq_getElem _
            have w1 := paired_get r1 g1 (List.getElem?_eq_getElem j1)
            have w2 := paired_get r2 g2 (List.getElem?_eq_getElem j2)
            rw [getD_of g1, getD_of g2]
            exact ih (A := A.in1) (by show A.units + 1 + n < _; omega) w1 w2
          rw [List.size_toArray, List.size_toArray, ← l1, ← l2, lists_eq fun i _ _ => rfl] at z
          exact .of_refs ab z
section
variable {prog : Program} {w : World} {E : Value → Shared → Prop}
theorem quiet_V {A : Around} {s : Shared} {x : V} {u : Value} {m : Nat} {Q : Bool → Shared → Prop} (f : hV x = true) (r : RelV x u) (h : Q true s) : wpAny (model prog w) A (eqIsQuiet m u) Q E s := by
  have : carriedByValue u = true := by
    cases x <;> first | exact (Bool.false_ne_true f).elim | skip
    · cases (show u = Value.none from r); rfl
    · obtain ⟨t, rfl⟩ := r; rfl
    · obtain ⟨t, rfl⟩ := r; rfl
  rw [eqIsQuiet_byValue _ this]
  exact wpAny_pure h
theorem quiet_D : ∀ (n m : Nat) {A : Around} {s : Shared} {d : Dt} {u : Value} {Q : Bool → Shared → Prop}, n ≤ m → HasD s.heap n d u → Q true s → wpAny (model prog w) A (eqIsQuiet m u) Q E s := by
  intro n
  induction n with
  | zero =>
    intro m A s d u Q _ p h
    cases d with
    | v x => exact quiet_V p.1 p.2 h
    | t _ => exact p.elim
    | l _ => exact p.elim
  | succ n ih =>
    intro m A s d u Q hm p h
    cases d with
    | v x => exact quiet_V p.1 p.2 h
    | l _ => exact p.elim
    | t ds =>
      obtain ⟨k, rfl⟩ : ∃ k, m = k + 1 := ⟨m - 1, by omega⟩
      obtain ⟨a, its, rfl, ⟨o, ho, hc, j, hd⟩, r⟩ := p
      have hT : s.TypeIs (.ref a) "tuple" := ⟨o, ho, hc⟩
      unfold eqIsQuiet
      refine wpAny_bind (wpAny_specialOf hT F.slot_tuple_eq.lookup ?_)
      show wpAny _ _ (isInstance (.ref a) (.type "tuple") >>= _) _ _ s
      refine wpAny_bind (wpAny_isInstance hT isSubtype_tuple_tuple ?_)
      simp only [Bool.not_true, Bool.false_eq_true, if_false]
      refine wpAny_bind (wpAny_seqItems ho hd ?_)
      refine wpAny_bind ?_
      show wpAny _ _ (forIn its.toArray _ _) _ _ s
      rw [← Array.forIn_toList]
      refine wpAny_forIn_list _ (fun rest r s' => r.1 = none ∧ s' = s ∧ ∃ left, Paired (fun d v => HasD s.heap n d v) left rest) _ ?_ ?_ _ _ ⟨rfl, rfl, ds, by simpa using r⟩
      · rintro v rest r s' ⟨hr, rfl, left, hl⟩
        cases hl with
        | cons h1 hl' =>
          refine wpAny_bind (ih k (by omega) h1 ?_)
          simp only [Bool.not_true, Bool.false_eq_true, if_false]
          exact wpAny_pure ⟨rfl, rfl, _, hl'⟩
      · rintro ⟨r1, r2⟩ s' ⟨hr, rfl, _⟩
        simp only at hr
        subst hr
        exact wpAny_pure h
end
noncomputable def nestKind (prog : Program) (w : World) : HeapKind prog w Dt where
  is := fun h d a => HasD h 8 d (.ref a)
  hash := haD w
  draws := drD
  room := fun A => A.units + 8 < cLine
  inj := fun p q => HasD.inj _ _ _ _ _ p q
  keeps := fun p ho hd hs => HasD.keeps ho hd hs _ _ _ p
  pyHash := fun hu p h => hash_D 8 hu p h
  eqBool := fun hu p q h => eq_D 8 hu p q _ _ _ _ h
  quiet := fun p h => quiet_D 8 8 (Nat.le_refl _) p h
end L2


end
section
set_option Elab.async false
set_option linter.all false
set_option maxRecDepth 100000
set_option maxHeartbeats 1000000
namespace PySem
theorem map_erase {α β : Type} (f : α → β) : ∀ (xs : List α) (i : Nat), (xs.map f).eraseIdx i = (xs.eraseIdx i).map f
  | [], _ => by simp
  | x :: xs, 0 => by simp
  | x :: xs, i + 1 => by simp [map_erase f xs i]
section
variable {prog : Program} {w : World} {K : Type} [DecidableEq K] {knd : HeapKind prog w K} {A : Around} {E : Value → Shared → Prop} {s : Shared}
theorem wpAny_takeOut_heap {d a : Addr} {xs : List (K × Addr × Value)} {k : K} {j : Nat} {p : Addr × Value} {Q : Option DictEntry → Shared → Prop} (hu : knd.room A) (hkey : knd.is s.heap k a) (hm : s.heap.DictOfH knd d xs) (hj : xs[j]? = some (k, p)) (hsz : xs.length ≤ sizeLine)
    (hQ : ∀ h', h'.DictOfH knd d (xs.eraseIdx j) → Heap.SameBut d s.heap h' → Q (some (entryOfKey knd (k, p))) { s with heap := h', toks := s.toks + knd.draws k }) :
    wpAny (model prog w) A (Builtin.Dict.takeOut d (.ref a)) Q E s := by
  obtain ⟨o, es, ep, ho, hc, hd, he, his, hn⟩ := hm
  unfold Builtin.Dict.takeOut
  try with_reducible refine wpAny_holding ?_
  refine wpAny_bind (knd.pyHash hu hkey (wpAny_bind (wpAny_dictFind_heap (s := { s with toks := s.toks + knd.draws k }) hu hkey ho hd he his hn ?_ ?_)))
  · intro hno; exact absurd hj (hno j p)
  · intro i q hi
    have e := idxH_unique hn hi hj
    subst e
    refine wpAny_bind (wpAny_dictEntries (s := { s with toks := s.toks + knd.draws k }) ho hd ?_)
    rw [entry_at he i, hj]
    refine wpAny_bind (wpAny_updateDictKeys (hz := by have e := size_of_entries he; omega) (s := { s with toks := s.toks + knd.draws k }) ho hd (wpAny_pure (hQ _ ⟨_, _, ep + 1, Heap.get?_update_self _ ho (Obj.isFreed_of_dict (Obj.data_mapDictKeys hd _)),
      hc.mapDictKeys _, Obj.data_mapDictKeys hd _, ?_, ?_, ?_⟩ (Heap.SameBut.update ..))))
    · obtain ⟨l⟩ := es
      have he : l = xs.map (entryOfKey knd) := he
      subst he
      simp [map_erase]
    · intro x hx
      exact knd.keeps (his x (List.mem_of_mem_eraseIdx hx)) ho hd (Heap.SameBut.update ..)
    · exact List.Nodup.sublist ((List.eraseIdx_sublist ..).map _) hn
theorem meetsH_dict_pop (knd : HeapKind prog w K) (d a : Addr) :
    MeetsIn prog w (Builtin.«dict.pop» ⟨[.ref d, .ref a], []⟩) (fun A R s => knd.room A.in1 ∧ ∃ k xs j p, knd.is s.heap k a ∧ s.heap.DictOfH knd d xs ∧ xs.length ≤ sizeLine ∧ xs[j]? = some (k, p) ∧
      ∀ h', h'.DictOfH knd d (xs.eraseIdx j) → Heap.SameBut d s.heap h' → R (.ok (.ret p.2)) { s with heap := h', toks := s.toks + knd.draws k }) :=
  .of_wp fun A R s ⟨hu, k, xs, j, p, hkey, hm, hsz, hj, h⟩ => by
    unfold Builtin.«dict.pop»
    refine wpAny_bind ?_
    unfold Builtin.Dict.keyAndDefault
    refine wpAny_bind (wpAny_notOrdered_dict hm.typeIs ?_)
    show wpAny _ _ (pure (d, Value.ref a, none)) _ _ s
    refine wpAny_pure ?_
    have kp : (keyPart (Value.ref a)).isSome = false := rfl
    simp only [kp, Bool.false_eq_true, if_false]
    obtain ⟨o, es, ep, ho, hc, hd, he, r⟩ := id hm
    have ne : es.isEmpty = false := by
      have e := size_of_entries he
      have : j < xs.length := (List.getElem?_eq_some_iff.mp hj).1
      simp [Array.isEmpty]; intro z; rw [z] at e; simp at e; omega
    refine wpAny_bind (wpAny_dictEntries ho hd ?_)
    refine wpAny_bind (wpAny_pure ?_)
    rw [ne]
    simp only [Bool.false_eq_true, if_false]
    refine wpAny_bind (wpAny_takeOut_heap hu hkey hm hj hsz fun h' hm' hs' => ?_)
    simp only [Option.isNone_some, Bool.false_eq_true, if_false]
    exact wpAny_bind (wpAny_letGo (wpAny_pure ⟨_, rfl, h h' hm' hs'⟩))
end
end PySem
namespace L2
open PySem PySem.Spec PyProof.Rows
abbrev NX := List (Dt × Addr × V)
def NKV : NX → List (Dt × Addr × Value) → Prop := Paired fun p q => p.1 = q.1 ∧ p.2.1 = q.2.1 ∧ RelV p.2.2 q.2.2
def isN (P : Program) (w : World) (a : Addr) (xs : NX) (h : Heap) : Prop := xs.length ≤ sizeLine ∧ (a == sysModules) = false ∧ ∃ ys, NKV xs ys ∧ ∃ o es ep, h.get? a = some o ∧ o.ExactDict ∧ o.data = .dict es ep ∧ es.toList = ys.map (entryOfKey (nestKind P w)) ∧ (ys.map (·.1)).Nodup
/-- the dict at a, its keys tuples -/
def dN (P : Program) (w : World) (a : Addr) (xs : NX) : HO := .ext (isN P w a xs)
structure DnAt (P : Program) (w : World) (K : PySem.W.Frag) (H : Hp) (a : Addr) (xs : NX) : Prop where
  at_ : H a = some (dN P w a xs)
  keys : ∀ x ∈ xs, Rep K H 8 x.1 (.ref x.2.1) ∧ hD x.1 = true
noncomputable def valN (xs : NX) (d : Dt) : Option V := (xs.find? fun x => decide (x.1 = d)).map (·.2.2)
theorem paired_of {α β : Type} {F : α → β → Prop} : ∀ {xs : List α} {us : List β}, xs.length = us.length → (∀ (i : Nat) x u, xs[i]? = some x → us[i]? = some u → F x u) → Paired F xs us
  | [], [], _, _ => .nil
  | [], _ :: _, h, _ => by simp at h
  | _ :: _, [], h, _ => by simp at h
  | x :: xs, u :: us, h, f => .cons (f 0 _ _ rfl rfl) (paired_of (by simpa using h) fun i a b ha hb => f (i + 1) a b (by simpa using ha) (by simpa using hb))
theorem isN_stay {P : Program} {w : World} {a : Addr} {xs : NX} (h1 h2 : Heap) (p : isN P w a xs h1) (k : ∀ o, h1.get? a = some o → h2.get? a = some o) : isN P w a xs h2 := by
  obtain ⟨z, y, ys, r, o, es, ep, e, c⟩ := p
  exact ⟨z, y, ys, r, o, es, ep, k o e, c⟩
section
variable {X : Cx} {pins : List (Addr × Obj)} {σ : St} {H : Hp} {s : Shared} {a b : Addr} {xs : NX} {d : Dt}
theorem Rep.has (I : Inv X pins σ H s) {n : Nat} {x : V} (r : Rep X.K H n d x) : ∀ {u : Value}, hD d = true → RelV x u → HasD s.heap n d u := by
  induction r with
  | @v n x f =>
    intro u h r
    rw [hD] at h
    cases n <;> exact ⟨h, r⟩
  | t h e r1 ih =>
    intro u hh r
    cases (show u = Value.ref _ from r)
    rw [hD] at hh
    obtain ⟨its, w1, p, _⟩ := I.tuple h
    have l1 := w1.length
    refine ⟨_, its, rfl, p, paired_of (by omega) fun i d u hd hu => ?_⟩
    have hi := (List.getElem?_eq_some_iff.mp hu).1
    obtain ⟨u', e', r'⟩ := w1.get (i := i) (List.getElem?_eq_getElem (by omega))
    rw [hu] at e'; cases e'
    exact ih i d _ hd (List.getElem?_eq_getElem (by omega)) (hDs_mem hh d (List.mem_of_getElem? hd)) r'
  | l h e _ _ =>
    intro u hh _
    rw [hD] at hh; exact (Bool.false_ne_true hh).elim
theorem DnAt.dict (I : Inv X pins σ H s) (g : DnAt X.prog X.w X.K H a xs) : xs.length ≤ sizeLine ∧ (a == sysModules) = false ∧ ∃ ys, NKV xs ys ∧ s.heap.DictOfH (nestKind X.prog X.w) a ys := by
  obtain ⟨⟨z, y, ys, r, o, es, ep, h1, h2, h3, h4, h5⟩, _, _⟩ := (show ObjOk X.prog X.w H s.heap a (dN X.prog X.w a xs) from I.hok a _ g.at_)
  refine ⟨z, y, ys, r, o, es, ep, h1, h2, h3, h4, fun q hq => ?_, h5⟩
  obtain ⟨i, hi⟩ := List.mem_iff_getElem?.mp hq
  have l := Paired.length r
  have hp : xs[i]? = some (xs[i]'(by have := (List.getElem?_eq_some_iff.mp hi).1; omega)) := List.getElem?_eq_getElem _
  have z := paired_get r hp hi
  rw [← z.1, ← z.2.1]
  have k := g.keys _ (List.mem_of_getElem? hp)
  exact k.1.has I k.2 rfl
theorem NKV.val {xs : NX} {ys : List (Dt × Addr × Value)} (r : NKV xs ys) (d : Dt) : RelO (valN xs d) ((atKey ys d).map (·.2)) := by
  induction r with
  | nil => exact True.intro
  | @cons p q ps qs hq t ih =>
    unfold valN atKey
    rw [List.find?_cons, List.find?_cons, ← hq.1]
    by_cases e : p.1 = d
    · rw [decide_eq_true e]; exact hq.2.2
    · rw [decide_eq_false e]; exact ih
theorem NKV.none {xs : NX} {ys : List (Dt × Addr × Value)} (r : NKV xs ys) {d : Dt} (h : valN xs d = none) : atKey ys d = none := by
  have := r.val d
  rw [h] at this
  cases e : atKey ys d with
  | none => rfl
  | some p => rw [e] at this; exact this.elim
theorem NKV.some {xs : NX} {ys : List (Dt × Addr × Value)} (r : NKV xs ys) {d : Dt} : (valN xs d).isSome = (atKey ys d).isSome := by
  have := (r.val d).isSome_eq
  rw [Option.isSome_map] at this
  exact this
variable {A : Around} {E : Value → Shared → Prop}
theorem n_in {Q : Value → Shared → Prop} (hu : A.units + 9 < cLine) (I : Inv X pins σ H s) (g : DnAt X.prog X.w X.K H a xs) (r : Rep X.K H 8 d (.ref b)) (hd : hD d = true) (h : ∀ s', Inv X pins σ H s' → Q (.bool (valN xs d).isSome) s') :
    wpAny (model X.prog X.w) A (compareOp .In (.ref b) (.ref a)) Q E s := by
  obtain ⟨z, y, ys, rel, dd⟩ := g.dict I
  refine wpAny_in_heap (knd := nestKind X.prog X.w) (show A.units + 1 + 8 < cLine by omega) (r.has I hd rfl) y dd ?_
  rw [← rel.some]; exact h _ (I.tok _)
theorem n_get {v : V} {Q : Value → Shared → Prop} (hu : A.units + 9 < cLine) (I : Inv X pins σ H s) (g : DnAt X.prog X.w X.K H a xs) (r : Rep X.K H 8 d (.ref b)) (hd : hD d = true) (l : valN xs d = some v) (h : ∀ w' s', Inv X pins σ H s' → RelV v w' → Q w' s') :
    wpAny (model X.prog X.w) A (getItem (.ref a) (.ref b)) Q E s := by
  obtain ⟨z, y, ys, rel, dd⟩ := g.dict I
  obtain ⟨w', hw, rw'⟩ := RelO.some_of (v := v) (o := (atKey ys d).map (·.2)) (by rw [← l]; exact rel.val d)
  obtain ⟨p, hp, hp2⟩ := Option.map_eq_some_iff.mp hw
  refine wpAny_getItem_heap (knd := nestKind X.prog X.w) (show A.units + 1 + 8 < cLine by omega) (r.has I hd rfl) dd hp ?_
  rw [hp2]
  exact h w' _ (I.tok _) rw'
theorem n_put {v : V} {u : Value} {Q : Unit → Shared → Prop} (hu : A.units + 9 < cLine) (I : Inv X pins σ H s) (g : DnAt X.prog X.w X.K H a xs) (r : Rep X.K H 8 d (.ref b)) (hd : hD d = true) (l : valN xs d = none) (hl : xs.length < sizeLine) (rv : RelV v u)
    (h : ∀ s', Inv X pins σ (upd H a (dN X.prog X.w a (xs ++ [(d, b, v)]))) s' → Q () s') : wpAny (model X.prog X.w) A (setItem (.ref a) (.ref b) u) Q E s := by
  obtain ⟨z, y, ys, rel, dd⟩ := g.dict I
  refine wpAny_setItem_heap (knd := nestKind X.prog X.w) (hsz := by rw [← Paired.length rel]; exact z) (show A.units + 1 + 8 < cLine by omega) (r.has I hd rfl) dd fun h' dd' hs => h _ ?_
  obtain ⟨q, es, ep, hq, h2, h3, h4, _, h5⟩ := dd'
  rw [storedH_new (rel.none l)] at h4 h5
  refine d_write I (by rw [g.at_]; exact True.intro) hs ⟨q, hq⟩ ⟨⟨by rw [List.length_append]; exact hl, y, _, Paired.snoc rel ⟨rfl, rfl, rv⟩, q, es, ep, hq, h2, h3, h4, h5⟩, ⟨q, hq⟩, isN_stay⟩
theorem paired_erase {α β : Type} {F : α → β → Prop} : ∀ {xs : List α} {us : List β} (j : Nat), Paired F xs us → Paired F (xs.eraseIdx j) (us.eraseIdx j)
  | _, _, _, .nil => .nil
  | _, _, 0, .cons _ t => t
  | _, _, j + 1, .cons r t => .cons r (paired_erase j t)
theorem n_pop {v : V} {c : Addr} {j : Nat} {Q : Value → Shared → Prop} (hu : A.units + 9 < cLine) (I : Inv X pins σ H s) (g : DnAt X.prog X.w X.K H a xs) (r : Rep X.K H 8 d (.ref b)) (hd : hD d = true) (l : xs[j]? = some (d, c, v))
    (h : ∀ w' s', Inv X pins σ (upd H a (dN X.prog X.w a (xs.eraseIdx j))) s' → RelV v w' → Q w' s') : wpAny (model X.prog X.w) A (call (.builtin "dict.pop") [.ref a, .ref b]) Q E s := by
  obtain ⟨z, y, ys, rel, dd⟩ := g.dict I
  have ll := Paired.length rel
  have hj := (List.getElem?_eq_some_iff.mp l).1
  have e : ys[j]? = some (ys[j]'(by omega)) := List.getElem?_eq_getElem _
  obtain ⟨e1, e2, e3⟩ := paired_get rel l e
  have e' : ys[j]? = some (d, (ys[j]'(by omega)).2) := by rw [e]; congr 1; rw [show d = (ys[j]'(by omega)).1 from e1]
  refine call_meetsIn PySem.F.slot_dict_pop dd.typeIs PySem.F.entry_dict_pop (PySem.F.args_dict_pop_2 _ _) (meetsH_dict_pop (nestKind X.prog X.w) a b) ⟨show A.units + 1 + 8 < cLine by omega, d, ys, j, _, r.has I hd rfl, dd, by rw [← ll]; exact z, e', fun h' dd' hs => h _ _ ?_ e3⟩
  obtain ⟨q, es, ep, hq, h2, h3, h4, _, h5⟩ := dd'
  exact d_write I (by rw [g.at_]; exact True.intro) hs ⟨q, hq⟩ ⟨⟨Nat.le_trans (List.length_eraseIdx_le ..) z, y, _, paired_erase j rel, q, es, ep, hq, h2, h3, h4, h5⟩, ⟨q, hq⟩, isN_stay⟩
theorem DnAt.typeIs (I : Inv X pins σ H s) (g : DnAt X.prog X.w X.K H a xs) : s.TypeIs (.ref a) "dict" := let ⟨_, _, _, _, dd⟩ := g.dict I; dd.typeIs
theorem DnAt.noDict (I : Inv X pins σ H s) (g : DnAt X.prog X.w X.K H a xs) : ∀ b, Value.ref a = .ref b → ∃ ob, s.heap.get? b = some ob ∧ ob.dict = none := fun b q => by
  cases q
  obtain ⟨_, _, _, _, ob, _, _, h1, h2, _⟩ := g.dict I
  exact ⟨ob, h1, h2.2.1⟩
end
def tNIn (P : Program) (w : World) (K : PySem.W.Frag) (ty td : TE) : TE := fun σ H Q => ty σ H fun y H1 => td σ H1 fun x H2 => ∃ a b xs d, x = .ref a ∧ y = .ref b ∧ DnAt P w K H2 a xs ∧ Rep K H2 8 d (.ref b) ∧ hD d = true ∧ Q (.bl (valN xs d).isSome) H2
def tNGet (P : Program) (w : World) (K : PySem.W.Frag) (td ty : TE) : TE := fun σ H Q => td σ H fun x H1 => ty σ H1 fun y H2 => ∃ a b xs d v, x = .ref a ∧ y = .ref b ∧ DnAt P w K H2 a xs ∧ Rep K H2 8 d (.ref b) ∧ hD d = true ∧ valN xs d = some v ∧ Q v H2
def sNPut (P : Program) (w : World) (K : PySem.W.Frag) (td ty tv : TE) : TS := fun D σ H => tv σ H fun v H1 => td σ H1 fun x H2 => ty σ H2 fun y H3 => ∃ a b xs d, x = .ref a ∧ y = .ref b ∧ DnAt P w K H3 a xs ∧ Rep K H3 8 d (.ref b) ∧ hD d = true ∧ valN xs d = none ∧ xs.length < sizeLine ∧ D.nx σ (upd H3 a (dN P w a (xs ++ [(d, b, v)])))
def tNPop (P : Program) (w : World) (K : PySem.W.Frag) (td ty : TE) : TE := fun σ H Q => td σ H fun x H1 => ∃ a xs0, x = .ref a ∧ DnAt P w K H1 a xs0 ∧ ty σ H1 fun y H2 => ∃ b xs d j c v, y = .ref b ∧ DnAt P w K H2 a xs ∧ Rep K H2 8 d (.ref b) ∧ hD d = true ∧ xs[j]? = some (d, c, v) ∧ Q v (upd H2 a (dN P w a (xs.eraseIdx j)))
def tNNew (P : Program) (w : World) : TE := fun _ H Q => ∀ p, H p = none → Q (.ref p) (upd H p (dN P w p []))
section
variable {X : Cx} {o i e value : Expr} {pos pos' apos cpos : Pos} {td ty tv : TE}
theorem pc_nin (hu : X.A.units + 9 < cLine) (hi : PE X i ty) (ho : PE X o td) : PC X .In i o (tNIn X.prog X.w X.K ty td) := by
  intro pins s σ H Q I h
  refine thn (hi pins s σ H _ I h) fun iv s1 ⟨y, H1, I1, ry, q1⟩ => thn (ho pins s1 σ H1 _ I1 q1) fun u s2 ⟨x, H2, I2, rx, a, b, xs, d, ex, ey, g, r, hd, q2⟩ => ?_
  subst ex ey
  obtain rfl : u = Value.ref a := rx
  obtain rfl : iv = Value.ref b := ry
  exact n_in hu I2 g r hd fun s3 I3 => ⟨.bl (valN xs d).isSome, H2, I3, rfl, q2⟩
theorem pe_nget (hu : X.A.units + 9 < cLine) (ho : PE X o td) (hi : PE X i ty) (hs : NoSl i) : PE X (.Subscript o i pos) (tNGet X.prog X.w X.K td ty) := by
  intro pins s σ H Q I h
  refine subD_of PySem.F.slot_dict_getitem.lookup hs (thn (ho pins s σ H _ I h) fun u s1 ⟨x, H1, I1, rx, q1⟩ => thn (hi pins s1 σ H1 _ I1 q1) fun iv s2 ⟨y, H2, I2, ry, a, b, xs, d, v, ex, ey, g, r, hd, l, q2⟩ => ?_)
  subst ex ey
  obtain rfl : u = Value.ref a := rx
  obtain rfl : iv = Value.ref b := ry
  exact ⟨g.typeIs I2, n_get hu I2 g r hd l fun w' s3 I3 rw' => ⟨v, H2, I3, rw', q2⟩⟩
theorem ps_nput (hu : X.A.units + 9 < cLine) (ho : PE X o td) (hi : PE X i ty) (hv : PE X value tv) (hs : swapsWith value (some (.Subscript o i pos')) pos.line X.env = pure false) :
    PS X (.Assign [.Subscript o i pos'] value pos) (sNPut X.prog X.w X.K td ty tv) := by
  intro pins s σ H D I h
  refine wpAny_Assign_Subscript (thn (hv pins s σ H _ I h) fun r s1 ⟨v, H1, I1, rv, q1⟩ => thn (ho pins s1 σ H1 _ I1 q1) fun u s2 ⟨x, H2, I2, rx, q2⟩ => thn (hi pins s2 σ H2 _ I2 q2) fun iv s3 ⟨y, H3, I3, ry, a, b, xs, d, ex, ey, g, rp, hd, l, hl, q3⟩ => ?_) hs
  subst ex ey
  obtain rfl : u = Value.ref a := rx
  obtain rfl : iv = Value.ref b := ry
  exact n_put hu I3 g rp hd l hl rv fun s4 I4 => ⟨σ, _, I4, q3⟩
theorem pe_npop (hu : X.A.units + 9 < cLine) (ho : PE X o td) (he : PE X e ty) (m : M1 X o "pop" apos e cpos) : PE X (.Call (.Attribute o "pop" apos) [e] [] cpos) (tNPop X.prog X.w X.K td ty) := by
  intro pins s σ H Q I h
  refine wpAny_Call_method m.base m.few m.line PySem.F.plainAttrs_dict PySem.F.slot_dict_pop PySem.F.type_dict_pop (thn (ho pins s σ H _ I h) fun u s1 ⟨x, H1, I1, rx, a, xs0, ex, g0, q1⟩ => ?_)
  subst ex
  obtain rfl : u = Value.ref a := rx
  refine ⟨g0.typeIs I1, g0.noDict I1, ?_⟩
  rw [m.trees]
  refine Calls.callWith_builtin rfl (Calls.evalArgs_plain (Calls.spliced_cons (thn (he pins s1 σ H1 _ I1 q1) fun iv s2 ⟨y, H2, I2, ry, b, xs, d, j, c, v, ey, g, r, hd, l, q2⟩ => Calls.spliced_nil ?_)))
  subst ey
  obtain rfl : iv = Value.ref b := ry
  exact n_pop hu I2 g r hd l fun w' s3 I3 rw' => ⟨v, _, I3, rw', q2⟩
theorem dn_empty {P : Program} {w : World} {H : Hp} (h : Heap) (hb : sysModules < h.objs.size) : ObjOk P w H (h.push { cls := .type "dict", data := .dict #[] }) h.objs.size (dN P w h.objs.size []) :=
  ⟨⟨Nat.zero_le _, beq_eq_false_iff_ne.mpr (Ne.symm (Nat.ne_of_lt hb)), [], .nil, _, #[], 0, Heap.get?_push_size _ rfl, ⟨rfl, rfl, rfl⟩, rfl, rfl, List.nodup_nil⟩, ⟨_, Heap.get?_push_size _ rfl⟩, isN_stay⟩
theorem pe_dnewN : PE X (.Dict [] [] pos) (tNNew X.prog X.w) := fun pins s σ H Q I h =>
  wpAny_Dict_empty ⟨.ref s.heap.objs.size, _, I.laid (a := s.heap.objs.size) (o := dN X.prog X.w s.heap.objs.size []) (t' := s.toks) (fun _ _ q => Heap.get?_push_of_some _ q) (Nat.le_refl _) (dn_empty s.heap I.big), rfl, h _ (I.hok.fresh (Nat.le_refl _))⟩
end
theorem Room.u9 {k : Nat} {A : Around} (r : Room k A) : A.units + 9 < cLine := by have := r.un; omega
theorem DnAt.nil {P : Program} {w : World} {K : PySem.W.Frag} {H : Hp} {a : Addr} (h : H a = some (dN P w a [])) : DnAt P w K H a [] := ⟨h, fun x hx => nomatch hx⟩
end L2


end
section
set_option Elab.async false
set_option linter.all false
set_option maxRecDepth 100000
set_option maxHeartbeats 1000000
namespace L2
open PySem PySem.Spec PyProof.Rows
/-- the value y is the data d, of at most n storeys, of tracked tuples alone -/
def TD (H : Hp) : Nat → Dt → V → Prop
  | 0, .v x, y => hV x = true ∧ y = x
  | 0, .t _, _ => False
  | 0, .l _, _ => False
  | _ + 1, .v x, y => hV x = true ∧ y = x
  | n + 1, .t ds, y => ∃ (a : Addr) (xs : List V), y = .ref a ∧ H a = some (.tup xs) ∧ Paired (fun d v => TD H n d v) ds xs
  | _ + 1, .l _, _ => False
section
variable {H H' : Hp} {K : PySem.W.Frag}
theorem TD.flat {n : Nat} {x y : V} : TD H n (.v x) y → hV x = true ∧ y = x := by cases n <;> exact id
theorem TD.ofV {n : Nat} {x : V} (f : hV x = true) : TD H n (.v x) x := by cases n <;> exact ⟨f, rfl⟩
theorem TD.tup {n : Nat} {ds : List Dt} {y : V} (q : TD H n (.t ds) y) : ∃ m a xs, n = m + 1 ∧ y = .ref a ∧ H a = some (.tup xs) ∧ Paired (fun d v => TD H m d v) ds xs := by
  cases n with
  | zero => exact q.elim
  | succ m => obtain ⟨a, xs, e, h, r⟩ := q; exact ⟨m, a, xs, rfl, e, h, r⟩
theorem TD.ofT {n : Nat} {a : Addr} {xs : List V} {ds : List Dt} (h : H a = some (.tup xs)) (r : Paired (fun d v => TD H n d v) ds xs) : TD H (n + 1) (.t ds) (.ref a) := ⟨a, xs, rfl, h, r⟩
theorem TD.sameT (s : SameT H H') : ∀ (n : Nat) {d : Dt} {y : V}, TD H n d y → TD H' n d y := by
  intro n
  induction n with
  | zero => intro d y q; cases d <;> exact q
  | succ n ih =>
    intro d y q
    cases d with
    | v x => exact q
    | l x => exact q
    | t ds => obtain ⟨a, xs, e, h, r⟩ := q; exact ⟨a, xs, e, s _ _ h, Paired.mapP r fun d v z => ih z⟩
theorem TD.same {n : Nat} {d : Dt} {y : V} (q : TD H n d y) (s : Same H H') : TD H' n d y := TD.sameT s.t n q
theorem TD.mono : ∀ (n : Nat) {m : Nat} {d : Dt} {y : V}, n ≤ m → TD H n d y → TD H m d y := by
  intro n
  induction n with
  | zero =>
    intro m d y _ q
    cases d with
    | v x => obtain ⟨f, e⟩ := q; subst e; exact TD.ofV f
    | t _ => exact q.elim
    | l _ => exact q.elim
  | succ n ih =>
    intro m d y hm q
    cases d with
    | v x => obtain ⟨f, e⟩ := q; subst e; exact TD.ofV f
    | l _ => exact q.elim
    | t ds =>
      obtain ⟨a, xs, e, h, r⟩ := q
      obtain ⟨k, rfl⟩ : ∃ k, m = k + 1 := ⟨m - 1, by omega⟩
      exact ⟨a, xs, e, h, Paired.mapP r fun d v z => ih (by omega) z⟩
theorem TD.rep : ∀ (n : Nat) {d : Dt} {y : V}, TD H n d y → Rep K H n d y := by
  intro n
  induction n with
  | zero =>
    intro d y q
    cases d with
    | v x => obtain ⟨f, e⟩ := q; subst e; exact .v (flat_hV f)
    | t _ => exact q.elim
    | l _ => exact q.elim
  | succ n ih =>
    intro d y q
    cases d with
    | v x => obtain ⟨f, e⟩ := q; subst e; exact .v (flat_hV f)
    | l _ => exact q.elim
    | t ds =>
      obtain ⟨a, xs, e, h, r⟩ := q
      subst e
      exact .t (SqT.of h) (Paired.length r) fun i d x h1 h2 => ih (paired_get r h1 h2)
theorem TD.h : ∀ (n : Nat) {d : Dt} {y : V}, TD H n d y → hD d = true := by
  intro n
  induction n with
  | zero =>
    intro d y q
    cases d with
    | v x => rw [hD]; exact q.1
    | t _ => exact q.elim
    | l _ => exact q.elim
  | succ n ih =>
    intro d y q
    cases d with
    | v x => rw [hD]; exact q.1
    | l _ => exact q.elim
    | t ds =>
      obtain ⟨a, xs, e, h, r⟩ := q
      rw [hD]
      refine hDs_of fun x hx => ?_
      obtain ⟨i, hi⟩ := List.mem_iff_getElem?.mp hx
      have l := Paired.length r
      have hl := (List.getElem?_eq_some_iff.mp hi).1
      exact ih (paired_get r hi (List.getElem?_eq_getElem (show i < xs.length by omega)))
theorem TD.pair {n : Nat} {a : Addr} {x y : V} {d e : Dt} (h : H a = some (.tup [x, y])) (hx : TD H n d x) (hy : TD H n e y) : TD H (n + 1) (.t [d, e]) (.ref a) := TD.ofT h (.cons hx (.cons hy .nil))
theorem TD.pair_of {n : Nat} {y : V} {d e : Dt} (q : TD H (n + 1) (.t [d, e]) y) : ∃ a x z, y = .ref a ∧ H a = some (.tup [x, z]) ∧ TD H n d x ∧ TD H n e z := by
  obtain ⟨a, xs, rfl, h, r⟩ := q
  cases r with
  | cons r1 r2 =>
    cases r2 with
    | cons r3 r4 => cases r4; exact ⟨a, _, _, rfl, h, r1, r3⟩
end
mutual
theorem eqD_hD : ∀ d e : Dt, hD d = true → hD e = true → (eqD d e = true ↔ d = e)
  | .v x, .v y, h, h' => by
    rw [hD] at h h'; rw [eqD, eqV_hV h h', decide_eq_true_iff]
  | .t xs, .t ys, h, h' => by
    rw [hD] at h h'; rw [eqD, eqDs_hD xs ys h h']
    exact ⟨fun e => by rw [e], fun e => by injection e⟩
  | .v x, .t ys, _, _ => by simp [eqD]
  | .t xs, .v y, _, _ => by simp [eqD]
  | .l xs, _, h, _ => by rw [hD] at h; exact (Bool.false_ne_true h).elim
  | .v x, .l ys, _, h => by rw [hD] at h; exact (Bool.false_ne_true h).elim
  | .t x, .l ys, _, h => by rw [hD] at h; exact (Bool.false_ne_true h).elim
theorem eqDs_hD : ∀ d e : List Dt, hDs d = true → hDs e = true → (eqDs d e = true ↔ d = e)
  | [], [], _, _ => by simp [eqDs]
  | [], _ :: _, _, _ => by simp [eqDs]
  | _ :: _, [], _, _ => by simp [eqDs]
  | x :: xs, y :: ys, h, h' => by
    rw [hDs, Bool.and_eq_true] at h h'
    rw [eqDs, Bool.and_eq_true, eqD_hD x y h.1 h'.1, eqDs_hD xs ys h.2 h'.2]
    exact ⟨fun e => by rw [e.1, e.2], fun e => by injection e with a b; exact ⟨a, b⟩⟩
end
theorem eqD_dec {d e : Dt} (h : hD d = true) (h' : hD e = true) : eqD d e = decide (d = e) := by
  rw [Bool.eq_iff_iff, eqD_hD d e h h', decide_eq_true_iff]
/-- ==, != of named data -/
theorem rD_td {K : PySem.W.Frag} {H : Hp} {n : Nat} {d e : Dt} {x y : V} {Q : VK} (hn : n ≤ 60) (h1 : TD H n d x) (h2 : TD H n e y) (q : Q (.bl (decide (d = e))) H) : rD K false x y H Q :=
  ⟨n, d, e, hn, h1.rep, h2.rep, by rw [if_neg (by decide), eqD_dec h1.h h2.h]; exact q⟩
def SameX (S : List Addr) (H H' : Hp) : Prop := ∀ b o, b ∉ S → H b = some o → H' b = some o
section
variable {S : List Addr} {H H' H1 H2 : Hp}
theorem SameX.refl (S : List Addr) (H : Hp) : SameX S H H := fun _ _ _ e => e
theorem Same.x (s : Same H H') (S : List Addr) : SameX S H H' := fun b o _ e => s b o e
theorem SameX.trans (a : SameX S H H1) (b : SameX S H1 H2) : SameX S H H2 := fun c o n e => b c o n (a c o n e)
theorem SameX.upd {a : Addr} {o : HO} (s : SameX S H H') (h : a ∈ S) : SameX S H (L2.upd H' a o) := fun b u n e => by
  rw [upd_ne (fun z => n (by rw [z]; exact h))]; exact s b u n e
theorem SameX.mono {S' : List Addr} (s : SameX S H H') (h : ∀ a ∈ S, a ∈ S') : SameX S' H H' := fun b o n e => s b o (fun z => n (h b z)) e
end
end L2
namespace L2
open PySem PySem.Spec PyProof.Rows
section
variable {α β : Type} [DecidableEq β]
theorem find_key (g : α → β) : ∀ {xs : List α} {x : α}, (xs.map g).Nodup → x ∈ xs → xs.find? (fun y => decide (g y = g x)) = some x
  | [], _, _, h => nomatch h
  | y :: ys, x, nd, h => by
    rw [List.map_cons, List.nodup_cons] at nd
    rw [List.find?_cons]
    rcases List.mem_cons.mp h with e | h
    · subst e; rw [decide_eq_true rfl]
    · have : g y ≠ g x := fun e => nd.1 (by rw [e]; exact List.mem_map_of_mem h)
      rw [decide_eq_false this]
      exact find_key g nd.2 h
theorem find_no (g : α → β) {xs : List α} {b : β} (h : ∀ x ∈ xs, g x ≠ b) : xs.find? (fun y => decide (g y = b)) = none := by
  rw [List.find?_eq_none]
  intro x hx z
  exact h x hx (of_decide_eq_true z)
theorem erase_filter (g : α → β) : ∀ {xs : List α} {j : Nat} {x : α}, (xs.map g).Nodup → xs[j]? = some x → xs.eraseIdx j = xs.filter (fun y => decide (g y ≠ g x))
  | [], _, _, _, h => by simp at h
  | y :: ys, 0, x, nd, h => by
    rw [List.map_cons, List.nodup_cons] at nd
    simp only [List.getElem?_cons_zero, Option.some.injEq] at h
    subst h
    rw [List.eraseIdx_cons_zero, List.filter_cons, if_neg (by simp)]
    symm
    rw [List.filter_eq_self]
    intro z hz
    exact decide_eq_true fun e => nd.1 (by rw [← e]; exact List.mem_map_of_mem hz)
  | y :: ys, j + 1, x, nd, h => by
    rw [List.map_cons, List.nodup_cons] at nd
    simp only [List.getElem?_cons_succ] at h
    have : g y ≠ g x := fun e => nd.1 (by rw [e]; exact List.mem_map_of_mem (List.mem_of_getElem? h))
    rw [List.eraseIdx_cons_succ, List.filter_cons, if_pos (decide_eq_true this), erase_filter g nd.2 h]
end
theorem valV_mapF {α κ : Type} [DecidableEq κ] (f : α → κ × V) (xs : List α) (k : κ) : valV (xs.map f) k = (xs.find? fun x => decide ((f x).1 = k)).map fun x => (f x).2 := by
  unfold valV
  rw [List.find?_map, Option.map_map]
  rfl
theorem valN_map {α : Type} (f : α → Dt × Addr × V) (xs : List α) (k : Dt) : valN (xs.map f) k = (xs.find? fun x => decide ((f x).1 = k)).map fun x => (f x).2.2 := by
  unfold valN
  rw [List.find?_map, Option.map_map]
  rfl
theorem dropK_mapF {α κ : Type} [DecidableEq κ] (f : α → κ × V) (xs : List α) (k : κ) : dropK (xs.map f) k = (xs.filter fun x => decide ((f x).1 ≠ k)).map f := by
  unfold dropK
  rw [List.filter_map]
  rfl
theorem perm_sorted : ∀ {l m : List Int}, l.Perm m → l.Pairwise (· ≤ ·) → m.Pairwise (· ≤ ·) → l = m
  | [], m, p, _, _ => (List.nil_perm.mp p).symm
  | a :: l, [], p, _, _ => by have := p.length_eq; simp at this
  | a :: l, b :: m, p, h1, h2 => by
    rw [List.pairwise_cons] at h1 h2
    have e : a = b := by
      have m1 : a ∈ b :: m := p.mem_iff.mp List.mem_cons_self
      have m2 : b ∈ a :: l := p.mem_iff.mpr List.mem_cons_self
      rcases List.mem_cons.mp m1 with e | m1
      · exact e
      rcases List.mem_cons.mp m2 with e | m2
      · exact e.symm
      have := h1.1 b m2
      have := h2.1 a m1
      omega
    subst e
    rw [perm_sorted (p.cons_inv) h1.2 h2.2]
end L2


end
section
set_option Elab.async false
set_option linter.all false
set_option maxRecDepth 100000
set_option maxHeartbeats 1000000
namespace L2
open PySem PySem.Spec PyProof.Rows
def rIsOT (K : PySem.W.Frag) : List V → Hp → VK → Prop := fun xs H Q => ∃ a C dx fs fl p b, ∃ cs : List Addr, xs = [.ref a, .ref p] ∧ H a = some (.ins C dx fs) ∧ ObC K C fl ∧ H p = some (.tup (cs.map V.ref)) ∧ PySem.W.kitAny K (.ref C) (cs.map Value.ref) = some b ∧ Q (.bl b) H
section
variable {X : Cx}
theorem call_isOT : CallR X (.builtin "isinstance") (rIsOT X.K) := by
  intro pins s σ H xs us Q I r h
  obtain ⟨a, C, dx, fs, fl, p, b, cs, rfl, ha, c, hp, e, q⟩ := h
  obtain ⟨u, w', rfl, rx, rc⟩ := vals2 r
  obtain rfl : u = Value.ref a := rx
  obtain rfl : w' = Value.ref p := rc
  obtain ⟨_, its, ri, o, ho, hc, n, hd⟩ := (show ObjOk X.prog X.w H s.heap p (.tup (cs.map V.ref)) from I.hok p _ hp)
  rw [vals_refs ri] at hd
  obtain ⟨oc, dd, dt, sl⟩ := o
  dsimp only at hc hd
  subst hc hd
  obtain ⟨mA, O, _⟩ := ins_get I.hok ha
  obtain ⟨od, J, _⟩ := O.look
  exact PySem.W.kia_tup (PySem.W.kitx_own (c.cl.get _) c.cl.hd c.cc c.cg c.ct c.mo) I.kIn J ho e (fun z => nomatch z) fun tk => ⟨.bl b, H, I.tok tk, rfl, q⟩
end
theorem TDs.of {H : Hp} {n : Nat} {Pd : Dt → Prop} : ∀ {xs : List V}, (∀ x ∈ xs, ∃ d, TD H n d x ∧ Pd d) → ∃ ds : List Dt, Paired (fun d v => TD H n d v) ds xs ∧ ∀ d ∈ ds, Pd d
  | [], _ => ⟨[], .nil, fun d h => nomatch h⟩
  | x :: xs, h => by
    obtain ⟨d, hd, pd⟩ := h x List.mem_cons_self
    obtain ⟨ds, r, p⟩ := TDs.of (xs := xs) fun y hy => h y (List.mem_cons_of_mem _ hy)
    exact ⟨d :: ds, .cons hd r, fun e he => by
      rcases List.mem_cons.mp he with z | z
      · rw [z]; exact pd
      · exact p e z⟩
theorem TDs.sameT {H H' : Hp} {n : Nat} {es : List Dt} {xs : List V} (r : Paired (fun d v => TD H n d v) es xs) (s : SameT H H') : Paired (fun d v => TD H' n d v) es xs := Paired.mapP r fun _ _ z => TD.sameT s n z
theorem TDs.mono {H : Hp} {n m : Nat} {es : List Dt} {xs : List V} (r : Paired (fun d v => TD H n d v) es xs) (h : n ≤ m) : Paired (fun d v => TD H m d v) es xs := Paired.mapP r fun _ _ z => TD.mono n h z
/-- a list of flat values as data -/
theorem TDs.flat {H : Hp} {n : Nat} : ∀ {vs : List V}, (∀ v ∈ vs, hV v = true) → Paired (fun d v => TD H n d v) (vs.map Dt.v) vs
  | [], _ => .nil
  | v :: vs, h => .cons (TD.ofV (h v List.mem_cons_self)) (TDs.flat fun x hx => h x (List.mem_cons_of_mem _ hx))
def tMethE (P : Program) (w : World) (K : PySem.W.Frag) (mg : Str → Option Value) (base : Heap) (k : Nat) (m : Str) (ta : TE1) (t : TA) : TE1 := fun σ H Q E => ta σ H (fun x H1 => ∃ a C dx fs sp, x = .ref a ∧ H1 a = some (.ins C dx fs) ∧ fs.lookup m = none ∧ Cls K C ∧ MeV P w K mg base k C m sp ∧ t σ H1 fun vs H2 => sp (x :: vs) H2 Q E) E
section
variable {X : Cx} {m : Str} {k : Nat} {ta : TE1} {t : TA} {e o : Expr} {es : List Expr} {pos apos : Pos} {pl : Sem Bool}
end
theorem ints_of : ∀ {ys : List V}, (∀ v ∈ ys, ∃ n, v = .int n) → ∃ ms : List Int, ys = ms.map V.int
  | [], _ => ⟨[], rfl⟩
  | y :: ys, h => by
    obtain ⟨n, rfl⟩ := h y List.mem_cons_self
    obtain ⟨ms, rfl⟩ := ints_of (ys := ys) fun v hv => h v (List.mem_cons_of_mem _ hv)
    exact ⟨n :: ms, rfl⟩
theorem sortedI {ns : List Int} {ys : List V} (p : ys.Perm (ns.map V.int)) (h : ys.Pairwise (fun a b => ltP b a = false)) : ∃ ms : List Int, ys = ms.map V.int ∧ ms.Perm ns ∧ ms.Pairwise (· ≤ ·) := by
  obtain ⟨ms, rfl⟩ := ints_of (ys := ys) fun v hv => by
    obtain ⟨n, _, e⟩ := List.mem_map.mp (p.mem_iff.mp hv)
    exact ⟨n, e.symm⟩
  refine ⟨ms, rfl, ?_, ?_⟩
  · have := p.map (fun v : V => match v with | .int n => n | _ => 0)
    rw [List.map_map, List.map_map] at this
    simpa [Function.comp_def] using this
  · rw [List.pairwise_map] at h
    exact h.imp fun {a b} z => by
      simp [ltP] at z
      exact z
end L2


end
section
set_option Elab.async false
set_option linter.all false
set_option maxRecDepth 100000
set_option maxHeartbeats 1000000
open L2
namespace Tr
def keyD : Dt → V
  | .t (.v k :: _) => k
  | _ => .non
/-- how a page is told -/
def tdOf (l : Int) (es : List Dt) : Dt := .t [.v (.int l), .t es]
def hdOf (k : V) (n : Int) : Dt := .t [.v k, .v (.int n)]
def fstK : List Dt → V
  | [] => .non
  | e :: _ => keyD e
theorem tdOf_inj {l l' : Int} {es es' : List Dt} (h : tdOf l es = tdOf l' es') : l = l' ∧ es = es' := by
  unfold tdOf at h
  injection h with h
  injection h with h1 h
  injection h with h2 h
  injection h1 with h1
  injection h1 with h1
  injection h2 with h2
  exact ⟨h1, h2⟩
theorem hdOf_inj {k k' : V} {n n' : Int} (h : hdOf k n = hdOf k' n') : k = k' ∧ n = n' := by
  unfold hdOf at h
  injection h with h
  injection h with h1 h
  injection h with h2 h
  injection h1 with h1
  injection h2 with h2
  injection h2 with h2
  exact ⟨h1, h2⟩
section
variable (lv : V → Nat)
def step (l : Int) (parts : List (List Dt)) (e : Dt) : List (List Dt) :=
  if parts = [] ∨ l < lv (keyD e) then parts ++ [[e]] else parts.dropLast ++ [parts.getLast?.getD [] ++ [e]]
def cutF (l : Int) (es : List Dt) : List (List Dt) := es.foldl (step lv l) []
structure CutD (l : Int) (es : List Dt) (parts : List (List Dt)) : Prop where
  flat : parts.flatten = es
  full : ∀ part ∈ parts, part ≠ []
  head : ∀ (i : Nat) x r, 0 < i → parts[i]? = some (x :: r) → l < lv (keyD x)
  rest : ∀ x r, (x :: r) ∈ parts → ∀ y ∈ r, (lv (keyD y) : Int) ≤ l
variable {lv} {l : Int} {es : List Dt} {parts : List (List Dt)}
theorem CutD.nil : CutD lv l [] [] := ⟨rfl, (fun _ h => by cases h), (fun i x r _ h => by simp at h), (fun x r h => by cases h)⟩
theorem CutD.more {x : Dt} (c : CutD lv l es parts) (h : parts = [] ∨ l < lv (keyD x)) : CutD lv l (es ++ [x]) (parts ++ [[x]]) where
  flat := by rw [List.flatten_append, c.flat]; simp
  full := fun part hp => by
    rcases List.mem_append.mp hp with z | z
    · exact c.full part z
    · have : part = [x] := by simpa using z
      rw [this]; simp
  head := fun i y r hi e => by
    by_cases hl : i < parts.length
    · rw [List.getElem?_append_left hl] at e; exact c.head i y r hi e
    · rw [List.getElem?_append_right (by omega)] at e
      have h0 : i - parts.length = 0 := by
        cases q : i - parts.length with
        | zero => rfl
        | succ m => rw [q] at e; simp at e
      rw [h0] at e
      simp at e
      rcases h with z | z
      · rw [z] at h0; simp at h0; omega
      · rw [← e.1]; exact z
  rest := fun y r hp z hz => by
    rcases List.mem_append.mp hp with w | w
    · exact c.rest y r w z hz
    · have : y :: r = [x] := by simpa using w
      cases this
      cases hz
theorem CutD.on {x : Dt} {ini : List (List Dt)} {last : List Dt} (c : CutD lv l es (ini ++ [last])) (h : (lv (keyD x) : Int) ≤ l) : CutD lv l (es ++ [x]) (ini ++ [last ++ [x]]) where
  flat := by have := c.flat; simp at this ⊢; rw [← this]; simp
  full := fun part hp => by
    rcases List.mem_append.mp hp with z | z
    · exact c.full part (List.mem_append_left _ z)
    · have : part = last ++ [x] := by simpa using z
      rw [this]; simp
  head := fun i y r hi e => by
    by_cases hl : i < ini.length
    · rw [List.getElem?_append_left hl] at e
      exact c.head i y r hi (by rw [List.getElem?_append_left hl]; exact e)
    · rw [List.getElem?_append_right (by omega)] at e
      have h0 : i - ini.length = 0 := by
        cases q : i - ini.length with
        | zero => rfl
        | succ m => rw [q] at e; simp at e
      rw [h0] at e
      have hne := c.full last (by simp)
      match last, hne, e, c with
      | z :: zs, _, e, c =>
        simp at e
        rw [← e.1]
        exact c.head i z zs hi (by rw [List.getElem?_append_right (by omega), h0]; rfl)
  rest := fun y r hp z hz => by
    rcases List.mem_append.mp hp with w | w
    · exact c.rest y r (List.mem_append_left _ w) z hz
    · have w : y :: r = last ++ [x] := by simpa using w
      have hne := c.full last (by simp)
      match last, hne, w, c with
      | u :: us, _, w, c =>
        simp at w
        obtain ⟨rfl, rfl⟩ := w
        rcases List.mem_append.mp hz with v | v
        · exact c.rest y us (by simp) z v
        · have : z = x := by simpa using v
          rw [this]; exact h
theorem snoc_of {α : Type} : ∀ {xs : List α}, xs ≠ [] → ∃ ini last, xs = ini ++ [last]
  | [], h => absurd rfl h
  | [x], _ => ⟨[], x, rfl⟩
  | x :: y :: ys, _ => by
    obtain ⟨ini, last, e⟩ := snoc_of (xs := y :: ys) (by simp)
    exact ⟨x :: ini, last, by rw [e]; rfl⟩
theorem CutD.step {x : Dt} (c : CutD lv l es parts) : CutD lv l (es ++ [x]) (step lv l parts x) := by
  unfold Tr.step
  split
  · rename_i h; exact c.more h
  · rename_i h
    have h1 : parts ≠ [] := fun z => h (.inl z)
    obtain ⟨ini, last, rfl⟩ := snoc_of h1
    have : (lv (keyD x) : Int) ≤ l := by have : ¬ l < lv (keyD x) := fun z => h (.inr z); omega
    simpa using c.on this
theorem cutF_snoc (es : List Dt) (x : Dt) : cutF lv l (es ++ [x]) = step lv l (cutF lv l es) x := by
  unfold cutF; rw [List.foldl_append]; rfl
theorem snoc_rec {α : Type} {C : List α → Prop} (h0 : C []) (h1 : ∀ xs x, C xs → C (xs ++ [x])) (xs : List α) : C xs := by
  have : ∀ n (xs : List α), xs.length = n → C xs := by
    intro n
    induction n with
    | zero => intro xs h; rw [List.length_eq_zero_iff.mp h]; exact h0
    | succ n ih =>
      intro xs h
      obtain ⟨ini, last, rfl⟩ := snoc_of (xs := xs) (by intro z; rw [z] at h; simp at h)
      exact h1 _ _ (ih ini (by simpa using h))
  exact this _ xs rfl
theorem cutF_ok (l : Int) : ∀ es, CutD lv l es (cutF lv l es) := snoc_rec CutD.nil fun xs x c => by rw [cutF_snoc]; exact c.step
theorem cutF_ne {es : List Dt} (h : es ≠ []) : cutF lv l es ≠ [] := fun z => h (by have := (cutF_ok (lv := lv) l es).flat; rw [z] at this; exact this.symm)
/-- where no level lies above, there is one part -/
theorem cutF_one {es : List Dt} (hne : es ≠ []) (h : ∀ e ∈ es, (lv (keyD e) : Int) ≤ l) : cutF lv l es = [es] := by
  have c := cutF_ok (lv := lv) l es
  match q : cutF lv l es with
  | [] => exact absurd q (cutF_ne hne)
  | [p] => rw [q] at c; have := c.flat; simp at this; rw [this]
  | p :: p2 :: r =>
    rw [q] at c
    have hp2 := c.full p2 (by simp)
    match p2, hp2 with
    | x :: xs, _ =>
      have h1 := c.head 1 x xs (by omega) rfl
      have h2 : x ∈ es := by rw [← c.flat]; simp
      have := h x h2
      omega
end
structure Fn (tbl : List (Int × Dt)) : Prop where
  num : ∀ n d d', (n, d) ∈ tbl → (n, d') ∈ tbl → d = d'
  dat : ∀ n n' d, (n, d) ∈ tbl → (n', d) ∈ tbl → n = n'
/-- the heads of the pages made of these parts -/
inductive Heads (tbl : List (Int × Dt)) (l : Int) : List (List Dt) → List Dt → Prop
  | nil : Heads tbl l [] []
  | cons {part : List Dt} {parts : List (List Dt)} {hs : List Dt} {n : Int} (h : (n, tdOf l part) ∈ tbl) (r : Heads tbl l parts hs) : Heads tbl l (part :: parts) (hdOf (fstK part) n :: hs)
section
variable {tbl tbl' : List (Int × Dt)} {l : Int} {parts : List (List Dt)} {hs : List Dt}
theorem Heads.mono (h : Heads tbl l parts hs) (s : ∀ x ∈ tbl, x ∈ tbl') : Heads tbl' l parts hs := by
  induction h with
  | nil => exact .nil
  | cons h _ ih => exact .cons (s _ h) ih
theorem Heads.snoc {part : List Dt} {n : Int} (h : Heads tbl l parts hs) (m : (n, tdOf l part) ∈ tbl) : Heads tbl l (parts ++ [part]) (hs ++ [hdOf (fstK part) n]) := by
  induction h with
  | nil => exact .cons m .nil
  | cons h _ ih => exact .cons h ih
theorem Heads.length (h : Heads tbl l parts hs) : hs.length = parts.length := by
  induction h with
  | nil => rfl
  | cons _ _ ih => simp [ih]
/-- the same parts have the same heads -/
theorem Heads.det (f : Fn tbl) (h : Heads tbl l parts hs) : ∀ {hs' : List Dt}, Heads tbl l parts hs' → hs = hs' := by
  induction h with
  | nil => intro hs' h'; cases h'; rfl
  | cons h _ ih =>
    intro hs' h'
    cases h' with
    | cons h2 r2 => rw [f.dat _ _ _ h h2, ih r2]
/-- the same heads have the same parts -/
theorem Heads.inj (f : Fn tbl) (h : Heads tbl l parts hs) : ∀ {parts' : List (List Dt)}, Heads tbl l parts' hs → parts = parts' := by
  induction h with
  | nil => intro p h'; cases h'; rfl
  | @cons part parts hs n h r ih =>
    intro p h'
    generalize e : hdOf (fstK part) n :: hs = q at h'
    cases h' with
    | nil => cases e
    | @cons part' parts' hs' n' h2 r2 =>
      injection e with e1 e2
      obtain ⟨_, en⟩ := hdOf_inj e1
      subst en
      have := f.num _ _ _ h h2
      rw [(tdOf_inj this).2, ih (by rw [e2]; exact r2)]
theorem Heads.get (h : Heads tbl l parts hs) : ∀ {i : Nat} {x : Dt}, hs[i]? = some x → ∃ part n, parts[i]? = some part ∧ x = hdOf (fstK part) n ∧ (n, tdOf l part) ∈ tbl := by
  induction h with
  | nil => intro i x e; simp at e
  | @cons part parts hs n h r ih =>
    intro i x e
    cases i with
    | zero => simp at e; exact ⟨part, n, rfl, e.symm, h⟩
    | succ i => simp at e; obtain ⟨p, n, a, b⟩ := ih e; exact ⟨p, n, by simpa using a, b⟩
end
/-- L 0 are the rows, L (j + 1) the heads of the pages of level j, up to the level top of the root -/
structure Chain (lv : V → Nat) (tbl : List (Int × Dt)) (rows : List Dt) (top : Nat) (L : Nat → List Dt) : Prop where
  low : L 0 = rows
  up : ∀ j, j ≤ top → Heads tbl j (cutF lv j (L j)) (L (j + 1))
  one : (L (top + 1)).length = 1
  two : ∀ j, 1 ≤ j → j ≤ top → 1 < (L j).length
section
variable {lv : V → Nat} {tbl tbl' : List (Int × Dt)} {rows rows' : List Dt} {top top' : Nat} {L L' : Nat → List Dt}
theorem Chain.mono (c : Chain lv tbl rows top L) (s : ∀ x ∈ tbl, x ∈ tbl') : Chain lv tbl' rows top L := ⟨c.low, fun j h => (c.up j h).mono s, c.one, c.two⟩
/-- the same store, the same rows: the same tree -/
theorem Chain.det (f : Fn tbl) (c : Chain lv tbl rows top L) (c' : Chain lv tbl rows top' L') : top = top' ∧ ∀ j, j ≤ top + 1 → L j = L' j := by
  have key : ∀ j, j ≤ top + 1 → j ≤ top' + 1 → L j = L' j := by
    intro j
    induction j with
    | zero => intro _ _; rw [c.low, c'.low]
    | succ j ih =>
      intro h h'
      have e := ih (by omega) (by omega)
      have u := c.up j (by omega)
      have u' := c'.up j (by omega)
      rw [e] at u
      exact u.det f u'
  have e : top = top' := by
    rcases Nat.lt_trichotomy top top' with h | h | h
    · have := c'.two (top + 1) (by omega) (by omega)
      rw [← key (top + 1) (by omega) (by omega), c.one] at this; omega
    · exact h
    · have := c.two (top' + 1) (by omega) (by omega)
      rw [key (top' + 1) (by omega) (by omega), c'.one] at this; omega
  subst e
  exact ⟨rfl, fun j h => key j h h⟩
end
def numD : Dt → Int
  | .t [_, .v (.int n)] => n
  | _ => 0
theorem numD_hd (k : V) (n : Int) : numD (hdOf k n) = n := rfl
section
variable {lv : V → Nat} {tbl : List (Int × Dt)} {l : Int} {parts : List (List Dt)} {hs rows : List Dt} {top : Nat} {L : Nat → List Dt}
theorem Heads.keys (h : Heads tbl l parts hs) : hs.map keyD = parts.map fstK := by
  induction h with
  | nil => rfl
  | cons h r ih => rw [List.map_cons, List.map_cons, ih]; rfl
theorem fst_sub : ∀ {parts : List (List Dt)}, (∀ p ∈ parts, p ≠ []) → (parts.map fstK).Sublist (parts.flatten.map keyD)
  | [], _ => List.Sublist.refl _
  | p :: ps, h => by
    have ih := fst_sub (parts := ps) fun q hq => h q (List.mem_cons_of_mem _ hq)
    match p, h p List.mem_cons_self with
    | e :: r, _ =>
      rw [List.map_cons, List.flatten_cons, List.cons_append, List.map_cons, List.map_append]
      exact List.Sublist.cons₂ _ (ih.trans (List.sublist_append_right _ _))
theorem Heads.mem (h : Heads tbl l parts hs) {x : Dt} (hx : x ∈ hs) : ∃ part ∈ parts, ∃ n, x = hdOf (fstK part) n ∧ (n, tdOf l part) ∈ tbl := by
  induction h with
  | nil => cases hx
  | @cons part parts hs n h r ih =>
    rcases List.mem_cons.mp hx with e | hx
    · exact ⟨part, List.mem_cons_self, n, e, h⟩
    · obtain ⟨p, hp, q⟩ := ih hx; exact ⟨p, List.mem_cons_of_mem _ hp, q⟩
theorem Heads.nodup (f : Fn tbl) (h : Heads tbl l parts hs) (full : ∀ p ∈ parts, p ≠ []) (nd : (parts.flatten.map keyD).Nodup) : (hs.map numD).Nodup := by
  induction h with
  | nil => exact List.nodup_nil
  | @cons part parts hs n h r ih =>
    rw [List.flatten_cons, List.map_append, List.nodup_append] at nd
    rw [List.map_cons, List.nodup_cons]
    refine ⟨fun z => ?_, ih (fun p hp => full p (List.mem_cons_of_mem _ hp)) nd.2.1⟩
    obtain ⟨x, hx, ex⟩ := List.mem_map.mp z
    obtain ⟨p, hp, m, rfl, hm⟩ := r.mem hx
    rw [numD_hd, numD_hd] at ex
    subst ex
    have := (tdOf_inj (f.num _ _ _ h hm)).2
    subst this
    match part, full part List.mem_cons_self with
    | e :: es, _ =>
      exact nd.2.2 (keyD e) (by simp) (keyD e) (List.mem_map_of_mem (List.mem_flatten.mpr ⟨_, hp, List.mem_cons_self⟩)) rfl
theorem Chain.keys (c : Chain lv tbl rows top L) : ∀ j, j ≤ top + 1 → ((L j).map keyD).Sublist (rows.map keyD) := by
  intro j
  induction j with
  | zero => intro _; rw [c.low]; exact List.Sublist.refl _
  | succ j ih =>
    intro h
    have u := c.up j (by omega)
    have k := cutF_ok (lv := lv) (j : Int) (L j)
    rw [u.keys]
    refine (fst_sub k.full).trans ?_
    rw [k.flat]
    exact ih (by omega)
/-- the numbers of all pages from the root down to level j -/
def numsTo (L : Nat → List Dt) (top : Nat) : Nat → List Int
  | 0 => []
  | i + 1 => numsTo L top i ++ (L (top + 1 - i)).map numD
theorem Chain.nums (f : Fn tbl) (c : Chain lv tbl rows top L) (nd : (rows.map keyD).Nodup) : ∀ i, i ≤ top + 1 → (numsTo L top i).Nodup ∧ ∀ n ∈ numsTo L top i, ∃ j part, top + 1 - i ≤ j ∧ j ≤ top ∧ (n, tdOf j part) ∈ tbl := by
  intro i
  induction i with
  | zero => intro _; exact ⟨List.nodup_nil, fun n h => by cases h⟩
  | succ i ih =>
    intro h
    obtain ⟨h1, h2⟩ := ih (by omega)
    obtain ⟨j, ej⟩ : ∃ j, top + 1 - i = j + 1 := ⟨top - i, by omega⟩
    have u := c.up j (by omega)
    have k := cutF_ok (lv := lv) (j : Int) (L j)
    have kn : ((cutF lv j (L j)).flatten.map keyD).Nodup := by rw [k.flat]; exact (c.keys j (by omega)).nodup nd
    unfold numsTo
    rw [ej]
    constructor
    · rw [List.nodup_append]
      refine ⟨h1, u.nodup f k.full kn, fun a ha b hb e => ?_⟩
      subst e
      obtain ⟨j', p', g1, g2, g3⟩ := h2 a ha
      obtain ⟨x, hx, ex⟩ := List.mem_map.mp hb
      obtain ⟨p, hp, m, rfl, hm⟩ := u.mem hx
      rw [numD_hd] at ex
      subst ex
      have := (tdOf_inj (f.num _ _ _ g3 hm)).1
      omega
    · intro n hn
      rcases List.mem_append.mp hn with hn | hn
      · obtain ⟨j', p', g1, g2, g3⟩ := h2 n hn
        exact ⟨j', p', by omega, g2, g3⟩
      · obtain ⟨x, hx, ex⟩ := List.mem_map.mp hn
        obtain ⟨p, hp, m, rfl, hm⟩ := u.mem hx
        rw [numD_hd] at ex
        subst ex
        exact ⟨j, p, by omega, by omega, hm⟩
end
/-- the levels made so far: below j pages -/
structure Part (lv : V → Nat) (tbl : List (Int × Dt)) (rows : List Dt) (j : Nat) (L : Nat → List Dt) : Prop where
  low : L 0 = rows
  up : ∀ i, i < j → Heads tbl i (cutF lv i (L i)) (L (i + 1))
  two : ∀ i, 1 ≤ i → i < j → 1 < (L i).length
section
variable {lv : V → Nat} {tbl tbl' : List (Int × Dt)} {rows hs : List Dt} {j : Nat} {L : Nat → List Dt}
theorem Part.start (h : Heads tbl 0 (cutF lv 0 rows) hs) : Part lv tbl rows 1 (fun i => if i = 0 then rows else hs) where
  low := rfl
  up := fun i hi => by
    obtain rfl : i = 0 := by omega
    exact h
  two := fun i h1 h2 => by omega
theorem Part.next (p : Part lv tbl rows j L) (s : ∀ x ∈ tbl, x ∈ tbl') (hj : 1 ≤ j) (h2 : 1 < (L j).length) (h : Heads tbl' j (cutF lv j (L j)) hs) : Part lv tbl' rows (j + 1) (fun i => if i = j + 1 then hs else L i) where
  low := by show (if 0 = j + 1 then hs else L 0) = rows; rw [if_neg (by omega)]; exact p.low
  up := fun i hi => by
    show Heads tbl' i (cutF lv i (if i = j + 1 then hs else L i)) (if i + 1 = j + 1 then hs else L (i + 1))
    rw [if_neg (by omega)]
    by_cases e : i = j
    · subst e; rw [if_pos rfl]; exact h
    · rw [if_neg (by omega)]; exact (p.up i (by omega)).mono s
  two := fun i h1 hi => by
    show 1 < (if i = j + 1 then hs else L i).length
    rw [if_neg (by omega)]
    by_cases e : i = j
    · subst e; exact h2
    · exact p.two i h1 (by omega)
theorem Part.chain {top : Nat} (p : Part lv tbl rows (top + 1) L) (h : (L (top + 1)).length = 1) : Chain lv tbl rows top L := ⟨p.low, fun i hi => p.up i (by omega), h, fun i h1 h2 => p.two i h1 (by omega)⟩
theorem Part.full (p : Part lv tbl rows j L) (hr : rows ≠ []) : ∀ i, i ≤ j → L i ≠ [] := by
  intro i
  induction i with
  | zero => intro _; rw [p.low]; exact hr
  | succ i ih =>
    intro h z
    have u := p.up i (by omega)
    have l := u.length
    rw [z] at l
    exact cutF_ne (ih (by omega)) (List.length_eq_zero_iff.mp l.symm)
/-- no level lies above the seventh -/
theorem Part.top (p : Part lv tbl rows j L) (h6 : ∀ k, lv k ≤ 6) (hr : rows ≠ []) (hj : 7 ≤ j) : (L 7).length = 1 := by
  have u := p.up 6 (by omega)
  rw [cutF_one (p.full hr 6 (by omega)) (fun e _ => by have := h6 (keyD e); omega)] at u
  rw [u.length]; rfl
end
end Tr


end
section
set_option Elab.async false
set_option linter.all false
set_option maxRecDepth 100000
set_option maxHeartbeats 1000000
namespace L2
open PySem PySem.Spec PyProof.Rows
inductive FzH (H : Hp) : Nat → V → Prop where
  | v {n : Nat} {x : V} (f : hV x = true) : FzH H n x
  | t {n : Nat} {a : Addr} {xs : List V} (h : H a = some (.tup xs)) (r : ∀ x ∈ xs, FzH H n x) : FzH H (n + 1) (.ref a)
theorem FzH.sameT {H H' : Hp} {n : Nat} {x : V} (r : FzH H n x) (s : SameT H H') : FzH H' n x := by
  induction r with
  | v f => exact .v f
  | t h _ ih => exact .t (s _ _ h) ih
theorem FzH.same {H H' : Hp} {n : Nat} {x : V} (r : FzH H n x) (s : Same H H') : FzH H' n x := r.sameT s.t
theorem FzH.mono {H : Hp} {n : Nat} {x : V} (r : FzH H n x) : ∀ {m : Nat}, n ≤ m → FzH H m x := by
  induction r with
  | v f => exact fun _ => .v f
  | t h _ ih =>
    intro m hm
    obtain ⟨k, rfl⟩ : ∃ k, m = k + 1 := ⟨m - 1, by omega⟩
    exact .t h fun x hx => ih x hx (by omega)
theorem FzH.pair {H : Hp} {n : Nat} {a : Addr} {x y : V} (h : H a = some (.tup [x, y])) (hx : FzH H n x) (hy : FzH H n y) : FzH H (n + 1) (.ref a) := .t h fun z hz => by
  rcases List.mem_cons.mp hz with e | hz
  · rw [e]; exact hx
  · rw [List.mem_singleton.mp hz]; exact hy
/-- a list at p, made behind H, whose items are data of tuples -/
structure CollH (H : Hp) (n : Nat) (p : Addr) (H1 : Hp) (xs : List V) : Prop where
  same : Same H H1
  at_ : H1 p = some (.lst xs)
  fz : ∀ x ∈ xs, FzH H1 n x
  new : H p = none
theorem CollH.start {H : Hp} {n : Nat} {p : Addr} (hp : H p = none) : CollH H n p (upd H p (.lst [])) [] := ⟨same_upd hp _, upd_same, (fun x hx => by cases hx), hp⟩
/-- behind what was made since, one item more -/
theorem CollH.more {H H1 H2 : Hp} {n : Nat} {p : Addr} {xs : List V} {x : V} (c : CollH H n p H1 xs) (s : Same H1 H2) (f : FzH H2 n x) : CollH H n p (upd H2 p (.lst (xs ++ [x]))) (xs ++ [x]) where
  same := fun b o hb => by rw [upd_ne (ne_of_none hb c.new)]; exact s _ _ (c.same _ _ hb)
  at_ := upd_same
  fz := fun y hy => by
    have st := sameT_lst (zs := xs ++ [x]) (s _ _ c.at_)
    rcases List.mem_append.mp hy with h | h
    · exact ((c.fz y h).same s).sameT st
    · rw [List.mem_singleton.mp h]; exact f.sameT st
  new := c.new
theorem CollH.pair {H H1 : Hp} {n : Nat} {p q : Addr} {xs : List V} (x y : V) (c : CollH H (n + 1) p H1 xs) (hq : H1 q = none) (fx : hV x = true := by rfl) (fy : hV y = true := by rfl) : CollH H (n + 1) p (upd (upd H1 q (.tup [x, y])) p (.lst (xs ++ [.ref q]))) (xs ++ [.ref q]) :=
  c.more (same_upd hq _) (FzH.pair upd_same (.v fx) (.v fy))
theorem FzH.td {H : Hp} {n : Nat} {x : V} (r : FzH H n x) : ∃ d, TD H n d x := by
  induction r with
  | v f => exact ⟨_, TD.ofV f⟩
  | t h _ ih =>
    obtain ⟨ds, q, _⟩ := TDs.of (Pd := fun _ => True) fun x hx => by obtain ⟨d, hd⟩ := ih x hx; exact ⟨d, hd, trivial⟩
    exact ⟨.t ds, TD.ofT h q⟩
end L2


end
section
set_option Elab.async false
set_option linter.all false
set_option maxRecDepth 100000
set_option maxHeartbeats 1000000
namespace L2
open PySem PySem.Spec PyProof.Rows
section
variable {a b c d e u : TS} {D : Ends} {σ : St} {H : Hp}
end
section
variable {X : Cx}
end
end L2


end
section
set_option Elab.async false
set_option linter.all false
set_option maxRecDepth 100000
set_option maxHeartbeats 4000000
namespace My
open PySem L2 Pl Th Tr
theorem cxOf_K {CX : CXT} {P : Program} {w : World} {K : PySem.W.Frag} {mg : Str → Option Value} {base : Heap} {N : List Str} {qual : Str} {scope : Scope} {f : Addr} {cd : Value} {A : Around} {outer : List Env} {s : Shared} {H : Hp} {E : XK} : (cxOf CX P w K mg base N qual scope f cd A outer s H E).K = K := rfl
theorem cxOf_P {CX : CXT} {P : Program} {w : World} {K : PySem.W.Frag} {mg : Str → Option Value} {base : Heap} {N : List Str} {qual : Str} {scope : Scope} {f : Addr} {cd : Value} {A : Around} {outer : List Env} {s : Shared} {H : Hp} {E : XK} : (cxOf CX P w K mg base N qual scope f cd A outer s H E).prog = P := rfl
theorem cxOf_w {CX : CXT} {P : Program} {w : World} {K : PySem.W.Frag} {mg : Str → Option Value} {base : Heap} {N : List Str} {qual : Str} {scope : Scope} {f : Addr} {cd : Value} {A : Around} {outer : List Env} {s : Shared} {H : Hp} {E : XK} : (cxOf CX P w K mg base N qual scope f cd A outer s H E).w = w := rfl
theorem blk_K {X : Cx} {sc : Scope} {x : Str} {M : List Str} {cl : List (Str × Addr)} {C : Addr} {s : Shared} {H : Hp} {fp : List Addr} : (blk X sc x M cl C s H fp).K = X.K := rfl
local macro_rules | `(tactic| walk_at "rd") => `(tactic| simp (maxSteps := 1000000) only [cxOf_K, blk_K, tFor_rng1, tFor_rng2, tFor_list, tFor_tup, tFor_str, tLc_rng1, tLc_list, tLc_tup, tLc_str, tSeq, tNext, tSetLc, rIxL, rIxT, rIxS, rLtV, rIn, rEqL, rJoin, rCat, rSlL, rSlS, Int.reduceLT, Int.reduceLE, Int.reduceToNat, tIfS, tTest, tB, tNot, tAnd, tOr, tAndV, tOrV, tNotV, tOp, tUn, tVar, tC, tRet, tRetN, tAsg, gName, tDrop, tCB, tCall, tCons, tNil, tTup, tLst, rI, rI0, rU, rEq, rNe, scal, tBM, tBM0, rAppend, tChain, tSl, tPart, tNoPart, tFmtI, tFmtS, tJoinF, tParts, empty_add, tSortK, tSortKB, tDGet1, tDPop1, rExtendE, tFor_rngD, tLenSet, tSetK, tFor_seq, tDNewK, sDPut, tDGet, tDIn, tDNotIn, tThaw, tLc_dict, tFor_dict, sThaw, Ends.thawed, cxOf_P, cxOf_w, tCall1, tMethE, tNIn, tNGet, sNPut, tNPop, tNNew, tIf, tFor_zip, gTup, gCons, gNil, rAll, tDNew, tLc_rng2, rEqN, tYes,  List.getElem?_cons_zero, List.getElem?_cons_succ, List.set_cons_zero, List.set_cons_succ, Option.some.injEq, V.int.injEq, V.bl.injEq, V.str.injEq, V.ref.injEq, exists_eq_left, exists_eq_left', exists_eq_right, exists_and_left, List.cons.injEq, and_true, true_and, List.append_nil, decide_eq_true_eq, Bool.not_eq_true', decide_eq_false_iff_not, Bool.not_true, Bool.not_false, if_true, if_false, Bool.true_eq_false, Bool.false_eq_true, reduceCtorEq, exists_const, exists_false, false_and, and_false, not_true_eq_false, not_false_eq_true, ite_true, ite_false])
local macro_rules | `(tactic| walk_at "side") => `(tactic| first | omega | decide | (unfold CDiv; omega) | (refine CMul.ok ?_; unfold CMul; omega) | (unfold CMul; omega) | (unfold CPow; omega) | (unfold CDiv; decide) | (unfold CPow; decide))
local macro_rules | `(tactic| walk_at "go") => `(tactic| (repeat refine And.intro (by walk_at "side") ?_))

def top (i : Nat) : Stmt := PySem.Challenge.pw_twigtable_k13_a_store.main.body.getD i (.Pass ⟨0, 0, 0, 0⟩)
def topM (i j : Nat) : Stmt := match top i with | .ClassDef _ _ _ body _ _ _ _ _ _ _ => body.getD j (.Pass ⟨0, 0, 0, 0⟩) | s => s
abbrev s_NoPage_init : Stmt := topM 3 0
theorem sc_NoPage_init : FnScope ["self", "number"] ["self", "number"] (defScope s_NoPage_init) := ⟨rfl, rfl, rfl, by decide +kernel, rfl, by decide +kernel, by decide +kernel⟩
abbrev s_NoMake_init : Stmt := topM 4 0
theorem sc_NoMake_init : FnScope ["self", "number"] ["self", "number"] (defScope s_NoMake_init) := ⟨rfl, rfl, rfl, by decide +kernel, rfl, by decide +kernel, by decide +kernel⟩
abbrev s_Page_init : Stmt := topM 6 0
theorem sc_Page_init : FnScope ["self", "level", "entries"] ["self", "level", "entries"] (defScope s_Page_init) := ⟨rfl, rfl, rfl, by decide +kernel, rfl, by decide +kernel, by decide +kernel⟩
abbrev s_Page_told : Stmt := topM 6 1
theorem sc_Page_told : FnScope ["self"] ["self"] (defScope s_Page_told) := ⟨rfl, rfl, rfl, by decide +kernel, rfl, by decide +kernel, by decide +kernel⟩
abbrev s_Pages_init : Stmt := topM 10 0
theorem sc_Pages_init : FnScope ["self"] ["self"] (defScope s_Pages_init) := ⟨rfl, rfl, rfl, by decide +kernel, rfl, by decide +kernel, by decide +kernel⟩
abbrev s_Pages_numbers : Stmt := topM 10 5
theorem sc_Pages_numbers : FnScope ["self"] ["self"] (defScope s_Pages_numbers) := ⟨rfl, rfl, rfl, by decide +kernel, rfl, by decide +kernel, by decide +kernel⟩
abbrev s_Pages_dealt : Stmt := topM 10 6
theorem sc_Pages_dealt : FnScope ["self"] ["self"] (defScope s_Pages_dealt) := ⟨rfl, rfl, rfl, by decide +kernel, rfl, by decide +kernel, by decide +kernel⟩
abbrev s_Pages_skip : Stmt := topM 10 7
theorem sc_Pages_skip : FnScope ["self", "count"] ["self", "count"] (defScope s_Pages_skip) := ⟨rfl, rfl, rfl, by decide +kernel, rfl, by decide +kernel, by decide +kernel⟩
abbrev s__law_whole : Stmt := top 12
theorem sc__law_whole : FnScope ["_law_found"] ["_law_found"] (defScope s__law_whole) := ⟨rfl, rfl, rfl, by decide +kernel, rfl, by decide +kernel, by decide +kernel⟩
abbrev s__law_content : Stmt := top 13
theorem sc__law_content : FnScope ["_law_cell", "_law_many", "_law_start", "_law_more"] ["_law_cell"] (defScope s__law_content) := ⟨rfl, rfl, rfl, by decide +kernel, rfl, by decide +kernel, by decide +kernel⟩
abbrev s_Leaf_init : Stmt := topM 7 0
theorem sc_Leaf_init : FnScope ["self", "rows"] ["self", "rows"] (defScope s_Leaf_init) := ⟨rfl, rfl, rfl, by decide +kernel, rfl, by decide +kernel, by decide +kernel⟩
abbrev s_Twig_init : Stmt := topM 8 0
theorem sc_Twig_init : FnScope ["self", "level", "heads"] ["self", "level", "heads"] (defScope s_Twig_init) := ⟨rfl, rfl, rfl, by decide +kernel, rfl, by decide +kernel, by decide +kernel⟩
abbrev s_Pages_kept : Stmt := topM 10 1
theorem sc_Pages_kept : FnScope ["self", "page", "told", "number"] ["self", "page"] (defScope s_Pages_kept) := ⟨rfl, rfl, rfl, by decide +kernel, rfl, by decide +kernel, by decide +kernel⟩
abbrev s_Pages_told_at : Stmt := topM 10 2
theorem sc_Pages_told_at : FnScope ["self", "number"] ["self", "number"] (defScope s_Pages_told_at) := ⟨rfl, rfl, rfl, by decide +kernel, rfl, by decide +kernel, by decide +kernel⟩
abbrev s_page_of : Stmt := top 9
theorem sc_page_of : FnScope ["level", "entries"] ["level", "entries"] (defScope s_page_of) := ⟨rfl, rfl, rfl, by decide +kernel, rfl, by decide +kernel, by decide +kernel⟩
abbrev s_Pages_card : Stmt := topM 10 4
theorem sc_Pages_card : FnScope ["self", "number", "told"] ["self", "number"] (defScope s_Pages_card) := ⟨rfl, rfl, rfl, by decide +kernel, rfl, by decide +kernel, by decide +kernel⟩
abbrev s_Pages_drop : Stmt := topM 10 8
theorem sc_Pages_drop : FnScope ["self", "number", "told"] ["self", "number"] (defScope s_Pages_drop) := ⟨rfl, rfl, rfl, by decide +kernel, rfl, by decide +kernel, by decide +kernel⟩
abbrev s__law_made : Stmt := top 14
theorem sc__law_made : FnScope ["_law_told"] ["_law_told"] (defScope s__law_made) := ⟨rfl, rfl, rfl, by decide +kernel, rfl, by decide +kernel, by decide +kernel⟩
abbrev s_Pages_page : Stmt := topM 10 3
theorem sc_Pages_page : FnScope ["self", "number", "told"] ["self", "number"] (defScope s_Pages_page) := ⟨rfl, rfl, rfl, by decide +kernel, rfl, by decide +kernel, by decide +kernel⟩
abbrev s__law_kept : Stmt := top 17
theorem sc__law_kept : FnScope ["_law_store", "_law_account", "_law_told", "_law_due", "_law_number", "_law_found"] ["_law_store", "_law_account", "_law_told"] (defScope s__law_kept) := ⟨rfl, rfl, rfl, by decide +kernel, rfl, by decide +kernel, by decide +kernel⟩
abbrev s__law_refused : Stmt := top 15
theorem sc__law_refused : FnScope ["_law_store", "_law_way", "_law_number", "_law_found", "e"] ["_law_store", "_law_way", "_law_number"] (defScope s__law_refused) := ⟨rfl, rfl, rfl, by decide +kernel, rfl, by decide +kernel, by decide +kernel⟩
abbrev s__law_page_as : Stmt := top 16
theorem sc__law_page_as : FnScope ["_law_store", "_law_number", "_law_told", "_law_page", "_law_card"] ["_law_store", "_law_number", "_law_told"] (defScope s__law_page_as) := ⟨rfl, rfl, rfl, by decide +kernel, rfl, by decide +kernel, by decide +kernel⟩
abbrev s__law_deed : Stmt := top 18
theorem sc__law_deed : FnScope ["_law_store", "_law_account", "_law_cell", "_law_way", "_law_number", "_law_standing", "_law_count"] ["_law_store", "_law_account", "_law_cell"] (defScope s__law_deed) := ⟨rfl, rfl, rfl, by decide +kernel, rfl, by decide +kernel, by decide +kernel⟩
abbrev s__law_whole_store : Stmt := top 19
theorem sc__law_whole_store : FnScope ["_law_store", "_law_account", "_law_found", "_law_number"] ["_law_store", "_law_account"] (defScope s__law_whole_store) := ⟨rfl, rfl, rfl, by decide +kernel, rfl, by decide +kernel, by decide +kernel⟩
abbrev s_law : Stmt := top 20
theorem sc_law : FnScope ["_law_script", "_law_stores", "_law_accounts", "_law_cell", "_law_which"] ["_law_script"] (defScope s_law) := ⟨rfl, rfl, rfl, by decide +kernel, rfl, by decide +kernel, by decide +kernel⟩
structure Zs (mg : Str → Option Value) : Prop where
  ValueError : mg "ValueError" = none
  bool : mg "bool" = none
  int : mg "int" = none
  isinstance : mg "isinstance" = none
  len : mg "len" = none
  list : mg "list" = none
  max : mg "max" = none
  range : mg "range" = none
  sorted : mg "sorted" = none
  tuple : mg "tuple" = none
def isaM (i j : Nat) : Bool := ([(0, 0), (1, 0), (1, 1), (2, 0), (2, 2), (3, 3)] : List (Nat × Nat)).contains (i, j)
structure Tx (K : PySem.W.Frag) (mg : Str → Option Value) (CT : Addr) (cs : Nat → Addr) (ob : Nat → Addr) : Prop where
  mg_Page : mg "Page" = some (.ref (ob 0))
  mg_Leaf : mg "Leaf" = some (.ref (ob 1))
  mg_Twig : mg "Twig" = some (.ref (ob 2))
  mg_Pages : mg "Pages" = some (.ref (ob 3))
  ob_ : ∀ i, i < 4 → ObC K (ob i) ["level", "rows", "heads", "entries", "told_by_number", "number_by_told", "count"]
  isa : ∀ i j, i < 4 → j < 4 → PySem.W.kitOne K (.ref (ob i)) (.ref (ob j)) = some (isaM i j)
  top : XTop K mg "TableError" CT
  mg_NoPage : mg "NoPage" = some (.ref (cs 0))
  mg_NoMake : mg "NoMake" = some (.ref (cs 1))
  cl : ∀ i, i < 2 → PySem.W.XCl K (cs i) CT
  no : ∀ i, i < 2 → ∀ f ∈ (["number"] : List Str), NoAttr K (cs i) f
  tab : ∀ i j, i < 2 → j < 2 → PySem.W.kitOne K (.ref (cs i)) (.ref (cs j)) = some (decide (i = j))
  tv : ∀ i, i < 2 → PySem.W.kitOne K (.ref (cs i)) (.type "ValueError") = some true
seal PE PT PW PA PS PSs PI PG PIfs PGs PO in
theorem ok_NoPage_init {P : Program} {w : World} {K : PySem.W.Frag} {mg : Str → Option Value} {base : Heap} {CT : Addr} {cs : Nat → Addr} {ob : Nat → Addr} {f : Addr} {fd : FuncData} (Z : Zs mg) (T : Tx K mg CT cs ob) (F : Fun K "__init__" "NoPage.__init__" s_NoPage_init f fd) : FnOk P w K mg base CX0 1 f fd ["self", "number"] (sp_X (cs 0) ["number"]) := by
  refine F.ok sc_NoPage_init (fun vs H Q E h => ?_) (fun cdv A outer s H vs Q E hr h => ?_)
  · obtain ⟨e, ws, rfl, hl, _⟩ := h; match ws, hl with | [_], _ => rfl
  obtain ⟨e, ws, rfl, hl, he, q⟩ := h
  match ws, hl with
  | [w0], _ =>
  refine ⟨_, (@pss_cons _ _ _ _ _ (ps_expr (pe_binit T.top rfl (pa_c (pv 0) (pa_c (pv 1) pa_nil))))
      (pss_one (ps_xf0 CT rfl (pv 0) (pv 1) rfl))), ?_⟩
  refine rd_start (σ := [some (.ref e), some w0]) rfl ?_
  walk_at "rd"
  simp only [tBI, sXF0, sXF1]
  walk_at "rd"
  exact ⟨e, cs 0, [w0], ⟨rfl, rfl⟩, by show 1 ≤ 1000; decide, he, T.cl 0 (by decide), cs 0, he, T.cl 0 (by decide), (T.no 0 (by decide) _ (by decide)), fun d hd hne => q d hd hne⟩
seal PE PT PW PA PS PSs PI PG PIfs PGs PO in
theorem ok_NoMake_init {P : Program} {w : World} {K : PySem.W.Frag} {mg : Str → Option Value} {base : Heap} {CT : Addr} {cs : Nat → Addr} {ob : Nat → Addr} {f : Addr} {fd : FuncData} (Z : Zs mg) (T : Tx K mg CT cs ob) (F : Fun K "__init__" "NoMake.__init__" s_NoMake_init f fd) : FnOk P w K mg base CX0 1 f fd ["self", "number"] (sp_X (cs 1) ["number"]) := by
  refine F.ok sc_NoMake_init (fun vs H Q E h => ?_) (fun cdv A outer s H vs Q E hr h => ?_)
  · obtain ⟨e, ws, rfl, hl, _⟩ := h; match ws, hl with | [_], _ => rfl
  obtain ⟨e, ws, rfl, hl, he, q⟩ := h
  match ws, hl with
  | [w0], _ =>
  refine ⟨_, (@pss_cons _ _ _ _ _ (ps_expr (pe_binit T.top rfl (pa_c (pv 0) (pa_c (pv 1) pa_nil))))
      (pss_one (ps_xf0 CT rfl (pv 0) (pv 1) rfl))), ?_⟩
  refine rd_start (σ := [some (.ref e), some w0]) rfl ?_
  walk_at "rd"
  simp only [tBI, sXF0, sXF1]
  walk_at "rd"
  exact ⟨e, cs 1, [w0], ⟨rfl, rfl⟩, by show 1 ≤ 1000; decide, he, T.cl 1 (by decide), cs 1, he, T.cl 1 (by decide), (T.no 1 (by decide) _ (by decide)), fun d hd hne => q d hd hne⟩
section
variable {K : PySem.W.Frag}
theorem kit_int_tup : PySem.W.kitOne K (.type "int") (.type "tuple") = some false := by rfl
theorem kit_str_tup : PySem.W.kitOne K (.type "str") (.type "tuple") = some false := by rfl
theorem kit_non_tup : PySem.W.kitOne K (.type "NoneType") (.type "tuple") = some false := by rfl
theorem kit_bl_tup : PySem.W.kitOne K (.type "bool") (.type "tuple") = some false := by rfl
theorem kit_lst_tup : PySem.W.kitOne K (.type "list") (.type "tuple") = some false := by rfl
theorem kit_dct_tup : PySem.W.kitOne K (.type "dict") (.type "tuple") = some false := by rfl
theorem kit_tup_tup : PySem.W.kitOne K (.type "tuple") (.type "tuple") = some true := by rfl
theorem kit_tup_str : PySem.W.kitOne K (.type "tuple") (.type "str") = some false := by rfl
theorem kit_bl_str : PySem.W.kitOne K (.type "bool") (.type "str") = some false := by rfl
theorem kit_lst_str : PySem.W.kitOne K (.type "list") (.type "str") = some false := by rfl
theorem kit_dct_str : PySem.W.kitOne K (.type "dict") (.type "str") = some false := by rfl
theorem kit_tup_lst : PySem.W.kitOne K (.type "tuple") (.type "list") = some false := by rfl
theorem kit_lst_lst : PySem.W.kitOne K (.type "list") (.type "list") = some true := by rfl
theorem kit_non_bool : PySem.W.kitOne K (.type "NoneType") (.type "bool") = some false := by rfl
theorem kit_str_bool : PySem.W.kitOne K (.type "str") (.type "bool") = some false := by rfl
theorem kit_tup_bool : PySem.W.kitOne K (.type "tuple") (.type "bool") = some false := by rfl
theorem kit_lst_bool : PySem.W.kitOne K (.type "list") (.type "bool") = some false := by rfl
theorem kit_dct_bool : PySem.W.kitOne K (.type "dict") (.type "bool") = some false := by rfl
theorem kit_non_int : PySem.W.kitOne K (.type "NoneType") (.type "int") = some false := by rfl
theorem kit_tup_int : PySem.W.kitOne K (.type "tuple") (.type "int") = some false := by rfl
theorem kit_lst_int : PySem.W.kitOne K (.type "list") (.type "int") = some false := by rfl
theorem kit_dct_int : PySem.W.kitOne K (.type "dict") (.type "int") = some false := by rfl
end
theorem one_sz (v : V) : [v].length ≤ sizeLine := show 1 ≤ sizeLine by decide
theorem small_le {n : Nat} (h : n ≤ 1000) : n ≤ sizeLine := Nat.le_of_lt (small1000 h)
theorem at0 (x : V) (r : List V) : atI (x :: r) 0 = some x := atI_nat (j := 0) rfl
theorem at1 (x y : V) (r : List V) : atI (x :: y :: r) 1 = some y := atI_nat (j := 1) rfl
theorem mem_of_ix {P : V → Prop} {ys : List V} (py : ∀ (i : Nat) y, ys[i]? = some y → P y) : ∀ v ∈ ys, P v := fun v hv => by
  obtain ⟨i, hi, e⟩ := List.mem_iff_getElem.mp hv
  exact py i v (by rw [List.getElem?_eq_getElem hi, e])
/-- isinstance of a plain value, against tuple and bool -/
theorem isTup_plain {K : PySem.W.Frag} {H : Hp} {Q : VK} {v : V} (p : plainV v) (q : Q (.bl false) H) : rIsI K [v, .ty "tuple"] H Q := by
  cases v with
  | non => exact isI_of .non kit_non_tup q
  | int i => exact isI_of (.int i) kit_int_tup q
  | str z => exact isI_of (.str z) kit_str_tup q
  | _ => exact p.elim
theorem isBool_plain {K : PySem.W.Frag} {H : Hp} {Q : VK} {v : V} (p : plainV v) (q : Q (.bl false) H) : rIsI K [v, .ty "bool"] H Q := by
  cases v with
  | non => exact isI_of .non kit_non_bool q
  | int i => exact isI_of (.int i) kit_int_bool q
  | str z => exact isI_of (.str z) kit_str_bool q
  | _ => exact p.elim

/-- a page's fields -/
def pgF (tw : Bool) (l : Int) (t : Addr) : List (Str × V) := putF (if tw = true then "heads" else "rows") (.ref t) (putF "entries" (.ref t) (putF "level" (.int l) []))
theorem ob12 {tw : Bool} : (if tw = true then 2 else 1) < 4 := by cases tw <;> decide
/-- a page of the level l with the entries es -/
def PgD (ob : Nat → Addr) (H : Hp) (a : Addr) (l : Int) (es : List Dt) : Prop :=
  ∃ tw dx t, tw = decide (l ≠ 0) ∧ H a = some (.ins (ob (if tw = true then 2 else 1)) dx (pgF tw l t)) ∧ TD H 7 (.t es) (.ref t)
theorem PgD.same {ob : Nat → Addr} {H H' : Hp} {a : Addr} {l : Int} {es : List Dt} (h : PgD ob H a l es) (s : Same H H') : PgD ob H' a l es := by
  obtain ⟨tw, dx, t, e, h1, h2⟩ := h
  exact ⟨tw, dx, t, e, s _ _ h1, h2.same s⟩
section
variable {K : PySem.W.Frag} {mg : Str → Option Value} {CT : Addr} {cs ob : Nat → Addr} {a t dx : Addr} {tw : Bool} {l : Int} {i : Nat} {σ : St} {H : Hp} {Q : VK}
theorem rd_level (T : Tx K mg CT cs ob) (hs : σ[i]? = some (some (.ref a))) (ha : H a = some (.ins (ob (if tw = true then 2 else 1)) dx (pgF tw l t))) (q : Q (.int l) H) : tFld K (tVar i) "level" σ H Q :=
  rd_fld (T.ob_ _ ob12) (by decide) hs ha (by cases tw <;> rfl) q
theorem rd_entries (T : Tx K mg CT cs ob) (hs : σ[i]? = some (some (.ref a))) (ha : H a = some (.ins (ob (if tw = true then 2 else 1)) dx (pgF tw l t))) (q : Q (.ref t) H) : tFld K (tVar i) "entries" σ H Q :=
  rd_fld (T.ob_ _ ob12) (by decide) hs ha (by cases tw <;> rfl) q
end
theorem at0' {x : V} {xs : List V} (h : xs[0]? = some x) : atI xs 0 = some x := atI_nat (j := 0) h
def sp_Page_told (_ : PySem.W.Frag) (ob : Nat → Addr) : Sp := fun vs H Q _ => ∃ a l es, vs = [.ref a] ∧ PgD ob H a l es ∧ ∀ r H', Same H H' → H r = none → TD H' 8 (tdOf l es) (.ref r) → Q (.ref r) H'
seal PE PT PW PA PS PSs PI PG PIfs PGs PO in
theorem ok_Page_told {P : Program} {w : World} {K : PySem.W.Frag} {mg : Str → Option Value} {base : Heap} {CT : Addr} {cs : Nat → Addr} {ob : Nat → Addr} {f : Addr} {fd : FuncData} (Z : Zs mg) (T : Tx K mg CT cs ob) (F : Fun K "told" "Page.told" s_Page_told f fd) : FnOk P w K mg base (CX1 P w) 1 f fd ["self"] (sp_Page_told K ob) := by
  refine F.ok1 sc_Page_told (fun vs H Q E h => ?_) (fun cdv A outer s H vs Q E hr h => ?_)
  · obtain ⟨a, l, es, rfl, _⟩ := h; rfl
  obtain ⟨a, l, es, rfl, hP, q⟩ := h
  refine ⟨_, (pss_one (ps_ret (pe_tup (pa_c (pe_fld (pv 0) rfl) (pa_c (pe_fld (pv 0) rfl) pa_nil))))), ?_⟩
  refine rd_start (σ := [some (.ref a)]) rfl ?_
  walk_at "rd"
  obtain ⟨tw, dx, t, _, ha, ht⟩ := hP
  exact rd_level T rfl ha (rd_entries T rfl ha ⟨two_ok, fun p hp => q p _ (same_upd hp _) hp (TD.pair upd_same (.ofV rfl) (ht.same (same_upd hp _)))⟩)
def sp_Page_init (K : PySem.W.Frag) (ob : Nat → Addr) : Sp := fun vs H Q _ => ∃ a tw dx l e b xs, vs = [.ref a, .int l, .ref e] ∧ H a = some (.ins (ob (if tw = true then 2 else 1)) dx []) ∧ HE b H e xs ∧ xs.length ≤ 900 ∧
  ∀ t H', H' a = some (.ins (ob (if tw = true then 2 else 1)) dx (putF "entries" (.ref t) (putF "level" (.int l) []))) → H' t = some (.tup xs) → (∀ fs, Same (upd H a (.ins (ob (if tw = true then 2 else 1)) dx fs)) (upd H' a (.ins (ob (if tw = true then 2 else 1)) dx fs))) → Q .non H'
seal PE PT PW PA PS PSs PI PG PIfs PGs PO in
theorem ok_Page_init {P : Program} {w : World} {K : PySem.W.Frag} {mg : Str → Option Value} {base : Heap} {CT : Addr} {cs : Nat → Addr} {ob : Nat → Addr} {f : Addr} {fd : FuncData} (Z : Zs mg) (T : Tx K mg CT cs ob) (F : Fun K "__init__" "Page.__init__" s_Page_init f fd) : FnOk P w K mg base CX0 1 f fd ["self", "level", "entries"] (sp_Page_init K ob) := by
  refine F.ok sc_Page_init (fun vs H Q E h => ?_) (fun cdv A outer s H vs Q E hr h => ?_)
  · obtain ⟨a, tw, dx, l, e, b, xs, rfl, _⟩ := h; rfl
  obtain ⟨a, tw, dx, l, e, b, xs, rfl, ha, he, lx, q⟩ := h
  refine ⟨_, (@pss_cons _ _ _ _ _ (ps_fld (pv 0) (pv 1) rfl)
      (pss_one (ps_fld (pv 0) (pe_callTy call_tuple_of rfl (Z.tuple) bo_tuple (pa_c (pv 2) pa_nil)) rfl))), ?_⟩
  refine rd_start (σ := [some (.ref a), some (.int l), some (.ref e)]) rfl ?_
  walk_at "rd"
  have c := T.ob_ _ (ob12 (tw := tw))
  generalize ob (if tw = true then 2 else 1) = C at *
  refine rd_set c (by decide) rfl (y := .int l) (H1 := H) (fun Q q => ⟨_, rfl, q⟩) ha (by decide) ?_
  have he1 : HE b _ e xs := HE.upd_ins (o := .ins C dx (putF "level" (.int l) [])) he ha
  have last : ∀ (t : Addr) (H1 : Hp), H1 a = some (.ins C dx (putF "level" (.int l) [])) → H1 t = some (.tup xs) → (∀ fs, Same (upd H a (.ins C dx fs)) (upd H1 a (.ins C dx fs))) → Q .non (upd H1 a (.ins C dx (putF "entries" (.ref t) (putF "level" (.int l) [])))) := by
    intro t H1 h1 ht hsame
    have ta : t ≠ a := fun z => by rw [z, h1] at ht; cases ht
    exact q t _ upd_same (by rw [upd_ne ta]; exact ht) fun fs => by rw [upd_upd]; exact hsame fs
  cases b with
  | false =>
    refine ⟨_, rfl, e, rfl, xs, .inl ⟨SqL.of he1, fun t ht => ⟨_, rfl, a, C, dx, _, rfl, same_upd ht _ _ _ upd_same, c.cl, c.no _ (by decide), show 1 < 1000 by decide, ?_⟩⟩⟩
    have ta : t ≠ a := fun z => by rw [z, upd_same] at ht; cases ht
    refine last t _ (same_upd ht _ _ _ upd_same) upd_same fun fs => ?_
    rw [upd_swap (Ne.symm ta), upd_upd, ← upd_swap (Ne.symm ta)]
    exact same_upd (by rw [upd_ne ta] at ht ⊢; exact ht) _
  | true =>
    refine ⟨_, rfl, e, rfl, xs, .inr ⟨SqT.of he1, ⟨_, rfl, a, C, dx, _, rfl, upd_same, c.cl, c.no _ (by decide), show 1 < 1000 by decide, ?_⟩⟩⟩
    exact last e _ upd_same he1 fun fs => by rw [upd_upd]; exact Same.refl _
theorem sameT_ins {H H' : Hp} {a C dx C' dx' : Addr} {fs fs' : List (Str × V)} (ha : H a = some (.ins C dx fs)) (s : Same (upd H a (.ins C' dx' fs')) H') : SameT H H' := fun b xs e => s _ _ (by rw [upd_ne (ne_of e ha (by intro z; cases z))]; exact e)
def sp_Leaf_init (K : PySem.W.Frag) (ob : Nat → Addr) : Sp := fun vs H Q _ => ∃ a dx e b xs es, vs = [.ref a, .ref e] ∧ H a = some (.ins (ob 1) dx []) ∧ HE b H e xs ∧ Paired (fun d v => TD H 6 d v) es xs ∧ xs.length ≤ 900 ∧ ∀ dx fs H', Same (upd H a (.ins (ob 1) dx fs)) H' → PgD ob H' a 0 es → Q .non H'
seal PE PT PW PA PS PSs PI PG PIfs PGs PO in
theorem ok_Leaf_init {P : Program} {w : World} {K : PySem.W.Frag} {mg : Str → Option Value} {base : Heap} {CT : Addr} {cs : Nat → Addr} {ob : Nat → Addr} {f : Addr} {fd : FuncData} (Z : Zs mg) (T : Tx K mg CT cs ob) (B_Page : BaI P w K mg base 1 "Page" (sp_Page_init K ob)) (F : Fun K "__init__" "Leaf.__init__" s_Leaf_init f fd) : FnOk P w K mg base CX0 2 f fd ["self", "rows"] (sp_Leaf_init K ob) := by
  refine F.ok sc_Leaf_init (fun vs H Q E h => ?_) (fun cdv A outer s H vs Q E hr h => ?_)
  · obtain ⟨a, dx, e, b, xs, es, rfl, _⟩ := h; rfl
  obtain ⟨a, dx, e, b, xs, es, rfl, ha, he, re, lx, q⟩ := h
  refine ⟨_, (@pss_cons _ _ _ _ _ (ps_expr (pe_bainit B_Page (k := 1) hr (by decide) rfl (pa_c (pv 0) (pa_c pe_int (pa_c (pv 1) pa_nil)))))
      (pss_one (ps_fld (pv 0) (pe_fld (pv 0) rfl) rfl))), ?_⟩
  refine rd_start (σ := [some (.ref a), some (.ref e)]) rfl ?_
  walk_at "rd"
  have c := T.ob_ 1 (by decide)
  refine ⟨a, false, dx, 0, e, b, xs, rfl, ha, he, lx, fun t H1 h1 ht hs => ?_⟩
  have ta : t ≠ a := fun z => by rw [z, h1] at ht; cases ht
  refine rd_set c (by decide) rfl (y := .ref t) (H1 := H1) (fun Q q => rd_fld c (by decide) rfl h1 rfl q) h1 (show 2 < 1000 by decide) ?_
  exact q dx _ _ (hs _) ⟨false, dx, t, rfl, upd_same, TD.ofT (by rw [upd_ne ta]; exact ht) (TDs.sameT re (sameT_ins ha (hs _)))⟩
def sp_Twig_init (K : PySem.W.Frag) (ob : Nat → Addr) : Sp := fun vs H Q _ => ∃ a dx l e b xs es, vs = [.ref a, .int l, .ref e] ∧ l ≠ 0 ∧ H a = some (.ins (ob 2) dx []) ∧ HE b H e xs ∧ Paired (fun d v => TD H 6 d v) es xs ∧ xs.length ≤ 900 ∧ ∀ dx fs H', Same (upd H a (.ins (ob 2) dx fs)) H' → PgD ob H' a l es → Q .non H'
seal PE PT PW PA PS PSs PI PG PIfs PGs PO in
theorem ok_Twig_init {P : Program} {w : World} {K : PySem.W.Frag} {mg : Str → Option Value} {base : Heap} {CT : Addr} {cs : Nat → Addr} {ob : Nat → Addr} {f : Addr} {fd : FuncData} (Z : Zs mg) (T : Tx K mg CT cs ob) (B_Page : BaI P w K mg base 1 "Page" (sp_Page_init K ob)) (F : Fun K "__init__" "Twig.__init__" s_Twig_init f fd) : FnOk P w K mg base CX0 2 f fd ["self", "level", "heads"] (sp_Twig_init K ob) := by
  refine F.ok sc_Twig_init (fun vs H Q E h => ?_) (fun cdv A outer s H vs Q E hr h => ?_)
  · obtain ⟨a, dx, l, e, b, xs, es, rfl, _⟩ := h; rfl
  obtain ⟨a, dx, l, e, b, xs, es, rfl, hl, ha, he, re, lx, q⟩ := h
  refine ⟨_, (@pss_cons _ _ _ _ _ (ps_expr (pe_bainit B_Page (k := 1) hr (by decide) rfl (pa_c (pv 0) (pa_c (pv 1) (pa_c (pv 2) pa_nil)))))
      (pss_one (ps_fld (pv 0) (pe_fld (pv 0) rfl) rfl))), ?_⟩
  refine rd_start (σ := [some (.ref a), some (.int l), some (.ref e)]) rfl ?_
  walk_at "rd"
  have c := T.ob_ 2 (by decide)
  refine ⟨a, true, dx, l, e, b, xs, rfl, ha, he, lx, fun t H1 h1 ht hs => ?_⟩
  have ta : t ≠ a := fun z => by rw [z, h1] at ht; cases ht
  refine rd_set c (by decide) rfl (y := .ref t) (H1 := H1) (fun Q q => rd_fld c (by decide) rfl h1 rfl q) h1 (show 2 < 1000 by decide) ?_
  exact q dx _ _ (hs _) ⟨true, dx, t, (decide_eq_true hl).symm, upd_same, TD.ofT (by rw [upd_ne ta]; exact ht) (TDs.sameT re (sameT_ins ha (hs _)))⟩
def sp_page_of (_ : PySem.W.Frag) (ob : Nat → Addr) : Sp := fun vs H Q _ => ∃ l e b xs es, vs = [.int l, .ref e] ∧ HE b H e xs ∧ Paired (fun d v => TD H 6 d v) es xs ∧ xs.length ≤ 900 ∧ ∀ a H', Same H H' → H a = none → PgD ob H' a l es → Q (.ref a) H'
seal PE PT PW PA PS PSs PI PG PIfs PGs PO in
theorem ok_page_of {P : Program} {w : World} {K : PySem.W.Frag} {mg : Str → Option Value} {base : Heap} {CT : Addr} {cs : Nat → Addr} {ob : Nat → Addr} {f : Addr} {fd : FuncData} (Z : Zs mg) (T : Tx K mg CT cs ob) (K_Twig : MkV P w K mg base 2 "Twig" (ob 2) (sp_Twig_init K ob)) (K_Leaf : MkV P w K mg base 2 "Leaf" (ob 1) (sp_Leaf_init K ob)) (F : Fun K "page_of" "page_of" s_page_of f fd) : FnOk P w K mg base CX0 4 f fd ["level", "entries"] (sp_page_of K ob) := by
  refine F.ok sc_page_of (fun vs H Q E h => ?_) (fun cdv A outer s H vs Q E hr h => ?_)
  · obtain ⟨l, e, b, xs, es, rfl, _⟩ := h; rfl
  obtain ⟨l, e, b, xs, es, rfl, he, re, lx, q⟩ := h
  refine ⟨_, (@pss_cons _ _ _ _ _ (ps_if (pt_cmpR op_eq (pv 0) pe_int (nomark _)) (pss_one (ps_ret (pe_mk K_Leaf (k := 3) hr (by decide) rfl (pa_c (pv 1) pa_nil)))) pss_nil)
      (pss_one (ps_ret (pe_mk K_Twig (k := 3) hr (by decide) rfl (pa_c (pv 0) (pa_c (pv 1) pa_nil)))))), ?_⟩
  refine rd_start (σ := [some (.int l), some (.ref e)]) rfl ?_
  walk_at "rd"
  have sH : ∀ (x dx : Addr) (o u : HO), H x = none → H dx = none → Same H (upd (upd H dx u) x o) := fun x dx o u h1 h2 => same_mk h1 h2 (Same.refl _)
  refine ite2 (fun h => ?_) fun h => ?_
  · refine ⟨_, rfl, fun x dx hx hdx hne => ⟨x, dx, e, b, xs, es, rfl, upd_same, he.same (sH _ _ _ _ hx hdx), TDs.sameT re (sH _ _ _ _ hx hdx).t, lx, fun dx' fs H' s' pg => ⟨rfl, q x H' ?_ hx ?_⟩⟩⟩
    · rw [upd_upd] at s'; exact same_mk hx hdx s'
    · subst h; exact pg
  · refine ⟨_, rfl, _, rfl, fun x dx hx hdx hne => ⟨x, dx, l, e, b, xs, es, rfl, h, upd_same, he.same (sH _ _ _ _ hx hdx), TDs.sameT re (sH _ _ _ _ hx hdx).t, lx, fun dx' fs H' s' pg => ⟨rfl, q x H' ?_ hx pg⟩⟩⟩
    rw [upd_upd] at s'; exact same_mk hx hdx s'
--@SPLIT
/-- what a store holds: the number, how the page is told, where that tuple lies -/
abbrev StL := List (Int × Dt × Addr)
def stF (d1 d2 : Addr) (c : Int) : List (Str × V) := putF "count" (.int c) (putF "number_by_told" (.ref d2) (putF "told_by_number" (.ref d1) []))
def numOf (x : Int × Dt × Addr) : Key × V := (.inl x.1, .ref x.2.2)
def tolOf (x : Int × Dt × Addr) : Dt × Addr × V := (x.2.1, x.2.2, .int x.1)
/-- a page's data: its first entry begins with a key -/
def PgSh (d : Dt) : Prop := ∃ l k r, ∃ es : List Dt, d = tdOf l (.t (.v k :: r) :: es) ∧ hV k = true ∧ es.length < 900
structure StAt (P : Program) (w : World) (ob : Nat → Addr) (H : Hp) (p d1 d2 : Addr) (st : StL) (c : Int) : Prop where
  obj : ∃ dx, H p = some (.ins (ob 3) dx (stF d1 d2 c))
  num : H d1 = some (.dK (st.map numOf))
  tol : H d2 = some (dN P w d2 (st.map tolOf))
  td : ∀ x ∈ st, TD H 8 x.2.1 (.ref x.2.2)
  sh : ∀ x ∈ st, PgSh x.2.1
  lt : ∀ x ∈ st, x.1 < c
  nn : (st.map (·.1)).Nodup
  nd : (st.map (·.2.1)).Nodup
  few : st.length ≤ 20000
section
variable {P : Program} {w : World} {K : PySem.W.Frag} {ob : Nat → Addr} {H H' : Hp} {p d1 d2 : Addr} {st : StL} {c : Int}
theorem StAt.pd1 (h : StAt P w ob H p d1 d2 st c) : p ≠ d1 := by
  obtain ⟨dx, e⟩ := h.obj
  exact ne_of e h.num (by intro z; cases z)
theorem StAt.pd2 (h : StAt P w ob H p d1 d2 st c) : p ≠ d2 := by
  obtain ⟨dx, e⟩ := h.obj
  exact ne_of e h.tol (by intro z; cases z)
theorem StAt.d12 (h : StAt P w ob H p d1 d2 st c) : d1 ≠ d2 := ne_of h.num h.tol (by intro z; cases z)
/-- nothing of the store itself was touched -/
theorem StAt.keep (h : StAt P w ob H p d1 d2 st c) (s : SameT H H') (hp : H' p = H p) (h1 : H' d1 = H d1) (h2 : H' d2 = H d2) : StAt P w ob H' p d1 d2 st c :=
  ⟨by rw [hp]; exact h.obj, by rw [h1]; exact h.num, by rw [h2]; exact h.tol, fun x hx => TD.sameT s 8 (h.td x hx), h.sh, h.lt, h.nn, h.nd, h.few⟩
theorem StAt.same (h : StAt P w ob H p d1 d2 st c) (s : Same H H') : StAt P w ob H' p d1 d2 st c := by
  obtain ⟨dx, e⟩ := h.obj
  exact h.keep s.t (by rw [s _ _ e, e]) (by rw [s _ _ h.num, h.num]) (by rw [s _ _ h.tol, h.tol])
theorem StAt.dn (h : StAt P w ob H p d1 d2 st c) : DnAt P w K H d2 (st.map tolOf) := ⟨h.tol, fun x hx => by
  obtain ⟨y, hy, rfl⟩ := List.mem_map.mp hx
  exact ⟨(h.td y hy).rep, (h.td y hy).h⟩⟩
theorem StAt.get (h : StAt P w ob H p d1 d2 st c) {x : Int × Dt × Addr} (hx : x ∈ st) : valV (st.map numOf) (.inl x.1) = some (.ref x.2.2) := by
  rw [valV_mapF]
  have : (fun y : Int × Dt × Addr => decide ((numOf y).1 = (Sum.inl x.1 : Key))) = fun y => decide (y.1 = x.1) := by
    funext y
    exact decide_eq_decide.mpr ⟨fun e => by injection e, fun e => by show Sum.inl _ = _; rw [e]⟩
  rw [this, find_key (fun y : Int × Dt × Addr => y.1) h.nn hx]; rfl
theorem StAt.getN (h : StAt P w ob H p d1 d2 st c) {x : Int × Dt × Addr} (hx : x ∈ st) : valN (st.map tolOf) x.2.1 = some (.int x.1) := by
  rw [valN_map]
  have := find_key (fun y : Int × Dt × Addr => y.2.1) h.nd hx
  rw [show (fun y : Int × Dt × Addr => decide ((tolOf y).1 = x.2.1)) = fun y => decide (y.2.1 = x.2.1) from rfl, this]; rfl
theorem StAt.fun_ (h : StAt P w ob H p d1 d2 st c) {n : Int} {d d' : Dt} {t t' : Addr} (h1 : (n, d, t) ∈ st) (h2 : (n, d', t') ∈ st) : d = d' ∧ t = t' := by
  have e1 := find_key (fun y : Int × Dt × Addr => y.1) h.nn h1
  have e2 := find_key (fun y : Int × Dt × Addr => y.1) h.nn h2
  have e := e1.symm.trans e2
  injection e with e
  injection e with _ e
  injection e with a b
  exact ⟨a, b⟩
theorem St_no {st : StL} {n : Int} (h : ∀ x ∈ st, x.1 ≠ n) : valV (st.map numOf) (.inl n) = none := by
  rw [valV_mapF]
  have : (fun y : Int × Dt × Addr => decide ((numOf y).1 = (Sum.inl n : Key))) = fun y => decide (y.1 = n) := by
    funext y
    exact decide_eq_decide.mpr ⟨fun e => by injection e, fun e => by show Sum.inl _ = _; rw [e]⟩
  rw [this, find_no (fun y : Int × Dt × Addr => y.1) h]; rfl
theorem St_noN {st : StL} {d : Dt} (h : ∀ x ∈ st, x.2.1 ≠ d) : valN (st.map tolOf) d = none := by
  rw [valN_map]
  have := find_no (fun y : Int × Dt × Addr => y.2.1) h
  rw [show (fun y : Int × Dt × Addr => decide ((tolOf y).1 = d)) = fun y => decide (y.2.1 = d) from rfl, this]; rfl
theorem sameT_st (h : StAt P w ob H p d1 d2 st c) (s : SameX [p, d1, d2] H H') : SameT H H' := fun b xs e => s b _ (fun z => by
  obtain ⟨dx, eo⟩ := h.obj
  rcases List.mem_cons.mp z with z | z
  · rw [z, eo] at e; cases e
  rcases List.mem_cons.mp z with z | z
  · rw [z, h.num] at e; cases e
  · rw [List.mem_singleton.mp z, h.tol] at e; cases e) e
end
def sp_Pages_init (P : Program) (w : World) (ob : Nat → Addr) : Sp := fun vs H Q _ => ∃ p dx, vs = [.ref p] ∧ H p = some (.ins (ob 3) dx []) ∧ ∀ d1 d2 H' dx fs, H d1 = none → H d2 = none → Same (upd H p (.ins (ob 3) dx fs)) H' → StAt P w ob H' p d1 d2 [] 0 → Q .non H'
seal PE PT PW PA PS PSs PI PG PIfs PGs PO in
theorem ok_Pages_init {P : Program} {w : World} {K : PySem.W.Frag} {mg : Str → Option Value} {base : Heap} {CT : Addr} {cs : Nat → Addr} {ob : Nat → Addr} {f : Addr} {fd : FuncData} (Z : Zs mg) (T : Tx K mg CT cs ob) (F : Fun K "__init__" "Pages.__init__" s_Pages_init f fd) : FnOk P w K mg base CX0 1 f fd ["self"] (sp_Pages_init P w ob) := by
  refine F.ok sc_Pages_init (fun vs H Q E h => ?_) (fun cdv A outer s H vs Q E hr h => ?_)
  · obtain ⟨a, dx, rfl, _⟩ := h; rfl
  obtain ⟨a, dx, rfl, ha, q⟩ := h
  refine ⟨_, (@pss_cons _ _ _ _ _ (ps_fld (pv 0) pe_dnewK rfl)
      (@pss_cons _ _ _ _ _ (ps_fld (pv 0) pe_dnewN rfl)
      (pss_one (ps_fld (pv 0) pe_int rfl)))), ?_⟩
  refine rd_start (σ := [some (.ref a)]) rfl ?_
  walk_at "rd"
  have c := T.ob_ 3 (by decide)
  intro p hp
  have pa : a ≠ p := fun z => by rw [← z, ha] at hp; cases hp
  refine ⟨_, rfl, a, ob 3, dx, _, rfl, by rw [upd_ne pa]; exact ha, c.cl, c.no _ (by decide), by decide, ?_⟩
  intro p2 hp2
  have pa2 : a ≠ p2 := fun z => by rw [← z, upd_same] at hp2; cases hp2
  have hp2' : upd H p (.dK []) p2 = none := by rw [upd_ne (Ne.symm pa2)] at hp2; exact hp2
  have pp : p2 ≠ p := fun z => by rw [z, upd_same] at hp2'; cases hp2'
  have hp2'' : H p2 = none := by rw [upd_ne pp] at hp2'; exact hp2'
  refine ⟨_, rfl, a, ob 3, dx, putF "told_by_number" (.ref p) [], rfl, by rw [upd_ne pa2]; exact upd_same, c.cl, c.no _ (by decide), (show 1 < 1000 by decide), ?_⟩
  refine ⟨_, rfl, a, ob 3, dx, putF "number_by_told" (.ref p2) (putF "told_by_number" (.ref p) []), rfl, upd_same, c.cl, c.no _ (by decide), (show 2 < 1000 by decide), ?_⟩
  show Q V.non _
  rw [upd_upd]
  refine q p p2 _ dx (stF p p2 0) hp hp2'' (fun b o hb => ?_) ⟨⟨dx, upd_same⟩, ?_, ?_, (fun x hx => nomatch hx), (fun x hx => nomatch hx), (fun x hx => nomatch hx), List.nodup_nil, List.nodup_nil, Nat.zero_le _⟩
  · by_cases e : b = a
    · rw [e, upd_same] at hb ⊢; exact hb
    · rw [upd_ne e] at hb ⊢
      rw [upd_ne (ne_of_none hb hp2''), upd_ne e, upd_ne (ne_of_none hb hp)]; exact hb
  · rw [upd_ne (Ne.symm pa), upd_ne (Ne.symm pp), upd_ne (Ne.symm pa)]; exact upd_same
  · rw [upd_ne (Ne.symm pa2)]; exact upd_same
def sp_Pages_dealt (P : Program) (w : World) (ob : Nat → Addr) : Sp := fun vs H Q _ => ∃ p d1 d2 st c, vs = [.ref p] ∧ StAt P w ob H p d1 d2 st c ∧ Q (.int c) H
seal PE PT PW PA PS PSs PI PG PIfs PGs PO in
theorem ok_Pages_dealt {P : Program} {w : World} {K : PySem.W.Frag} {mg : Str → Option Value} {base : Heap} {CT : Addr} {cs : Nat → Addr} {ob : Nat → Addr} {f : Addr} {fd : FuncData} (Z : Zs mg) (T : Tx K mg CT cs ob) (F : Fun K "dealt" "Pages.dealt" s_Pages_dealt f fd) : FnOk P w K mg base (CX1 P w) 1 f fd ["self"] (sp_Pages_dealt P w ob) := by
  refine F.ok1 sc_Pages_dealt (fun vs H Q E h => ?_) (fun cdv A outer s H vs Q E hr h => ?_)
  · obtain ⟨p, d1, d2, st, c, rfl, _⟩ := h; rfl
  obtain ⟨p, d1, d2, st, c, rfl, hS, q⟩ := h
  refine ⟨_, (pss_one (ps_ret (pe_fld (pv 0) rfl))), ?_⟩
  refine rd_start (σ := [some (.ref p)]) rfl ?_
  walk_at "rd"
  obtain ⟨dx, ho⟩ := hS.obj
  exact rd_fld (T.ob_ 3 (by decide)) (by decide) rfl ho rfl q
def sp_Pages_skip (P : Program) (w : World) (ob : Nat → Addr) : Sp := fun vs H Q _ => ∃ p d1 d2 st c k, vs = [.ref p, .int k] ∧ StAt P w ob H p d1 d2 st c ∧ ∀ H', SameX [p] H H' → StAt P w ob H' p d1 d2 st (if c < k then k else c) → Q .non H'
seal PE PT PW PA PS PSs PI PG PIfs PGs PO in
theorem ok_Pages_skip {P : Program} {w : World} {K : PySem.W.Frag} {mg : Str → Option Value} {base : Heap} {CT : Addr} {cs : Nat → Addr} {ob : Nat → Addr} {f : Addr} {fd : FuncData} (Z : Zs mg) (T : Tx K mg CT cs ob) (F : Fun K "skip" "Pages.skip" s_Pages_skip f fd) : FnOk P w K mg base (CX1 P w) 1 f fd ["self", "count"] (sp_Pages_skip P w ob) := by
  refine F.ok1 sc_Pages_skip (fun vs H Q E h => ?_) (fun cdv A outer s H vs Q E hr h => ?_)
  · obtain ⟨p, d1, d2, st, c, k, rfl, _⟩ := h; rfl
  obtain ⟨p, d1, d2, st, c, k, rfl, hS, q⟩ := h
  refine ⟨_, (pss_one (ps_fld (pv 0) (pe_callB (call_max2 rfl) rfl (Z.max) bo_max (pa_c (pe_fld (pv 0) rfl) (pa_c (pv 1) pa_nil))) rfl)), ?_⟩
  refine rd_start (σ := [some (.ref p), some (.int k)]) rfl ?_
  walk_at "rd"
  obtain ⟨dx, ho⟩ := hS.obj
  have cc := T.ob_ 3 (by decide)
  have key : ∀ m, (∀ x ∈ st, x.1 < m) → StAt P w ob (upd H p (.ins (ob 3) dx (stF d1 d2 m))) p d1 d2 st m := fun m hm =>
    ⟨⟨dx, upd_same⟩, by rw [upd_ne (Ne.symm hS.pd1)]; exact hS.num, by rw [upd_ne (Ne.symm hS.pd2)]; exact hS.tol, fun x hx => TD.sameT (fun b xs e => by rw [upd_ne (ne_of e ho (by intro z; cases z))]; exact e) 8 (hS.td x hx), hS.sh, hm, hS.nn, hS.nd, hS.few⟩
  refine rd_set cc (by decide) rfl (y := .int (if c < k then k else c)) (H1 := H) (fun Q q => by
    simp only [tCB, tCons, tNil, tVar]
    exact ⟨_, rfl, p, ob 3, dx, _, _, rfl, ho, cc.cl, cc.no _ (by decide), rfl, _, rfl, c, k, rfl, q⟩) ho (show 3 < 1000 by decide) ?_
  show Q V.non (upd H p (.ins (ob 3) dx (stF d1 d2 (if c < k then k else c))))
  refine q _ ((SameX.refl _ _).upd (List.mem_singleton.mpr rfl)) (key _ fun x hx => ?_)
  have := hS.lt x hx
  split <;> omega
def sp_Pages_told_at (P : Program) (w : World) (cs ob : Nat → Addr) : Sp := fun vs H Q E => ∃ p d1 d2 st c n, vs = [.ref p, .int n] ∧ StAt P w ob H p d1 d2 st c ∧
  (∀ d t, (n, d, t) ∈ st → Q (.ref t) H) ∧
  ((∀ x ∈ st, x.1 ≠ n) → ∀ d, H d = none → E (.ref (cs 0)) (some d) (upd H d (xD d [("number", .int n)])))
seal PE PT PW PA PS PSs PI PG PIfs PGs PO in
theorem ok_Pages_told_at {P : Program} {w : World} {K : PySem.W.Frag} {mg : Str → Option Value} {base : Heap} {CT : Addr} {cs : Nat → Addr} {ob : Nat → Addr} {f : Addr} {fd : FuncData} (Z : Zs mg) (T : Tx K mg CT cs ob) (K_NoPage : MkX P w K mg base 1 "NoPage" (cs 0) CT ["number"]) (F : Fun K "told_at" "Pages.told_at" s_Pages_told_at f fd) : FnOk P w K mg base (CX1 P w) 3 f fd ["self", "number"] (sp_Pages_told_at P w cs ob) := by
  refine F.ok1 sc_Pages_told_at (fun vs H Q E h => ?_) (fun cdv A outer s H vs Q E hr h => ?_)
  · obtain ⟨p, d1, d2, st, c, n, rfl, _⟩ := h; rfl
  obtain ⟨p, d1, d2, st, c, n, rfl, hS, q1, q2⟩ := h
  refine ⟨_, (@pss_cons _ _ _ _ _ (ps_if (pt_cmp (pc_dnotin hr.u1 (pv 1) (pe_fld (pv 0) rfl))) (pss_one (ps_raiseX throws0 rfl rfl rfl K_NoPage (k := 2) hr (by decide) (pa_c (pv 1) pa_nil))) pss_nil)
      (pss_one (ps_ret (pe_dget hr.u1 (pe_fld (pv 0) rfl) (pv 1) (fun _ _ => rfl))))), ?_⟩
  refine rd_start (σ := [some (.ref p), some (.int n)]) rfl ?_
  walk_at "rd"
  obtain ⟨dx, ho⟩ := hS.obj
  have cc := T.ob_ 3 (by decide)
  refine rd_fld cc (by decide) rfl ho rfl ⟨d1, rfl, _, DGet.k (k := .inl n) hS.num, ?_⟩
  by_cases hx : ∃ x ∈ st, x.1 = n
  · obtain ⟨⟨n', d, t⟩, hm, rfl⟩ := hx
    rw [hS.get hm]
    rw [if_neg (by simp)]
    exact rd_fld cc (by decide) rfl ho rfl ⟨d1, rfl, .ref t, by rw [← hS.get hm]; exact DGet.k (k := .inl _) hS.num, q1 d t hm⟩
  · have hx' : ∀ x ∈ st, x.1 ≠ n := fun x h e => hx ⟨x, h, e⟩
    rw [St_no hx', if_pos (by decide)]
    exact ⟨_, rfl, rfl, show 1 ≤ 1000 by decide, fun d hd => q2 hx' d hd⟩
def sp_Pages_page (P : Program) (w : World) (cs ob : Nat → Addr) : Sp := fun vs H Q E => ∃ p d1 d2 st c n, vs = [.ref p, .int n] ∧ StAt P w ob H p d1 d2 st c ∧
  (∀ l es t, (n, tdOf l es, t) ∈ st → ∀ a H', Same H H' → H a = none → PgD ob H' a l es → Q (.ref a) H') ∧
  ((∀ x ∈ st, x.1 ≠ n) → ∀ d, H d = none → E (.ref (cs 0)) (some d) (upd H d (xD d [("number", .int n)])))
seal PE PT PW PA PS PSs PI PG PIfs PGs PO in
theorem ok_Pages_page {P : Program} {w : World} {K : PySem.W.Frag} {mg : Str → Option Value} {base : Heap} {CT : Addr} {cs : Nat → Addr} {ob : Nat → Addr} {f : Addr} {fd : FuncData} (Z : Zs mg) (T : Tx K mg CT cs ob) (G_page_of : Cal P w K mg base 4 "page_of" ["level", "entries"] (sp_page_of K ob)) (M_Pages_told_at : MeV P w K mg base 3 (ob 3) "told_at" (sp_Pages_told_at P w cs ob)) (F : Fun K "page" "Pages.page" s_Pages_page f fd) : FnOk P w K mg base (CX1 P w) 5 f fd ["self", "number"] (sp_Pages_page P w cs ob) := by
  refine F.ok1 sc_Pages_page (fun vs H Q E h => ?_) (fun cdv A outer s H vs Q E hr h => ?_)
  · obtain ⟨p, d1, d2, st, c, n, rfl, _⟩ := h; rfl
  obtain ⟨p, d1, d2, st, c, n, rfl, hS, q1, q2⟩ := h
  refine ⟨_, (@pss_cons _ _ _ _ _ (ps_set (i := 2) sc_Pages_page.nd rfl (Or.inl rfl) (PE1.pe (pe1_methV (k := 4) (pv 0) hr rfl (pa_c (pv 1) pa_nil)) throws0))
      (pss_one (ps_ret (pe_cal G_page_of (k := 4) hr (by decide) rfl (pa_c (pe_ix ix_tup (pv 2) pe_int (fun _ _ => rfl)) (pa_c (pe_ix ix_tup (pv 2) pe_int (fun _ _ => rfl)) pa_nil)))))), ?_⟩
  refine rd_start (σ := [some (.ref p), some (.int n), none]) rfl ?_
  walk_at "rd"
  obtain ⟨dx, ho⟩ := hS.obj
  have cc := T.ob_ 3 (by decide)
  refine rd_methV rfl ho rfl cc.cl (M_Pages_told_at.mono (by decide)) ⟨_, rfl, ⟨p, d1, d2, st, c, n, rfl, hS, fun d t hm => ?_, fun hx d hd => q2 hx d hd⟩⟩
  obtain ⟨l, k, r, es, ed, hk, le⟩ := hS.sh _ hm
  have td := hS.td _ hm
  dsimp only at ed td
  subst ed
  obtain ⟨_, x, z, e, ht, t1, t2⟩ := td.pair_of
  cases e
  obtain ⟨_, rfl⟩ := t1.flat
  obtain ⟨m, e', xs, em, rfl, he, re⟩ := t2.tup
  obtain rfl : m = 6 := by omega
  refine ⟨t, rfl, _, SqT.of ht, .int l, rfl, ⟨t, rfl, _, SqT.of ht, .ref e', rfl, ?_⟩⟩
  exact ⟨l, e', true, xs, _, rfl, he, re, by have := Paired.length re; simp at this; omega, fun a H' s ha pg => q1 l _ t hm a H' s ha pg⟩
def sp_Pages_kept (P : Program) (w : World) (ob : Nat → Addr) : Sp := fun vs H Q E => ∃ p d1 d2 st c a l es, vs = [.ref p, .ref a] ∧ StAt P w ob H p d1 d2 st c ∧ PgD ob H a l es ∧ PgSh (tdOf l es) ∧ st.length < 20000 ∧
  (∀ n t, (n, tdOf l es, t) ∈ st → ∀ H', Same H H' → Q (.int n) H') ∧
  ((∀ x ∈ st, x.2.1 ≠ tdOf l es) → ∀ t H', SameX [p, d1, d2] H H' → StAt P w ob H' p d1 d2 (st ++ [(c, tdOf l es, t)]) (c + 1) → Q (.int c) H')
seal PE PT PW PA PS PSs PI PG PIfs PGs PO in
theorem ok_Pages_kept {P : Program} {w : World} {K : PySem.W.Frag} {mg : Str → Option Value} {base : Heap} {CT : Addr} {cs : Nat → Addr} {ob : Nat → Addr} {f : Addr} {fd : FuncData} (Z : Zs mg) (T : Tx K mg CT cs ob) (M_Page_told : MeV P w K mg base 1 (ob 0) "told" (sp_Page_told K ob)) (M_Leaf_told : MeV P w K mg base 1 (ob 1) "told" (sp_Page_told K ob)) (M_Twig_told : MeV P w K mg base 1 (ob 2) "told" (sp_Page_told K ob)) (F : Fun K "kept" "Pages.kept" s_Pages_kept f fd) : FnOk P w K mg base (CX1 P w) 2 f fd ["self", "page"] (sp_Pages_kept P w ob) := by
  refine F.ok1 sc_Pages_kept (fun vs H Q E h => ?_) (fun cdv A outer s H vs Q E hr h => ?_)
  · obtain ⟨p, d1, d2, st, c, a, l, es, rfl, _⟩ := h; rfl
  obtain ⟨p, d1, d2, st, c, a, l, es, rfl, hS, hP, hsh, few, q1, q2⟩ := h
  refine ⟨_, (@pss_cons _ _ _ _ _ (ps_set (i := 2) sc_Pages_kept.nd rfl (Or.inl rfl) (PE1.pe (pe1_methV0 (k := 1) (pv 1) hr rfl) throws0))
      (@pss_cons _ _ _ _ _ (ps_if (pt_cmp (pc_nin hr.u9 (pv 2) (pe_fld (pv 0) rfl))) (pss_one (ps_ret (pe_nget hr.u9 (pe_fld (pv 0) rfl) (pv 2) (fun _ _ => rfl)))) pss_nil)
      (@pss_cons _ _ _ _ _ (ps_set (i := 3) sc_Pages_kept.nd rfl (Or.inl rfl) (pe_fld (pv 0) rfl))
      (@pss_cons _ _ _ _ _ (ps_dput hr.u1 (pe_fld (pv 0) rfl) (pv 3) (pv 2) rfl)
      (@pss_cons _ _ _ _ _ (ps_nput hr.u9 (pe_fld (pv 0) rfl) (pv 2) (pv 3) rfl)
      (@pss_cons _ _ _ _ _ (ps_fld (pv 0) (pe_op op_add (pv 3) pe_int) rfl)
      (pss_one (ps_ret (pv 3))))))))), ?_⟩
  refine rd_start (σ := [some (.ref p), some (.ref a), none, none]) rfl ?_
  walk_at "rd"
  obtain ⟨dx, ho⟩ := hS.obj
  have cc := T.ob_ 3 (by decide)
  obtain ⟨tw, dxa, t0, etw, ha, ht⟩ := id hP
  have Mt : MeV P w K mg base 1 (ob (if tw = true then 2 else 1)) "told" (sp_Page_told K ob) := by cases tw with | true => exact M_Twig_told | false => exact M_Leaf_told
  refine rd_methV0 rfl ha (by cases tw <;> rfl) (T.ob_ _ ob12).cl Mt ⟨a, l, es, rfl, hP, fun r H1 s1 hr1 t1 => ?_⟩
  have hS1 := hS.same s1
  have ho1 := s1 _ _ ho
  refine rd_fld cc (by decide) rfl ho1 rfl ⟨d2, rfl, r, rfl, _, hS1.dn, tdOf l es, t1.rep, t1.h, ?_⟩
  by_cases hx : ∃ x ∈ st, x.2.1 = tdOf l es
  · obtain ⟨⟨n, d, t⟩, hm, e⟩ := hx
    dsimp only at e
    subst e
    have g := hS1.getN hm
    dsimp only at g
    rw [g, if_pos (show (some (V.int n)).isSome = true from rfl)]
    exact rd_fld cc (by decide) rfl ho1 rfl ⟨d2, rfl, r, rfl, _, hS1.dn, tdOf l es, t1.rep, t1.h, _, g, q1 n t hm _ s1⟩
  · have hx' : ∀ x ∈ st, x.2.1 ≠ tdOf l es := fun x h e => hx ⟨x, h, e⟩
    have hc : ∀ x ∈ st, x.1 ≠ c := fun x h e => by have := hS.lt x h; omega
    rw [St_noN hx', if_neg (by decide)]
    refine rd_fld cc (by decide) rfl ho1 rfl ?_
    refine rd_fld cc (by decide) rfl ho1 rfl ⟨d1, rfl, _, DPut.k (k := .inl c) hS1.num (by rw [List.length_map, sizeLine_eq]; omega), ?_⟩
    rw [putK_new _ (St_no hc)]
    have sx2 : SameX [p, d1, d2] H1 (upd H1 d1 (.dK (st.map numOf ++ [(.inl c, .ref r)]))) := (SameX.refl _ _).upd (by simp)
    have st2 := sameT_st hS1 sx2
    refine rd_fld cc (by decide) rfl (by rw [upd_ne hS.pd1]; exact ho1) rfl ⟨d2, rfl, r, rfl, st.map tolOf, ⟨by rw [upd_ne (Ne.symm hS.d12)]; exact hS1.tol, fun x hx => ?_⟩, tdOf l es, (TD.sameT st2 8 t1).rep, t1.h, St_noN hx', by rw [List.length_map, sizeLine_eq]; omega, ?_⟩
    · obtain ⟨y, hy, rfl⟩ := List.mem_map.mp hx
      exact ⟨(TD.sameT st2 8 (hS1.td y hy)).rep, (hS1.td y hy).h⟩
    generalize e2 : upd H1 d1 (.dK (st.map numOf ++ [(.inl c, .ref r)])) = H2 at sx2 st2
    have sx3 : SameX [p, d1, d2] H1 (upd H2 d2 (dN P w d2 (st.map tolOf ++ [(tdOf l es, r, .int c)]))) := sx2.upd (by simp)
    have p3 : upd H2 d2 (dN P w d2 (st.map tolOf ++ [(tdOf l es, r, .int c)])) p = some (.ins (ob 3) dx (stF d1 d2 c)) := by rw [upd_ne hS.pd2, ← e2, upd_ne hS.pd1]; exact ho1
    refine rd_set (fs := stF d1 d2 c) cc (by decide) rfl (y := .int (c + 1)) (H1 := upd H2 d2 (dN P w d2 (st.map tolOf ++ [(tdOf l es, r, .int c)]))) (fun Q q => by
      simp only [tOp, tVar, tC, rI0]
      exact ⟨_, rfl, c, 1, rfl, rfl, q⟩) p3 (show 3 < 1000 by decide) ?_
    have sx4 : SameX [p, d1, d2] H1 (upd (upd H2 d2 (dN P w d2 (st.map tolOf ++ [(tdOf l es, r, .int c)]))) p (.ins (ob 3) dx (stF d1 d2 (c + 1)))) := sx3.upd (by simp)
    have st4 := sameT_st hS1 sx4
    refine ⟨_, rfl, q2 hx' r _ ((s1.x _).trans sx4) ⟨⟨dx, upd_same⟩, ?_, ?_, fun x hx => ?_, fun x hx => ?_, fun x hx => ?_, ?_, ?_, ?_⟩⟩
    · rw [upd_ne (Ne.symm hS.pd1), upd_ne hS.d12, ← e2, upd_same, List.map_append]; rfl
    · rw [upd_ne (Ne.symm hS.pd2), upd_same, List.map_append]; rfl
    · rcases List.mem_append.mp hx with h | h
      · exact TD.sameT st4 8 (hS1.td x h)
      · rw [List.mem_singleton.mp h]; exact TD.sameT st4 8 t1
    · rcases List.mem_append.mp hx with h | h
      · exact hS.sh x h
      · rw [List.mem_singleton.mp h]; exact hsh
    · rcases List.mem_append.mp hx with h | h
      · have := hS.lt x h; omega
      · rw [List.mem_singleton.mp h]; show c < c + 1; omega
    · rw [List.map_append, List.nodup_append]
      refine ⟨hS.nn, by simp, fun a ha b hb e => ?_⟩
      obtain ⟨y, hy, rfl⟩ := List.mem_map.mp ha
      simp at hb
      exact hc y hy (by rw [e, hb])
    · rw [List.map_append, List.nodup_append]
      refine ⟨hS.nd, by simp, fun a ha b hb e => ?_⟩
      obtain ⟨y, hy, rfl⟩ := List.mem_map.mp ha
      simp at hb
      exact hx' y hy (by rw [e, hb])
    · rw [List.length_append]; show _ + 1 ≤ 20000; omega
def sp_Pages_card (P : Program) (w : World) (cs ob : Nat → Addr) : Sp := fun vs H Q E => ∃ p d1 d2 st c n, vs = [.ref p, .int n] ∧ StAt P w ob H p d1 d2 st c ∧
  (∀ l k r es t, (n, tdOf l (.t (.v k :: r) :: es), t) ∈ st → ∀ a H', Same H H' → H a = none → TD H' 1 (.t [.v (.int l), .v k]) (.ref a) → Q (.ref a) H') ∧
  ((∀ x ∈ st, x.1 ≠ n) → ∀ d, H d = none → E (.ref (cs 0)) (some d) (upd H d (xD d [("number", .int n)])))
seal PE PT PW PA PS PSs PI PG PIfs PGs PO in
theorem ok_Pages_card {P : Program} {w : World} {K : PySem.W.Frag} {mg : Str → Option Value} {base : Heap} {CT : Addr} {cs : Nat → Addr} {ob : Nat → Addr} {f : Addr} {fd : FuncData} (Z : Zs mg) (T : Tx K mg CT cs ob) (M_Pages_told_at : MeV P w K mg base 3 (ob 3) "told_at" (sp_Pages_told_at P w cs ob)) (F : Fun K "card" "Pages.card" s_Pages_card f fd) : FnOk P w K mg base (CX1 P w) 4 f fd ["self", "number"] (sp_Pages_card P w cs ob) := by
  refine F.ok1 sc_Pages_card (fun vs H Q E h => ?_) (fun cdv A outer s H vs Q E hr h => ?_)
  · obtain ⟨p, d1, d2, st, c, n, rfl, _⟩ := h; rfl
  obtain ⟨p, d1, d2, st, c, n, rfl, hS, q1, q2⟩ := h
  refine ⟨_, (@pss_cons _ _ _ _ _ (ps_set (i := 2) sc_Pages_card.nd rfl (Or.inl rfl) (PE1.pe (pe1_methV (k := 3) (pv 0) hr rfl (pa_c (pv 1) pa_nil)) throws0))
      (pss_one (ps_ret (pe_tup (pa_c (pe_ix ix_tup (pv 2) pe_int (fun _ _ => rfl)) (pa_c (pe_ix ix_tup (pe_ix ix_tup (pe_ix ix_tup (pv 2) pe_int (fun _ _ => rfl)) pe_int (fun _ _ => rfl)) pe_int (fun _ _ => rfl)) pa_nil)))))), ?_⟩
  refine rd_start (σ := [some (.ref p), some (.int n), none]) rfl ?_
  walk_at "rd"
  obtain ⟨dx, ho⟩ := hS.obj
  have cc := T.ob_ 3 (by decide)
  refine rd_methV rfl ho rfl cc.cl (M_Pages_told_at.mono (by decide)) ⟨_, rfl, ⟨p, d1, d2, st, c, n, rfl, hS, fun d t hm => ?_, fun hx d hd => q2 hx d hd⟩⟩
  obtain ⟨l, k, r, es, ed, hk, le⟩ := hS.sh _ hm
  have td := hS.td _ hm
  dsimp only at ed td
  subst ed
  obtain ⟨_, x, z, e, ht, t1, t2⟩ := td.pair_of
  cases e
  obtain ⟨_, rfl⟩ := t1.flat
  obtain ⟨m, e', xs, em, rfl, he, re⟩ := t2.tup
  cases re with
  | cons r1 _ =>
    obtain ⟨_, b, ys, _, rfl, hb, rb⟩ := r1.tup
    cases rb with
    | cons r2 _ =>
      obtain ⟨_, rfl⟩ := r2.flat
      exact ⟨t, rfl, _, SqT.of ht, .int l, rfl, t, rfl, _, SqT.of ht, .ref e', rfl, e', rfl, _, SqT.of he, .ref b, at0' rfl, b, rfl, _, SqT.of hb, _, at0' rfl, two_ok, fun a ha => q1 l _ _ _ t hm a _ (same_upd ha _) ha (TD.pair upd_same (.ofV rfl) (.ofV hk))⟩
def sp_Pages_numbers (P : Program) (w : World) (ob : Nat → Addr) : Sp := fun vs H Q _ => ∃ p d1 d2 st c, vs = [.ref p] ∧ StAt P w ob H p d1 d2 st c ∧ st.length < 1000 ∧ ∀ (r : Addr) (H' : Hp) (ms : List Int), Same H H' → H r = none → H' r = some (.lst (ms.map V.int)) → ms.Perm (st.map (·.1)) → ms.Pairwise (· ≤ ·) → Q (.ref r) H'
seal PE PT PW PA PS PSs PI PG PIfs PGs PO in
theorem ok_Pages_numbers {P : Program} {w : World} {K : PySem.W.Frag} {mg : Str → Option Value} {base : Heap} {CT : Addr} {cs : Nat → Addr} {ob : Nat → Addr} {f : Addr} {fd : FuncData} (Z : Zs mg) (T : Tx K mg CT cs ob) (F : Fun K "numbers" "Pages.numbers" s_Pages_numbers f fd) : FnOk P w K mg base (CX1 P w) 1 f fd ["self"] (sp_Pages_numbers P w ob) := by
  refine F.ok1 sc_Pages_numbers (fun vs H Q E h => ?_) (fun cdv A outer s H vs Q E hr h => ?_)
  · obtain ⟨p, d1, d2, st, c, rfl, _⟩ := h; rfl
  obtain ⟨p, d1, d2, st, c, rfl, hS, few, q⟩ := h
  refine ⟨_, (pss_one (ps_ret (pe_callB (call_sortedD hr.hd) rfl (Z.sorted) bo_sorted (pa_c (pe_fld (pv 0) rfl) pa_nil)))), ?_⟩
  refine rd_start (σ := [some (.ref p)]) rfl ?_
  walk_at "rd"
  obtain ⟨dx, ho⟩ := hS.obj
  have cc := T.ob_ 3 (by decide)
  have em : (st.map numOf).map (fun p => kV p.1) = (st.map (·.1)).map V.int := by rw [List.map_map, List.map_map]; rfl
  refine rd_fld cc (by decide) rfl ho rfl ⟨d1, _, ltP, rfl, hS.num, by rw [List.length_map]; omega, by rw [em]; exact one_ints (fun v hv => by obtain ⟨n, _, e⟩ := List.mem_map.mp hv; exact ⟨n, e.symm⟩), fun D H' ys s hD hy pm pw => ?_⟩
  rw [em] at pm
  obtain ⟨ms, rfl, pm', pw'⟩ := sortedI pm pw
  exact q D H' ms s hD hy pm' pw'
def sp_Pages_drop (P : Program) (w : World) (cs ob : Nat → Addr) : Sp := fun vs H Q E => ∃ p d1 d2 st c n, vs = [.ref p, .int n] ∧ StAt P w ob H p d1 d2 st c ∧
  ((∃ x ∈ st, x.1 = n) → ∀ H', SameX [p, d1, d2] H H' → StAt P w ob H' p d1 d2 (st.filter fun x => decide (x.1 ≠ n)) c → Q .non H') ∧
  ((∀ x ∈ st, x.1 ≠ n) → ∀ d, H d = none → E (.ref (cs 0)) (some d) (upd H d (xD d [("number", .int n)])))
seal PE PT PW PA PS PSs PI PG PIfs PGs PO in
theorem ok_Pages_drop {P : Program} {w : World} {K : PySem.W.Frag} {mg : Str → Option Value} {base : Heap} {CT : Addr} {cs : Nat → Addr} {ob : Nat → Addr} {f : Addr} {fd : FuncData} (Z : Zs mg) (T : Tx K mg CT cs ob) (M_Pages_told_at : MeV P w K mg base 3 (ob 3) "told_at" (sp_Pages_told_at P w cs ob)) (F : Fun K "drop" "Pages.drop" s_Pages_drop f fd) : FnOk P w K mg base (CX1 P w) 4 f fd ["self", "number"] (sp_Pages_drop P w cs ob) := by
  refine F.ok1 sc_Pages_drop (fun vs H Q E h => ?_) (fun cdv A outer s H vs Q E hr h => ?_)
  · obtain ⟨p, d1, d2, st, c, n, rfl, _⟩ := h; rfl
  obtain ⟨p, d1, d2, st, c, n, rfl, hS, q1, q2⟩ := h
  refine ⟨_, (@pss_cons _ _ _ _ _ (ps_set (i := 2) sc_Pages_drop.nd rfl (Or.inl rfl) (PE1.pe (pe1_methV (k := 3) (pv 0) hr rfl (pa_c (pv 1) pa_nil)) throws0))
      (@pss_cons _ _ _ _ _ (ps_expr (pe_dpop1 (pe_fld (pv 0) rfl) (pv 1) ⟨rfl, rfl, rfl, rfl⟩))
      (pss_one (ps_expr (pe_npop hr.u9 (pe_fld (pv 0) rfl) (pv 2) ⟨rfl, rfl, rfl, rfl⟩))))), ?_⟩
  refine rd_start (σ := [some (.ref p), some (.int n), none]) rfl ?_
  walk_at "rd"
  obtain ⟨dx, ho⟩ := hS.obj
  have cc := T.ob_ 3 (by decide)
  refine rd_methV rfl ho rfl cc.cl (M_Pages_told_at.mono (by decide)) ⟨_, rfl, ⟨p, d1, d2, st, c, n, rfl, hS, fun d t hm => ?_, fun hx d hd => q2 hx d hd⟩⟩
  obtain ⟨l, k, r0, es0, ed, hk, le⟩ := hS.sh _ hm
  have t2 := hS.td _ hm
  dsimp only at ed t2
  show tFld K (tVar 0) (Str.ofString "told_by_number") _ _ _
  refine rd_fld cc (by decide) rfl ho rfl ⟨d1, rfl, .inl ⟨_, .inl hS.num⟩, _, hS.num, .inl n, rfl, .ref t, hS.get hm, ?_⟩
  have sx3 : SameX [p, d1, d2] H (upd H d1 (.dK (dropK (st.map numOf) (.inl n)))) := (SameX.refl _ _).upd (by simp)
  have st3 := sameT_st hS sx3
  have dn3 : DnAt P w K (upd H d1 (.dK (dropK (st.map numOf) (.inl n)))) d2 (st.map tolOf) := ⟨by rw [upd_ne (Ne.symm hS.d12)]; exact hS.tol, fun x hx => by
    obtain ⟨y, hy, rfl⟩ := List.mem_map.mp hx
    exact ⟨(TD.sameT st3 8 (hS.td y hy)).rep, (hS.td y hy).h⟩⟩
  obtain ⟨j, hj⟩ := List.mem_iff_getElem?.mp hm
  refine rd_fld cc (by decide) rfl (by rw [upd_ne hS.pd1]; exact ho) rfl ⟨d2, rfl, _, dn3, t, rfl, _, dn3, d, (TD.sameT st3 8 t2).rep, t2.h, j, t, .int n, by rw [List.getElem?_map, hj]; rfl, ?_⟩
  have sx4 := sx3.upd (a := d2) (o := dN P w d2 ((st.map tolOf).eraseIdx j)) (by simp)
  have st4 := sameT_st hS sx4
  have mf : ∀ {x}, x ∈ st.filter (fun x => decide (x.1 ≠ n)) → x ∈ st := fun h => (List.mem_filter.mp h).1
  refine q1 ⟨_, hm, rfl⟩ _ sx4 ⟨⟨dx, by rw [upd_ne hS.pd2, upd_ne hS.pd1]; exact ho⟩, ?_, ?_, fun x hx => TD.sameT st4 8 (hS.td x (mf hx)), fun x hx => hS.sh x (mf hx), fun x hx => hS.lt x (mf hx), ?_, ?_, Nat.le_trans (List.length_filter_le _ _) hS.few⟩
  · rw [upd_ne hS.d12, upd_same, dropK_mapF]
    have : (fun y : Int × Dt × Addr => decide ((numOf y).1 ≠ (Sum.inl n : Key))) = fun y => decide (y.1 ≠ n) := by
      funext y
      exact decide_eq_decide.mpr ⟨fun h e => h (by show Sum.inl _ = _; rw [e]), fun h e => h (by injection e)⟩
    rw [this]
  · rw [upd_same, map_erase, erase_filter (fun y : Int × Dt × Addr => y.1) hS.nn hj]
  · exact (List.filter_sublist.map _).nodup hS.nn
  · exact (List.filter_sublist.map _).nodup hS.nd

--@SPLIT
theorem kit_int_int' {K : PySem.W.Frag} : PySem.W.kitOne K (.type "int") (.type "int") = some true := by rfl
theorem kit_int_bool' {K : PySem.W.Frag} : PySem.W.kitOne K (.type "int") (.type "bool") = some false := by rfl
def sp__law_whole (_ : PySem.W.Frag) : Sp := fun vs H Q _ => ∃ i : Int, vs = [.int i] ∧ Q (.bl true) H
seal PE PT PW PA PS PSs PI PG PIfs PGs PO in
theorem ok__law_whole {P : Program} {w : World} {K : PySem.W.Frag} {mg : Str → Option Value} {base : Heap} {CT : Addr} {cs : Nat → Addr} {ob : Nat → Addr} {f : Addr} {fd : FuncData} (Z : Zs mg) (T : Tx K mg CT cs ob) (F : Fun K "_law_whole" "_law_whole" s__law_whole f fd) : FnOk P w K mg base CX0 1 f fd ["_law_found"] (sp__law_whole K) := by
  refine F.ok sc__law_whole (fun vs H Q E h => ?_) (fun cdv A outer s H vs Q E hr h => ?_)
  · obtain ⟨i, rfl, _⟩ := h; rfl
  obtain ⟨i, rfl, q⟩ := h
  refine ⟨_, (pss_one (ps_ret (pe_and (pe_callB call_isinst rfl (Z.isinstance) bo_isinstance (pa_c (pv 0) (pa_c (pe_bltn rfl (Z.int) bo_int (v := .ty "int") rfl) pa_nil))) (pe_one (pe_not (pe_callB call_isinst rfl (Z.isinstance) bo_isinstance (pa_c (pv 0) (pa_c (pe_bltn rfl (Z.bool) bo_bool (v := .ty "bool") rfl) pa_nil)))))))), ?_⟩
  refine rd_start (σ := [some (.int i)]) rfl ?_
  walk_at "rd"
  exact isI_of (.int i) kit_int_int' ⟨_, rfl, show ite _ _ _ from (if_pos rfl).mpr (isI_of (.int i) kit_int_bool' ⟨_, rfl, q⟩)⟩
def sp__law_made (_ : PySem.W.Frag) (ob : Nat → Addr) : Sp := fun vs H Q _ => ∃ r l es, vs = [.ref r] ∧ TD H 8 (tdOf l es) (.ref r) ∧ es.length ≤ 900 ∧ ∀ a H', Same H H' → H a = none → PgD ob H' a l es → Q (.ref a) H'
seal PE PT PW PA PS PSs PI PG PIfs PGs PO in
theorem ok__law_made {P : Program} {w : World} {K : PySem.W.Frag} {mg : Str → Option Value} {base : Heap} {CT : Addr} {cs : Nat → Addr} {ob : Nat → Addr} {f : Addr} {fd : FuncData} (Z : Zs mg) (T : Tx K mg CT cs ob) (K_Twig : MkV P w K mg base 2 "Twig" (ob 2) (sp_Twig_init K ob)) (K_Leaf : MkV P w K mg base 2 "Leaf" (ob 1) (sp_Leaf_init K ob)) (F : Fun K "_law_made" "_law_made" s__law_made f fd) : FnOk P w K mg base CX0 4 f fd ["_law_told"] (sp__law_made K ob) := by
  refine F.ok sc__law_made (fun vs H Q E h => ?_) (fun cdv A outer s H vs Q E hr h => ?_)
  · obtain ⟨r, l, es, rfl, _⟩ := h; rfl
  obtain ⟨r, l, es, rfl, td, le, q⟩ := h
  refine ⟨_, (@pss_cons _ _ _ _ _ (ps_if (pt_cmpR op_eq (pe_ix ix_tup (pv 0) pe_int (fun _ _ => rfl)) pe_int (nomark _)) (pss_one (ps_ret (pe_mk K_Leaf (k := 3) hr (by decide) rfl (pa_c (pe_callTy call_list_of rfl (Z.list) bo_list (pa_c (pe_ix ix_tup (pv 0) pe_int (fun _ _ => rfl)) pa_nil)) pa_nil)))) pss_nil)
      (pss_one (ps_ret (pe_mk K_Twig (k := 3) hr (by decide) rfl (pa_c (pe_ix ix_tup (pv 0) pe_int (fun _ _ => rfl)) (pa_c (pe_callTy call_list_of rfl (Z.list) bo_list (pa_c (pe_ix ix_tup (pv 0) pe_int (fun _ _ => rfl)) pa_nil)) pa_nil)))))), ?_⟩
  refine rd_start (σ := [some (.ref r)]) rfl ?_
  walk_at "rd"
  obtain ⟨_, x, z, e, ht, t1, t2⟩ := td.pair_of
  cases e
  obtain ⟨_, rfl⟩ := t1.flat
  obtain ⟨m, e', xs, em, rfl, he, re⟩ := t2.tup
  obtain rfl : m = 6 := by omega
  have lx : xs.length ≤ 900 := by have := Paired.length re; omega
  have sH : ∀ {ls x dx : Addr} {o u : HO}, H ls = none → upd H ls (.lst xs) x = none → upd H ls (.lst xs) dx = none → Same H (upd (upd (upd H ls (.lst xs)) dx u) x o) := fun h0 h1 h2 => (same_upd h0 _).trans (same_mk h1 h2 (Same.refl _))
  have no : ∀ {ls x : Addr}, upd H ls (.lst xs) x = none → H x = none := fun {ls x} h => by
    by_cases z : x = ls
    · rw [z, upd_same] at h; cases h
    · rw [upd_ne z] at h; exact h
  refine ⟨_, SqT.of ht, .int l, rfl, rfl, ite2 (fun h => ?_) fun h => ?_⟩
  · have h : l = 0 := by injection h
    subst h
    unfold tMake
    walk_at "rd"
    refine ⟨_, SqT.of ht, .ref e', rfl, e', rfl, xs, .inr (SqT.of he), fun ls hls x dx hx hdx hne => ⟨x, dx, ls, false, xs, es, rfl, upd_same, ?_, TDs.sameT re (sH hls hx hdx).t, lx, fun dx' fs H' s' pg => ⟨rfl, q x H' ?_ (no hx) pg⟩⟩⟩
    · exact same_mk hx hdx (Same.refl _) _ _ upd_same
    · rw [upd_upd] at s'; exact (same_upd hls _).trans (same_mk hx hdx s')
  · have h : l ≠ 0 := fun z => h (by rw [z])
    unfold tMake
    walk_at "rd"
    refine ⟨_, SqT.of ht, .int l, rfl, _, SqT.of ht, .ref e', rfl, e', rfl, xs, .inr (SqT.of he), fun ls hls x dx hx hdx hne => ⟨x, dx, l, ls, false, xs, es, rfl, h, upd_same, ?_, TDs.sameT re (sH hls hx hdx).t, lx, fun dx' fs H' s' pg => ⟨rfl, q x H' ?_ (no hx) pg⟩⟩⟩
    · exact same_mk hx hdx (Same.refl _) _ _ upd_same
    · rw [upd_upd] at s'; exact (same_upd hls _).trans (same_mk hx hdx s')
def sp__law_content (_ : PySem.W.Frag) : Sp := fun vs H Q _ => ∃ c : Int, vs = [.int c] ∧ ∀ r l es H', Same H H' → TD H' 8 (tdOf l es) (.ref r) → PgSh (tdOf l es) → es.length ≤ 3 → Q (.ref r) H'
seal PE PT PW PA PS PSs PI PG PIfs PGs PO in
theorem ok__law_content {P : Program} {w : World} {K : PySem.W.Frag} {mg : Str → Option Value} {base : Heap} {CT : Addr} {cs : Nat → Addr} {ob : Nat → Addr} {f : Addr} {fd : FuncData} (Z : Zs mg) (T : Tx K mg CT cs ob) (F : Fun K "_law_content" "_law_content" s__law_content f fd) : FnOk P w K mg base CX0 1 f fd ["_law_cell"] (sp__law_content K) := by
  refine F.ok sc__law_content (fun vs H Q E h => ?_) (fun cdv A outer s H vs Q E hr h => ?_)
  · obtain ⟨c, rfl, _⟩ := h; rfl
  obtain ⟨c, rfl, q⟩ := h
  refine ⟨_, (@pss_cons _ _ _ _ _ (ps_set (i := 0) sc__law_content.nd rfl (Or.inr rfl) (pe_op op_mod (pv 0) (pe_op op_pow pe_int pe_int)))
      (@pss_cons _ _ _ _ _ (ps_if (pt_cmpR op_gt (pe_op op_mod (pv 0) pe_int) pe_int (nomark _)) (pss_one (ps_set (i := 0) sc__law_content.nd rfl (Or.inr rfl) (pe_op op_mod (pv 0) pe_int))) pss_nil)
      (@pss_cons _ _ _ _ _ (ps_set (i := 1) sc__law_content.nd rfl (Or.inl rfl) (pe_op op_add pe_int (pe_op op_mod (pe_op op_fdiv (pv 0) pe_int) pe_int)))
      (@pss_cons _ _ _ _ _ (ps_set (i := 2) sc__law_content.nd rfl (Or.inr rfl) (pe_op op_sub (pe_op op_fdiv (pv 0) pe_int) pe_int))
      (@pss_cons _ _ _ _ _ (ps_set (i := 3) sc__law_content.nd rfl (Or.inr rfl) (pe_op op_mod (pe_op op_fdiv (pv 0) pe_int) pe_int))
      (@pss_cons _ _ _ _ _ (ps_if (pt_cmpR op_eq (pe_op op_mod (pv 0) pe_int) pe_int (nomark _)) (pss_one (ps_ret (pe_tup (pa_c pe_int (pa_c (pe_callTy call_tuple_of rfl (Z.tuple) bo_tuple (pa_c (pe_lcomp ["_law_cell", "_law_many", "_law_start", "_law_more"] rfl (blkOk (N := ["_law_cell", "_law_many", "_law_start", "_law_more"]) (dsc := defScope s__law_content) rfl rfl (by decide +kernel)) (pi_range1 rfl (Z.range) (pa_c (pv 1) pa_nil)) (fun _ _ _ _ _ => pif_nil) (fun _ _ _ _ _ => (pe_tup (pa_c (pe_op op_add (pv 3) (pv 0)) (pa_c (pe_tup (pa_c (pe_tup (pa_c pe_str (pa_c (pe_op op_add (pe_op op_mulB (pv 3) (pv 0)) (pv 4)) pa_nil))) pa_nil)) pa_nil))))) pa_nil)) pa_nil))))) pss_nil)
      (pss_one (ps_ret (pe_tup (pa_c (pe_op op_add pe_int (pe_op op_mod (pe_op op_fdiv (pv 0) pe_int) pe_int)) (pa_c (pe_callTy call_tuple_of rfl (Z.tuple) bo_tuple (pa_c (pe_lcomp ["_law_cell", "_law_many", "_law_start", "_law_more"] rfl (blkOk (N := ["_law_cell", "_law_many", "_law_start", "_law_more"]) (dsc := defScope s__law_content) rfl rfl (by decide +kernel)) (pi_range1 rfl (Z.range) (pa_c (pv 1) pa_nil)) (fun _ _ _ _ _ => pif_nil) (fun _ _ _ _ _ => (pe_tup (pa_c (pe_op op_add (pv 3) (pv 0)) (pa_c (pe_op op_add (pe_op op_add (pe_op op_fdiv (pv 1) pe_int) (pv 0)) (pv 4)) pa_nil))))) pa_nil)) pa_nil))))))))))), ?_⟩
  refine rd_start (σ := [some (.int c), none, none, none]) rfl ?_
  walk_at "rd"
  have fin : ∀ (l0 : Int) (H2 : Hp) (xs : List V), Same H H2 → xs.length ≤ 3 → 0 < xs.length → (∀ x ∈ xs, ∃ d, TD H2 6 d x ∧ ∃ k r, d = Dt.t (.v (.int k) :: r)) → ∀ l p, H2 l = none → upd H2 l (.tup xs) p = none → Q (.ref p) (upd (upd H2 l (.tup xs)) p (.tup [.int l0, .ref l])) := by
    intro l0 H2 xs s2 l3 lp hx l p hl hp
    obtain ⟨ds, rd, pd⟩ := TDs.of hx
    have ld := Paired.length rd
    have s3 : Same H2 (upd (upd H2 l (.tup xs)) p (.tup [.int l0, .ref l])) := (same_upd hl _).trans (same_upd hp _)
    refine q p l0 ds _ (s2.trans s3) (TD.pair upd_same (.ofV rfl) (TD.ofT (same_upd hp _ _ _ upd_same) (TDs.sameT rd s3.t))) ?_ (by omega)
    match ds, pd, ld with
    | [], _, ld => simp at ld; omega
    | d :: r, pd, ld =>
      obtain ⟨k, r', rfl⟩ := pd d List.mem_cons_self
      exact ⟨l0, .int k, r', r, rfl, rfl, by simp at ld; omega⟩
  refine ⟨by walk_at "side", by decide, ite2 (fun _ => ?_) fun _ => ?_⟩
  · have h0 : 0 ≤ c % 10 ^ 20 % 24 ∧ c % 10 ^ 20 % 24 < 10 ^ 20 := by omega
    generalize c % 10 ^ 20 % 24 = c' at h0
    obtain ⟨h0, h1⟩ := h0
    refine ⟨by walk_at "side", by walk_at "side", by walk_at "side", ite2 (fun _ => ⟨by omega, by omega, ?_⟩) fun _ => ⟨by walk_at "side", by omega, by omega, ?_⟩⟩
    · refine lcR_rangeT (fun H i v => ∃ k r, TD H 6 (.t (.v (.int k) :: r)) v) (fun H H' i v s ⟨k, r, h⟩ => ⟨k, r, TD.sameT s 6 h⟩) (small_le (by omega)) (fun i H3 R hi s3 hR => ?_) fun e H2 xs he0 s2 he le pe => ?_
      · walk_at "rd"
        exact ⟨by walk_at "side", two_ok, fun p hp => ⟨show 1 ≤ sizeLine by decide, fun p1 hp1 => ⟨two_ok, fun p2 hp2 => hR _ _ ⟨_, _, TD.pair upd_same (.ofV rfl) (TD.ofT (n := 4) (same_upd hp2 _ _ _ upd_same) (.cons (TD.pair (((same_upd hp1 _).trans (same_upd hp2 _)) _ _ upd_same) (.ofV rfl) (.ofV rfl)) .nil))⟩ ((same_upd hp _).trans ((same_upd hp1 _).trans (same_upd hp2 _)))⟩⟩⟩
      · exact ⟨e, rfl, xs, .inl ⟨SqL.of he, fun l hl => ⟨two_ok, fun p hp => fin 0 H2 xs s2 (by omega) (by omega) (fun x hx => by
          obtain ⟨j, hj⟩ := List.mem_iff_getElem?.mp hx
          obtain ⟨k, r, h⟩ := pe j x hj
          exact ⟨_, h, k, r, rfl⟩) l p hl hp⟩⟩⟩
    · refine lcR_rangeT (fun H i v => ∃ k r, TD H 6 (.t (.v (.int k) :: r)) v) (fun H H' i v s ⟨k, r, h⟩ => ⟨k, r, TD.sameT s 6 h⟩) (small_le (by omega)) (fun i H3 R hi s3 hR => ?_) fun e H2 xs he0 s2 he le pe => ?_
      · walk_at "rd"
        exact ⟨by walk_at "side", two_ok, fun p hp => hR _ _ ⟨_, _, TD.pair upd_same (.ofV rfl) (.ofV rfl)⟩ (same_upd hp _)⟩
      · exact ⟨e, rfl, xs, .inl ⟨SqL.of he, fun l hl => ⟨two_ok, fun p hp => fin _ H2 xs s2 (by omega) (by omega) (fun x hx => by
          obtain ⟨j, hj⟩ := List.mem_iff_getElem?.mp hx
          obtain ⟨k, r, h⟩ := pe j x hj
          exact ⟨_, h, k, r, rfl⟩) l p hl hp⟩⟩⟩
  · have h0 : 0 ≤ c % 10 ^ 20 ∧ c % 10 ^ 20 < 10 ^ 20 := by omega
    generalize c % 10 ^ 20 = c' at h0
    obtain ⟨h0, h1⟩ := h0
    refine ⟨by walk_at "side", by walk_at "side", by walk_at "side", ite2 (fun _ => ⟨by omega, by omega, ?_⟩) fun _ => ⟨by walk_at "side", by omega, by omega, ?_⟩⟩
    · refine lcR_rangeT (fun H i v => ∃ k r, TD H 6 (.t (.v (.int k) :: r)) v) (fun H H' i v s ⟨k, r, h⟩ => ⟨k, r, TD.sameT s 6 h⟩) (small_le (by omega)) (fun i H3 R hi s3 hR => ?_) fun e H2 xs he0 s2 he le pe => ?_
      · walk_at "rd"
        exact ⟨by walk_at "side", two_ok, fun p hp => ⟨show 1 ≤ sizeLine by decide, fun p1 hp1 => ⟨two_ok, fun p2 hp2 => hR _ _ ⟨_, _, TD.pair upd_same (.ofV rfl) (TD.ofT (n := 4) (same_upd hp2 _ _ _ upd_same) (.cons (TD.pair (((same_upd hp1 _).trans (same_upd hp2 _)) _ _ upd_same) (.ofV rfl) (.ofV rfl)) .nil))⟩ ((same_upd hp _).trans ((same_upd hp1 _).trans (same_upd hp2 _)))⟩⟩⟩
      · exact ⟨e, rfl, xs, .inl ⟨SqL.of he, fun l hl => ⟨two_ok, fun p hp => fin 0 H2 xs s2 (by omega) (by omega) (fun x hx => by
          obtain ⟨j, hj⟩ := List.mem_iff_getElem?.mp hx
          obtain ⟨k, r, h⟩ := pe j x hj
          exact ⟨_, h, k, r, rfl⟩) l p hl hp⟩⟩⟩
    · refine lcR_rangeT (fun H i v => ∃ k r, TD H 6 (.t (.v (.int k) :: r)) v) (fun H H' i v s ⟨k, r, h⟩ => ⟨k, r, TD.sameT s 6 h⟩) (small_le (by omega)) (fun i H3 R hi s3 hR => ?_) fun e H2 xs he0 s2 he le pe => ?_
      · walk_at "rd"
        exact ⟨by walk_at "side", two_ok, fun p hp => hR _ _ ⟨_, _, TD.pair upd_same (.ofV rfl) (.ofV rfl)⟩ (same_upd hp _)⟩
      · exact ⟨e, rfl, xs, .inl ⟨SqL.of he, fun l hl => ⟨two_ok, fun p hp => fin _ H2 xs s2 (by omega) (by omega) (fun x hx => by
          obtain ⟨j, hj⟩ := List.mem_iff_getElem?.mp hx
          obtain ⟨k, r, h⟩ := pe j x hj
          exact ⟨_, h, k, r, rfl⟩) l p hl hp⟩⟩⟩
--@SPLIT
theorem rep_flat {K : PySem.W.Frag} {H : Hp} {a : Addr} {xs : List V} (h : H a = some (.tup xs)) (f : ∀ x ∈ xs, flatV x = true) : Rep K H 1 (.t (xs.map Dt.v)) (.ref a) := .t (SqT.of h) (by simp) fun i d x h1 h2 => by
  rw [List.getElem?_map, h2] at h1
  cases h1
  exact .v (f x (List.mem_of_getElem? h2))
def sp__law_refused (P : Program) (w : World) (cs ob : Nat → Addr) : Sp := fun vs H Q _ => ∃ p d1 d2 st c way n, vs = [.ref p, .int way, .int n] ∧ StAt P w ob H p d1 d2 st c ∧ (∀ x ∈ st, x.1 ≠ n) ∧ ∀ H', Same H H' → Q (.bl true) H'
seal PE PT PW PA PS PSs PI PG PIfs PGs PO in
theorem ok__law_refused {P : Program} {w : World} {K : PySem.W.Frag} {mg : Str → Option Value} {base : Heap} {CT : Addr} {cs : Nat → Addr} {ob : Nat → Addr} {f : Addr} {fd : FuncData} (Z : Zs mg) (T : Tx K mg CT cs ob) (M_Pages_page : MeV P w K mg base 5 (ob 3) "page" (sp_Pages_page P w cs ob)) (M_Pages_card : MeV P w K mg base 4 (ob 3) "card" (sp_Pages_card P w cs ob)) (M_Pages_drop : MeV P w K mg base 4 (ob 3) "drop" (sp_Pages_drop P w cs ob)) (F : Fun K "_law_refused" "_law_refused" s__law_refused f fd) : FnOk P w K mg base CX0 6 f fd ["_law_store", "_law_way", "_law_number"] (sp__law_refused P w cs ob) := by
  refine F.ok sc__law_refused (fun vs H Q E h => ?_) (fun cdv A outer s H vs Q E hr h => ?_)
  · obtain ⟨p, d1, d2, st, c, way, n, rfl, _⟩ := h; rfl
  obtain ⟨p, d1, d2, st, c, way, n, rfl, hS, hn, q⟩ := h
  refine ⟨_, (@pss_cons _ _ _ _ _ (ps_set (i := 3) sc__law_refused.nd rfl (Or.inl rfl) pe_non)
      (@pss_cons _ _ _ _ _ (ps_tryX (i := 4) (ps1_if (pt_cmpR op_eq (pv 1) pe_int (nomark _)) (ps1_expr (pe1_methV (k := 5) (pv 0) hr rfl (pa_c (pv 2) pa_nil))) (ps1_if (pt_cmpR op_eq (pv 1) pe_int (nomark _)) (ps1_expr (pe1_methV (k := 5) (pv 0) hr rfl (pa_c (pv 2) pa_nil))) (ps1_expr (pe1_methV (k := 5) (pv 0) hr rfl (pa_c (pv 2) pa_nil))))) rfl rfl rfl rfl T.mg_NoPage (T.cl 0 (by decide)) sc__law_refused.nd rfl rfl (fun ea ok => (pss_one (ps_set (i := 3) sc__law_refused.nd rfl (Or.inl rfl) (pe_tup (pa_c (pe_xfldH CT (pv 4) rfl) (pa_c (pe_callB (call_isXH CT) rfl (Z.isinstance) bo_isinstance (pa_c (pv 4) (pa_c (pe_gfn T.top.mg_ rfl) pa_nil))) (pa_c (pe_callB (call_isXH CT) rfl (Z.isinstance) bo_isinstance (pa_c (pv 4) (pa_c (pe_bltn rfl (Z.ValueError) bo_ValueError (v := .ty "ValueError") rfl) pa_nil))) (pa_c (pe_callB (call_isXH CT) rfl (Z.isinstance) bo_isinstance (pa_c (pv 4) (pa_c (pe_gfn T.mg_NoMake rfl) pa_nil))) pa_nil)))))))))
      (pss_one (ps_ret (pe_cmpR (op_eqD (hr.units)) (pv 3) (pe_tup (pa_c (pv 2) (pa_c pe_bl (pa_c pe_bl (pa_c pe_bl pa_nil))))) (nomark _)))))), ?_⟩
  refine rd_start (σ := [some (.ref p), some (.int way), some (.int n), none, none]) rfl ?_
  walk_at "rd"
  obtain ⟨dx, ho⟩ := hS.obj
  have cc := T.ob_ 3 (by decide)
  have chain : ∀ {d ea : Addr} {σ : St} {R : V → V → V → V → Hp → Prop}, H d = none → upd H d (xD d [("number", .int n)]) ea = none → σ[4]? = some (some (.ref ea)) → R (.int n) (.bl true) (.bl true) (.bl false) (upd (upd H d (xD d [("number", .int n)])) ea (xC ea (cs 0) (some d))) →
      tXF K CT (tVar 4) "number" σ (upd (upd H d (xD d [("number", .int n)])) ea (xC ea (cs 0) (some d))) fun x H1 => rIsX K CT [.ref ea, .ref CT] H1 fun x1 H1 => rIsX K CT [.ref ea, .ty "ValueError"] H1 fun x2 H1 => rIsX K CT [.ref ea, .ref (cs 1)] H1 fun x3 H1 => R x x1 x2 x3 H1 := by
    intro d ea σ R hd hea hs hR
    have hne : d ≠ ea := fun z => by rw [← z, upd_same] at hea; cases hea
    have xa : XAt (upd (upd H d (xD d [("number", .int n)])) ea (xC ea (cs 0) (some d))) ea (cs 0) [("number", .int n)] := .inr ⟨d, upd_same, by rw [upd_ne hne]; exact upd_same⟩
    have xc := T.cl 0 (by decide)
    exact ⟨_, hs, ea, cs 0, _, _, rfl, xa, xc, T.no 0 (by decide) _ (by decide), rfl, ea, cs 0, _, .ref CT, .ref CT, _, rfl, rfl, xa, xc, kit_up xc T.top.cl, ea, cs 0, _, .ty "ValueError", .type "ValueError", _, rfl, rfl, xa, xc, T.tv 0 (by decide), ea, cs 0, _, .ref (cs 1), .ref (cs 1), _, rfl, rfl, xa, xc, T.tab 0 1 (by decide) (by decide), hR⟩
  have four : ∀ {a b c d : V}, [a, b, c, d].length ≤ sizeLine := show 4 ≤ sizeLine by decide
  have fl : ∀ x ∈ [V.int n, .bl true, .bl true, .bl false], flatV x = true := by simp [flatV]
  have last : ∀ {d ea p1 p2 : Addr}, H d = none → upd H d (xD d [("number", .int n)]) ea = none → upd (upd H d (xD d [("number", .int n)])) ea (xC ea (cs 0) (some d)) p1 = none → upd (upd (upd H d (xD d [("number", .int n)])) ea (xC ea (cs 0) (some d))) p1 (.tup [.int n, .bl true, .bl true, .bl false]) p2 = none →
      rD K false (.ref p1) (.ref p2) (upd (upd (upd (upd H d (xD d [("number", .int n)])) ea (xC ea (cs 0) (some d))) p1 (.tup [.int n, .bl true, .bl true, .bl false])) p2 (.tup [.int n, .bl true, .bl true, .bl false])) Q := fun h1 h2 h3 h4 =>
    rD_same (n := 1) (by decide) (rep_flat (same_upd h4 _ _ _ upd_same) fl) (rep_flat upd_same fl) (q _ ((same_upd h1 _).trans ((same_upd h2 _).trans ((same_upd h3 _).trans (same_upd h4 _)))))
  refine ite2 (fun _ => ?_) fun _ => ite2 (fun _ => ?_) fun _ => ?_
  · refine rd_methV rfl ho rfl cc.cl (M_Pages_page.mono (by decide)) ⟨_, rfl, ⟨p, d1, d2, st, c, n, rfl, hS, fun l es t hm => absurd rfl (hn _ hm), fun hx d hd => ⟨rfl, fun ea hea => chain hd hea rfl ⟨four, fun p1 hp1 => ?_⟩⟩⟩⟩
    simp only [Ends.gone]
    walk_at "rd"
    exact ⟨four, fun p2 hp2 => last hd hea hp1 hp2⟩
  · refine rd_methV rfl ho rfl cc.cl (M_Pages_card.mono (by decide)) ⟨_, rfl, ⟨p, d1, d2, st, c, n, rfl, hS, fun l k r es t hm => absurd rfl (hn _ hm), fun hx d hd => ⟨rfl, fun ea hea => chain hd hea rfl ⟨four, fun p1 hp1 => ?_⟩⟩⟩⟩
    simp only [Ends.gone]
    walk_at "rd"
    exact ⟨four, fun p2 hp2 => last hd hea hp1 hp2⟩
  · refine rd_methV rfl ho rfl cc.cl (M_Pages_drop.mono (by decide)) ⟨_, rfl, ⟨p, d1, d2, st, c, n, rfl, hS, fun ⟨x, hm, e⟩ => absurd e (hn _ hm), fun hx d hd => ⟨rfl, fun ea hea => chain hd hea rfl ⟨four, fun p1 hp1 => ?_⟩⟩⟩⟩
    simp only [Ends.gone]
    walk_at "rd"
    exact ⟨four, fun p2 hp2 => last hd hea hp1 hp2⟩
def sp__law_page_as (P : Program) (w : World) (cs ob : Nat → Addr) : Sp := fun vs H Q _ => ∃ p d1 d2 st c n d t r, vs = [.ref p, .int n, .ref r] ∧ StAt P w ob H p d1 d2 st c ∧ (n, d, t) ∈ st ∧ TD H 8 d (.ref r) ∧ ∀ H', Same H H' → Q (.bl true) H'
seal PE PT PW PA PS PSs PI PG PIfs PGs PO in
theorem ok__law_page_as {P : Program} {w : World} {K : PySem.W.Frag} {mg : Str → Option Value} {base : Heap} {CT : Addr} {cs : Nat → Addr} {ob : Nat → Addr} {f : Addr} {fd : FuncData} (Z : Zs mg) (T : Tx K mg CT cs ob) (M_Pages_page : MeV P w K mg base 5 (ob 3) "page" (sp_Pages_page P w cs ob)) (M_Pages_card : MeV P w K mg base 4 (ob 3) "card" (sp_Pages_card P w cs ob)) (M_Page_told : MeV P w K mg base 1 (ob 0) "told" (sp_Page_told K ob)) (M_Leaf_told : MeV P w K mg base 1 (ob 1) "told" (sp_Page_told K ob)) (M_Twig_told : MeV P w K mg base 1 (ob 2) "told" (sp_Page_told K ob)) (F : Fun K "_law_page_as" "_law_page_as" s__law_page_as f fd) : FnOk P w K mg base CX0 6 f fd ["_law_store", "_law_number", "_law_told"] (sp__law_page_as P w cs ob) := by
  refine F.ok sc__law_page_as (fun vs H Q E h => ?_) (fun cdv A outer s H vs Q E hr h => ?_)
  · obtain ⟨p, d1, d2, st, c, n, d, t, r, rfl, _⟩ := h; rfl
  obtain ⟨p, d1, d2, st, c, n, d, t, r, rfl, hS, hm, td, q⟩ := h
  refine ⟨_, (@pss_cons _ _ _ _ _ (ps_set (i := 3) sc__law_page_as.nd rfl (Or.inl rfl) (PE1.pe (pe1_methV (k := 5) (pv 0) hr rfl (pa_c (pv 1) pa_nil)) throwsN))
      (@pss_cons _ _ _ _ _ (ps_set (i := 4) sc__law_page_as.nd rfl (Or.inl rfl) (PE1.pe (pe1_methV (k := 5) (pv 0) hr rfl (pa_c (pv 1) pa_nil)) throwsN))
      (@pss_cons _ _ _ _ _ (ps_if (PW.pt (pw_or (pt_not (pt_val (pe_callB call_isOT rfl (Z.isinstance) bo_isinstance (pa_c (pv 3) (pa_c (pe_tup (pa_c (pe_gfn T.mg_Leaf rfl) (pa_c (pe_gfn T.mg_Twig rfl) pa_nil))) pa_nil))) (fun _ => rfl))) (pw_or (pt_cmpR (op_neD (hr.units)) (PE1.pe (pe1_methV0 (k := 5) (pv 3) hr rfl) throwsN) (pv 2) (nomark _)) (pw_or1 (pt_cmpR op_ne (pe_callB call_isinst rfl (Z.isinstance) bo_isinstance (pa_c (pv 3) (pa_c (pe_gfn T.mg_Leaf rfl) pa_nil))) (pe_cmpR op_eq (pe_ix ix_tup (pv 2) pe_int (fun _ _ => rfl)) pe_int (nomark _)) (nomark _)))))) (pss_one (ps_ret pe_bl)) pss_nil)
      (pss_one (ps_ret (pe_and (pe_callB call_isinst rfl (Z.isinstance) bo_isinstance (pa_c (pv 4) (pa_c (pe_bltn rfl (Z.tuple) bo_tuple (v := .ty "tuple") rfl) pa_nil))) (pe_one (pe_cmpR (op_eqD (hr.units)) (pv 4) (pe_tup (pa_c (pe_ix ix_tup (pv 2) pe_int (fun _ _ => rfl)) (pa_c (pe_ix ix_tup (pe_ix ix_tup (pe_ix ix_tup (pv 2) pe_int (fun _ _ => rfl)) pe_int (fun _ _ => rfl)) pe_int (fun _ _ => rfl)) pa_nil))) (nomark _))))))))), ?_⟩
  refine rd_start (σ := [some (.ref p), some (.int n), some (.ref r), none, none]) rfl ?_
  walk_at "rd"
  obtain ⟨dx, ho⟩ := hS.obj
  have cc := T.ob_ 3 (by decide)
  obtain ⟨l, k, rr, es, ed, hk, le⟩ := hS.sh _ hm
  dsimp only at ed
  subst ed
  refine rd_methV rfl ho rfl cc.cl (M_Pages_page.mono (by decide)) ⟨_, rfl, p, d1, d2, st, c, n, rfl, hS, fun l' es' t' hm' a H1 s1 ha pg => ?_, fun hx => absurd rfl (hx _ hm)⟩
  obtain ⟨el, ee⟩ := tdOf_inj (hS.fun_ hm hm').1
  subst el ee
  refine rd_methV rfl (s1 _ _ ho) rfl cc.cl (M_Pages_card.mono (by decide)) ⟨_, rfl, p, d1, d2, st, c, n, rfl, hS.same s1, fun l2 k2 r2 es2 t2 hm2 b H2 s2 hb tb => ?_, fun hx => absurd rfl (hx _ hm)⟩
  obtain ⟨el, ee⟩ := tdOf_inj (hS.fun_ hm hm2).1
  injection ee with ee1 ee2
  injection ee1 with ee1
  injection ee1 with ek er
  injection ek with ek
  subst el ek er ee2
  refine ⟨two_ok, fun p1 hp1 => ?_⟩
  have s3 := s2.trans (same_upd hp1 (.tup [.ref (ob 1), .ref (ob 2)]))
  have g1 : upd H2 p1 (.tup [.ref (ob 1), .ref (ob 2)]) p1 = some (.tup ([ob 1, ob 2].map V.ref)) := upd_same
  have tb3 := tb.same (same_upd hp1 (.tup [.ref (ob 1), .ref (ob 2)]))
  generalize upd H2 p1 (.tup [.ref (ob 1), .ref (ob 2)]) = H3 at s3 g1 tb3 ⊢
  have s13 := s1.trans s3
  have pg3 := pg.same s3
  obtain ⟨tw, dxa, t0, etw, hpa, ht⟩ := id pg3
  have Mt : MeV P w K mg base 1 (ob (if tw = true then 2 else 1)) "told" (sp_Page_told K ob) := by cases tw with | true => exact M_Twig_told | false => exact M_Leaf_told
  refine ⟨a, _, dxa, _, _, p1, true, [ob 1, ob 2], rfl, hpa, T.ob_ _ ob12, g1, ?_, true, rfl, ?_⟩
  · cases tw with
    | true =>
      show PySem.W.kitAny K (.ref (ob 2)) [.ref (ob 1), .ref (ob 2)] = some true
      unfold PySem.W.kitAny
      rw [T.isa 2 1 (by decide) (by decide)]
      show PySem.W.kitAny K (.ref (ob 2)) [.ref (ob 2)] = some true
      unfold PySem.W.kitAny
      rw [T.isa 2 2 (by decide) (by decide)]; rfl
    | false =>
      show PySem.W.kitAny K (.ref (ob 1)) [.ref (ob 1), .ref (ob 2)] = some true
      unfold PySem.W.kitAny
      rw [T.isa 1 1 (by decide) (by decide)]; rfl
  rw [if_neg (by decide)]
  refine rd_methV0 rfl hpa (by cases tw <;> rfl) (T.ob_ _ ob12).cl (Mt.mono (by decide)) ⟨a, l, _, rfl, pg3, fun r4 H4 s4 hr4 t4 => ?_⟩
  have s14 := s13.trans s4
  have td4 := td.same s14
  refine rD_same (n := 8) (by decide) t4.rep td4.rep ⟨_, rfl, ?_⟩
  rw [if_neg (by decide)]
  refine isO_of (T.ob_ _ ob12) (s4 _ _ hpa) (T.isa _ 1 ob12 (by decide)) ?_
  obtain ⟨_, x, z, e, hr0, t1, tz⟩ := td4.pair_of
  cases e
  obtain ⟨_, rfl⟩ := t1.flat
  obtain ⟨m, e', xs, em, rfl, he, re⟩ := tz.tup
  cases re with
  | @cons _ x0 _ xs' r1 re' =>
  obtain ⟨m', b0, ys, em', rfl, hb0, rb⟩ := r1.tup
  cases rb with
  | @cons _ k0 _ ys' r5 rb' =>
  obtain ⟨_, rfl⟩ := r5.flat
  refine ⟨_, SqT.of hr0, .int l, rfl, rfl, rfl, ?_⟩
  rw [if_neg ?_]
  · obtain ⟨_, xb, zb, e, hb3, u1, u2⟩ := (tb3.same s4).pair_of
    cases e
    refine isI_of (.tup hb3) kit_tup_tup ⟨_, rfl, ?_⟩
    rw [if_pos rfl]
    refine ⟨_, SqT.of hr0, .int l, rfl, _, SqT.of hr0, .ref e', rfl, e', rfl, _, SqT.of he, .ref b0, at0' rfl, b0, rfl, _, SqT.of hb0, _, at0' rfl, two_ok, fun p5 hp5 => ?_⟩
    have s5 := same_upd hp5 (.tup [.int l, k0])
    exact rD_same (n := 1) (by decide) (tb3.same (s4.trans s5)).rep (TD.pair (n := 0) upd_same (.ofV rfl) (.ofV hk)).rep (q _ (s14.trans s5))
  · subst etw
    by_cases hl : l = 0
    · subst hl; decide
    · rw [show decide (l ≠ 0) = true from decide_eq_true hl, show decide (V.int l = V.int 0) = false from decide_eq_false (fun z => hl (by injection z))]
      decide
--@SPLIT
/-- what the law keeps of a store -/
structure AcAt (H : Hp) (acc ad : Addr) (ts : StL) (c : Int) : Prop where
  at_ : H acc = some (.lst [.ref ad, .int c])
  dict : H ad = some (.dK (ts.map numOf))
  td : ∀ x ∈ ts, TD H 8 x.2.1 (.ref x.2.2)
def dat (x : Int × Dt × Addr) : Int × Dt := (x.1, x.2.1)
structure PrAt (P : Program) (w : World) (ob : Nat → Addr) (H : Hp) (p d1 d2 acc ad : Addr) (st ts : StL) (c : Int) : Prop where
  s : StAt P w ob H p d1 d2 st c
  a : AcAt H acc ad ts c
  eq : ts.map dat = st.map dat
  ne : ad ≠ d1
theorem upd_id {H : Hp} {a : Addr} {o : HO} (h : H a = some o) : upd H a o = H := by
  funext b
  by_cases e : b = a
  · rw [e, upd_same]; exact h.symm
  · rw [upd_ne e]
section
variable {P : Program} {w : World} {ob : Nat → Addr} {H H' : Hp} {p d1 d2 acc ad : Addr} {st ts : StL} {c : Int}
theorem PrAt.nums (h : PrAt P w ob H p d1 d2 acc ad st ts c) : ts.map (·.1) = st.map (·.1) := by
  have := congrArg (List.map Prod.fst) h.eq
  rw [List.map_map, List.map_map] at this
  exact this
theorem PrAt.dats (h : PrAt P w ob H p d1 d2 acc ad st ts c) : ts.map (·.2.1) = st.map (·.2.1) := by
  have := congrArg (List.map Prod.snd) h.eq
  rw [List.map_map, List.map_map] at this
  exact this
theorem PrAt.to (h : PrAt P w ob H p d1 d2 acc ad st ts c) {n : Int} {d : Dt} {t : Addr} (hm : (n, d, t) ∈ st) : ∃ t', (n, d, t') ∈ ts := by
  have : (n, d) ∈ ts.map dat := by rw [h.eq]; exact List.mem_map.mpr ⟨_, hm, rfl⟩
  obtain ⟨⟨a, b, t'⟩, h1, h2⟩ := List.mem_map.mp this
  injection h2 with e1 e2
  exact ⟨t', by rw [← e1, ← e2]; exact h1⟩
theorem PrAt.of (h : PrAt P w ob H p d1 d2 acc ad st ts c) {n : Int} {d : Dt} {t : Addr} (hm : (n, d, t) ∈ ts) : ∃ t', (n, d, t') ∈ st := by
  have : (n, d) ∈ st.map dat := by rw [← h.eq]; exact List.mem_map.mpr ⟨_, hm, rfl⟩
  obtain ⟨⟨a, b, t'⟩, h1, h2⟩ := List.mem_map.mp this
  injection h2 with e1 e2
  exact ⟨t', by rw [← e1, ← e2]; exact h1⟩
theorem PrAt.nn (h : PrAt P w ob H p d1 d2 acc ad st ts c) : (ts.map (·.1)).Nodup := by rw [h.nums]; exact h.s.nn
theorem PrAt.nd (h : PrAt P w ob H p d1 d2 acc ad st ts c) : (ts.map (·.2.1)).Nodup := by rw [h.dats]; exact h.s.nd
theorem PrAt.len (h : PrAt P w ob H p d1 d2 acc ad st ts c) : ts.length = st.length := by have := congrArg List.length h.eq; rw [List.length_map, List.length_map] at this; exact this
theorem PrAt.get (h : PrAt P w ob H p d1 d2 acc ad st ts c) {x : Int × Dt × Addr} (hx : x ∈ ts) : valV (ts.map numOf) (.inl x.1) = some (.ref x.2.2) := by
  rw [valV_mapF]
  have : (fun y : Int × Dt × Addr => decide ((numOf y).1 = (Sum.inl x.1 : Key))) = fun y => decide (y.1 = x.1) := by
    funext y
    exact decide_eq_decide.mpr ⟨fun e => by injection e, fun e => by show Sum.inl _ = _; rw [e]⟩
  rw [this, find_key (fun y : Int × Dt × Addr => y.1) h.nn hx]; rfl
theorem PrAt.same (h : PrAt P w ob H p d1 d2 acc ad st ts c) (s : Same H H') : PrAt P w ob H' p d1 d2 acc ad st ts c :=
  ⟨h.s.same s, ⟨s _ _ h.a.at_, s _ _ h.a.dict, fun x hx => (h.a.td x hx).same s⟩, h.eq, h.ne⟩
end
noncomputable def dueOf (d : Dt) (c : Int) (ts : StL) : Int := match ts.find? (fun x => decide (x.2.1 = d)) with | some x => x.1 | none => c
theorem due_none {d : Dt} {c : Int} {ts : StL} (h : ∀ x ∈ ts, x.2.1 ≠ d) : dueOf d c ts = c := by
  unfold dueOf
  rw [find_no (fun y : Int × Dt × Addr => y.2.1) h]
theorem due_some {d : Dt} {c n : Int} {t : Addr} {ts : StL} (nd : (ts.map (·.2.1)).Nodup) (h : (n, d, t) ∈ ts) : dueOf d c ts = n := by
  unfold dueOf
  rw [find_key (fun y : Int × Dt × Addr => y.2.1) nd h]
theorem due_snoc {d : Dt} {c : Int} {ts : StL} {x : Int × Dt × Addr} (nd : ((ts ++ [x]).map (·.2.1)).Nodup) : dueOf d c (ts ++ [x]) = if decide (x.2.1 = d) = true then x.1 else dueOf d c ts := by
  by_cases e : x.2.1 = d
  · rw [decide_eq_true e, if_pos rfl]
    obtain ⟨n, d', t⟩ := x
    subst e
    exact due_some (t := t) nd (by simp)
  · rw [decide_eq_false e, if_neg (by decide)]
    unfold dueOf
    rw [List.find?_append]
    rw [show List.find? (fun x => decide (x.2.1 = d)) [x] = none by simp [e]]
    simp
def sp__law_kept (P : Program) (w : World) (ob : Nat → Addr) : Sp := fun vs H Q _ => ∃ p d1 d2 acc ad st ts c r l es, vs = [.ref p, .ref acc, .ref r] ∧ PrAt P w ob H p d1 d2 acc ad st ts c ∧ TD H 8 (tdOf l es) (.ref r) ∧ PgSh (tdOf l es) ∧ es.length ≤ 3 ∧ st.length < 900 ∧
  ∀ H' st' ts' c', SameX [p, d1, d2, acc, ad] H H' → PrAt P w ob H' p d1 d2 acc ad st' ts' c' → st'.length ≤ st.length + 1 → c ≤ c' → c' ≤ c + 1 → Q (.bl true) H'
seal PE PT PW PA PS PSs PI PG PIfs PGs PO in
theorem ok__law_kept {P : Program} {w : World} {K : PySem.W.Frag} {mg : Str → Option Value} {base : Heap} {CT : Addr} {cs : Nat → Addr} {ob : Nat → Addr} {f : Addr} {fd : FuncData} (Z : Zs mg) (T : Tx K mg CT cs ob) (G__law_made : Cal P w K mg base 4 "_law_made" ["_law_told"] (sp__law_made K ob)) (G__law_whole : Cal P w K mg base 1 "_law_whole" ["_law_found"] (sp__law_whole K)) (M_Pages_kept : MeV P w K mg base 2 (ob 3) "kept" (sp_Pages_kept P w ob)) (F : Fun K "_law_kept" "_law_kept" s__law_kept f fd) : FnOk P w K mg base CX0 5 f fd ["_law_store", "_law_account", "_law_told"] (sp__law_kept P w ob) := by
  refine F.ok sc__law_kept (fun vs H Q E h => ?_) (fun cdv A outer s H vs Q E hr h => ?_)
  · obtain ⟨p, d1, d2, acc, ad, st, ts, c, r, l, es, rfl, _⟩ := h; rfl
  obtain ⟨p, d1, d2, acc, ad, st, ts, c, r, l, es, rfl, hP, td, hsh, le, few, q⟩ := h
  refine ⟨_, (@pss_cons _ _ _ _ _ (ps_set (i := 3) sc__law_kept.nd rfl (Or.inl rfl) (pe_ix ix_list (pv 1) pe_int (fun _ _ => rfl)))
      (@pss_cons _ _ _ _ _ (ps_thaw (ps_for PassesOwn.never rfl (pi_dict (pe_ix ix_list (pv 1) pe_int (fun _ _ => rfl))) (pg_name (i := 4) sc__law_kept.nd rfl (Or.inl rfl)) (pss_one (ps_if (pt_cmpR (op_eqD (hr.units)) (pe_dget hr.u1 (pe_ix ix_list (pv 1) pe_int (fun _ _ => rfl)) (pv 4) (fun _ _ => rfl)) (pv 2) (nomark _)) (pss_one (ps_set (i := 3) sc__law_kept.nd rfl (Or.inl rfl) (pv 4))) pss_nil))))
      (@pss_cons _ _ _ _ _ (ps_set (i := 5) sc__law_kept.nd rfl (Or.inl rfl) (PE1.pe (pe1_methV (k := 4) (pv 0) hr rfl (pa_c (pe_cal G__law_made (k := 4) hr (by decide) rfl (pa_c (pv 2) pa_nil)) pa_nil)) throwsN))
      (@pss_cons _ _ _ _ _ (ps_if (PW.pt (pw_or (pt_not (pt_val (pe_cal G__law_whole (k := 4) hr (by decide) rfl (pa_c (pv 5) pa_nil)) (fun _ => rfl))) (pw_or1 (pt_cmpR op_ne (pv 5) (pv 3) (nomark _))))) (pss_one (ps_ret pe_bl)) pss_nil)
      (@pss_cons _ _ _ _ _ (ps_if (pt_cmpR op_eq (pv 3) (pe_ix ix_list (pv 1) pe_int (fun _ _ => rfl)) (nomark _)) (@pss_cons _ _ _ _ _ (ps_dput hr.u1 (pe_ix ix_list (pv 1) pe_int (fun _ _ => rfl)) (pv 3) (pv 2) rfl)
      (pss_one (ps_asg (pe_op op_add (pv 3) pe_int) (pg_sub (pv 1) pe_int set_list)))) pss_nil)
      (pss_one (ps_ret pe_bl))))))), ?_⟩
  refine rd_start (σ := [some (.ref p), some (.ref acc), some (.ref r), none, none, none]) rfl ?_
  walk_at "rd"
  have hA := hP.a
  have aa : acc ≠ ad := ne_of hA.at_ hA.dict (by intro z; cases z)
  obtain ⟨dx, ho⟩ := hP.s.obj
  have cc := T.ob_ 3 (by decide)
  refine ⟨_, SqL.of hA.at_, .int c, rfl, _, SqL.of hA.at_, .ref ad, rfl, ad, rfl, _, hA.dict, fun ob1 nf => ?_⟩
  have stf : SameT H (upd H ad (.frz ob1 (.dK (ts.map numOf)))) := fun b xs e => by rw [upd_ne (ne_of e hA.dict (by intro z; cases z))]; exact e
  refine foR_dict (fun i σ' H' => ∃ x4, σ' = [some (.ref p), some (.ref acc), some (.ref r), some (.int (dueOf (tdOf l es) c (ts.take i))), x4, none] ∧ H' = upd H ad (.frz ob1 (.dK (ts.map numOf)))) ⟨_, rfl, rfl⟩ (fun i σ' H' _ ⟨_, _, e⟩ => by rw [e]; exact upd_same) ?_ ?_
  · rintro i k v σ' H' hkv ⟨x4, rfl, rfl⟩
    rw [List.getElem?_map] at hkv
    obtain ⟨x, hx, ex⟩ := Option.map_eq_some_iff.mp hkv
    injection ex with ek ev
    subst ek ev
    have hmx := List.mem_of_getElem? hx
    have hst : dueOf (tdOf l es) c (ts.take (i + 1)) = if decide (x.2.1 = tdOf l es) = true then x.1 else dueOf (tdOf l es) c (ts.take i) := by
      rw [List.take_add_one, hx]
      refine due_snoc ?_
      have : (ts.take i ++ (some x).toList) = ts.take (i + 1) := by rw [List.take_add_one, hx]
      show ((ts.take i ++ (some x).toList).map (·.2.1)).Nodup
      rw [this]
      exact ((List.take_sublist _ _).map _).nodup hP.nd
    walk_at "rd"
    refine ⟨_, SqL.of (by rw [upd_ne aa]; exact hA.at_), .ref ad, rfl, ad, rfl, .ref x.2.2, .inl ⟨_, .inl x.1, .inr ⟨ob1, upd_same⟩, rfl, (hP.get hmx).symm⟩, ?_⟩
    refine rD_td (n := 8) (by decide) (TD.sameT stf 8 (hA.td x hmx)) (TD.sameT stf 8 td) ⟨_, rfl, ?_⟩
    refine ite2 (fun h => ?_) fun h => ?_
    · exact ⟨_, ⟨by rw [hst, if_pos h]; rfl, rfl⟩, rfl⟩
    · exact ⟨_, ⟨by rw [hst, if_neg h], rfl⟩, rfl⟩
  · rintro σ' H' ⟨x4, rfl, rfl⟩
    rw [List.length_map, List.take_length]
    refine ⟨ad, nf, ob1, _, upd_same, ?_⟩
    rw [upd_upd, upd_id hA.dict]
    refine rd_methV rfl ho rfl cc.cl (M_Pages_kept.mono (by decide)) ⟨_, rfl, r, l, es, rfl, td, by omega, fun a H1 s1 ha pg => ⟨p, d1, d2, st, c, a, l, es, rfl, hP.s.same s1, pg, hsh, by omega, fun n t hm H2 s2 => ?_, fun hx t H2 s2 hS2 => ?_⟩⟩
    · obtain ⟨t', hm'⟩ := hP.to hm
      rw [due_some hP.nd hm']
      refine ⟨_, rfl, n, rfl, true, rfl, ?_⟩
      rw [if_neg (by decide)]
      refine ⟨_, rfl, _, rfl, rfl, ?_⟩
      rw [if_neg (fun z => z rfl)]
      walk_at "rd"
      have s12 := s1.trans s2
      refine ⟨_, SqL.of (s12 _ _ hA.at_), .int c, rfl, rfl, ?_⟩
      rw [if_neg (fun z => by have := hP.s.lt _ hm; injection z with z; dsimp only at this; omega)]
      exact q H2 st ts c (s12.x _) (hP.same s12) (by omega) (by omega) (by omega)
    · have hx' : ∀ x ∈ ts, x.2.1 ≠ tdOf l es := fun x hm e => by
        obtain ⟨t', h⟩ := hP.of (n := x.1) (d := x.2.1) (t := x.2.2) hm
        exact hx _ h e
      rw [due_none hx']
      refine ⟨_, rfl, c, rfl, true, rfl, ?_⟩
      rw [if_neg (by decide)]
      refine ⟨_, rfl, _, rfl, rfl, ?_⟩
      rw [if_neg (fun z => z rfl)]
      walk_at "rd"
      have n1 : acc ∉ [p, d1, d2] := fun z => by
        simp only [List.mem_cons, List.not_mem_nil, or_false] at z
        rcases z with z | z | z
        · exact ne_of hA.at_ ho (by intro z; cases z) z
        · exact ne_of hA.at_ hP.s.num (by intro z; cases z) z
        · exact ne_of hA.at_ hP.s.tol (by intro z; cases z) z
      have n2 : ad ∉ [p, d1, d2] := fun z => by
        simp only [List.mem_cons, List.not_mem_nil, or_false] at z
        rcases z with z | z | z
        · exact ne_of hA.dict ho (by intro z; cases z) z
        · exact hP.ne z
        · exact ne_of hA.dict hP.s.tol (by intro z; cases z) z
      have at2 := s2 _ _ n1 (s1 _ _ hA.at_)
      have dict2 := s2 _ _ n2 (s1 _ _ hA.dict)
      have tt2 : SameT H H2 := s1.t.trans (sameT_st (hP.s.same s1) s2)
      have nc : ∀ x ∈ ts, x.1 ≠ c := fun x hm e => by
        obtain ⟨t', h⟩ := hP.of (n := x.1) (d := x.2.1) (t := x.2.2) hm
        have := hP.s.lt _ h
        dsimp only at this; omega
      refine ⟨_, SqL.of at2, .int c, rfl, rfl, ?_⟩
      rw [if_pos rfl]
      refine ⟨_, SqL.of at2, .ref ad, rfl, ad, rfl, _, DPut.k (k := .inl c) dict2 (small1000 (by rw [List.length_map, hP.len]; omega)), ?_⟩
      rw [putK_new _ (St_no nc)]
      simp only [gSub, tVar, tC, rSetL]
      refine ⟨_, rfl, acc, [.ref ad, .int c], 1, 1, rfl, rfl, by rw [upd_ne aa]; exact at2, rfl, ?_⟩
      show Q (.bl true) (upd (upd H2 ad (HO.dK (List.map numOf ts ++ [(Sum.inl c, V.ref r)]))) acc (.lst [.ref ad, .int (c + 1)]))
      have tt4 : SameT H2 (upd (upd H2 ad (HO.dK (List.map numOf ts ++ [(Sum.inl c, V.ref r)]))) acc (.lst [.ref ad, .int (c + 1)])) := fun b xs e => by
        rw [upd_ne (ne_of e at2 (by intro z; cases z)), upd_ne (ne_of e dict2 (by intro z; cases z))]; exact e
      have go : ∀ {b}, b ∈ [p, d1, d2] → upd (upd H2 ad (HO.dK (List.map numOf ts ++ [(Sum.inl c, V.ref r)]))) acc (.lst [.ref ad, .int (c + 1)]) b = H2 b := fun {b} hb => by
        rw [upd_ne (fun z => n1 (by rw [← z]; exact hb)), upd_ne (fun z => n2 (by rw [← z]; exact hb))]
      refine q _ (st ++ [(c, tdOf l es, t)]) (ts ++ [(c, tdOf l es, r)]) (c + 1) ((s1.x _).trans (((s2.mono (by simp)).upd (by simp)).upd (by simp))) ⟨hS2.keep tt4 (go (by simp)) (go (by simp)) (go (by simp)), ⟨upd_same, ?_, fun x hm => ?_⟩, ?_, hP.ne⟩ (by simp) (by omega) (by omega)
      · rw [upd_ne (Ne.symm aa), upd_same, List.map_append]; rfl
      · rcases List.mem_append.mp hm with h | h
        · exact TD.sameT (tt2.trans tt4) 8 (hA.td x h)
        · rw [List.mem_singleton.mp h]; exact TD.sameT (tt2.trans tt4) 8 td
      · rw [List.map_append, List.map_append, hP.eq]; rfl
--@SPLIT
section
variable {P : Program} {w : World} {ob : Nat → Addr} {H H1 H3 : Hp} {p d1 d2 acc ad : Addr} {st ts : StL} {c : Int}
theorem PrAt.n1 (h : PrAt P w ob H p d1 d2 acc ad st ts c) : acc ∉ [p, d1, d2] := fun z => by
  obtain ⟨dx, ho⟩ := h.s.obj
  simp only [List.mem_cons, List.not_mem_nil, or_false] at z
  rcases z with z | z | z
  · exact ne_of h.a.at_ ho (by intro z; cases z) z
  · exact ne_of h.a.at_ h.s.num (by intro z; cases z) z
  · exact ne_of h.a.at_ h.s.tol (by intro z; cases z) z
theorem PrAt.n2 (h : PrAt P w ob H p d1 d2 acc ad st ts c) : ad ∉ [p, d1, d2] := fun z => by
  obtain ⟨dx, ho⟩ := h.s.obj
  simp only [List.mem_cons, List.not_mem_nil, or_false] at z
  rcases z with z | z | z
  · exact ne_of h.a.dict ho (by intro z; cases z) z
  · exact h.ne z
  · exact ne_of h.a.dict h.s.tol (by intro z; cases z) z
theorem PrAt.aa (h : PrAt P w ob H p d1 d2 acc ad st ts c) : acc ≠ ad := ne_of h.a.at_ h.a.dict (by intro z; cases z)
theorem PrAt.stA (h : PrAt P w ob H p d1 d2 acc ad st ts c) {o : HO} : StAt P w ob (upd H ad o) p d1 d2 st c := by
  have go : ∀ {b}, b ∈ [p, d1, d2] → upd H ad o b = H b := fun {b} hb => upd_ne (fun z => h.n2 (by rw [← z]; exact hb))
  exact h.s.keep (fun b xs e => by rw [upd_ne (ne_of e h.a.dict (by intro z; cases z))]; exact e) (go (by simp)) (go (by simp)) (go (by simp))
theorem PrAt.stB (h : PrAt P w ob H p d1 d2 acc ad st ts c) {o : HO} : StAt P w ob (upd H acc o) p d1 d2 st c := by
  have go : ∀ {b}, b ∈ [p, d1, d2] → upd H acc o b = H b := fun {b} hb => upd_ne (fun z => h.n1 (by rw [← z]; exact hb))
  exact h.s.keep (fun b xs e => by rw [upd_ne (ne_of e h.a.at_ (by intro z; cases z))]; exact e) (go (by simp)) (go (by simp)) (go (by simp))
theorem PrAt.drop (h : PrAt P w ob H p d1 d2 acc ad st ts c) {n : Int} (sx : SameX [p, d1, d2] (upd H ad (.dK (dropK (ts.map numOf) (.inl n)))) H3) (hS : StAt P w ob H3 p d1 d2 (st.filter fun x => decide (x.1 ≠ n)) c) :
    PrAt P w ob H3 p d1 d2 acc ad (st.filter fun x => decide (x.1 ≠ n)) (ts.filter fun x => decide (x.1 ≠ n)) c ∧ SameX [p, d1, d2, acc, ad] H H3 := by
  have ta : SameT H (upd H ad (.dK (dropK (ts.map numOf) (.inl n)))) := fun b xs e => by rw [upd_ne (ne_of e h.a.dict (by intro z; cases z))]; exact e
  have tt := ta.trans (sameT_st h.stA sx)
  refine ⟨⟨hS, ⟨sx _ _ h.n1 (by rw [upd_ne h.aa]; exact h.a.at_), ?_, fun x hx => TD.sameT tt 8 (h.a.td x (List.mem_filter.mp hx).1)⟩, ?_, h.ne⟩, ((SameX.refl _ _).upd (by simp)).trans (sx.mono (by simp))⟩
  · rw [sx _ _ h.n2 upd_same, dropK_mapF]
    have : (fun y : Int × Dt × Addr => decide ((numOf y).1 ≠ (Sum.inl n : Key))) = fun y => decide (y.1 ≠ n) := by
      funext y
      exact decide_eq_decide.mpr ⟨fun h e => h (by show Sum.inl _ = _; rw [e]), fun h e => h (by injection e)⟩
    rw [this]
  · have e : ∀ l : StL, (l.filter fun x => decide (x.1 ≠ n)).map dat = (l.map dat).filter fun y => decide (y.1 ≠ n) := fun l => by rw [List.filter_map]; rfl
    rw [e, e, h.eq]
theorem PrAt.skip (h : PrAt P w ob H p d1 d2 acc ad st ts c) {m : Int} (sx : SameX [p] (upd H acc (.lst [.ref ad, .int m])) H3) (hS : StAt P w ob H3 p d1 d2 st m) :
    PrAt P w ob H3 p d1 d2 acc ad st ts m ∧ SameX [p, d1, d2, acc, ad] H H3 := by
  have ta : SameT H (upd H acc (.lst [.ref ad, .int m])) := fun b xs e => by rw [upd_ne (ne_of e h.a.at_ (by intro z; cases z))]; exact e
  have sx' : SameX [p, d1, d2] (upd H acc (.lst [.ref ad, .int m])) H3 := sx.mono (by simp)
  have tt := ta.trans (sameT_st h.stB sx')
  have np : ∀ {b}, b ∉ [p, d1, d2] → b ∉ [p] := fun hb z => hb (by rw [List.mem_singleton.mp z]; simp)
  exact ⟨⟨hS, ⟨sx _ _ (np h.n1) upd_same, sx _ _ (np h.n2) (by rw [upd_ne (Ne.symm h.aa)]; exact h.a.dict), fun x hx => TD.sameT tt 8 (h.a.td x hx)⟩, h.eq, h.ne⟩, ((SameX.refl _ _).upd (by simp)).trans (sx'.mono (by simp))⟩
end
theorem at_mem {α : Type} {l : List α} {k : Int} {v : α} (h : atI l k = some v) : v ∈ l := by
  unfold atI at h
  obtain ⟨j, _, h⟩ := Option.bind_eq_some_iff.mp h
  exact List.mem_of_getElem? h
theorem at_some {α : Type} {l : List α} {k : Int} (h0 : 0 ≤ k) (h1 : k < (l.length : Int)) : ∃ c, atI l k = some c := by
  have hk : k.toNat < l.length := by omega
  have ek : k = ((k.toNat : Nat) : Int) := by omega
  have h := atI_nat (xs := l) (j := k.toNat) (List.getElem?_eq_getElem hk)
  rw [← ek] at h
  exact ⟨_, h⟩
def sp__law_deed (P : Program) (w : World) (cs ob : Nat → Addr) : Sp := fun vs H Q _ => ∃ p d1 d2 acc ad st ts c cell, vs = [.ref p, .ref acc, .int cell] ∧ PrAt P w ob H p d1 d2 acc ad st ts c ∧ st.length < 900 ∧ 0 ≤ c ∧ c < 10 ^ 30 ∧
  ∀ H' st' ts' c', SameX [p, d1, d2, acc, ad] H H' → PrAt P w ob H' p d1 d2 acc ad st' ts' c' → st'.length ≤ st.length + 1 → c ≤ c' → (c' ≤ c + 5 ∨ c' ≤ 2 * 10 ^ 28) → Q (.bl true) H'
seal PE PT PW PA PS PSs PI PG PIfs PGs PO in
theorem ok__law_deed {P : Program} {w : World} {K : PySem.W.Frag} {mg : Str → Option Value} {base : Heap} {CT : Addr} {cs : Nat → Addr} {ob : Nat → Addr} {f : Addr} {fd : FuncData} (Z : Zs mg) (T : Tx K mg CT cs ob) (G__law_page_as : Cal P w K mg base 6 "_law_page_as" ["_law_store", "_law_number", "_law_told"] (sp__law_page_as P w cs ob)) (G__law_kept : Cal P w K mg base 5 "_law_kept" ["_law_store", "_law_account", "_law_told"] (sp__law_kept P w ob)) (G__law_refused : Cal P w K mg base 6 "_law_refused" ["_law_store", "_law_way", "_law_number"] (sp__law_refused P w cs ob)) (G__law_content : Cal P w K mg base 1 "_law_content" ["_law_cell"] (sp__law_content K)) (M_Pages_drop : MeV P w K mg base 4 (ob 3) "drop" (sp_Pages_drop P w cs ob)) (M_Pages_skip : MeV P w K mg base 1 (ob 3) "skip" (sp_Pages_skip P w ob)) (F : Fun K "_law_deed" "_law_deed" s__law_deed f fd) : FnOk P w K mg base CX0 7 f fd ["_law_store", "_law_account", "_law_cell"] (sp__law_deed P w cs ob) := by
  refine F.ok sc__law_deed (fun vs H Q E h => ?_) (fun cdv A outer s H vs Q E hr h => ?_)
  · obtain ⟨p, d1, d2, acc, ad, st, ts, c, cell, rfl, _⟩ := h; rfl
  obtain ⟨p, d1, d2, acc, ad, st, ts, c, cell, rfl, hP, few, hc0, hc1, q⟩ := h
  refine ⟨_, (@pss_cons _ _ _ _ _ (ps_set (i := 3) sc__law_deed.nd rfl (Or.inl rfl) (pe_op op_mod (pv 2) pe_int))
      (@pss_cons _ _ _ _ _ (ps_set (i := 4) sc__law_deed.nd rfl (Or.inl rfl) (pe_op op_sub (pe_op op_mod (pe_op op_fdiv (pv 2) pe_int) (pe_op op_add (pe_op op_mod (pe_ix ix_list (pv 1) pe_int (fun _ _ => rfl)) pe_int) pe_int)) pe_int))
      (@pss_cons _ _ _ _ _ (ps_if (pt_cmpR op_gt (pe_ix ix_list (pv 1) pe_int (fun _ _ => rfl)) pe_int (nomark _)) (pss_one (ps_set (i := 4) sc__law_deed.nd rfl (Or.inl rfl) (pe_op op_sub (pe_op op_add (pe_ix ix_list (pv 1) pe_int (fun _ _ => rfl)) pe_int) (pe_op op_mod (pe_op op_fdiv (pv 2) pe_int) pe_int)))) pss_nil)
      (@pss_cons _ _ _ _ _ (ps_set (i := 5) sc__law_deed.nd rfl (Or.inl rfl) (pe_callB (call_sortedD hr.hd) rfl (Z.sorted) bo_sorted (pa_c (pe_ix ix_list (pv 1) pe_int (fun _ _ => rfl)) pa_nil)))
      (@pss_cons _ _ _ _ _ (ps_if (PW.pt (pw_and (pt_cmpR op_eq (pe_op op_mod (pe_op op_fdiv (pv 2) pe_int) pe_int) pe_int (nomark _)) (pw_and1 (pt_cmpR op_gt (pe_callB call_len_seq rfl (Z.len) bo_len (pa_c (pv 5) pa_nil)) pe_int (nomark _))))) (pss_one (ps_set (i := 4) sc__law_deed.nd rfl (Or.inl rfl) (pe_ix ix_list (pv 5) (pe_op op_mod (pe_op op_fdiv (pv 2) pe_int) (pe_callB call_len_seq rfl (Z.len) bo_len (pa_c (pv 5) pa_nil))) (fun _ _ => rfl)))) pss_nil)
      (@pss_cons _ _ _ _ _ (ps_if (pt_cmpR op_lt (pv 3) pe_int (nomark _)) (pss_one (ps_ret (pe_cal G__law_kept (k := 6) hr (by decide) rfl (pa_c (pv 0) (pa_c (pv 1) (pa_c (pe_cal G__law_content (k := 6) hr (by decide) rfl (pa_c (pe_op op_fdiv (pv 2) pe_int) pa_nil)) pa_nil)))))) pss_nil)
      (@pss_cons _ _ _ _ _ (ps_if (pt_cmpR op_eq (pv 3) pe_int (nomark _)) (@pss_cons _ _ _ _ _ (ps_if (pt_cmp (pc_dnotin hr.u1 (pv 4) (pe_ix ix_list (pv 1) pe_int (fun _ _ => rfl)))) (pss_one (ps_ret (pe_cal G__law_refused (k := 6) hr (by decide) rfl (pa_c (pv 0) (pa_c pe_int (pa_c (pv 4) pa_nil)))))) pss_nil)
      (@pss_cons _ _ _ _ _ (ps_expr (pe_dpop1 (pe_ix ix_list (pv 1) pe_int (fun _ _ => rfl)) (pv 4) ⟨rfl, rfl, rfl, rfl⟩))
      (pss_one (ps_ret (pe_cmpR op_isN (PE1.pe (pe1_methV (k := 6) (pv 0) hr rfl (pa_c (pv 4) pa_nil)) throwsN) pe_non (nomark _)))))) pss_nil)
      (@pss_cons _ _ _ _ _ (ps_if (pt_cmpR op_eq (pv 3) pe_int (nomark _)) (@pss_cons _ _ _ _ _ (ps_set (i := 6) sc__law_deed.nd rfl (Or.inl rfl) (pe_callB (call_max2 rfl) rfl (Z.max) bo_max (pa_c pe_int (pa_c (pe_op op_sub (pe_op op_add (pe_ix ix_list (pv 1) pe_int (fun _ _ => rfl)) (pe_op op_mod (pe_op op_fdiv (pv 2) pe_int) pe_int)) pe_int) pa_nil))))
      (@pss_cons _ _ _ _ _ (ps_if (PW.pt (pw_and (pt_cmpR op_eq (pe_op op_mod (pe_op op_fdiv (pv 2) pe_int) pe_int) pe_int (nomark _)) (pw_and1 (pt_cmpR op_lt (pe_ix ix_list (pv 1) pe_int (fun _ _ => rfl)) (pe_op op_pow pe_int pe_int) (nomark _))))) (pss_one (ps_set (i := 6) sc__law_deed.nd rfl (Or.inl rfl) (pe_op op_add (pe_ix ix_list (pv 1) pe_int (fun _ _ => rfl)) (pe_op op_mod (pe_op op_fdiv (pv 2) pe_int) (pe_op op_pow pe_int pe_int))))) pss_nil)
      (@pss_cons _ _ _ _ _ (ps_asg (pe_callB (call_max2 rfl) rfl (Z.max) bo_max (pa_c (pe_ix ix_list (pv 1) pe_int (fun _ _ => rfl)) (pa_c (pv 6) pa_nil))) (pg_sub (pv 1) pe_int set_list))
      (pss_one (ps_ret (pe_cmpR op_isN (PE1.pe (pe1_methV (k := 6) (pv 0) hr rfl (pa_c (pv 6) pa_nil)) throwsN) pe_non (nomark _))))))) pss_nil)
      (@pss_cons _ _ _ _ _ (ps_if (pt_cmp (pc_dnotin hr.u1 (pv 4) (pe_ix ix_list (pv 1) pe_int (fun _ _ => rfl)))) (pss_one (ps_ret (pe_cal G__law_refused (k := 6) hr (by decide) rfl (pa_c (pv 0) (pa_c (pe_op op_mod (pe_op op_fdiv (pv 2) pe_int) pe_int) (pa_c (pv 4) pa_nil)))))) pss_nil)
      (pss_one (ps_ret (pe_cal G__law_page_as (k := 6) hr (by decide) rfl (pa_c (pv 0) (pa_c (pv 4) (pa_c (pe_dget hr.u1 (pe_ix ix_list (pv 1) pe_int (fun _ _ => rfl)) (pv 4) (fun _ _ => rfl)) pa_nil))))))))))))))), ?_⟩
  refine rd_start (σ := [some (.ref p), some (.ref acc), some (.int cell), none, none, none, none]) rfl ?_
  walk_at "rd"
  have hA := hP.a
  have aa : acc ≠ ad := ne_of hA.at_ hA.dict (by intro z; cases z)
  obtain ⟨dx, ho⟩ := hP.s.obj
  have cc := T.ob_ 3 (by decide)
  have srt : ∀ (R : VK), (∀ (D : Addr) (H1 : Hp) (ms : List Int), Same H H1 → H1 D = some (.lst (ms.map V.int)) → ms.length = ts.length → R (.ref D) H1) → rSortD [.ref ad] H R := fun R hR => by
    have em : (ts.map numOf).map (fun p => kV p.1) = (ts.map (·.1)).map V.int := by rw [List.map_map, List.map_map]; rfl
    refine ⟨ad, _, ltP, rfl, hA.dict, by rw [List.length_map, hP.len]; omega, by rw [em]; exact one_ints (fun v hv => by obtain ⟨n, _, e⟩ := List.mem_map.mp hv; exact ⟨n, e.symm⟩), fun D H' ys s hD hy pm pw => ?_⟩
    rw [em] at pm
    obtain ⟨ms, rfl, pm', pw'⟩ := sortedI pm pw
    exact hR D H' ms s hy (by rw [pm'.length_eq, List.length_map])
  refine ⟨by walk_at "side", _, SqL.of hA.at_, .int c, rfl, c, rfl, by omega, _, SqL.of hA.at_, .int c, rfl, c, rfl, ite2 (fun _ => ?_) fun _ => ?_⟩
  · refine ⟨_, SqL.of hA.at_, .int c, rfl, c, rfl, by walk_at "side", _, SqL.of hA.at_, .ref ad, rfl, srt _ fun D H1 ms s1 hD lm => ?_⟩
    generalize c + 1 - cell / 6 % 70 = num
    refine ⟨by walk_at "side", ite2 (fun _ => ⟨D, rfl, _, .inl (SqL.of hD), ite2 (fun hl => ?_) fun _ => ?_⟩) fun _ => ?_⟩
    · obtain ⟨m, hm⟩ : ∃ m, atI (ms.map V.int) (cell / 840 % ((ms.map V.int).length : Int)) = some (.int m) := by
        obtain ⟨v, hv⟩ := at_some (l := ms.map V.int) (k := cell / 840 % ((ms.map V.int).length : Int)) (Int.emod_nonneg _ (by omega)) (Int.emod_lt_of_pos _ hl)
        obtain ⟨m, _, e⟩ := List.mem_map.mp (at_mem hv)
        exact ⟨m, by rw [hv, e]⟩
      refine ⟨by walk_at "side", D, rfl, _, .inl (SqL.of hD), hl, D, rfl, _, SqL.of hD, .int m, hm, ?_⟩
      clear hm
      generalize m = num
      refine ite2 (fun _ => ?_) fun _ => ite2 (fun _ => ?_) fun _ => ite2 (fun _ => ?_) fun _ => ?_
      · exact ⟨by walk_at "side", cell / 6, rfl, fun r l es H2 s2 td sh le => ⟨p, d1, d2, acc, ad, st, ts, c, r, l, es, rfl, hP.same (s1.trans s2), td, sh, le, few, fun H3 st' ts' c' sx hP3 l3 h1 h2 => q H3 st' ts' c' (((s1.trans s2).x _).trans sx) hP3 l3 h1 (by omega)⟩⟩
      · refine ⟨_, SqL.of (s1 _ _ hA.at_), .ref ad, rfl, ad, rfl, _, DGet.k (k := .inl num) (s1 _ _ hA.dict), ?_⟩
        by_cases hx : ∃ x ∈ ts, x.1 = num
        · obtain ⟨x, hx, rfl⟩ := hx
          rw [hP.get hx, if_neg (by simp)]
          refine ⟨_, SqL.of (s1 _ _ hA.at_), .ref ad, rfl, ad, rfl, .inl ⟨_, .inl (s1 _ _ hA.dict)⟩, _, s1 _ _ hA.dict, .inl x.1, rfl, _, hP.get hx, ?_⟩
          obtain ⟨t', hxs⟩ := hP.of (n := x.1) (d := x.2.1) (t := x.2.2) hx
          have hP1 := hP.same s1
          obtain ⟨dx1, ho1⟩ := hP1.stA (o := .dK (dropK (ts.map numOf) (.inl x.1))) |>.obj
          refine rd_methV rfl ho1 rfl cc.cl (M_Pages_drop.mono (by decide)) ⟨_, rfl, p, d1, d2, st, c, x.1, rfl, hP1.stA, fun _ H3 sx hS3 => ?_, fun z => (z (x.1, x.2.1, t') hxs rfl).elim⟩
          obtain ⟨g1, g2⟩ := hP1.drop sx hS3
          rw [decide_eq_true rfl]
          exact q H3 _ _ c ((s1.x _).trans g2) g1 (Nat.le_trans (List.length_filter_le _ _) (by omega)) (by omega) (by omega)
        · have hx' : ∀ x ∈ ts, x.1 ≠ num := fun x h e => hx ⟨x, h, e⟩
          rw [St_no hx', if_pos (by decide)]
          exact ⟨p, d1, d2, st, c, 2, num, rfl, hP.s.same s1, fun x hm e => by
            obtain ⟨t', h⟩ := hP.to (n := x.1) (d := x.2.1) (t := x.2.2) hm
            exact hx' _ h e, fun H2 s2 => q H2 st ts c ((s1.trans s2).x _) (hP.same (s1.trans s2)) (by omega) (by omega) (by omega)⟩
      · have hP1 := hP.same s1
        have at1 := hP1.a.at_
        have fin : ∀ (m k : Int) (σ : St), m = (if c < k then k else c) → (m ≤ c + 5 ∨ m ≤ 2 * 10 ^ 28) → σ[0]? = some (some (.ref p)) → σ[6]? = some (some (.int k)) → ∀ (R : VK), (∀ H', Q (.bl (decide (V.non = V.non))) H' → R .non H') →
            tMethV P w K mg base 6 "skip" (tVar 0) (tCons (tVar 6) tNil) σ (upd H1 acc (.lst [.ref ad, .int m])) R E0 := by
          intro m k σ hm hb h0 h6 R hR
          obtain ⟨dx1, ho1⟩ := hP1.stB (o := .lst [.ref ad, .int m]) |>.obj
          refine rd_methV h0 ho1 rfl cc.cl (M_Pages_skip.mono (by decide)) ⟨_, h6, p, d1, d2, st, c, k, rfl, hP1.stB, fun H3 sx hS3 => ?_⟩
          rw [← hm] at hS3
          obtain ⟨g1, g2⟩ := hP1.skip sx hS3
          refine hR _ ?_
          rw [decide_eq_true rfl]
          exact q H3 _ _ m ((s1.x _).trans g2) g1 (by omega) (by rw [hm]; split <;> omega) hb
        refine ⟨_, SqL.of at1, .int c, rfl, by walk_at "side", c, rfl, 0, _, ⟨rfl, rfl⟩, by walk_at "side", ite2 (fun _ => ?_) fun _ => ?_⟩
        · refine ⟨_, SqL.of at1, .int c, rfl, by walk_at "side", c, rfl, ite2 (fun hlt => ?_) fun _ => ?_⟩
          · refine ⟨_, SqL.of at1, .int c, rfl, by walk_at "side", by walk_at "side", by decide, c, rfl, _, SqL.of at1, .int c, rfl, c, _, ⟨rfl, rfl⟩, ?_⟩
            simp only [gSub, tVar, tC, rSetL, tRet, tOp]
            exact ⟨_, rfl, acc, [.ref ad, .int c], 1, 1, rfl, rfl, at1, rfl, fin _ _ _ rfl (.inr (by split <;> omega)) rfl rfl _ fun H' h => ⟨trivial, h⟩⟩
          · refine ⟨_, SqL.of at1, .int c, rfl, c, _, ⟨rfl, rfl⟩, ?_⟩
            simp only [gSub, tVar, tC, rSetL, tRet, tOp]
            exact ⟨_, rfl, acc, [.ref ad, .int c], 1, 1, rfl, rfl, at1, rfl, fin _ _ _ rfl (.inl (by split <;> (try split) <;> omega)) rfl rfl _ fun H' h => ⟨trivial, h⟩⟩
        · refine ⟨_, SqL.of at1, .int c, rfl, c, _, ⟨rfl, rfl⟩, ?_⟩
          simp only [gSub, tVar, tC, rSetL, tRet, tOp]
          exact ⟨_, rfl, acc, [.ref ad, .int c], 1, 1, rfl, rfl, at1, rfl, fin _ _ _ rfl (.inl (by split <;> (try split) <;> omega)) rfl rfl _ fun H' h => ⟨trivial, h⟩⟩
      · refine ⟨_, SqL.of (s1 _ _ hA.at_), .ref ad, rfl, ad, rfl, _, DGet.k (k := .inl num) (s1 _ _ hA.dict), ?_⟩
        by_cases hx : ∃ x ∈ ts, x.1 = num
        · obtain ⟨x, hx, rfl⟩ := hx
          rw [hP.get hx, if_neg (by simp)]
          obtain ⟨t', hxs⟩ := hP.of (n := x.1) (d := x.2.1) (t := x.2.2) hx
          exact ⟨_, SqL.of (s1 _ _ hA.at_), .ref ad, rfl, ad, rfl, .ref x.2.2, by rw [← hP.get hx]; exact DGet.k (k := .inl x.1) (s1 _ _ hA.dict), p, d1, d2, st, c, x.1, x.2.1, t', x.2.2, rfl, hP.s.same s1, hxs, (hA.td x hx).same s1, fun H2 s2 => q H2 st ts c ((s1.trans s2).x _) (hP.same (s1.trans s2)) (by omega) (by omega) (by omega)⟩
        · have hx' : ∀ x ∈ ts, x.1 ≠ num := fun x h e => hx ⟨x, h, e⟩
          rw [St_no hx', if_pos (by decide)]
          exact ⟨by walk_at "side", p, d1, d2, st, c, _, num, rfl, hP.s.same s1, fun x hm e => by
            obtain ⟨t', h⟩ := hP.to (n := x.1) (d := x.2.1) (t := x.2.2) hm
            exact hx' _ h e, fun H2 s2 => q H2 st ts c ((s1.trans s2).x _) (hP.same (s1.trans s2)) (by omega) (by omega) (by omega)⟩
    · refine ite2 (fun _ => ?_) fun _ => ite2 (fun _ => ?_) fun _ => ite2 (fun _ => ?_) fun _ => ?_
      · exact ⟨by walk_at "side", cell / 6, rfl, fun r l es H2 s2 td sh le => ⟨p, d1, d2, acc, ad, st, ts, c, r, l, es, rfl, hP.same (s1.trans s2), td, sh, le, few, fun H3 st' ts' c' sx hP3 l3 h1 h2 => q H3 st' ts' c' (((s1.trans s2).x _).trans sx) hP3 l3 h1 (by omega)⟩⟩
      · refine ⟨_, SqL.of (s1 _ _ hA.at_), .ref ad, rfl, ad, rfl, _, DGet.k (k := .inl num) (s1 _ _ hA.dict), ?_⟩
        by_cases hx : ∃ x ∈ ts, x.1 = num
        · obtain ⟨x, hx, rfl⟩ := hx
          rw [hP.get hx, if_neg (by simp)]
          refine ⟨_, SqL.of (s1 _ _ hA.at_), .ref ad, rfl, ad, rfl, .inl ⟨_, .inl (s1 _ _ hA.dict)⟩, _, s1 _ _ hA.dict, .inl x.1, rfl, _, hP.get hx, ?_⟩
          obtain ⟨t', hxs⟩ := hP.of (n := x.1) (d := x.2.1) (t := x.2.2) hx
          have hP1 := hP.same s1
          obtain ⟨dx1, ho1⟩ := hP1.stA (o := .dK (dropK (ts.map numOf) (.inl x.1))) |>.obj
          refine rd_methV rfl ho1 rfl cc.cl (M_Pages_drop.mono (by decide)) ⟨_, rfl, p, d1, d2, st, c, x.1, rfl, hP1.stA, fun _ H3 sx hS3 => ?_, fun z => (z (x.1, x.2.1, t') hxs rfl).elim⟩
          obtain ⟨g1, g2⟩ := hP1.drop sx hS3
          rw [decide_eq_true rfl]
          exact q H3 _ _ c ((s1.x _).trans g2) g1 (Nat.le_trans (List.length_filter_le _ _) (by omega)) (by omega) (by omega)
        · have hx' : ∀ x ∈ ts, x.1 ≠ num := fun x h e => hx ⟨x, h, e⟩
          rw [St_no hx', if_pos (by decide)]
          exact ⟨p, d1, d2, st, c, 2, num, rfl, hP.s.same s1, fun x hm e => by
            obtain ⟨t', h⟩ := hP.to (n := x.1) (d := x.2.1) (t := x.2.2) hm
            exact hx' _ h e, fun H2 s2 => q H2 st ts c ((s1.trans s2).x _) (hP.same (s1.trans s2)) (by omega) (by omega) (by omega)⟩
      · have hP1 := hP.same s1
        have at1 := hP1.a.at_
        have fin : ∀ (m k : Int) (σ : St), m = (if c < k then k else c) → (m ≤ c + 5 ∨ m ≤ 2 * 10 ^ 28) → σ[0]? = some (some (.ref p)) → σ[6]? = some (some (.int k)) → ∀ (R : VK), (∀ H', Q (.bl (decide (V.non = V.non))) H' → R .non H') →
            tMethV P w K mg base 6 "skip" (tVar 0) (tCons (tVar 6) tNil) σ (upd H1 acc (.lst [.ref ad, .int m])) R E0 := by
          intro m k σ hm hb h0 h6 R hR
          obtain ⟨dx1, ho1⟩ := hP1.stB (o := .lst [.ref ad, .int m]) |>.obj
          refine rd_methV h0 ho1 rfl cc.cl (M_Pages_skip.mono (by decide)) ⟨_, h6, p, d1, d2, st, c, k, rfl, hP1.stB, fun H3 sx hS3 => ?_⟩
          rw [← hm] at hS3
          obtain ⟨g1, g2⟩ := hP1.skip sx hS3
          refine hR _ ?_
          rw [decide_eq_true rfl]
          exact q H3 _ _ m ((s1.x _).trans g2) g1 (by omega) (by rw [hm]; split <;> omega) hb
        refine ⟨_, SqL.of at1, .int c, rfl, by walk_at "side", c, rfl, 0, _, ⟨rfl, rfl⟩, by walk_at "side", ite2 (fun _ => ?_) fun _ => ?_⟩
        · refine ⟨_, SqL.of at1, .int c, rfl, by walk_at "side", c, rfl, ite2 (fun hlt => ?_) fun _ => ?_⟩
          · refine ⟨_, SqL.of at1, .int c, rfl, by walk_at "side", by walk_at "side", by decide, c, rfl, _, SqL.of at1, .int c, rfl, c, _, ⟨rfl, rfl⟩, ?_⟩
            simp only [gSub, tVar, tC, rSetL, tRet, tOp]
            exact ⟨_, rfl, acc, [.ref ad, .int c], 1, 1, rfl, rfl, at1, rfl, fin _ _ _ rfl (.inr (by split <;> omega)) rfl rfl _ fun H' h => ⟨trivial, h⟩⟩
          · refine ⟨_, SqL.of at1, .int c, rfl, c, _, ⟨rfl, rfl⟩, ?_⟩
            simp only [gSub, tVar, tC, rSetL, tRet, tOp]
            exact ⟨_, rfl, acc, [.ref ad, .int c], 1, 1, rfl, rfl, at1, rfl, fin _ _ _ rfl (.inl (by split <;> (try split) <;> omega)) rfl rfl _ fun H' h => ⟨trivial, h⟩⟩
        · refine ⟨_, SqL.of at1, .int c, rfl, c, _, ⟨rfl, rfl⟩, ?_⟩
          simp only [gSub, tVar, tC, rSetL, tRet, tOp]
          exact ⟨_, rfl, acc, [.ref ad, .int c], 1, 1, rfl, rfl, at1, rfl, fin _ _ _ rfl (.inl (by split <;> (try split) <;> omega)) rfl rfl _ fun H' h => ⟨trivial, h⟩⟩
      · refine ⟨_, SqL.of (s1 _ _ hA.at_), .ref ad, rfl, ad, rfl, _, DGet.k (k := .inl num) (s1 _ _ hA.dict), ?_⟩
        by_cases hx : ∃ x ∈ ts, x.1 = num
        · obtain ⟨x, hx, rfl⟩ := hx
          rw [hP.get hx, if_neg (by simp)]
          obtain ⟨t', hxs⟩ := hP.of (n := x.1) (d := x.2.1) (t := x.2.2) hx
          exact ⟨_, SqL.of (s1 _ _ hA.at_), .ref ad, rfl, ad, rfl, .ref x.2.2, by rw [← hP.get hx]; exact DGet.k (k := .inl x.1) (s1 _ _ hA.dict), p, d1, d2, st, c, x.1, x.2.1, t', x.2.2, rfl, hP.s.same s1, hxs, (hA.td x hx).same s1, fun H2 s2 => q H2 st ts c ((s1.trans s2).x _) (hP.same (s1.trans s2)) (by omega) (by omega) (by omega)⟩
        · have hx' : ∀ x ∈ ts, x.1 ≠ num := fun x h e => hx ⟨x, h, e⟩
          rw [St_no hx', if_pos (by decide)]
          exact ⟨by walk_at "side", p, d1, d2, st, c, _, num, rfl, hP.s.same s1, fun x hm e => by
            obtain ⟨t', h⟩ := hP.to (n := x.1) (d := x.2.1) (t := x.2.2) hm
            exact hx' _ h e, fun H2 s2 => q H2 st ts c ((s1.trans s2).x _) (hP.same (s1.trans s2)) (by omega) (by omega) (by omega)⟩
    · refine ite2 (fun _ => ?_) fun _ => ite2 (fun _ => ?_) fun _ => ite2 (fun _ => ?_) fun _ => ?_
      · exact ⟨by walk_at "side", cell / 6, rfl, fun r l es H2 s2 td sh le => ⟨p, d1, d2, acc, ad, st, ts, c, r, l, es, rfl, hP.same (s1.trans s2), td, sh, le, few, fun H3 st' ts' c' sx hP3 l3 h1 h2 => q H3 st' ts' c' (((s1.trans s2).x _).trans sx) hP3 l3 h1 (by omega)⟩⟩
      · refine ⟨_, SqL.of (s1 _ _ hA.at_), .ref ad, rfl, ad, rfl, _, DGet.k (k := .inl num) (s1 _ _ hA.dict), ?_⟩
        by_cases hx : ∃ x ∈ ts, x.1 = num
        · obtain ⟨x, hx, rfl⟩ := hx
          rw [hP.get hx, if_neg (by simp)]
          refine ⟨_, SqL.of (s1 _ _ hA.at_), .ref ad, rfl, ad, rfl, .inl ⟨_, .inl (s1 _ _ hA.dict)⟩, _, s1 _ _ hA.dict, .inl x.1, rfl, _, hP.get hx, ?_⟩
          obtain ⟨t', hxs⟩ := hP.of (n := x.1) (d := x.2.1) (t := x.2.2) hx
          have hP1 := hP.same s1
          obtain ⟨dx1, ho1⟩ := hP1.stA (o := .dK (dropK (ts.map numOf) (.inl x.1))) |>.obj
          refine rd_methV rfl ho1 rfl cc.cl (M_Pages_drop.mono (by decide)) ⟨_, rfl, p, d1, d2, st, c, x.1, rfl, hP1.stA, fun _ H3 sx hS3 => ?_, fun z => (z (x.1, x.2.1, t') hxs rfl).elim⟩
          obtain ⟨g1, g2⟩ := hP1.drop sx hS3
          rw [decide_eq_true rfl]
          exact q H3 _ _ c ((s1.x _).trans g2) g1 (Nat.le_trans (List.length_filter_le _ _) (by omega)) (by omega) (by omega)
        · have hx' : ∀ x ∈ ts, x.1 ≠ num := fun x h e => hx ⟨x, h, e⟩
          rw [St_no hx', if_pos (by decide)]
          exact ⟨p, d1, d2, st, c, 2, num, rfl, hP.s.same s1, fun x hm e => by
            obtain ⟨t', h⟩ := hP.to (n := x.1) (d := x.2.1) (t := x.2.2) hm
            exact hx' _ h e, fun H2 s2 => q H2 st ts c ((s1.trans s2).x _) (hP.same (s1.trans s2)) (by omega) (by omega) (by omega)⟩
      · have hP1 := hP.same s1
        have at1 := hP1.a.at_
        have fin : ∀ (m k : Int) (σ : St), m = (if c < k then k else c) → (m ≤ c + 5 ∨ m ≤ 2 * 10 ^ 28) → σ[0]? = some (some (.ref p)) → σ[6]? = some (some (.int k)) → ∀ (R : VK), (∀ H', Q (.bl (decide (V.non = V.non))) H' → R .non H') →
            tMethV P w K mg base 6 "skip" (tVar 0) (tCons (tVar 6) tNil) σ (upd H1 acc (.lst [.ref ad, .int m])) R E0 := by
          intro m k σ hm hb h0 h6 R hR
          obtain ⟨dx1, ho1⟩ := hP1.stB (o := .lst [.ref ad, .int m]) |>.obj
          refine rd_methV h0 ho1 rfl cc.cl (M_Pages_skip.mono (by decide)) ⟨_, h6, p, d1, d2, st, c, k, rfl, hP1.stB, fun H3 sx hS3 => ?_⟩
          rw [← hm] at hS3
          obtain ⟨g1, g2⟩ := hP1.skip sx hS3
          refine hR _ ?_
          rw [decide_eq_true rfl]
          exact q H3 _ _ m ((s1.x _).trans g2) g1 (by omega) (by rw [hm]; split <;> omega) hb
        refine ⟨_, SqL.of at1, .int c, rfl, by walk_at "side", c, rfl, 0, _, ⟨rfl, rfl⟩, by walk_at "side", ite2 (fun _ => ?_) fun _ => ?_⟩
        · refine ⟨_, SqL.of at1, .int c, rfl, by walk_at "side", c, rfl, ite2 (fun hlt => ?_) fun _ => ?_⟩
          · refine ⟨_, SqL.of at1, .int c, rfl, by walk_at "side", by walk_at "side", by decide, c, rfl, _, SqL.of at1, .int c, rfl, c, _, ⟨rfl, rfl⟩, ?_⟩
            simp only [gSub, tVar, tC, rSetL, tRet, tOp]
            exact ⟨_, rfl, acc, [.ref ad, .int c], 1, 1, rfl, rfl, at1, rfl, fin _ _ _ rfl (.inr (by split <;> omega)) rfl rfl _ fun H' h => ⟨trivial, h⟩⟩
          · refine ⟨_, SqL.of at1, .int c, rfl, c, _, ⟨rfl, rfl⟩, ?_⟩
            simp only [gSub, tVar, tC, rSetL, tRet, tOp]
            exact ⟨_, rfl, acc, [.ref ad, .int c], 1, 1, rfl, rfl, at1, rfl, fin _ _ _ rfl (.inl (by split <;> (try split) <;> omega)) rfl rfl _ fun H' h => ⟨trivial, h⟩⟩
        · refine ⟨_, SqL.of at1, .int c, rfl, c, _, ⟨rfl, rfl⟩, ?_⟩
          simp only [gSub, tVar, tC, rSetL, tRet, tOp]
          exact ⟨_, rfl, acc, [.ref ad, .int c], 1, 1, rfl, rfl, at1, rfl, fin _ _ _ rfl (.inl (by split <;> (try split) <;> omega)) rfl rfl _ fun H' h => ⟨trivial, h⟩⟩
      · refine ⟨_, SqL.of (s1 _ _ hA.at_), .ref ad, rfl, ad, rfl, _, DGet.k (k := .inl num) (s1 _ _ hA.dict), ?_⟩
        by_cases hx : ∃ x ∈ ts, x.1 = num
        · obtain ⟨x, hx, rfl⟩ := hx
          rw [hP.get hx, if_neg (by simp)]
          obtain ⟨t', hxs⟩ := hP.of (n := x.1) (d := x.2.1) (t := x.2.2) hx
          exact ⟨_, SqL.of (s1 _ _ hA.at_), .ref ad, rfl, ad, rfl, .ref x.2.2, by rw [← hP.get hx]; exact DGet.k (k := .inl x.1) (s1 _ _ hA.dict), p, d1, d2, st, c, x.1, x.2.1, t', x.2.2, rfl, hP.s.same s1, hxs, (hA.td x hx).same s1, fun H2 s2 => q H2 st ts c ((s1.trans s2).x _) (hP.same (s1.trans s2)) (by omega) (by omega) (by omega)⟩
        · have hx' : ∀ x ∈ ts, x.1 ≠ num := fun x h e => hx ⟨x, h, e⟩
          rw [St_no hx', if_pos (by decide)]
          exact ⟨by walk_at "side", p, d1, d2, st, c, _, num, rfl, hP.s.same s1, fun x hm e => by
            obtain ⟨t', h⟩ := hP.to (n := x.1) (d := x.2.1) (t := x.2.2) hm
            exact hx' _ h e, fun H2 s2 => q H2 st ts c ((s1.trans s2).x _) (hP.same (s1.trans s2)) (by omega) (by omega) (by omega)⟩
  · refine ⟨_, SqL.of hA.at_, .ref ad, rfl, srt _ fun D H1 ms s1 hD lm => ?_⟩
    generalize cell / 6 % (c % 1000 + 5) - 2 = num
    refine ⟨by walk_at "side", ite2 (fun _ => ⟨D, rfl, _, .inl (SqL.of hD), ite2 (fun hl => ?_) fun _ => ?_⟩) fun _ => ?_⟩
    · obtain ⟨m, hm⟩ : ∃ m, atI (ms.map V.int) (cell / 840 % ((ms.map V.int).length : Int)) = some (.int m) := by
        obtain ⟨v, hv⟩ := at_some (l := ms.map V.int) (k := cell / 840 % ((ms.map V.int).length : Int)) (Int.emod_nonneg _ (by omega)) (Int.emod_lt_of_pos _ hl)
        obtain ⟨m, _, e⟩ := List.mem_map.mp (at_mem hv)
        exact ⟨m, by rw [hv, e]⟩
      refine ⟨by walk_at "side", D, rfl, _, .inl (SqL.of hD), hl, D, rfl, _, SqL.of hD, .int m, hm, ?_⟩
      clear hm
      generalize m = num
      refine ite2 (fun _ => ?_) fun _ => ite2 (fun _ => ?_) fun _ => ite2 (fun _ => ?_) fun _ => ?_
      · exact ⟨by walk_at "side", cell / 6, rfl, fun r l es H2 s2 td sh le => ⟨p, d1, d2, acc, ad, st, ts, c, r, l, es, rfl, hP.same (s1.trans s2), td, sh, le, few, fun H3 st' ts' c' sx hP3 l3 h1 h2 => q H3 st' ts' c' (((s1.trans s2).x _).trans sx) hP3 l3 h1 (by omega)⟩⟩
      · refine ⟨_, SqL.of (s1 _ _ hA.at_), .ref ad, rfl, ad, rfl, _, DGet.k (k := .inl num) (s1 _ _ hA.dict), ?_⟩
        by_cases hx : ∃ x ∈ ts, x.1 = num
        · obtain ⟨x, hx, rfl⟩ := hx
          rw [hP.get hx, if_neg (by simp)]
          refine ⟨_, SqL.of (s1 _ _ hA.at_), .ref ad, rfl, ad, rfl, .inl ⟨_, .inl (s1 _ _ hA.dict)⟩, _, s1 _ _ hA.dict, .inl x.1, rfl, _, hP.get hx, ?_⟩
          obtain ⟨t', hxs⟩ := hP.of (n := x.1) (d := x.2.1) (t := x.2.2) hx
          have hP1 := hP.same s1
          obtain ⟨dx1, ho1⟩ := hP1.stA (o := .dK (dropK (ts.map numOf) (.inl x.1))) |>.obj
          refine rd_methV rfl ho1 rfl cc.cl (M_Pages_drop.mono (by decide)) ⟨_, rfl, p, d1, d2, st, c, x.1, rfl, hP1.stA, fun _ H3 sx hS3 => ?_, fun z => (z (x.1, x.2.1, t') hxs rfl).elim⟩
          obtain ⟨g1, g2⟩ := hP1.drop sx hS3
          rw [decide_eq_true rfl]
          exact q H3 _ _ c ((s1.x _).trans g2) g1 (Nat.le_trans (List.length_filter_le _ _) (by omega)) (by omega) (by omega)
        · have hx' : ∀ x ∈ ts, x.1 ≠ num := fun x h e => hx ⟨x, h, e⟩
          rw [St_no hx', if_pos (by decide)]
          exact ⟨p, d1, d2, st, c, 2, num, rfl, hP.s.same s1, fun x hm e => by
            obtain ⟨t', h⟩ := hP.to (n := x.1) (d := x.2.1) (t := x.2.2) hm
            exact hx' _ h e, fun H2 s2 => q H2 st ts c ((s1.trans s2).x _) (hP.same (s1.trans s2)) (by omega) (by omega) (by omega)⟩
      · have hP1 := hP.same s1
        have at1 := hP1.a.at_
        have fin : ∀ (m k : Int) (σ : St), m = (if c < k then k else c) → (m ≤ c + 5 ∨ m ≤ 2 * 10 ^ 28) → σ[0]? = some (some (.ref p)) → σ[6]? = some (some (.int k)) → ∀ (R : VK), (∀ H', Q (.bl (decide (V.non = V.non))) H' → R .non H') →
            tMethV P w K mg base 6 "skip" (tVar 0) (tCons (tVar 6) tNil) σ (upd H1 acc (.lst [.ref ad, .int m])) R E0 := by
          intro m k σ hm hb h0 h6 R hR
          obtain ⟨dx1, ho1⟩ := hP1.stB (o := .lst [.ref ad, .int m]) |>.obj
          refine rd_methV h0 ho1 rfl cc.cl (M_Pages_skip.mono (by decide)) ⟨_, h6, p, d1, d2, st, c, k, rfl, hP1.stB, fun H3 sx hS3 => ?_⟩
          rw [← hm] at hS3
          obtain ⟨g1, g2⟩ := hP1.skip sx hS3
          refine hR _ ?_
          rw [decide_eq_true rfl]
          exact q H3 _ _ m ((s1.x _).trans g2) g1 (by omega) (by rw [hm]; split <;> omega) hb
        refine ⟨_, SqL.of at1, .int c, rfl, by walk_at "side", c, rfl, 0, _, ⟨rfl, rfl⟩, by walk_at "side", ite2 (fun _ => ?_) fun _ => ?_⟩
        · refine ⟨_, SqL.of at1, .int c, rfl, by walk_at "side", c, rfl, ite2 (fun hlt => ?_) fun _ => ?_⟩
          · refine ⟨_, SqL.of at1, .int c, rfl, by walk_at "side", by walk_at "side", by decide, c, rfl, _, SqL.of at1, .int c, rfl, c, _, ⟨rfl, rfl⟩, ?_⟩
            simp only [gSub, tVar, tC, rSetL, tRet, tOp]
            exact ⟨_, rfl, acc, [.ref ad, .int c], 1, 1, rfl, rfl, at1, rfl, fin _ _ _ rfl (.inr (by split <;> omega)) rfl rfl _ fun H' h => ⟨trivial, h⟩⟩
          · refine ⟨_, SqL.of at1, .int c, rfl, c, _, ⟨rfl, rfl⟩, ?_⟩
            simp only [gSub, tVar, tC, rSetL, tRet, tOp]
            exact ⟨_, rfl, acc, [.ref ad, .int c], 1, 1, rfl, rfl, at1, rfl, fin _ _ _ rfl (.inl (by split <;> (try split) <;> omega)) rfl rfl _ fun H' h => ⟨trivial, h⟩⟩
        · refine ⟨_, SqL.of at1, .int c, rfl, c, _, ⟨rfl, rfl⟩, ?_⟩
          simp only [gSub, tVar, tC, rSetL, tRet, tOp]
          exact ⟨_, rfl, acc, [.ref ad, .int c], 1, 1, rfl, rfl, at1, rfl, fin _ _ _ rfl (.inl (by split <;> (try split) <;> omega)) rfl rfl _ fun H' h => ⟨trivial, h⟩⟩
      · refine ⟨_, SqL.of (s1 _ _ hA.at_), .ref ad, rfl, ad, rfl, _, DGet.k (k := .inl num) (s1 _ _ hA.dict), ?_⟩
        by_cases hx : ∃ x ∈ ts, x.1 = num
        · obtain ⟨x, hx, rfl⟩ := hx
          rw [hP.get hx, if_neg (by simp)]
          obtain ⟨t', hxs⟩ := hP.of (n := x.1) (d := x.2.1) (t := x.2.2) hx
          exact ⟨_, SqL.of (s1 _ _ hA.at_), .ref ad, rfl, ad, rfl, .ref x.2.2, by rw [← hP.get hx]; exact DGet.k (k := .inl x.1) (s1 _ _ hA.dict), p, d1, d2, st, c, x.1, x.2.1, t', x.2.2, rfl, hP.s.same s1, hxs, (hA.td x hx).same s1, fun H2 s2 => q H2 st ts c ((s1.trans s2).x _) (hP.same (s1.trans s2)) (by omega) (by omega) (by omega)⟩
        · have hx' : ∀ x ∈ ts, x.1 ≠ num := fun x h e => hx ⟨x, h, e⟩
          rw [St_no hx', if_pos (by decide)]
          exact ⟨by walk_at "side", p, d1, d2, st, c, _, num, rfl, hP.s.same s1, fun x hm e => by
            obtain ⟨t', h⟩ := hP.to (n := x.1) (d := x.2.1) (t := x.2.2) hm
            exact hx' _ h e, fun H2 s2 => q H2 st ts c ((s1.trans s2).x _) (hP.same (s1.trans s2)) (by omega) (by omega) (by omega)⟩
    · refine ite2 (fun _ => ?_) fun _ => ite2 (fun _ => ?_) fun _ => ite2 (fun _ => ?_) fun _ => ?_
      · exact ⟨by walk_at "side", cell / 6, rfl, fun r l es H2 s2 td sh le => ⟨p, d1, d2, acc, ad, st, ts, c, r, l, es, rfl, hP.same (s1.trans s2), td, sh, le, few, fun H3 st' ts' c' sx hP3 l3 h1 h2 => q H3 st' ts' c' (((s1.trans s2).x _).trans sx) hP3 l3 h1 (by omega)⟩⟩
      · refine ⟨_, SqL.of (s1 _ _ hA.at_), .ref ad, rfl, ad, rfl, _, DGet.k (k := .inl num) (s1 _ _ hA.dict), ?_⟩
        by_cases hx : ∃ x ∈ ts, x.1 = num
        · obtain ⟨x, hx, rfl⟩ := hx
          rw [hP.get hx, if_neg (by simp)]
          refine ⟨_, SqL.of (s1 _ _ hA.at_), .ref ad, rfl, ad, rfl, .inl ⟨_, .inl (s1 _ _ hA.dict)⟩, _, s1 _ _ hA.dict, .inl x.1, rfl, _, hP.get hx, ?_⟩
          obtain ⟨t', hxs⟩ := hP.of (n := x.1) (d := x.2.1) (t := x.2.2) hx
          have hP1 := hP.same s1
          obtain ⟨dx1, ho1⟩ := hP1.stA (o := .dK (dropK (ts.map numOf) (.inl x.1))) |>.obj
          refine rd_methV rfl ho1 rfl cc.cl (M_Pages_drop.mono (by decide)) ⟨_, rfl, p, d1, d2, st, c, x.1, rfl, hP1.stA, fun _ H3 sx hS3 => ?_, fun z => (z (x.1, x.2.1, t') hxs rfl).elim⟩
          obtain ⟨g1, g2⟩ := hP1.drop sx hS3
          rw [decide_eq_true rfl]
          exact q H3 _ _ c ((s1.x _).trans g2) g1 (Nat.le_trans (List.length_filter_le _ _) (by omega)) (by omega) (by omega)
        · have hx' : ∀ x ∈ ts, x.1 ≠ num := fun x h e => hx ⟨x, h, e⟩
          rw [St_no hx', if_pos (by decide)]
          exact ⟨p, d1, d2, st, c, 2, num, rfl, hP.s.same s1, fun x hm e => by
            obtain ⟨t', h⟩ := hP.to (n := x.1) (d := x.2.1) (t := x.2.2) hm
            exact hx' _ h e, fun H2 s2 => q H2 st ts c ((s1.trans s2).x _) (hP.same (s1.trans s2)) (by omega) (by omega) (by omega)⟩
      · have hP1 := hP.same s1
        have at1 := hP1.a.at_
        have fin : ∀ (m k : Int) (σ : St), m = (if c < k then k else c) → (m ≤ c + 5 ∨ m ≤ 2 * 10 ^ 28) → σ[0]? = some (some (.ref p)) → σ[6]? = some (some (.int k)) → ∀ (R : VK), (∀ H', Q (.bl (decide (V.non = V.non))) H' → R .non H') →
            tMethV P w K mg base 6 "skip" (tVar 0) (tCons (tVar 6) tNil) σ (upd H1 acc (.lst [.ref ad, .int m])) R E0 := by
          intro m k σ hm hb h0 h6 R hR
          obtain ⟨dx1, ho1⟩ := hP1.stB (o := .lst [.ref ad, .int m]) |>.obj
          refine rd_methV h0 ho1 rfl cc.cl (M_Pages_skip.mono (by decide)) ⟨_, h6, p, d1, d2, st, c, k, rfl, hP1.stB, fun H3 sx hS3 => ?_⟩
          rw [← hm] at hS3
          obtain ⟨g1, g2⟩ := hP1.skip sx hS3
          refine hR _ ?_
          rw [decide_eq_true rfl]
          exact q H3 _ _ m ((s1.x _).trans g2) g1 (by omega) (by rw [hm]; split <;> omega) hb
        refine ⟨_, SqL.of at1, .int c, rfl, by walk_at "side", c, rfl, 0, _, ⟨rfl, rfl⟩, by walk_at "side", ite2 (fun _ => ?_) fun _ => ?_⟩
        · refine ⟨_, SqL.of at1, .int c, rfl, by walk_at "side", c, rfl, ite2 (fun hlt => ?_) fun _ => ?_⟩
          · refine ⟨_, SqL.of at1, .int c, rfl, by walk_at "side", by walk_at "side", by decide, c, rfl, _, SqL.of at1, .int c, rfl, c, _, ⟨rfl, rfl⟩, ?_⟩
            simp only [gSub, tVar, tC, rSetL, tRet, tOp]
            exact ⟨_, rfl, acc, [.ref ad, .int c], 1, 1, rfl, rfl, at1, rfl, fin _ _ _ rfl (.inr (by split <;> omega)) rfl rfl _ fun H' h => ⟨trivial, h⟩⟩
          · refine ⟨_, SqL.of at1, .int c, rfl, c, _, ⟨rfl, rfl⟩, ?_⟩
            simp only [gSub, tVar, tC, rSetL, tRet, tOp]
            exact ⟨_, rfl, acc, [.ref ad, .int c], 1, 1, rfl, rfl, at1, rfl, fin _ _ _ rfl (.inl (by split <;> (try split) <;> omega)) rfl rfl _ fun H' h => ⟨trivial, h⟩⟩
        · refine ⟨_, SqL.of at1, .int c, rfl, c, _, ⟨rfl, rfl⟩, ?_⟩
          simp only [gSub, tVar, tC, rSetL, tRet, tOp]
          exact ⟨_, rfl, acc, [.ref ad, .int c], 1, 1, rfl, rfl, at1, rfl, fin _ _ _ rfl (.inl (by split <;> (try split) <;> omega)) rfl rfl _ fun H' h => ⟨trivial, h⟩⟩
      · refine ⟨_, SqL.of (s1 _ _ hA.at_), .ref ad, rfl, ad, rfl, _, DGet.k (k := .inl num) (s1 _ _ hA.dict), ?_⟩
        by_cases hx : ∃ x ∈ ts, x.1 = num
        · obtain ⟨x, hx, rfl⟩ := hx
          rw [hP.get hx, if_neg (by simp)]
          obtain ⟨t', hxs⟩ := hP.of (n := x.1) (d := x.2.1) (t := x.2.2) hx
          exact ⟨_, SqL.of (s1 _ _ hA.at_), .ref ad, rfl, ad, rfl, .ref x.2.2, by rw [← hP.get hx]; exact DGet.k (k := .inl x.1) (s1 _ _ hA.dict), p, d1, d2, st, c, x.1, x.2.1, t', x.2.2, rfl, hP.s.same s1, hxs, (hA.td x hx).same s1, fun H2 s2 => q H2 st ts c ((s1.trans s2).x _) (hP.same (s1.trans s2)) (by omega) (by omega) (by omega)⟩
        · have hx' : ∀ x ∈ ts, x.1 ≠ num := fun x h e => hx ⟨x, h, e⟩
          rw [St_no hx', if_pos (by decide)]
          exact ⟨by walk_at "side", p, d1, d2, st, c, _, num, rfl, hP.s.same s1, fun x hm e => by
            obtain ⟨t', h⟩ := hP.to (n := x.1) (d := x.2.1) (t := x.2.2) hm
            exact hx' _ h e, fun H2 s2 => q H2 st ts c ((s1.trans s2).x _) (hP.same (s1.trans s2)) (by omega) (by omega) (by omega)⟩
    · refine ite2 (fun _ => ?_) fun _ => ite2 (fun _ => ?_) fun _ => ite2 (fun _ => ?_) fun _ => ?_
      · exact ⟨by walk_at "side", cell / 6, rfl, fun r l es H2 s2 td sh le => ⟨p, d1, d2, acc, ad, st, ts, c, r, l, es, rfl, hP.same (s1.trans s2), td, sh, le, few, fun H3 st' ts' c' sx hP3 l3 h1 h2 => q H3 st' ts' c' (((s1.trans s2).x _).trans sx) hP3 l3 h1 (by omega)⟩⟩
      · refine ⟨_, SqL.of (s1 _ _ hA.at_), .ref ad, rfl, ad, rfl, _, DGet.k (k := .inl num) (s1 _ _ hA.dict), ?_⟩
        by_cases hx : ∃ x ∈ ts, x.1 = num
        · obtain ⟨x, hx, rfl⟩ := hx
          rw [hP.get hx, if_neg (by simp)]
          refine ⟨_, SqL.of (s1 _ _ hA.at_), .ref ad, rfl, ad, rfl, .inl ⟨_, .inl (s1 _ _ hA.dict)⟩, _, s1 _ _ hA.dict, .inl x.1, rfl, _, hP.get hx, ?_⟩
          obtain ⟨t', hxs⟩ := hP.of (n := x.1) (d := x.2.1) (t := x.2.2) hx
          have hP1 := hP.same s1
          obtain ⟨dx1, ho1⟩ := hP1.stA (o := .dK (dropK (ts.map numOf) (.inl x.1))) |>.obj
          refine rd_methV rfl ho1 rfl cc.cl (M_Pages_drop.mono (by decide)) ⟨_, rfl, p, d1, d2, st, c, x.1, rfl, hP1.stA, fun _ H3 sx hS3 => ?_, fun z => (z (x.1, x.2.1, t') hxs rfl).elim⟩
          obtain ⟨g1, g2⟩ := hP1.drop sx hS3
          rw [decide_eq_true rfl]
          exact q H3 _ _ c ((s1.x _).trans g2) g1 (Nat.le_trans (List.length_filter_le _ _) (by omega)) (by omega) (by omega)
        · have hx' : ∀ x ∈ ts, x.1 ≠ num := fun x h e => hx ⟨x, h, e⟩
          rw [St_no hx', if_pos (by decide)]
          exact ⟨p, d1, d2, st, c, 2, num, rfl, hP.s.same s1, fun x hm e => by
            obtain ⟨t', h⟩ := hP.to (n := x.1) (d := x.2.1) (t := x.2.2) hm
            exact hx' _ h e, fun H2 s2 => q H2 st ts c ((s1.trans s2).x _) (hP.same (s1.trans s2)) (by omega) (by omega) (by omega)⟩
      · have hP1 := hP.same s1
        have at1 := hP1.a.at_
        have fin : ∀ (m k : Int) (σ : St), m = (if c < k then k else c) → (m ≤ c + 5 ∨ m ≤ 2 * 10 ^ 28) → σ[0]? = some (some (.ref p)) → σ[6]? = some (some (.int k)) → ∀ (R : VK), (∀ H', Q (.bl (decide (V.non = V.non))) H' → R .non H') →
            tMethV P w K mg base 6 "skip" (tVar 0) (tCons (tVar 6) tNil) σ (upd H1 acc (.lst [.ref ad, .int m])) R E0 := by
          intro m k σ hm hb h0 h6 R hR
          obtain ⟨dx1, ho1⟩ := hP1.stB (o := .lst [.ref ad, .int m]) |>.obj
          refine rd_methV h0 ho1 rfl cc.cl (M_Pages_skip.mono (by decide)) ⟨_, h6, p, d1, d2, st, c, k, rfl, hP1.stB, fun H3 sx hS3 => ?_⟩
          rw [← hm] at hS3
          obtain ⟨g1, g2⟩ := hP1.skip sx hS3
          refine hR _ ?_
          rw [decide_eq_true rfl]
          exact q H3 _ _ m ((s1.x _).trans g2) g1 (by omega) (by rw [hm]; split <;> omega) hb
        refine ⟨_, SqL.of at1, .int c, rfl, by walk_at "side", c, rfl, 0, _, ⟨rfl, rfl⟩, by walk_at "side", ite2 (fun _ => ?_) fun _ => ?_⟩
        · refine ⟨_, SqL.of at1, .int c, rfl, by walk_at "side", c, rfl, ite2 (fun hlt => ?_) fun _ => ?_⟩
          · refine ⟨_, SqL.of at1, .int c, rfl, by walk_at "side", by walk_at "side", by decide, c, rfl, _, SqL.of at1, .int c, rfl, c, _, ⟨rfl, rfl⟩, ?_⟩
            simp only [gSub, tVar, tC, rSetL, tRet, tOp]
            exact ⟨_, rfl, acc, [.ref ad, .int c], 1, 1, rfl, rfl, at1, rfl, fin _ _ _ rfl (.inr (by split <;> omega)) rfl rfl _ fun H' h => ⟨trivial, h⟩⟩
          · refine ⟨_, SqL.of at1, .int c, rfl, c, _, ⟨rfl, rfl⟩, ?_⟩
            simp only [gSub, tVar, tC, rSetL, tRet, tOp]
            exact ⟨_, rfl, acc, [.ref ad, .int c], 1, 1, rfl, rfl, at1, rfl, fin _ _ _ rfl (.inl (by split <;> (try split) <;> omega)) rfl rfl _ fun H' h => ⟨trivial, h⟩⟩
        · refine ⟨_, SqL.of at1, .int c, rfl, c, _, ⟨rfl, rfl⟩, ?_⟩
          simp only [gSub, tVar, tC, rSetL, tRet, tOp]
          exact ⟨_, rfl, acc, [.ref ad, .int c], 1, 1, rfl, rfl, at1, rfl, fin _ _ _ rfl (.inl (by split <;> (try split) <;> omega)) rfl rfl _ fun H' h => ⟨trivial, h⟩⟩
      · refine ⟨_, SqL.of (s1 _ _ hA.at_), .ref ad, rfl, ad, rfl, _, DGet.k (k := .inl num) (s1 _ _ hA.dict), ?_⟩
        by_cases hx : ∃ x ∈ ts, x.1 = num
        · obtain ⟨x, hx, rfl⟩ := hx
          rw [hP.get hx, if_neg (by simp)]
          obtain ⟨t', hxs⟩ := hP.of (n := x.1) (d := x.2.1) (t := x.2.2) hx
          exact ⟨_, SqL.of (s1 _ _ hA.at_), .ref ad, rfl, ad, rfl, .ref x.2.2, by rw [← hP.get hx]; exact DGet.k (k := .inl x.1) (s1 _ _ hA.dict), p, d1, d2, st, c, x.1, x.2.1, t', x.2.2, rfl, hP.s.same s1, hxs, (hA.td x hx).same s1, fun H2 s2 => q H2 st ts c ((s1.trans s2).x _) (hP.same (s1.trans s2)) (by omega) (by omega) (by omega)⟩
        · have hx' : ∀ x ∈ ts, x.1 ≠ num := fun x h e => hx ⟨x, h, e⟩
          rw [St_no hx', if_pos (by decide)]
          exact ⟨by walk_at "side", p, d1, d2, st, c, _, num, rfl, hP.s.same s1, fun x hm e => by
            obtain ⟨t', h⟩ := hP.to (n := x.1) (d := x.2.1) (t := x.2.2) hm
            exact hx' _ h e, fun H2 s2 => q H2 st ts c ((s1.trans s2).x _) (hP.same (s1.trans s2)) (by omega) (by omega) (by omega)⟩
def sp__law_whole_store (P : Program) (w : World) (cs ob : Nat → Addr) : Sp := fun vs H Q _ => ∃ p d1 d2 acc ad st ts c, vs = [.ref p, .ref acc] ∧ PrAt P w ob H p d1 d2 acc ad st ts c ∧ st.length < 900 ∧ ∀ H', Same H H' → Q (.bl true) H'
seal PE PT PW PA PS PSs PI PG PIfs PGs PO in
theorem ok__law_whole_store {P : Program} {w : World} {K : PySem.W.Frag} {mg : Str → Option Value} {base : Heap} {CT : Addr} {cs : Nat → Addr} {ob : Nat → Addr} {f : Addr} {fd : FuncData} (Z : Zs mg) (T : Tx K mg CT cs ob) (G__law_refused : Cal P w K mg base 6 "_law_refused" ["_law_store", "_law_way", "_law_number"] (sp__law_refused P w cs ob)) (G__law_whole : Cal P w K mg base 1 "_law_whole" ["_law_found"] (sp__law_whole K)) (G__law_page_as : Cal P w K mg base 6 "_law_page_as" ["_law_store", "_law_number", "_law_told"] (sp__law_page_as P w cs ob)) (M_Pages_numbers : MeV P w K mg base 1 (ob 3) "numbers" (sp_Pages_numbers P w ob)) (M_Pages_dealt : MeV P w K mg base 1 (ob 3) "dealt" (sp_Pages_dealt P w ob)) (F : Fun K "_law_whole_store" "_law_whole_store" s__law_whole_store f fd) : FnOk P w K mg base CX0 7 f fd ["_law_store", "_law_account"] (sp__law_whole_store P w cs ob) := by
  refine F.ok sc__law_whole_store (fun vs H Q E h => ?_) (fun cdv A outer s H vs Q E hr h => ?_)
  · obtain ⟨p, d1, d2, acc, ad, st, ts, c, rfl, _⟩ := h; rfl
  obtain ⟨p, d1, d2, acc, ad, st, ts, c, rfl, hP, few, q⟩ := h
  refine ⟨_, (@pss_cons _ _ _ _ _ (ps_set (i := 2) sc__law_whole_store.nd rfl (Or.inl rfl) (PE1.pe (pe1_methV0 (k := 6) (pv 0) hr rfl) throwsN))
      (@pss_cons _ _ _ _ _ (ps_if (PW.pt (pw_or (pt_not (pt_val (pe_callB call_isinst rfl (Z.isinstance) bo_isinstance (pa_c (pv 2) (pa_c (pe_bltn rfl (Z.list) bo_list (v := .ty "list") rfl) pa_nil))) (fun _ => rfl))) (pw_or1 (pt_cmpR (op_neD (hr.units)) (pv 2) (pe_callB (call_sortedD hr.hd) rfl (Z.sorted) bo_sorted (pa_c (pe_ix ix_list (pv 1) pe_int (fun _ _ => rfl)) pa_nil)) (nomark _))))) (pss_one (ps_ret pe_bl)) pss_nil)
      (@pss_cons _ _ _ _ _ (ps_if (PW.pt (pw_or (pt_not (pt_val (pe_cal G__law_whole (k := 6) hr (by decide) rfl (pa_c (PE1.pe (pe1_methV0 (k := 6) (pv 0) hr rfl) throwsN) pa_nil)) (fun _ => rfl))) (pw_or1 (pt_cmpR op_ne (PE1.pe (pe1_methV0 (k := 6) (pv 0) hr rfl) throwsN) (pe_ix ix_list (pv 1) pe_int (fun _ _ => rfl)) (nomark _))))) (pss_one (ps_ret pe_bl)) pss_nil)
      (@pss_cons _ _ _ _ _ (ps_expr (pe_bm PySem.F.plainAttrs_list PySem.F.slot_list_append PySem.F.type_list_append mt_append (pv 2) (pa_c (pe_ix ix_list (pv 1) pe_int (fun _ _ => rfl)) pa_nil)))
      (@pss_cons _ _ _ _ _ (ps_thaw (ps_for PassesOwn.never rfl (pi_dict (pe_ix ix_list (pv 1) pe_int (fun _ _ => rfl))) (pg_name (i := 3) sc__law_whole_store.nd rfl (Or.inl rfl)) (pss_one (ps_if (pt_not (pt_val (pe_cal G__law_page_as (k := 6) hr (by decide) rfl (pa_c (pv 0) (pa_c (pv 3) (pa_c (pe_dget hr.u1 (pe_ix ix_list (pv 1) pe_int (fun _ _ => rfl)) (pv 3) (fun _ _ => rfl)) pa_nil)))) (fun _ => rfl))) (pss_one (ps_ret pe_bl)) pss_nil))))
      (pss_one (ps_ret (pe_and (pe_cmpR (op_eqD (hr.units)) (PE1.pe (pe1_methV0 (k := 6) (pv 0) hr rfl) throwsN) (pe_callB (call_sortedD hr.hd) rfl (Z.sorted) bo_sorted (pa_c (pe_ix ix_list (pv 1) pe_int (fun _ _ => rfl)) pa_nil)) (nomark _)) (pe_one (pe_cal G__law_refused (k := 6) hr (by decide) rfl (pa_c (pv 0) (pa_c pe_int (pa_c (pe_ix ix_list (pv 1) pe_int (fun _ _ => rfl)) pa_nil))))))))))))), ?_⟩
  refine rd_start (σ := [some (.ref p), some (.ref acc), none, none]) rfl ?_
  walk_at "rd"
  have hA := hP.a
  obtain ⟨dx, ho⟩ := hP.s.obj
  have cc := T.ob_ 3 (by decide)
  have srt : ∀ (G : Hp) (ls : List Int) (R : VK), Same H G → ls.Perm (st.map (·.1)) → ls.Pairwise (· ≤ ·) → (∀ (D : Addr) (H1 : Hp), Same G H1 → G D = none → H1 D = some (.lst (ls.map V.int)) → R (.ref D) H1) → rSortD [.ref ad] G R := fun G ls R sg pl wl hR => by
    have em : (ts.map numOf).map (fun p => kV p.1) = (st.map (·.1)).map V.int := by rw [← hP.nums, List.map_map, List.map_map]; rfl
    refine ⟨ad, _, ltP, rfl, sg _ _ hA.dict, by rw [List.length_map, hP.len]; omega, by rw [em]; exact one_ints (fun v hv => by obtain ⟨n, _, e⟩ := List.mem_map.mp hv; exact ⟨n, e.symm⟩), fun D H' ys s hD hy pm pw => ?_⟩
    rw [em] at pm
    obtain ⟨ms, rfl, pm', pw'⟩ := sortedI pm pw
    rw [perm_sorted (pm'.trans pl.symm) pw' wl] at hy
    exact hR D H' s hD hy
  have lst : ∀ (G : Hp) (a b : Addr) (ls : List Int) (neg : Bool) (R : VK), G a = some (.lst (ls.map V.int)) → G b = some (.lst (ls.map V.int)) → R (.bl (!neg)) G → rD K neg (.ref a) (.ref b) G R := fun G a b ls neg R ha hb r => by
    have rep : ∀ x, G x = some (.lst (ls.map V.int)) → Rep K G 1 (.l ((ls.map V.int).map Dt.v)) (.ref x) := fun x hx => .l (SqL.of hx) (by simp) fun i d y h1 h2 => by
      rw [List.getElem?_map, h2] at h1
      cases h1
      obtain ⟨n, _, rfl⟩ := List.mem_map.mp (List.mem_of_getElem? h2)
      exact .v rfl
    exact rD_same (n := 1) (by decide) (rep a ha) (rep b hb) r
  refine rd_methV0 rfl ho rfl cc.cl (M_Pages_numbers.mono (by decide)) ⟨p, d1, d2, st, c, rfl, hP.s, by omega, fun r H1 ms s1 hr1 h1 pm pw => ?_⟩
  refine isI_of (.lst h1) kit_lst_lst ⟨_, rfl, ?_⟩
  rw [if_neg (by decide)]
  refine ⟨_, SqL.of (s1 _ _ hA.at_), .ref ad, rfl, srt H1 ms _ s1 pm pw fun D H2 s2 hD h2 => ?_⟩
  have s12 := s1.trans s2
  refine lst H2 r D ms true _ (s2 _ _ h1) h2 ⟨_, rfl, ?_⟩
  rw [if_neg (by decide)]
  refine rd_methV0 rfl (s12 _ _ ho) rfl cc.cl (M_Pages_dealt.mono (by decide)) ⟨p, d1, d2, st, c, rfl, hP.s.same s12, c, rfl, _, rfl, ?_⟩
  rw [if_neg (by decide)]
  refine rd_methV0 rfl (s12 _ _ ho) rfl cc.cl (M_Pages_dealt.mono (by decide)) ⟨p, d1, d2, st, c, rfl, hP.s.same s12, _, SqL.of (s12 _ _ hA.at_), .int c, rfl, rfl, ?_⟩
  rw [if_neg (fun z => z rfl)]
  have lms : ms.length ≤ 900 := by rw [pm.length_eq, List.length_map]; omega
  refine ⟨.inl ⟨rfl, _, SqL.of (s2 _ _ h1)⟩, _, SqL.of (s12 _ _ hA.at_), .int c, rfl, r, rfl, _, s2 _ _ h1, small1000 (by rw [List.length_map]; omega), ?_⟩
  have s3 : Same H (upd H2 r (.lst (ms.map V.int ++ [.int c]))) := same_updN s12 hr1
  generalize upd H2 r (.lst (ms.map V.int ++ [.int c])) = H3 at s3 ⊢
  have hP3 := hP.same s3
  refine ⟨_, SqL.of hP3.a.at_, .ref ad, rfl, ad, rfl, _, hP3.a.dict, fun ob1 nf => ?_⟩
  have stf : SameT H3 (upd H3 ad (.frz ob1 (.dK (ts.map numOf)))) := fun b xs e => by rw [upd_ne (ne_of e hP3.a.dict (by intro z; cases z))]; exact e
  refine foR_dict (fun i σ' H' => ∃ x3, σ' = [some (.ref p), some (.ref acc), some (.ref r), x3] ∧ Same (upd H3 ad (.frz ob1 (.dK (ts.map numOf)))) H') ⟨_, rfl, Same.refl _⟩ (fun i σ' H' _ ⟨_, _, e⟩ => e _ _ upd_same) ?_ ?_
  · rintro i k v σ' H' hkv ⟨x3, rfl, s4⟩
    rw [List.getElem?_map] at hkv
    obtain ⟨x, hx, ex⟩ := Option.map_eq_some_iff.mp hkv
    injection ex with ek ev
    subst ek ev
    have hmx := List.mem_of_getElem? hx
    obtain ⟨t', hxs⟩ := hP.of (n := x.1) (d := x.2.1) (t := x.2.2) hmx
    walk_at "rd"
    refine ⟨_, SqL.of (s4 _ _ (by rw [upd_ne hP3.aa]; exact hP3.a.at_)), .ref ad, rfl, ad, rfl, .ref x.2.2, .inl ⟨_, .inl x.1, .inr ⟨ob1, s4 _ _ upd_same⟩, rfl, (hP.get hmx).symm⟩, ?_⟩
    refine ⟨p, d1, d2, st, c, x.1, x.2.1, t', x.2.2, rfl, hP3.stA.same s4, hxs, TD.sameT (stf.trans s4.t) 8 (hP3.a.td x hmx), fun H5 s5 => ⟨_, rfl, ?_⟩⟩
    rw [if_neg (by decide)]
    exact s4.trans s5
  · rintro σ' H' ⟨x3, rfl, s4⟩
    refine ⟨ad, nf, ob1, _, s4 _ _ upd_same, ?_⟩
    have s5 : Same H (upd H' ad (.dK (ts.map numOf))) := fun b o hb => by
      by_cases e : b = ad
      · rw [e, upd_same]; rw [e, hA.dict] at hb; exact hb
      · rw [upd_ne e]; exact s4 _ _ (by rw [upd_ne e]; exact s3 _ _ hb)
    generalize upd H' ad (.dK (ts.map numOf)) = H5 at s5 ⊢
    refine rd_methV0 rfl (s5 _ _ ho) rfl cc.cl (M_Pages_numbers.mono (by decide)) ⟨p, d1, d2, st, c, rfl, hP.s.same s5, by omega, fun r2 H6 ms2 s6 hr6 h6 pm6 pw6 => ?_⟩
    have s56 := s5.trans s6
    refine ⟨_, rfl, acc, rfl, _, SqL.of (s56 _ _ hA.at_), .ref ad, rfl, srt H6 ms2 _ s56 pm6 pw6 fun D7 H7 s7 hD7 h7 => ?_⟩
    refine lst H7 r2 D7 ms2 false _ (s7 _ _ h6) h7 ⟨true, rfl, ?_⟩
    rw [if_pos rfl]
    have s57 := s56.trans s7
    exact ⟨_, rfl, _, rfl, acc, rfl, _, SqL.of (s57 _ _ hA.at_), .int c, rfl, p, d1, d2, st, c, 0, c, rfl, hP.s.same s57, fun x hx e => by have := hP.s.lt x hx; omega, fun H8 s8 => q H8 (s57.trans s8)⟩
--@SPLIT
section
variable {P : Program} {w : World} {ob : Nat → Addr} {H H' : Hp} {p d1 d2 acc ad : Addr} {st ts : StL} {c : Int}
theorem PrAt.sameT (h : PrAt P w ob H p d1 d2 acc ad st ts c) (s : SameX [p, d1, d2, acc, ad] H H') : SameT H H' := fun b xs e => s b _ (fun z => by
  obtain ⟨dx, eo⟩ := h.s.obj
  simp only [List.mem_cons, List.not_mem_nil, or_false] at z
  rcases z with z | z | z | z | z
  · rw [z, eo] at e; cases e
  · rw [z, h.s.num] at e; cases e
  · rw [z, h.s.tol] at e; cases e
  · rw [z, h.a.at_] at e; cases e
  · rw [z, h.a.dict] at e; cases e) e
theorem PrAt.frame (h : PrAt P w ob H p d1 d2 acc ad st ts c) {S : List Addr} (s : SameX S H H') (t : SameT H H') (hn : ∀ a ∈ [p, d1, d2, acc, ad], a ∉ S) : PrAt P w ob H' p d1 d2 acc ad st ts c := by
  obtain ⟨dx, eo⟩ := h.s.obj
  exact ⟨h.s.keep t (by rw [s _ _ (hn _ (by simp)) eo, eo]) (by rw [s _ _ (hn _ (by simp)) h.s.num, h.s.num]) (by rw [s _ _ (hn _ (by simp)) h.s.tol, h.s.tol]), ⟨s _ _ (hn _ (by simp)) h.a.at_, s _ _ (hn _ (by simp)) h.a.dict, fun x hx => TD.sameT t 8 (h.a.td x hx)⟩, h.eq, h.ne⟩
end
def sp_law (K : PySem.W.Frag) : Sp := fun vs H Q _ => ∃ (a : Addr) (ns : List Int), vs = [.ref a] ∧ SqL K H a (ns.map V.int) ∧ ns.length ≤ 63 ∧ ∀ H', Q (.bl true) H'
seal PE PT PW PA PS PSs PI PG PIfs PGs PO in
theorem ok_law {P : Program} {w : World} {K : PySem.W.Frag} {mg : Str → Option Value} {base : Heap} {CT : Addr} {cs : Nat → Addr} {ob : Nat → Addr} {f : Addr} {fd : FuncData} (Z : Zs mg) (T : Tx K mg CT cs ob) (G__law_whole_store : Cal P w K mg base 7 "_law_whole_store" ["_law_store", "_law_account"] (sp__law_whole_store P w cs ob)) (G__law_deed : Cal P w K mg base 7 "_law_deed" ["_law_store", "_law_account", "_law_cell"] (sp__law_deed P w cs ob)) (K_Pages : MkV P w K mg base 1 "Pages" (ob 3) (sp_Pages_init P w ob)) (M_Pages_dealt : MeV P w K mg base 1 (ob 3) "dealt" (sp_Pages_dealt P w ob)) (F : Fun K "law" "law" s_law f fd) : FnOk P w K mg base CX0 8 f fd ["_law_script"] (sp_law K) := by
  refine F.ok sc_law (fun vs H Q E h => by obtain ⟨a, ns, rfl, _⟩ := h; rfl) (fun cdv A outer s H vs Q E hr h => ?_)
  obtain ⟨a, ns, rfl, hS, h63, q⟩ := h
  refine ⟨_, (@pss_cons _ _ _ _ _ (ps_set (i := 1) sc_law.nd rfl (Or.inl rfl) (pe_lst (pa_c (pe_mk0 K_Pages (k := 7) hr (by decide) rfl) (pa_c (pe_mk0 K_Pages (k := 7) hr (by decide) rfl) pa_nil))))
      (@pss_cons _ _ _ _ _ (ps_set (i := 2) sc_law.nd rfl (Or.inl rfl) (pe_lst (pa_c (pe_lst (pa_c pe_dnewK (pa_c pe_int pa_nil))) (pa_c (pe_lst (pa_c pe_dnewK (pa_c pe_int pa_nil))) pa_nil))))
      (@pss_cons _ _ _ _ _ (ps_for PassesOwn.never rfl (pi_list (pe_slice sl_list (pv 0) po_none (po_some pe_int))) (pg_name (i := 3) sc_law.nd rfl (Or.inl rfl)) (@pss_cons _ _ _ _ _ (ps_set (i := 4) sc_law.nd rfl (Or.inl rfl) (pe_op op_fdiv (pe_op op_mod (pv 3) pe_int) pe_int))
      (@pss_cons _ _ _ _ _ (ps_if (pt_not (pt_val (pe_cal G__law_deed (k := 7) hr (by decide) rfl (pa_c (pe_ix ix_list (pv 1) (pv 4) (fun _ _ => rfl)) (pa_c (pe_ix ix_list (pv 2) (pv 4) (fun _ _ => rfl)) (pa_c (pe_op op_fdiv (pv 3) pe_int) pa_nil)))) (fun _ => rfl))) (pss_one (ps_ret pe_bl)) pss_nil)
      (pss_one (ps_if (pt_cmpR op_ne (PE1.pe (pe1_methV0 (k := 7) (pe_ix ix_list (pv 1) (pv 4) (fun _ _ => rfl)) hr rfl) throwsN) (pe_ix ix_list (pe_ix ix_list (pv 2) (pv 4) (fun _ _ => rfl)) pe_int (fun _ _ => rfl)) (nomark _)) (pss_one (ps_ret pe_bl)) pss_nil)))))
      (pss_one (ps_ret (pe_and (pe_cal G__law_whole_store (k := 7) hr (by decide) rfl (pa_c (pe_ix ix_list (pv 1) pe_int (fun _ _ => rfl)) (pa_c (pe_ix ix_list (pv 2) pe_int (fun _ _ => rfl)) pa_nil))) (pe_one (pe_cal G__law_whole_store (k := 7) hr (by decide) rfl (pa_c (pe_ix ix_list (pv 1) pe_int (fun _ _ => rfl)) (pa_c (pe_ix ix_list (pv 2) pe_int (fun _ _ => rfl)) pa_nil)))))))))), ?_⟩
  refine rd_start (σ := [some (.ref a), none, none, none, none]) rfl ?_
  walk_at "rd"
  intro x0 dx0 hx0 hdx0 hne0
  refine ⟨x0, dx0, rfl, upd_same, fun da0 db0 H1 dx fs _ _ s1 st0 => ⟨rfl, ?_⟩⟩
  intro x1 dx1 hx1 hdx1 hne1
  refine ⟨x1, dx1, rfl, upd_same, fun da1 db1 H2 dx fs hda1' hdb1' s2 st1 => ⟨rfl, ?_⟩⟩
  have nn : ∀ {b}, upd (upd H1 dx1 (.own x1)) x1 (.ins (ob 3) dx1 []) b = none → H1 b = none := fun {b} h => by
    cases e : H1 b with
    | none => rfl
    | some o => rw [same_mk hx1 hdx1 (Same.refl _) _ _ e] at h; cases h
  have hda1 := nn hda1'
  have hdb1 := nn hdb1'
  rw [upd_upd] at s2
  have S1 : Same H1 H2 := same_mk hx1 hdx1 s2
  have S0 : Same H H1 := by rw [upd_upd] at s1; exact same_mk hx0 hdx0 s1
  obtain ⟨dxa, c_x0⟩ := st0.obj
  obtain ⟨dxb, c_x1⟩ := st1.obj
  refine ⟨two_ok, fun sl hsl => ?_⟩
  have S2 := same_upd hsl (.lst [.ref x0, .ref x1])
  have c_sl : upd H2 sl (.lst [.ref x0, .ref x1]) sl = some (.lst [.ref x0, .ref x1]) := upd_same
  generalize upd H2 sl (.lst [.ref x0, .ref x1]) = G2 at S2 c_sl ⊢
  intro d0 hd0
  have S3 := same_upd hd0 (.dK [])
  have c_d0 : upd G2 d0 (.dK []) d0 = some (.dK []) := upd_same
  generalize upd G2 d0 (.dK []) = G3 at S3 c_d0 ⊢
  refine ⟨two_ok, fun a0 ha0 => ?_⟩
  have S4 := same_upd ha0 (.lst [.ref d0, .int 0])
  have c_a0 : upd G3 a0 (.lst [.ref d0, .int 0]) a0 = some (.lst [.ref d0, .int 0]) := upd_same
  generalize upd G3 a0 (.lst [.ref d0, .int 0]) = G4 at S4 c_a0 ⊢
  intro d1 hd1
  have S5 := same_upd hd1 (.dK [])
  have c_d1 : upd G4 d1 (.dK []) d1 = some (.dK []) := upd_same
  generalize upd G4 d1 (.dK []) = G5 at S5 c_d1 ⊢
  refine ⟨two_ok, fun a1 ha1 => ?_⟩
  have S6 := same_upd ha1 (.lst [.ref d1, .int 0])
  have c_a1 : upd G5 a1 (.lst [.ref d1, .int 0]) a1 = some (.lst [.ref d1, .int 0]) := upd_same
  generalize upd G5 a1 (.lst [.ref d1, .int 0]) = G6 at S6 c_a1 ⊢
  refine ⟨two_ok, fun al hal => ?_⟩
  have S7 := same_upd hal (.lst [.ref a0, .ref a1])
  have c_al : upd G6 al (.lst [.ref a0, .ref a1]) al = some (.lst [.ref a0, .ref a1]) := upd_same
  generalize upd G6 al (.lst [.ref a0, .ref a1]) = G7 at S7 c_al ⊢
  refine ⟨_, (S0.trans ((((((S1.trans S2).trans S3).trans S4).trans S5).trans S6).trans S7)).seq hS, fun cl hcl => ?_⟩
  obtain ⟨ms, em, lm, hm⟩ := cutV_map V.int ns none (some 60)
  rw [em]
  have S8 := same_upd hcl (.lst (ms.map V.int))
  have c_cl : upd G7 cl (.lst (ms.map V.int)) cl = some (.lst (ms.map V.int)) := upd_same
  generalize upd G7 cl (.lst (ms.map V.int)) = G8 at S8 c_cl ⊢
  refine ⟨⟨_, SqL.of c_cl⟩, ?_⟩
  have m_x0 : x0 ∉ [x1, da1, db1, a1, d1] := (by simp only [List.mem_cons, List.not_mem_nil, or_false, not_or]; exact ⟨(ne_of_none c_x0 hx1), (ne_of_none c_x0 hda1), (ne_of_none c_x0 hdb1), (ne_of_none (((((S1.trans S2).trans S3).trans S4).trans S5) _ _ c_x0) ha1), (ne_of_none ((((S1.trans S2).trans S3).trans S4) _ _ c_x0) hd1)⟩)
  have m_da0 : da0 ∉ [x1, da1, db1, a1, d1] := (by simp only [List.mem_cons, List.not_mem_nil, or_false, not_or]; exact ⟨(ne_of_none st0.num hx1), (ne_of_none st0.num hda1), (ne_of_none st0.num hdb1), (ne_of_none (((((S1.trans S2).trans S3).trans S4).trans S5) _ _ st0.num) ha1), (ne_of_none ((((S1.trans S2).trans S3).trans S4) _ _ st0.num) hd1)⟩)
  have m_db0 : db0 ∉ [x1, da1, db1, a1, d1] := (by simp only [List.mem_cons, List.not_mem_nil, or_false, not_or]; exact ⟨(ne_of_none st0.tol hx1), (ne_of_none st0.tol hda1), (ne_of_none st0.tol hdb1), (ne_of_none (((((S1.trans S2).trans S3).trans S4).trans S5) _ _ st0.tol) ha1), (ne_of_none ((((S1.trans S2).trans S3).trans S4) _ _ st0.tol) hd1)⟩)
  have m_a0 : a0 ∉ [x1, da1, db1, a1, d1] := (by simp only [List.mem_cons, List.not_mem_nil, or_false, not_or]; exact ⟨(Ne.symm (ne_of_none ((S2.trans S3) _ _ c_x1) ha0)), (Ne.symm (ne_of_none ((S2.trans S3) _ _ st1.num) ha0)), (Ne.symm (ne_of_none ((S2.trans S3) _ _ st1.tol) ha0)), (ne_of_none (S5 _ _ c_a0) ha1), (ne_of_none c_a0 hd1)⟩)
  have m_d0 : d0 ∉ [x1, da1, db1, a1, d1] := (by simp only [List.mem_cons, List.not_mem_nil, or_false, not_or]; exact ⟨(Ne.symm (ne_of_none (S2 _ _ c_x1) hd0)), (Ne.symm (ne_of_none (S2 _ _ st1.num) hd0)), (Ne.symm (ne_of_none (S2 _ _ st1.tol) hd0)), (ne_of_none ((S4.trans S5) _ _ c_d0) ha1), (ne_of_none (S4 _ _ c_d0) hd1)⟩)
  have m_x1 : x1 ∉ [x0, da0, db0, a0, d0] := (by simp only [List.mem_cons, List.not_mem_nil, or_false, not_or]; exact ⟨(Ne.symm (ne_of_none c_x0 hx1)), (Ne.symm (ne_of_none st0.num hx1)), (Ne.symm (ne_of_none st0.tol hx1)), (ne_of_none ((S2.trans S3) _ _ c_x1) ha0), (ne_of_none (S2 _ _ c_x1) hd0)⟩)
  have m_da1 : da1 ∉ [x0, da0, db0, a0, d0] := (by simp only [List.mem_cons, List.not_mem_nil, or_false, not_or]; exact ⟨(Ne.symm (ne_of_none c_x0 hda1)), (Ne.symm (ne_of_none st0.num hda1)), (Ne.symm (ne_of_none st0.tol hda1)), (ne_of_none ((S2.trans S3) _ _ st1.num) ha0), (ne_of_none (S2 _ _ st1.num) hd0)⟩)
  have m_db1 : db1 ∉ [x0, da0, db0, a0, d0] := (by simp only [List.mem_cons, List.not_mem_nil, or_false, not_or]; exact ⟨(Ne.symm (ne_of_none c_x0 hdb1)), (Ne.symm (ne_of_none st0.num hdb1)), (Ne.symm (ne_of_none st0.tol hdb1)), (ne_of_none ((S2.trans S3) _ _ st1.tol) ha0), (ne_of_none (S2 _ _ st1.tol) hd0)⟩)
  have m_a1 : a1 ∉ [x0, da0, db0, a0, d0] := (by simp only [List.mem_cons, List.not_mem_nil, or_false, not_or]; exact ⟨(Ne.symm (ne_of_none (((((S1.trans S2).trans S3).trans S4).trans S5) _ _ c_x0) ha1)), (Ne.symm (ne_of_none (((((S1.trans S2).trans S3).trans S4).trans S5) _ _ st0.num) ha1)), (Ne.symm (ne_of_none (((((S1.trans S2).trans S3).trans S4).trans S5) _ _ st0.tol) ha1)), (Ne.symm (ne_of_none (S5 _ _ c_a0) ha1)), (Ne.symm (ne_of_none ((S4.trans S5) _ _ c_d0) ha1))⟩)
  have m_d1 : d1 ∉ [x0, da0, db0, a0, d0] := (by simp only [List.mem_cons, List.not_mem_nil, or_false, not_or]; exact ⟨(Ne.symm (ne_of_none ((((S1.trans S2).trans S3).trans S4) _ _ c_x0) hd1)), (Ne.symm (ne_of_none ((((S1.trans S2).trans S3).trans S4) _ _ st0.num) hd1)), (Ne.symm (ne_of_none ((((S1.trans S2).trans S3).trans S4) _ _ st0.tol) hd1)), (Ne.symm (ne_of_none c_a0 hd1)), (Ne.symm (ne_of_none (S4 _ _ c_d0) hd1))⟩)
  have u_sl : sl ∉ [x0, da0, db0, a0, d0] := (by simp only [List.mem_cons, List.not_mem_nil, or_false, not_or]; exact ⟨(Ne.symm (ne_of_none (S1 _ _ c_x0) hsl)), (Ne.symm (ne_of_none (S1 _ _ st0.num) hsl)), (Ne.symm (ne_of_none (S1 _ _ st0.tol) hsl)), (ne_of_none (S3 _ _ c_sl) ha0), (ne_of_none c_sl hd0)⟩)
  have v_sl : sl ∉ [x1, da1, db1, a1, d1] := (by simp only [List.mem_cons, List.not_mem_nil, or_false, not_or]; exact ⟨(Ne.symm (ne_of_none c_x1 hsl)), (Ne.symm (ne_of_none st1.num hsl)), (Ne.symm (ne_of_none st1.tol hsl)), (ne_of_none (((S3.trans S4).trans S5) _ _ c_sl) ha1), (ne_of_none ((S3.trans S4) _ _ c_sl) hd1)⟩)
  have u_al : al ∉ [x0, da0, db0, a0, d0] := (by simp only [List.mem_cons, List.not_mem_nil, or_false, not_or]; exact ⟨(Ne.symm (ne_of_none ((((((S1.trans S2).trans S3).trans S4).trans S5).trans S6) _ _ c_x0) hal)), (Ne.symm (ne_of_none ((((((S1.trans S2).trans S3).trans S4).trans S5).trans S6) _ _ st0.num) hal)), (Ne.symm (ne_of_none ((((((S1.trans S2).trans S3).trans S4).trans S5).trans S6) _ _ st0.tol) hal)), (Ne.symm (ne_of_none ((S5.trans S6) _ _ c_a0) hal)), (Ne.symm (ne_of_none (((S4.trans S5).trans S6) _ _ c_d0) hal))⟩)
  have v_al : al ∉ [x1, da1, db1, a1, d1] := (by simp only [List.mem_cons, List.not_mem_nil, or_false, not_or]; exact ⟨(Ne.symm (ne_of_none (((((S2.trans S3).trans S4).trans S5).trans S6) _ _ c_x1) hal)), (Ne.symm (ne_of_none (((((S2.trans S3).trans S4).trans S5).trans S6) _ _ st1.num) hal)), (Ne.symm (ne_of_none (((((S2.trans S3).trans S4).trans S5).trans S6) _ _ st1.tol) hal)), (Ne.symm (ne_of_none c_a1 hal)), (Ne.symm (ne_of_none (S6 _ _ c_d1) hal))⟩)
  have u_cl : cl ∉ [x0, da0, db0, a0, d0] := (by simp only [List.mem_cons, List.not_mem_nil, or_false, not_or]; exact ⟨(Ne.symm (ne_of_none (((((((S1.trans S2).trans S3).trans S4).trans S5).trans S6).trans S7) _ _ c_x0) hcl)), (Ne.symm (ne_of_none (((((((S1.trans S2).trans S3).trans S4).trans S5).trans S6).trans S7) _ _ st0.num) hcl)), (Ne.symm (ne_of_none (((((((S1.trans S2).trans S3).trans S4).trans S5).trans S6).trans S7) _ _ st0.tol) hcl)), (Ne.symm (ne_of_none (((S5.trans S6).trans S7) _ _ c_a0) hcl)), (Ne.symm (ne_of_none ((((S4.trans S5).trans S6).trans S7) _ _ c_d0) hcl))⟩)
  have v_cl : cl ∉ [x1, da1, db1, a1, d1] := (by simp only [List.mem_cons, List.not_mem_nil, or_false, not_or]; exact ⟨(Ne.symm (ne_of_none ((((((S2.trans S3).trans S4).trans S5).trans S6).trans S7) _ _ c_x1) hcl)), (Ne.symm (ne_of_none ((((((S2.trans S3).trans S4).trans S5).trans S6).trans S7) _ _ st1.num) hcl)), (Ne.symm (ne_of_none ((((((S2.trans S3).trans S4).trans S5).trans S6).trans S7) _ _ st1.tol) hcl)), (Ne.symm (ne_of_none (S7 _ _ c_a1) hcl)), (Ne.symm (ne_of_none ((S6.trans S7) _ _ c_d1) hcl))⟩)
  have q0 : PrAt P w ob G8 x0 da0 db0 a0 d0 [] [] 0 := ⟨st0.same (((((((S1.trans S2).trans S3).trans S4).trans S5).trans S6).trans S7).trans S8), ⟨(((S5.trans S6).trans S7).trans S8) _ _ c_a0, ((((S4.trans S5).trans S6).trans S7).trans S8) _ _ c_d0, fun x hx => nomatch hx⟩, rfl, (Ne.symm (ne_of_none ((S1.trans S2) _ _ st0.num) hd0))⟩
  have q1 : PrAt P w ob G8 x1 da1 db1 a1 d1 [] [] 0 := ⟨st1.same ((((((S2.trans S3).trans S4).trans S5).trans S6).trans S7).trans S8), ⟨(S7.trans S8) _ _ c_a1, ((S6.trans S7).trans S8) _ _ c_d1, fun x hx => nomatch hx⟩, rfl, (Ne.symm (ne_of_none (((S2.trans S3).trans S4) _ _ st1.num) hd1))⟩
  have r_sl := (((((S3.trans S4).trans S5).trans S6).trans S7).trans S8) _ _ c_sl
  have r_al := S8 _ _ c_al
  clear S0 S1 S2 S3 S4 S5 S6 S7 S8 c_sl c_d0 c_a0 c_d1 c_a1 c_al c_x0 c_x1 hsl hd0 ha0 hd1 ha1 hal hcl hda1 hdb1 hda1' hdb1' st0 st1 s1 s2 nn hx0 hdx0 hx1 hdx1
  refine foR_list (ms.map V.int) (fun i σ' H' => ∃ st0 ts0 c0 st1 ts1 c1 x3 x4, σ' = [some (.ref a), some (.ref sl), some (.ref al), x3, x4] ∧ H' sl = some (.lst [.ref x0, .ref x1]) ∧ H' al = some (.lst [.ref a0, .ref a1]) ∧ H' cl = some (.lst (ms.map V.int)) ∧ PrAt P w ob H' x0 da0 db0 a0 d0 st0 ts0 c0 ∧ PrAt P w ob H' x1 da1 db1 a1 d1 st1 ts1 c1 ∧
    st0.length ≤ i ∧ st1.length ≤ i ∧ 0 ≤ c0 ∧ c0 ≤ 2 * 10 ^ 28 + 5 * (i : Int) ∧ 0 ≤ c1 ∧ c1 ≤ 2 * 10 ^ 28 + 5 * (i : Int)) ⟨[], [], 0, [], [], 0, _, _, rfl, r_sl, r_al, c_cl, q0, q1, Nat.zero_le _, Nat.zero_le _, by omega, by omega, by omega, by omega⟩ (fun i σ' H' _ ⟨_, _, _, _, _, _, _, _, _, _, _, h, _⟩ => SqL.of h) ?_ ?_
  · rintro i x σ' H' hx ⟨st0, ts0, c0, st1, ts1, c1, x3, x4, rfl, e_sl, e_al, e_cl, p0, p1, l0, l1, z0, y0, z1, y1⟩
    have hi : i < 63 := by
      have := (List.getElem?_eq_some_iff.mp hx).1
      rw [List.length_map] at this
      omega
    rw [List.getElem?_map] at hx
    obtain ⟨n, _, rfl⟩ := Option.map_eq_some_iff.mp hx
    walk_at "rd"
    have hw : n % 7 / 5 = 0 ∨ n % 7 / 5 = 1 := by omega
    have cc := T.ob_ 3 (by decide)
    rcases hw with e | e
    · rw [e]
      refine ⟨by walk_at "side", _, SqL.of e_sl, .ref x0, rfl, _, SqL.of e_al, .ref a0, rfl, by walk_at "side", x0, da0, db0, a0, d0, st0, ts0, c0, n / 7, rfl, p0, by omega, by omega, by omega, fun H5 st' ts' c' sx p5 l5 g1 g2 => ?_⟩
      have tt := p0.sameT sx
      have p1' := p1.frame sx tt (fun b hb => by simp only [List.mem_cons, List.not_mem_nil, or_false] at hb; rcases hb with rfl | rfl | rfl | rfl | rfl <;> assumption)
      obtain ⟨dx, ho⟩ := p5.s.obj
      refine ⟨_, rfl, ?_⟩
      rw [if_neg (by decide)]
      unfold tMethV
      walk_at "rd"
      refine ⟨_, SqL.of (sx _ _ u_sl e_sl), .ref x0, rfl, x0, rfl, ob 3, dx, _, ho, rfl, cc.cl, _, M_Pages_dealt.mono (by decide), ⟨x0, da0, db0, st', c', rfl, p5.s, ?_⟩⟩
      refine ⟨_, SqL.of (sx _ _ u_al e_al), .ref a0, rfl, a0, rfl, _, SqL.of p5.a.at_, .int c', rfl, rfl, ?_⟩
      rw [if_neg (fun z => z rfl)]
      exact ⟨st', ts', c', st1, ts1, c1, _, _, ⟨rfl, rfl⟩, sx _ _ u_sl e_sl, sx _ _ u_al e_al, sx _ _ u_cl e_cl, p5, p1', by omega, by omega, by omega, by omega, by omega, by omega⟩
    · rw [e]
      refine ⟨by walk_at "side", _, SqL.of e_sl, .ref x1, rfl, _, SqL.of e_al, .ref a1, rfl, by walk_at "side", x1, da1, db1, a1, d1, st1, ts1, c1, n / 7, rfl, p1, by omega, by omega, by omega, fun H5 st' ts' c' sx p5 l5 g1 g2 => ?_⟩
      have tt := p1.sameT sx
      have p0' := p0.frame sx tt (fun b hb => by simp only [List.mem_cons, List.not_mem_nil, or_false] at hb; rcases hb with rfl | rfl | rfl | rfl | rfl <;> assumption)
      obtain ⟨dx, ho⟩ := p5.s.obj
      refine ⟨_, rfl, ?_⟩
      rw [if_neg (by decide)]
      unfold tMethV
      walk_at "rd"
      refine ⟨_, SqL.of (sx _ _ v_sl e_sl), .ref x1, rfl, x1, rfl, ob 3, dx, _, ho, rfl, cc.cl, _, M_Pages_dealt.mono (by decide), ⟨x1, da1, db1, st', c', rfl, p5.s, ?_⟩⟩
      refine ⟨_, SqL.of (sx _ _ v_al e_al), .ref a1, rfl, a1, rfl, _, SqL.of p5.a.at_, .int c', rfl, rfl, ?_⟩
      rw [if_neg (fun z => z rfl)]
      exact ⟨st0, ts0, c0, st', ts', c', _, _, ⟨rfl, rfl⟩, sx _ _ v_sl e_sl, sx _ _ v_al e_al, sx _ _ v_cl e_cl, p0', p5, by omega, by omega, by omega, by omega, by omega, by omega⟩
  · rintro σ' H' ⟨st0, ts0, c0, st1, ts1, c1, x3, x4, rfl, e_sl, e_al, e_cl, p0, p1, l0, l1, z0, y0, z1, y1⟩
    rw [List.length_map] at l0 l1
    walk_at "rd"
    refine ⟨_, SqL.of e_sl, .ref x0, rfl, _, SqL.of e_al, .ref a0, rfl, x0, da0, db0, a0, d0, st0, ts0, c0, rfl, p0, by omega, fun H5 s5 => ⟨_, rfl, ?_⟩⟩
    rw [if_pos rfl]
    exact ⟨_, SqL.of (s5 _ _ e_sl), .ref x1, rfl, _, SqL.of (s5 _ _ e_al), .ref a1, rfl, x1, da1, db1, a1, d1, st1, ts1, c1, rfl, p1.same s5, by omega, fun H6 _ => q H6⟩
theorem law_sp {K : PySem.W.Frag} {H : Hp} {a : Addr} {ns : List Int} (hl : ns.length ≤ 63) (_ : ∀ i ∈ ns, Builtin.Int.intBits i ≤ 2 ^ 20) (hS : SqL K H a (ns.map V.int)) : sp_law K [.ref a] H (fun v _ => v = .bl true) fun _ _ _ => False :=
  ⟨a, ns, rfl, hS, hl, fun _ => rfl⟩
--@SPLIT
theorem all_mk {l : PySem.W.OpenLaw} {w : World} {K : PySem.W.Frag} {h : Heap} {mg : Str → Option Value} {fa : Addr} (X : K.In h) (G : h.Ns mainGlobals mg) (hfa : mg "law" = some (.ref fa))
    (ta : PySem.W.specialIn K (.builtin "object.__class__") "__get__" = some (some (.builtin "getset_descriptor.__get__"))) (tb : PySem.W.takesIn K (.builtin "object.__class__") = some true)
    {O0 : Addr} (oa0 : PySem.W.nsIn K mainGlobals "Page" = some (some (.ref O0))) (of0 : PySem.W.clsFacts K O0 ["level", "rows", "heads", "entries", "told_by_number", "number_by_told", "count"] = true)
    {O1 : Addr} (oa1 : PySem.W.nsIn K mainGlobals "Leaf" = some (some (.ref O1))) (of1 : PySem.W.clsFacts K O1 ["level", "rows", "heads", "entries", "told_by_number", "number_by_told", "count"] = true)
    (om1 : PySem.W.makesIn K O1 = true) (ok1 : PySem.W.keepIn K (.ref O1) = true)
    {O2 : Addr} (oa2 : PySem.W.nsIn K mainGlobals "Twig" = some (some (.ref O2))) (of2 : PySem.W.clsFacts K O2 ["level", "rows", "heads", "entries", "told_by_number", "number_by_told", "count"] = true)
    (om2 : PySem.W.makesIn K O2 = true) (ok2 : PySem.W.keepIn K (.ref O2) = true)
    {O3 : Addr} (oa3 : PySem.W.nsIn K mainGlobals "Pages" = some (some (.ref O3))) (of3 : PySem.W.clsFacts K O3 ["level", "rows", "heads", "entries", "told_by_number", "number_by_told", "count"] = true)
    (om3 : PySem.W.makesIn K O3 = true) (ok3 : PySem.W.keepIn K (.ref O3) = true)
    (oo : PySem.W.mtxOk K [O0, O1, O2, O3] isaM = true)
    {CT : Addr} {thd : Bool} {ynm yq : Str} {yN : Addr} {ybs : List Value} {ysn : List Str} {ysub : List Value} {yab : Bool} {ycol : Option Bool} {ydd : Option Addr} {yk0 yk1 yk2 yk3 yk5 : Option Value}
    (t1 : PySem.W.nsIn K mainGlobals "TableError" = some (some (.ref CT))) (t2 : K.lookup CT = some (excClassObj ynm yq CT yN ybs PySem.W.bmV thd ysn ysub yab ycol ydd yk0 yk1 yk2 yk3 yk5 "ValueError.__new__")) (t3 : PySem.W.nsOkIn K yN = true) (t4 : PySem.W.nsIn K yN "__init__" = some none) (t5 : PySem.W.tailIn K PySem.W.bmV PySem.W.bmV = true)
    (t6 : PySem.W.specialIn K (.ref CT) "__getattribute__" = some (some (.builtin "type.__getattribute__"))) (t7 : PySem.W.readsIn K CT (.type "type") = true) (t8 : PySem.W.findCls K (.ref CT) (.type "type") "__init__" = some (.val (.builtin "ValueError.__init__")))
    (t9 : PySem.W.tailIn K PySem.W.bmV (.ref CT :: PySem.W.bmV) = true)
    {C0 : Addr} {v0nm v0q : Str} {v0N : Addr} {v0bs : List Value} {v0sn : List Str} {v0sub : List Value} {v0ab : Bool} {v0col : Option Bool} {v0dd : Option Addr} {v0k0 v0k1 v0k2 v0k3 v0k5 : Option Value}
    (p0 : PySem.W.nsIn K mainGlobals "NoPage" = some (some (.ref C0))) (q0 : K.lookup C0 = some (excClassObj v0nm v0q C0 v0N v0bs (.ref CT :: PySem.W.bmV) true v0sn v0sub v0ab v0col v0dd v0k0 v0k1 v0k2 v0k3 v0k5 "ValueError.__new__")) (r0 : PySem.W.nsOkIn K v0N = true) (u0 : PySem.W.xFacts K C0 ["number"] = true)
    (o0 : PySem.W.keepIn K (.ref C0) = true)
    {C1 : Addr} {v1nm v1q : Str} {v1N : Addr} {v1bs : List Value} {v1sn : List Str} {v1sub : List Value} {v1ab : Bool} {v1col : Option Bool} {v1dd : Option Addr} {v1k0 v1k1 v1k2 v1k3 v1k5 : Option Value}
    (p1 : PySem.W.nsIn K mainGlobals "NoMake" = some (some (.ref C1))) (q1 : K.lookup C1 = some (excClassObj v1nm v1q C1 v1N v1bs (.ref CT :: PySem.W.bmV) true v1sn v1sub v1ab v1col v1dd v1k0 v1k1 v1k2 v1k3 v1k5 "ValueError.__new__")) (r1 : PySem.W.nsOkIn K v1N = true) (u1 : PySem.W.xFacts K C1 ["number"] = true)
    (o1 : PySem.W.keepIn K (.ref C1) = true)
    (tt : PySem.W.tabOk K [C0, C1] = true) (tu : PySem.W.tvOk K [C0, C1] = true)
    {f1 : Addr} {od1 an1 : Option Addr} {sl1 : Array (Option Value)} {oc1 kV1 dc1 pm1 cd1 ct1 : Value}
    (a1 : PySem.W.findIn K (.ref C0) "__init__" = some (some (.ref f1))) (j1 : PySem.W.isFn K (.ref f1) = true)
    (l1 : K.lookup f1 = some ⟨oc1, od1, .func (PySem.W.fnOf "__init__" "NoPage.__init__" (defArgs s_NoPage_init) (defBody s_NoPage_init) (defScope s_NoPage_init) .none kV1 dc1 pm1 an1 cd1 ct1), sl1⟩) (c1 : PySem.W.codeIn K cd1 "NoPage.__init__" = true) (k1 : PySem.W.keepIn K (.ref f1) = true)
    {f2 : Addr} {od2 an2 : Option Addr} {sl2 : Array (Option Value)} {oc2 kV2 dc2 pm2 cd2 ct2 : Value}
    (a2 : PySem.W.findIn K (.ref C1) "__init__" = some (some (.ref f2))) (j2 : PySem.W.isFn K (.ref f2) = true)
    (l2 : K.lookup f2 = some ⟨oc2, od2, .func (PySem.W.fnOf "__init__" "NoMake.__init__" (defArgs s_NoMake_init) (defBody s_NoMake_init) (defScope s_NoMake_init) .none kV2 dc2 pm2 an2 cd2 ct2), sl2⟩) (c2 : PySem.W.codeIn K cd2 "NoMake.__init__" = true) (k2 : PySem.W.keepIn K (.ref f2) = true)
    {f3 : Addr} {od3 an3 : Option Addr} {sl3 : Array (Option Value)} {oc3 kV3 dc3 pm3 cd3 ct3 : Value}
    (a3_0 : PySem.W.findIn K (.ref O0) "__init__" = some (some (.ref f3)))
    (j3 : PySem.W.isFn K (.ref f3) = true)
    (l3 : K.lookup f3 = some ⟨oc3, od3, .func (PySem.W.fnOf "__init__" "Page.__init__" (defArgs s_Page_init) (defBody s_Page_init) (defScope s_Page_init) .none kV3 dc3 pm3 an3 cd3 ct3), sl3⟩) (c3 : PySem.W.codeIn K cd3 "Page.__init__" = true) (k3 : PySem.W.keepIn K (.ref f3) = true)
    (e3 : PySem.W.clI K O0 f3 = true)
    {f4 : Addr} {od4 an4 : Option Addr} {sl4 : Array (Option Value)} {oc4 kV4 dc4 pm4 cd4 ct4 : Value}
    (a4_0 : PySem.W.findIn K (.ref O0) "told" = some (some (.ref f4)))
    (a4_1 : PySem.W.findIn K (.ref O1) "told" = some (some (.ref f4)))
    (a4_2 : PySem.W.findIn K (.ref O2) "told" = some (some (.ref f4)))
    (j4 : PySem.W.isFn K (.ref f4) = true)
    (l4 : K.lookup f4 = some ⟨oc4, od4, .func (PySem.W.fnOf "told" "Page.told" (defArgs s_Page_told) (defBody s_Page_told) (defScope s_Page_told) .none kV4 dc4 pm4 an4 cd4 ct4), sl4⟩) (c4 : PySem.W.codeIn K cd4 "Page.told" = true) (k4 : PySem.W.keepIn K (.ref f4) = true)
    {f5 : Addr} {od5 an5 : Option Addr} {sl5 : Array (Option Value)} {oc5 kV5 dc5 pm5 cd5 ct5 : Value}
    (a5_3 : PySem.W.findIn K (.ref O3) "__init__" = some (some (.ref f5)))
    (j5 : PySem.W.isFn K (.ref f5) = true)
    (l5 : K.lookup f5 = some ⟨oc5, od5, .func (PySem.W.fnOf "__init__" "Pages.__init__" (defArgs s_Pages_init) (defBody s_Pages_init) (defScope s_Pages_init) .none kV5 dc5 pm5 an5 cd5 ct5), sl5⟩) (c5 : PySem.W.codeIn K cd5 "Pages.__init__" = true) (k5 : PySem.W.keepIn K (.ref f5) = true)
    {f6 : Addr} {od6 an6 : Option Addr} {sl6 : Array (Option Value)} {oc6 kV6 dc6 pm6 cd6 ct6 : Value}
    (a6_3 : PySem.W.findIn K (.ref O3) "numbers" = some (some (.ref f6)))
    (j6 : PySem.W.isFn K (.ref f6) = true)
    (l6 : K.lookup f6 = some ⟨oc6, od6, .func (PySem.W.fnOf "numbers" "Pages.numbers" (defArgs s_Pages_numbers) (defBody s_Pages_numbers) (defScope s_Pages_numbers) .none kV6 dc6 pm6 an6 cd6 ct6), sl6⟩) (c6 : PySem.W.codeIn K cd6 "Pages.numbers" = true) (k6 : PySem.W.keepIn K (.ref f6) = true)
    {f7 : Addr} {od7 an7 : Option Addr} {sl7 : Array (Option Value)} {oc7 kV7 dc7 pm7 cd7 ct7 : Value}
    (a7_3 : PySem.W.findIn K (.ref O3) "dealt" = some (some (.ref f7)))
    (j7 : PySem.W.isFn K (.ref f7) = true)
    (l7 : K.lookup f7 = some ⟨oc7, od7, .func (PySem.W.fnOf "dealt" "Pages.dealt" (defArgs s_Pages_dealt) (defBody s_Pages_dealt) (defScope s_Pages_dealt) .none kV7 dc7 pm7 an7 cd7 ct7), sl7⟩) (c7 : PySem.W.codeIn K cd7 "Pages.dealt" = true) (k7 : PySem.W.keepIn K (.ref f7) = true)
    {f8 : Addr} {od8 an8 : Option Addr} {sl8 : Array (Option Value)} {oc8 kV8 dc8 pm8 cd8 ct8 : Value}
    (a8_3 : PySem.W.findIn K (.ref O3) "skip" = some (some (.ref f8)))
    (j8 : PySem.W.isFn K (.ref f8) = true)
    (l8 : K.lookup f8 = some ⟨oc8, od8, .func (PySem.W.fnOf "skip" "Pages.skip" (defArgs s_Pages_skip) (defBody s_Pages_skip) (defScope s_Pages_skip) .none kV8 dc8 pm8 an8 cd8 ct8), sl8⟩) (c8 : PySem.W.codeIn K cd8 "Pages.skip" = true) (k8 : PySem.W.keepIn K (.ref f8) = true)
    {f9 : Addr} {od9 an9 : Option Addr} {sl9 : Array (Option Value)} {oc9 kV9 dc9 pm9 cd9 ct9 : Value}
    (a9 : PySem.W.nsIn K mainGlobals "_law_whole" = some (some (.ref f9)))
    (l9 : K.lookup f9 = some ⟨oc9, od9, .func (PySem.W.fnOf "_law_whole" "_law_whole" (defArgs s__law_whole) (defBody s__law_whole) (defScope s__law_whole) .none kV9 dc9 pm9 an9 cd9 ct9), sl9⟩) (c9 : PySem.W.codeIn K cd9 "_law_whole" = true) (k9 : PySem.W.keepIn K (.ref f9) = true)
    {f10 : Addr} {od10 an10 : Option Addr} {sl10 : Array (Option Value)} {oc10 kV10 dc10 pm10 cd10 ct10 : Value}
    (a10 : PySem.W.nsIn K mainGlobals "_law_content" = some (some (.ref f10)))
    (l10 : K.lookup f10 = some ⟨oc10, od10, .func (PySem.W.fnOf "_law_content" "_law_content" (defArgs s__law_content) (defBody s__law_content) (defScope s__law_content) .none kV10 dc10 pm10 an10 cd10 ct10), sl10⟩) (c10 : PySem.W.codeIn K cd10 "_law_content" = true) (k10 : PySem.W.keepIn K (.ref f10) = true)
    {f11 : Addr} {od11 an11 : Option Addr} {sl11 : Array (Option Value)} {oc11 kV11 dc11 pm11 cd11 ct11 : Value}
    (a11_1 : PySem.W.findIn K (.ref O1) "__init__" = some (some (.ref f11)))
    (j11 : PySem.W.isFn K (.ref f11) = true)
    (l11 : K.lookup f11 = some ⟨oc11, od11, .func (PySem.W.fnOf "__init__" "Leaf.__init__" (defArgs s_Leaf_init) (defBody s_Leaf_init) (defScope s_Leaf_init) .none kV11 dc11 pm11 an11 cd11 ct11), sl11⟩) (c11 : PySem.W.codeIn K cd11 "Leaf.__init__" = true) (k11 : PySem.W.keepIn K (.ref f11) = true)
    {f12 : Addr} {od12 an12 : Option Addr} {sl12 : Array (Option Value)} {oc12 kV12 dc12 pm12 cd12 ct12 : Value}
    (a12_2 : PySem.W.findIn K (.ref O2) "__init__" = some (some (.ref f12)))
    (j12 : PySem.W.isFn K (.ref f12) = true)
    (l12 : K.lookup f12 = some ⟨oc12, od12, .func (PySem.W.fnOf "__init__" "Twig.__init__" (defArgs s_Twig_init) (defBody s_Twig_init) (defScope s_Twig_init) .none kV12 dc12 pm12 an12 cd12 ct12), sl12⟩) (c12 : PySem.W.codeIn K cd12 "Twig.__init__" = true) (k12 : PySem.W.keepIn K (.ref f12) = true)
    {f13 : Addr} {od13 an13 : Option Addr} {sl13 : Array (Option Value)} {oc13 kV13 dc13 pm13 cd13 ct13 : Value}
    (a13_3 : PySem.W.findIn K (.ref O3) "kept" = some (some (.ref f13)))
    (j13 : PySem.W.isFn K (.ref f13) = true)
    (l13 : K.lookup f13 = some ⟨oc13, od13, .func (PySem.W.fnOf "kept" "Pages.kept" (defArgs s_Pages_kept) (defBody s_Pages_kept) (defScope s_Pages_kept) .none kV13 dc13 pm13 an13 cd13 ct13), sl13⟩) (c13 : PySem.W.codeIn K cd13 "Pages.kept" = true) (k13 : PySem.W.keepIn K (.ref f13) = true)
    {f14 : Addr} {od14 an14 : Option Addr} {sl14 : Array (Option Value)} {oc14 kV14 dc14 pm14 cd14 ct14 : Value}
    (a14_3 : PySem.W.findIn K (.ref O3) "told_at" = some (some (.ref f14)))
    (j14 : PySem.W.isFn K (.ref f14) = true)
    (l14 : K.lookup f14 = some ⟨oc14, od14, .func (PySem.W.fnOf "told_at" "Pages.told_at" (defArgs s_Pages_told_at) (defBody s_Pages_told_at) (defScope s_Pages_told_at) .none kV14 dc14 pm14 an14 cd14 ct14), sl14⟩) (c14 : PySem.W.codeIn K cd14 "Pages.told_at" = true) (k14 : PySem.W.keepIn K (.ref f14) = true)
    {f15 : Addr} {od15 an15 : Option Addr} {sl15 : Array (Option Value)} {oc15 kV15 dc15 pm15 cd15 ct15 : Value}
    (a15 : PySem.W.nsIn K mainGlobals "page_of" = some (some (.ref f15)))
    (l15 : K.lookup f15 = some ⟨oc15, od15, .func (PySem.W.fnOf "page_of" "page_of" (defArgs s_page_of) (defBody s_page_of) (defScope s_page_of) .none kV15 dc15 pm15 an15 cd15 ct15), sl15⟩) (c15 : PySem.W.codeIn K cd15 "page_of" = true) (k15 : PySem.W.keepIn K (.ref f15) = true)
    {f16 : Addr} {od16 an16 : Option Addr} {sl16 : Array (Option Value)} {oc16 kV16 dc16 pm16 cd16 ct16 : Value}
    (a16_3 : PySem.W.findIn K (.ref O3) "card" = some (some (.ref f16)))
    (j16 : PySem.W.isFn K (.ref f16) = true)
    (l16 : K.lookup f16 = some ⟨oc16, od16, .func (PySem.W.fnOf "card" "Pages.card" (defArgs s_Pages_card) (defBody s_Pages_card) (defScope s_Pages_card) .none kV16 dc16 pm16 an16 cd16 ct16), sl16⟩) (c16 : PySem.W.codeIn K cd16 "Pages.card" = true) (k16 : PySem.W.keepIn K (.ref f16) = true)
    {f17 : Addr} {od17 an17 : Option Addr} {sl17 : Array (Option Value)} {oc17 kV17 dc17 pm17 cd17 ct17 : Value}
    (a17_3 : PySem.W.findIn K (.ref O3) "drop" = some (some (.ref f17)))
    (j17 : PySem.W.isFn K (.ref f17) = true)
    (l17 : K.lookup f17 = some ⟨oc17, od17, .func (PySem.W.fnOf "drop" "Pages.drop" (defArgs s_Pages_drop) (defBody s_Pages_drop) (defScope s_Pages_drop) .none kV17 dc17 pm17 an17 cd17 ct17), sl17⟩) (c17 : PySem.W.codeIn K cd17 "Pages.drop" = true) (k17 : PySem.W.keepIn K (.ref f17) = true)
    {f18 : Addr} {od18 an18 : Option Addr} {sl18 : Array (Option Value)} {oc18 kV18 dc18 pm18 cd18 ct18 : Value}
    (a18 : PySem.W.nsIn K mainGlobals "_law_made" = some (some (.ref f18)))
    (l18 : K.lookup f18 = some ⟨oc18, od18, .func (PySem.W.fnOf "_law_made" "_law_made" (defArgs s__law_made) (defBody s__law_made) (defScope s__law_made) .none kV18 dc18 pm18 an18 cd18 ct18), sl18⟩) (c18 : PySem.W.codeIn K cd18 "_law_made" = true) (k18 : PySem.W.keepIn K (.ref f18) = true)
    {f19 : Addr} {od19 an19 : Option Addr} {sl19 : Array (Option Value)} {oc19 kV19 dc19 pm19 cd19 ct19 : Value}
    (a19_3 : PySem.W.findIn K (.ref O3) "page" = some (some (.ref f19)))
    (j19 : PySem.W.isFn K (.ref f19) = true)
    (l19 : K.lookup f19 = some ⟨oc19, od19, .func (PySem.W.fnOf "page" "Pages.page" (defArgs s_Pages_page) (defBody s_Pages_page) (defScope s_Pages_page) .none kV19 dc19 pm19 an19 cd19 ct19), sl19⟩) (c19 : PySem.W.codeIn K cd19 "Pages.page" = true) (k19 : PySem.W.keepIn K (.ref f19) = true)
    {f20 : Addr} {od20 an20 : Option Addr} {sl20 : Array (Option Value)} {oc20 kV20 dc20 pm20 cd20 ct20 : Value}
    (a20 : PySem.W.nsIn K mainGlobals "_law_kept" = some (some (.ref f20)))
    (l20 : K.lookup f20 = some ⟨oc20, od20, .func (PySem.W.fnOf "_law_kept" "_law_kept" (defArgs s__law_kept) (defBody s__law_kept) (defScope s__law_kept) .none kV20 dc20 pm20 an20 cd20 ct20), sl20⟩) (c20 : PySem.W.codeIn K cd20 "_law_kept" = true) (k20 : PySem.W.keepIn K (.ref f20) = true)
    {f21 : Addr} {od21 an21 : Option Addr} {sl21 : Array (Option Value)} {oc21 kV21 dc21 pm21 cd21 ct21 : Value}
    (a21 : PySem.W.nsIn K mainGlobals "_law_refused" = some (some (.ref f21)))
    (l21 : K.lookup f21 = some ⟨oc21, od21, .func (PySem.W.fnOf "_law_refused" "_law_refused" (defArgs s__law_refused) (defBody s__law_refused) (defScope s__law_refused) .none kV21 dc21 pm21 an21 cd21 ct21), sl21⟩) (c21 : PySem.W.codeIn K cd21 "_law_refused" = true) (k21 : PySem.W.keepIn K (.ref f21) = true)
    {f22 : Addr} {od22 an22 : Option Addr} {sl22 : Array (Option Value)} {oc22 kV22 dc22 pm22 cd22 ct22 : Value}
    (a22 : PySem.W.nsIn K mainGlobals "_law_page_as" = some (some (.ref f22)))
    (l22 : K.lookup f22 = some ⟨oc22, od22, .func (PySem.W.fnOf "_law_page_as" "_law_page_as" (defArgs s__law_page_as) (defBody s__law_page_as) (defScope s__law_page_as) .none kV22 dc22 pm22 an22 cd22 ct22), sl22⟩) (c22 : PySem.W.codeIn K cd22 "_law_page_as" = true) (k22 : PySem.W.keepIn K (.ref f22) = true)
    {f23 : Addr} {od23 an23 : Option Addr} {sl23 : Array (Option Value)} {oc23 kV23 dc23 pm23 cd23 ct23 : Value}
    (a23 : PySem.W.nsIn K mainGlobals "_law_deed" = some (some (.ref f23)))
    (l23 : K.lookup f23 = some ⟨oc23, od23, .func (PySem.W.fnOf "_law_deed" "_law_deed" (defArgs s__law_deed) (defBody s__law_deed) (defScope s__law_deed) .none kV23 dc23 pm23 an23 cd23 ct23), sl23⟩) (c23 : PySem.W.codeIn K cd23 "_law_deed" = true) (k23 : PySem.W.keepIn K (.ref f23) = true)
    {f24 : Addr} {od24 an24 : Option Addr} {sl24 : Array (Option Value)} {oc24 kV24 dc24 pm24 cd24 ct24 : Value}
    (a24 : PySem.W.nsIn K mainGlobals "_law_whole_store" = some (some (.ref f24)))
    (l24 : K.lookup f24 = some ⟨oc24, od24, .func (PySem.W.fnOf "_law_whole_store" "_law_whole_store" (defArgs s__law_whole_store) (defBody s__law_whole_store) (defScope s__law_whole_store) .none kV24 dc24 pm24 an24 cd24 ct24), sl24⟩) (c24 : PySem.W.codeIn K cd24 "_law_whole_store" = true) (k24 : PySem.W.keepIn K (.ref f24) = true)
    {f25 : Addr} {od25 an25 : Option Addr} {sl25 : Array (Option Value)} {oc25 kV25 dc25 pm25 cd25 ct25 : Value}
    (a25 : PySem.W.nsIn K mainGlobals "law" = some (some (.ref f25)))
    (l25 : K.lookup f25 = some ⟨oc25, od25, .func (PySem.W.fnOf "law" "law" (defArgs s_law) (defBody s_law) (defScope s_law) .none kV25 dc25 pm25 an25 cd25 ct25), sl25⟩) (c25 : PySem.W.codeIn K cd25 "law" = true) (k25 : PySem.W.keepIn K (.ref f25) = true)
    (z1 : PySem.W.nsIn K mainGlobals "ValueError" = some none)
    (z2 : PySem.W.nsIn K mainGlobals "bool" = some none)
    (z3 : PySem.W.nsIn K mainGlobals "int" = some none)
    (z4 : PySem.W.nsIn K mainGlobals "isinstance" = some none)
    (z5 : PySem.W.nsIn K mainGlobals "len" = some none)
    (z6 : PySem.W.nsIn K mainGlobals "list" = some none)
    (z7 : PySem.W.nsIn K mainGlobals "max" = some none)
    (z8 : PySem.W.nsIn K mainGlobals "range" = some none)
    (z9 : PySem.W.nsIn K mainGlobals "sorted" = some none)
    (z10 : PySem.W.nsIn K mainGlobals "tuple" = some none)
    : ∃ fd : FuncData, (∀ (s : Shared) (v : Value), BindsTo s fd ⟨[v], []⟩ [("_law_script", v)]) ∧ ∀ base : Heap, K.In base → base.Ns mainGlobals mg → FnOk l.prog w K mg base CX0 8 fa fd ["_law_script"] (sp_law K) := by
  have e := hfa.symm.trans (PySem.W.mg_of X G a25)
  cases e
  have F1 := fun_mk (st := s_NoPage_init) l1 c1 k1
  have b1 := F1.binds (ps := ["self", "number"]) fun _ _ _ _ _ _ us hl => match us, hl with | [_, _], _ => rfl
  have F2 := fun_mk (st := s_NoMake_init) l2 c2 k2
  have b2 := F2.binds (ps := ["self", "number"]) fun _ _ _ _ _ _ us hl => match us, hl with | [_, _], _ => rfl
  have F3 := fun_mk (st := s_Page_init) l3 c3 k3
  have b3 := F3.binds (ps := ["self", "level", "entries"]) fun _ _ _ _ _ _ us hl => match us, hl with | [_, _, _], _ => rfl
  have F4 := fun_mk (st := s_Page_told) l4 c4 k4
  have b4 := F4.binds (ps := ["self"]) fun _ _ _ _ _ _ us hl => match us, hl with | [_], _ => rfl
  have F5 := fun_mk (st := s_Pages_init) l5 c5 k5
  have b5 := F5.binds (ps := ["self"]) fun _ _ _ _ _ _ us hl => match us, hl with | [_], _ => rfl
  have F6 := fun_mk (st := s_Pages_numbers) l6 c6 k6
  have b6 := F6.binds (ps := ["self"]) fun _ _ _ _ _ _ us hl => match us, hl with | [_], _ => rfl
  have F7 := fun_mk (st := s_Pages_dealt) l7 c7 k7
  have b7 := F7.binds (ps := ["self"]) fun _ _ _ _ _ _ us hl => match us, hl with | [_], _ => rfl
  have F8 := fun_mk (st := s_Pages_skip) l8 c8 k8
  have b8 := F8.binds (ps := ["self", "count"]) fun _ _ _ _ _ _ us hl => match us, hl with | [_, _], _ => rfl
  have F9 := fun_mk (st := s__law_whole) l9 c9 k9
  have b9 := F9.binds (ps := ["_law_found"]) fun _ _ _ _ _ _ us hl => match us, hl with | [_], _ => rfl
  have F10 := fun_mk (st := s__law_content) l10 c10 k10
  have b10 := F10.binds (ps := ["_law_cell"]) fun _ _ _ _ _ _ us hl => match us, hl with | [_], _ => rfl
  have F11 := fun_mk (st := s_Leaf_init) l11 c11 k11
  have b11 := F11.binds (ps := ["self", "rows"]) fun _ _ _ _ _ _ us hl => match us, hl with | [_, _], _ => rfl
  have F12 := fun_mk (st := s_Twig_init) l12 c12 k12
  have b12 := F12.binds (ps := ["self", "level", "heads"]) fun _ _ _ _ _ _ us hl => match us, hl with | [_, _, _], _ => rfl
  have F13 := fun_mk (st := s_Pages_kept) l13 c13 k13
  have b13 := F13.binds (ps := ["self", "page"]) fun _ _ _ _ _ _ us hl => match us, hl with | [_, _], _ => rfl
  have F14 := fun_mk (st := s_Pages_told_at) l14 c14 k14
  have b14 := F14.binds (ps := ["self", "number"]) fun _ _ _ _ _ _ us hl => match us, hl with | [_, _], _ => rfl
  have F15 := fun_mk (st := s_page_of) l15 c15 k15
  have b15 := F15.binds (ps := ["level", "entries"]) fun _ _ _ _ _ _ us hl => match us, hl with | [_, _], _ => rfl
  have F16 := fun_mk (st := s_Pages_card) l16 c16 k16
  have b16 := F16.binds (ps := ["self", "number"]) fun _ _ _ _ _ _ us hl => match us, hl with | [_, _], _ => rfl
  have F17 := fun_mk (st := s_Pages_drop) l17 c17 k17
  have b17 := F17.binds (ps := ["self", "number"]) fun _ _ _ _ _ _ us hl => match us, hl with | [_, _], _ => rfl
  have F18 := fun_mk (st := s__law_made) l18 c18 k18
  have b18 := F18.binds (ps := ["_law_told"]) fun _ _ _ _ _ _ us hl => match us, hl with | [_], _ => rfl
  have F19 := fun_mk (st := s_Pages_page) l19 c19 k19
  have b19 := F19.binds (ps := ["self", "number"]) fun _ _ _ _ _ _ us hl => match us, hl with | [_, _], _ => rfl
  have F20 := fun_mk (st := s__law_kept) l20 c20 k20
  have b20 := F20.binds (ps := ["_law_store", "_law_account", "_law_told"]) fun _ _ _ _ _ _ us hl => match us, hl with | [_, _, _], _ => rfl
  have F21 := fun_mk (st := s__law_refused) l21 c21 k21
  have b21 := F21.binds (ps := ["_law_store", "_law_way", "_law_number"]) fun _ _ _ _ _ _ us hl => match us, hl with | [_, _, _], _ => rfl
  have F22 := fun_mk (st := s__law_page_as) l22 c22 k22
  have b22 := F22.binds (ps := ["_law_store", "_law_number", "_law_told"]) fun _ _ _ _ _ _ us hl => match us, hl with | [_, _, _], _ => rfl
  have F23 := fun_mk (st := s__law_deed) l23 c23 k23
  have b23 := F23.binds (ps := ["_law_store", "_law_account", "_law_cell"]) fun _ _ _ _ _ _ us hl => match us, hl with | [_, _, _], _ => rfl
  have F24 := fun_mk (st := s__law_whole_store) l24 c24 k24
  have b24 := F24.binds (ps := ["_law_store", "_law_account"]) fun _ _ _ _ _ _ us hl => match us, hl with | [_, _], _ => rfl
  have F25 := fun_mk (st := s_law) l25 c25 k25
  have b25 := F25.binds (ps := ["_law_script"]) fun _ _ _ _ _ _ us hl => match us, hl with | [_], _ => rfl
  have Z : Zs mg := ⟨PySem.W.mg_none_of X G z1, PySem.W.mg_none_of X G z2, PySem.W.mg_none_of X G z3, PySem.W.mg_none_of X G z4, PySem.W.mg_none_of X G z5, PySem.W.mg_none_of X G z6, PySem.W.mg_none_of X G z7, PySem.W.mg_none_of X G z8, PySem.W.mg_none_of X G z9, PySem.W.mg_none_of X G z10⟩
  have X0 : PySem.W.XCl K C0 CT := PySem.W.XCl.of ⟨v0nm, v0q, v0N, v0bs, v0sn, v0sub, v0ab, v0col, v0dd, v0k0, v0k1, v0k2, v0k3, v0k5, q0, r0⟩ t9 u0 ta tb
  have X1 : PySem.W.XCl K C1 CT := PySem.W.XCl.of ⟨v1nm, v1q, v1N, v1bs, v1sn, v1sub, v1ab, v1col, v1dd, v1k0, v1k1, v1k2, v1k3, v1k5, q1, r1⟩ t9 u1 ta tb
  have T : Tx K mg CT (fun i => [C0, C1].getD i 0) (fun i => [O0, O1, O2, O3].getD i 0) := ⟨PySem.W.mg_of X G oa0,
    PySem.W.mg_of X G oa1,
    PySem.W.mg_of X G oa2,
    PySem.W.mg_of X G oa3,
    fun i hi => match i, hi with | 0, _ => ObC.of of0 ta tb | 1, _ => ObC.of of1 ta tb | 2, _ => ObC.of of2 ta tb | 3, _ => ObC.of of3 ta tb | m + 4, h => absurd h (by omega),
    PySem.W.mtx_of oo,
    ⟨PySem.W.mg_of X G t1, ⟨⟨ynm, yq, yN, ybs, thd, ysn, ysub, yab, ycol, ydd, yk0, yk1, yk2, yk3, yk5, t2, t3, t4⟩, t5⟩, t6, t7, t8⟩,
    PySem.W.mg_of X G p0,
    PySem.W.mg_of X G p1,
    fun i hi => match i, hi with | 0, _ => X0 | 1, _ => X1 | m + 2, h => absurd h (by omega),
    fun i hi => match i, hi with | 0, _ => fun f hf => PySem.W.xFacts_no u0 hf | 1, _ => fun f hf => PySem.W.xFacts_no u1 hf | m + 2, h => absurd h (by omega),
    PySem.W.xtab_of tt,
    PySem.W.xtv_of tu⟩
  refine ⟨PySem.W.fnOf "law" "law" (defArgs s_law) (defBody s_law) (defScope s_law) .none kV25 dc25 pm25 an25 cd25 ct25, fun s v => .of_eq rfl, fun base _ _ => ?_⟩
  have K_NoPage : MkX l.prog w K mg base 1 "NoPage" C0 CT ["number"] := ⟨_, _, _, ok_NoPage_init Z T F1, b1, X0, a1, j1, o0, PySem.W.mg_of X G p0⟩
  have K_NoMake : MkX l.prog w K mg base 1 "NoMake" C1 CT ["number"] := ⟨_, _, _, ok_NoMake_init Z T F2, b2, X1, a2, j2, o1, PySem.W.mg_of X G p1⟩
  have B_Page : BaI l.prog w K mg base 1 "Page" (sp_Page_init K (fun i => [O0, O1, O2, O3].getD i 0)) := ⟨O0, _, _, _, PySem.W.mg_of X G oa0, ClI.of e3, k3, ok_Page_init Z T  F3, b3⟩
  have M_Page_told : MeV l.prog w K mg base 1 O0 "told" (sp_Page_told K (fun i => [O0, O1, O2, O3].getD i 0)) := ⟨_, _, _, ⟨a4_0, j4, k4⟩, ok_Page_told Z T  F4, b4⟩
  have M_Leaf_told : MeV l.prog w K mg base 1 O1 "told" (sp_Page_told K (fun i => [O0, O1, O2, O3].getD i 0)) := ⟨_, _, _, ⟨a4_1, j4, k4⟩, ok_Page_told Z T  F4, b4⟩
  have M_Twig_told : MeV l.prog w K mg base 1 O2 "told" (sp_Page_told K (fun i => [O0, O1, O2, O3].getD i 0)) := ⟨_, _, _, ⟨a4_2, j4, k4⟩, ok_Page_told Z T  F4, b4⟩
  have K_Pages : MkV l.prog w K mg base 1 "Pages" O3 (sp_Pages_init l.prog w (fun i => [O0, O1, O2, O3].getD i 0)) := ⟨_, _, _, ⟨om3, a5_3, j5, ok3⟩, ok_Pages_init Z T  F5, b5, PySem.W.mg_of X G oa3⟩
  have M_Pages_numbers : MeV l.prog w K mg base 1 O3 "numbers" (sp_Pages_numbers l.prog w (fun i => [O0, O1, O2, O3].getD i 0)) := ⟨_, _, _, ⟨a6_3, j6, k6⟩, ok_Pages_numbers Z T  F6, b6⟩
  have M_Pages_dealt : MeV l.prog w K mg base 1 O3 "dealt" (sp_Pages_dealt l.prog w (fun i => [O0, O1, O2, O3].getD i 0)) := ⟨_, _, _, ⟨a7_3, j7, k7⟩, ok_Pages_dealt Z T  F7, b7⟩
  have M_Pages_skip : MeV l.prog w K mg base 1 O3 "skip" (sp_Pages_skip l.prog w (fun i => [O0, O1, O2, O3].getD i 0)) := ⟨_, _, _, ⟨a8_3, j8, k8⟩, ok_Pages_skip Z T  F8, b8⟩
  have C__law_whole : Cal l.prog w K mg base 1 "_law_whole" ["_law_found"] (sp__law_whole K) := ⟨_, _, ok__law_whole Z T  F9, b9, k9, PySem.W.mg_of X G a9⟩
  have C__law_content : Cal l.prog w K mg base 1 "_law_content" ["_law_cell"] (sp__law_content K) := ⟨_, _, ok__law_content Z T  F10, b10, k10, PySem.W.mg_of X G a10⟩
  have K_Leaf : MkV l.prog w K mg base 2 "Leaf" O1 (sp_Leaf_init K (fun i => [O0, O1, O2, O3].getD i 0)) := ⟨_, _, _, ⟨om1, a11_1, j11, ok1⟩, ok_Leaf_init Z T B_Page F11, b11, PySem.W.mg_of X G oa1⟩
  have K_Twig : MkV l.prog w K mg base 2 "Twig" O2 (sp_Twig_init K (fun i => [O0, O1, O2, O3].getD i 0)) := ⟨_, _, _, ⟨om2, a12_2, j12, ok2⟩, ok_Twig_init Z T B_Page F12, b12, PySem.W.mg_of X G oa2⟩
  have M_Pages_kept : MeV l.prog w K mg base 2 O3 "kept" (sp_Pages_kept l.prog w (fun i => [O0, O1, O2, O3].getD i 0)) := ⟨_, _, _, ⟨a13_3, j13, k13⟩, ok_Pages_kept Z T M_Page_told M_Leaf_told M_Twig_told F13, b13⟩
  have M_Pages_told_at : MeV l.prog w K mg base 3 O3 "told_at" (sp_Pages_told_at l.prog w (fun i => [C0, C1].getD i 0) (fun i => [O0, O1, O2, O3].getD i 0)) := ⟨_, _, _, ⟨a14_3, j14, k14⟩, ok_Pages_told_at Z T K_NoPage F14, b14⟩
  have C_page_of : Cal l.prog w K mg base 4 "page_of" ["level", "entries"] (sp_page_of K (fun i => [O0, O1, O2, O3].getD i 0)) := ⟨_, _, ok_page_of Z T K_Twig K_Leaf F15, b15, k15, PySem.W.mg_of X G a15⟩
  have M_Pages_card : MeV l.prog w K mg base 4 O3 "card" (sp_Pages_card l.prog w (fun i => [C0, C1].getD i 0) (fun i => [O0, O1, O2, O3].getD i 0)) := ⟨_, _, _, ⟨a16_3, j16, k16⟩, ok_Pages_card Z T M_Pages_told_at F16, b16⟩
  have M_Pages_drop : MeV l.prog w K mg base 4 O3 "drop" (sp_Pages_drop l.prog w (fun i => [C0, C1].getD i 0) (fun i => [O0, O1, O2, O3].getD i 0)) := ⟨_, _, _, ⟨a17_3, j17, k17⟩, ok_Pages_drop Z T M_Pages_told_at F17, b17⟩
  have C__law_made : Cal l.prog w K mg base 4 "_law_made" ["_law_told"] (sp__law_made K (fun i => [O0, O1, O2, O3].getD i 0)) := ⟨_, _, ok__law_made Z T K_Twig K_Leaf F18, b18, k18, PySem.W.mg_of X G a18⟩
  have M_Pages_page : MeV l.prog w K mg base 5 O3 "page" (sp_Pages_page l.prog w (fun i => [C0, C1].getD i 0) (fun i => [O0, O1, O2, O3].getD i 0)) := ⟨_, _, _, ⟨a19_3, j19, k19⟩, ok_Pages_page Z T C_page_of M_Pages_told_at F19, b19⟩
  have C__law_kept : Cal l.prog w K mg base 5 "_law_kept" ["_law_store", "_law_account", "_law_told"] (sp__law_kept l.prog w (fun i => [O0, O1, O2, O3].getD i 0)) := ⟨_, _, ok__law_kept Z T C__law_made C__law_whole M_Pages_kept F20, b20, k20, PySem.W.mg_of X G a20⟩
  have C__law_refused : Cal l.prog w K mg base 6 "_law_refused" ["_law_store", "_law_way", "_law_number"] (sp__law_refused l.prog w (fun i => [C0, C1].getD i 0) (fun i => [O0, O1, O2, O3].getD i 0)) := ⟨_, _, ok__law_refused Z T M_Pages_page M_Pages_card M_Pages_drop F21, b21, k21, PySem.W.mg_of X G a21⟩
  have C__law_page_as : Cal l.prog w K mg base 6 "_law_page_as" ["_law_store", "_law_number", "_law_told"] (sp__law_page_as l.prog w (fun i => [C0, C1].getD i 0) (fun i => [O0, O1, O2, O3].getD i 0)) := ⟨_, _, ok__law_page_as Z T M_Pages_page M_Pages_card M_Page_told M_Leaf_told M_Twig_told F22, b22, k22, PySem.W.mg_of X G a22⟩
  have C__law_deed : Cal l.prog w K mg base 7 "_law_deed" ["_law_store", "_law_account", "_law_cell"] (sp__law_deed l.prog w (fun i => [C0, C1].getD i 0) (fun i => [O0, O1, O2, O3].getD i 0)) := ⟨_, _, ok__law_deed Z T C__law_page_as C__law_kept C__law_refused C__law_content M_Pages_drop M_Pages_skip F23, b23, k23, PySem.W.mg_of X G a23⟩
  have C__law_whole_store : Cal l.prog w K mg base 7 "_law_whole_store" ["_law_store", "_law_account"] (sp__law_whole_store l.prog w (fun i => [C0, C1].getD i 0) (fun i => [O0, O1, O2, O3].getD i 0)) := ⟨_, _, ok__law_whole_store Z T C__law_refused C__law_whole C__law_page_as M_Pages_numbers M_Pages_dealt F24, b24, k24, PySem.W.mg_of X G a24⟩
  exact ok_law Z T C__law_whole_store C__law_deed K_Pages M_Pages_dealt F25
end My
def PySem.W.Fast.tw11195895302490437004 : Nat := 0
def PySem.W.Fast.tw8689831690180384243 : Nat := 0
def PySem.W.Fast.tw6172410558648430684 : Nat := 0
def PySem.W.Fast.tw16358495004012310181 : Nat := 0
def PySem.W.Fast.tw2338344709328536433 : Nat := 0
def PySem.W.Fast.tw14616889444655393858 : Nat := 0
def PySem.W.Fast.tw7776322983933473480 : Nat := 0
def PySem.W.Fast.tw17357533847598110502 : Nat := 0
def PySem.W.Fast.tw7322127496904684290 : Nat := 0
def PySem.W.Fast.tw7014873979548625121 : Nat := 0
def PySem.W.Fast.tw7085268785592053385 : Nat := 0
def PySem.W.Fast.tw15923639205792187009 : Nat := 0
def PySem.W.Fast.tw2000972947054492688 : Nat := 0
def PySem.W.Fast.tw11402663041991228179 : Nat := 0
def PySem.W.Fast.tw2158806146989149668 : Nat := 0
def PySem.W.Fast.tw13674594258463811761 : Nat := 0
def PySem.W.Fast.tw885317762139356986 : Nat := 0
def PySem.W.Fast.tw15198901846537861821 : Nat := 0
def PySem.W.Fast.tw13729945763237446799 : Nat := 0
def PySem.W.Fast.tw8357381680566753541 : Nat := 0
def PySem.W.Fast.tw13932144882904561004 : Nat := 0
def PySem.W.Fast.tw14319502966975722277 : Nat := 0
def PySem.W.Fast.tw15582956314307841858 : Nat := 0
def PySem.W.Fast.tw12465495733625547598 : Nat := 0
open PySem PySem.W PyProof.Rows
set_option maxRecDepth 100000 in
set_option maxHeartbeats 0 in
theorem PySem.Challenge.cw_twigtable_k13_a_store_holds : PySem.Challenge.rw_twigtable_k13_a_store.Holds := by
  w_on; o_law; k_head; (case hw => w_witness2)
  k_fill
  refine L2.walk_ofB (l := PySem.Challenge.rw_twigtable_k13_a_store) (n := 63) (k := 8) (x := "_law_script") (CX := fun _ => L2.CX0) (sp := My.sp_law) rfl (by decide) rfl ⟨rfl, by decide, by decide⟩ (fun w h Y => PySem.W.kIn_of Y) ?F ?S ?C
  case F =>
    intro w mg fa h KX G hmg
    refine' My.all_mk KX G hmg ?ta ?tb ?oa0 ?of0 ?oa1 ?of1 ?om1 ?ok1 ?oa2 ?of2 ?om2 ?ok2 ?oa3 ?of3 ?om3 ?ok3 ?oo ?t1 ?t2 ?t3 ?t4 ?t5 ?t6 ?t7 ?t8 ?t9 ?p0 ?q0 ?r0 ?u0 ?o0 ?p1 ?q1 ?r1 ?u1 ?o1 ?tt ?tu ?a1 ?j1 ?l1 ?c1 ?k1 ?a2 ?j2 ?l2 ?c2 ?k2 ?a3_0 ?j3 ?l3 ?c3 ?k3 ?e3 ?a4_0 ?a4_1 ?a4_2 ?j4 ?l4 ?c4 ?k4 ?a5_3 ?j5 ?l5 ?c5 ?k5 ?a6_3 ?j6 ?l6 ?c6 ?k6 ?a7_3 ?j7 ?l7 ?c7 ?k7 ?a8_3 ?j8 ?l8 ?c8 ?k8 ?a9 ?l9 ?c9 ?k9 ?a10 ?l10 ?c10 ?k10 ?a11_1 ?j11 ?l11 ?c11 ?k11 ?a12_2 ?j12 ?l12 ?c12 ?k12 ?a13_3 ?j13 ?l13 ?c13 ?k13 ?a14_3 ?j14 ?l14 ?c14 ?k14 ?a15 ?l15 ?c15 ?k15 ?a16_3 ?j16 ?l16 ?c16 ?k16 ?a17_3 ?j17 ?l17 ?c17 ?k17 ?a18 ?l18 ?c18 ?k18 ?a19_3 ?j19 ?l19 ?c19 ?k19 ?a20 ?l20 ?c20 ?k20 ?a21 ?l21 ?c21 ?k21 ?a22 ?l22 ?c22 ?k22 ?a23 ?l23 ?c23 ?k23 ?a24 ?l24 ?c24 ?k24 ?a25 ?l25 ?c25 ?k25 ?z1 ?z2 ?z3 ?z4 ?z5 ?z6 ?z7 ?z8 ?z9 ?z10
    (case ta => (first | rfl | kernel_rfl | decide +kernel))
    (case tb => (first | rfl | kernel_rfl | decide +kernel))
    (case oa0 => k_is)
    (case of0 => (first | rfl | kernel_rfl | decide +kernel))
    (case oa1 => k_is)
    (case of1 => (first | rfl | kernel_rfl | decide +kernel))
    (case om1 => k_is)
    (case ok1 => k_is)
    (case oa2 => k_is)
    (case of2 => (first | rfl | kernel_rfl | decide +kernel))
    (case om2 => k_is)
    (case ok2 => k_is)
    (case oa3 => k_is)
    (case of3 => (first | rfl | kernel_rfl | decide +kernel))
    (case om3 => k_is)
    (case ok3 => k_is)
    (case oo => (first | rfl | kernel_rfl | decide +kernel))
    (case t1 => k_is)
    (case t2 => k_is)
    (case t3 => (first | rfl | kernel_rfl | decide +kernel))
    (case t4 => (first | rfl | kernel_rfl | decide +kernel))
    (case t5 => (first | rfl | kernel_rfl | decide +kernel))
    (case t6 => (first | rfl | kernel_rfl | decide +kernel))
    (case t7 => (first | rfl | kernel_rfl | decide +kernel))
    (case t8 => (first | rfl | kernel_rfl | decide +kernel))
    (case t9 => (first | rfl | kernel_rfl | decide +kernel))
    (case p0 => k_is)
    (case q0 => k_is)
    (case r0 => (first | rfl | kernel_rfl | decide +kernel))
    (case u0 => (first | rfl | kernel_rfl | decide +kernel))
    (case o0 => k_is)
    (case p1 => k_is)
    (case q1 => k_is)
    (case r1 => (first | rfl | kernel_rfl | decide +kernel))
    (case u1 => (first | rfl | kernel_rfl | decide +kernel))
    (case o1 => k_is)
    (case tt => (first | rfl | kernel_rfl | decide +kernel))
    (case tu => (first | rfl | kernel_rfl | decide +kernel))
    (case a1 => k_is)
    (case j1 => k_is)
    (case l1 => k_is)
    (case c1 => k_is)
    (case k1 => k_is)
    (case a2 => k_is)
    (case j2 => k_is)
    (case l2 => k_is)
    (case c2 => k_is)
    (case k2 => k_is)
    (case a3_0 => k_is)
    (case j3 => k_is)
    (case l3 => k_is)
    (case c3 => k_is)
    (case k3 => k_is)
    (case e3 => (first | rfl | kernel_rfl | decide +kernel))
    (case a4_0 => k_is)
    (case a4_1 => k_is)
    (case a4_2 => k_is)
    (case j4 => k_is)
    (case l4 => k_is)
    (case c4 => k_is)
    (case k4 => k_is)
    (case a5_3 => k_is)
    (case j5 => k_is)
    (case l5 => k_is)
    (case c5 => k_is)
    (case k5 => k_is)
    (case a6_3 => k_is)
    (case j6 => k_is)
    (case l6 => k_is)
    (case c6 => k_is)
    (case k6 => k_is)
    (case a7_3 => k_is)
    (case j7 => k_is)
    (case l7 => k_is)
    (case c7 => k_is)
    (case k7 => k_is)
    (case a8_3 => k_is)
    (case j8 => k_is)
    (case l8 => k_is)
    (case c8 => k_is)
    (case k8 => k_is)
    (case a9 => k_is)
    (case l9 => k_is)
    (case c9 => k_is)
    (case k9 => k_is)
    (case a10 => k_is)
    (case l10 => k_is)
    (case c10 => k_is)
    (case k10 => k_is)
    (case a11_1 => k_is)
    (case j11 => k_is)
    (case l11 => k_is)
    (case c11 => k_is)
    (case k11 => k_is)
    (case a12_2 => k_is)
    (case j12 => k_is)
    (case l12 => k_is)
    (case c12 => k_is)
    (case k12 => k_is)
    (case a13_3 => k_is)
    (case j13 => k_is)
    (case l13 => k_is)
    (case c13 => k_is)
    (case k13 => k_is)
    (case a14_3 => k_is)
    (case j14 => k_is)
    (case l14 => k_is)
    (case c14 => k_is)
    (case k14 => k_is)
    (case a15 => k_is)
    (case l15 => k_is)
    (case c15 => k_is)
    (case k15 => k_is)
    (case a16_3 => k_is)
    (case j16 => k_is)
    (case l16 => k_is)
    (case c16 => k_is)
    (case k16 => k_is)
    (case a17_3 => k_is)
    (case j17 => k_is)
    (case l17 => k_is)
    (case c17 => k_is)
    (case k17 => k_is)
    (case a18 => k_is)
    (case l18 => k_is)
    (case c18 => k_is)
    (case k18 => k_is)
    (case a19_3 => k_is)
    (case j19 => k_is)
    (case l19 => k_is)
    (case c19 => k_is)
    (case k19 => k_is)
    (case a20 => k_is)
    (case l20 => k_is)
    (case c20 => k_is)
    (case k20 => k_is)
    (case a21 => k_is)
    (case l21 => k_is)
    (case c21 => k_is)
    (case k21 => k_is)
    (case a22 => k_is)
    (case l22 => k_is)
    (case c22 => k_is)
    (case k22 => k_is)
    (case a23 => k_is)
    (case l23 => k_is)
    (case c23 => k_is)
    (case k23 => k_is)
    (case a24 => k_is)
    (case l24 => k_is)
    (case c24 => k_is)
    (case k24 => k_is)
    (case a25 => k_is)
    (case l25 => k_is)
    (case c25 => k_is)
    (case k25 => k_is)
    (case z1 => k_is)
    (case z2 => k_is)
    (case z3 => k_is)
    (case z4 => k_is)
    (case z5 => k_is)
    (case z6 => k_is)
    (case z7 => k_is)
    (case z8 => k_is)
    (case z9 => k_is)
    (case z10 => k_is)
  case S => exact fun w H a ns hl hb hO hS => My.law_sp hl hb hS
  case C => exact fun _ _ _ _ _ z => z


end
