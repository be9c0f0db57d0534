import PyProof.Rows.All
import Wide.All
import OpenK.AllK
import Wide.FinOn
import Lean
import PyProof.EqAt
import PyProof.EqKinds
import PyProof.TupleCall
import PyProof.NeKinds
import PyProof.StrOps2
import PySem.Challenge.RW_twigtable_k06_whole_read_as_written
section
set_option Elab.async false
set_option linter.all false
set_option maxRecDepth 100000
namespace L2
open PySem PySem.Spec PyProof.Rows

/-- a key: an int or a str -/
abbrev Key := Sum Int Str
def keyIs : Key → Value → Bool
  | .inl k, v => Value.isInt k v
  | .inr x, v => Value.isStrOf x v
def keyH (w : World) : Key → Int
  | .inl k => hashInt k
  | .inr x => hashStr w x
theorem keyIs_shape : ∀ {k : Key} {v : Value}, keyIs k v = true → (∃ i t, k = Sum.inl i ∧ v = Value.int i t) ∨ (∃ x t, k = Sum.inr x ∧ v = Value.str x t)
  | .inl i, v, h => by
    obtain ⟨t, e⟩ := Value.isInt_shape (k := i) (v := v) h
    exact .inl ⟨i, t, rfl, e⟩
  | .inr x, v, h => by
    obtain ⟨t, e⟩ := Value.isStrOf_shape (x := x) (v := v) h
    exact .inr ⟨x, t, rfl, e⟩
theorem key_ll (a b : Int) : decide ((Sum.inl a : Key) = Sum.inl b) = (a == b) := by
  by_cases e : a = b
  · subst e; simp
  · have h : ¬ (Sum.inl a : Key) = Sum.inl b := fun q => e (Sum.inl.inj q)
    rw [decide_eq_false h]
    exact (beq_eq_false_iff_ne.mpr e).symm
theorem key_rr (a b : Str) : decide ((Sum.inr a : Key) = Sum.inr b) = decide (a = b) := by
  by_cases e : a = b
  · subst e; simp
  · have h : ¬ (Sum.inr a : Key) = Sum.inr b := fun q => e (Sum.inr.inj q)
    rw [decide_eq_false h, decide_eq_false e]
theorem key_lr (a : Int) (b : Str) : decide ((Sum.inl a : Key) = Sum.inr b) = false := decide_eq_false (fun q => nomatch q)
theorem key_rl (a : Str) (b : Int) : decide ((Sum.inr a : Key) = Sum.inl b) = false := decide_eq_false (fun q => nomatch q)

def mixKind (prog : Program) (w : World) : PySem.KeyKind prog w Key where
  is := keyIs
  hash := keyH w
  inj := fun v a b ha hb => by
    rcases keyIs_shape ha with ⟨i, t, rfl, rfl⟩ | ⟨x, t, rfl, rfl⟩
    · rcases keyIs_shape hb with ⟨j, u, rfl, e⟩ | ⟨y, u, rfl, e⟩
      · injection e with e1 _; rw [e1]
      · exact nomatch e
    · rcases keyIs_shape hb with ⟨j, u, rfl, e⟩ | ⟨y, u, rfl, e⟩
      · exact nomatch e
      · injection e with e1 _; rw [e1]
  byValue := fun k v h => by
    rcases keyIs_shape h with ⟨i, t, rfl, rfl⟩ | ⟨x, t, rfl, rfl⟩ <;> rfl
  pyHash := fun hv h => by
    rcases keyIs_shape hv with ⟨i, t, rfl, rfl⟩ | ⟨x, t, rfl, rfl⟩
    · exact wpAny_pyHash_int h
    · exact wpAny_pyHash_str h
  eqBool := fun hu hv h => by
    rcases keyIs_shape hu with ⟨i, t, rfl, rfl⟩ | ⟨x, t, rfl, rfl⟩
    · rcases keyIs_shape hv with ⟨j, u, rfl, rfl⟩ | ⟨y, u, rfl, rfl⟩
      · rw [key_ll] at h; exact wpAny_eqBool_int h
      · rw [key_lr] at h; exact SeqAt.EqAt.int_str i t y u _ _ _ _ h
    · rcases keyIs_shape hv with ⟨j, u, rfl, rfl⟩ | ⟨y, u, rfl, rfl⟩
      · rw [key_rl] at h; exact SeqAt.EqAt.str_int x t j u _ _ _ _ h
      · rw [key_rr] at h; exact wpAny_eqBool_str h
  «strs» := fun k x t v h => by
    rcases keyIs_shape h with ⟨i, u, rfl, e⟩ | ⟨y, u, rfl, e⟩
    · exact nomatch e
    · injection e with e1 _
      subst e1
      cases v <;> rfl

end L2

namespace L2
open PySem PySem.Spec PyProof.Rows

/-- a value, without the heap -/
inductive V where
  | non | bl (b : Bool) | int (i : Int) | str (x : Str) | byt (b : Array UInt8) | flt (b : UInt64) | ref (a : Addr) | ty (n : String)
  deriving DecidableEq

def RelV : V → Value → Prop
  | .non, u => u = Value.none
  | .bl b, u => u = Value.bool b
  | .int i, u => ∃ t, u = Value.int i t
  | .str x, u => ∃ t, u = Value.str x t
  | .byt b, u => ∃ t, u = Value.bytes b t
  | .flt b, u => ∃ t, u = Value.float b t
  | .ref a, u => u = Value.ref a
  | .ty n, u => u = Value.type n

abbrev Vals : List V → List Value → Prop := Paired RelV
theorem Vals.length {xs : List V} {us : List Value} (r : Vals xs us) : xs.length = us.length := Paired.length r
theorem Vals.get : ∀ {xs : List V} {us : List Value} {i : Nat} {x : V}, Vals xs us → xs[i]? = some x → ∃ u, us[i]? = some u ∧ RelV x u
  | _, _, _, _, .nil, e => by simp at e
  | _, _, 0, _, .cons r _, e => by simp at e; subst e; exact ⟨_, rfl, r⟩
  | _, _, i + 1, x, .cons _ t, e => by
    obtain ⟨u, h1, h2⟩ := Vals.get (i := i) (x := x) t (by simpa using e)
    exact ⟨u, by simpa using h1, h2⟩
theorem Vals.set {x : V} {u : Value} (r : RelV x u) : ∀ {xs : List V} {us : List Value} (i : Nat), Vals xs us → Vals (xs.set i x) (us.set i u)
  | _, _, _, .nil => .nil
  | _, _, 0, .cons _ t => .cons r t
  | _, _, i + 1, .cons q t => .cons q (Vals.set r i t)
theorem Vals.append : ∀ {xs ys : List V} {us ws : List Value}, Vals xs us → Vals ys ws → Vals (xs ++ ys) (us ++ ws)
  | _, _, _, _, .nil, s => s
  | _, _, _, _, .cons r t, s => .cons r (Vals.append t s)
theorem Vals.take : ∀ {xs : List V} {us : List Value} (n : Nat), Vals xs us → Vals (xs.take n) (us.take n)
  | _, _, 0, _ => .nil
  | _, _, _ + 1, .nil => .nil
  | _, _, n + 1, .cons r t => .cons r (Vals.take n t)
theorem Vals.drop : ∀ {xs : List V} {us : List Value} (n : Nat), Vals xs us → Vals (xs.drop n) (us.drop n)
  | _, _, 0, r => r
  | _, _, _ + 1, .nil => .nil
  | _, _, n + 1, .cons _ t => Vals.drop n t
theorem Vals.none_of : ∀ {xs : List V} {us : List Value} {i : Nat}, Vals xs us → xs[i]? = none → us[i]? = none := fun {xs us i} r e => by
  have h1 := r.length
  have h2 : xs.length ≤ i := List.getElem?_eq_none_iff.mp e
  exact List.getElem?_eq_none_iff.mpr (by omega)

def RelO : Option V → Option Value → Prop
  | some v, some u => RelV v u
  | none, none => True
  | _, _ => False
def KV {κ : Type} : List (κ × V) → List (κ × Value) → Prop := Paired fun (p : κ × V) (q : κ × Value) => p.1 = q.1 ∧ RelV p.2 q.2

/-- a key of a dict (00_mix): an int or a text -/
def kV : Key → V
  | .inl i => .int i
  | .inr x => .str x

/-- what stands at a tracked address -/
inductive HO where
  /-- a list -/
  | lst (xs : List V)
  /-- a tuple (never changes) -/
  | tup (xs : List V)
  /-- a dict whose keys are ints and texts; one whose keys are tuples of ints and texts (the empty one is both) -/
  | dK (kvs : List (Key × V)) | dT (kvs : List (List Key × V))
  /-- a set of ints: its members, its size -/
  | set (S : Int → Bool) (n : Nat)
  /-- an instance of the class at C, its dict at dx, its attributes -/
  | ins (C dx : Addr) (fs : List (Str × V))
  /-- the dict of the instance at x -/
  | own (x : Addr)
  /-- the dict of an exception -/
  | xd (fs : List (Str × V))
  /-- a bound method, f of x -/
  | met (f x : Addr)
  /-- a range object lo, lo + 1, .. below hi -/
  | rng (lo hi : Int)
  /-- a thing that is known to the object (the script; a dict while a loop walks it): read, never written while it is so -/
  | frz (o : Obj) (u : HO)
  /-- a code object's table -/
  | tbl (ps : Array Value)
  /-- any other thing, by what is true of its one object (a def of one's own: SetO a S n := HO.ext fun h => ..) -/
  | ext (φ : Heap → Prop)

abbrev Hp := Addr → Option HO
def upd (H : Hp) (a : Addr) (o : HO) : Hp := fun b => if b = a then some o else H b
theorem upd_same {H : Hp} {a : Addr} {o : HO} : upd H a o a = some o := by unfold upd; rw [if_pos rfl]
theorem upd_ne {H : Hp} {a b : Addr} {o : HO} (h : b ≠ a) : upd H a o b = H b := by unfold upd; rw [if_neg h]
theorem upd_upd {H : Hp} {a : Addr} {o u : HO} : upd (upd H a o) a u = upd H a u := by
  funext b; unfold upd; split <;> rfl
/-- two objects of different content stand apart -/
theorem ne_of {H : Hp} {a b : Addr} {o u : HO} (h : H a = some o) (h' : H b = some u) (d : o ≠ u) : a ≠ b := by
  intro e; subst e; rw [h] at h'; exact d (Option.some.inj h')
theorem ne_of_none {H : Hp} {a b : Addr} {o : HO} (h : H a = some o) (h' : H b = none) : a ≠ b := by
  intro e; subst e; rw [h] at h'; cases h'

section
variable (P : Program) (w : World)
def ObjOk (H : Hp) (h : Heap) (a : Addr) : HO → Prop
  | .lst xs => xs.length ≤ sizeLine ∧ ∃ (its : List Value) (n : Nat), Vals xs its ∧ h.get? a = some { cls := .type "list", data := .seq its.toArray n }
  | .tup xs => xs.length ≤ sizeLine ∧ ∃ its : List Value, Vals xs its ∧ IsTup h a its.toArray
  | .dK kvs => kvs.length ≤ sizeLine ∧ (a == sysModules) = false ∧ ∃ vs, KV kvs vs ∧ h.DictOf (mixKind P w) a vs
  | .dT kvs => kvs.length ≤ sizeLine ∧ (a == sysModules) = false ∧ ∃ xs : List (List Key × Addr × Value),
      Paired (fun (p : List Key × V) (q : List Key × Addr × Value) => p.1 = q.1 ∧ H q.2.1 = some (.tup (p.1.map kV)) ∧ RelV p.2 q.2.2) kvs xs ∧
      ∃ o es ep, h.get? a = some o ∧ o.ExactDict ∧ o.data = .dict es ep ∧ es.toList = xs.map (entryOfKey (tupleKind (mixKind P w))) ∧ (xs.map (·.1)).Nodup
  | .set S n => h.SetOf (intKind P w) a S n
  | .ins C dx fs => H dx = some (.own a) ∧ fs.length ≤ 1000 ∧ dx ≠ a ∧ h.get? a = some (PySem.W.instObj C dx) ∧
      ∃ mA, h.Ns1 dx mA ∧ (∀ f, RelO (fs.lookup f) (mA f)) ∧ PySem.Within mA (fs.map (·.1))
  | .own _ => ∃ o, h.get? a = some o
  | .xd fs => ∃ mA, h.Ns1 a mA ∧ ∀ f, RelO (fs.lookup f) (mA f)
  | .rng lo hi => ∃ t u v, h.get? a = some { cls := .type "range", data := .fields #[.int lo t, .int hi u, .int 1 v] }
  | .frz o u => h.get? a = some o ∧ ObjOk H h a u
  | .tbl ps => h.get? a = some { cls := .none, data := .fields ps }
  | .met f x => h.get? a = some (PySem.W.methodObj (.ref f) (.ref x))
  | .ext φ => φ h ∧ (∃ o, h.get? a = some o) ∧ ∀ h1 h2 : Heap, φ h1 → (∀ o, h1.get? a = some o → h2.get? a = some o) → φ h2
/-- the abstract heap is held -/
def HOk (H : Hp) (h : Heap) : Prop := ∀ a o, H a = some o → ObjOk P w H h a o
end

section
variable {P : Program} {w : World} {H H' : Hp} {h h' : Heap} {a : Addr} {o : HO}
theorem ObjOk.lt (x : ObjOk P w H h a o) : a < h.objs.size := by
  cases o with
  | lst xs => obtain ⟨_, _, _, _, e⟩ := x; exact Heap.lt_size e
  | tup xs => obtain ⟨_, _, _, p⟩ := x; exact p.lt
  | dK kvs => obtain ⟨_, _, _, _, o, _, _, e, _⟩ := x; exact Heap.lt_size e
  | dT kvs => obtain ⟨_, _, _, _, o, _, _, e, _⟩ := x; exact Heap.lt_size e
  | set S n => obtain ⟨o, _, _, _, e, _⟩ := x; exact Heap.lt_size e
  | ins C dx fs => obtain ⟨_, _, _, e, _⟩ := x; exact Heap.lt_size e
  | own y => obtain ⟨_, e⟩ := x; exact Heap.lt_size e
  | xd fs => obtain ⟨_, ⟨_, _, _, e, _⟩, _⟩ := x; exact Heap.lt_size e
  | rng lo hi => obtain ⟨_, _, _, e⟩ := x; exact Heap.lt_size e
  | frz ob u => obtain ⟨e, _⟩ := x; exact Heap.lt_size e
  | tbl ps => exact Heap.lt_size (show h.get? a = some _ from x)
  | met f y => exact Heap.lt_size (show h.get? a = some _ from x)
  | ext φ => obtain ⟨_, ⟨_, e⟩, _⟩ := x; exact Heap.lt_size e
theorem Paired.mapP {α β : Type} {F G : α → β → Prop} : ∀ {l₁ : List α} {l₂ : List β}, Paired F l₁ l₂ → (∀ a b, F a b → G a b) → Paired G l₁ l₂
  | _, _, .nil, _ => .nil
  | _, _, .cons r t, f => .cons (f _ _ r) (Paired.mapP t f)
/-- what an object's description leans on: its own object, its own dict, the tuples -/
theorem ObjOk.stay (x : ObjOk P w H h a o) (k : ∀ b u, (b = a ∨ H b = some (.own a)) → h.get? b = some u → h'.get? b = some u)
    (ho : ∀ b, H b = some (.own a) → H' b = some (.own a)) (ht : ∀ b xs, H b = some (.tup xs) → H' b = some (.tup xs)) : ObjOk P w H' h' a o := by
  induction o with
  | lst xs => obtain ⟨z, its, n, r, e⟩ := x; exact ⟨z, its, n, r, k _ _ (.inl rfl) e⟩
  | tup xs => obtain ⟨z, its, r, ob, e, c⟩ := x; exact ⟨z, its, r, ob, k _ _ (.inl rfl) e, c⟩
  | dK kvs => obtain ⟨z, y, vs, r, ob, es, ep, e, c⟩ := x; exact ⟨z, y, vs, r, ob, es, ep, k _ _ (.inl rfl) e, c⟩
  | dT kvs =>
    obtain ⟨z, y, xs, r, ob, es, ep, e, c⟩ := x
    exact ⟨z, y, xs, Paired.mapP r fun p q z => ⟨z.1, ht _ _ z.2.1, z.2.2⟩, ob, es, ep, k _ _ (.inl rfl) e, c⟩
  | set S n => obtain ⟨ob, es, ep, t, e, c⟩ := x; exact ⟨ob, es, ep, t, k _ _ (.inl rfl) e, c⟩
  | ins C dx fs =>
    obtain ⟨d, z, ne, e, mA, ⟨od, es, ep, e2, c⟩, r⟩ := x
    exact ⟨ho _ d, z, ne, k _ _ (.inl rfl) e, mA, ⟨od, es, ep, k _ _ (.inr d) e2, c⟩, r⟩
  | own y => obtain ⟨ob, e⟩ := x; exact ⟨ob, k _ _ (.inl rfl) e⟩
  | xd fs => obtain ⟨mA, ⟨od, es, ep, e, c⟩, r⟩ := x; exact ⟨mA, ⟨od, es, ep, k _ _ (.inl rfl) e, c⟩, r⟩
  | rng lo hi => obtain ⟨t, u, v, e⟩ := x; exact ⟨t, u, v, k _ _ (.inl rfl) e⟩
  | frz ob u ih => obtain ⟨e, q⟩ := x; exact ⟨k _ _ (.inl rfl) e, ih q⟩
  | tbl ps =>
    have e : h.get? a = some { cls := .none, data := .fields ps } := x
    show h'.get? a = some { cls := .none, data := .fields ps }
    exact k a _ (.inl rfl) e
  | met f y =>
    have e : h.get? a = some (PySem.W.methodObj (.ref f) (.ref y)) := x
    show h'.get? a = some (PySem.W.methodObj (.ref f) (.ref y))
    exact k a _ (.inl rfl) e
  | ext φ => obtain ⟨p, ⟨o, e⟩, st⟩ := x; exact ⟨st _ _ p fun o q => k _ _ (.inl rfl) q, ⟨o, k _ _ (.inl rfl) e⟩, st⟩
theorem HOk.lt (x : HOk P w H h) (e : H a = some o) : a < h.objs.size := (x a o e).lt
theorem HOk.fresh (x : HOk P w H h) (e : h.objs.size ≤ a) : H a = none := by
  cases q : H a with
  | none => rfl
  | some u => exact absurd (Nat.lt_of_lt_of_le (x.lt q) e) (Nat.lt_irrefl _)
/-- every object of the heap is kept -/
theorem HOk.kept (x : HOk P w H h) (k : ∀ b u, h.get? b = some u → h'.get? b = some u) : HOk P w H h' := fun a o e =>
  (x a o e).stay (fun b u _ q => k b u q) (fun _ q => q) fun _ _ q => q
/-- a new object is laid and tracked -/
theorem HOk.laid (x : HOk P w H h) (k : ∀ b u, h.get? b = some u → h'.get? b = some u) (hp : h.objs.size ≤ a) (new : ObjOk P w (upd H a o) h' a o) : HOk P w (upd H a o) h' := fun b u e => by
  have hn := x.fresh hp
  by_cases hb : b = a
  · subst hb; rw [upd_same] at e; cases e; exact new
  · rw [upd_ne hb] at e
    exact (x b u e).stay (fun c v _ q => k c v q) (fun c q => by rw [upd_ne (ne_of_none q hn)]; exact q) fun c xs q => by rw [upd_ne (ne_of_none q hn)]; exact q
end

/-- what may be read as u: it is u, or a known u -/
def Rd (H : Hp) (a : Addr) (u : HO) : Prop := H a = some u ∨ ∃ o, H a = some (.frz o u)
theorem Rd.of {H : Hp} {a : Addr} {u : HO} (h : H a = some u) : Rd H a u := .inl h
theorem Rd.ok {P : Program} {w : World} {H : Hp} {h : Heap} {a : Addr} {u : HO} (r : Rd H a u) (x : HOk P w H h) : ObjOk P w H h a u := by
  rcases r with r | ⟨o, r⟩
  · exact x a u r
  · obtain ⟨_, q⟩ := x a _ r
    exact q
/-- what may be written -/
def Mut : Option HO → Prop
  | some (.lst _) => True
  | some (.dK _) => True
  | some (.dT _) => True
  | some (.set _ _) => True
  | some (.ins _ _ _) => True
  | some (.ext _) => True
  | _ => False
section
variable {P : Program} {w : World} {H : Hp} {h h' : Heap} {x e : Addr} {o' : HO}
/-- the object at e is changed: x itself, or the dict of the instance x -/
theorem HOk.write (ok : HOk P w H h) (mu : Mut (H x)) (he : e = x ∨ H e = some (.own x)) (k : ∀ b u, b ≠ e → h.get? b = some u → h'.get? b = some u) (heo : ∃ u, h'.get? e = some u)
    (new : ObjOk P w (upd H x o') h' x o') : HOk P w (upd H x o') h' := fun b u q => by
  have nown : ∀ c y, H c = some (.own y) → c ≠ x := fun c y r z => by subst z; rw [r] at mu; exact mu
  have ntup : ∀ c xs, H c = some (.tup xs) → c ≠ x := fun c xs r z => by subst z; rw [r] at mu; exact mu
  by_cases hb : b = x
  · subst hb; rw [upd_same] at q; cases q; exact new
  · rw [upd_ne hb] at q
    by_cases hbe : b = e
    · have q' : H b = some (.own x) := by
        rcases he with z | z
        · exact absurd (hbe.trans z) hb
        · rw [hbe]; exact z
      rw [q] at q'; cases q'
      obtain ⟨v, hv⟩ := heo
      exact ⟨v, by rw [hbe]; exact hv⟩
    · refine (ok b u q).stay (fun c v hc r => k c v ?_ r) (fun c r => by rw [upd_ne (nown c b r)]; exact r) fun c xs r => by rw [upd_ne (ntup c xs r)]; exact r
      rcases hc with rfl | hc
      · exact hbe
      · rintro rfl
        rcases he with z | z
        · exact nown c b hc z
        · rw [hc] at z; cases z; exact hb rfl
end

structure Un (fs ex : List Addr) (H H' : Hp) (h h' : Heap) : Prop where
  keep : ∀ b o, h.get? b = some o → H b = none → b ∉ fs → b ∉ ex → h'.get? b = some o
  slot : ∀ b o, h.get? b = some o → H b = none → b ∈ fs → b ∉ ex → ∃ sl, h'.get? b = some { o with slots := sl }
  free : ∀ b o, h.get? b = some o → H b = none → b ∉ ex → H' b = none
  there : ∀ b o, h.get? b = some o → b ∉ ex → ∃ o', h'.get? b = some o'
  tups : ∀ b xs, H b = some (.tup xs) → H' b = some (.tup xs)
  frzs : ∀ b o u, H b = some (.frz o u) → H' b = some (.frz o u)
  tbls : ∀ b ps, H b = some (.tbl ps) → ∃ more, H' b = some (.tbl (ps ++ more))
section
variable {fs fs' ex ex' : List Addr} {H H1 H2 : Hp} {h h1 h2 h' : Heap} {a x e : Addr} {o : HO}
theorem Un.any (u : Un fs ex H H1 h h1) {b : Addr} {ob : Obj} (q : h.get? b = some ob) (n : H b = none) (hx : b ∉ ex) : ∃ sl, h1.get? b = some { ob with slots := sl } := by
  by_cases hb : b ∈ fs
  · exact u.slot b ob q n hb hx
  · exact ⟨ob.slots, u.keep b ob q n hb hx⟩
theorem Un.trans (a : Un fs ex H H1 h h1) (b : Un fs ex H1 H2 h1 h2) : Un fs ex H H2 h h2 where
  keep := fun c ob q n hc hx => b.keep c ob (a.keep c ob q n hc hx) (a.free c ob q n hx) hc hx
  slot := fun c ob q n hc hx => by
    obtain ⟨sl, e1⟩ := a.slot c ob q n hc hx
    obtain ⟨sl', e2⟩ := b.slot c _ e1 (a.free c ob q n hx) hc hx
    exact ⟨sl', e2⟩
  free := fun c ob q n hx => by
    obtain ⟨o', e1⟩ := a.there c ob q hx
    exact b.free c o' e1 (a.free c ob q n hx) hx
  there := fun c ob q hx => by
    obtain ⟨o', e1⟩ := a.there c ob q hx
    exact b.there c o' e1 hx
  tups := fun c xs q => b.tups c xs (a.tups c xs q)
  frzs := fun c ob xs q => b.frzs c ob xs (a.frzs c ob xs q)
  tbls := fun c ps q => by
    obtain ⟨m1, e1⟩ := a.tbls c ps q
    obtain ⟨m2, e2⟩ := b.tbls c _ e1
    exact ⟨m1 ++ m2, by rw [e2, Array.append_assoc]⟩
theorem Un.kept (k : ∀ b u, h.get? b = some u → h'.get? b = some u) : Un fs ex H H h h' :=
  ⟨fun b ob q _ _ _ => k b ob q, fun b ob q _ _ _ => ⟨ob.slots, k b ob q⟩, fun _ _ _ n _ => n, fun b ob q _ => ⟨ob, k b ob q⟩, fun _ _ q => q, fun _ _ _ q => q, fun _ ps q => ⟨#[], by rw [q]; simp⟩⟩
theorem Un.refl : Un fs ex H H h h := Un.kept fun _ _ q => q
theorem Un.laid (k : ∀ b u, h.get? b = some u → h'.get? b = some u) (hp : h.objs.size ≤ a) (hn : H a = none) : Un fs ex H (upd H a o) h h' where
  keep := fun b u q _ _ _ => k b u q
  slot := fun b u q _ _ _ => ⟨u.slots, k b u q⟩
  free := fun b u q n _ => by rw [upd_ne (Nat.ne_of_lt (Nat.lt_of_lt_of_le (Heap.lt_size q) hp))]; exact n
  there := fun b u q _ => ⟨u, k b u q⟩
  tups := fun b xs q => by rw [upd_ne (ne_of_none q hn)]; exact q
  frzs := fun b u xs q => by rw [upd_ne (ne_of_none q hn)]; exact q
  tbls := fun b ps q => ⟨#[], by rw [upd_ne (ne_of_none q hn), q]; simp⟩
theorem Un.write (mu : Mut (H x)) (he : e = x ∨ H e = some (.own x)) (k : ∀ b u, b ≠ e → h.get? b = some u → h'.get? b = some u) (heo : ∃ u, h'.get? e = some u) : Un fs ex H (upd H x o) h h' := by
  have hx : ∀ b, H b = none → b ≠ x := fun b n z => by subst z; rw [n] at mu; exact mu
  have hb : ∀ b, H b = none → b ≠ e := fun b n z => by
    subst z
    rcases he with r | r
    · exact hx b n r
    · rw [n] at r; cases r
  have hm : ∀ b u, H b = some u → ¬ Mut (some u) → b ≠ x := fun b u q nm z => by subst z; rw [q] at mu; exact nm mu
  refine ⟨fun b u q n _ _ => k b u (hb b n) q, fun b u q n _ _ => ⟨u.slots, k b u (hb b n) q⟩, fun b u q n _ => by rw [upd_ne (hx b n)]; exact n, fun b u q _ => ?_,
    fun b xs q => by rw [upd_ne (hm b _ q fun z => z)]; exact q, fun b u xs q => by rw [upd_ne (hm b _ q fun z => z)]; exact q, fun b ps q => ⟨#[], by rw [upd_ne (hm b _ q fun z => z), q]; simp⟩⟩
  by_cases hbe : b = e
  · subst hbe; exact heo
  · exact ⟨u, k b u hbe q⟩
theorem Un.mono (u : Un fs ex H H1 h h1) (hs : ∀ b ∈ fs, b ∈ fs') (hx : ∀ b ∈ ex, b ∈ ex') : Un fs' ex' H H1 h h1 :=
  ⟨fun b ob q n hb he => u.keep b ob q n (fun z => hb (hs b z)) fun z => he (hx b z), fun _ _ q n _ he => u.any q n fun z => he (hx _ z), fun b ob q n he => u.free b ob q n fun z => he (hx b z), fun b ob q he => u.there b ob q fun z => he (hx b z), u.tups, u.frzs, u.tbls⟩
end

def trk (h : Heap) (H : Hp) : List Addr := (List.range h.objs.size).filter fun a => (H a).isSome
def hidT (h : Heap) (H : Hp) : Heap := PySem.W.hideAll h (trk h H)
theorem hidT_size (h : Heap) (H : Hp) : (hidT h H).objs.size = h.objs.size := PySem.W.hideAll_size _ _
theorem hidT_get {h : Heap} {H : Hp} {b : Addr} {o : Obj} (e : h.get? b = some o) (n : H b = none) : (hidT h H).get? b = some o :=
  PySem.W.hideAll_get _ e fun hm => by
    have q : (H b).isSome = true := (List.mem_filter.mp hm).2
    rw [n] at q; simp at q
theorem of_hidT {h : Heap} {H : Hp} {b : Addr} {o : Obj} (e : (hidT h H).get? b = some o) : h.get? b = some o ∧ H b = none := by
  have e' : h.get? b = some o := PySem.W.of_hideAll (trk h H) e
  refine ⟨e', ?_⟩
  cases q : H b with
  | none => rfl
  | some x =>
    have hm : b ∈ trk h H := List.mem_filter.mpr ⟨List.mem_range.mpr (Heap.lt_size e'), by simp [q]⟩
    have z : (hidT h H).get? b = none := PySem.W.hideAll_none (trk h H) hm
    rw [z] at e; cases e

def allNews (g h : Heap) (L : Addr) : List (Addr × Obj) := (List.range h.objs.size).filterMap fun a => if a = L ∨ (g.get? a).isSome = true then none else (h.get? a).map fun o => (a, o)
def rest (g h : Heap) (L d : Addr) : List (Addr × Obj) := (allNews g h L).filter fun p => decide (p.1 ≠ d)
end L2

namespace L2
open PySem PySem.Spec PyProof.Rows

/-- the module's facts, over the base: the heap at the law's entry without what is tracked there -/
structure Mod (K : PySem.W.Frag) (mg : Str → Option Value) (base : Heap) : Prop where
  kin : K.In base
  glob : base.Ns mainGlobals mg
  blt : ∃ mb, base.Ns builtinsNs mb ∧ ∀ x : Str, x ≠ "__name__" → mb x = bootBuiltins x
  nolimit : base.NoLimit

/-- the context: a def's body (or a comprehension's block) running. base: fixed through the whole law; s₀, H₀: the entry; outer: the frames whose slots others may change (a def's callers); stack: all frames that run;
   ex: iterators that were made ahead of the entry and are walked here (a comprehension's); fn: the names whose cells were made at the entry (a def: all; a comprehension's block: its own); calm: not within an except suite; pn: pins that every state bears; xe: what is wanted of an exception that leaves the code -/
structure Cx where
  prog : Program
  w : World
  K : PySem.W.Frag
  mg : Str → Option Value
  base : Heap
  A : Around
  N : List Str
  s₀ : Shared
  H₀ : Hp
  env : Env
  outer : List Env
  stack : List Env
  ex : List Addr
  fn : Str → Bool
  calm : Bool
  pn : List (Addr × Obj)
  xe : Value → Shared → Prop
/-- the callers' frames -/
def frs (l : List Env) : List Addr := l.filterMap (·.frame)
abbrev Cx.fs (X : Cx) : List Addr := frs X.outer

def Vis (sc : Scope) (x : Str) : Prop := sc.names.lookup x = some .local ∨ sc.names.lookup x = some .cell ∨ sc.names.lookup x = some .free
def Loc (sc : Scope) (x : Str) : Prop := sc.names.lookup x = some .local ∨ sc.names.lookup x = some .cell
def Look (env : Env) (h : Heap) (m : Str → Option Value) (x : Str) (u : Value) : Prop :=
  (env.kindOf x = some .local ∧ m x = some u) ∨ ((env.kindOf x = some .cell ∨ env.kindOf x = some .free) ∧ ∃ c, env.cells.lookup x = some c ∧ h.IsCell c (some u))

structure Cx.Ok (X : Cx) : Prop where
  mod : Mod X.K X.mg X.base
  kind : X.env.scope.kind = .function
  glob : X.env.globals = mainGlobals
  blt : X.env.builtins = builtinsNs
  above : X.s₀.heap.objs.size ≤ X.env.locals
  inj : ∀ x y c, X.env.cells.lookup x = some c → X.env.cells.lookup y = some c → x = y
  has : ∀ x, (X.env.kindOf x = some .cell ∨ X.env.kindOf x = some .free) → ∃ c, X.env.cells.lookup x = some c
  cab : ∀ x c, X.fn x = true → X.env.cells.lookup x = some c → X.s₀.heap.objs.size ≤ c
  hd : X.calm = true → X.A.handled = none
  frames : X.A.frames = some X.stack
  stk : X.stack = X.outer ∨ (X.stack = X.env :: X.outer ∧ X.env.frame = some X.env.locals)
  exf : ∀ b ∈ X.ex, b ≠ X.env.locals ∧ ∀ x c, X.env.cells.lookup x = some c → c ≠ b
  bs : ∀ b o, X.base.get? b = some o → X.s₀.heap.get? b = some o ∧ X.H₀ b = none
  bsz : X.base.objs.size ≤ X.s₀.heap.objs.size
  noex : ∀ b o, X.base.get? b = some o → b ∉ X.ex
  exfs : ∀ b ∈ X.ex, b ∉ X.fs
  funs : X.s₀.heap.FunFrames X.base X.outer
  frf : ∀ b ∈ X.fs, X.H₀ b = none

structure Inv (X : Cx) (pins : List (Addr × Obj)) (σ : List (Option V)) (H : Hp) (s : Shared) : Prop where
  ok : X.Ok
  os : s.os = X.s₀.os
  bare : AllBare s.gens
  base : Un X.fs X.ex X.H₀ H X.s₀.heap s.heap
  loc : ∃ m, s.heap.Ns X.env.locals m ∧ ∀ (i : Nat) (x : Str) (v : V), X.N[i]? = some x → σ[i]? = some (some v) → Vis X.env.scope x → ∃ u, RelV v u ∧ Look X.env s.heap m x u
  cell : ∀ x c, X.env.cells.lookup x = some c → ∃ v, s.heap.IsCell c v
  free : H X.env.locals = none
  freeC : ∀ x c, X.env.cells.lookup x = some c → H c = none
  pin : ∀ p ∈ X.pn ++ pins, s.heap.get? p.1 = some p.2 ∧ H p.1 = none ∧ p.1 ≠ X.env.locals ∧ p.1 ∉ X.fs ∧ ∀ v, p.2.data ≠ .cell v
  hok : HOk X.prog X.w H s.heap
  len : σ.length = X.N.length

section
variable {X : Cx} {pins : List (Addr × Obj)} {σ : List (Option V)} {H H' : Hp} {s : Shared} {h' : Heap}

theorem Cx.Ok.nofr (ok : X.Ok) {b : Addr} {o : Obj} (e : X.base.get? b = some o) : b ∉ X.fs := fun hb => by
  have := (ok.funs.mem hb).1
  rw [e] at this; cases this
theorem Inv.bs (I : Inv X pins σ H s) : ∀ b o, X.base.get? b = some o → s.heap.get? b = some o ∧ H b = none := fun b o e =>
  ⟨I.base.keep b o (I.ok.bs b o e).1 (I.ok.bs b o e).2 (I.ok.nofr e) (I.ok.noex b o e), I.base.free b o (I.ok.bs b o e).1 (I.ok.bs b o e).2 (I.ok.noex b o e)⟩
theorem Inv.bk (I : Inv X pins σ H s) : ∀ b o, X.base.get? b = some o → s.heap.get? b = some o := fun b o e => (I.bs b o e).1
theorem Inv.mod (I : Inv X pins σ H s) : Mod X.K X.mg X.base := I.ok.mod
theorem Inv.kIn (I : Inv X pins σ H s) : X.K.In s.heap := I.ok.mod.kin.keeps I.bk
theorem Inv.nolimit (I : Inv X pins σ H s) : s.heap.NoLimit := I.ok.mod.nolimit.keeps I.bk
/-- the frame over the base: for OpenK's rules (K.In X.base is I.mod.kin) -/
theorem Inv.fr (I : Inv X pins σ H s) : ∃ m, Fr X.base X.env.locals s.heap m :=
  let ⟨m, hn, _⟩ := I.loc
  ⟨m, hn, I.bk, Nat.le_trans I.ok.bsz I.ok.above⟩
theorem Inv.lt (I : Inv X pins σ H s) : X.env.locals < s.heap.objs.size := let ⟨_, hn, _⟩ := I.loc; hn.lt
theorem Inv.sz (I : Inv X pins σ H s) : X.s₀.heap.objs.size ≤ s.heap.objs.size := Nat.le_trans I.ok.above (Nat.le_of_lt I.lt)
theorem Inv.nofs (I : Inv X pins σ H s) {a : Addr} (h : s.heap.objs.size ≤ a) : a ∉ X.fs := fun hb => by
  obtain ⟨_, o, ho, _⟩ := I.ok.funs.mem hb
  exact absurd (Nat.lt_of_lt_of_le (Heap.lt_size ho) (Nat.le_trans I.sz h)) (Nat.lt_irrefl _)
theorem Inv.cne (I : Inv X pins σ H s) : ∀ x c, X.env.cells.lookup x = some c → c ≠ X.env.locals := fun x c e z => by
  obtain ⟨v, o, ho, hd⟩ := I.cell x c e
  obtain ⟨m, ⟨o', es, ep, ho', hd', _⟩, _⟩ := I.loc
  rw [z, ho'] at ho; cases ho; rw [hd'] at hd; cases hd
theorem Inv.funs (I : Inv X pins σ H s) : s.heap.FunFrames X.base X.outer := by
  have all : ∀ (l : List Env), (∀ b ∈ frs l, b ∈ X.fs) → X.s₀.heap.FunFrames X.base l → s.heap.FunFrames X.base l := by
    intro l
    induction l with
    | nil => intro _ _; trivial
    | cons env r ih =>
      intro hs hl
      obtain ⟨hk, ⟨L, o, hf, hn, ho, hd⟩, hr⟩ := hl
      have hL : L ∈ X.fs := hs L (by unfold frs; rw [List.filterMap_cons, hf]; exact List.mem_cons_self)
      obtain ⟨sl, e⟩ := I.base.slot L o ho (I.ok.frf L hL) hL fun z => I.ok.exfs L z hL
      exact ⟨hk, ⟨L, _, hf, hn, e, hd⟩, ih (fun b hb => hs b (by unfold frs; rw [List.filterMap_cons, hf]; exact List.mem_cons_of_mem _ hb)) hr⟩
  exact all X.outer (fun _ hb => hb) I.ok.funs

/-- the frames that run, for a call -/
theorem Inv.stack (I : Inv X pins σ H s) : s.heap.FunFrames X.base X.stack := by
  rcases I.ok.stk with e | ⟨e, hf⟩
  · rw [e]; exact I.funs
  · rw [e]
    obtain ⟨m, hn, _⟩ := I.loc
    refine .cons (by rw [I.ok.kind]; decide) hf hn ?_ I.funs
    exact Heap.get?_none_of_le (Nat.le_trans I.ok.bsz I.ok.above)
theorem Inv.stkSub (I : Inv X pins σ H s) : ∀ b ∈ frs X.stack, b ∈ X.env.locals :: X.fs := fun b hb => by
  rcases I.ok.stk with e | ⟨e, hf⟩
  · rw [e] at hb; exact List.mem_cons_of_mem _ hb
  · rw [e] at hb
    unfold frs at hb
    rw [List.filterMap_cons, hf] at hb
    exact hb
theorem Inv.stkFree (I : Inv X pins σ H s) : ∀ b ∈ frs X.stack, H b = none := fun b hb => by
  rcases List.mem_cons.mp (I.stkSub b hb) with e | hb
  · rw [e]; exact I.free
  · obtain ⟨_, o, ho, _⟩ := I.ok.funs.mem hb
    exact I.base.free b o ho (I.ok.frf b hb) fun z => I.ok.exfs b z hb

/-- THE STEP: the untracked objects but the frame and the records at ch are kept (the callers' frames up to slots), the frame's map is kept, the new abstract heap is held -/
theorem Inv.step {g' : Array GenState} {t' : Nat} {d' : Drawn} {ch : List Addr} (I : Inv X pins σ H s)
    (hch : ∀ b ∈ ch, (b ∈ X.ex ∨ X.s₀.heap.objs.size ≤ b) ∧ b ≠ X.env.locals ∧ (∀ x c, X.env.cells.lookup x = some c → c ≠ b) ∧ ∀ p ∈ X.pn ++ pins, p.1 ≠ b)
    (keep : ∀ b o, b ≠ X.env.locals → b ∉ X.fs → b ∉ ch → s.heap.get? b = some o → H b = none → h'.get? b = some o)
    (slot : ∀ b o, b ≠ X.env.locals → b ∈ X.fs → b ∉ ch → s.heap.get? b = some o → H b = none → ∃ sl, h'.get? b = some { o with slots := sl }) (free : ∀ b o, b ∉ ch → s.heap.get? b = some o → H b = none → H' b = none)
    (there : ∀ b o, b ∉ ch → s.heap.get? b = some o → ∃ o', h'.get? b = some o')
    (tups : ∀ b xs, H b = some (.tup xs) → H' b = some (.tup xs)) (frzs : ∀ b o u, H b = some (.frz o u) → H' b = some (.frz o u)) (tbls : ∀ b ps, H b = some (.tbl ps) → ∃ more, H' b = some (.tbl (ps ++ more)))
    (ns : ∀ m, s.heap.Ns X.env.locals m → h'.Ns X.env.locals m) (hok : HOk X.prog X.w H' h') (hg : AllBare g') :
    Inv X pins σ H' { s with heap := h', gens := g', drawn := d', toks := t' } := by
  have neL : ∀ b o, X.s₀.heap.get? b = some o → b ≠ X.env.locals := fun b o e => Nat.ne_of_lt (Nat.lt_of_lt_of_le (Heap.lt_size e) I.ok.above)
  have neC : ∀ b o, X.s₀.heap.get? b = some o → b ∉ X.ex → b ∉ ch := fun b o e hx hb => by
    rcases (hch b hb).1 with z | z
    · exact hx z
    · exact absurd (Nat.lt_of_lt_of_le (Heap.lt_size e) z) (Nat.lt_irrefl _)
  have cellK : ∀ x c, X.env.cells.lookup x = some c → ∀ v, s.heap.IsCell c v → h'.IsCell c v := fun x c e v ⟨o, ho, hd⟩ => by
    have nch : c ∉ ch := fun z => (hch c z).2.2.1 x c e rfl
    by_cases hc : c ∈ X.fs
    · obtain ⟨sl, q⟩ := slot c o (I.cne x c e) hc nch ho (I.freeC x c e)
      exact ⟨_, q, hd⟩
    · exact ⟨o, keep c o (I.cne x c e) hc nch ho (I.freeC x c e), hd⟩
  refine ⟨I.ok, I.os, hg, ⟨fun b o e n hb hx => ?_, fun b o e n hb hx => ?_, fun b o e n hx => ?_, fun b o e hx => ?_, fun b xs e => tups b xs (I.base.tups b xs e), fun b o xs e => frzs b o xs (I.base.frzs b o xs e), fun b ps e => ?_⟩, ?_, fun x c e => ?_, ?_, fun x c e => ?_, fun p hp => ?_, hok, I.len⟩
  · exact keep b o (neL b o e) hb (neC b o e hx) (I.base.keep b o e n hb hx) (I.base.free b o e n hx)
  · obtain ⟨sl, e1⟩ := I.base.slot b o e n hb hx
    obtain ⟨sl', e2⟩ := slot b _ (neL b o e) hb (neC b o e hx) e1 (I.base.free b o e n hx)
    exact ⟨sl', e2⟩
  · obtain ⟨o', e1⟩ := I.base.there b o e hx
    exact free b o' (neC b o e hx) e1 (I.base.free b o e n hx)
  · obtain ⟨o', e1⟩ := I.base.there b o e hx
    exact there b o' (neC b o e hx) e1
  · obtain ⟨m1, e1⟩ := I.base.tbls b ps e
    obtain ⟨m2, e2⟩ := tbls b _ e1
    exact ⟨m1 ++ m2, by rw [e2, Array.append_assoc]⟩
  · obtain ⟨m, hn, hl⟩ := I.loc
    refine ⟨m, ns m hn, fun i x v e1 e2 e3 => ?_⟩
    obtain ⟨u, r, l⟩ := hl i x v e1 e2 e3
    refine ⟨u, r, ?_⟩
    rcases l with l | ⟨k, c, e, z⟩
    · exact .inl l
    · exact .inr ⟨k, c, e, cellK x c e _ z⟩
  · obtain ⟨v, z⟩ := I.cell x c e
    exact ⟨v, cellK x c e v z⟩
  · obtain ⟨m, ⟨o, _, _, ho, _⟩, _⟩ := I.loc
    exact free _ o (fun z => (hch _ z).2.1 rfl) ho I.free
  · obtain ⟨v, o, ho, hd⟩ := I.cell x c e
    exact free c o (fun z => (hch c z).2.2.1 x c e rfl) ho (I.freeC x c e)
  · obtain ⟨e, n, ne, nf, d⟩ := I.pin p hp
    have nch : p.1 ∉ ch := fun z => (hch p.1 z).2.2.2 p hp rfl
    exact ⟨keep p.1 p.2 ne nf nch e n, free p.1 p.2 nch e n, ne, nf, d⟩
/-- .. where the frame's own object is kept too -/
theorem Inv.un {t' : Nat} (I : Inv X pins σ H s) (u : Un X.fs [] H H' s.heap h') (hok : HOk X.prog X.w H' h') : Inv X pins σ H' { s with heap := h', toks := t' } := by
  obtain ⟨m, ⟨o, es, ep, ho, r⟩, _⟩ := id I.loc
  obtain ⟨sl, hL⟩ := u.any ho I.free (by simp)
  exact I.step (g' := s.gens) (d' := s.drawn) (ch := []) (fun _ z => nomatch z) (fun b o _ hb _ e n => u.keep b o e n hb (by simp)) (fun b o _ hb _ e n => u.slot b o e n hb (by simp)) (fun b o _ e n => u.free b o e n (by simp)) (fun b o _ e => u.there b o e (by simp)) u.tups u.frzs u.tbls (fun m' hm => by
    obtain ⟨o', es', ep', ho', r'⟩ := hm
    rw [ho] at ho'; cases ho'
    exact ⟨_, es', ep', hL, r'⟩) hok I.bare
/-- behind a call (or a comprehension's block): the slots of this frame may have changed too, the records at ch may have turned -/
theorem Inv.call {g' : Array GenState} {t' : Nat} {d' : Drawn} {ch : List Addr} (I : Inv X pins σ H s) (u : Un (frs X.stack) ch H H' s.heap h') (hok : HOk X.prog X.w H' h') (hg : AllBare g')
    (hch : ∀ b ∈ ch, (b ∈ X.ex ∨ X.s₀.heap.objs.size ≤ b) ∧ b ≠ X.env.locals ∧ (∀ x c, X.env.cells.lookup x = some c → c ≠ b) ∧ ∀ p ∈ X.pn ++ pins, p.1 ≠ b) :
    Inv X pins σ H' { s with heap := h', gens := g', drawn := d', toks := t' } := by
  obtain ⟨m, ⟨o, es, ep, ho, r⟩, _⟩ := id I.loc
  obtain ⟨sl, hL⟩ := u.any ho I.free fun z => (hch _ z).2.1 rfl
  exact I.step (ch := ch) hch (fun b o hL hb hc e n => u.keep b o e n (fun z => (List.mem_cons.mp (I.stkSub b z)).elim hL hb) hc) (fun b o _ _ hc e n => u.any e n hc) (fun b o hc e n => u.free b o e n hc) (fun b o hc e => u.there b o e hc) u.tups u.frzs u.tbls (fun m' hm => by
    obtain ⟨o', es', ep', ho', r'⟩ := hm
    rw [ho] at ho'; cases ho'
    exact ⟨_, es', ep', hL, r'⟩) hok hg
/-- an untracked record of ours (an iterator) has turned -/
theorem Inv.turned {t' : Nat} {it : Addr} (I : Inv X pins σ H s) (k : ∀ b o, b ≠ it → s.heap.get? b = some o → h'.get? b = some o) (hn : H it = none) (hL : it ≠ X.env.locals)
    (h1 : it ∈ X.ex ∨ X.s₀.heap.objs.size ≤ it) (h2 : ∀ x c, X.env.cells.lookup x = some c → c ≠ it) (h3 : ∀ p ∈ X.pn ++ pins, p.1 ≠ it) : Inv X pins σ H { s with heap := h', toks := t' } := by
  have nit : ∀ b u, H b = some u → b ≠ it := fun b u e z => by rw [z, hn] at e; cases e
  refine I.step (g' := s.gens) (d' := s.drawn) (ch := [it]) (fun b hb => ?_) (fun b o _ _ hc e _ => k b o (fun z => hc (by simp [z])) e) (fun b o _ _ hc e _ => ⟨o.slots, k b o (fun z => hc (by simp [z])) e⟩) (fun _ _ _ _ n => n)
    (fun b o hc e => ⟨o, k b o (fun z => hc (by simp [z])) e⟩) (fun _ _ e => e) (fun _ _ _ e => e) (fun b ps e => ⟨#[], by rw [e]; simp⟩) (fun m hm => ?_) (fun b u e => ?_) I.bare
  · have e : b = it := by simpa using hb
    subst e
    exact ⟨h1, hL, h2, h3⟩
  · obtain ⟨o, es, ep, ho, r⟩ := hm
    exact ⟨o, es, ep, k _ o (Ne.symm hL) ho, r⟩
  · refine (I.hok b u e).stay (fun c v hc q => k c v ?_ q) (fun _ q => q) fun _ _ q => q
    rcases hc with z | z
    · rw [z]; exact nit b u e
    · exact nit c _ z
theorem Inv.tok (I : Inv X pins σ H s) (t : Nat) : Inv X pins σ H { s with toks := t } := I.un (h' := s.heap) (t' := t) Un.refl I.hok
/-- all objects kept -/
theorem Inv.kept {t' : Nat} (I : Inv X pins σ H s) (k : ∀ b u, s.heap.get? b = some u → h'.get? b = some u) : Inv X pins σ H { s with heap := h', toks := t' } := I.un (Un.kept k) (I.hok.kept k)
/-- a new object laid and tracked -/
theorem Inv.laid {a : Addr} {o : HO} {t' : Nat} (I : Inv X pins σ H s) (k : ∀ b u, s.heap.get? b = some u → h'.get? b = some u) (hp : s.heap.objs.size ≤ a) (new : ObjOk X.prog X.w (upd H a o) h' a o) :
    Inv X pins σ (upd H a o) { s with heap := h', toks := t' } := I.un (Un.laid k hp (I.hok.fresh hp)) (I.hok.laid k hp new)
/-- an object written -/
theorem Inv.write {x e : Addr} {o : HO} {t' : Nat} (I : Inv X pins σ H s) (mu : Mut (H x)) (he : e = x ∨ H e = some (.own x)) (k : ∀ b u, b ≠ e → s.heap.get? b = some u → h'.get? b = some u) (heo : ∃ u, h'.get? e = some u)
    (new : ObjOk X.prog X.w (upd H x o) h' x o) : Inv X pins σ (upd H x o) { s with heap := h', toks := t' } := I.un (Un.write mu he k heo) (I.hok.write mu he k heo new)
theorem Inv.pins_of {pins' : List (Addr × Obj)} (I : Inv X pins σ H s) (h : ∀ p ∈ pins', s.heap.get? p.1 = some p.2 ∧ H p.1 = none ∧ p.1 ≠ X.env.locals ∧ p.1 ∉ X.fs ∧ ∀ v, p.2.data ≠ .cell v) : Inv X pins' σ H s :=
  ⟨I.ok, I.os, I.bare, I.base, I.loc, I.cell, I.free, I.freeC, fun p hp => (List.mem_append.mp hp).elim (fun z => I.pin p (List.mem_append_left _ z)) (h p), I.hok, I.len⟩

theorem nodup_ix {N : List Str} (hN : N.Nodup) {i j : Nat} {x : Str} (a : N[i]? = some x) (b : N[j]? = some x) : i = j := by
  obtain ⟨h1, e1⟩ := List.getElem?_eq_some_iff.mp a
  obtain ⟨h2, e2⟩ := List.getElem?_eq_some_iff.mp b
  exact (List.getElem_inj hN).mp (e1.trans e2.symm)

/-- a name is stored; what changed -/
theorem store_ok2 {M : Model} {A : Around} {E : Value → Shared → Prop} {i : Nat} {x : Str} {v : V} {u : Value} {Q : Unit → Shared → Prop} (I : Inv X pins σ H s) (hN : X.N.Nodup) (hi : X.N[i]? = some x) (hx : Loc X.env.scope x) (r : RelV v u)
    (h : ∀ s', Inv X pins (σ.set i (some v)) H s' → (∃ a, Heap.SameBut a s.heap s'.heap ∧ (a = X.env.locals ∨ X.env.cells.lookup x = some a)) → Q () s') (hf : X.fn x = true ∨ X.env.scope.names.lookup x = some .local := by first | exact .inl rfl | exact .inr rfl | assumption) : wpAny M A (storeName X.env x u) Q E s := by
  obtain ⟨m, hn, hl⟩ := id I.loc
  have hcls : (X.env.scope.kind == .class || (X.env.scope.kind == .module && X.env.locals != X.env.globals)) = false := by rw [I.ok.kind]; rfl
  have hiσ : i < σ.length := by rw [I.len]; exact (List.getElem?_eq_some_iff.mp hi).1
  have cne := I.cne
  have tracked : ∀ {a : Addr} {h' : Heap}, (∃ o, s.heap.get? a = some o ∧ H a = none) → Heap.SameBut a s.heap h' → HOk X.prog X.w H h' := fun {a h'} ha hs b ob e => by
    obtain ⟨_, _, hfree⟩ := ha
    refine (I.hok b ob e).stay (fun c w' hc q => (hs.2 c ?_).trans q) (fun _ q => q) fun _ _ q => q
    rintro rfl
    rcases hc with rfl | hc
    · rw [hfree] at e; cases e
    · rw [hfree] at hc; cases hc
  rcases hx with hk | hk
  · refine wpAny_storeName_local hk hn (fun h' hn' hs => ?_) hcls
    obtain ⟨oL, _, _, hoL, _⟩ := id hn
    refine h _ ⟨I.ok, I.os, I.bare, ⟨fun b o e n hb hx => ?_, fun b o e n hb hx => ?_, I.base.free, fun b o e hx => ?_, I.base.tups, I.base.frzs, I.base.tbls⟩, ⟨_, hn', fun j y v' e1 e2 e3 => ?_⟩, fun y c e => ?_, I.free, I.freeC, fun p hp => ?_, tracked ⟨oL, hoL, I.free⟩ hs, by simpa using I.len⟩ ⟨_, hs, .inl rfl⟩
    · exact (hs.2 b (Nat.ne_of_lt (Nat.lt_of_lt_of_le (Heap.lt_size e) I.ok.above))).trans (I.base.keep b o e n hb hx)
    · obtain ⟨sl, e1⟩ := I.base.slot b o e n hb hx
      exact ⟨sl, (hs.2 b (Nat.ne_of_lt (Nat.lt_of_lt_of_le (Heap.lt_size e) I.ok.above))).trans e1⟩
    · obtain ⟨o', e1⟩ := I.base.there b o e hx
      exact ⟨o', (hs.2 b (Nat.ne_of_lt (Nat.lt_of_lt_of_le (Heap.lt_size e) I.ok.above))).trans e1⟩
    · by_cases hj : j = i
      · subst hj
        rw [hi] at e1; cases e1
        rw [List.getElem?_set_self hiσ] at e2
        cases e2
        exact ⟨u, r, .inl ⟨hk, by simp⟩⟩
      · rw [List.getElem?_set_ne (Ne.symm hj)] at e2
        obtain ⟨u', r', q⟩ := hl j y v' e1 e2 e3
        refine ⟨u', r', ?_⟩
        rcases q with ⟨k, e⟩ | ⟨k, c, e, z⟩
        · refine .inl ⟨k, ?_⟩
          have : y ≠ x := fun e => hj (nodup_ix hN e1 (e ▸ hi))
          simp [this, e]
        · exact .inr ⟨k, c, e, z.sameBut hs (cne y c e)⟩
    · obtain ⟨w', z⟩ := I.cell y c e
      exact ⟨w', z.sameBut hs (cne y c e)⟩
    · obtain ⟨e, n, ne, nf, d⟩ := I.pin p hp
      exact ⟨(hs.2 p.1 ne).trans e, n, ne, nf, d⟩
  · have hfn : X.fn x = true := by
      rcases hf with z | z
      · exact z
      · rw [z] at hk; cases hk
    obtain ⟨c, hc⟩ := I.ok.has x (.inl hk)
    obtain ⟨w', z⟩ := I.cell x c hc
    refine wpAny_storeName_cell I.ok.kind hk hc z (fun h' hc' hs => ?_)
    obtain ⟨oc, hoc, hocd⟩ := id z
    refine h { s with heap := h' } ⟨I.ok, I.os, I.bare, ⟨fun b o e n hb hx => ?_, fun b o e n hb hx => ?_, I.base.free, fun b o e hx => ?_, I.base.tups, I.base.frzs, I.base.tbls⟩, ⟨m, hn.sameBut hs (Ne.symm (cne x c hc)), fun j y v' e1 e2 e3 => ?_⟩, fun y c' e => ?_, I.free, I.freeC, fun p hp => ?_, tracked ⟨oc, hoc, I.freeC x c hc⟩ hs, by simpa using I.len⟩ ⟨c, hs, .inr hc⟩
    · exact (hs.2 b (Nat.ne_of_lt (Nat.lt_of_lt_of_le (Heap.lt_size e) (I.ok.cab x c hfn hc)))).trans (I.base.keep b o e n hb hx)
    · obtain ⟨sl, e1⟩ := I.base.slot b o e n hb hx
      exact ⟨sl, (hs.2 b (Nat.ne_of_lt (Nat.lt_of_lt_of_le (Heap.lt_size e) (I.ok.cab x c hfn hc)))).trans e1⟩
    · obtain ⟨o', e1⟩ := I.base.there b o e hx
      exact ⟨o', (hs.2 b (Nat.ne_of_lt (Nat.lt_of_lt_of_le (Heap.lt_size e) (I.ok.cab x c hfn hc)))).trans e1⟩
    · by_cases hj : j = i
      · subst hj
        rw [hi] at e1; cases e1
        rw [List.getElem?_set_self hiσ] at e2
        cases e2
        exact ⟨u, r, .inr ⟨.inl hk, c, hc, hc'⟩⟩
      · rw [List.getElem?_set_ne (Ne.symm hj)] at e2
        obtain ⟨u', r', q⟩ := hl j y v' e1 e2 e3
        refine ⟨u', r', ?_⟩
        rcases q with q | ⟨k, c', e, z'⟩
        · exact .inl q
        · refine .inr ⟨k, c', e, z'.sameBut hs ?_⟩
          rintro rfl
          exact hj (nodup_ix hN e1 (I.ok.inj _ _ _ e hc ▸ hi))
    · by_cases hcc : c' = c
      · subst hcc; exact ⟨_, hc'⟩
      · obtain ⟨w2, z2⟩ := I.cell y c' e
        exact ⟨w2, z2.sameBut hs hcc⟩
    · obtain ⟨e, n, ne, nf, d⟩ := I.pin p hp
      refine ⟨(hs.2 p.1 ?_).trans e, n, ne, nf, d⟩
      intro q
      rw [q, hoc] at e
      have q' : oc = p.2 := Option.some.inj e
      exact d w' (by rw [← q']; exact hocd)
theorem store_ok {M : Model} {A : Around} {E : Value → Shared → Prop} {i : Nat} {x : Str} {v : V} {u : Value} {Q : Unit → Shared → Prop} (I : Inv X pins σ H s) (hN : X.N.Nodup) (hi : X.N[i]? = some x) (hx : Loc X.env.scope x) (r : RelV v u)
    (h : ∀ s', Inv X pins (σ.set i (some v)) H s' → Q () s') (hf : X.fn x = true ∨ X.env.scope.names.lookup x = some .local := by first | exact .inl rfl | exact .inr rfl | assumption) : wpAny M A (storeName X.env x u) Q E s :=
  store_ok2 I hN hi hx r (fun s' I' _ => h s' I') hf
/-- behind a call or a block, the state as it is -/
theorem Inv.call' {s' : Shared} {ch : List Addr} (I : Inv X pins σ H s) (ho : s'.os = s.os) (u : Un (frs X.stack) ch H H' s.heap s'.heap) (hok : HOk X.prog X.w H' s'.heap) (hg : AllBare s'.gens)
    (hch : ∀ b ∈ ch, (b ∈ X.ex ∨ X.s₀.heap.objs.size ≤ b) ∧ b ≠ X.env.locals ∧ (∀ x c, X.env.cells.lookup x = some c → c ≠ b) ∧ ∀ p ∈ X.pn ++ pins, p.1 ≠ b) : Inv X pins σ H' s' := by
  obtain ⟨h', g', d', t', o'⟩ := s'
  have e : o' = s.os := ho
  subst e
  exact I.call (g' := g') (t' := t') (d' := d') u hok hg hch
end

/-- an exception: its class, its own dict's address (where it has one), the abstract heap behind it -/
abbrev XK := Value → Option Addr → Hp → Prop
abbrev St := List (Option V)
abbrev VK := V → Hp → Prop
/-- an expression's reading; a test's; an argument list's -/
abbrev TE := St → Hp → VK → Prop
abbrev TT := St → Hp → (Bool → Hp → Prop) → Prop
abbrev TA := St → Hp → (List V → Hp → Prop) → Prop
/-- what is wanted behind a statement -/
structure Ends where
  nx : St → Hp → Prop
  rt : VK
  bk : St → Hp → Prop := fun _ _ => False
  ct : St → Hp → Prop := fun _ _ => False
abbrev TS := Ends → St → Hp → Prop

def EP (X : Cx) (pins : List (Addr × Obj)) (σ : St) (Q : VK) (u : Value) (s' : Shared) : Prop := ∃ v H', Inv X pins σ H' s' ∧ RelV v u ∧ Q v H'
def TP (X : Cx) (pins : List (Addr × Obj)) (σ : St) (Q : Bool → Hp → Prop) (b : Bool) (s' : Shared) : Prop := ∃ H', Inv X pins σ H' s' ∧ Q b H'
def AP (X : Cx) (pins : List (Addr × Obj)) (σ : St) (Q : List V → Hp → Prop) (us : List Value) (s' : Shared) : Prop := ∃ vs H', Inv X pins σ H' s' ∧ Vals vs us ∧ Q vs H'
def SP (X : Cx) (pins : List (Addr × Obj)) (D : Ends) (f : Flow) (s' : Shared) : Prop :=
  match f with
  | .next => ∃ σ' H', Inv X pins σ' H' s' ∧ D.nx σ' H'
  | .brk => ∃ σ' H', Inv X pins σ' H' s' ∧ D.bk σ' H'
  | .cont => ∃ σ' H', Inv X pins σ' H' s' ∧ D.ct σ' H'
  | .ret u => ∃ v σ' H', Inv X pins σ' H' s' ∧ RelV v u ∧ D.rt v H'

def PE (X : Cx) (e : Expr) (t : TE) : Prop :=
  ∀ (pins : List (Addr × Obj)) (s : Shared) (σ : St) (H : Hp) (Q : VK), Inv X pins σ H s → t σ H Q → wpAny (model X.prog X.w) X.A (eval e X.env) (EP X pins σ Q) X.xe s
def PT (X : Cx) (e : Expr) (t : TT) : Prop :=
  ∀ (pins : List (Addr × Obj)) (s : Shared) (σ : St) (H : Hp) (Q : Bool → Hp → Prop), Inv X pins σ H s → t σ H Q → wpAny (model X.prog X.w) X.A (isTrue e X.env (eval e X.env)) (TP X pins σ Q) X.xe s
/-- a test whatever its 'whole' is (and, or) -/
def PW (X : Cx) (e : Expr) (t : TT) : Prop :=
  ∀ (whole : Sem Value) (pins : List (Addr × Obj)) (s : Shared) (σ : St) (H : Hp) (Q : Bool → Hp → Prop), Inv X pins σ H s → t σ H Q → wpAny (model X.prog X.w) X.A (isTrue e X.env whole) (TP X pins σ Q) X.xe s
theorem PW.pt {X : Cx} {e : Expr} {t : TT} (h : PW X e t) : PT X e t := h _
/-- an argument list (no star), from the left -/
def PA (X : Cx) (es : List Expr) (t : TA) : Prop :=
  ∀ (pos : Pos) (pins : List (Addr × Obj)) (s : Shared) (σ : St) (H : Hp) (Q : List V → Hp → Prop), Inv X pins σ H s → t σ H Q → wpAny (model X.prog X.w) X.A (spliced (backTo pos (starEach es X.env))) (AP X pins σ Q) X.xe s
def PS (X : Cx) (st : Stmt) (t : TS) : Prop :=
  ∀ (pins : List (Addr × Obj)) (s : Shared) (σ : St) (H : Hp) (D : Ends), Inv X pins σ H s → t D σ H → wpAny (model X.prog X.w) X.A (exec st X.env) (SP X pins D) X.xe s
def PSs (X : Cx) (st : List Stmt) (t : TS) : Prop :=
  ∀ (pins : List (Addr × Obj)) (s : Shared) (σ : St) (H : Hp) (D : Ends), Inv X pins σ H s → t D σ H → wpAny (model X.prog X.w) X.A (execs st X.env) (SP X pins D) X.xe s
/-- weaken the end -/
theorem thn {α : Type} {t : Sem α} {Q Q' : α → Shared → Prop} {M : Model} {A : Around} {E : Value → Shared → Prop} {s : Shared} (h : wpAny M A t Q E s) (hQ : ∀ a s, Q a s → Q' a s) : wpAny M A t Q' E s := wpAny_mono h hQ fun _ _ x => x
end L2

namespace L2
open PySem PySem.Spec PyProof.Rows
section
variable {X : Cx}

def tVar (i : Nat) : TE := fun σ H Q => ∃ v, σ[i]? = some (some v) ∧ Q v H
def tC (v : V) : TE := fun _ H Q => Q v H
theorem pe_var {i : Nat} {x : Str} {pos : Pos} (hN : X.N[i]? = some x) (hv : Vis X.env.scope x) (hd : (x == ("__debug__" : Str)) = false := by decide) (hcd : (x == ("__classdict__" : Str)) = false := by decide) : PE X (.Name x pos) (tVar i) := by
  intro pins s σ H Q I h
  obtain ⟨v, e, h⟩ := h
  obtain ⟨m, hn, hl⟩ := I.loc
  obtain ⟨u, r, l⟩ := hl i x v hN e hv
  have fin : EP X pins σ Q u s := ⟨v, H, I, r, h⟩
  rcases l with ⟨hk, hm⟩ | ⟨hk, c, hc, hcell⟩
  · exact wpAny_Name (wpAny_loadName_local I.ok.kind hk hn hm fin) hd
  · rcases hk with hk | hk
    · exact wpAny_Name (wpAny_loadName_cell I.ok.kind hk hc hcell fin) hd
    · exact wpAny_Name (wpAny_loadName_free I.ok.kind hk hc hcell fin hcd) hd
theorem pe_int {i j pos} : PE X (.Constant (.int i) j pos) (tC (.int i)) := fun _ _ _ H _ I h => wpAny_Constant_int ⟨.int i, H, I.tok _, ⟨_, rfl⟩, h⟩
theorem pe_bl {b j pos} : PE X (.Constant (.bool b) j pos) (tC (.bl b)) := fun _ _ _ H _ I h => Constant_bool ⟨.bl b, H, I, rfl, h⟩
theorem pe_non {j pos} : PE X (.Constant .none j pos) (tC .non) := fun _ _ _ H _ I h => Constant_none ⟨.non, H, I, rfl, h⟩
theorem pe_str {x j pos} : PE X (.Constant (.str x) j pos) (tC (.str x)) := fun _ _ _ H _ I h => Calls.Constant_str ⟨.str x, H, I.tok _, ⟨_, rfl⟩, h⟩

/-- a global name of the def -/
def Gl (X : Cx) (x : Str) : Prop := X.env.kindOf x = some .globalImplicit
theorem ld_glob {E : Value → Shared → Prop} {pins : List (Addr × Obj)} {s : Shared} {σ : St} {H : Hp} {x : Str} {u : Value} {pos : Pos} {Q : Value → Shared → Prop} (I : Inv X pins σ H s) (hg : Gl X x) (hm : X.mg x = some u) (h : Q u s)
    (hd : (x == ("__debug__" : Str)) = false := by decide) : wpAny (model X.prog X.w) X.A (eval (.Name x pos) X.env) Q E s :=
  Calls.Name_function_global I.ok.kind hg (Calls.loadGlobal_global (by rw [I.ok.glob]; exact I.mod.glob.keeps I.bk) hm h) hd
theorem ld_blt {E : Value → Shared → Prop} {pins : List (Addr × Obj)} {s : Shared} {σ : St} {H : Hp} {x : Str} {u : Value} {pos : Pos} {Q : Value → Shared → Prop} (I : Inv X pins σ H s) (hg : Gl X x) (hm : X.mg x = none) (hv : bootBuiltins x = some u) (h : Q u s)
    (hn : x ≠ "__name__" := by decide) (hd : (x == ("__debug__" : Str)) = false := by decide) : wpAny (model X.prog X.w) X.A (eval (.Name x pos) X.env) Q E s := by
  obtain ⟨mb, h1, h2⟩ := I.mod.blt
  exact Calls.Name_function_global I.ok.kind hg (Calls.loadGlobal_builtin (by rw [I.ok.glob]; exact I.mod.glob.keeps I.bk) hm (by rw [I.ok.blt]; exact h1.keeps I.bk) ((h2 x hn).trans hv) h) hd
/-- a module's constant, a class, a function, as a value -/
theorem pe_glob {x : Str} {v : V} {u : Value} {pos : Pos} (hg : Gl X x) (hm : X.mg x = some u) (r : RelV v u) (hd : (x == ("__debug__" : Str)) = false := by decide) : PE X (.Name x pos) (tC v) :=
  fun _ _ _ H _ I h => ld_glob I hg hm ⟨v, H, I, r, h⟩ hd
theorem pe_bltn {x : Str} {v : V} {u : Value} {pos : Pos} (hg : Gl X x) (hm : X.mg x = none) (hv : bootBuiltins x = some u) (r : RelV v u) (hn : x ≠ "__name__" := by decide) (hd : (x == ("__debug__" : Str)) = false := by decide) : PE X (.Name x pos) (tC v) :=
  fun _ _ _ H _ I h => ld_blt I hg hm hv ⟨v, H, I, r, h⟩ hn hd

variable {a b : Expr} {ta tb : TE} {pos : Pos}
/-- a comparison as a value, as a test -/
def tB (t : TE) : TT := fun σ H Q => t σ H fun x H1 => ∃ c, x = .bl c ∧ Q c H1
/-- an expression whose value is a bool, as a test -/
theorem pt_val {e : Expr} {t : TE} (h : PE X e t) (he : ∀ whole, isTrue e X.env whole = (do let v ← whole; standAt e.pos; holding [v] (truthy v)) := by intro _; rfl) : PT X e (tB t) := by
  intro pins s σ H Q I hw
  refine isTrue_plain (thn (h pins s σ H _ I hw) fun v s1 ⟨x, H1, I1, r1, q1⟩ => ?_) (he _)
  obtain ⟨d, rfl, q⟩ := q1
  cases r1
  exact wpAny_truthy_bool ⟨H1, I1, q⟩

variable {tA tB' : TT} {rest : List Expr}
def tAnd (t u : TT) : TT := fun σ H Q => t σ H fun c H1 => if c = true then u σ H1 Q else Q false H1
def tOr (t u : TT) : TT := fun σ H Q => t σ H fun c H1 => if c = true then Q true H1 else u σ H1 Q
def tNot (t : TT) : TT := fun σ H Q => t σ H fun c H1 => Q (!c) H1
theorem pw_and1 (ha : PT X a tA) : PW X (.BoolOp .And [a] pos) tA := by
  intro wh pins s σ H Q I h
  refine isTrue_and (thn (ha pins s σ H Q I h) fun c s1 e => ?_)
  cases c with
  | true => exact isTrue_and_nil e
  | false => exact e
theorem pw_or1 (ha : PT X a tA) : PW X (.BoolOp .Or [a] pos) tA := by
  intro wh pins s σ H Q I h
  refine isTrue_or (thn (ha pins s σ H Q I h) fun c s1 e => ?_)
  cases c with
  | false => exact isTrue_or_nil e
  | true => exact e
theorem pw_and (ha : PT X a tA) (hb : PW X (.BoolOp .And (b :: rest) pos) tB') : PW X (.BoolOp .And (a :: b :: rest) pos) (tAnd tA tB') := by
  intro wh pins s σ H Q I h
  refine isTrue_and (thn (ha pins s σ H _ I h) fun c s1 ⟨H1, I1, q1⟩ => ?_)
  cases c with
  | true => exact hb wh pins s1 σ H1 Q I1 q1
  | false => exact ⟨H1, I1, q1⟩
theorem pw_or (ha : PT X a tA) (hb : PW X (.BoolOp .Or (b :: rest) pos) tB') : PW X (.BoolOp .Or (a :: b :: rest) pos) (tOr tA tB') := by
  intro wh pins s σ H Q I h
  refine isTrue_or (thn (ha pins s σ H _ I h) fun c s1 ⟨H1, I1, q1⟩ => ?_)
  cases c with
  | true => exact ⟨H1, I1, q1⟩
  | false => exact hb wh pins s1 σ H1 Q I1 q1
theorem pt_not (ha : PT X a tA) : PT X (.UnaryOp .Not a pos) (tNot tA) := by
  intro pins s σ H Q I h
  exact isTrue_not (ha pins s σ H (fun c H1 => Q (!c) H1) I h)
/-- .. as values (bools) -/
def tAndV (ta tb : TE) : TE := fun σ H Q => ta σ H fun x H1 => ∃ c, x = .bl c ∧ if c = true then tb σ H1 Q else Q (.bl false) H1
def tOrV (ta tb : TE) : TE := fun σ H Q => ta σ H fun x H1 => ∃ c, x = .bl c ∧ if c = true then Q (.bl true) H1 else tb σ H1 Q
def tNotV (ta : TE) : TE := fun σ H Q => ta σ H fun x H1 => ∃ c, x = .bl c ∧ Q (.bl (!c)) H1
theorem pe_one {op} {t : TE} (h : PE X a t) : PE X (.BoolOp op [a] pos) t := fun pins s σ H Q I hw => BoolOp_one (h pins s σ H Q I hw)
theorem pe_and (ha : PE X a ta) (hb : PE X (.BoolOp .And (b :: rest) pos) tb) : PE X (.BoolOp .And (a :: b :: rest) pos) (tAndV ta tb) := by
  intro pins s σ H Q I h
  refine BoolOp_and (thn (ha pins s σ H _ I h) fun v s1 ⟨x, H1, I1, r1, q1⟩ => ?_)
  obtain ⟨c, rfl, q1⟩ := q1
  cases r1
  refine wpAny_truthy_bool ?_
  cases c with
  | true => exact hb pins s1 σ H1 Q I1 q1
  | false => exact ⟨.bl false, H1, I1, rfl, q1⟩
theorem pe_or (ha : PE X a ta) (hb : PE X (.BoolOp .Or (b :: rest) pos) tb) : PE X (.BoolOp .Or (a :: b :: rest) pos) (tOrV ta tb) := by
  intro pins s σ H Q I h
  refine BoolOp_or (thn (ha pins s σ H _ I h) fun v s1 ⟨x, H1, I1, r1, q1⟩ => ?_)
  obtain ⟨c, rfl, q1⟩ := q1
  cases r1
  refine wpAny_truthy_bool ?_
  cases c with
  | false => exact hb pins s1 σ H1 Q I1 q1
  | true => exact ⟨.bl true, H1, I1, rfl, q1⟩
theorem pe_not (ha : PE X a ta) : PE X (.UnaryOp .Not a pos) (tNotV ta) := by
  intro pins s σ H Q I h
  refine UnaryOp_ (thn (ha pins s σ H _ I h) fun v s1 ⟨x, H1, I1, r1, q1⟩ => ?_)
  obtain ⟨c, rfl, q1⟩ := q1
  cases r1
  exact not_of (wpAny_truthy_bool ⟨.bl (!c), H1, I1, rfl, q1⟩)
/-- a if t else b -/
def tIf (t : TT) (ta tb : TE) : TE := fun σ H Q => t σ H fun c H1 => if c = true then ta σ H1 Q else tb σ H1 Q
end
end L2

namespace L2
open PySem PySem.Spec PyProof.Rows

def SqL (K : PySem.W.Frag) (H : Hp) (a : Addr) (xs : List V) : Prop :=
  Rd H a (.lst xs) ∨
    ∃ (o : Obj) (its : Array Value) (n : Nat), K.lookup a = some o ∧ o.cls = .type "list" ∧ o.dict = none ∧ o.data = .seq its n ∧ its.size ≤ sizeLine ∧ Vals xs its.toList
def SqT (K : PySem.W.Frag) (H : Hp) (a : Addr) (xs : List V) : Prop :=
  Rd H a (.tup xs) ∨
    ∃ (o : Obj) (its : Array Value) (n : Nat), K.lookup a = some o ∧ o.cls = .type "tuple" ∧ o.data = .seq its n ∧ its.size ≤ sizeLine ∧ Vals xs its.toList
def absV : Value → Option V
  | .none => some .non
  | .bool b => some (.bl b)
  | .int i _ => some (.int i)
  | .str x _ => some (.str x)
  | .bytes b _ => some (.byt b)
  | .float b _ => some (.flt b)
  | .ref a => some (.ref a)
  | .type n => some (.ty n)
  | _ => none
theorem RelV.abs {x : V} {u : Value} (r : RelV x u) : absV u = some x := by
  cases x with
  | non => cases r; rfl
  | bl _ => cases r; rfl
  | int _ => obtain ⟨t, rfl⟩ := r; rfl
  | str _ => obtain ⟨t, rfl⟩ := r; rfl
  | byt _ => obtain ⟨t, rfl⟩ := r; rfl
  | flt _ => obtain ⟨t, rfl⟩ := r; rfl
  | ref _ => cases r; rfl
  | ty _ => cases r; rfl
theorem RelV.inj {x y : V} {u : Value} (r : RelV x u) (q : RelV y u) : x = y := Option.some.inj (r.abs.symm.trans q.abs)
theorem Vals.inj : ∀ {xs ys : List V} {us : List Value}, Vals xs us → Vals ys us → xs = ys
  | _, _, _, .nil, .nil => rfl
  | _, _, _, .cons r t, .cons r' t' => by rw [r.inj r', Vals.inj t t']
section
variable {X : Cx} {pins : List (Addr × Obj)} {σ : St} {H : Hp} {s : Shared} {a : Addr} {xs ys : List V}
theorem SqL.of {K : PySem.W.Frag} (h : H a = some (.lst xs)) : SqL K H a xs := .inl (.inl h)
theorem SqT.of {K : PySem.W.Frag} (h : H a = some (.tup xs)) : SqT K H a xs := .inl (.inl h)
theorem Inv.list (I : Inv X pins σ H s) (h : SqL X.K H a xs) : ∃ its : List Value, Vals xs its ∧ PlainL s.heap a its.toArray ∧ xs.length ≤ sizeLine := by
  rcases h with h | ⟨o, its, n, hk, hc, hd, hs, hz, r⟩
  · obtain ⟨z, its, n, r, e⟩ := h.ok I.hok
    exact ⟨its, r, ⟨_, n, e, rfl, rfl, rfl⟩, z⟩
  · refine ⟨its.toList, r, ⟨o, n, I.kIn a o hk, hc, hd, by simpa using hs⟩, ?_⟩
    have e := r.length
    simp only [Array.length_toList] at e
    omega
theorem Inv.tuple (I : Inv X pins σ H s) (h : SqT X.K H a xs) : ∃ its : List Value, Vals xs its ∧ IsTup s.heap a its.toArray ∧ xs.length ≤ sizeLine := by
  rcases h with h | ⟨o, its, n, hk, hc, hs, hz, r⟩
  · obtain ⟨z, its, r, p⟩ := h.ok I.hok
    exact ⟨its, r, p, z⟩
  · refine ⟨its.toList, r, ⟨o, I.kIn a o hk, hc, n, by simpa using hs⟩, ?_⟩
    have e := r.length
    simp only [Array.length_toList] at e
    omega
theorem Inv.list_inj (I : Inv X pins σ H s) (h : SqL X.K H a xs) (h' : SqL X.K H a ys) : xs = ys := by
  obtain ⟨its, r, ⟨o, n, e, _, _, d⟩, _⟩ := I.list h
  obtain ⟨its', r', ⟨o', n', e', _, _, d'⟩, _⟩ := I.list h'
  rw [e] at e'; cases e'
  rw [d] at d'
  injection d' with d1 _
  have : its = its' := by simpa using congrArg Array.toList d1
  subst this
  exact r.inj r'
theorem Inv.tuple_inj (I : Inv X pins σ H s) (h : SqT X.K H a xs) (h' : SqT X.K H a ys) : xs = ys := by
  obtain ⟨its, r, ⟨o, e, _, n, d⟩, _⟩ := I.tuple h
  obtain ⟨its', r', ⟨o', e', _, n', d'⟩, _⟩ := I.tuple h'
  rw [e] at e'; cases e'
  rw [d] at d'
  injection d' with d1 _
  have : its = its' := by simpa using congrArg Array.toList d1
  subst this
  exact r.inj r'
end

abbrev Cx.wish (X : Cx) (E : Value → Shared → Prop) : Cx := { X with xe := E }
/-- no exception leaves -/
abbrev Cx.nox (X : Cx) : Cx := X.wish fun _ _ => False
theorem Cx.Ok.wish {X : Cx} (ok : X.Ok) (E : Value → Shared → Prop) : (X.wish E).Ok :=
  ⟨ok.mod, ok.kind, ok.glob, ok.blt, ok.above, ok.inj, ok.has, ok.cab, ok.hd, ok.frames, ok.stk, ok.exf, ok.bs, ok.bsz, ok.noex, ok.exfs, ok.funs, ok.frf⟩
theorem Cx.Ok.unwish {X : Cx} {E : Value → Shared → Prop} (ok : (X.wish E).Ok) : X.Ok :=
  ⟨ok.mod, ok.kind, ok.glob, ok.blt, ok.above, ok.inj, ok.has, ok.cab, ok.hd, ok.frames, ok.stk, ok.exf, ok.bs, ok.bsz, ok.noex, ok.exfs, ok.funs, ok.frf⟩
section
variable {X : Cx} {pins : List (Addr × Obj)} {σ : St} {H : Hp} {s : Shared} {E : Value → Shared → Prop}
theorem Inv.wish (I : Inv X pins σ H s) (E : Value → Shared → Prop) : Inv (X.wish E) pins σ H s := ⟨I.ok.wish E, I.os, I.bare, I.base, I.loc, I.cell, I.free, I.freeC, I.pin, I.hok, I.len⟩
theorem Inv.unwish (I : Inv (X.wish E) pins σ H s) : Inv X pins σ H s := ⟨I.ok.unwish, I.os, I.bare, I.base, I.loc, I.cell, I.free, I.freeC, I.pin, I.hok, I.len⟩
theorem SP.unwish {D : Ends} {f : Flow} {s' : Shared} (h : SP (X.wish E) pins D f s') : SP X pins D f s' := by
  cases f with
  | next => obtain ⟨σ', H', I, q⟩ := h; exact ⟨σ', H', I.unwish, q⟩
  | brk => obtain ⟨σ', H', I, q⟩ := h; exact ⟨σ', H', I.unwish, q⟩
  | cont => obtain ⟨σ', H', I, q⟩ := h; exact ⟨σ', H', I.unwish, q⟩
  | ret u => obtain ⟨v, σ', H', I, r, q⟩ := h; exact ⟨v, σ', H', I.unwish, r, q⟩
theorem PE.nox {e : Expr} {t : TE} (h : PE X.nox e t) : PE X e t := fun pins s σ H Q I hw =>
  wpAny_mono (h pins s σ H Q (I.wish _) hw) (fun _ _ ⟨v, H', I', r, q⟩ => ⟨v, H', I'.unwish, r, q⟩) fun _ _ z => False.elim z
theorem PT.nox {e : Expr} {t : TT} (h : PT X.nox e t) : PT X e t := fun pins s σ H Q I hw =>
  wpAny_mono (h pins s σ H Q (I.wish _) hw) (fun _ _ ⟨H', I', q⟩ => ⟨H', I'.unwish, q⟩) fun _ _ z => False.elim z
theorem PSs.nox {st : List Stmt} {t : TS} (h : PSs X.nox st t) : PSs X st t := fun pins s σ H D I hw =>
  wpAny_mono (h pins s σ H D (I.wish _) hw) (fun _ _ q => q.unwish) fun _ _ z => False.elim z
end

section
variable {X : Cx} {st : Stmt} {rest : List Stmt} {t u : TS} {e : Expr} {te : TE} {pos : Pos}
def tNext : TS := fun D σ H => D.nx σ H
def tSeq (t u : TS) : TS := fun D σ H => t { D with nx := u D } σ H
theorem pss_nil : PSs X [] tNext := fun _ _ σ H _ I h => wpAny_execs_nil ⟨σ, H, I, h⟩
theorem pss_cons (h1 : PS X st t) (h2 : PSs X rest u) : PSs X (st :: rest) (tSeq t u) := by
  intro pins s σ H D I h
  refine wpAny_execs_cons (thn (h1 pins s σ H { D with nx := u D } I h) fun f s1 q => ?_)
  cases f with
  | next =>
    obtain ⟨σ', H', I', q⟩ := q
    exact h2 pins s1 σ' H' D I' q
  | ret v => exact q
  | brk => exact q
  | cont => exact q
theorem pss_one (h1 : PS X st t) : PSs X [st] t := by
  intro pins s σ H D I h
  refine wpAny_execs_cons (thn (h1 pins s σ H D I h) fun f s1 q => ?_)
  cases f with
  | next => exact wpAny_execs_nil q
  | ret v => exact q
  | brk => exact q
  | cont => exact q
/-- in a def's body nothing is shown -/
theorem Inv.quiet {pins : List (Addr × Obj)} {σ : St} {H : Hp} {s : Shared} (I : Inv X pins σ H s) : interactive X.env = false := by simp [interactive, I.ok.kind]
/-- an expression whose value is dropped -/
def tDrop (te : TE) : TS := fun D σ H => te σ H fun _ H1 => D.nx σ H1
theorem ps_expr (he : PE X e te) (hs : swapsWith e none pos.line X.env = pure false := by rfl) : PS X (.Expr e pos) (tDrop te) := by
  intro pins s σ H D I h
  exact wpAny_Expr_any (thn (he pins s σ H _ I h) fun v s1 ⟨x, H1, I1, r1, q1⟩ => ⟨σ, H1, I1, q1⟩) I.quiet hs
def tRet (te : TE) : TS := fun D σ H => te σ H D.rt
theorem ps_ret (he : PE X e te) : PS X (.Return (some e) pos) (tRet te) := by
  intro pins s σ H D I h
  exact wpAny_Return_some (thn (he pins s σ H _ I h) fun v s1 ⟨x, H1, I1, r1, q1⟩ => ⟨x, σ, H1, I1, r1, q1⟩)
def tRetN : TS := fun D _ H => D.rt .non H
def tIfS (c : TT) (t u : TS) : TS := fun D σ H => c σ H fun b H1 => if b = true then t D σ H1 else u D σ H1
theorem ps_if {c : Expr} {a b : List Stmt} {tc : TT} (hc : PT X c tc) (ha : PSs X a t) (hb : PSs X b u) : PS X (.If c a b pos) (tIfS tc t u) := by
  intro pins s σ H D I h
  refine wpAny_If (thn (hc pins s σ H _ I h) fun d s1 ⟨H1, I1, q1⟩ => ?_)
  cases d with
  | true => exact ha pins s1 σ H1 D I1 q1
  | false => exact hb pins s1 σ H1 D I1 q1
end

abbrev TG := V → St → Hp → (St → Hp → Prop) → Prop
abbrev TGs := List V → St → Hp → (St → Hp → Prop) → Prop
def PG (X : Cx) (target : Expr) (t : TG) : Prop :=
  ∀ (pins : List (Addr × Obj)) (s : Shared) (σ : St) (H : Hp) (v : V) (u : Value) (Q : St → Hp → Prop), Inv X pins σ H s → RelV v u → t v σ H Q →
    wpAny (model X.prog X.w) X.A (assign target X.env u) (fun _ s' => ∃ σ' H', Inv X pins σ' H' s' ∧ Q σ' H') X.xe s
/-- several targets, one after another -/
def PGs (X : Cx) (ts : List Expr) (t : TGs) : Prop :=
  ∀ (pins : List (Addr × Obj)) (s : Shared) (σ : St) (H : Hp) (vs : List V) (us : List Value) (Q : St → Hp → Prop), Inv X pins σ H s → Vals vs us → t vs σ H Q →
    wpAny (model X.prog X.w) X.A (assignInOrder ((assignEach ts X.env).map (·.2)) us) (fun _ s' => ∃ σ' H', Inv X pins σ' H' s' ∧ Q σ' H') X.xe s
section
variable {X : Cx} {pos : Pos}
def gName (i : Nat) : TG := fun v σ H Q => Q (σ.set i (some v)) H
theorem pg_name {i : Nat} {x : Str} (hN : X.N.Nodup) (hi : X.N[i]? = some x) (hx : Loc X.env.scope x) (hf : X.fn x = true ∨ X.env.scope.names.lookup x = some .local := by first | exact .inl rfl | exact .inr rfl | assumption) : PG X (.Name x pos) (gName i) := by
  intro pins s σ H v u Q I r h
  exact wpAny_assign_Name (store_ok I hN hi hx r (fun s' I' => ⟨_, H, I', h⟩) hf)
def gNil : TGs := fun vs σ H Q => vs = [] ∧ Q σ H
def gCons (t : TG) (u : TGs) : TGs := fun vs σ H Q => ∃ v r, vs = v :: r ∧ t v σ H fun σ' H' => u r σ' H' Q
/-- (a, b, ..) = a tuple of that length -/
def gTup (K : PySem.W.Frag) (n : Nat) (t : TGs) : TG := fun v σ H Q => ∃ a xs, v = .ref a ∧ SqT K H a xs ∧ xs.length = n ∧ t xs σ H Q
/-- target = value -/
def tAsg (te : TE) (g : TG) : TS := fun D σ H => te σ H fun x H1 => g x σ H1 D.nx
/-- name = value -/
theorem ps_set {i : Nat} {x : Str} {e : Expr} {te : TE} {pos' : Pos} (hN : X.N.Nodup) (hi : X.N[i]? = some x) (hx : Loc X.env.scope x) (he : PE X e te) (hs : swapsWith e (some (.Name x pos')) pos.line X.env = pure false := by rfl) (hf : X.fn x = true ∨ X.env.scope.names.lookup x = some .local := by first | exact .inl rfl | exact .inr rfl | assumption) :
    PS X (.Assign [.Name x pos'] e pos) (tAsg te (gName i)) := by
  intro pins s σ H D I h
  refine wpAny_Assign_Name (thn (he pins s σ H _ I h) fun v s1 ⟨y, H1, I1, r1, q1⟩ => ?_) hs
  exact store_ok I1 hN hi hx r1 (fun s2 I2 => ⟨_, H1, I2, q1⟩) hf
end

section
variable {X : Cx} {pos : Pos}
/-- the invariant W with its measure -/
def tWhile (c : TT) (tb : TS) : TS := fun D σ H => ∃ W : Nat → St → Hp → Prop, (∃ m, W m σ H) ∧ ∀ m σ H, W m σ H →
  c σ H fun b H1 => if b = true then ∃ N : St → Hp → Prop, (∀ σ' H', N σ' H' → ∃ m', m' < m ∧ W m' σ' H') ∧ tb { D with nx := N, ct := N, bk := D.nx } σ H1 else D.nx σ H1
theorem ps_while {c : Expr} {body : List Stmt} {tc : TT} {tb : TS} (hp : PassesOwn (model X.prog X.w) X.A X.env X.xe) (hc : PT X c tc) (hb : PSs X body tb) : PS X (.While c body [] pos) (tWhile tc tb) := by
  intro pins s σ H D I h
  obtain ⟨W, ⟨m0, w0⟩, turn⟩ := h
  refine wpAny_While (codeAny_whileLoop (fun n s' => ∃ σ' H', Inv X pins σ' H' s' ∧ W n σ' H') ?_ m0 ⟨σ, H, I, w0⟩)
  rintro n s1 ⟨σ1, H1, I1, w1⟩
  refine wpAny_passesOwn hp (thn (hc pins s1 σ1 H1 _ I1 (turn n σ1 H1 w1)) fun b s2 ⟨H2, I2, q2⟩ => ?_)
  cases b with
  | true =>
    obtain ⟨N, hN, q2⟩ := q2
    rw [if_pos rfl]
    refine wpAny_passesOwn hp (thn (hb pins s2 σ1 H2 _ I2 q2) fun f s3 q3 => ?_)
    cases f with
    | next =>
      obtain ⟨σ3, H3, I3, n3⟩ := q3
      obtain ⟨m', hm, w3⟩ := hN σ3 H3 n3
      exact ⟨m', hm, σ3, H3, I3, w3⟩
    | cont =>
      obtain ⟨σ3, H3, I3, n3⟩ := q3
      obtain ⟨m', hm, w3⟩ := hN σ3 H3 n3
      exact ⟨m', hm, σ3, H3, I3, w3⟩
    | brk => exact q3
    | ret v => exact q3
  | false =>
    rw [if_neg Bool.false_ne_true]
    exact wpAny_execs_nil ⟨σ1, H2, I2, q2⟩
end

/-- at turn i: it yields x (the heap may grow), or it stops -/
structure It where
  go : Nat → Hp → Prop
  yld : Nat → Hp → V → Hp → Prop
  stop : Nat → Hp → Prop
/-- the iterator's own objects may turn: they are not the frame's, not pinned, younger than the entry (or a comprehension's own) -/
def FpOk (X : Cx) (pins : List (Addr × Obj)) (H : Hp) (b : Addr) : Prop :=
  H b = none ∧ b ≠ X.env.locals ∧ b ∉ X.fs ∧ (b ∈ X.ex ∨ X.s₀.heap.objs.size ≤ b) ∧ (∀ x c, X.env.cells.lookup x = some c → c ≠ b) ∧ ∀ p ∈ X.pn ++ pins, p.1 ≠ b
theorem Inv.fpOk {X : Cx} {pins : List (Addr × Obj)} {σ : St} {H H' : Hp} {s : Shared} {b : Addr} (I : Inv X pins σ H s) (hb : s.heap.objs.size ≤ b) (hn : H' b = none) : FpOk X pins H' b := by
  refine ⟨hn, Nat.ne_of_gt (Nat.lt_of_lt_of_le I.lt hb), I.nofs hb, .inr (Nat.le_trans I.sz hb), fun x c e z => ?_, fun p hp z => ?_⟩
  · obtain ⟨v, q⟩ := I.cell x c e
    exact absurd (Nat.lt_of_lt_of_le q.lt (by rw [z]; exact hb)) (Nat.lt_irrefl _)
  · exact absurd (Nat.lt_of_lt_of_le (Heap.lt_size (I.pin p hp).1) (by rw [z]; exact hb)) (Nat.lt_irrefl _)
structure Turn (P : Program) (w : World) (K : PySem.W.Frag) (tg : Expr) (J : It) (fp : List Addr) (it : Addr) (tn : Nat → Heap → Prop) : Prop where
  mem : it ∈ fp
  obj : ∀ i h, tn i h → ∀ b ∈ fp, ∃ o, h.get? b = some o ∧ ∀ v, o.data ≠ .cell v
  keep : ∀ i h h', tn i h → (∀ b ∈ fp, ∀ o, h.get? b = some o → h'.get? b = some o) → tn i h'
  item : ∀ (X : Cx), X.prog = P → X.w = w → X.K = K → X.calm = true → ∀ (i : Nat) (pins : List (Addr × Obj)) (s : Shared) (σ : St) (H : Hp) (E : Value → Shared → Prop), Inv X pins σ H s → (∀ b ∈ fp, FpOk X pins H b) → tn i s.heap → J.go i H →
    wpAny (model P w) X.A (pyNext (.ref it)) (fun r s1 => ∃ u, r = some u ∧
      wpAny (model P w) X.A (letOwnedTupleGo tg (.ref it) u) (fun _ s2 => ∃ x H', Inv X pins σ H' s2 ∧ RelV x u ∧ J.yld i H x H' ∧ tn (i + 1) s2.heap ∧ ∀ b ∈ fp, H' b = none) E s1) E s
  done : ∀ (X : Cx), X.prog = P → X.w = w → X.K = K → X.calm = true → ∀ (i : Nat) (pins : List (Addr × Obj)) (s : Shared) (σ : St) (H : Hp) (E : Value → Shared → Prop), Inv X pins σ H s → (∀ b ∈ fp, FpOk X pins H b) → tn i s.heap → J.stop i H →
    wpAny (model P w) X.A (pyNext (.ref it)) (fun r s1 => r = none ∧ Inv X pins σ H s1) E s
  self : ∀ (A : Around) (i : Nat) (s : Shared) (Q : Value → Shared → Prop) (E : Value → Shared → Prop), tn i s.heap → Q (.ref it) s → wpAny (model P w) A (pyIter (.ref it)) Q E s
abbrev TI := St → Hp → (It → Hp → Prop) → Prop
/-- an iterator has come -/
def PIE (X : Cx) (pins : List (Addr × Obj)) (σ : St) (tg : Expr) (R : It → Hp → Prop) (itv : Value) (s2 : Shared) : Prop :=
  ∃ (it : Addr) (fp : List Addr) (tn : Nat → Heap → Prop) (J : It) (H' : Hp), itv = .ref it ∧ Inv X pins σ H' s2 ∧ Turn X.prog X.w X.K tg J fp it tn ∧ tn 0 s2.heap ∧ (∀ b ∈ fp, FpOk X pins H' b) ∧ R J H'
def PI (X : Cx) (tg iter : Expr) (wi : TI) : Prop :=
  ∀ (pins : List (Addr × Obj)) (s : Shared) (σ : St) (H : Hp) (R : It → Hp → Prop), Inv X pins σ H s → wi σ H R →
    wpAny (model X.prog X.w) X.A (eval iter X.env) (fun v s1 => wpAny (model X.prog X.w) X.A (pyIter v) (PIE X pins σ tg R) X.xe s1) X.xe s

/-- the step ahead of the store is nothing for an iterator that keeps no tuple -/
theorem go_of {M : Model} {A : Around} {E : Value → Shared → Prop} {s : Shared} {tg : Expr} {it : Addr} {u : Value} {o : Obj} {n : String} {vs : Array Value} {Q : Unit → Shared → Prop} (ho : s.heap.get? it = some o) (hc : o.cls = .type n) (hd : o.data = .fields vs)
    (hn : ["enumerate", "zip", "dict_itemiterator", "dict_reverseitemiterator", "odict_iterator", "itertools.zip_longest", "itertools.pairwise"].contains n = false) (hQ : Q () s) : wpAny M A (letOwnedTupleGo tg (.ref it) u) Q E s := by
  unfold letOwnedTupleGo
  cases tg <;> first
    | exact wpAny_pure hQ
    | (cases u <;> first
        | exact wpAny_pure hQ
        | (refine wpAny_bind (wpAny_load ho ?_)
           rw [hc, hd]
           show wpAny M A (if (["enumerate", "zip", "dict_itemiterator", "dict_reverseitemiterator", "odict_iterator", "itertools.zip_longest", "itertools.pairwise"].contains n && vs[0]? == some (rawInt _)) = true then _ else _) Q E s
           rw [if_neg (by intro h; rw [hn, Bool.false_and] at h; cases h)]
           exact wpAny_pure hQ))

/-- the list at a, as it stands at each turn (a loop may append to it) -/
def Itl (K : PySem.W.Frag) (a : Addr) : It :=
  ⟨fun i H => ∃ xs x, SqL K H a xs ∧ xs[i]? = some x, fun i H x H' => H' = H ∧ ∀ xs, SqL K H a xs → xs[i]? = some x, fun i H => ∃ xs, SqL K H a xs ∧ xs.length ≤ i⟩
def Itt (K : PySem.W.Frag) (a : Addr) : It :=
  ⟨fun i H => ∃ xs x, SqT K H a xs ∧ xs[i]? = some x, fun i H x H' => H' = H ∧ ∀ xs, SqT K H a xs → xs[i]? = some x, fun i H => ∃ xs, SqT K H a xs ∧ xs.length ≤ i⟩
/-- lo, lo + 1, .. (n of them) -/
def Itr (lo : Int) (n : Nat) : It := ⟨fun i _ => i < n, fun i H x H' => H' = H ∧ x = .int (lo + i), fun i _ => n ≤ i⟩
theorem turn_list {P : Program} {w : World} {K : PySem.W.Frag} {tg : Expr} (a it : Addr) : Turn P w K tg (Itl K a) [it] it (fun i h => h.IsListIter it a i) where
  mem := by simp
  obj := fun i h st b hb => by
    have e : b = it := by simpa using hb
    subst e
    obtain ⟨o, e, c, d⟩ := st
    exact ⟨o, e, fun v z => by rw [d] at z; cases z⟩
  keep := fun i h h' st k => st.at fun o e => k it (by simp) o e
  item := by
    intro X hP hw hK hc i pins s σ H E I hf st hg
    subst hP hw hK
    obtain ⟨xs, x, hq, hx⟩ := hg
    obtain ⟨its, rv, p, hz⟩ := I.list hq
    obtain ⟨u, hu, ru⟩ := rv.get hx
    obtain ⟨f0, f1, f2, f3, f4, f5⟩ := hf it (by simp)
    refine wpAny_pyNext_list_item st p.isList (x := u) (by simpa using hu) fun h' st' sb => ?_
    have I1 : Inv X pins σ H { s with heap := h' } := I.turned (t' := s.toks) (fun b o hb e => (sb.2 b hb).trans e) f0 f1 f3 f4 f5
    obtain ⟨o, e, c, d⟩ := id st'
    exact ⟨u, rfl, go_of (s := { s with heap := h' }) e c d (by decide) ⟨x, H, I1, ru, ⟨rfl, fun ys hy => by rw [I.list_inj hy hq]; exact hx⟩, st', fun b hb => (hf b hb).1⟩⟩
  done := by
    intro X hP hw hK hc i pins s σ H E I hf st hg
    subst hP hw hK
    obtain ⟨xs, hq, hx⟩ := hg
    obtain ⟨its, rv, p, hz⟩ := I.list hq
    obtain ⟨f0, f1, f2, f3, f4, f5⟩ := hf it (by simp)
    have hl := rv.length
    exact wpAny_pyNext_list_end (I.ok.hd hc) st p.isList (by simp; omega) fun h' eb => ⟨rfl, I.turned (t' := s.toks) (fun b o hb e => eb b o hb e) f0 f1 f3 f4 f5⟩
  self := fun _ _ _ _ _ st h => wpAny_pyIter_listiter st h
theorem turn_tuple {P : Program} {w : World} {K : PySem.W.Frag} {tg : Expr} (a it : Addr) : Turn P w K tg (Itt K a) [it] it (fun i h => h.IsTupleIter it a i) where
  mem := by simp
  obj := fun i h st b hb => by
    have e : b = it := by simpa using hb
    subst e
    obtain ⟨o, e, c, d⟩ := st
    exact ⟨o, e, fun v z => by rw [d] at z; cases z⟩
  keep := fun i h h' st k => st.at fun o e => k it (by simp) o e
  item := by
    intro X hP hw hK hc i pins s σ H E I hf st hg
    subst hP hw hK
    obtain ⟨xs, x, hq, hx⟩ := hg
    obtain ⟨its, rv, p, hz⟩ := I.tuple hq
    obtain ⟨u, hu, ru⟩ := rv.get hx
    obtain ⟨f0, f1, f2, f3, f4, f5⟩ := hf it (by simp)
    refine wpAny_pyNext_tuple_item st (show s.heap.IsTuple a its.toArray from p) (x := u) (by simpa using hu) fun h' st' sb => ?_
    have I1 : Inv X pins σ H { s with heap := h' } := I.turned (t' := s.toks) (fun b o hb e => (sb.2 b hb).trans e) f0 f1 f3 f4 f5
    obtain ⟨o, e, c, d⟩ := id st'
    exact ⟨u, rfl, go_of (s := { s with heap := h' }) e c d (by decide) ⟨x, H, I1, ru, ⟨rfl, fun ys hy => by rw [I.tuple_inj hy hq]; exact hx⟩, st', fun b hb => (hf b hb).1⟩⟩
  done := by
    intro X hP hw hK hc i pins s σ H E I hf st hg
    subst hP hw hK
    obtain ⟨xs, hq, hx⟩ := hg
    obtain ⟨its, rv, p, hz⟩ := I.tuple hq
    obtain ⟨f0, f1, f2, f3, f4, f5⟩ := hf it (by simp)
    have hl := rv.length
    exact wpAny_pyNext_tuple_end (I.ok.hd hc) st (show s.heap.IsTuple a its.toArray from p) (by simp; omega) fun h' eb => ⟨rfl, I.turned (t' := s.toks) (fun b o hb e => eb b o hb e) f0 f1 f3 f4 f5⟩
  self := fun _ _ _ _ _ st h => wpAny_pyIter_tupleiter st h
theorem turn_range {P : Program} {w : World} {K : PySem.W.Frag} {tg : Expr} (it : Addr) (lo : Int) (n : Nat) : Turn P w K tg (Itr lo n) [it] it (fun i h => IsRangeIter h it (lo + (i : Nat) * 1) ((n : Int) - (i : Nat)) 1) where
  mem := by simp
  obj := fun i h st b hb => by
    have e : b = it := by simpa using hb
    subst e
    exact ⟨_, st, fun v z => by
      have z' : Data.fields _ = Data.cell v := z
      cases z'⟩
  keep := fun i h h' st k => k it (by simp) _ st
  item := by
    intro X hP hw hK hc i pins s σ H E I hf st hg
    subst hP hw hK
    obtain ⟨f0, f1, f2, f3, f4, f5⟩ := hf it (by simp)
    have W := Walks.range (prog := X.prog) (w := X.w) (I.ok.hd hc) it lo 1 n
    refine W.item i s _ _ hg st fun v h' tk hv st' kk => ?_
    obtain ⟨t, rfl⟩ := hv
    have I1 : Inv X pins σ H { s with heap := h', toks := tk } := I.turned (fun b o hb e => kk b o (by simpa using hb) e) f0 f1 f3 f4 f5
    refine ⟨_, rfl, go_of (s := { s with heap := h', toks := tk }) (n := "range_iterator") st' rfl rfl (by decide) ⟨.int (lo + i), H, I1, ⟨t, ?_⟩, ⟨rfl, rfl⟩, st', fun b hb => (hf b hb).1⟩⟩
    rw [Int.mul_one]
  done := by
    intro X hP hw hK hc i pins s σ H E I hf st hg
    subst hP hw hK
    obtain ⟨f0, f1, f2, f3, f4, f5⟩ := hf it (by simp)
    exact wpAny_pyNext_range_end (I.ok.hd hc) st (by have : n ≤ i := hg; omega) fun h' eb => ⟨rfl, I.turned (t' := s.toks) (fun b o hb e => eb b o hb e) f0 f1 f3 f4 f5⟩
  self := fun _ _ _ _ _ st h => wpAny_pyIter_rangeiter st h
end L2

namespace L2
open PySem PySem.Spec PyProof.Rows
section
variable {X : Cx} {tg : Expr}
def iList (K : PySem.W.Frag) (tl : TE) : TI := fun σ H R => tl σ H fun x H1 => ∃ a, x = .ref a ∧ (∃ xs, SqL K H1 a xs) ∧ R (Itl K a) H1
def iTup (K : PySem.W.Frag) (tl : TE) : TI := fun σ H R => tl σ H fun x H1 => ∃ a, x = .ref a ∧ (∃ xs, SqT K H1 a xs) ∧ R (Itt K a) H1
theorem pi_list {l : Expr} {tl : TE} (hl : PE X l tl) : PI X tg l (iList X.K tl) := by
  intro pins s σ H R I h
  refine thn (hl pins s σ H _ I h) fun v s1 ⟨x, H1, I1, r1, q1⟩ => ?_
  obtain ⟨a, e, ⟨xs, hq⟩, q⟩ := q1
  subst e
  cases r1
  obtain ⟨its, rv, p, hz⟩ := I1.list hq
  refine wpAny_pyIter_list p.isList ?_
  refine ⟨s1.heap.objs.size, [s1.heap.objs.size], _, _, H1, rfl, I1.kept (t' := s1.toks) fun b o e => Heap.get?_push_of_some _ e, turn_list a _, ⟨_, Heap.get?_push_size _ rfl, rfl, rfl⟩, fun b hb => ?_, q⟩
  have e : b = s1.heap.objs.size := by simpa using hb
  subst e
  exact I1.fpOk (Nat.le_refl _) (I1.hok.fresh (Nat.le_refl _))
theorem pi_tup {l : Expr} {tl : TE} (hl : PE X l tl) : PI X tg l (iTup X.K tl) := by
  intro pins s σ H R I h
  refine thn (hl pins s σ H _ I h) fun v s1 ⟨x, H1, I1, r1, q1⟩ => ?_
  obtain ⟨a, e, ⟨xs, hq⟩, q⟩ := q1
  subst e
  cases r1
  obtain ⟨its, rv, p, hz⟩ := I1.tuple hq
  refine wpAny_pyIter_tuple (show s1.heap.IsTuple a its.toArray from p) ?_
  refine ⟨s1.heap.objs.size, [s1.heap.objs.size], _, _, H1, rfl, I1.kept (t' := s1.toks) fun b o e => Heap.get?_push_of_some _ e, turn_tuple a _, ⟨_, Heap.get?_push_size _ rfl, rfl, rfl⟩, fun b hb => ?_, q⟩
  have e : b = s1.heap.objs.size := by simpa using hb
  subst e
  exact I1.fpOk (Nat.le_refl _) (I1.hok.fresh (Nat.le_refl _))
/-- a range object just made, walked -/
theorem range_it {pins : List (Addr × Obj)} {σ : St} {H : Hp} {s : Shared} {R : It → Hp → Prop} {E : Value → Shared → Prop} {lo hi : Int} {t u v : Tok} {tk : Nat} (I : Inv X pins σ H s) (h1 : -(2 ^ 62) ≤ lo) (h2 : lo < 2 ^ 62) (h3 : -(2 ^ 62) ≤ hi) (h4 : hi < 2 ^ 62)
    (q : R (Itr lo (hi - lo).toNat) H) : wpAny (model X.prog X.w) X.A (pyIter (.ref s.heap.objs.size)) (PIE X pins σ tg R) E { s with heap := s.heap.push { cls := .type "range", data := .fields #[.int lo t, .int hi u, .int 1 v] }, toks := tk } := by
  refine wpAny_pyIter_range (IsRange.new ..) (small_one h1 h2 h3 h4) ?_
  have I1 : Inv X pins σ H { s with heap := s.heap.push { cls := .type "range", data := .fields #[.int lo t, .int hi u, .int 1 v] }, toks := tk } := I.kept fun b o e => Heap.get?_push_of_some _ e
  refine ⟨(s.heap.push { cls := .type "range", data := .fields #[.int lo t, .int hi u, .int 1 v] }).objs.size, [(s.heap.push { cls := .type "range", data := .fields #[.int lo t, .int hi u, .int 1 v] }).objs.size], _, _, H, rfl,
    I1.kept (t' := tk) fun b o e => Heap.get?_push_of_some _ e, turn_range _ lo (hi - lo).toNat, ?_, fun b hb => ?_, q⟩
  · have e1 : lo + ((0 : Nat) : Int) * 1 = lo := by simp
    have e2 : (((hi - lo).toNat : Nat) : Int) - ((0 : Nat) : Int) = Builtin.Range.rangeSize lo hi 1 := by rw [rangeSize_one]; split <;> omega
    show IsRangeIter _ _ (lo + ((0 : Nat) : Int) * 1) ((((hi - lo).toNat : Nat) : Int) - ((0 : Nat) : Int)) 1
    rw [e1, e2]
    exact Heap.get?_push_size _ rfl
  · have e : b = (s.heap.push { cls := .type "range", data := .fields #[.int lo t, .int hi u, .int 1 v] }).objs.size := by simpa using hb
    subst e
    exact I1.fpOk (Nat.le_refl _) (I1.hok.fresh (Nat.le_refl _))
def iRng1 (ta : TA) : TI := fun σ H R => ta σ H fun vs H1 => ∃ j : Int, vs = [.int j] ∧ -(2 ^ 62) ≤ j ∧ j < 2 ^ 62 ∧ R (Itr 0 j.toNat) H1
def iRng2 (ta : TA) : TI := fun σ H R => ta σ H fun vs H1 => ∃ i j : Int, vs = [.int i, .int j] ∧ (-(2 ^ 62) ≤ i ∧ i < 2 ^ 62 ∧ -(2 ^ 62) ≤ j ∧ j < 2 ^ 62) ∧ R (Itr i (j - i).toNat) H1
theorem pi_range1 {a : Expr} {ta : TA} {p pos : Pos} (hg : Gl X "range") (hm : X.mg "range" = none) (ha : PA X [a] ta) (hs : starEach [a] X.env = [(false, eval a X.env)] := by rfl) : PI X tg (.Call (.Name "range" p) [a] [] pos) (iRng1 ta) := by
  intro pins s σ H R I h
  refine Call_ (ld_blt I hg hm boot_range (PyProof.Rows.callWith_type1 (thn (ha pos pins s σ H _ I h) fun us s1 ⟨vs, H1, I1, r1, q1⟩ => ?_) hs rfl))
  obtain ⟨j, e, q1, q2, q⟩ := q1
  subst e
  cases r1 with
  | cons r rr =>
    cases rr
    obtain ⟨t, rfl⟩ := r
    exact call_range_1 (range_it I1 (by omega) (by omega) q1 q2 (by simpa using q))
theorem pi_range2 {a b : Expr} {ta : TA} {p pos : Pos} (hg : Gl X "range") (hm : X.mg "range" = none) (ha : PA X [a, b] ta) (hs : starEach [a, b] X.env = [(false, eval a X.env), (false, eval b X.env)] := by rfl) (hs2 : starEach [b] X.env = [(false, eval b X.env)] := by rfl) :
    PI X tg (.Call (.Name "range" p) [a, b] [] pos) (iRng2 ta) := by
  intro pins s σ H R I h
  refine Call_ (ld_blt I hg hm boot_range (PyProof.Rows.callWith_type1 (thn (ha pos pins s σ H _ I h) fun us s1 ⟨vs, H1, I1, r1, q1⟩ => ?_) (by rw [hs, hs2]) (by rw [hs2]; rfl)))
  obtain ⟨i, j, e, ⟨q1, q2, q3, q4⟩, q⟩ := q1
  subst e
  cases r1 with
  | cons r rr =>
    cases rr with
    | cons r' rr =>
      cases rr
      obtain ⟨t, rfl⟩ := r
      obtain ⟨t', rfl⟩ := r'
      exact call_range_2 (range_it I1 q1 q2 q3 q4 q)

/-- W: the invariant by the turn and a measure; N: what the body is to reach -/
def tFor (wi : TI) (g : TG) (tb : TS) : TS := fun D σ H => wi σ H fun J H1 => ∃ W : Nat → Nat → St → Hp → Prop, (∃ m, W 0 m σ H1) ∧ ∀ i m σ H, W i m σ H →
  (J.stop i H ∧ D.nx σ H) ∨ (J.go i H ∧ ∃ N : St → Hp → Prop, (∀ σ' H', N σ' H' → ∃ m', m' < m ∧ W (i + 1) m' σ' H') ∧ ∀ x H', J.yld i H x H' → g x σ H' fun σ2 H2 => tb { D with nx := N, ct := N, bk := D.nx } σ2 H2)
/-- the records at fp as they stand -/
def pinsAt (fp : List Addr) (h : Heap) : List (Addr × Obj) := fp.filterMap fun b => (h.get? b).map fun o => (b, o)
theorem mem_pinsAt {fp : List Addr} {h : Heap} {b : Addr} {o : Obj} (hb : b ∈ fp) (e : h.get? b = some o) : (b, o) ∈ pinsAt fp h := List.mem_filterMap.mpr ⟨b, hb, by rw [e]; rfl⟩
theorem of_pinsAt {fp : List Addr} {h : Heap} {p : Addr × Obj} (hp : p ∈ pinsAt fp h) : p.1 ∈ fp ∧ h.get? p.1 = some p.2 := by
  obtain ⟨b, hb, e⟩ := List.mem_filterMap.mp hp
  cases q : h.get? b with
  | none => rw [q] at e; cases e
  | some o =>
    rw [q] at e
    have e' : (b, o) = p := Option.some.inj e
    subst e'
    exact ⟨hb, q⟩
theorem Inv.pinned {pins : List (Addr × Obj)} {σ : St} {H : Hp} {s : Shared} {fp : List Addr} (I : Inv X pins σ H s) (hf : ∀ b ∈ fp, FpOk X pins H b) (ho : ∀ b ∈ fp, ∃ o, s.heap.get? b = some o ∧ ∀ v, o.data ≠ .cell v) : Inv X (pins ++ pinsAt fp s.heap) σ H s :=
  I.pins_of fun p hp => (List.mem_append.mp hp).elim (fun z => I.pin p (List.mem_append_right _ z)) fun z => by
    obtain ⟨hb, e⟩ := of_pinsAt z
    obtain ⟨f0, f1, f2, _⟩ := hf p.1 hb
    obtain ⟨o, e', d⟩ := ho p.1 hb
    rw [e] at e'; cases e'
    exact ⟨e, f0, f1, f2, d⟩
theorem Inv.unpinned {pins pl : List (Addr × Obj)} {σ : St} {H : Hp} {s : Shared} (I : Inv X (pins ++ pl) σ H s) : Inv X pins σ H s := I.pins_of fun p hp => I.pin p (List.mem_append_right _ (List.mem_append_left _ hp))
theorem ps_for {iter : Expr} {body : List Stmt} {wi : TI} {g : TG} {tb : TS} {pos : Pos} (hp : PassesOwn (model X.prog X.w) X.A X.env X.xe) (hc : X.calm = true) (hi : PI X tg iter wi) (hg : PG X tg g) (hb : PSs X body tb)
    (hs : ∀ x, foldedSetIterable iter X.env x = pure x := by intro _; rfl) : PS X (.For tg iter body [] pos) (tFor wi g tb) := by
  intro pins s σ H D I h
  refine wpAny_For (thn (hi pins s σ H _ I h) fun v s1 h1 => thn h1 fun itv s2 h2 => ?_) hs
  obtain ⟨it, fp, tn, J, H2, e, I2, T, st2, f2, W, ⟨m0, w0⟩, turn⟩ := h2
  subst e
  -- what stays true of the iterator's objects through the loop
  have stat : ∀ {H' : Hp}, (∀ b ∈ fp, H' b = none) → ∀ b ∈ fp, FpOk X pins H' b := fun hn b hb => ⟨hn b hb, (f2 b hb).2⟩
  refine codeAny_forLoop_any (fun n s' => ∃ i σ' H', Inv X pins σ' H' s' ∧ tn i s'.heap ∧ (∀ b ∈ fp, H' b = none) ∧ W i n σ' H') ?_ m0 ⟨0, σ, H2, I2, st2, fun b hb => (f2 b hb).1, w0⟩
  rintro n s3 ⟨i, σ3, H3, I3, st3, fr3, w3⟩
  rcases turn i n σ3 H3 w3 with ⟨stop, qn⟩ | ⟨go, N, hN, step⟩
  · refine wpAny_passesOwn hp (thn (T.done X rfl rfl rfl hc i pins s3 σ3 H3 X.xe I3 (stat fr3) st3 stop) fun r s4 ⟨hr, I4⟩ => ?_)
    subst hr
    exact wpAny_execs_nil ⟨σ3, H3, I4, qn⟩
  · refine wpAny_passesOwn hp (thn (T.item X rfl rfl rfl hc i pins s3 σ3 H3 X.xe I3 (stat fr3) st3 go) fun r s4 ⟨u, hr, h4⟩ => ?_)
    subst hr
    refine wpAny_passesOwn hp (thn h4 fun _ s5 ⟨x, H5, I5, r5, y5, st5, fr5⟩ => ?_)
    have I5' := I5.pinned (stat fr5) (T.obj _ _ st5)
    refine wpAny_passesOwn hp (thn (hg _ s5 σ3 H5 x u _ I5' r5 (step x H5 y5)) fun _ s6 ⟨σ6, H6, I6, q6⟩ => ?_)
    refine wpAny_passesOwn hp (thn (hb _ s6 σ6 H6 _ I6 q6) fun f s7 q7 => ?_)
    have again : ∀ {σ7 : St} {H7 : Hp}, Inv X (pins ++ pinsAt fp s5.heap) σ7 H7 s7 → N σ7 H7 → ∃ m, m < n ∧ ∃ i σ' H', Inv X pins σ' H' s7 ∧ tn i s7.heap ∧ (∀ b ∈ fp, H' b = none) ∧ W i m σ' H' := fun {σ7 H7} I7 n7 => by
      obtain ⟨m', hm, w7⟩ := hN σ7 H7 n7
      refine ⟨m', hm, i + 1, σ7, H7, I7.unpinned, T.keep _ _ _ st5 fun b hb o e => (I7.pin (b, o) (List.mem_append_right _ (List.mem_append_right _ (mem_pinsAt hb e)))).1, fun b hb => ?_, w7⟩
      obtain ⟨o, e, d⟩ := T.obj _ _ st5 b hb
      exact (I7.pin (b, o) (List.mem_append_right _ (List.mem_append_right _ (mem_pinsAt hb e)))).2.1
    cases f with
    | next => obtain ⟨σ7, H7, I7, n7⟩ := q7; exact again I7 n7
    | cont => obtain ⟨σ7, H7, I7, n7⟩ := q7; exact again I7 n7
    | brk => obtain ⟨σ7, H7, I7, q7⟩ := q7; exact ⟨σ7, H7, I7.unpinned, q7⟩
    | ret v => obtain ⟨x7, σ7, H7, I7, r7, q7⟩ := q7; exact ⟨x7, σ7, H7, I7.unpinned, r7, q7⟩
end

/-- over a list that the body leaves as it is -/
theorem for_list {K : PySem.W.Frag} {a : Addr} {xs : List V} {g : TG} {tb : TS} {D : Ends} {σ : St} {H : Hp} (Pv : Nat → St → Hp → Prop) (h0 : Pv 0 σ H) (hl : ∀ i σ H, i ≤ xs.length → Pv i σ H → SqL K H a xs)
    (hs : ∀ i x σ H, xs[i]? = some x → Pv i σ H → g x σ H fun σ2 H2 => tb { D with nx := Pv (i + 1), ct := Pv (i + 1), bk := D.nx } σ2 H2) (hd : ∀ σ H, Pv xs.length σ H → D.nx σ H) :
    ∃ W : Nat → Nat → St → Hp → Prop, (∃ m, W 0 m σ H) ∧ ∀ i m σ H, W i m σ H →
      ((Itl K a).stop i H ∧ D.nx σ H) ∨ ((Itl K a).go i H ∧ ∃ N : St → Hp → Prop, (∀ σ' H', N σ' H' → ∃ m', m' < m ∧ W (i + 1) m' σ' H') ∧ ∀ x H', (Itl K a).yld i H x H' → g x σ H' fun σ2 H2 => tb { D with nx := N, ct := N, bk := D.nx } σ2 H2) := by
  refine ⟨fun i m σ H => m = xs.length - i ∧ i ≤ xs.length ∧ Pv i σ H, ⟨xs.length, by simp, Nat.zero_le _, h0⟩, ?_⟩
  rintro i m σ H ⟨rfl, hi, p⟩
  have q := hl i σ H hi p
  by_cases hlt : i < xs.length
  · refine .inr ⟨⟨xs, xs[i], q, by simp [hlt]⟩, Pv (i + 1), fun σ' H' p' => ⟨xs.length - (i + 1), by omega, rfl, hlt, p'⟩, fun x H' y => ?_⟩
    obtain ⟨e, y⟩ := y
    subst e
    exact hs i x σ _ (y xs q) p
  · have e : i = xs.length := by omega
    subst e
    exact .inl ⟨⟨xs, q, Nat.le_refl _⟩, hd σ H p⟩
theorem for_range {lo : Int} {n : Nat} {g : TG} {tb : TS} {D : Ends} {σ : St} {H : Hp} (Pv : Nat → St → Hp → Prop) (h0 : Pv 0 σ H)
    (hs : ∀ i σ H, i < n → Pv i σ H → g (.int (lo + i)) σ H fun σ2 H2 => tb { D with nx := Pv (i + 1), ct := Pv (i + 1), bk := D.nx } σ2 H2) (hd : ∀ σ H, Pv n σ H → D.nx σ H) :
    ∃ W : Nat → Nat → St → Hp → Prop, (∃ m, W 0 m σ H) ∧ ∀ i m σ H, W i m σ H →
      ((Itr lo n).stop i H ∧ D.nx σ H) ∨ ((Itr lo n).go i H ∧ ∃ N : St → Hp → Prop, (∀ σ' H', N σ' H' → ∃ m', m' < m ∧ W (i + 1) m' σ' H') ∧ ∀ x H', (Itr lo n).yld i H x H' → g x σ H' fun σ2 H2 => tb { D with nx := N, ct := N, bk := D.nx } σ2 H2) := by
  refine ⟨fun i m σ H => m = n - i ∧ i ≤ n ∧ Pv i σ H, ⟨n, by simp, Nat.zero_le _, h0⟩, ?_⟩
  rintro i m σ H ⟨rfl, hi, p⟩
  by_cases hlt : i < n
  · refine .inr ⟨hlt, Pv (i + 1), fun σ' H' p' => ⟨n - (i + 1), by omega, rfl, hlt, p'⟩, fun x H' y => ?_⟩
    obtain ⟨e, y⟩ := y
    subst e y
    exact hs i σ _ hlt p
  · have e : i = n := by omega
    subst e
    exact .inl ⟨Nat.le_refl _, hd σ H p⟩
end L2

namespace L2
open PySem PySem.Spec PyProof.Rows

abbrev R2 := V → V → Hp → VK → Prop
/-- a two-place operation on values: f is binaryOp op, inplaceOp op or compareOp op -/
def OpR (X : Cx) (f : Value → Value → Sem Value) (r : R2) : Prop :=
  ∀ (pins : List (Addr × Obj)) (s : Shared) (σ : St) (H : Hp) (x y : V) (v u : Value) (Q : VK), Inv X pins σ H s → RelV x v → RelV y u → r x y H Q →
    wpAny (model X.prog X.w) X.A (f v u) (EP X pins σ Q) X.xe s
/-- a one-place operation -/
def UnR (X : Cx) (f : Value → Sem Value) (r : V → Hp → VK → Prop) : Prop :=
  ∀ (pins : List (Addr × Obj)) (s : Shared) (σ : St) (H : Hp) (x : V) (v : Value) (Q : VK), Inv X pins σ H s → RelV x v → r x H Q →
    wpAny (model X.prog X.w) X.A (f v) (EP X pins σ Q) X.xe s
/-- a call of a value that is known (a builtin, a type) with values -/
def CallR (X : Cx) (f : Value) (r : List V → Hp → VK → Prop) : Prop :=
  ∀ (pins : List (Addr × Obj)) (s : Shared) (σ : St) (H : Hp) (xs : List V) (us : List Value) (Q : VK), Inv X pins σ H s → Vals xs us → r xs H Q →
    wpAny (model X.prog X.w) X.A (call f us) (EP X pins σ Q) X.xe s
def tOp (r : R2) (ta tb : TE) : TE := fun σ H Q => ta σ H fun x H1 => tb σ H1 fun y H2 => r x y H2 Q
def tUn (r : V → Hp → VK → Prop) (ta : TE) : TE := fun σ H Q => ta σ H fun x H1 => r x H1 Q
/-- ints in, under C, and a value out -/
def rI (C : Int → Int → Prop) (g : Int → Int → V) : R2 := fun x y H Q => ∃ i j, x = .int i ∧ y = .int j ∧ C i j ∧ Q (g i j) H
def rI0 (g : Int → Int → V) : R2 := fun x y H Q => ∃ i j, x = .int i ∧ y = .int j ∧ Q (g i j) H
def rU (g : Int → V) : V → Hp → VK → Prop := fun x H Q => ∃ i, x = .int i ∧ Q (g i) H

section
variable {X : Cx} {a b c : Expr} {ta tb tc : TE} {pos : Pos}

theorem binT (ha : PE X a ta) (hb : PE X b tb) {pins : List (Addr × Obj)} {s : Shared} {σ : St} {H : Hp} {R : V → V → Hp → Prop} (I : Inv X pins σ H s)
    (h : ta σ H fun x H1 => tb σ H1 fun y H2 => R x y H2) {Q : Value → Shared → Prop} {f : Value → Value → Sem Value}
    (hf : ∀ v u s2 x y H2, Inv X pins σ H2 s2 → RelV x v → RelV y u → R x y H2 → wpAny (model X.prog X.w) X.A (f v u) Q X.xe s2) :
    wpAny (model X.prog X.w) X.A (eval a X.env) (fun v s₁ => wpAny (model X.prog X.w) X.A (eval b X.env) (fun u s₂ => wpAny (model X.prog X.w) X.A (f v u) Q X.xe s₂) X.xe s₁) X.xe s := by
  refine thn (ha pins s σ H _ I h) fun v s1 ⟨x, H1, I1, r1, q1⟩ => ?_
  refine thn (hb pins s1 σ H1 _ I1 q1) fun u s2 ⟨y, H2, I2, r2, q2⟩ => ?_
  exact hf v u s2 x y H2 I2 r1 r2 q2

theorem pe_op {op : Operator} {r : R2} (ho : OpR X (binaryOp op) r) (ha : PE X a ta) (hb : PE X b tb) : PE X (.BinOp a op b pos) (tOp r ta tb) := by
  intro pins s σ H Q I h
  exact wpAny_BinOp (binT ha hb I h fun v u s2 x y H2 I2 rx ry q => ho pins s2 σ H2 x y v u Q I2 rx ry q)
theorem pe_un {op : UnaryOp} {r : V → Hp → VK → Prop} (ho : UnR X (unaryOp op) r) (ha : PE X a ta) : PE X (.UnaryOp op a pos) (tUn r ta) := by
  intro pins s σ H Q I h
  exact UnaryOp_ (thn (ha pins s σ H _ I h) fun v s1 ⟨x, H1, I1, r1, q1⟩ => ho pins s1 σ H1 x v Q I1 r1 q1)
theorem opI {f : Value → Value → Sem Value} {C : Int → Int → Prop} {g : Int → Int → Int}
    (rule : ∀ (i j : Int) (t u : Tok) (s : Shared) (Q : Value → Shared → Prop) (E : Value → Shared → Prop), C i j → Q (.int (g i j) s.toks) { s with toks := s.toks + 1 } → wpAny (model X.prog X.w) X.A (f (.int i t) (.int j u)) Q E s) :
    OpR X f (rI C fun i j => .int (g i j)) := by
  intro pins s σ H x y v u Q I rx ry h
  obtain ⟨i, j, rfl, rfl, hc, q⟩ := h
  obtain ⟨t, rfl⟩ := rx
  obtain ⟨t', rfl⟩ := ry
  exact rule i j t t' s _ _ hc ⟨.int (g i j), H, I.tok _, ⟨_, rfl⟩, q⟩
theorem opI0 {f : Value → Value → Sem Value} {g : Int → Int → Int}
    (rule : ∀ (i j : Int) (t u : Tok) (s : Shared) (Q : Value → Shared → Prop) (E : Value → Shared → Prop), Q (.int (g i j) s.toks) { s with toks := s.toks + 1 } → wpAny (model X.prog X.w) X.A (f (.int i t) (.int j u)) Q E s) :
    OpR X f (rI0 fun i j => .int (g i j)) := by
  intro pins s σ H x y v u Q I rx ry h
  obtain ⟨i, j, rfl, rfl, q⟩ := h
  obtain ⟨t, rfl⟩ := rx
  obtain ⟨t', rfl⟩ := ry
  exact rule i j t t' s _ _ ⟨.int (g i j), H, I.tok _, ⟨_, rfl⟩, q⟩
theorem opB0 {f : Value → Value → Sem Value} {g : Int → Int → Bool}
    (rule : ∀ (i j : Int) (t u : Tok) (s : Shared) (Q : Value → Shared → Prop) (E : Value → Shared → Prop), Q (.bool (g i j)) s → wpAny (model X.prog X.w) X.A (f (.int i t) (.int j u)) Q E s) :
    OpR X f (rI0 fun i j => .bl (g i j)) := by
  intro pins s σ H x y v u Q I rx ry h
  obtain ⟨i, j, rfl, rfl, q⟩ := h
  obtain ⟨t, rfl⟩ := rx
  obtain ⟨t', rfl⟩ := ry
  exact rule i j t t' s _ _ ⟨.bl (g i j), H, I, rfl, q⟩

def CDiv (i j : Int) : Prop := 0 < j ∧ j < 1073741824
def CPow (i j : Int) : Prop := 0 ≤ j ∧ j ≤ 1000000 ∧ i.natAbs < 2 ^ 64
def CMul (i j : Int) : Prop := (-(2 ^ 64) < i ∧ i < 2 ^ 64) ∨ (-(2 ^ 64) < j ∧ j < 2 ^ 64)
theorem CMul.ok {i j : Int} (h : CMul i j) : IntMulOk i j := by
  rcases h with ⟨h1, h2⟩ | ⟨h1, h2⟩
  · exact .of_left (intBits_le_64 h1 h2)
  · exact .of_right (intBits_le_64 h1 h2)
theorem op_add : OpR X (binaryOp .Add) (rI0 fun i j => .int (i + j)) := opI0 fun _ _ _ _ _ _ _ q => add_int q
theorem op_sub : OpR X (binaryOp .Sub) (rI0 fun i j => .int (i - j)) := opI0 fun _ _ _ _ _ _ _ q => sub_int q
/-- // by a positive divisor -/
theorem op_fdiv : OpR X (binaryOp .FloorDiv) (rI CDiv fun i j => .int (i / j)) := opI fun i j _ _ _ _ _ hc q => by
  have h1 : (0 : Int) < j := hc.1
  have h2 : j < 1073741824 := hc.2
  exact floordiv_int (by omega) (by rw [Int.fdiv_eq_ediv_of_nonneg i (by omega)]; exact q) (.inl (PyProof.noPylong_small (by omega)))
/-- % by a positive divisor of any size -/
theorem op_mod : OpR X (binaryOp .Mod) (rI (fun _ j => 0 < j) fun i j => .int (i % j)) := opI fun i j _ _ _ _ _ hc q => by
  have h1 : (0 : Int) < j := hc
  exact mod_int' (by omega) (by rw [Int.fmod_eq_emod_of_nonneg i (by omega)]; exact q)
theorem op_pow : OpR X (binaryOp .Pow) (rI CPow fun i j => .int (i ^ j.toNat)) := opI fun _ _ _ _ _ _ _ hc q => pow_int_small hc.1 hc.2.1 hc.2.2 q
theorem unI {f : Value → Sem Value} {g : Int → Int}
    (rule : ∀ (i : Int) (t : Tok) (s : Shared) (Q : Value → Shared → Prop) (E : Value → Shared → Prop), Q (.int (g i) s.toks) { s with toks := s.toks + 1 } → wpAny (model X.prog X.w) X.A (f (.int i t)) Q E s) :
    UnR X f (rU fun i => .int (g i)) := by
  intro pins s σ H x v Q I rx h
  obtain ⟨i, rfl, q⟩ := h
  obtain ⟨t, rfl⟩ := rx
  exact rule i t s _ _ ⟨.int (g i), H, I.tok _, ⟨_, rfl⟩, q⟩
theorem un_neg : UnR X (unaryOp .USub) (rU fun i => .int (-i)) := unI fun _ _ _ _ _ q => neg_int q
end

/-- the scalars that == tells apart as data does -/
def scal : V → V → Bool
  | .non, .non => true | .non, .int _ => true | .int _, .non => true | .non, .bl _ => true | .bl _, .non => true | .non, .str _ => true | .str _, .non => true
  | .int _, .int _ => true | .bl _, .bl _ => true | .str _, .str _ => true | .byt _, .byt _ => true
  | .int _, .str _ => true | .str _, .int _ => true | .bl _, .str _ => true | .str _, .bl _ => true
  | _, _ => false
def rEq : R2 := fun x y H Q => scal x y = true ∧ Q (.bl (decide (x = y))) H
def rNe : R2 := fun x y H Q => scal x y = true ∧ Q (.bl (!decide (x = y))) H

theorem dec_int {i j : Int} : decide (V.int i = V.int j) = (i == j) := by
  rw [Bool.eq_iff_iff]
  simp
theorem dec_bl {i j : Bool} : decide (V.bl i = V.bl j) = (i == j) := by
  rw [Bool.eq_iff_iff]
  simp
theorem dec_str {i j : Str} : decide (V.str i = V.str j) = (i == j) := by
  rw [Bool.eq_iff_iff]
  simp
theorem dec_byt {i j : Array UInt8} : decide (V.byt i = V.byt j) = (i.toList == j.toList) := by
  rw [Bool.eq_iff_iff]
  cases i
  cases j
  simp

section
variable {X : Cx} {a b c : Expr} {ta tb tc : TE} {pos : Pos}
theorem fin_bl {pins : List (Addr × Obj)} {σ : St} {H : Hp} {s : Shared} {Q : VK} {k k' : Bool} (I : Inv X pins σ H s) (q : Q (.bl k) H) (e : k = k') : EP X pins σ Q (.bool k') s := by
  subst e
  exact ⟨.bl k, H, I, rfl, q⟩
theorem op_eq : OpR X (compareOp .Eq) rEq := by
  intro pins s σ H x y v u Q I rx ry h
  obtain ⟨hs, q⟩ := h
  cases x with
  | non =>
    cases rx
    cases y with
    | non => cases ry; exact PySem.EqNone.eq_none_none (fin_bl I q (by simp))
    | bl j => cases ry; exact PySem.EqNone.eq_none_bool (fin_bl I q (by simp))
    | int j => obtain ⟨t', rfl⟩ := ry; exact PySem.EqNone.eq_none_int (fin_bl I q (by simp))
    | str j => obtain ⟨t', rfl⟩ := ry; exact PySem.EqNone.eq_none_str (fin_bl I q (by simp))
    | _ => exact absurd (show false = true from hs) Bool.false_ne_true
  | bl i =>
    cases rx
    cases y with
    | non => cases ry; exact PySem.EqNone.eq_bool_none (fin_bl I q (by simp))
    | bl j => cases ry; exact eq_bool (fin_bl I q dec_bl)
    | str j => obtain ⟨t', rfl⟩ := ry; exact PySem.EqMixed.eq_bool_str (fin_bl I q (by simp))
    | _ => exact absurd (show false = true from hs) Bool.false_ne_true
  | int i =>
    obtain ⟨t, rfl⟩ := rx
    cases y with
    | non => cases ry; exact PySem.EqNone.eq_int_none (fin_bl I q (by simp))
    | int j => obtain ⟨t', rfl⟩ := ry; exact eq_int (fin_bl I q dec_int)
    | str j => obtain ⟨t', rfl⟩ := ry; exact PySem.EqMixed.eq_int_str (fin_bl I q (by simp))
    | _ => exact absurd (show false = true from hs) Bool.false_ne_true
  | str i =>
    obtain ⟨t, rfl⟩ := rx
    cases y with
    | non => cases ry; exact PySem.EqNone.eq_str_none (fin_bl I q (by simp))
    | bl j => cases ry; exact PySem.EqMixed.eq_str_bool (fin_bl I q (by simp))
    | int j => obtain ⟨t', rfl⟩ := ry; exact PySem.EqMixed.eq_str_int (fin_bl I q (by simp))
    | str j => obtain ⟨t', rfl⟩ := ry; exact eq_str (fin_bl I q dec_str)
    | _ => exact absurd (show false = true from hs) Bool.false_ne_true
  | byt i =>
    obtain ⟨t, rfl⟩ := rx
    cases y with
    | byt j => obtain ⟨t', rfl⟩ := ry; exact PySem.W.eq_bytes (fin_bl I q dec_byt)
    | _ => exact absurd (show false = true from hs) Bool.false_ne_true
  | _ => cases y <;> exact absurd (show false = true from hs) Bool.false_ne_true
theorem op_ne : OpR X (compareOp .NotEq) rNe := by
  intro pins s σ H x y v u Q I rx ry h
  obtain ⟨hs, q⟩ := h
  cases x with
  | non =>
    cases rx
    cases y with
    | non => cases ry; exact PySem.EqNone.ne_none_none (fin_bl I q (by simp))
    | bl j => cases ry; exact PySem.EqNone.ne_none_bool (fin_bl I q (by simp))
    | int j => obtain ⟨t', rfl⟩ := ry; exact PySem.EqNone.ne_none_int (fin_bl I q (by simp))
    | str j => obtain ⟨t', rfl⟩ := ry; exact PySem.EqNone.ne_none_str (fin_bl I q (by simp))
    | _ => exact absurd (show false = true from hs) Bool.false_ne_true
  | bl i =>
    cases rx
    cases y with
    | non => cases ry; exact PySem.EqNone.ne_bool_none (fin_bl I q (by simp))
    | bl j => cases ry; exact ne_bool (fin_bl I q (congrArg not dec_bl))
    | str j => obtain ⟨t', rfl⟩ := ry; exact PySem.EqMixed.ne_bool_str (fin_bl I q (by simp))
    | _ => exact absurd (show false = true from hs) Bool.false_ne_true
  | int i =>
    obtain ⟨t, rfl⟩ := rx
    cases y with
    | non => cases ry; exact PySem.EqNone.ne_int_none (fin_bl I q (by simp))
    | int j => obtain ⟨t', rfl⟩ := ry; exact ne_int (fin_bl I q (congrArg not dec_int))
    | str j => obtain ⟨t', rfl⟩ := ry; exact PySem.EqMixed.ne_int_str (fin_bl I q (by simp))
    | _ => exact absurd (show false = true from hs) Bool.false_ne_true
  | str i =>
    obtain ⟨t, rfl⟩ := rx
    cases y with
    | non => cases ry; exact PySem.EqNone.ne_str_none (fin_bl I q (by simp))
    | bl j => cases ry; exact PySem.EqMixed.ne_str_bool (fin_bl I q (by simp))
    | int j => obtain ⟨t', rfl⟩ := ry; exact PySem.EqMixed.ne_str_int (fin_bl I q (by simp))
    | str j => obtain ⟨t', rfl⟩ := ry; exact ne_str (fin_bl I q (congrArg not dec_str))
    | _ => exact absurd (show false = true from hs) Bool.false_ne_true
  | byt i =>
    obtain ⟨t, rfl⟩ := rx
    cases y with
    | byt j => obtain ⟨t', rfl⟩ := ry; exact PySem.W.ne_bytes (fin_bl I q (congrArg not dec_byt))
    | _ => exact absurd (show false = true from hs) Bool.false_ne_true
  | _ => cases y <;> exact absurd (show false = true from hs) Bool.false_ne_true

theorem op_lt : OpR X (compareOp .Lt) (rI0 fun i j => .bl (decide (i < j))) := opB0 fun _ _ _ _ _ _ _ q => lt_int q
theorem op_le : OpR X (compareOp .LtE) (rI0 fun i j => .bl (decide (i ≤ j))) := opB0 fun _ _ _ _ _ _ _ q => le_int q
theorem op_gt : OpR X (compareOp .Gt) (rI0 fun i j => .bl (decide (j < i))) := opB0 fun _ _ _ _ _ _ _ q => gt_int q
/-- is None, is not None: the right side a value none -/
theorem op_isN : OpR X (compareOp .Is) (fun x y H Q => y = .non ∧ Q (.bl (decide (x = .non))) H) := by
  intro pins s σ H x y v u Q I rx ry h
  obtain ⟨rfl, q⟩ := h
  cases ry
  refine is_none_gen (fin_bl I q ?_)
  cases x <;> first
    | (cases rx; rfl)
    | (obtain ⟨t, rfl⟩ := rx; rfl)
theorem op_notin_str : OpR X (compareOp .NotIn) (fun x y H Q => ∃ i j, x = .str i ∧ y = .str j ∧ Q (.bl (!(!(Builtin.Str.occurrences j i 0 j.length 1).isEmpty))) H) := by
  intro pins s σ H x y v u Q I rx ry h
  obtain ⟨i, j, rfl, rfl, q⟩ := h
  obtain ⟨t, rfl⟩ := rx
  obtain ⟨t', rfl⟩ := ry
  exact notIn_str (fin_bl I q rfl)
/-- two rules for one operation: by cases -/
theorem OpR.or {f : Value → Value → Sem Value} {r r' : R2} (h : OpR X f r) (h' : OpR X f r') : OpR X f (fun x y H Q => r x y H Q ∨ r' x y H Q) := by
  intro pins s σ H x y v u Q I rx ry q
  rcases q with q | q
  · exact h pins s σ H x y v u Q I rx ry q
  · exact h' pins s σ H x y v u Q I rx ry q

theorem nomark (b : Expr) {op : CmpOp} (h : op ≠ .In := by decide) (h2 : op ≠ .NotIn := by decide) : behindInMarks op b = false := by
  have e1 : (op == CmpOp.In) = false := by cases op <;> first | rfl | exact absurd rfl h
  have e2 : (op == CmpOp.NotIn) = false := by cases op <;> first | rfl | exact absurd rfl h2
  cases b <;> simp [behindInMarks, e1, e2]
/-- a comparison as a value; hm: nomark b, or (for in, not in) by with_unfolding_all rfl -/
theorem pe_cmpR {op : CmpOp} {r : R2} (ho : OpR X (compareOp op) r) (ha : PE X a ta) (hb : PE X b tb) (hm : behindInMarks op b = false) : PE X (.Compare a [op] [b] pos) (tOp r ta tb) := by
  intro pins s σ H Q I h
  exact wpAny_Compare1 (binT ha hb I h fun v u s2 x y H2 I2 rx ry q => ho pins s2 σ H2 x y v u Q I2 rx ry q) hm
/-- a reading of a value as a test -/
def tTest (t : TE) : TT := fun σ H Q => t σ H fun x H' => ∃ k, x = .bl k ∧ Q k H'
theorem pt_cmpR {op : CmpOp} {r : R2} (ho : OpR X (compareOp op) r) (ha : PE X a ta) (hb : PE X b tb) (hm : behindInMarks op b = false) : PT X (.Compare a [op] [b] pos) (tTest (tOp r ta tb)) := by
  intro pins s σ H Q I h
  refine wpAny_isTrue_Compare1 (thn (ha pins s σ H _ I h) fun v s1 ⟨x, H1, I1, r1, q1⟩ => thn (hb pins s1 σ H1 _ I1 q1) fun u s2 ⟨y, H2, I2, r2, q2⟩ =>
    thn (ho pins s2 σ H2 x y v u _ I2 r1 r2 q2) fun c s3 ⟨z, H3, I3, r3, k, e, q3⟩ => ?_) hm
  subst e
  cases r3
  exact wpAny_truthy_bool ⟨H3, I3, q3⟩
/-- a op1 b op2 c -/
def tChain (r r' : R2) (ta tb tc : TE) : TE := fun σ H Q => ta σ H fun x H1 => tb σ H1 fun y H2 => r x y H2 fun z H3 => ∃ k, z = .bl k ∧
  (if k = true then tc σ H3 fun w' H4 => r' y w' H4 Q else Q (.bl false) H3)
theorem pe_chain {op op' : CmpOp} {r r' : R2} (ho : OpR X (compareOp op) r) (ho' : OpR X (compareOp op') r') (ha : PE X a ta) (hb : PE X b tb) (hc : PE X c tc)
    (hm : lastMarks [op, op'] [b, c] = false := by with_unfolding_all rfl) : PE X (.Compare a [op, op'] [b, c] pos) (tChain r r' ta tb tc) := by
  intro pins s σ H Q I h
  refine Compare_chain (thn (ha pins s σ H _ I h) fun v s1 ⟨x, H1, I1, r1, q1⟩ => chain_link (thn (hb pins s1 σ H1 _ I1 q1) fun u s2 ⟨y, H2, I2, r2, q2⟩ =>
    thn (ho pins s2 σ H2 x y v u _ I2 r1 r2 q2) fun d s3 ⟨z, H3, I3, r3, k, e, q3⟩ => ?_)) hm
  subst e
  cases r3
  refine wpAny_truthy_bool ?_
  cases k with
  | false => exact ite_ff ⟨.bl false, H3, I3, rfl, q3⟩
  | true => exact ite_tt (chain_last (thn (hc pins s3 σ H3 _ I3 q3) fun w' s4 ⟨z', H4, I4, r4, q4⟩ => ho' pins s4 σ H4 y z' u w' Q I4 r2 r4 q4))
theorem pt_chain {op op' : CmpOp} {r r' : R2} (ho : OpR X (compareOp op) r) (ho' : OpR X (compareOp op') r') (ha : PE X a ta) (hb : PE X b tb) (hc : PE X c tc)
    (hm : lastMarks [op, op'] [b, c] = false := by with_unfolding_all rfl) : PT X (.Compare a [op, op'] [b, c] pos) (tTest (tChain r r' ta tb tc)) := by
  intro pins s σ H Q I h
  refine isTrue_chain (thn (ha pins s σ H _ I h) fun v s1 ⟨x, H1, I1, r1, q1⟩ => test_link (thn (hb pins s1 σ H1 _ I1 q1) fun u s2 ⟨y, H2, I2, r2, q2⟩ =>
    thn (ho pins s2 σ H2 x y v u _ I2 r1 r2 q2) fun d s3 ⟨z, H3, I3, r3, k, e, q3⟩ => ?_)) hm
  subst e
  cases r3
  refine wpAny_truthy_bool ?_
  cases k with
  | false =>
    obtain ⟨k', e', q'⟩ := q3
    cases e'
    exact ite_ff ⟨H3, I3, q'⟩
  | true =>
    refine ite_tt (test_last (thn (hc pins s3 σ H3 _ I3 q3) fun w' s4 ⟨z', H4, I4, r4, q4⟩ => thn (ho' pins s4 σ H4 y z' u w' _ I4 r2 r4 q4) fun d' s5 ⟨z2, H5, I5, r5, k2, e2, q5⟩ => ?_))
    subst e2
    cases r5
    exact wpAny_truthy_bool ⟨H5, I5, q5⟩

theorem line63 : (sizeLine : Nat) < 2 ^ 63 := by rw [sizeLine_eq]; decide
theorem op_add_str : OpR X (binaryOp .Add) (fun x y H Q => ∃ i j, x = .str i ∧ y = .str j ∧ i.length + j.length ≤ sizeLine ∧ Q (.str (i ++ j)) H) := by
  intro pins s σ H x y v u Q I rx ry h
  obtain ⟨i, j, rfl, rfl, hz, q⟩ := h
  obtain ⟨t, rfl⟩ := rx
  obtain ⟨t', rfl⟩ := ry
  exact add_str (fun t' tk => ⟨.str (i ++ j), H, I.tok _, ⟨_, rfl⟩, q⟩) hz
theorem vals1 {x : V} {us : List Value} (r : Vals [x] us) : ∃ u, us = [u] ∧ RelV x u := by
  cases r with
  | cons r1 r2 => cases r2; exact ⟨_, rfl, r1⟩
theorem vals2 {x y : V} {us : List Value} (r : Vals [x, y] us) : ∃ u w', us = [u, w'] ∧ RelV x u ∧ RelV y w' := by
  cases r with
  | cons r1 r2 =>
    cases r2 with
    | cons r3 r4 => cases r4; exact ⟨_, _, rfl, r1, r3⟩
theorem call_abs : CallR X (.builtin "abs") (fun xs H Q => ∃ i, xs = [.int i] ∧ Q (.int (if i < 0 then -i else i)) H) := by
  intro pins s σ H xs us Q I r h
  obtain ⟨i, rfl, q⟩ := h
  obtain ⟨u, rfl, t, rfl⟩ := vals1 r
  exact call_abs_int fun u tk => ⟨.int (if i < 0 then -i else i), H, I.tok _, ⟨_, rfl⟩, q⟩
theorem call_str_int : CallR X (.type "str") (fun xs H Q => ∃ i, xs = [.int i] ∧ i.natAbs.log2 < 1920 ∧ Q (.str (toString i)) H) := by
  intro pins s σ H xs us Q I r h
  obtain ⟨i, rfl, hz, q⟩ := h
  obtain ⟨u, rfl, t, rfl⟩ := vals1 r
  exact PySem.P.str_of_int hz ⟨.str _, H, I.tok _, ⟨_, rfl⟩, q⟩
theorem call_ord : CallR X (.builtin "ord") (fun xs H Q => ∃ x, xs = [.str x] ∧ x.length = 1 ∧ Q (.int (x.cps.getD 0 0 : Nat)) H) := by
  intro pins s σ H xs us Q I r h
  obtain ⟨x, rfl, hz, q⟩ := h
  obtain ⟨u, rfl, t, rfl⟩ := vals1 r
  exact ord_of_one hz ⟨.int _, H, I.tok _, ⟨_, rfl⟩, q⟩
end
end L2

namespace L2
open PySem PySem.Spec PyProof.Rows

structure ObjM (h : Heap) (x dx C : Addr) (mA : Str → Option Value) : Prop where
  obj : h.get? x = some (PySem.W.instObj C dx)
  ns : h.Ns1 dx mA
  ne : dx ≠ x

theorem lookIn_ns {h : Heap} {dx : Addr} {mA : Str → Option Value} (n : h.Ns1 dx mA) : ∃ od, h.get? dx = some od ∧ ∀ name, PySem.W.lookIn name od = some (mA name) := by
  obtain ⟨o, es, ep, ho, hd, hk, _, hm⟩ := n
  refine ⟨o, ho, fun name => ?_⟩
  have e := hm name
  unfold nsFind findBy at e
  rw [← Array.find?_toList] at e
  unfold PySem.W.lookIn
  rw [hd]
  dsimp only
  split
  · rename_i y q
    rw [q] at e
    exact congrArg some e
  · rename_i q
    rw [q] at e
    have a : es.toList.any (·.refKey) = false := by
      rw [List.any_eq_false]
      intro y hy
      obtain ⟨z, t, hkey⟩ := hk y (Array.mem_toList_iff.mp hy)
      simp [DictEntry.refKey, hkey]
    have a' : ¬ es.toList.any (·.refKey) = true := by rw [a]; exact Bool.false_ne_true
    rw [if_neg a']
    exact congrArg some e

theorem ObjM.look {h : Heap} {x dx C : Addr} {mA : Str → Option Value} (I : ObjM h x dx C mA) : ∃ od, PySem.W.InstAt h x (PySem.W.instObj C dx) C (some od) ∧ ∀ name, PySem.W.lookIn name od = some (mA name) :=
  let ⟨od, ho, hl⟩ := lookIn_ns I.ns
  ⟨od, ⟨I.obj, rfl, rfl, ho⟩, hl⟩

section
variable {prog : Program} {w : World} {A : Around} {E : Value → Shared → Prop} {s : Shared} {K : PySem.W.Frag} {x dx C f : Addr} {mA : Str → Option Value} {name : Str} {v : Value}

theorem get_map {expr : Bool} {Q : Value → Shared → Prop} (X : K.In s.heap) (I : ObjM s.heap x dx C mA) (hg : PySem.W.plainGet K C name = true) (hh : PySem.W.hasDictIn K C = true)
    (ha : PySem.W.findIn K (.ref C) name = some none) (hv : mA name = some v) (hv' : PySem.W.handedIn v = true) (h : Q v { s with toks := s.toks + 1 }) :
    wpAny (model prog w) A (getAttr (.ref x) name expr) Q E s := by
  obtain ⟨od, J, hl⟩ := I.look
  exact PySem.W.get_value X J (PySem.W.plainGet_of hg).1 (PySem.W.findObj_own hh ha rfl (by rw [hl, hv])) hv' h

theorem get_meth {pl : Sem Bool} {Q : Value × List Value → Shared → Prop} (X : K.In s.heap) (I : ObjM s.heap x dx C mA) (hg : PySem.W.plainGet K C name = true)
    (hf : PySem.W.findIn K (.ref C) name = some (some (.ref f))) (ht : PySem.W.isFn K (.ref f) = true) (hv : mA name = none) (h : Q (.ref f, [.ref x]) s) :
    wpAny (model prog w) A (getMethod (.ref x) name pl) Q E s := by
  obtain ⟨od, J, hl⟩ := I.look
  exact PySem.W.method_fn X J (PySem.W.plainGet_of hg).1 (PySem.W.plainGet_of hg).2 hf (beq_iff_eq.mp ht) (by show (PySem.W.lookIn name od).map (·.isSome) = some false; rw [hl, hv]; rfl) h

theorem set_map {ns : List Str} {Q : Unit → Shared → Prop} (X : K.In s.heap) (I : ObjM s.heap x dx C mA)
    (hs : PySem.W.findIn K (.ref C) "__setattr__" = some (some (.builtin "object.__setattr__"))) (hp : PySem.W.plainOver K C = true) (ht : PySem.W.takerIn K C name = some none) (hh : PySem.W.hasDictIn K C = true)
    (hw : PySem.Within mA ns) (hsz : ns.length ≤ sizeLine)
    (h : ∀ h', ObjM h' x dx C (fun y => if y = name then some v else mA y) → Heap.SameBut dx s.heap h' → Q () { s with heap := h', toks := s.toks + 2 }) :
    wpAny (model prog w) A (setAttr (.ref x) name v) Q E s := by
  obtain ⟨od, J, hl⟩ := I.look
  refine PySem.W.set_plain X J hs (PySem.W.osa_open (s := { s with toks := s.toks + 1 }) (r := none) X J hp ht fun b => ?_)
  obtain ⟨cd, hc, hd'⟩ := PySem.W.any_some hh
  have hx : s.heap.get? x = some ⟨.ref C, some dx, .plain, #[]⟩ := I.obj
  refine wpAny_bind (wpAny_pure (wpAny_bind (wpAny_bind (wpAny_loadPart hx (wpAny_bind (PySem.W.Looks.here (s := { s with toks := s.toks + 1 }) (PySem.W.looks_clsIn X hc) ?_))))))
  rw [hd']
  refine wpAny_pure (a := some dx) (wpAny_bind (wpAny_pure (wpAny_bind ?_)))
  refine wpAny_nsSet1 (s := { s with toks := s.toks + 1 }) I.ns fun h' hn2 hs2 => ?_
  obtain ⟨oD, esD, epD, hoD, hdD, hcD⟩ := hn2.count (PySem.Within.cons name v hw)
  refine wpAny_bind (wpAny_lookBehind hoD (by rw [hdD]; exact pastItsLine_dict (Nat.le_trans hcD (by rw [List.length_cons]; omega))) ?_)
  exact wpAny_pure (h _ ⟨(hs2.2 _ (Ne.symm I.ne)).trans I.obj, hn2, I.ne⟩ hs2)

/-- C(..): the dict at the heap's end, the instance behind it; then its __init__ -/
theorem make_map {R : Result → Shared → Prop} {vs : List Value} {kw : List (Str × Value)} (X : K.In s.heap) (hm : PySem.W.makesIn K C = true)
    (hi : PySem.W.findIn K (.ref C) "__init__" = some (some (.ref f))) (hf : PySem.W.typeIn K (.ref f) = some (.type "function"))
    (h : codeAny (model prog w) (A.under (.builtin "type.__call__" ⟨.ref C :: vs, kw⟩)) (.call (.ref f) ⟨.ref (s.heap.objs.size + 1) :: vs, kw⟩) (PySem.W.InitBack (s.heap.objs.size + 1) R)
      { s with heap := (s.heap.push PySem.W.emptyDict).push (PySem.W.instObj C s.heap.objs.size) }) :
    codeAny (model prog w) A (.call (.ref C) ⟨vs, kw⟩) R s := by
  obtain ⟨hh, g, d, t, os⟩ := s
  exact PySem.W.make_core (PySem.W.makes_of X hm) (PySem.W.looks_findIn X hi) (fun self => PySem.W.bind_fn X self hf) (.inl rfl) h
end

def putF (f : Str) (v : V) : List (Str × V) → List (Str × V)
  | [] => [(f, v)]
  | (g, x) :: r => if g = f then (g, v) :: r else (g, x) :: putF f v r
theorem lookup_putF (f g : Str) (v : V) : ∀ fs : List (Str × V), (putF f v fs).lookup g = if g = f then some v else fs.lookup g
  | [] => by
    show List.lookup g [(f, v)] = _
    by_cases h : g = f
    · have hb : (g == f) = true := beq_iff_eq.mpr h
      simp only [List.lookup, hb, if_pos h]
    · have hb : (g == f) = false := beq_eq_false_iff_ne.mpr h
      simp only [List.lookup, hb, if_neg h]
  | (k, x) :: r => by
    have ih := lookup_putF f g v r
    rw [show putF f v ((k, x) :: r) = (if k = f then (k, v) :: r else (k, x) :: putF f v r) from rfl]
    by_cases hk : k = f
    · rw [if_pos hk]
      by_cases h : g = k
      · have hb : (g == k) = true := beq_iff_eq.mpr h
        simp only [List.lookup, hb, if_pos (h.trans hk)]
      · have hb : (g == k) = false := beq_eq_false_iff_ne.mpr h
        simp only [List.lookup, hb, if_neg (fun e : g = f => h (e.trans hk.symm))]
    · rw [if_neg hk]
      by_cases h : g = k
      · have hb : (g == k) = true := beq_iff_eq.mpr h
        simp only [List.lookup, hb, if_neg (fun e : g = f => hk (h.symm.trans e))]
      · have hb : (g == k) = false := beq_eq_false_iff_ne.mpr h
        simp only [List.lookup, hb]
        exact ih
theorem keys_putF (f : Str) (v : V) : ∀ fs : List (Str × V), f ∈ (putF f v fs).map (·.1) ∧ ∀ g, g ∈ fs.map (·.1) → g ∈ (putF f v fs).map (·.1)
  | [] => ⟨by simp [putF], fun g h => by simp at h⟩
  | (k, x) :: r => by
    obtain ⟨i1, i2⟩ := keys_putF f v r
    rw [show putF f v ((k, x) :: r) = (if k = f then (k, v) :: r else (k, x) :: putF f v r) from rfl]
    by_cases hk : k = f
    · rw [if_pos hk]
      subst hk
      exact ⟨by simp, fun g h => by simpa using h⟩
    · rw [if_neg hk]
      refine ⟨?_, fun g h => ?_⟩
      · rw [List.map_cons]
        exact List.mem_cons_of_mem _ i1
      · rw [List.map_cons] at h ⊢
        rcases List.mem_cons.mp h with e | e
        · exact List.mem_cons.mpr (.inl e)
        · exact List.mem_cons_of_mem _ (i2 g e)
theorem length_putF (f : Str) (v : V) : ∀ fs : List (Str × V), (putF f v fs).length ≤ fs.length + 1
  | [] => by simp [putF]
  | (k, x) :: r => by
    have ih := length_putF f v r
    rw [show putF f v ((k, x) :: r) = (if k = f then (k, v) :: r else (k, x) :: putF f v r) from rfl]
    by_cases hk : k = f
    · rw [if_pos hk, List.length_cons, List.length_cons]; omega
    · rw [if_neg hk, List.length_cons, List.length_cons]; omega

theorem RelO.some_of {v : V} {o : Option Value} (r : RelO (some v) o) : ∃ u, o = some u ∧ RelV v u := by
  cases o with
  | none => exact (show False from r).elim
  | some u => exact ⟨u, rfl, r⟩
theorem RelO.none_of {o : Option Value} (r : RelO none o) : o = none := by
  cases o with
  | none => rfl
  | some u => exact (show False from r).elim
theorem handed_of {v : V} {u : Value} (r : RelV v u) : PySem.W.handedIn u = true := by
  cases v with
  | non => cases (show u = Value.none from r); rfl
  | bl b => cases (show u = Value.bool b from r); rfl
  | int i => obtain ⟨t, e⟩ := (show ∃ t, u = Value.int i t from r); cases e; rfl
  | str x => obtain ⟨t, e⟩ := (show ∃ t, u = Value.str x t from r); cases e; rfl
  | byt b => obtain ⟨t, e⟩ := (show ∃ t, u = Value.bytes b t from r); cases e; rfl
  | flt b => obtain ⟨t, e⟩ := (show ∃ t, u = Value.float b t from r); cases e; rfl
  | ref a => cases (show u = Value.ref a from r); rfl
  | ty n => cases (show u = Value.type n from r); rfl

section
variable {P : Program} {w : World} {H H' : Hp} {h h' : Heap} {a C dx : Addr} {fs fs' : List (Str × V)}
theorem ins_get (hok : HOk P w H h) (e : H a = some (.ins C dx fs)) : ∃ mA, ObjM h a dx C mA ∧ (∀ f, RelO (fs.lookup f) (mA f)) ∧ PySem.Within mA (fs.map (·.1)) ∧ fs.length ≤ 1000 ∧ H dx = some (.own a) := by
  obtain ⟨d, z, ne, ob, mA, n, r, q⟩ := (show ObjOk P w H h a (.ins C dx fs) from hok a _ e)
  exact ⟨mA, ⟨ob, n, ne⟩, r, q, z, d⟩
end

structure Cls (K : PySem.W.Frag) (C : Addr) : Prop where
  pg : PySem.W.plainGet K C Str.empty = true
  hd : PySem.W.hasDictIn K C = true
  po : PySem.W.plainOver K C = true
  sa : PySem.W.findIn K (.ref C) "__setattr__" = some (some (.builtin "object.__setattr__"))
theorem Cls.get {K : PySem.W.Frag} {C : Addr} (c : Cls K C) (f : Str) : PySem.W.plainGet K C f = true := c.pg
/-- no class of it has the name -/
def NoAttr (K : PySem.W.Frag) (C : Addr) (f : Str) : Prop := PySem.W.findIn K (.ref C) f = some none
theorem NoAttr.taker {K : PySem.W.Frag} {C : Addr} {f : Str} (n : NoAttr K C f) : PySem.W.takerIn K C f = some none := by
  unfold PySem.W.takerIn
  rw [show PySem.W.findIn K (.ref C) f = some none from n]
  rfl
/-- a method: a plain def of the class or of one above it -/
structure Meth (K : PySem.W.Frag) (C : Addr) (m : Str) (f : Addr) : Prop where
  at_ : PySem.W.findIn K (.ref C) m = some (some (.ref f))
  fn : PySem.W.isFn K (.ref f) = true
  kp : PySem.W.keepIn K (.ref f) = true

section
variable {X : Cx} {pins : List (Addr × Obj)} {σ : St} {H : Hp} {s : Shared} {a C dx : Addr} {fs : List (Str × V)} {f : Str} {v : V} {A : Around} {E : Value → Shared → Prop}

theorem getattr_ok {b : Bool} {Q : Value → Shared → Prop} (I : Inv X pins σ H s) (e : H a = some (.ins C dx fs)) (c : Cls X.K C) (n : NoAttr X.K C f) (l : fs.lookup f = some v)
    (h : ∀ u s', Inv X pins σ H s' → RelV v u → Q u s') : wpAny (model X.prog X.w) A (getAttr (.ref a) f b) Q E s := by
  obtain ⟨mA, O, r, _, _, _⟩ := ins_get I.hok e
  obtain ⟨u, hu, ru⟩ := RelO.some_of (v := v) (o := mA f) (by rw [← l]; exact r f)
  exact get_map I.kIn O (c.get f) c.hd n hu (handed_of ru) (h u _ (I.tok _) ru)

theorem getmeth_ok {m : Str} {g : Addr} {pl : Sem Bool} {Q : Value × List Value → Shared → Prop} (I : Inv X pins σ H s) (e : H a = some (.ins C dx fs)) (c : Cls X.K C) (k : Meth X.K C m g) (l : fs.lookup m = none)
    (h : Q (.ref g, [.ref a]) s) : wpAny (model X.prog X.w) A (getMethod (.ref a) m pl) Q E s := by
  obtain ⟨mA, O, r, _, _, _⟩ := ins_get I.hok e
  have hn : mA m = none := RelO.none_of (by rw [← l]; exact r m)
  exact get_meth I.kIn O (c.get m) k.at_ k.fn hn h

theorem setattr_ok {y : V} {u : Value} {Q : Unit → Shared → Prop} (I : Inv X pins σ H s) (e : H a = some (.ins C dx fs)) (c : Cls X.K C) (n : NoAttr X.K C f) (hl : fs.length < 1000) (ry : RelV y u)
    (h : ∀ s', Inv X pins σ (upd H a (.ins C dx (putF f y fs))) s' → Q () s') : wpAny (model X.prog X.w) A (setAttr (.ref a) f u) Q E s := by
  obtain ⟨mA, O, r, wi, _, ho⟩ := ins_get I.hok e
  have hz : (fs.map (·.1)).length ≤ sizeLine := by rw [List.length_map, sizeLine_eq]; omega
  refine set_map I.kIn O c.sa c.po n.taker c.hd wi hz fun h' O' sb => h _ ?_
  have hd : ∃ o, h'.get? dx = some o := let ⟨o, _, _, e', _⟩ := O'.ns; ⟨o, e'⟩
  refine I.write (x := a) (e := dx) (by rw [e]; exact True.intro) (.inr ho) (fun b q hb z => (sb.2 b hb).trans z) hd ?_
  refine ⟨by rw [upd_ne O.ne]; exact ho, ?_, O.ne, O'.obj, _, O'.ns, fun g => ?_, fun g hg => ?_⟩
  · have := length_putF f y fs; omega
  · show RelO ((putF f y fs).lookup g) (if g = f then some u else mA g)
    rw [lookup_putF]
    by_cases q : g = f
    · rw [if_pos q, if_pos q]; exact ry
    · rw [if_neg q, if_neg q]; exact r g
  · by_cases q : g = f
    · rw [q]; exact (keys_putF f y fs).1
    · refine (keys_putF f y fs).2 g (wi g fun z => hg ?_)
      show (if g = f then some u else mA g) = none
      rw [if_neg q]; exact z

/-- a new instance, tracked, without attributes -/
theorem Inv.made (I : Inv X pins σ H s) : Inv X pins σ (upd (upd H s.heap.objs.size (.own (s.heap.objs.size + 1))) (s.heap.objs.size + 1) (.ins C s.heap.objs.size []))
    { s with heap := (s.heap.push PySem.W.emptyDict).push (PySem.W.instObj C s.heap.objs.size) } := by
  have e1 : (s.heap.push PySem.W.emptyDict).get? s.heap.objs.size = some PySem.W.emptyDict := Heap.get?_push_size s.heap rfl
  have e2 : ((s.heap.push PySem.W.emptyDict).push (PySem.W.instObj C s.heap.objs.size)).get? (s.heap.objs.size + 1) = some (PySem.W.instObj C s.heap.objs.size) := by
    have := Heap.get?_push_size (s.heap.push PySem.W.emptyDict) (o := PySem.W.instObj C s.heap.objs.size) rfl
    rwa [Heap.size_push] at this
  have e3 : (s.heap.push PySem.W.emptyDict).Ns s.heap.objs.size (fun _ => none) := ⟨PySem.W.emptyDict, #[], _, e1, rfl, (fun e he => absurd he (by simp)), fun _ => rfl⟩
  have I1 := I.laid (a := s.heap.objs.size) (o := .own (s.heap.objs.size + 1)) (h' := s.heap.push PySem.W.emptyDict) (t' := s.toks) (fun b u q => Heap.get?_push_of_some _ q) (Nat.le_refl _) ⟨_, e1⟩
  refine I1.laid (a := s.heap.objs.size + 1) (o := .ins C s.heap.objs.size []) (t' := s.toks) (fun b u q => Heap.get?_push_of_some _ q) (Nat.le_of_eq (Heap.size_push _ _)) ?_
  have ne : s.heap.objs.size ≠ s.heap.objs.size + 1 := Nat.ne_of_lt (Nat.lt_succ_self _)
  refine ⟨by rw [upd_ne ne, upd_same], Nat.zero_le _, ne, e2, fun _ => none, (Heap.Ns1.of_empty e3).at fun o q => Heap.get?_push_of_some _ q, fun _ => True.intro, fun y hy => absurd rfl hy⟩

/-- e.f where nothing but the object is asked: through attributeBase (super) and the last hold -/
theorem attr_of {prog : Program} {w : World} {env : Env} {e : Expr} {f : Str} {pos : Pos} {s : Shared} {Q : Value → Shared → Prop} (hb : attributeBase e f env (eval e env) = eval e env)
    (h : wpAny (model prog w) A (eval e env) (fun o s₁ => wpAny (model prog w) A (getAttr o f true) Q E s₁) E s) : wpAny (model prog w) A (eval (.Attribute e f pos) env) Q E s :=
  Attribute_any_ h (by rw [arm_eval_Attribute, hb])
end

/-- e.f, an attribute of the instance -/
def tFld (K : PySem.W.Frag) (ta : TE) (f : Str) : TE := fun σ H Q => ta σ H fun x H1 => ∃ a C dx fs v, x = .ref a ∧ H1 a = some (.ins C dx fs) ∧ Cls K C ∧ NoAttr K C f ∧ fs.lookup f = some v ∧ Q v H1
/-- e.f = value -/
def sFld (K : PySem.W.Frag) (ta tv : TE) (f : Str) : TS := fun D σ H => tv σ H fun y H1 => ta σ H1 fun x H2 => ∃ a C dx fs, x = .ref a ∧ H2 a = some (.ins C dx fs) ∧ Cls K C ∧ NoAttr K C f ∧ fs.length < 1000 ∧
  D.nx σ (upd H2 a (.ins C dx (putF f y fs)))
section
variable {X : Cx} {o e value : Expr} {f : Str} {pos pos' tpos : Pos} {ta tv : TE}
theorem pe_fld (he : PE X e ta) (hb : attributeBase e f X.env (eval e X.env) = eval e X.env) : PE X (.Attribute e f pos) (tFld X.K ta f) := by
  intro pins s σ H Q I h
  refine attr_of hb (thn (he pins s σ H _ I h) fun u s1 ⟨x, H1, I1, rx, a, C, dx, fs, v, ex, ea, c, n, l, q⟩ => ?_)
  subst ex
  obtain rfl : u = Value.ref a := rx
  exact getattr_ok I1 ea c n l fun u' s2 I2 ru => ⟨v, H1, I2, ru, q⟩
theorem ps_fld (ha : PE X o ta) (hv : PE X value tv) (hs : swapsWith value (some (.Attribute o f pos')) pos.line X.env = pure false) : PS X (.Assign [.Attribute o f pos'] value pos) (sFld X.K ta tv f) := by
  intro pins s σ H D I h
  refine plainObj_wpAny_Assign_Attribute (thn (hv pins s σ H _ I h) fun u s1 ⟨y, H1, I1, ry, q⟩ => thn (ha pins s1 σ H1 _ I1 q) fun ov s2 ⟨x, H2, I2, rx, a, C, dx, fs, ex, ea, c, n, l, q2⟩ => ?_) hs
  subst ex
  obtain rfl : ov = Value.ref a := rx
  exact setattr_ok I2 ea c n l ry fun s3 I3 => ⟨σ, _, I3, q2⟩
end

section
variable {X : Cx} {pins : List (Addr × Obj)} {σ : St} {H : Hp} {s : Shared} {A : Around} {E : Value → Shared → Prop} {Q : Value → Shared → Prop} {c : Value} {b : Bool}
/-- the type of a value, as the fragment's deciders take it; for an instance its class -/
inductive TyOf (K : PySem.W.Frag) (H : Hp) : V → Value → Prop where
  | non : TyOf K H .non (.type "NoneType")
  | bl (x : Bool) : TyOf K H (.bl x) (.type "bool")
  | int (i : Int) : TyOf K H (.int i) (.type "int")
  | str (x : Str) : TyOf K H (.str x) (.type "str")
  | flt (x : UInt64) : TyOf K H (.flt x) (.type "float")
  | lst {a : Addr} {xs : List V} (e : H a = some (.lst xs)) : TyOf K H (.ref a) (.type "list")
  | frz {a : Addr} {o : Obj} {xs : List V} (e : H a = some (.frz o (.lst xs))) : TyOf K H (.ref a) (.type "list")
  | tup {a : Addr} {xs : List V} (e : H a = some (.tup xs)) : TyOf K H (.ref a) (.type "tuple")
  | dK {a : Addr} {kvs : List (Key × V)} (e : H a = some (.dK kvs)) : TyOf K H (.ref a) (.type "dict")
  | dT {a : Addr} {kvs : List (List Key × V)} (e : H a = some (.dT kvs)) : TyOf K H (.ref a) (.type "dict")
  | ins {a C dx : Addr} {fs : List (Str × V)} (e : H a = some (.ins C dx fs)) (cl : Cls K C) (ha : PySem.W.findIn K (.ref C) "__class__" = some (some (.builtin "object.__class__")))
      (hn : PySem.W.specialIn K (.builtin "object.__class__") "__get__" = some (some (.builtin "getset_descriptor.__get__"))) (htk : PySem.W.takesIn K (.builtin "object.__class__") = some true)
      (hm : PySem.W.mroIn K C (.type "object") = some true) : TyOf K H (.ref a) (.ref C)
/-- isinstance(x, c) for one class c, a built-in or an own one: kitOne's answer -/
theorem isinst_ok {x : V} {u t : Value} (I : Inv X pins σ H s) (rx : RelV x u) (ty : TyOf X.K H x t) (e : PySem.W.kitOne X.K t c = some b) (h : ∀ tk, Q (.bool b) { s with toks := tk }) :
    wpAny (model X.prog X.w) A (call (.builtin "isinstance") [u, c]) Q E s := by
  cases ty with
  | non => cases (show u = Value.none from rx); exact PySem.W.kia_one PySem.W.kitx_none I.kIn True.intro e (fun z => nomatch z) h
  | bl y => cases (show u = Value.bool y from rx); exact PySem.W.kia_one PySem.W.kitx_bool I.kIn True.intro e (fun z => nomatch z) h
  | int i => obtain ⟨t, q⟩ := (show ∃ t, u = Value.int i t from rx); cases q; exact PySem.W.kia_one PySem.W.kitx_int I.kIn True.intro e (fun z => nomatch z) h
  | str y => obtain ⟨t, q⟩ := (show ∃ t, u = Value.str y t from rx); cases q; exact PySem.W.kia_one PySem.W.kitx_str I.kIn True.intro e (fun z => nomatch z) h
  | flt y => obtain ⟨t, q⟩ := (show ∃ t, u = Value.float y t from rx); cases q; exact PySem.W.kia_one PySem.W.kitx_float I.kIn True.intro e (fun z => nomatch z) h
  | @lst a xs ea =>
    cases (show u = Value.ref a from rx)
    obtain ⟨_, _, n, _, h1⟩ := (show ObjOk X.prog X.w H s.heap a (.lst xs) from I.hok a _ ea)
    exact PySem.W.kia_one PySem.W.kitx_list I.kIn ⟨_, h1, rfl⟩ e (fun z => nomatch z) h
  | @frz a ob xs ea =>
    cases (show u = Value.ref a from rx)
    obtain ⟨_, _, _, n, _, h1⟩ := (show ObjOk X.prog X.w H s.heap a (.frz ob (.lst xs)) from I.hok a _ ea)
    exact PySem.W.kia_one PySem.W.kitx_list I.kIn ⟨_, h1, rfl⟩ e (fun z => nomatch z) h
  | @tup a xs ea =>
    cases (show u = Value.ref a from rx)
    obtain ⟨_, _, _, p⟩ := (show ObjOk X.prog X.w H s.heap a (.tup xs) from I.hok a _ ea)
    obtain ⟨o, h1, h2, _⟩ := p
    exact PySem.W.kia_one PySem.W.kitx_tuple I.kIn ⟨o, h1, h2⟩ e (fun z => nomatch z) h
  | @dK a kvs ea =>
    cases (show u = Value.ref a from rx)
    obtain ⟨_, _, vs, _, p⟩ := (show ObjOk X.prog X.w H s.heap a (.dK kvs) from I.hok a _ ea)
    obtain ⟨o, es, ep, h1, h2, _⟩ := p
    exact PySem.W.kia_one PySem.W.kitx_dict I.kIn ⟨o, h1, h2.1⟩ e (fun z => nomatch z) h
  | @dT a kvs ea =>
    cases (show u = Value.ref a from rx)
    obtain ⟨_, _, xs, _, o, es, ep, h1, h2, _⟩ := (show ObjOk X.prog X.w H s.heap a (.dT kvs) from I.hok a _ ea)
    exact PySem.W.kia_one PySem.W.kitx_dict I.kIn ⟨o, h1, h2.1⟩ e (fun z => nomatch z) h
  | @ins a C dx fs ea cl ha hn htk hm =>
    cases (show u = Value.ref a from rx)
    obtain ⟨mA, O, _⟩ := ins_get I.hok ea
    obtain ⟨od, J, _⟩ := O.look
    exact PySem.W.kia_one (PySem.W.kitx_own (cl.get _) cl.hd ha hn htk hm) I.kIn J e (fun z => nomatch z) h
end
end L2

namespace L2
open PySem PySem.Spec PyProof.Rows

structure Room (k : Nat) (A : Around) : Prop where
  hd : A.handled = none
  dp : A.depth + 3 * k + 5 < recursionLimit
  un : A.units + 16 * k + 200 < cLine
theorem Room.mono {j k : Nat} {A : Around} (r : Room k A) (h : j ≤ k) : Room j A := ⟨r.hd, by have := r.dp; omega, by have := r.un; omega⟩
theorem Room.deeper {k : Nat} {A : Around} (r : Room (k + 1) A) (env : Env) : Room k (A.deeper env) :=
  ⟨r.hd, by have := r.dp; show A.depth + 1 + 3 * k + 5 < _; omega, by have := r.un; show A.units + 3 + 16 * k + 200 < _; omega⟩
theorem Room.in1 {k : Nat} {A : Around} (r : Room (k + 1) A) : Room k A.in1 :=
  ⟨r.hd, by have := r.dp; show A.depth + 3 * k + 5 < _; omega, by have := r.un; show A.units + 1 + 16 * k + 200 < _; omega⟩
theorem make_depth {A : Around} {C : Addr} {us : List Value} {kw : List (Str × Value)} : (A.under (.builtin "type.__call__" ⟨.ref C :: us, kw⟩)).depth = A.depth + 1 := by
  first | rfl | simp [Around.under, Code.weight, Code.isCreation, Code.isGuard, Code.isCaller, Code.frames, Code.isFrame, guardIds]
theorem make_units {A : Around} {C : Addr} {us : List Value} {kw : List (Str × Value)} : (A.under (.builtin "type.__call__" ⟨.ref C :: us, kw⟩)).units = A.units + 1 := by
  first | rfl | simp [Around.under, Code.cUnits, Code.frames, Code.isFrame]
theorem Room.make {k : Nat} {A : Around} (r : Room (k + 1) A) (C : Addr) (us : List Value) (kw : List (Str × Value)) : Room k (A.under (.builtin "type.__call__" ⟨.ref C :: us, kw⟩)) :=
  ⟨r.hd, by have := r.dp; rw [make_depth]; omega, by have := r.un; rw [make_units]; omega⟩
theorem Room.depth {k : Nat} {A : Around} (r : Room k A) : A.depth < recursionLimit := by have := r.dp; omega
theorem Room.units {k : Nat} {A : Around} (r : Room k A) : A.units + 64 < cLine := by have := r.un; omega
theorem Room.units0 {k : Nat} {A : Around} (r : Room k A) : A.units < cLine := by have := r.un; omega

def tNil : TA := fun _ H Q => Q [] H
def tCons (ta : TE) (tr : TA) : TA := fun σ H Q => ta σ H fun x H1 => tr σ H1 fun xs H2 => Q (x :: xs) H2
section
variable {X : Cx} {e : Expr} {es : List Expr} {te : TE} {t : TA} {pos : Pos}
theorem pa_nil : PA X [] tNil := fun _ _ _ _ H Q I h => Calls.spliced_nil ⟨[], H, I, .nil, h⟩
theorem pa_cons (ha : PE X e te) (hr : PA X es t) (hs : starEach (e :: es) X.env = (false, eval e X.env) :: starEach es X.env := by rfl) : PA X (e :: es) (tCons te t) := by
  intro pos pins s σ H Q I h
  rw [hs]
  show wpAny _ _ (spliced ((false, eval e X.env) :: backTo pos (starEach es X.env))) _ _ s
  refine Calls.spliced_cons (thn (ha pins s σ H _ I h) fun u s1 ⟨x, H1, I1, r1, q1⟩ => ?_)
  exact thn (hr pos pins s1 σ H1 _ I1 q1) fun us s2 ⟨xs, H2, I2, r2, q2⟩ => ⟨x :: xs, H2, I2, .cons r1 r2, q2⟩

/-- a tuple, a list of written items -/
def tTup (t : TA) : TE := fun σ H Q => t σ H fun xs H1 => xs.length ≤ sizeLine ∧ ∀ p, H1 p = none → Q (.ref p) (upd H1 p (.tup xs))
def tLst (t : TA) : TE := fun σ H Q => t σ H fun xs H1 => xs.length ≤ sizeLine ∧ ∀ p, H1 p = none → Q (.ref p) (upd H1 p (.lst xs))
theorem pe_tup {x1} (h : PA X es t) : PE X (.Tuple es x1 pos) (tTup t) := by
  intro pins s σ H Q I hq
  refine wpAny_Tuple_spliced (thn (h pos pins s σ H _ I hq) fun us s1 ⟨xs, H1, I1, r, z, q⟩ => ⟨by rw [← r.length]; exact z, ?_⟩)
  have hf : H1 s1.heap.objs.size = none := I1.hok.fresh (Nat.le_refl _)
  refine ⟨.ref s1.heap.objs.size, upd H1 s1.heap.objs.size (.tup xs), I1.laid (t' := s1.toks) (fun b u e => Heap.get?_push_of_some _ e) (Nat.le_refl _) ?_, rfl, q _ hf⟩
  exact ⟨z, us, r, ⟨_, Heap.get?_push_size _ rfl, rfl, _, rfl⟩⟩
theorem pe_lst (h : PA X es t) : PE X (.List es pos) (tLst t) := by
  intro pins s σ H Q I hq
  refine wpAny_List_spliced (thn (h pos pins s σ H _ I hq) fun us s1 ⟨xs, H1, I1, r, z, q⟩ => ⟨by rw [← r.length]; exact z, ?_⟩)
  have hf : H1 s1.heap.objs.size = none := I1.hok.fresh (Nat.le_refl _)
  refine ⟨.ref s1.heap.objs.size, upd H1 s1.heap.objs.size (.lst xs), I1.laid (t' := s1.toks) (fun b u e => Heap.get?_push_of_some _ e) (Nat.le_refl _) ?_, rfl, q _ hf⟩
  exact ⟨z, us, 0, r, Heap.get?_push_size _ rfl⟩
end

/-- a def's promise: the bound arguments in the parameters' order, the heap, the wanted end, the wanted exception -/
abbrev Sp := List V → Hp → VK → XK → Prop
/-- how an exception lies behind a call (file 08 gives it): the callers' frames, abstract heap and state ahead of the call, the wish, the exception, the state -/
abbrev CXT := List Env → Hp → Shared → XK → Value → Shared → Prop

/-- the state at a call -/
structure Env0 (P : Program) (w : World) (K : PySem.W.Frag) (mg : Str → Option Value) (base : Heap) (A : Around) (outer : List Env) (s : Shared) (H : Hp) : Prop where
  frames : A.frames = some outer
  mod : Mod K mg base
  bs : ∀ b o, base.get? b = some o → s.heap.get? b = some o ∧ H b = none
  bsz : base.objs.size ≤ s.heap.objs.size
  funs : s.heap.FunFrames base outer
  frf : ∀ b ∈ frs outer, H b = none
  hok : HOk P w H s.heap
  bare : AllBare s.gens
/-- a call's end -/
def CE (outer : List Env) (P : Program) (w : World) (H : Hp) (s : Shared) (Q : VK) (u : Value) (s' : Shared) : Prop :=
  ∃ v H', s'.os = s.os ∧ AllBare s'.gens ∧ Un (frs outer) [] H H' s.heap s'.heap ∧ HOk P w H' s'.heap ∧ RelV v u ∧ Q v H'
def CR (CX : CXT) (outer : List Env) (P : Program) (w : World) (H : Hp) (s : Shared) (Q : VK) (E : XK) (r : Result) (s' : Shared) : Prop :=
  match r with
  | .ok (.ret u) => CE outer P w H s Q u s'
  | .ok _ => False
  | .error e => CX outer H s E e s'
structure FnOk (P : Program) (w : World) (K : PySem.W.Frag) (mg : Str → Option Value) (base : Heap) (CX : CXT) (k : Nat) (f : Addr) (fd : FuncData) (ps : List Str) (sp : Sp) : Prop where
  len : ∀ vs H Q E, sp vs H Q E → vs.length = ps.length
  run : ∀ (A : Around) (outer : List Env) (s : Shared) (H : Hp) (args : Args) (us : List Value) (vs : List V) (Q : VK) (E : XK), Room k A → Env0 P w K mg base A outer s H → BindsTo s fd args (ps.zip us) → Vals vs us → sp vs H Q E →
    codeAny (model P w) A (.call (.ref f) args) (CR CX outer P w H s Q E) s
theorem FnOk.mono {P : Program} {w : World} {K : PySem.W.Frag} {mg : Str → Option Value} {base : Heap} {CX : CXT} {j k : Nat} {f : Addr} {fd : FuncData} {ps : List Str} {sp : Sp} (F : FnOk P w K mg base CX j f fd ps sp) (h : j ≤ k) :
    FnOk P w K mg base CX k f fd ps sp := ⟨F.len, fun A outer s H args us vs Q E hr => F.run A outer s H args us vs Q E (hr.mono h)⟩
/-- a weaker promise -/
theorem FnOk.imp {P : Program} {w : World} {K : PySem.W.Frag} {mg : Str → Option Value} {base : Heap} {CX : CXT} {k : Nat} {f : Addr} {fd : FuncData} {ps : List Str} {sp sp' : Sp} (F : FnOk P w K mg base CX k f fd ps sp)
    (h : ∀ vs H Q E, sp' vs H Q E → sp vs H Q E) : FnOk P w K mg base CX k f fd ps sp' :=
  ⟨fun vs H Q E q => F.len vs H Q E (h _ _ _ _ q), fun A outer s H args us vs Q E hr he hb hv hs => F.run A outer s H args us vs Q E hr he hb hv (h _ _ _ _ hs)⟩

theorem Env0.make {P : Program} {w : World} {K : PySem.W.Frag} {mg : Str → Option Value} {base : Heap} {A : Around} {outer : List Env} {s : Shared} {H : Hp} (e : Env0 P w K mg base A outer s H) (C : Addr) (us : List Value) (kw : List (Str × Value)) :
    Env0 P w K mg base (A.under (.builtin "type.__call__" ⟨.ref C :: us, kw⟩)) outer s H := ⟨by first | exact e.frames | (simpa [Around.under, Code.envs, Code.isFrame, pushEnvs] using e.frames), e.mod, e.bs, e.bsz, e.funs, e.frf, e.hok, e.bare⟩
theorem Env0.in1 {P : Program} {w : World} {K : PySem.W.Frag} {mg : Str → Option Value} {base : Heap} {A : Around} {outer : List Env} {s : Shared} {H : Hp} (e : Env0 P w K mg base A outer s H) :
    Env0 P w K mg base A.in1 outer s H := ⟨e.frames, e.mod, e.bs, e.bsz, e.funs, e.frf, e.hok, e.bare⟩

section
variable {X : Cx} {pins : List (Addr × Obj)} {σ : St} {H : Hp} {s s' : Shared}
/-- from a body: what a callee wants -/
theorem Inv.env0 (I : Inv X pins σ H s) : Env0 X.prog X.w X.K X.mg X.base X.A X.stack s H :=
  ⟨I.ok.frames, I.ok.mod, I.bs, Nat.le_trans I.ok.bsz I.sz, I.stack, I.stkFree, I.hok, I.bare⟩
/-- behind a call -/
theorem Inv.after {Q : VK} {u : Value} (I : Inv X pins σ H s) (h : CE X.stack X.prog X.w H s Q u s') : EP X pins σ Q u s' := by
  obtain ⟨v, H', os, bare, un, hok, r, q⟩ := h
  obtain ⟨hh, g, d, t, os'⟩ := s'
  obtain rfl : os' = s.os := os
  exact ⟨v, H', I.call (h' := hh) (g' := g) (d' := d) (t' := t) (ch := []) un hok bare (fun b z => absurd z (by simp)), r, q⟩
end

/-- f(..): the written arguments, then the defaults dvs; E: what is wanted of an exception -/
def tCall (sp : Sp) (dvs : List V) (E : XK) (t : TA) : TE := fun σ H Q => t σ H fun vs H1 => sp (vs ++ dvs) H1 Q E
/-- C(..): a new instance and its dict, then __init__ -/
def tMake (C : Addr) (sp : Sp) (dvs : List V) (E : XK) (t : TA) : TE := fun σ H Q => t σ H fun vs H1 => ∀ x dx, H1 x = none → H1 dx = none → dx ≠ x →
  sp (.ref x :: (vs ++ dvs)) (upd (upd H1 dx (.own x)) x (.ins C dx [])) (fun v H2 => v = .non ∧ Q (.ref x) H2) E

/-- how the parameters are bound: us the positional arguments, kw the keywords' values by name, ds the defaults that fill up -/
def Binds (K : PySem.W.Frag) (fd : FuncData) (ps : List Str) (ds : List Value) : Prop :=
  ∀ (s : Shared) (us : List Value), K.In s.heap → (us ++ ds).length = ps.length → BindsTo s fd ⟨us, []⟩ (ps.zip (us ++ ds))
/-- every parameter is given -/
theorem Binds.all {K : PySem.W.Frag} {fd : FuncData} {ps : List Str} (h : ∀ us : List Value, us.length = ps.length → bindArgs fd ⟨us, []⟩ = pure (ps.zip us)) : Binds K fd ps [] := fun s us _ hl => by
  rw [List.append_nil] at hl ⊢
  exact .of_eq (h us hl)

/-- an exception of a callee reaches what this body wants of exceptions -/
def Passes (CX : CXT) (X : Cx) (E : XK) : Prop := ∀ (pins : List (Addr × Obj)) (σ : St) (H : Hp) (s : Shared) (e : Value) (s' : Shared), Inv X pins σ H s → CX X.stack H s E e s' → X.xe e s'

section
variable {X : Cx} {CX : CXT} {k : Nat} {f C : Addr} {fd : FuncData} {ps : List Str} {sp : Sp} {dvs : List V} {ds : List Value} {E : XK} {x m : Str} {p pos apos : Pos} {e o : Expr} {es : List Expr} {ta : TE} {t : TA}

/-- the callee runs -/
theorem run_fn {pins : List (Addr × Obj)} {σ : St} {H : Hp} {s : Shared} {Q : VK} {us : List Value} {vs : List V} (F : FnOk X.prog X.w X.K X.mg X.base CX k f fd ps sp) (hr : Room k X.A) (hb : Binds X.K fd ps ds) (hd : Vals dvs ds) (hx : Passes CX X E)
    (I : Inv X pins σ H s) (r : Vals vs us) (h : sp (vs ++ dvs) H Q E) : wpAny (model X.prog X.w) X.A (call (.ref f) us) (EP X pins σ Q) X.xe s := by
  have r2 : Vals (vs ++ dvs) (us ++ ds) := r.append hd
  have hl : (us ++ ds).length = ps.length := by rw [← r2.length]; exact F.len _ _ _ _ h
  refine wpAny_call (codeAny_mono (F.run X.A X.stack s H ⟨us, []⟩ (us ++ ds) (vs ++ dvs) Q E hr I.env0 (hb s us I.kIn hl) r2 h) fun r s' hq => ?_)
  cases r with
  | error e => exact hx pins σ H s e s' I hq
  | ok fl =>
    cases fl with
    | ret u => exact I.after hq
    | next => exact False.elim hq
    | brk => exact False.elim hq
    | cont => exact False.elim hq

theorem pe_call (F : FnOk X.prog X.w X.K X.mg X.base CX k f fd ps sp) (hr : Room k X.A) (hg : Gl X x) (hm : X.mg x = some (.ref f)) (hk : PySem.W.keepIn X.K (.ref f) = true) (hb : Binds X.K fd ps ds) (hd : Vals dvs ds) (hx : Passes CX X E)
    (ha : PA X (e :: es) t) (hdb : (x == ("__debug__" : Str)) = false := by decide) (he : starEach (e :: es) X.env = (false, eval e X.env) :: starEach es X.env := by rfl) (hpl : (backTo pos (starEach es X.env)).any (·.1) = false := by rfl) :
    PE X (.Call (.Name x p) (e :: es) [] pos) (tCall sp dvs E t) := by
  intro pins s σ H Q I h
  refine wpAny_Call_Name_kw (ld_glob I hg hm ?_ hdb)
  refine PySem.W.callWith_K (h₀ := X.base) I.ok.mod.kin hk (thn (ha pos pins s σ H _ I h) fun us s1 ⟨vs, H1, I1, r, q⟩ => ⟨I1.kIn, ?_⟩) he hpl
  exact run_fn F hr hb hd hx I1 r q
/-- what a class must have to be made -/
structure Mk (K : PySem.W.Frag) (C f : Addr) : Prop where
  makes : PySem.W.makesIn K C = true
  init : PySem.W.findIn K (.ref C) "__init__" = some (some (.ref f))
  fn : PySem.W.isFn K (.ref f) = true
  kp : PySem.W.keepIn K (.ref C) = true

theorem run_make {pins : List (Addr × Obj)} {σ : St} {H : Hp} {s : Shared} {Q : VK} {us : List Value} {vs : List V} (M : Mk X.K C f) (F : FnOk X.prog X.w X.K X.mg X.base CX k f fd ps sp) (hr : Room (k + 1) X.A) (hb : Binds X.K fd ps ds) (hd : Vals dvs ds)
    (hx : Passes CX X E) (I : Inv X pins σ H s) (r : Vals vs us)
    (h : ∀ x dx, H x = none → H dx = none → dx ≠ x → sp (.ref x :: (vs ++ dvs)) (upd (upd H dx (.own x)) x (.ins C dx [])) (fun v H2 => v = .non ∧ Q (.ref x) H2) E) :
    wpAny (model X.prog X.w) X.A (call (.ref C) us) (EP X pins σ Q) X.xe s := by
  have hq := h (s.heap.objs.size + 1) s.heap.objs.size (I.hok.fresh (Nat.le_succ _)) (I.hok.fresh (Nat.le_refl _)) (Nat.ne_of_lt (Nat.lt_succ_self _))
  have I2 := Inv.made (C := C) I
  have r2 : Vals (V.ref (s.heap.objs.size + 1) :: (vs ++ dvs)) (Value.ref (s.heap.objs.size + 1) :: (us ++ ds)) := .cons rfl (r.append hd)
  have hl : (Value.ref (s.heap.objs.size + 1) :: us ++ ds).length = ps.length := by
    have e := r2.length
    rw [F.len _ _ _ _ hq] at e
    exact e.symm
  refine wpAny_call (make_map (f := f) I.kIn M.makes M.init (beq_iff_eq.mp M.fn) (codeAny_mono (F.run _ X.stack _ _ ⟨Value.ref (s.heap.objs.size + 1) :: us, []⟩ (Value.ref (s.heap.objs.size + 1) :: (us ++ ds)) _ _ E (hr.make C us [])
    (I2.env0.make C us []) (hb _ (Value.ref (s.heap.objs.size + 1) :: us) I2.kIn hl) r2 hq) fun r s' hq' => ?_))
  cases r with
  | error e => exact hx pins σ _ _ e s' I2 hq'
  | ok fl =>
    cases fl with
    | ret u =>
      obtain ⟨v, H', I3, rv, ev, q3⟩ := I2.after hq'
      subst ev
      exact ⟨rv, ⟨V.ref (s.heap.objs.size + 1), H', I3, rfl, q3⟩⟩
    | next => exact False.elim hq'
    | brk => exact False.elim hq'
    | cont => exact False.elim hq'
theorem pe_make (M : Mk X.K C f) (F : FnOk X.prog X.w X.K X.mg X.base CX k f fd ps sp) (hr : Room (k + 1) X.A) (hg : Gl X x) (hm : X.mg x = some (.ref C)) (hb : Binds X.K fd ps ds) (hd : Vals dvs ds) (hx : Passes CX X E)
    (ha : PA X (e :: es) t) (hdb : (x == ("__debug__" : Str)) = false := by decide) (he : starEach (e :: es) X.env = (false, eval e X.env) :: starEach es X.env := by rfl) (hpl : (backTo pos (starEach es X.env)).any (·.1) = false := by rfl) :
    PE X (.Call (.Name x p) (e :: es) [] pos) (tMake C sp dvs E t) := by
  intro pins s σ H Q I h
  refine wpAny_Call_Name_kw (ld_glob I hg hm ?_ hdb)
  refine PySem.W.callWith_K (h₀ := X.base) I.ok.mod.kin M.kp (thn (ha pos pins s σ H _ I h) fun us s1 ⟨vs, H1, I1, r, q⟩ => ⟨I1.kIn, ?_⟩) he hpl
  exact run_make M F hr hb hd hx I1 r q
end

/-- the values of the keywords, from the left -/
def PK (X : Cx) (kws : List Keyword) (t : TA) : Prop :=
  ∀ (pos : Pos) (pins : List (Addr × Obj)) (s : Shared) (σ : St) (H : Hp) (Q : List V → Hp → Prop), Inv X pins σ H s → t σ H Q → wpAny (model X.prog X.w) X.A (evalAll ((backToKw pos (keywordEach kws X.env)).map (·.2))) (AP X pins σ Q) X.xe s
section
variable {X : Cx} {CX : CXT} {k : Nat} {f C : Addr} {fd : FuncData} {ps ks : List Str} {sp : Sp} {E : XK} {x m : Str} {p pos apos kpos : Pos} {e o : Expr} {es : List Expr} {kws : List Keyword} {te ta : TE} {t tk : TA} {nm : Option Str}
theorem pk_nil : PK X [] tNil := fun _ _ _ _ H Q I h => wpAny_evalAll_nil ⟨[], H, I, .nil, h⟩
theorem pk_cons (ha : PE X e te) (hr : PK X kws t) : PK X (⟨nm, e, kpos⟩ :: kws) (tCons te t) := by
  intro pos pins s σ H Q I h
  show wpAny _ _ (evalAll ((do let v ← eval e X.env; standAt pos; pure v) :: (backToKw pos (keywordEach kws X.env)).map (·.2))) _ _ s
  refine wpAny_evalAll_cons (wpAny_bind (thn (ha pins s σ H _ I h) fun u s1 ⟨x, H1, I1, r1, q1⟩ => wpAny_bind (wpAny_standAt (wpAny_pure ?_))))
  exact thn (hr pos pins s1 σ H1 _ I1 q1) fun us s2 ⟨xs, H2, I2, r2, q2⟩ => ⟨x :: xs, H2, I2, .cons r1 r2, q2⟩

variable {g : List Value → List Value → List Value} {gV : List V → List V → List V}
end

/-- names: the parameters first -/
structure FnScope (N P : List Str) (sc : Scope) : Prop where
  kind : sc.kind = .function
  co : sc.isCoroutine = false
  gen : sc.isGenerator = false
  nd : N.Nodup
  pre : N.take P.length = P
  par : ∀ x ∈ P, sc.names.lookup x = some .local ∨ sc.names.lookup x = some .cell
  nofree : ∀ y ∈ sc.names, y.2 ≠ .free

theorem bindL_out {kindOf : Str → Option NameKind} {x : Str} : ∀ {binds : List (Str × Value)} {m : Str → Option Value}, (∀ v, (x, v) ∉ binds) → bindL kindOf binds m x = m x
  | [], _, _ => rfl
  | (n, v) :: r, m, h => by
    unfold bindL
    rw [bindL_out fun w hw => h w (List.mem_cons_of_mem _ hw)]
    split
    · have : x ≠ n := by rintro rfl; exact h v List.mem_cons_self
      simp [this]
    · rfl
theorem bindC_out {kindOf : Str → Option NameKind} {x : Str} : ∀ {binds : List (Str × Value)} {m : Str → Option Value}, (∀ v, (x, v) ∉ binds) → bindC kindOf binds m x = m x
  | [], _, _ => rfl
  | (n, v) :: r, m, h => by
    unfold bindC
    rw [bindC_out fun w hw => h w (List.mem_cons_of_mem _ hw)]
    split
    · rfl
    · have : x ≠ n := by rintro rfl; exact h v List.mem_cons_self
      simp [this]
theorem bindL_get {kindOf : Str → Option NameKind} {x : Str} {v : Value} : ∀ {P : List Str} {vs : List Value} {i : Nat} {m : Str → Option Value}, P.Nodup → P[i]? = some x → vs[i]? = some v → kindOf x = some .local →
    bindL kindOf (P.zip vs) m x = some v
  | [], _, _, _, _, h, _, _ => by simp at h
  | _ :: _, [], _, _, _, _, h, _ => by simp at h
  | p :: P, w :: vs, 0, m, nd, h1, h2, hk => by
    simp at h1 h2; subst h1; subst h2
    show bindL kindOf ((p, w) :: P.zip vs) m p = _
    unfold bindL
    rw [bindL_out fun v hv => (List.nodup_cons.mp nd).1 (List.of_mem_zip hv).1, if_pos hk]
    simp
  | p :: P, w :: vs, i + 1, m, nd, h1, h2, hk => by
    show bindL kindOf ((p, w) :: P.zip vs) m x = _
    unfold bindL
    exact bindL_get (i := i) (List.nodup_cons.mp nd).2 (by simpa using h1) (by simpa using h2) hk
theorem bindC_get {kindOf : Str → Option NameKind} {x : Str} {v : Value} : ∀ {P : List Str} {vs : List Value} {i : Nat} {m : Str → Option Value}, P.Nodup → P[i]? = some x → vs[i]? = some v → kindOf x ≠ some .local →
    bindC kindOf (P.zip vs) m x = some v
  | [], _, _, _, _, h, _, _ => by simp at h
  | _ :: _, [], _, _, _, _, h, _ => by simp at h
  | p :: P, w :: vs, 0, m, nd, h1, h2, hk => by
    simp at h1 h2; subst h1; subst h2
    show bindC kindOf ((p, w) :: P.zip vs) m p = _
    unfold bindC
    rw [bindC_out fun v hv => (List.nodup_cons.mp nd).1 (List.of_mem_zip hv).1, if_neg hk]
    simp
  | p :: P, w :: vs, i + 1, m, nd, h1, h2, hk => by
    show bindC kindOf ((p, w) :: P.zip vs) m x = _
    unfold bindC
    exact bindC_get (i := i) (List.nodup_cons.mp nd).2 (by simpa using h1) (by simpa using h2) hk

/-- the names' values at the entry -/
def start (N : List Str) (vs : List V) : St := vs.map some ++ List.replicate (N.length - vs.length) none

/-- the context of a def's body, at its entry; an exception leaves the frame, then lies as CX says -/
def cxOf (CX : CXT) (P : Program) (w : World) (K : PySem.W.Frag) (mg : Str → Option Value) (base : Heap) (N : List Str) (qual : Str) (scope : Scope) (f : Addr) (cd : Value) (A : Around) (outer : List Env) (s : Shared) (H : Hp) (E : XK) : Cx where
  prog := P
  w := w
  K := K
  mg := mg
  base := base
  A := A.deeper (envOfC qual scope s.heap.objs.size f cd)
  N := N
  s₀ := s
  H₀ := H
  env := envOfC qual scope s.heap.objs.size f cd
  outer := outer
  stack := envOfC qual scope s.heap.objs.size f cd :: outer
  ex := []
  calm := true
  fn := fun _ => true
  pn := []
  xe := fun e s' => wpAny (model P w) (A.deeper (envOfC qual scope s.heap.objs.size f cd)) (leaving (envOfC qual scope s.heap.objs.size f cd) e) (fun _ s'' => CX outer H s E e s'') (fun e' s'' => CX outer H s E e' s'') s'

theorem cell_has {sc : Scope} {n : Nat} {x : Str} (h : sc.names.lookup x = some .cell) : ∃ c, (cellsFrom n sc.names []).lookup x = some c := by
  have q := PySem.W.cellsFrom_some sc.names n [] (.inl h)
  exact Option.isSome_iff_exists.mp q

theorem inv_start {CX : CXT} {P : Program} {w : World} {K : PySem.W.Frag} {mg : Str → Option Value} {base : Heap} {N ps : List Str} {qual : Str} {scope : Scope} {f : Addr} {cd : Value} {A : Around} {outer : List Env} {s s1 : Shared} {H : Hp} {E : XK} {us : List Value} {vs : List V}
    (S : FnScope N ps scope) (hd : A.handled = none) (e0 : Env0 P w K mg base A outer s H) (hl : vs.length = ps.length) (r : Vals vs us)
    (x : InCallC s s.heap.objs.size (bindL (envOfC qual scope s.heap.objs.size f cd).kindOf (ps.zip us) fun _ => none) (cellsFrom (s.heap.objs.size + 1) scope.names []) (bindC (envOfC qual scope s.heap.objs.size f cd).kindOf (ps.zip us) fun _ => none) s1) :
    Inv (cxOf CX P w K mg base N qual scope f cd A outer s H E) [] (start N vs) H s1 := by
  have hpl : ps.length ≤ N.length := by have := congrArg List.length S.pre; rw [List.length_take] at this; omega
  obtain ⟨h1, tk, rfl, hk⟩ := x.done
  have noA : ∀ b : Addr, b ∉ (cxOf CX P w K mg base N qual scope f cd A outer s H E).ex := fun b z => absurd (show b ∈ ([] : List Addr) from z) (by simp)
  refine ⟨⟨e0.mod, S.kind, rfl, rfl, Nat.le_refl _, fun y z c h1 h2 => ?_, fun y hy => ?_, fun y c _ h => ?_, fun _ => hd, Around.frames_deeper e0.frames, .inr ⟨rfl, rfl⟩, fun b z => absurd z (noA b), e0.bs, e0.bsz, fun b _ _ => noA b, fun b z => absurd z (noA b), e0.funs, e0.frf⟩,
    rfl, e0.bare, Un.kept hk, ⟨_, x.toInCall.ns, fun i y v h1 h2 h3 => ?_⟩, fun y c h => ⟨_, x.cell y c h⟩, e0.hok.fresh (Nat.le_refl _), fun y c h => ?_, fun p hp => absurd (show p ∈ ([] : List (Addr × Obj)) from hp) (by simp), e0.hok.kept hk, ?_⟩
  · exact name_of_addr x.apart (PySem.mem_of_lookup h1) (PySem.mem_of_lookup h2)
  · have hy : scope.names.lookup y = some .cell ∨ scope.names.lookup y = some .free := hy
    rcases hy with hy | hy
    · exact cell_has hy
    · exact absurd rfl (S.nofree _ (PySem.mem_of_lookup hy))
  · exact Nat.le_of_lt (x.above y c (PySem.mem_of_lookup h))
  · have hi : i < vs.length := by
      unfold start at h2
      by_cases hi : i < vs.length
      · exact hi
      · rw [List.getElem?_append_right (by simpa using hi)] at h2
        rw [List.getElem?_replicate] at h2
        split at h2 <;> cases h2
    have ha : vs[i]? = some v := by
      unfold start at h2
      rw [List.getElem?_append_left (by simpa using hi), List.getElem?_map] at h2
      cases e : vs[i]? with
      | none => rw [e] at h2; cases h2
      | some a => rw [e] at h2; cases h2; rfl
    obtain ⟨u, hu, rv⟩ := r.get ha
    have hp : ps[i]? = some y := by
      rw [← S.pre, List.getElem?_take_of_lt (by omega)]; exact h1
    have ndP : ps.Nodup := by rw [← S.pre]; exact S.nd.sublist (List.take_sublist _ _)
    refine ⟨u, rv, ?_⟩
    rcases S.par y (List.mem_of_getElem? hp) with k | k
    · exact .inl ⟨k, bindL_get ndP hp hu k⟩
    · obtain ⟨c, e⟩ := cell_has (n := s.heap.objs.size + 1) k
      refine .inr ⟨.inl k, c, e, ?_⟩
      have q := x.cell y c e
      rw [bindC_get ndP hp hu (by show scope.names.lookup y ≠ _; rw [k]; decide)] at q
      exact q
  · exact e0.hok.fresh (Nat.le_of_lt (x.above y c (PySem.mem_of_lookup h)))
  · unfold start
    show _ = N.length
    rw [List.length_append, List.length_map, List.length_replicate]
    omega

/-- THE RULE: a def (or a method) of the text, by its body. The body's reading t is chosen for each entry; it is run at the parameters' values -/
theorem fn_of {CX : CXT} {P : Program} {w : World} {K : PySem.W.Frag} {mg : Str → Option Value} {base : Heap} {k : Nat} {f : Addr} {name qual : Str} {params : Arguments} {body : List Stmt} {scope : Scope} {dV kV doc pm cdv ct oc : Value} {an od : Option Addr}
    {osl : Array (Option Value)} {N ps : List Str} {sp : Sp} (lk : K.lookup f = some ⟨oc, od, .func (PySem.W.fnOf name qual params body scope dV kV doc pm an cdv ct), osl⟩) (hcd : PySem.W.codeIn K cdv qual = true) (S : FnScope N ps scope)
    (len : ∀ vs H Q E, sp vs H Q E → vs.length = ps.length)
    (hbody : ∀ (A : Around) (outer : List Env) (s : Shared) (H : Hp) (vs : List V) (Q : VK) (E : XK), Room k (A.deeper (envOfC qual scope s.heap.objs.size f cdv)) → sp vs H Q E →
      ∃ t, PSs (cxOf CX P w K mg base N qual scope f cdv A outer s H E) body t ∧ t { nx := fun _ H' => Q .non H', rt := Q } (start N vs) H) :
    FnOk P w K mg base CX (k + 1) f (PySem.W.fnOf name qual params body scope dV kV doc pm an cdv ct) ps sp := by
  refine ⟨len, fun A outer s H args us vs Q E hr e0 hb r hsp => ?_⟩
  have hl := len _ _ _ _ hsp
  have KX : K.In s.heap := e0.mod.kin.keeps fun b o e => (e0.bs b o e).1
  have lim : s.heap.NoLimit := e0.mod.nolimit.keeps fun b o e => (e0.bs b o e).1
  have hkind : ∀ y ∈ ps.zip us, scope.names.lookup y.1 = some .local ∨ (scope.names.lookup y.1 = some .cell ∧ ((cellsFrom (s.heap.objs.size + 1) scope.names []).lookup y.1).isSome = true) := fun ⟨n, v⟩ hy => by
    rcases S.par n (List.of_mem_zip hy).1 with q | q
    · exact .inl q
    · exact .inr ⟨q, PySem.W.cellsFrom_some _ _ _ (.inl q)⟩
  refine codeAny_call_function hr.depth (KX _ _ lk) rfl S.co S.gen rfl (PySem.W.codeRec_of KX hcd) (hb _ _ _ _ ?_)
  refine wpAny_newFunctionEnv_cells S.kind hkind fun env he s1 x => ?_
  subst he
  refine ⟨lim.keeps x.toInCall.keep, codeAny_func ?_⟩
  obtain ⟨t, ht, hq⟩ := hbody A outer s H vs Q E (hr.deeper _) hsp
  have I : Inv (cxOf CX P w K mg base N qual scope f cdv A outer s H E) [] (start N vs) H s1 := inv_start S hr.hd e0 hl r x
  refine wpAny_mono (ht [] s1 (start N vs) H _ I hq) (fun fl s' hs => ?_) fun e s' hs => hs
  have fin : ∀ {σ' : St} {H' : Hp} {v : V} {u : Value}, Inv (cxOf CX P w K mg base N qual scope f cdv A outer s H E) [] σ' H' s' → RelV v u → Q v H' → CE outer P w H s Q u s' :=
    fun {σ' H' v u} J rv q => ⟨v, H', J.os, J.bare, J.base, J.hok, rv, q⟩
  cases fl with
  | ret u =>
    obtain ⟨v, σ', H', J, rv, q⟩ := hs
    exact fin J rv q
  | next =>
    obtain ⟨σ', H', J, q⟩ := hs
    exact fin (v := V.non) (u := Value.none) J rfl q
  | brk =>
    obtain ⟨_, _, _, q⟩ := hs
    exact False.elim q
  | cont =>
    obtain ⟨_, _, _, q⟩ := hs
    exact False.elim q
end L2

namespace L2
open PySem PySem.Spec PyProof.Rows
section
variable {X : Cx} {x : Str} {p pos : Pos} {e : Expr} {es : List Expr} {t : TA} {id T : String} {r : List V → Hp → VK → Prop}

def tCB (r : List V → Hp → VK → Prop) (t : TA) : TE := fun σ H Q => t σ H fun vs H1 => r vs H1 Q
/-- f(e, ..), f a built-in function -/
theorem pe_callB (hc : CallR X (.builtin id) r) (hg : Gl X x) (hm : X.mg x = none) (hv : bootBuiltins x = some (.builtin id)) (ha : PA X (e :: es) t) (hn : x ≠ "__name__" := by decide) (hdb : (x == ("__debug__" : Str)) = false := by decide)
    (he : starEach (e :: es) X.env = (false, eval e X.env) :: starEach es X.env := by rfl) (hpl : (backTo pos (starEach es X.env)).any (·.1) = false := by rfl) : PE X (.Call (.Name x p) (e :: es) [] pos) (tCB r t) := by
  intro pins s σ H Q I h
  refine wpAny_Call_Name_kw (ld_blt I hg hm hv ?_ hn hdb)
  exact PyProof.Rows.callWith_builtin1 (thn (ha pos pins s σ H _ I h) fun us s1 ⟨vs, H1, I1, r1, q1⟩ => hc pins s1 σ H1 vs us Q I1 r1 q1) he hpl
/-- T(e, ..), T a built-in type -/
theorem pe_callTy (hc : CallR X (.type T) r) (hg : Gl X x) (hm : X.mg x = none) (hv : bootBuiltins x = some (.type T)) (ha : PA X (e :: es) t) (hn : x ≠ "__name__" := by decide) (hdb : (x == ("__debug__" : Str)) = false := by decide)
    (he : starEach (e :: es) X.env = (false, eval e X.env) :: starEach es X.env := by rfl) (hpl : (backTo pos (starEach es X.env)).any (·.1) = false := by rfl) : PE X (.Call (.Name x p) (e :: es) [] pos) (tCB r t) := by
  intro pins s σ H Q I h
  refine wpAny_Call_Name_kw (ld_blt I hg hm hv ?_ hn hdb)
  exact PyProof.Rows.callWith_type1 (thn (ha pos pins s σ H _ I h) fun us s1 ⟨vs, H1, I1, r1, q1⟩ => hc pins s1 σ H1 vs us Q I1 r1 q1) he hpl
end
end L2

namespace HT
open PySem PyProof.Rows

theorem eqAt_int (A : Around) (s : Shared) (a : Int) (t : Tok) (c : Int) (u : Tok) : ∃ e, SeqAt.EqAt A s (.int a t) (.int c u) e ∧ (e = true ↔ a = c) :=
  ⟨(a == c), SeqAt.EqAt.int_int a t c u, by simp⟩
theorem rcLt_int (A : Around) (s : Shared) (a : Int) (t : Tok) (c : Int) (u : Tok) (prog : Program) (w : World) (E : Value → Shared → Prop) (Q : Value → Shared → Prop) (h : Q (.bool (decide (a < c))) s) :
    wpAny (model prog w) A (richCompare .Lt (.int a t) (.int c u)) Q E s :=
  (PyProof.Rows.lt_int h : wpAny (model prog w) A (compareOp .Lt (.int a t) (.int c u)) Q E s)

section
open PySem.SeqAt
open PySem.AutoSeq1 (wpAny_loadPart')
open PySem.MeetsSeq PySem.MeetsSeq2 PySem.MeetsSeq3

end

section
variable {prog : Program} {w : World} {A : Around} {E : Value → Shared → Prop} {s : Shared}

/-- a slice's bound as a place among n (d where it is left out) -/
def sIx (n d : Nat) : Option Int → Nat
  | none => d
  | some v => if v < 0 then (v + (n : Int)).toNat else min v.toNat n
theorem sIx_nat (n d k : Nat) : sIx n d (some (k : Int)) = min k n := by
  show (if (k : Int) < 0 then ((k : Int) + (n : Int)).toNat else min (k : Int).toNat n) = min k n
  rw [if_neg (by omega), Int.toNat_natCast]
theorem sIx_le (n d : Nat) (hd : d ≤ n) (o : Option Int) : sIx n d o ≤ n := by
  cases o with
  | none => exact hd
  | some v =>
    show (if v < 0 then (v + (n : Int)).toNat else min v.toNat n) ≤ n
    by_cases hv : v < 0
    · rw [if_pos hv]; omega
    · rw [if_neg hv]; exact Nat.min_le_right _ _
end
end HT

namespace L2
open PySem PySem.Spec PyProof.Rows

abbrev TO := St → Hp → (Option Int → Hp → Prop) → Prop
/-- a slice's part (left out, or an int) -/
def PO (X : Cx) (e : Option Expr) (t : TO) : Prop :=
  ∀ (pins : List (Addr × Obj)) (s : Shared) (σ : St) (H : Hp) (Q : Option Int → Hp → Prop), Inv X pins σ H s → t σ H Q →
    wpAny (model X.prog X.w) X.A (evalPart e X.env) (fun u s' => ∃ o H', Inv X pins σ H' s' ∧ IsPart u o ∧ Q o H') X.xe s
def tNoPart : TO := fun _ H Q => Q none H
def tPart (t : TE) : TO := fun σ H Q => t σ H fun x H1 => ∃ i, x = .int i ∧ Q (some i) H1

section
variable {X : Cx} {e : Expr} {te : TE} {lo hi : Option Expr} {tl th : TO} {pos p2 : Pos}

theorem po_none : PO X none tNoPart := by
  intro pins s σ H Q I h
  rw [evalPart_none]
  exact wpAny_pure ⟨none, H, I, .none, h⟩
theorem po_some (h : PE X e te) : PO X (some e) (tPart te) := by
  intro pins s σ H Q I hw
  rw [evalPart_some]
  refine thn (h pins s σ H _ I hw) fun u s1 ⟨x, H1, I1, r1, q1⟩ => ?_
  obtain ⟨i, rfl, q⟩ := q1
  obtain ⟨t, rfl⟩ := r1
  exact ⟨some i, H1, I1, .int i t, q⟩

/-- what a slice of a value is, by values: the slice object stands at sl -/
def SlR (X : Cx) (r : V → Option Int → Option Int → Hp → VK → Prop) : Prop :=
  ∀ (pins : List (Addr × Obj)) (s : Shared) (σ : St) (H : Hp) (x : V) (v vl vu : Value) (lo hi : Option Int) (sl : Addr) (Q : VK), Inv X pins σ H s → RelV x v → s.heap.IsSliceOf sl vl vu .none → IsPart vl lo → IsPart vu hi → r x lo hi H Q →
    ∃ T id, typeLookup (.type T) "__getitem__" = pure (some (.builtin id)) ∧ s.TypeIs v T ∧ wpAny (model X.prog X.w) X.A (getItem v (.ref sl)) (EP X pins σ Q) X.xe s
theorem SlR.or {r r' : V → Option Int → Option Int → Hp → VK → Prop} (h : SlR X r) (h' : SlR X r') : SlR X (fun x lo hi H Q => r x lo hi H Q ∨ r' x lo hi H Q) := by
  intro pins s σ H x v vl vu lo hi sl Q I rx hs pl pu q
  rcases q with q | q
  · exact h pins s σ H x v vl vu lo hi sl Q I rx hs pl pu q
  · exact h' pins s σ H x v vl vu lo hi sl Q I rx hs pl pu q
def tSl (r : V → Option Int → Option Int → Hp → VK → Prop) (te : TE) (tl th : TO) : TE := fun σ H Q => te σ H fun x H1 => tl σ H1 fun l H2 => th σ H2 fun u H3 => r x l u H3 Q
/-- a[lo:hi], any a -/
theorem pe_slice {r : V → Option Int → Option Int → Hp → VK → Prop} (hr : SlR X r) (he : PE X e te) (hl : PO X lo tl) (hu : PO X hi th) : PE X (.Subscript e (.Slice lo hi none p2) pos) (tSl r te tl th) := by
  intro pins s σ H Q I h
  refine Subscript_ (thn (he pins s σ H _ I h) fun v s1 ⟨x, H1, I1, r1, q1⟩ => ?_)
  refine wpAny_Slice (thn (hl pins s1 σ H1 _ I1 q1) fun vl s2 ⟨l, H2, I2, pl, q2⟩ => thn (hu pins s2 σ H2 _ I2 q2) fun vu s3 ⟨u, H3, I3, pu, q3⟩ => ?_)
  rw [evalPart_none]
  refine wpAny_pure ?_
  have I4 : Inv X pins σ H3 { s3 with heap := s3.heap.push { cls := .type "slice", data := .fields #[vl, vu, .none] } } := I3.kept (t' := s3.toks) fun b ob q => Heap.get?_push_of_some _ q
  obtain ⟨T, id, hT, ht, hg⟩ := hr pins { s3 with heap := s3.heap.push { cls := .type "slice", data := .fields #[vl, vu, .none] } } σ H3 x v vl vu l u s3.heap.objs.size Q I4 r1 (Heap.IsSliceOf.new ..) pl pu q3
  show wpAny (model X.prog X.w) X.A (subscriptTail e (.Slice lo hi none p2) v (.ref s3.heap.objs.size)) (EP X pins σ Q) X.xe { s3 with heap := s3.heap.push { cls := .type "slice", data := .fields #[vl, vu, .none] } }
  exact tail_any (ops := [.ref s3.heap.objs.size, v]) ht hT hg (by with_unfolding_all rfl)

/-- the items of xs[lo:hi] -/
def cutV (xs : List V) (lo hi : Option Int) : List V := (xs.drop (HT.sIx xs.length 0 lo)).take (HT.sIx xs.length xs.length hi - HT.sIx xs.length 0 lo)
theorem cutV_length (xs : List V) (lo hi : Option Int) : (cutV xs lo hi).length ≤ xs.length := by
  unfold cutV
  rw [List.length_take, List.length_drop]
  omega
end
end L2

namespace L2
open PySem PySem.Spec PyProof.Rows

/-- the place that an index of any sign means -/
def ixN (n : Nat) (i : Int) : Option Nat := if 0 ≤ i then (if i < n then some i.toNat else none) else if -(n : Int) ≤ i then some (i + n).toNat else none
def atI {α : Type} (xs : List α) (i : Int) : Option α := (ixN xs.length i).bind fun j => xs[j]?
theorem ixN_seq {n : Nat} {i : Int} {j : Nat} (h : ixN n i = some j) : seqIndex? i n = some j ∧ j < n ∧ -(n : Int) ≤ i ∧ i < n := by
  unfold ixN at h
  by_cases h0 : 0 ≤ i
  · rw [if_pos h0] at h
    by_cases h1 : i < n
    · rw [if_pos h1] at h
      have e : i.toNat = j := Option.some.inj h
      exact ⟨by rw [seqIndex_of h0 h1, e], by omega, by omega, h1⟩
    · rw [if_neg h1] at h; cases h
  · rw [if_neg h0] at h
    by_cases h1 : -(n : Int) ≤ i
    · rw [if_pos h1] at h
      have e : (i + n).toNat = j := Option.some.inj h
      exact ⟨by rw [seqIndex_neg (by omega) h1, e], by omega, h1, by omega⟩
    · rw [if_neg h1] at h; cases h
theorem atI_get {α : Type} {xs : List α} {i : Int} {v : α} (h : atI xs i = some v) : ∃ j, seqIndex? i xs.length = some j ∧ xs[j]? = some v ∧ j < xs.length ∧ -(xs.length : Int) ≤ i ∧ i < xs.length := by
  unfold atI at h
  cases e : ixN xs.length i with
  | none => rw [e] at h; cases h
  | some j =>
    rw [e] at h
    obtain ⟨h1, h2, h3, h4⟩ := ixN_seq e
    exact ⟨j, h1, h, h2, h3, h4⟩
theorem atI_nat {α : Type} {xs : List α} {j : Nat} {v : α} (h : xs[j]? = some v) : atI xs (j : Int) = some v := by
  have hj : j < xs.length := (List.getElem?_eq_some_iff.mp h).1
  have e : ixN xs.length (j : Int) = some j := by
    unfold ixN
    rw [if_pos (by omega), if_pos (by omega)]; simp
  unfold atI; rw [e]; exact h
theorem atI_last {α : Type} (xs : List α) (v : α) : atI (xs ++ [v]) (-1) = some v := by
  have hl : (xs ++ [v]).length = xs.length + 1 := by simp
  have e : ixN (xs ++ [v]).length (-1) = some xs.length := by
    unfold ixN
    rw [hl, if_neg (by decide), if_pos (by omega)]
    congr 1
    omega
  unfold atI
  rw [e]
  show (xs ++ [v])[xs.length]? = some v
  simp

/-- what stands as an index of a plain subscript -/
def PlainIx (b : Expr) : Prop := ∀ o i, subscripted b false o i = operate [o, i] (getItem o i)
/-- a subscript by values -/
def IxR (X : Cx) (r : R2) : Prop :=
  ∀ (value slice : Expr) (pins : List (Addr × Obj)) (s : Shared) (σ : St) (H : Hp) (x y : V) (v u : Value) (Q : VK), Inv X pins σ H s → RelV x v → RelV y u → r x y H Q →
    subscripted slice false v u = operate [v, u] (getItem v u) → wpAny (model X.prog X.w) X.A (subscriptTail value slice v u) (EP X pins σ Q) X.xe s
/-- a call of a builtin's method by values: the receiver, the arguments -/
def MtR (X : Cx) (id : String) (r : V → List V → Hp → VK → Prop) : Prop :=
  ∀ (pins : List (Addr × Obj)) (s : Shared) (σ : St) (H : Hp) (x : V) (xs : List V) (v : Value) (us : List Value) (Q : VK), Inv X pins σ H s → RelV x v → Vals xs us → r x xs H Q →
    wpAny (model X.prog X.w) X.A (call (.builtin id) (v :: us)) (EP X pins σ Q) X.xe s
section
variable {X : Cx} {a b : Expr} {ta tb : TE} {pos : Pos}
theorem IxR.or {r r' : R2} (h : IxR X r) (h' : IxR X r') : IxR X (fun x y H Q => r x y H Q ∨ r' x y H Q) := by
  intro value slice pins s σ H x y v u Q I rx ry q hs
  rcases q with q | q
  · exact h value slice pins s σ H x y v u Q I rx ry q hs
  · exact h' value slice pins s σ H x y v u Q I rx ry q hs
theorem MtR.or {id : String} {r r' : V → List V → Hp → VK → Prop} (h : MtR X id r) (h' : MtR X id r') : MtR X id (fun x xs H Q => r x xs H Q ∨ r' x xs H Q) := by
  intro pins s σ H x xs v us Q I rx rs q
  rcases q with q | q
  · exact h pins s σ H x xs v us Q I rx rs q
  · exact h' pins s σ H x xs v us Q I rx rs q
/-- a[b] -/
theorem pe_ix {r : R2} (hr : IxR X r) (ha : PE X a ta) (hb : PE X b tb) (hs : PlainIx b) : PE X (.Subscript a b pos) (tOp r ta tb) := by
  intro pins s σ H Q I h
  exact Subscript_ (binT ha hb I h fun v u s2 x y H2 I2 rx ry q => hr a b pins s2 σ H2 x y v u Q I2 rx ry q (hs _ _))

def rIxL (K : PySem.W.Frag) : R2 := fun x y H Q => ∃ p xs i v, x = .ref p ∧ y = .int i ∧ SqL K H p xs ∧ atI xs i = some v ∧ Q v H
def rIxT (K : PySem.W.Frag) : R2 := fun x y H Q => ∃ p xs i v, x = .ref p ∧ y = .int i ∧ SqT K H p xs ∧ atI xs i = some v ∧ Q v H
def rIxS : R2 := fun x y H Q => ∃ z i c, x = .str z ∧ y = .int i ∧ z.length ≤ sizeLine ∧ atI z.cps.toList i = some c ∧ Q (.str ⟨#[c]⟩) H
theorem ix_list : IxR X (rIxL X.K) := by
  intro value slice pins s σ H x y v u Q I rx ry h hs
  obtain ⟨p, xs, i, z, rfl, rfl, hq, he, q⟩ := h
  cases rx
  obtain ⟨t, rfl⟩ := ry
  obtain ⟨its, r, pl, hz⟩ := I.list hq
  obtain ⟨j, h1, h2, h3, h4, h5⟩ := atI_get he
  obtain ⟨w, ew, rw'⟩ := r.get h2
  have hl := r.length
  have hn := line63
  have fin : EP X pins σ Q w s := ⟨z, H, I, rw', q⟩
  by_cases h0 : 0 ≤ i
  · have hj : i.toNat = j := by
      rw [seqIndex_of h0 h5] at h1
      exact Option.some.inj h1
    exact item_listR pl.isList h0 (by omega) (by rw [hj]; simpa using ew) fin hs
  · have hj : (i + (its.toArray.size : Int)).toNat = j := by
      rw [seqIndex_neg (by omega) h4] at h1
      rw [List.size_toArray, ← hl]
      exact Option.some.inj h1
    exact subscriptTail_builtinR (x := w) pl.isList.typeIs slot_list_getitem.lookup
      (wpAny_getItem_list_neg (Q := fun r s' => r = w ∧ EP X pins σ Q r s') pl.isList (by omega) (by rw [List.size_toArray] <;> omega) (by omega) (by rw [hj]; simpa using ew) ⟨rfl, fin⟩) hs
theorem ix_tup : IxR X (rIxT X.K) := by
  intro value slice pins s σ H x y v u Q I rx ry h hs
  obtain ⟨p, xs, i, z, rfl, rfl, hq, he, q⟩ := h
  cases rx
  obtain ⟨t, rfl⟩ := ry
  obtain ⟨its, r, pl, hz⟩ := I.tuple hq
  obtain ⟨j, h1, h2, h3, h4, h5⟩ := atI_get he
  obtain ⟨w, ew, rw'⟩ := r.get h2
  have hl := r.length
  have hn := line63
  have fin : EP X pins σ Q w s := ⟨z, H, I, rw', q⟩
  exact subscriptTail_builtinR (x := w) pl.typeIs slot_tuple_getitem.lookup
    (getItem_tuple (j := j) (Q := fun r s' => r = w ∧ EP X pins σ Q r s') pl (by omega) (by omega) (by rw [List.size_toArray, ← hl]; exact h1) (by simpa using ew) ⟨rfl, fin⟩) hs
theorem ix_str : IxR X rIxS := by
  intro value slice pins s σ H x y v u Q I rx ry h hs
  obtain ⟨z, i, c, rfl, rfl, hz, he, q⟩ := h
  obtain ⟨t, rfl⟩ := rx
  obtain ⟨t', rfl⟩ := ry
  obtain ⟨j, h1, h2, h3, h4, h5⟩ := atI_get he
  have hl : z.cps.toList.length = z.length := by simp [Str.length]
  rw [hl] at h1 h4 h5
  have hn := line63
  exact tail_any (typeIs_str s z t) slot_str_getitem.lookup (getItem_str (c := c) (by
    have e1 : decide (i < -(2 ^ 63 : Int)) = false := decide_eq_false (by omega)
    have e2 : decide (i ≥ 2 ^ 63) = false := decide_eq_false (by omega)
    rw [e1, e2, Bool.or_false]) (by rw [h1]; simpa using h2) ⟨.str ⟨#[c]⟩, H, I.tok _, ⟨_, rfl⟩, q⟩) hs
theorem Inv.lst {pins : List (Addr × Obj)} {σ : St} {H : Hp} {s : Shared} {p : Addr} {xs : List V} (I : Inv X pins σ H s) (h : H p = some (.lst xs)) :
    ∃ (its : List Value) (n : Nat), Vals xs its ∧ s.heap.get? p = some { cls := .type "list", data := .seq its.toArray n } ∧ xs.length ≤ sizeLine := by
  obtain ⟨z, its, n, r, e⟩ := I.hok p _ h
  exact ⟨its, n, r, e, z⟩
theorem slice_bounds (lo hi : Option Int) (n : Nat) : (sliceBounds lo hi none n).1 = ((HT.sIx n 0 lo : Nat) : Int) ∧ (sliceBounds lo hi none n).2.1 = ((HT.sIx n n hi : Nat) : Int) ∧ (sliceBounds lo hi none n).2.2 = 1 := by
  refine ⟨?_, ?_, rfl⟩
  · cases lo with
    | none => simp [sliceBounds, HT.sIx]
    | some i =>
      simp only [sliceBounds, HT.sIx, Option.getD_none, show (1 : Int) > 0 by decide, if_true]
      by_cases h : i < 0
      · simp only [h, if_true] <;> omega
      · simp only [h, if_false] <;> omega
  · cases hi with
    | none => simp [sliceBounds, HT.sIx]
    | some i =>
      simp only [sliceBounds, HT.sIx, Option.getD_none, show (1 : Int) > 0 by decide, if_true]
      by_cases h : i < 0
      · simp only [h, if_true] <;> omega
      · simp only [h, if_false] <;> omega
theorem slicePick_cut (its : List Value) (lo hi : Option Int) : slicePick its.toArray lo hi none = ((its.drop (HT.sIx its.length 0 lo)).take (HT.sIx its.length its.length hi - HT.sIx its.length 0 lo)).toArray := by
  obtain ⟨h1, h2, h3⟩ := slice_bounds lo hi its.toArray.size
  unfold slicePick
  rw [h1, h2, h3]
  simp only [sliceRange_one, pick_run, List.size_toArray] <;> rfl
/-- xs[lo:hi] of a list: a new list -/
def rSlL (K : PySem.W.Frag) : V → Option Int → Option Int → Hp → VK → Prop := fun x lo hi H Q => ∃ a xs, x = .ref a ∧ SqL K H a xs ∧ ∀ p, H p = none → Q (.ref p) (upd H p (.lst (cutV xs lo hi)))
theorem sl_list : SlR X (rSlL X.K) := by
  intro pins s σ H x v vl vu lo hi sl Q I rx hs pl pu h
  obtain ⟨a, xs, rfl, hx, q⟩ := h
  cases rx
  obtain ⟨its, r, ht, hz⟩ := I.list hx
  have hlen := r.length
  refine ⟨"list", _, slot_list_getitem.lookup, ht.isList.typeIs, ?_⟩
  refine wpAny_getItem_list_slice ht.isList hs pl pu .none (by simp) ?_ (by rw [List.size_toArray] <;> omega)
  rw [slicePick_cut, ← hlen]
  refine ⟨.ref s.heap.objs.size, _, I.laid (t' := s.toks) (o := .lst (cutV xs lo hi)) (fun b ob q => Heap.get?_push_of_some _ q) (Nat.le_refl _) ?_, rfl, q _ (I.hok.fresh (Nat.le_refl _))⟩
  exact ⟨Nat.le_trans (cutV_length xs lo hi) hz, _, 0, (r.drop (HT.sIx xs.length 0 lo)).take (HT.sIx xs.length xs.length hi - HT.sIx xs.length 0 lo), Heap.get?_push_size _ rfl⟩

def flatV : V → Bool
  | .non => true
  | .bl _ => true
  | .int _ => true
  | .str _ => true
  | _ => false
/-- == of flat values -/
def eqV : V → V → Bool
  | .non, .non => true
  | .bl a, .bl b => a == b
  | .bl a, .int b => (if a then 1 else 0) == b
  | .int a, .bl b => a == (if b then 1 else 0)
  | .int a, .int b => a == b
  | .str a, .str b => a == b
  | _, _ => false
theorem eqAt_V {A : Around} {s : Shared} {y x : V} {u v : Value} (ry : RelV y u) (rx : RelV x v) (fy : flatV y = true) (fx : flatV x = true) : SeqAt.EqAt A s u v (eqV y x) := by
  cases y with
  | non =>
    cases ry
    cases x with
    | non => cases rx; exact SeqAt.EqAt.same _
    | bl b => cases rx; exact SeqAt.EqAt.none_bool b
    | int b => obtain ⟨t, rfl⟩ := rx; exact SeqAt.EqAt.none_int b t
    | str b => obtain ⟨t, rfl⟩ := rx; exact SeqAt.EqAt.none_str b t
    | _ => exact absurd (show false = true from fx) Bool.false_ne_true
  | bl a =>
    cases ry
    cases x with
    | non => cases rx; exact SeqAt.EqAt.bool_none a
    | bl b => cases rx; exact SeqAt.EqAt.bool_bool a b
    | int b => obtain ⟨t, rfl⟩ := rx; exact SeqAt.EqAt.bool_int a b t
    | str b => obtain ⟨t, rfl⟩ := rx; exact SeqAt.EqAt.bool_str a b t
    | _ => exact absurd (show false = true from fx) Bool.false_ne_true
  | int a =>
    obtain ⟨t', rfl⟩ := ry
    cases x with
    | non => cases rx; exact SeqAt.EqAt.int_none a t'
    | bl b => cases rx; exact SeqAt.EqAt.int_bool a t' b
    | int b => obtain ⟨t, rfl⟩ := rx; exact SeqAt.EqAt.int_int a t' b t
    | str b => obtain ⟨t, rfl⟩ := rx; exact SeqAt.EqAt.int_str a t' b t
    | _ => exact absurd (show false = true from fx) Bool.false_ne_true
  | str a =>
    obtain ⟨t', rfl⟩ := ry
    cases x with
    | non => cases rx; exact SeqAt.EqAt.str_none a t'
    | bl b => cases rx; exact SeqAt.EqAt.str_bool a t' b
    | int b => obtain ⟨t, rfl⟩ := rx; exact SeqAt.EqAt.str_int a t' b t
    | str b => obtain ⟨t, rfl⟩ := rx; exact SeqAt.EqAt.str_str a t' b t
    | _ => exact absurd (show false = true from fx) Bool.false_ne_true
  | _ => exact absurd (show false = true from fy) Bool.false_ne_true
def inV (x : V) (xs : List V) : Bool := xs.any fun y => eqV y x
/-- x in a list or tuple of flat items -/
def rIn (K : PySem.W.Frag) (neg : Bool) : R2 := fun x y H Q => ∃ p xs, y = .ref p ∧ (SqL K H p xs ∨ SqT K H p xs) ∧ flatV x = true ∧ xs.all flatV = true ∧ Q (.bl (if neg then !inV x xs else inV x xs)) H
theorem call_len_seq : CallR X (.builtin "len") (fun xs H Q => ∃ p ys, xs = [.ref p] ∧ (SqL X.K H p ys ∨ SqT X.K H p ys) ∧ Q (.int ys.length) H) := by
  intro pins s σ H xs us Q I r h
  obtain ⟨p, ys, rfl, hq, q⟩ := h
  obtain ⟨u, rfl, rx⟩ := vals1 r
  cases rx
  have hn := line63
  rcases hq with hq | hq
  · obtain ⟨its, r', pl, hz⟩ := I.list hq
    have hlen := r'.length
    exact Calls.call_len_list pl.isList (by simp only [List.size_toArray] <;> omega) ⟨.int ys.length, H, I.tok _, ⟨s.toks + 1, by rw [List.size_toArray, hlen]⟩, q⟩
  · obtain ⟨its, r', pl, hz⟩ := I.tuple hq
    have hlen := r'.length
    exact len_tuple pl (by simp only [List.size_toArray] <;> omega) ⟨.int ys.length, H, I.tok _, ⟨s.toks + 1, by rw [List.size_toArray, hlen]⟩, q⟩
theorem call_len_str : CallR X (.builtin "len") (fun xs H Q => ∃ z, xs = [.str z] ∧ z.length ≤ sizeLine ∧ Q (.int z.length) H) := by
  intro pins s σ H xs us Q I r h
  obtain ⟨z, rfl, hz, q⟩ := h
  obtain ⟨u, rfl, t, rfl⟩ := vals1 r
  have hn := line63
  exact len_str (by omega) ⟨.int z.length, H, I.tok _, ⟨_, rfl⟩, q⟩
theorem CallR.or {f : Value} {r r' : List V → Hp → VK → Prop} (h : CallR X f r) (h' : CallR X f r') : CallR X f (fun xs H Q => r xs H Q ∨ r' xs H Q) := by
  intro pins s σ H xs us Q I rs q
  rcases q with q | q
  · exact h pins s σ H xs us Q I rs q
  · exact h' pins s σ H xs us Q I rs q
theorem call_list_of : CallR X (.type "list") (fun xs H Q => ∃ p ys, xs = [.ref p] ∧ (SqL X.K H p ys ∨ SqT X.K H p ys) ∧ ∀ l, H l = none → Q (.ref l) (upd H l (.lst ys))) := by
  intro pins s σ H xs us Q I r h
  obtain ⟨p, ys, rfl, hq, q⟩ := h
  obtain ⟨u, rfl, rx⟩ := vals1 r
  cases rx
  have fin : ∀ (its : List Value), Vals ys its → ys.length ≤ sizeLine → ∀ (h' : Heap) (c' : Nat), (∀ b o', s.heap.get? b = some o' → h'.get? b = some o') →
      h'.get? s.heap.objs.size = some { cls := .type "list", dict := none, data := .seq its.toArray c', slots := #[] } → EP X pins σ Q (.ref s.heap.objs.size) { s with heap := h' } := fun its r' hz h' c' kp e =>
    ⟨.ref s.heap.objs.size, _, I.laid (t' := s.toks) kp (Nat.le_refl _) (show ObjOk X.prog X.w _ h' _ (.lst ys) from ⟨hz, its, c', r', e⟩), rfl, q _ (I.hok.fresh (Nat.le_refl _))⟩
  rcases hq with hq | hq
  · obtain ⟨its, r', pl, hz⟩ := I.list hq
    have hlen := r'.length
    obtain ⟨o, ho, hc, n, hd⟩ := pl.isList
    exact call_list_seq p (.inl rfl) ho hc hd (fun h' c' kp e => fin its r' hz h' c' kp e) (by simp only [List.size_toArray] <;> omega)
  · obtain ⟨its, r', pl, hz⟩ := I.tuple hq
    have hlen := r'.length
    obtain ⟨o, ho, hc, n, hd⟩ := pl
    exact call_list_seq p (.inr rfl) ho hc hd (fun h' c' kp e => fin its r' hz h' c' kp e) (by simp only [List.size_toArray] <;> omega)
theorem call_tuple_of : CallR X (.type "tuple") (fun xs H Q => ∃ p ys, xs = [.ref p] ∧ ((SqL X.K H p ys ∧ ∀ l, H l = none → Q (.ref l) (upd H l (.tup ys))) ∨ (SqT X.K H p ys ∧ Q (.ref p) H))) := by
  intro pins s σ H xs us Q I r h
  obtain ⟨p, ys, rfl, h⟩ := h
  obtain ⟨u, rfl, rx⟩ := vals1 r
  cases rx
  rcases h with ⟨hq, q⟩ | ⟨hq, q⟩
  · obtain ⟨its, r', pl, hz⟩ := I.list hq
    have hlen := r'.length
    refine call_tuple_list pl.isList (fun h' kp => ?_) (by simp only [List.size_toArray] <;> omega)
    have I1 : Inv X pins σ H { s with heap := h' } := I.kept (t' := s.toks) kp
    have I2 : Inv X pins σ (upd H h'.objs.size (.tup ys)) { s with heap := h'.push { cls := .type "tuple", data := .seq its.toArray } } :=
      I1.laid (t' := s.toks) (fun b o e => Heap.get?_push_of_some _ e) (Nat.le_refl _) (show ObjOk X.prog X.w _ _ _ (.tup ys) from ⟨hz, its, r', IsTup.new _ _⟩)
    exact ⟨.ref h'.objs.size, _, I2, rfl, q _ (I1.hok.fresh (Nat.le_refl _))⟩
  · obtain ⟨its, r', pl, hz⟩ := I.tuple hq
    exact call_tuple_same pl ⟨.ref p, H, I, rfl, q⟩

/-- the value is of that builtin type -/
def tyV (K : PySem.W.Frag) (T : String) (x : V) (H : Hp) : Prop := match x with
  | .str _ => T = "str"
  | .int _ => T = "int"
  | .ref p => (T = "list" ∧ ∃ xs, SqL K H p xs) ∨ (T = "tuple" ∧ ∃ o, K.lookup p = some o ∧ o.cls = .type "tuple" ∧ o.dict = none) ∨
      (T = "dict" ∧ ((∃ kvs, H p = some (.dK kvs)) ∨ ∃ kvs, H p = some (.dT kvs))) ∨ (T = "set" ∧ ∃ S n, H p = some (.set S n))
  | _ => False
theorem tyV_is {pins : List (Addr × Obj)} {σ : St} {H : Hp} {s : Shared} {T : String} {x : V} {v : Value} (I : Inv X pins σ H s) (r : RelV x v) (ty : tyV X.K T x H) :
    s.TypeIs v T ∧ ∀ a, v = .ref a → ∃ ob, s.heap.get? a = some ob ∧ ob.dict = none := by
  cases x with
  | str z =>
    obtain ⟨t, rfl⟩ := r
    cases (show T = "str" from ty)
    exact ⟨typeIs_str s z t, fun _ e => nomatch e⟩
  | int i =>
    obtain ⟨t, rfl⟩ := r
    cases (show T = "int" from ty)
    exact ⟨typeIs_int s i t, fun _ e => nomatch e⟩
  | ref p =>
    cases r
    rcases ty with ⟨rfl, xs, hq⟩ | ⟨rfl, o, hk, hc, hd⟩ | ⟨rfl, hk⟩ | ⟨rfl, S, n, hk⟩
    · obtain ⟨its, _, pl, _⟩ := I.list hq
      refine ⟨pl.isList.typeIs, fun a e => ?_⟩
      cases e
      obtain ⟨o, n, e, c, hd, _⟩ := pl
      exact ⟨o, e, hd⟩
    · refine ⟨⟨o, I.kIn p o hk, hc⟩, fun a e => ?_⟩
      cases e
      exact ⟨o, I.kIn _ o hk, hd⟩
    · have z : ∃ o, s.heap.get? p = some o ∧ o.ExactDict := by
        rcases hk with ⟨kvs, hk⟩ | ⟨kvs, hk⟩
        · obtain ⟨_, _, _, _, o, _, _, e, ex, _⟩ := I.hok p _ hk
          exact ⟨o, e, ex⟩
        · obtain ⟨_, _, _, _, o, _, _, e, ex, _⟩ := I.hok p _ hk
          exact ⟨o, e, ex⟩
      obtain ⟨o, e, ex⟩ := z
      refine ⟨⟨o, e, ex.1⟩, fun a e2 => ?_⟩
      cases e2
      exact ⟨o, e, ex.2.1⟩
    · obtain ⟨o, _, _, _, e, ex, _⟩ := I.hok p _ hk
      refine ⟨⟨o, e, ex.1⟩, fun a e2 => ?_⟩
      cases e2
      exact ⟨o, e, ex.2.1⟩
  | _ => exact False.elim ty
def tBM0 (K : PySem.W.Frag) (T : String) (r : V → List V → Hp → VK → Prop) (to : TE) : TE := fun σ H Q => to σ H fun x H1 => tyV K T x H1 ∧ r x [] H1 Q
def tBM (K : PySem.W.Frag) (T : String) (r : V → List V → Hp → VK → Prop) (to : TE) (t : TA) : TE := fun σ H Q => to σ H fun x H1 => tyV K T x H1 ∧ t σ H1 fun xs H2 => r x xs H2 Q
variable {o e : Expr} {es : List Expr} {to : TE} {t : TA} {name : Str} {apos cpos : Pos} {T id : String} {r : V → List V → Hp → VK → Prop}
theorem pe_bm (pa : PlainAttrs T) (slot : Slot T name id) (hty : typeOf (.builtin id) = pure (.type "method_descriptor")) (hm : MtR X id r) (ho : PE X o to) (ha : PA X (e :: es) t)
    (hbase : attributeBase o name X.env (eval o X.env) = eval o X.env := by rfl)
    (hfew : ((backTo cpos (starEach (e :: es) X.env)).all (fun x => !x.1) && (backToKw cpos (keywordEach [] X.env)).all (fun x => x.1.isSome)
      && decide ((e :: es).length + ([] : List Keyword).length + (if ([] : List Keyword).isEmpty then 0 else 1) < 30)) = true := by rfl)
    (hline : (apos.endLine == cpos.line) = true := by rfl) (hs : starEach (e :: es) X.env = (false, eval e X.env) :: starEach es X.env := by rfl) (hplain : (backTo cpos (starEach es X.env)).any (·.1) = false := by rfl) :
    PE X (.Call (.Attribute o name apos) (e :: es) [] cpos) (tBM X.K T r to t) := by
  intro pins s σ H Q I h
  refine wpAny_Call_method_late hbase hfew hline rfl (thn (ho pins s σ H _ I h) fun v s1 ⟨x, H1, I1, r1, ty, q1⟩ => ?_)
  obtain ⟨h1, h2⟩ := tyV_is I1 r1 ty
  refine ⟨T, id, pa, slot, hty, h1, h2, ?_⟩
  have hA := ha cpos pins s1 σ H1 _ I1 q1
  rw [hs] at hA ⊢
  refine Calls.callWith_builtin (by show (false || (backTo cpos (starEach es X.env)).any (·.1)) = false; rw [hplain] <;> rfl) (Calls.evalArgs_plain ?_)
  exact thn hA fun us s2 ⟨vs, H2, I2, r2, q2⟩ => hm pins s2 σ H2 x vs v us Q I2 r1 r2 q2
end
end L2

namespace L2
open PySem PySem.Spec PyProof.Rows

def MtM (X : Cx) (id : String) (r : V → List V → Hp → VK → Prop) : Prop :=
  ∀ (pins : List (Addr × Obj)) (s : Shared) (σ : St) (H : Hp) (x : V) (xs : List V) (v : Value) (us : List Value) (Q : VK), Inv X pins σ H s → RelV x v → Vals xs us → r x xs H Q →
    wpAny (model X.prog X.w) X.A (call (.builtin id) (v :: us)) (EP X pins σ Q) X.xe s

theorem Vals.one : ∀ {x : V} {us : List Value}, Vals [x] us → ∃ u, us = [u] ∧ RelV x u
  | _, _, .cons r .nil => ⟨_, rfl, r⟩
theorem Vals.two : ∀ {x y : V} {us : List Value}, Vals [x, y] us → ∃ u v, us = [u, v] ∧ RelV x u ∧ RelV y v
  | _, _, _, .cons r (.cons q .nil) => ⟨_, _, rfl, r, q⟩
theorem Vals.zero : ∀ {us : List Value}, Vals [] us → us = []
  | _, .nil => rfl
section
variable {X : Cx} {pins : List (Addr × Obj)} {σ : St} {H : Hp} {s : Shared} {l b : Addr} {xs ys zs : List V}

theorem Inv.lset {its its' : List Value} {n : Nat} {f : Array Value → Array Value} {t' : Nat} (I : Inv X pins σ H s) (hH : H l = some (.lst xs))
    (e : s.heap.get? l = some { cls := .type "list", data := .seq its.toArray n }) (hf : f its.toArray = its'.toArray) (hv : Vals ys its') (hz : ys.length ≤ sizeLine) :
    Inv X pins σ (upd H l (.lst ys)) { s with heap := s.heap.update l (Obj.mapSeq f), toks := t' } := by
  have q := PySem.IsL.update e f
  rw [hf] at q
  refine I.write (x := l) (e := l) (by rw [hH]; exact trivial) (.inl rfl) (fun b' u hb hu => (Heap.get?_update_other s.heap (Obj.mapSeq f) (Ne.symm hb)).trans hu) ⟨_, q⟩ ?_
  exact ⟨hz, its', _, hv, q⟩
theorem Inv.lnew {its : List Value} {t' : Nat} (I : Inv X pins σ H s) (hv : Vals ys its) (hz : ys.length ≤ sizeLine) :
    Inv X pins σ (upd H s.heap.objs.size (.lst ys)) { s with heap := s.heap.push { cls := .type "list", data := .seq its.toArray }, toks := t' } :=
  I.laid (fun _ _ q => Heap.get?_push_of_some _ q) (Nat.le_refl _) ⟨hz, its, 0, hv, Heap.get?_push_size _ rfl⟩
theorem Inv.fresh (I : Inv X pins σ H s) : H s.heap.objs.size = none := I.hok.fresh (Nat.le_refl _)
theorem Inv.lstM (I : Inv X pins σ H s) (hH : H l = some (.lst xs)) : xs.length ≤ sizeLine ∧ ∃ (its : List Value) (n : Nat), Vals xs its ∧ xs.length = its.length ∧ s.heap.get? l = some { cls := .type "list", data := .seq its.toArray n } := by
  obtain ⟨z, its, n, r, e⟩ := I.hok l _ hH
  exact ⟨z, its, n, r, r.length, e⟩

end

section
variable {X : Cx}

def rAppend : V → List V → Hp → VK → Prop := fun x vs H Q => ∃ l xs y, x = .ref l ∧ vs = [y] ∧ H l = some (.lst xs) ∧ xs.length < sizeLine ∧ Q .non (upd H l (.lst (xs ++ [y])))
theorem mt_append : MtM X "list.append" rAppend := by
  intro pins s σ H x vs v us Q I rx rv h
  obtain ⟨l, xs, y, rfl, rfl, hH, hz, q⟩ := h
  cases rx
  obtain ⟨u, rfl, ru⟩ := rv.one
  obtain ⟨z, its, n, r, hl, e⟩ := I.lstM hH
  refine call_meets F.slot_list_append ⟨_, e, rfl⟩ F.entry_list_append (F.args_list_append_2 _ _) (PySem.list_append l its.toArray n u (by rw [List.size_toArray]; omega)) ⟨e, ?_⟩
  refine ⟨.non, _, I.lset (its' := its ++ [u]) hH e (by simp) (r.append (.cons ru .nil)) ?_, rfl, q⟩
  rw [List.length_append, List.length_singleton]
  omega

def rCat : R2 := fun x y H Q => ∃ l b xs zs, x = .ref l ∧ y = .ref b ∧ H l = some (.lst xs) ∧ H b = some (.lst zs) ∧ xs.length + zs.length ≤ sizeLine ∧ ∀ p, H p = none → Q (.ref p) (upd H p (.lst (xs ++ zs)))
theorem op_cat : OpR X (binaryOp .Add) rCat := by
  intro pins s σ H x y v u Q I rx ry h
  obtain ⟨l, b, xs, zs, rfl, rfl, hH, hB, hz, q⟩ := h
  cases rx
  cases ry
  obtain ⟨z, its, n, r, hl, e⟩ := I.lstM hH
  obtain ⟨z2, its2, n2, r2, hl2, e2⟩ := I.lstM hB
  refine PySem.P.add_list e e2 ?_ (by rw [List.size_toArray, List.size_toArray]; omega)
  have ea : its.toArray ++ its2.toArray = (its ++ its2).toArray := by simp
  rw [ea]
  exact ⟨.ref _, _, I.lnew (t' := s.toks) (r.append r2) (by rw [List.length_append]; omega), rfl, q _ I.fresh⟩
end

section
variable {prog : Program} {w : World} {A : Around} {E : Value → Shared → Prop} {s : Shared}
end

section
variable {X : Cx}
end
end L2

namespace Att
open PySem PySem.W PySem.Calls PyProof.Rows

theorem ints_of_wellAll {P : Params} {h : Heap} : ∀ (ns : List Int) (vs : List Value), WellAll P h vs (ns.map WData.int) → IntsAre vs ns := by
  intro ns
  induction ns with
  | nil =>
    intro vs w
    rw [List.map_nil] at w
    cases w
    exact .nil
  | cons n ns ih =>
    intro vs w
    rw [List.map_cons] at w
    cases w with
    | cons a b =>
      cases a
      exact .cons _ _ (ih _ b)

theorem script_of {l : OpenLaw} {n : Nat} (hn : l.most = some n) {P : Params} {h : Heap} {args : List WData} {vals : List Value}
    (hpre : l.row.toRowW.claim.pre args = true) (hwl : WellAll P h vals args) :
    ∃ a vs ns, vals = [Value.ref a] ∧ args = [WData.list (ns.map WData.int)] ∧ h.get? a = some { cls := .type "list", data := .seq vs.toArray } ∧ IntsAre vs ns ∧ ns.length ≤ n := by
  have hsh : WShape.hasAll [] args [.list .int] = true := (pre_splitW hpre).1
  have hc : l.pre.holds [] { args := args } = true := (pre_splitW hpre).2
  obtain ⟨d, r, rfl, h1, h2⟩ := hasAllW_cons hsh
  obtain rfl := hasAllW_nil h2
  obtain ⟨xs, rfl, h3⟩ := hasW_list h1
  obtain ⟨ns, rfl⟩ := items_int h3
  have hlen : ns.length ≤ n := by
    unfold OpenLaw.pre at hc
    have h4 : (WTm.not (.lt (.lit (.int (n : Int))) (.len (.arg 0)))).holds [] { args := [.list (ns.map .int)] } = true := by
      have h4 := (holds_andW hc).1
      rw [hn] at h4
      exact h4
    have h5 := condW_of h4 (w_not (w_lt w_lit (w_len_list (w_arg rfl))))
    rw [List.length_map] at h5
    refine Nat.le_of_not_lt fun q => ?_
    have q' : (n : Int) < ((ns.length : Nat) : Int) := by omega
    first
      | (rw [decide_eq_true q'] at h5; exact absurd h5 (by decide))
      | (simp at h5; omega)
  cases hwl with
  | cons w1 w2 =>
    cases w2
    cases w1 with
    | list ho hall => exact ⟨_, _, ns, rfl, rfl, ho, ints_of_wellAll ns _ hall, hlen⟩

theorem post_true (l : OpenLaw) (args : List WData) : l.row.toRowW.claim.post args (.bool true) args = true :=
  postW_of (r := l.row.toRowW) (X := (true == true))
    (show WShape.has [] (.bool true) .bool = true by first | rfl | decide | simp [WShape.has, WShape.arms, WShape.armsAll])
    (show (WTm.eq .res (.lit (.bool true))).value [] { args := args, res := some (.bool true), after := args } = some (.bool (true == true)) from w_eq_bool (w_res rfl) w_lit) rfl

section
variable {prog : Program} {w : World} {A : Around} {E : Value → Shared → Prop} {s : Shared} {K : Frag}

end
end Att

namespace L2
open PySem PySem.Spec PyProof.Rows

theorem vals_ints : ∀ {vs : List Value} {ns : List Int}, IntsAre vs ns → Vals (ns.map V.int) vs
  | _, _, .nil => .nil
  | _, _, .cons n t h => .cons ⟨t, rfl⟩ (vals_ints h)

/-- nothing is tracked but the script, known to the object (or it is an object of the module) -/
def Only (H : Hp) : Prop := ∀ b, H b = none ∨ ∃ o xs, H b = some (.frz o (.lst xs))

/-- THE HEAD: the law's promise, at the heap behind the top. F, the promise of the law's def, may use that base is part of the heap (so K.In base, base.Ns mainGlobals mg stand in Mod) -/
theorem law_call {P : Program} {w : World} {K : PySem.W.Frag} {mg mb : Str → Option Value} {CX : CXT} {k : Nat} {fa a : Addr} {fd : FuncData} {x : Str} {sp : Sp} {s₁ : Shared} {vs : List Value} {ns : List Int}
    (KX : K.In s₁.heap) (hns : s₁.heap.Ns mainGlobals mg) (hb : s₁.heap.Ns builtinsNs mb) (hbb : ∀ x : Str, x ≠ "__name__" → mb x = bootBuiltins x) (hlim : s₁.heap.NoLimit) (hg : s₁.gens = #[])
    (ha : s₁.heap.get? a = some { cls := .type "list", data := .seq vs.toArray }) (hi : IntsAre vs ns) (hl : ns.length ≤ sizeLine) (hr : Room k callerA)
    (F : ∀ base : Heap, K.In base → base.Ns mainGlobals mg → FnOk P w K mg base CX k fa fd [x] sp) (hbind : ∀ (s : Shared) (u : Value), BindsTo s fd ⟨[u], []⟩ [(x, u)])
    (hsp : ∀ H : Hp, Only H → SqL K H a (ns.map V.int) → sp [.ref a] H (fun v _ => v = .bl true) fun _ _ _ => False)
    (hCX : ∀ H e s', CX [] H s₁ (fun _ _ _ => False) e s' → False) :
    codeAny (model P w) callerA (.call (.ref fa) ⟨[.ref a], []⟩) (fun r s' => r = .ok (.ret (.bool true)) ∧ OldK s₁.heap s'.heap ∧ s'.os = s₁.os ∧ AllBare s'.gens) s₁ := by
  have rv := vals_ints hi
  have lenV := hi.length
  -- from an abstract heap in which nothing but the script may be tracked
  have core : ∀ H : Hp, Only H → SqL K H a (ns.map V.int) → HOk P w H s₁.heap → (∀ b, H b ≠ none → b = a) → (H a ≠ none → K.lookup a = none) →
      codeAny (model P w) callerA (.call (.ref fa) ⟨[.ref a], []⟩) (fun r s' => r = .ok (.ret (.bool true)) ∧ OldK s₁.heap s'.heap ∧ s'.os = s₁.os ∧ AllBare s'.gens) s₁ := by
    intro H hO hS hok hA hK
    have base_of : ∀ {b : Addr} {o : Obj}, s₁.heap.get? b = some o → H b = none → (hidT s₁.heap H).get? b = some o := fun e n => hidT_get e n
    have noA : ∀ {b : Addr} {o : Obj} {es : Array DictEntry} {ep : Nat}, s₁.heap.get? b = some o → o.data = .dict es ep → H b = none := fun {b o es ep} e d => by
      cases q : H b with
      | none => rfl
      | some u =>
        have e' : b = a := hA b (by rw [q]; simp)
        subst e'
        rw [ha] at e; cases e
        have d' : Data.seq vs.toArray _ = Data.dict es ep := d
        cases d'
    have nsK : ∀ {b : Addr} {m : Str → Option Value}, s₁.heap.Ns b m → (hidT s₁.heap H).Ns b m := fun {b m} ⟨o, es, ep, e, d, r⟩ => ⟨o, es, ep, base_of e (noA e d), d, r⟩
    have hKb : K.In (hidT s₁.heap H) := fun b o e => base_of (KX b o e) (by
      cases q : H b with
      | none => rfl
      | some u =>
        have e' : b = a := hA b (by rw [q]; simp)
        subst e'
        rw [hK (by rw [q]; simp)] at e; cases e)
    have hM : Mod K mg (hidT s₁.heap H) := ⟨hKb, nsK hns, ⟨mb, nsK hb, hbb⟩, let ⟨mc, h1, h2⟩ := hlim; ⟨mc, nsK h1, h2⟩⟩
    have e0 : Env0 P w K mg (hidT s₁.heap H) callerA [] s₁ H := ⟨rfl, hM, fun b o e => of_hidT e, Nat.le_of_eq (hidT_size _ _), trivial, fun b hb => absurd (show b ∈ ([] : List Addr) from hb) (by simp), hok, .of_eq hg⟩
    refine codeAny_mono ((F _ hKb (nsK hns)).run callerA [] s₁ H ⟨[.ref a], []⟩ [.ref a] [.ref a] _ _ hr e0 (hbind s₁ (.ref a)) (.cons rfl .nil) (hsp H hO hS)) fun r s' h => ?_
    cases r with
    | error e => exact (hCX H e s' h).elim
    | ok fl =>
      cases fl with
      | next => exact False.elim h
      | brk => exact False.elim h
      | cont => exact False.elim h
      | ret u =>
        obtain ⟨v, H', os, bare, un, hok', r', q⟩ := h
        have q' : v = .bl true := q
        subst q'
        obtain rfl : u = Value.bool true := r'
        refine ⟨rfl, OldK.of_keep fun b o e => ?_, os, bare⟩
        cases q : H b with
        | none => exact un.keep b o e q (by intro z; exact absurd (show b ∈ ([] : List Addr) from z) (by simp)) (by simp)
        | some u =>
          rcases hO b with z | ⟨ob, xs, z⟩
          · rw [q] at z; cases z
          · have z2 := un.frzs b ob _ z
            obtain ⟨e1, _⟩ := hok b _ z
            obtain ⟨e2, _⟩ := hok' b _ z2
            rw [e] at e1; cases e1
            exact e2
  cases hk : K.lookup a with
  | some o =>
    -- the script is one of the module's own objects
    have e := KX a o hk
    rw [ha] at e
    cases e
    refine core (fun _ => none) (fun _ => .inl rfl) (.inr ⟨_, vs.toArray, _, hk, rfl, rfl, rfl, by rw [List.size_toArray, lenV]; exact hl, by simpa using rv⟩) (fun b u z => by have z' : (none : Option HO) = some u := z; cases z') (fun b z => absurd rfl z) fun z => absurd rfl z
  | none =>
    refine core (fun b => if b = a then some (.frz { cls := .type "list", data := .seq vs.toArray } (.lst (ns.map V.int))) else none) (fun b => ?_) (.inl (.inr ⟨{ cls := .type "list", data := .seq vs.toArray }, if_pos rfl⟩)) (fun b u z => ?_) (fun b z => ?_) fun _ => hk
    · by_cases hb : b = a
      · exact .inr ⟨_, _, if_pos hb⟩
      · exact .inl (if_neg hb)
    · by_cases hb : b = a
      · have z' := (if_pos hb).symm.trans z
        cases z'
        subst hb
        exact ⟨ha, by rw [List.length_map]; exact hl, vs, _, rv, ha⟩
      · have z' := (if_neg hb).symm.trans z
        cases z'
    · by_cases hb : b = a
      · exact hb
      · exact absurd (if_neg hb) z
end L2

namespace L2
open PySem PySem.Spec PyProof.Rows

end L2

namespace L2
open PySem PySem.Spec PyProof.Rows

def defArgs (s : Stmt) : Arguments := match s with
  | .FunctionDef _ a _ _ _ _ _ _ _ _ => a
  | _ => { posonlyargs := [], args := [], vararg := none, kwonlyargs := [], kw_defaults := [], kwarg := none, defaults := [] }
def defBody (s : Stmt) : List Stmt := match s with
  | .FunctionDef _ _ b _ _ _ _ _ _ _ => b
  | _ => []
def defScope (s : Stmt) : Scope := match s with
  | .FunctionDef _ _ _ _ _ _ sc _ _ _ => sc
  | _ => { kind := .function, names := [], isGenerator := false, isCoroutine := false }

abbrev CX0 : CXT := fun _ _ _ _ _ _ => False
abbrev E0 : XK := fun _ _ _ => False
theorem pass0 {X : Cx} : Passes CX0 X E0 := fun _ _ _ _ _ _ _ h => h.elim

structure Fun (K : PySem.W.Frag) (x qual : Str) (st : Stmt) (f : Addr) (fd : FuncData) : Prop where
  ex : ∃ (oc : Value) (od : Option Addr) (kV doc pm : Value) (an : Option Addr) (cdv ct : Value) (osl : Array (Option Value)),
    fd = PySem.W.fnOf x qual (defArgs st) (defBody st) (defScope st) .none kV doc pm an cdv ct ∧ K.lookup f = some ⟨oc, od, .func fd, osl⟩ ∧ PySem.W.codeIn K cdv qual = true
  kp : PySem.W.keepIn K (.ref f) = true
section
variable {P : Program} {w : World} {K : PySem.W.Frag} {mg : Str → Option Value} {base : Heap}
/-- THE RULE for a def: its body as a term of rules, and the reading of that term -/
theorem Fun.ok {x qual : Str} {st : Stmt} {f : Addr} {fd : FuncData} {N ps : List Str} {k : Nat} {sp : Sp} (F : Fun K x qual st f fd) (S : FnScope N ps (defScope st)) (len : ∀ vs H Q E, sp vs H Q E → vs.length = ps.length)
    (hbody : ∀ (cdv : Value) (A : Around) (outer : List Env) (s : Shared) (H : Hp) (vs : List V) (Q : VK) (E : XK), Room k (A.deeper (envOfC qual (defScope st) s.heap.objs.size f cdv)) → sp vs H Q E →
      ∃ t, PSs (cxOf CX0 P w K mg base N qual (defScope st) f cdv A outer s H E).nox (defBody st) t ∧ t { nx := fun _ H' => Q .non H', rt := Q } (start N vs) H) : FnOk P w K mg base CX0 (k + 1) f fd ps sp := by
  obtain ⟨oc, od, kV, doc, pm, an, cdv, ct, osl, rfl, lk, hcd⟩ := F.ex
  refine fn_of lk hcd S len fun A outer s H vs Q E hr hsp => ?_
  obtain ⟨t, h, q⟩ := hbody cdv A outer s H vs Q E hr hsp
  exact ⟨t, h.nox, q⟩
/-- how its arguments bind (no defaults): h is «fun _ _ _ _ _ _ us hl => match us, hl with | [_, _], _ => rfl», one _ a parameter -/
theorem Fun.binds {x qual : Str} {st : Stmt} {f : Addr} {fd : FuncData} {ps : List Str} (F : Fun K x qual st f fd)
    (h : ∀ (kV doc pm : Value) (an : Option Addr) (cdv ct : Value) (us : List Value), us.length = ps.length → bindArgs (PySem.W.fnOf x qual (defArgs st) (defBody st) (defScope st) .none kV doc pm an cdv ct) ⟨us, []⟩ = pure (ps.zip us)) : Binds K fd ps [] := by
  obtain ⟨oc, od, kV, doc, pm, an, cdv, ct, osl, rfl, lk, hcd⟩ := F.ex
  exact .all (h kV doc pm an cdv ct)
theorem fun_mk {x qual : Str} {st : Stmt} {f : Addr} {oc : Value} {od an : Option Addr} {osl : Array (Option Value)} {kV doc pm cdv ct : Value} (l : K.lookup f = some ⟨oc, od, .func (PySem.W.fnOf x qual (defArgs st) (defBody st) (defScope st) .none kV doc pm an cdv ct), osl⟩)
    (c : PySem.W.codeIn K cdv qual = true) (k : PySem.W.keepIn K (.ref f) = true) : Fun K x qual st f (PySem.W.fnOf x qual (defArgs st) (defBody st) (defScope st) .none kV doc pm an cdv ct) := ⟨⟨oc, od, kV, doc, pm, an, cdv, ct, osl, rfl, l, c⟩, k⟩
end
theorem small1000 {n : Nat} (h : n ≤ 1000) : n < sizeLine := Nat.lt_of_le_of_lt h (by decide)

section
variable {X : Cx}
theorem pv (i : Nat) {x : Str} {pos : Pos} (hN : X.N[i]? = some x := by rfl) (hv : Vis X.env.scope x := by first | exact Or.inl rfl | exact Or.inr (Or.inl rfl) | exact Or.inr (Or.inr rfl)) (hd : (x == ("__debug__" : Str)) = false := by decide)
    (hcd : (x == ("__classdict__" : Str)) = false := by decide) : PE X (.Name x pos) (tVar i) := pe_var hN hv hd hcd
end

theorem iteT {A B : Prop} (h : A) : if true = true then A else B := by
  rw [if_pos rfl]
  exact h
theorem ite2 {c A B : Prop} [Decidable c] (h1 : c → A) (h2 : ¬ c → B) : if c then A else B := by
  by_cases h : c
  · rw [if_pos h]
    exact h1 h
  · rw [if_neg h]
    exact h2 h
/-- all that was tracked is as it was -/
def Same (H H' : Hp) : Prop := ∀ b o, H b = some o → H' b = some o
theorem Same.refl (H : Hp) : Same H H := fun _ _ h => h
theorem Same.trans {H H1 H2 : Hp} (a : Same H H1) (b : Same H1 H2) : Same H H2 := fun c o h => b c o (a c o h)
theorem Same.free {H H' : Hp} (e : Same H H') {l : Addr} (h : H' l = Option.none) : H l = Option.none := by
  cases q : H l with
  | none => rfl
  | some o =>
    rw [e l o q] at h
    cases h
theorem Same.seq {K : PySem.W.Frag} {H H' : Hp} {a : Addr} {xs : List V} (e : Same H H') (h : SqL K H a xs) : SqL K H' a xs := by
  rcases h with (h | ⟨o, h⟩) | h
  · exact .inl (.inl (e _ _ h))
  · exact .inl (.inr ⟨o, e _ _ h⟩)
  · exact .inr h

end L2


end
section
set_option Elab.async false
set_option linter.all false
set_option maxRecDepth 100000
set_option maxHeartbeats 4000000
namespace L2
open PySem PySem.Spec PyProof.Rows

theorem relabel_lookup (env : Env) : ∀ (l : List (Str × NameKind)) (x : Str),
    (l.map fun (n, k) => if (k == NameKind.free && env.scope.kind == .function && env.kindOf n == some .cell) then (n, NameKind.cell) else (n, k)).lookup x
      = (l.lookup x).map fun k => if (k == NameKind.free && env.scope.kind == .function && env.kindOf x == some .cell) then NameKind.cell else k
  | [], _ => rfl
  | (n, k) :: r, x => by
    have ih := relabel_lookup env r x
    show List.lookup x ((if (k == NameKind.free && env.scope.kind == .function && env.kindOf n == some .cell) = true then (n, NameKind.cell) else (n, k)) :: _) = _
    cases hx : x == n with
    | true =>
      have e : x = n := by simpa using hx
      subst e
      by_cases hc : (k == NameKind.free && env.scope.kind == .function && env.kindOf x == some .cell) = true
      · rw [if_pos hc]; simp only [List.lookup_cons, hx, Option.map_some, hc, if_true]
      · rw [if_neg hc]; simp only [List.lookup_cons, hx, Option.map_some, if_neg hc]
    | false =>
      by_cases hc : (k == NameKind.free && env.scope.kind == .function && env.kindOf n == some .cell) = true
      · rw [if_pos hc]; simp only [List.lookup_cons, hx]; exact ih
      · rw [if_neg hc]; simp only [List.lookup_cons, hx]; exact ih

theorem closure_go {env : Env} : ∀ (l : List (Str × NameKind)) (acc : List (Str × Addr)), (∀ y ∈ l, y.2 = .free → ∃ c, env.cells.lookup y.1 = some c) → (∀ y c, acc.lookup y = some c → env.cells.lookup y = some c) →
    ∃ cl, (forIn l acc fun x (cs : List (Str × Addr)) => (if (x.2 == NameKind.free) = true then (do let a ← cellOf env x.1; pure (ForInStep.yield ((x.1, a) :: cs))) else pure (ForInStep.yield cs) : Sem (ForInStep (List (Str × Addr))))) = pure cl ∧ (∀ y c, cl.lookup y = some c → env.cells.lookup y = some c) ∧ (∀ y c, acc.lookup y = some c → ∃ c', cl.lookup y = some c') ∧
      ∀ y ∈ l, y.2 = .free → ∃ c, cl.lookup y.1 = some c
  | [], acc, _, h2 => ⟨acc, rfl, h2, fun _ c h => ⟨c, h⟩, fun _ h => nomatch h⟩
  | (n, k) :: r, acc, h1, h2 => by
    by_cases hk : k = .free
    · subst hk
      obtain ⟨c, hc⟩ := h1 (n, .free) List.mem_cons_self rfl
      have h2' : ∀ y c', ((n, c) :: acc).lookup y = some c' → env.cells.lookup y = some c' := fun y c' h => by
        rw [List.lookup_cons] at h
        cases hy : y == n with
        | true => rw [hy] at h; have e : y = n := by simpa using hy
                  subst e; cases h; exact hc
        | false => rw [hy] at h; exact h2 y c' h
      obtain ⟨cl, e, q1, q2, q3⟩ := closure_go r ((n, c) :: acc) (fun y hy => h1 y (List.mem_cons_of_mem _ hy)) h2'
      refine ⟨cl, ?_, q1, fun y c' h => ?_, fun y hy hf => ?_⟩
      · rw [List.forIn_cons]
        simp only [beq_self_eq_true, if_true]
        unfold cellOf
        rw [hc]
        exact e
      · cases hy : y == n with
        | true => exact q2 y c (by rw [List.lookup_cons, hy])
        | false => exact q2 y c' (by rw [List.lookup_cons, hy]; exact h)
      · rcases List.mem_cons.mp hy with e' | hy
        · subst e'
          exact q2 n c (by simp [List.lookup_cons])
        · exact q3 y hy hf
    · have hb : (k == NameKind.free) = false := by simpa using hk
      obtain ⟨cl, e, q1, q2, q3⟩ := closure_go r acc (fun y hy => h1 y (List.mem_cons_of_mem _ hy)) h2
      refine ⟨cl, ?_, q1, q2, fun y hy hf => ?_⟩
      · rw [List.forIn_cons]
        simp only [hb, Bool.false_eq_true, if_false]
        exact e
      · rcases List.mem_cons.mp hy with e' | hy
        · subst e'; exact absurd hf hk
        · exact q3 y hy hf

theorem closure_ok (env : Env) (sc : Scope) (h : ∀ y ∈ sc.names, y.2 = .free → ∃ c, env.cells.lookup y.1 = some c) :
    ∃ cl, closureFor sc env = pure cl ∧ (∀ y c, cl.lookup y = some c → env.cells.lookup y = some c) ∧ ∀ y ∈ sc.names, y.2 = .free → ∃ c, cl.lookup y.1 = some c := by
  obtain ⟨cl, e, q1, _, q3⟩ := closure_go (env := env) sc.names [] h (fun y c z => by simp at z)
  refine ⟨cl, ?_, q1, q3⟩
  unfold closureFor
  rw [← e]
  simp only [bind_pure]

/-- the block of a comprehension over the slots M of the def, its own name x ahead of them -/
def blk (X : Cx) (sc : Scope) (x : Str) (M : List Str) (cl : List (Str × Addr)) (C : Addr) (s : Shared) (H : Hp) (fp : List Addr) : Cx :=
  { X with N := x :: M, s₀ := s, H₀ := H, env := compEnvC sc cl C X.env, outer := X.stack, ex := fp, fn := fun _ => false, pn := [], xe := fun _ _ => False }

/-- what the text says of the block: its names, as decide sees them -/
structure BlkOk (X : Cx) (sc : Scope) (x : Str) (M : List Str) : Prop where
  kind : sc.kind = .function
  nocell : ∀ y ∈ sc.names, y.2 ≠ .cell
  names : ∀ y ∈ sc.names, y.2 = .local → sc.names.lookup y.1 = some .local
  own : sc.names.lookup x = some .local
  nd : (x :: M).Nodup
  len : M.length = X.N.length
  free : ∀ y ∈ sc.names, y.2 = .free → X.env.kindOf y.1 = some .cell ∨ X.env.kindOf y.1 = some .free
  same : ∀ (i : Nat) (y : Str), M[i]? = some y → sc.names.lookup y = some .free → X.N[i]? = some y
  noloc : ∀ y ∈ M, sc.names.lookup y ≠ some .local

section
variable {X : Cx}
theorem Inv.toBlk {pins : List (Addr × Obj)} {σ : St} {H : Hp} {s : Shared} {sc : Scope} {x : Str} {M : List Str} {cl : List (Str × Addr)} {fp : List Addr} {h₁ : Heap} {tk : Nat}
    (I : Inv X pins σ H s) (B : BlkOk X sc x M) (q1 : ∀ y c, cl.lookup y = some c → X.env.cells.lookup y = some c) (q3 : ∀ y ∈ sc.names, y.2 = .free → ∃ c, cl.lookup y.1 = some c)
    (fpk : ∀ b ∈ fp, FpOk X pins H b) (fpl : ∀ b ∈ fp, b < s.heap.objs.size) {m : Str → Option Value} (hn : h₁.Ns s.heap.objs.size m) (keep : ∀ b o, s.heap.get? b = some o → h₁.get? b = some o) :
    Inv (blk X sc x M cl s.heap.objs.size s H fp) [] (none :: σ) H { s with heap := h₁, toks := tk } := by
  have kindOf' : ∀ y, (blk X sc x M cl s.heap.objs.size s H fp).env.kindOf y = (sc.names.lookup y).map fun k => if (k == NameKind.free && X.env.scope.kind == .function && X.env.kindOf y == some .cell) then NameKind.cell else k := fun y => relabel_lookup X.env sc.names y
  have isfree : ∀ y, ((blk X sc x M cl s.heap.objs.size s H fp).env.kindOf y = some .cell ∨ (blk X sc x M cl s.heap.objs.size s H fp).env.kindOf y = some .free) → sc.names.lookup y = some .free := fun y hy => by
    rw [kindOf'] at hy
    cases e : sc.names.lookup y with
    | none => rw [e] at hy; simp at hy
    | some k =>
      rw [e] at hy
      by_cases hk : k = .free
      · rw [hk]
      · exfalso
        have hb : (k == NameKind.free) = false := by simpa using hk
        simp only [hb, Bool.false_and, Option.map_some, Bool.false_eq_true, if_false, Option.some.injEq] at hy
        rcases hy with z | z
        · exact B.nocell (y, k) (PySem.mem_of_lookup e) z
        · exact hk z
  have ncell : ∀ y c, X.env.cells.lookup y = some c → c < s.heap.objs.size := fun y c e => by
    obtain ⟨v, o, ho, _⟩ := I.cell y c e
    exact Heap.lt_size ho
  have below : ∀ b ∈ fp, FpOk X pins H b := fpk
  refine ⟨⟨I.ok.mod, B.kind, I.ok.glob, I.ok.blt, Nat.le_refl _, fun y z c h1 h2 => I.ok.inj y z c (q1 y c h1) (q1 z c h2), fun y hy => q3 _ (PySem.mem_of_lookup (isfree y hy)) rfl, fun y c h _ => absurd (show false = true from h) Bool.false_ne_true, I.ok.hd, I.ok.frames, .inl rfl,
    fun b hb => ?_, I.bs, Nat.le_trans I.ok.bsz I.sz, fun b o e hb => ?_, fun b hb z => ?_, I.stack, I.stkFree⟩, rfl, I.bare, Un.kept keep, ⟨_, hn, fun i y v e1 e2 e3 => ?_⟩, fun y c h => ?_, I.hok.fresh (Nat.le_refl _), fun y c h => I.freeC y c (q1 y c h), fun p hp => absurd (show p ∈ ([] : List (Addr × Obj)) from hp) (by simp), I.hok.kept keep, ?_⟩
  · exact ⟨Nat.ne_of_lt (fpl b hb), fun y c h => (fpk b hb).2.2.2.2.1 y c (q1 y c h)⟩
  · rcases (fpk b hb).2.2.2.1 with z | z
    · exact I.ok.noex b o e z
    · exact absurd (Nat.lt_of_lt_of_le (Heap.lt_size e) (Nat.le_trans I.ok.bsz z)) (Nat.lt_irrefl _)
  · rcases List.mem_cons.mp (I.stkSub b z) with e | z
    · exact (fpk b hb).2.1 e
    · exact (fpk b hb).2.2.1 z
  · cases i with
    | zero => simp at e2
    | succ i =>
      have e1' : M[i]? = some y := e1
      have e2' : σ[i]? = some (some v) := e2
      have hy : sc.names.lookup y = some .free := by
        rcases e3 with z | z | z
        · exfalso
          have z' : (blk X sc x M cl s.heap.objs.size s H fp).env.kindOf y = some .local := z
          rw [kindOf'] at z'
          cases e : sc.names.lookup y with
          | none => rw [e] at z'; simp at z'
          | some k =>
            rw [e] at z'
            simp only [Option.map_some, Option.some.injEq] at z'
            split at z'
            · cases z'
            · subst z'
              exact B.noloc y (List.mem_of_getElem? e1') e
        · exact isfree y (.inl z)
        · exact isfree y (.inr z)
      have hk := B.free _ (PySem.mem_of_lookup hy) rfl
      obtain ⟨m0, hn0, hl⟩ := I.loc
      obtain ⟨u, r, l⟩ := hl i y v (B.same i y e1' hy) e2' (hk.elim (fun z => .inr (.inl z)) fun z => .inr (.inr z))
      refine ⟨u, r, .inr ⟨?_, ?_⟩⟩
      · rcases e3 with z | z | z
        · exfalso
          have z' : (blk X sc x M cl s.heap.objs.size s H fp).env.kindOf y = some .local := z
          rw [kindOf', hy] at z'
          simp only [Option.map_some, Option.some.injEq] at z'
          split at z' <;> cases z'
        · exact .inl z
        · exact .inr z
      · rcases l with ⟨k, _⟩ | ⟨_, c, e, hc⟩
        · rcases hk with z | z <;> (have z' : X.env.kindOf y = _ := z; rw [k] at z'; cases z')
        · obtain ⟨c', e'⟩ := q3 _ (PySem.mem_of_lookup hy) rfl
          have e'' := q1 y c' e'
          rw [e] at e''; cases e''
          obtain ⟨o, ho, hd⟩ := hc
          exact ⟨c, e', o, keep c o ho, hd⟩
  · obtain ⟨v, o, ho, hd⟩ := I.cell y c (q1 y c h)
    exact ⟨v, o, keep c o ho, hd⟩
  · show (none :: σ).length = (x :: M).length
    rw [List.length_cons, List.length_cons, I.len, B.len]
end

def PIfs (X : Cx) (ifs : List Expr) (t : TT) : Prop :=
  ∀ (pins : List (Addr × Obj)) (s : Shared) (σ : St) (H : Hp) (Q : Bool → Hp → Prop), Inv X pins σ H s → t σ H Q →
    wpAny (model X.prog X.w) X.A (forIn ifs true fun c r => if r = true then do let ok ← isTrue c X.env (eval c X.env); pure (ForInStep.yield ok) else pure (ForInStep.yield r)) (TP X pins σ Q) X.xe s
def tYes : TT := fun _ H Q => Q true H
theorem pif_nil {X : Cx} : PIfs X [] tYes := fun _ _ _ H _ I h => wpAny_tests_nil ⟨H, I, h⟩
section
variable {prog : Program} {w : World} {A : Around} {E : Value → Shared → Prop} {R : Result → Shared → Prop} {s : Shared}
theorem compLoop_go {elt target iter : Expr} {ifs : List Expr} {scope : Scope} {pos : Pos} {it acc : Value} {env : Env} (I : Nat → Shared → Prop)
    (turn : ∀ n s, I n s → wpAny (model prog w) A (pyNext it) (fun r s₁ => match r with
      | none => R (.ok .next) s₁
      | some v => wpAny (model prog w) A (letOwnedTupleGo target it v) (fun _ s₁ => wpAny (model prog w) A (assign target env v) (fun _ s₂ =>
          wpAny (model prog w) A (forIn ifs true fun c r => if r = true then do let ok ← isTrue c env (eval c env); pure (ForInStep.yield ok) else pure (ForInStep.yield r)) (fun ok s₃ =>
            if ok = true then wpAny (model prog w) A (eval elt env) (fun x s₄ =>
              wpAny (model prog w) A (call (.builtin "list.append") [acc, x]) (fun _ s₅ => ∃ m, m < n ∧ I m s₅) (fun _ _ => False) s₄) (fun _ _ => False) s₃
            else ∃ m, m < n ∧ I m s₃) (fun _ _ => False) s₂) (fun _ _ => False) s₁) (fun _ _ => False) s₁) (fun _ _ => False) s)
    (n : Nat) (h : I n s) :
    codeAny (model prog w) A (.compLoop (.ListComp elt [⟨target, iter, ifs, 0⟩] scope pos) 0 it acc env) R s := by
  refine codeAny_loop rfl I (fun n s hI => ?_) n h
  show wpAny _ A ((compTurn (.ListComp elt [⟨target, iter, ifs, 0⟩] scope pos) 0 it acc env).onRaise (fun x => do noteFrame x env; theTreesLotGoes x)) _ _ s
  refine wpAny_noted ?_
  rw [compTurn_list]
  refine wpAny_bind (wpAny_standAt (wpAny_bind (wpAny_mono (turn n s hI) (fun r s₁ h₁ => ?_) fun _ _ h' => h'.elim)))
  cases r with
  | none => exact wpAny_pure h₁
  | some v =>
    refine wpAny_bind (wpAny_mono h₁ (fun _ s₁ h₁ => ?_) fun _ _ h' => h'.elim)
    refine wpAny_bind (wpAny_mono h₁ (fun _ s₂ h₂ => wpAny_bind (wpAny_mono h₂ (fun ok s₃ h₃ => ?_) fun _ _ h' => h'.elim)) fun _ _ h' => h'.elim)
    cases ok with
    | false => exact wpAny_pure ⟨rfl, h₃⟩
    | true =>
      exact wpAny_bind (wpAny_bind (wpAny_mono h₃ (fun x s₄ h₄ => wpAny_bind (wpAny_mono h₄ (fun _ s₅ h₅ => wpAny_pure (wpAny_pure ⟨rfl, h₅⟩)) fun _ _ h' => h'.elim)) fun _ _ h' => h'.elim))
end

def tLc (wi : TI) (tt : TT) (te : TE) : TE := fun σ H Q => wi σ H fun J H1 => ∀ D, H1 D = none → ∃ W : Nat → Nat → List V → Hp → Prop, (∃ m, W 0 m [] (upd H1 D (.lst []))) ∧ ∀ i m ys H, W i m ys H →
  H D = some (.lst ys) ∧ ((J.stop i H ∧ Q (.ref D) H) ∨ (J.go i H ∧ ys.length < sizeLine ∧ ∀ x H', J.yld i H x H' → tt (some x :: σ) H' fun b H2 => if b = true then te (some x :: σ) H2 fun v H3 =>
    H3 D = some (.lst ys) ∧ ∃ m', m' < m ∧ W (i + 1) m' (ys ++ [v]) (upd H3 D (.lst (ys ++ [v]))) else ∃ m', m' < m ∧ W (i + 1) m' ys H2))

section
variable {X : Cx}
theorem lcomp_core {sc : Scope} {x : Str} {px pos : Pos} {iter elt : Expr} {ifs : List Expr} {M : List Str} {wi : TI} {tt : TT} {te : TE} {cl : List (Str × Addr)} {RR : Value → Addr → Result → Shared → Prop} {pins : List (Addr × Obj)} {s : Shared} {σ : St} {H : Hp} {Q : VK}
    (hc : X.calm = true) (B : BlkOk X sc x M) (hi : PI X (.Name x px) iter wi) (ht : ∀ C s H fp, PIfs (blk X sc x M cl C s H fp) ifs tt) (he : ∀ C s H fp, PE (blk X sc x M cl C s H fp) elt te)
    (q1 : ∀ y c, cl.lookup y = some c → X.env.cells.lookup y = some c) (q3 : ∀ y ∈ sc.names, y.2 = .free → ∃ c, cl.lookup y.1 = some c)
    (I : Inv X pins σ H s) (h : tLc wi tt te σ H Q)
    (hRR : ∀ (D C : Addr) (s' : Shared) (m : Str → Option Value) (H' : Hp), Inv X pins σ H' s' → s'.heap.Ns C m → FpOk X pins H' C → Q (.ref D) H' → RR (.ref D) C (.ok .next) s') :
    wpAny (model X.prog X.w) X.A (eval iter X.env) (fun xv s₁ => wpAny (model X.prog X.w) X.A (pyIter xv) (fun it s₂ => wpAny (model X.prog X.w) X.A (newList []) (fun acc s₃ =>
      wpAny (model X.prog X.w) X.A (newFunctionEnv sc X.env.globals cl [] X.env.qual none .none (some X.env)) (fun cenv s₄ =>
        codeAny (model X.prog X.w) X.A (.compStart (.ListComp elt [⟨.Name x px, iter, ifs, 0⟩] sc pos) 0 it acc { cenv with scope := relabel sc X.env }) (RR acc cenv.locals) s₄) X.xe s₃) X.xe s₂) X.xe s₁) X.xe s := by
  refine thn (hi pins s σ H _ I h) fun v s1 h1 => thn h1 fun itv s2 h2 => ?_
  obtain ⟨it, fp, tn, J, H2, rfl, I2, T, st2, f2, q2⟩ := h2
  refine wpAny_newObj_type (wpAny_newFunctionEnv B.nocell (by intro y hy; simp at hy) (fun h₁ hns₁ hsb₁ => ?_) B.kind)
  dsimp only at hns₁ hsb₁ ⊢
  obtain ⟨W, ⟨m0, w0⟩, turn⟩ := q2 s2.heap.objs.size I2.fresh
  have I3 : Inv X pins σ (upd H2 s2.heap.objs.size (.lst [])) { s2 with heap := s2.heap.push { cls := .type "list", data := .seq ([] : List Value).toArray }, toks := s2.toks } := I2.lnew .nil (Nat.zero_le _)
  generalize hs3 : ({ s2 with heap := s2.heap.push { cls := .type "list", data := .seq ([] : List Value).toArray }, toks := s2.toks } : Shared) = s3 at I3
  have eh : s2.heap.push { cls := .type "list", dict := none, data := .seq ([] : List Value).toArray } = s3.heap := by rw [← hs3]
  have fpl : ∀ b ∈ fp, b < s2.heap.objs.size := fun b hb => by
    obtain ⟨o, e, _⟩ := T.obj _ _ st2 b hb
    exact Heap.lt_size e
  have sz : s3.heap.objs.size = s2.heap.objs.size + 1 := by rw [← eh, Heap.size_push]
  have fpl3 : ∀ b ∈ fp, b < s3.heap.objs.size := fun b hb => by rw [sz]; exact Nat.lt_succ_of_lt (fpl b hb)
  have fp3 : ∀ b ∈ fp, FpOk X pins (upd H2 s2.heap.objs.size (.lst [])) b := fun b hb => ⟨by rw [upd_ne (Nat.ne_of_lt (fpl b hb))]; exact (f2 b hb).1, (f2 b hb).2⟩
  rw [eh] at hns₁ hsb₁ ⊢
  have keep : ∀ b o, s3.heap.get? b = some o → h₁.get? b = some o := fun b o e => hsb₁.extBut b o (Nat.ne_of_lt (Heap.lt_size e)) (Heap.get?_push_of_some _ e)
  have IB := I3.toBlk (tk := s2.toks + ([] : List (Str × Value)).length) B q1 q3 fp3 fpl3 hns₁ keep
  have st4 : tn 0 h₁ := T.keep _ _ _ st2 fun b hb o e => keep b o (by rw [← eh]; exact Heap.get?_push_of_some _ e)
  have es : ({ s3 with heap := h₁, toks := s2.toks + ([] : List (Str × Value)).length } : Shared) = { s2 with heap := h₁, toks := s2.toks + ([] : List (Str × Value)).length } := by rw [← hs3]
  rw [es] at IB
  have hx' : (blk X sc x M cl s3.heap.objs.size s3 (upd H2 s2.heap.objs.size (.lst [])) fp).env.scope.names.lookup x = some .local := lookup_relabel_local B.own
  have hg : PG (blk X sc x M cl s3.heap.objs.size s3 (upd H2 s2.heap.objs.size (.lst [])) fp) (.Name x px) (gName 0) := pg_name B.nd rfl (.inl hx') (.inr hx')
  have he' := he s3.heap.objs.size s3 (upd H2 s2.heap.objs.size (.lst [])) fp
  have ht' := ht s3.heap.objs.size s3 (upd H2 s2.heap.objs.size (.lst [])) fp
  have loop : ∀ s₄ : Shared, s₄ = { s2 with heap := h₁, toks := s2.toks + ([] : List (Str × Value)).length } →
      codeAny (model X.prog X.w) X.A (.compLoop (.ListComp elt [⟨.Name x px, iter, ifs, 0⟩] sc pos) 0 (.ref it) (.ref s2.heap.objs.size) (compEnvC sc cl s3.heap.objs.size X.env)) (RR (.ref s2.heap.objs.size) s3.heap.objs.size) s₄ := by
    rintro s₄ rfl
    refine compLoop_go (fun n s' => ∃ i ys o H', Inv (blk X sc x M cl s3.heap.objs.size s3 (upd H2 s2.heap.objs.size (.lst [])) fp) [] (o :: σ) H' s' ∧ tn i s'.heap ∧ (∀ b ∈ fp, H' b = none) ∧ W i n ys H') ?_ m0
      ⟨0, [], none, _, IB, st4, fun b hb => (fp3 b hb).1, w0⟩
    rintro n s' ⟨i, ys, o, H', I', st', fr', w'⟩
    have fpB : ∀ {H' : Hp} {pl : List (Addr × Obj)}, (∀ b ∈ fp, H' b = none) → ∀ b ∈ fp, FpOk (blk X sc x M cl s3.heap.objs.size s3 (upd H2 s2.heap.objs.size (.lst [])) fp) [] H' b := fun {H' pl} hn b hb =>
      ⟨hn b hb, Nat.ne_of_lt (fpl3 b hb), fun z => I'.ok.exfs b hb z, .inl hb, fun y c hy => (fp3 b hb).2.2.2.2.1 y c (q1 y c hy), fun p hp => absurd (show p ∈ ([] : List (Addr × Obj)) from hp) (by simp)⟩
    obtain ⟨hD, ⟨stop, q⟩ | ⟨go, hlen, step⟩⟩ := turn i n ys H' w'
    · refine wpAny_mono (T.done (blk X sc x M cl s3.heap.objs.size s3 (upd H2 s2.heap.objs.size (.lst [])) fp) rfl rfl rfl hc i [] s' (o :: σ) H' (fun _ _ => False) I' (fpB (pl := []) fr') st' stop) (fun r s4 ⟨hr, I4⟩ => ?_) fun _ _ f => f.elim
      subst hr
      obtain ⟨m, hn, _⟩ := I4.loc
      refine hRR _ _ s4 m H' (I3.call' (ch := fp) I4.os I4.base I4.hok I4.bare fun b hb => ⟨(fp3 b hb).2.2.2.1, (fp3 b hb).2.1, (fp3 b hb).2.2.2.2.1, (fp3 b hb).2.2.2.2.2⟩) hn (I3.fpOk (Nat.le_refl _) I4.free) q
    · refine wpAny_mono (T.item (blk X sc x M cl s3.heap.objs.size s3 (upd H2 s2.heap.objs.size (.lst [])) fp) rfl rfl rfl hc i [] s' (o :: σ) H' (fun _ _ => False) I' (fpB (pl := []) fr') st' go) (fun r s4 ⟨u, hr, h4⟩ => ?_) fun _ _ f => f.elim
      subst hr
      refine wpAny_mono h4 (fun _ s5 ⟨y, H5, I5, r5, y5, st5, fr5⟩ => ?_) fun _ _ f => f.elim
      have I5' := I5.pinned (fpB (pl := []) fr5) (T.obj _ _ st5)
      refine wpAny_mono (hg _ s5 (o :: σ) H5 y u (fun σ' H' => σ' = some y :: σ ∧ H' = H5) I5' r5 ⟨rfl, rfl⟩) (fun _ s6 ⟨σ6, H6, I6, e6, e6'⟩ => ?_) fun _ _ f => f.elim
      subst e6 e6'
      have again : ∀ {H7 : Hp} {s7 : Shared} {zs : List V} {m' : Nat}, Inv (blk X sc x M cl s3.heap.objs.size s3 (upd H2 s2.heap.objs.size (.lst [])) fp) ([] ++ pinsAt fp s5.heap) (some y :: σ) H7 s7 → m' < n → W (i + 1) m' zs H7 →
          ∃ m, m < n ∧ ∃ i ys o H', Inv (blk X sc x M cl s3.heap.objs.size s3 (upd H2 s2.heap.objs.size (.lst [])) fp) [] (o :: σ) H' s7 ∧ tn i s7.heap ∧ (∀ b ∈ fp, H' b = none) ∧ W i m ys H' := fun {H7 s7 zs m'} I7 hm w7 => by
        refine ⟨m', hm, i + 1, zs, some y, H7, I7.unpinned, T.keep _ _ _ st5 fun b hb o e => (I7.pin (b, o) (List.mem_append_right _ (List.mem_append_right _ (mem_pinsAt hb e)))).1, fun b hb => ?_, w7⟩
        obtain ⟨o, e, d⟩ := T.obj _ _ st5 b hb
        exact (I7.pin (b, o) (List.mem_append_right _ (List.mem_append_right _ (mem_pinsAt hb e)))).2.1
      refine wpAny_mono (ht' _ s6 (some y :: σ) H6 _ I6 (step y H6 y5)) (fun b s7 ⟨H7, I7, q7⟩ => ?_) fun _ _ f => f.elim
      cases b with
      | false =>
        rw [if_neg Bool.false_ne_true] at q7 ⊢
        obtain ⟨m', hm, w7⟩ := q7
        exact again I7 hm w7
      | true =>
        rw [if_pos rfl] at q7 ⊢
        refine wpAny_mono (he' _ s7 (some y :: σ) H7 _ I7 q7) (fun u8 s8 ⟨v8, H8, I8, r8, hD8, m', hm, w8⟩ => ?_) fun _ _ f => f.elim
        refine wpAny_mono (mt_append (X := blk X sc x M cl s3.heap.objs.size s3 (upd H2 s2.heap.objs.size (.lst [])) fp) _ s8 (some y :: σ) H8 (.ref s2.heap.objs.size) [v8] (.ref s2.heap.objs.size) [u8] (fun _ H9 => H9 = upd H8 s2.heap.objs.size (.lst (ys ++ [v8]))) I8 rfl (.cons r8 .nil) ⟨_, ys, v8, rfl, rfl, hD8, hlen, rfl⟩) (fun _ s9 ⟨_, H9, I9, _, e9⟩ => ?_) fun _ _ f => f.elim
        subst e9
        exact again I9 hm w8
  exact codeAny_compStart_list (loop _ rfl) (T.self X.A 0 _ _ _ st4 (loop _ rfl))

theorem pe_lcomp {sc : Scope} {x : Str} {px pos : Pos} {iter elt : Expr} {ifs : List Expr} (M : List Str) {wi : TI} {tt : TT} {te : TE} (hc : X.calm = true) (B : BlkOk X sc x M) (hi : PI X (.Name x px) iter wi)
    (ht : ∀ cl C s H fp, PIfs (blk X sc x M cl C s H fp) ifs tt) (he : ∀ cl C s H fp, PE (blk X sc x M cl C s H fp) elt te) (hs : ∀ x, foldedSetIterable iter X.env x = pure x := by intro _; rfl) :
    PE X (.ListComp elt [⟨.Name x px, iter, ifs, 0⟩] sc pos) (tLc wi tt te) := by
  intro pins s σ H Q I h
  obtain ⟨cl, hcl, q1, q3⟩ := closure_ok X.env sc (fun y hy hf => I.ok.has y.1 (B.free y hy hf))
  rw [eval_ListComp]
  refine wpAny_comprehension_free (use := none) rfl hs hcl B.kind B.names (lcomp_core (RR := fun acc C => compPost (model X.prog X.w) X.A X.xe none (EP X pins σ Q) acc C) hc B hi (ht cl) (he cl) q1 q3 I h ?_)
  intro D C s' m H' I' hn fpC q
  exact ⟨m, hn, fun h' sb => ⟨.ref D, H', I'.turned (t' := s'.toks) (fun b o hb e => sb.extBut b o hb e) fpC.1 fpC.2.1 fpC.2.2.2.1 fpC.2.2.2.2.1 fpC.2.2.2.2.2, rfl, q⟩⟩

/-- y = [.. for x in ..] on one row, y a plain local -/
def tSetLc (j : Nat) (wi : TI) (tt : TT) (te : TE) : TS := fun D σ H => tLc wi tt te σ H fun v H' => D.nx (σ.set j (some v)) H'
theorem ps_lcomp {sc : Scope} {x y : Str} {px py pos spos : Pos} {iter elt : Expr} {ifs : List Expr} {j : Nat} (M : List Str) {wi : TI} {tt : TT} {te : TE} (hc : X.calm = true) (hN : X.N.Nodup) (hj : X.N[j]? = some y) (hy : X.env.scope.names.lookup y = some .local)
    (B : BlkOk X sc x M) (hi : PI X (.Name x px) iter wi)
    (ht : ∀ cl C s H fp, PIfs (blk X sc x M cl C s H fp) ifs tt) (he : ∀ cl C s H fp, PE (blk X sc x M cl C s H fp) elt te)
    (hsw : swapsWith (.ListComp elt [⟨.Name x px, iter, ifs, 0⟩] sc pos) (some (.Name y py)) spos.line X.env = pure true := by rfl) (hs : ∀ x, foldedSetIterable iter X.env x = pure x := by intro _; rfl) :
    PS X (.Assign [.Name y py] (.ListComp elt [⟨.Name x px, iter, ifs, 0⟩] sc pos) spos) (tSetLc j wi tt te) := by
  intro pins s σ H D I h
  obtain ⟨cl, hcl, q1, q3⟩ := closure_ok X.env sc (fun y hy hf => I.ok.has y.1 (B.free y hy hf))
  rw [exec_Assign_Name_used _ _ _ _ hsw]
  refine wpAny_bind (wpAny_standAt (wpAny_bind ?_))
  show wpAny _ X.A (do let _ ← comprehension (.ListComp elt [⟨.Name x px, iter, ifs, 0⟩] sc pos) sc X.env _ (newList []) false (eval iter X.env) (some (assign (.Name y py) X.env))) _ _ s
  refine wpAny_bind (wpAny_mono (wpAny_comprehension_free (use := some (assign (.Name y py) X.env)) (Q := fun _ s' => SP X pins D .next s') rfl hs hcl B.kind B.names
    (lcomp_core (RR := fun acc C => compPost (model X.prog X.w) X.A X.xe (some (assign (.Name y py) X.env)) (fun _ s' => SP X pins D .next s') acc C) hc B hi (ht cl) (he cl) q1 q3 I h ?_)) (fun _ s' hq => wpAny_pure (wpAny_pure hq)) fun _ _ e => e)
  intro A C s' m H' I' hn fpC q
  show wpAny _ X.A (assign (.Name y py) X.env (.ref A)) _ _ s'
  refine wpAny_assign_Name (store_ok2 I' hN hj (.inl hy) (v := .ref A) rfl (fun s'' I'' ⟨a, sb, ha⟩ => ?_) (.inr hy))
  have hne : C ≠ a := by
    rcases ha with e | e
    · rw [e]; exact fpC.2.1
    · exact fun z => fpC.2.2.2.2.1 y a e z.symm
  exact ⟨m, hn.sameBut sb hne, fun h' sb' => ⟨_, H', I''.turned (t' := s''.toks) (fun b o hb e => sb'.extBut b o hb e) fpC.1 fpC.2.1 fpC.2.2.2.1 fpC.2.2.2.2.1 fpC.2.2.2.2.2, q⟩⟩
end
end L2


end
section
set_option Elab.async false
set_option linter.all false
set_option maxRecDepth 100000
set_option maxHeartbeats 4000000
namespace HT
open PySem PyProof.Rows L2
/-- t < u of tuples whose first unlike items are two ints or two texts -/
def lexV : List V → List V → Option Bool
  | [], [] => some false
  | [], _ :: _ => some true
  | _ :: _, [] => some false
  | .int i :: xs, .int j :: ys => if i = j then lexV xs ys else some (decide (i < j))
  | .str i :: xs, .str j :: ys => if i = j then lexV xs ys else some (decide (i.cps.toList < j.cps.toList))
  | _ :: _, _ :: _ => none
theorem lexV_nil_nil : lexV [] [] = some false := rfl
theorem lexV_nil_cons (y : V) (ys : List V) : lexV [] (y :: ys) = some true := rfl
theorem lexV_cons_nil (x : V) (xs : List V) : lexV (x :: xs) [] = some false := by cases x <;> rfl
theorem rcLt_str (A : Around) (s : Shared) (a : Str) (t : Tok) (c : Str) (u : Tok) (prog : Program) (w : World) (E : Value → Shared → Prop) (Q : Value → Shared → Prop) (h : Q (.bool (decide (a.cps.toList < c.cps.toList))) s) :
    wpAny (model prog w) A (richCompare .Lt (.str a t) (.str c u)) Q E s :=
  (lt_str h : wpAny (model prog w) A (compareOp .Lt (.str a t) (.str c u)) Q E s)
section
open PySem.SeqAt
open PySem.AutoSeq1 (wpAny_loadPart')
open PySem.MeetsSeq PySem.MeetsSeq2 PySem.MeetsSeq3
theorem tuple_lt_V (l b : Addr) (items items2 : Array Value) (n n2 : Nat) (dd dd2 : Option Addr) (sl sl2 : Array (Option Value)) (xs ys : List V) (hi : Vals xs items.toList) (hj : Vals ys items2.toList) (r : Bool) (hr : lexV xs ys = some r) :
    Meets (Builtin.«tuple.__lt__» ⟨[.ref l, .ref b], []⟩)
      (fun _ R s => s.heap.get? l = some { cls := .type "tuple", dict := dd, data := .seq items n, slots := sl } ∧ s.heap.get? b = some { cls := .type "tuple", dict := dd2, data := .seq items2 n2, slots := sl2 } ∧
        R (.ok (.ret (.bool r))) s) :=
  .of_wp fun prog w A R s h => by
    obtain ⟨hp, g, d, tk, os⟩ := s; obtain ⟨hl, hb, h⟩ := h
    have f2 := AutoSeq1.sub_tuple_tuple
    have z1 : items.size = xs.length := by rw [hi.length]; simp
    have z2 : items2.size = ys.length := by rw [hj.length]; simp
    wp_walk using wpAny_loadPart' hl, wpAny_loadPart' hb, wpAny_forIn_list _ (fun rest b s' => b.1 = none ∧ s' = ⟨hp, g, d, tk, os⟩ ∧ ∃ (vs ws : List Value) (xs' ys' : List V), rest = vs.zip ws ∧
      Vals xs' vs ∧ Vals ys' ws ∧ xs'.length + items2.size = ys'.length + items.size ∧ lexV xs' ys' = some r) _
    case turn =>
      rintro ⟨y, x⟩ rest b s' ⟨hb', rfl, vs, ws, xs', ys', hz, hvi, hwi, hlen, hR⟩
      cases hvi with
      | nil => rw [List.zip_nil_left] at hz; cases hz
      | cons ra hvi' =>
        cases hwi with
        | nil => rw [List.zip_nil_right] at hz; cases hz
        | cons rb hwi' =>
          rename_i a1 v1 l1 l2 a2 v2 l3 l4
          rw [List.zip_cons_cons] at hz
          injection hz with hyx hrest
          injection hyx with hy hx
          subst hy hx
          simp only [List.length_cons] at hlen
          cases a1 with
          | int i =>
            cases a2 with
            | int j =>
              obtain ⟨t, rfl⟩ := ra
              obtain ⟨u, rfl⟩ := rb
              simp only [lexV] at hR
              obtain ⟨e, he, hiff⟩ := eqAt_int A.in1 ⟨hp, g, d, tk, os⟩ i t j u
              refine wpAny_bind (he prog w _ _ ?_)
              cases e with
              | true =>
                rw [if_pos (hiff.mp rfl)] at hR
                wp_walk
                exact ⟨rfl, rfl, _, _, _, _, hrest, hvi', hwi', by omega, hR⟩
              | false =>
                rw [if_neg (fun q => absurd (hiff.mpr q) Bool.false_ne_true)] at hR
                cases hR
                have hri := rcLt_int A.in1 ⟨hp, g, d, tk, os⟩ i t j u prog w
                wp_walk using hri
                exact ⟨_, rfl, by simpa using h⟩
            | _ => simp [lexV] at hR
          | str i =>
            cases a2 with
            | str j =>
              obtain ⟨t, rfl⟩ := ra
              obtain ⟨u, rfl⟩ := rb
              simp only [lexV] at hR
              refine wpAny_bind (SeqAt.EqAt.str_str (A := A.in1) (s := ⟨hp, g, d, tk, os⟩) i t j u prog w _ _ ?_)
              cases e : (i == j) with
              | true =>
                rw [if_pos (by simpa using e)] at hR
                wp_walk
                exact ⟨rfl, rfl, _, _, _, _, hrest, hvi', hwi', by omega, hR⟩
              | false =>
                rw [if_neg (by simpa using e)] at hR
                cases hR
                have hri := rcLt_str A.in1 ⟨hp, g, d, tk, os⟩ i t j u prog w
                wp_walk using hri
                exact ⟨_, rfl, by simpa using h⟩
            | _ => simp [lexV] at hR
          | _ => cases a2 <;> simp [lexV] at hR
    case fin =>
      rintro ⟨b1, b2⟩ s' ⟨hb', rfl, vs, ws, xs', ys', hz, hvi, hwi, hlen, hR⟩
      simp only at hb'
      subst hb'
      have hv : r = decide (items.size < items2.size) := by
        cases hvi with
        | nil =>
          cases hwi with
          | nil =>
            simp only [List.length_nil] at hlen
            rw [lexV_nil_nil] at hR; cases hR
            exact (decide_eq_false (by omega)).symm
          | cons c hw =>
            simp only [List.length_nil, List.length_cons] at hlen
            rw [lexV_nil_cons] at hR; cases hR
            exact (decide_eq_true (by omega)).symm
        | cons a hv =>
          cases hwi with
          | nil =>
            simp only [List.length_nil, List.length_cons] at hlen
            rw [lexV_cons_nil] at hR; cases hR
            exact (decide_eq_false (by omega)).symm
          | cons c hw =>
            rw [List.zip_cons_cons] at hz
            cases hz
      rw [hv] at h
      wp_walk
      exact ⟨_, rfl, by simpa [Builtin.Tuple.tupleCompareSizes] using h⟩
    case h =>
      exact ⟨rfl, rfl, items.toList, items2.toList, xs, ys, rfl, hi, hj, by omega, hr⟩
end
section
variable {prog : Program} {w : World} {A : Around} {E : Value → Shared → Prop} {s : Shared}
theorem lt_tupV {l b : Addr} {items items2 : Array Value} {xs ys : List V} {r : Bool} {Q : Value → Shared → Prop} (hl : IsTup s.heap l items) (hb : IsTup s.heap b items2) (hi : Vals xs items.toList) (hj : Vals ys items2.toList) (hr : lexV xs ys = some r)
    (hu : A.units < cLine) (h : Q (.bool r) s) : wpAny (model prog w) A (compareOp .Lt (.ref l) (.ref b)) Q E s := by
  obtain ⟨⟨cls, dd, data, sl⟩, ho, hc, n, hd⟩ := id hl
  obtain ⟨⟨cls2, dd2, data2, sl2⟩, ho2, hc2, n2, hd2⟩ := id hb
  simp only at hc hd hc2 hd2
  subst hc hd hc2 hd2
  exact richCompare_meets_room (op := .Lt) ⟨_, ho, rfl⟩ ⟨_, ho2, rfl⟩ PySem.F.slot_tuple_lt PySem.F.entry_tuple_lt (PySem.F.args_tuple_lt_2 _ _) (tuple_lt_V l b items items2 n n2 dd dd2 sl sl2 xs ys hi hj r hr)
    ⟨ho, ho2, show Value.bool r ≠ Value.notImplemented ∧ Q (.bool r) s from ⟨(fun x => nomatch x), h⟩⟩ hu
end
end HT

namespace L2
open PySem PySem.Spec PyProof.Rows
section
variable {X : Cx}
def clsV : V → Option Value
  | .ty n => some (.type n)
  | .ref a => some (.ref a)
  | _ => none
def rIsI (K : PySem.W.Frag) : List V → Hp → VK → Prop := fun xs H Q => ∃ x c t cv b, xs = [x, c] ∧ clsV c = some cv ∧ TyOf K H x t ∧ PySem.W.kitOne K t cv = some b ∧ Q (.bl b) H
theorem call_isinst : CallR X (.builtin "isinstance") (rIsI X.K) := by
  intro pins s σ H xs us Q I r h
  obtain ⟨x, c, t, cv, b, rfl, hc, ty, e, q⟩ := h
  obtain ⟨u, w', rfl, rx, rc⟩ := vals2 r
  have ec : w' = cv := by
    cases c <;> simp [clsV] at hc
    · subst hc; exact rc
    · subst hc; exact rc
  subst ec
  exact isinst_ok I rx ty e fun tk => ⟨.bl b, H, I.tok tk, rfl, q⟩
def rLtV (K : PySem.W.Frag) : R2 := fun x y H Q => ∃ a b xs ys r, x = .ref a ∧ y = .ref b ∧ SqT K H a xs ∧ SqT K H b ys ∧ HT.lexV xs ys = some r ∧ Q (.bl r) H
theorem op_ltV (hu : X.A.units < cLine) : OpR X (compareOp .Lt) (rLtV X.K) := by
  intro pins s σ H x y v u Q I rx ry h
  obtain ⟨a, b, xs, ys, r, rfl, rfl, ha, hb, e, q⟩ := h
  cases rx
  cases ry
  obtain ⟨its, r1, p1, _⟩ := I.tuple ha
  obtain ⟨its2, r2, p2, _⟩ := I.tuple hb
  exact HT.lt_tupV p1 p2 (by simpa using r1) (by simpa using r2) e hu ⟨.bl r, H, I, rfl, q⟩
def Its (z : Str) : It := ⟨fun i _ => i < z.length, fun i H x H' => H' = H ∧ ∃ c, z.cps[i]? = some c ∧ x = .str ⟨#[c]⟩, fun i _ => z.length ≤ i⟩
theorem turn_strA {P : Program} {w : World} {K : PySem.W.Frag} {tg : Expr} (it : Addr) (z : Str) (t : Tok) : Turn P w K tg (Its z) [it] it (fun i h => h.IsStrIter it "str_ascii_iterator" z t i) where
  mem := by simp
  obj := fun i h st b hb => by
    have e : b = it := by simpa using hb
    subst e
    obtain ⟨o, e, c, d⟩ := st
    exact ⟨o, e, fun v z => by rw [d] at z; cases z⟩
  keep := fun i h h' st k => let ⟨o, ho, r⟩ := st; ⟨o, k it (by simp) o ho, r⟩
  item := by
    intro X hP hw hK hc i pins s σ H E I hf st hg
    subst hP hw hK
    obtain ⟨f0, f1, f2, f3, f4, f5⟩ := hf it (by simp)
    have W := Walks.strAscii (prog := X.prog) (w := X.w) (I.ok.hd hc) it z t
    refine W.item i s _ _ hg st fun v h' tk hv st' kk => ?_
    obtain ⟨c, u, hcu, rfl⟩ := hv
    have I1 : Inv X pins σ H { s with heap := h', toks := tk } := I.turned (fun b o hb e => kk b o (by simpa using hb) e) f0 f1 f3 f4 f5
    obtain ⟨o, e, c', d⟩ := id st'
    exact ⟨_, rfl, go_of (s := { s with heap := h', toks := tk }) e c' d (by decide) ⟨.str ⟨#[c]⟩, H, I1, ⟨_, rfl⟩, ⟨rfl, c, hcu, rfl⟩, st', fun b hb => (hf b hb).1⟩⟩
  done := by
    intro X hP hw hK hc i pins s σ H E I hf st hg
    subst hP hw hK
    obtain ⟨f0, f1, f2, f3, f4, f5⟩ := hf it (by simp)
    have hg' : z.length ≤ i := hg
    exact wpAny_pyNext_ascii_end (I.ok.hd hc) st (by simpa [Str.length] using hg') fun h' eb => ⟨rfl, I.turned (t' := s.toks) (fun b o hb e => eb b o hb e) f0 f1 f3 f4 f5⟩
  self := fun _ _ _ _ _ st h => wpAny_pyIter_striter_ascii st h
theorem turn_strW {P : Program} {w : World} {K : PySem.W.Frag} {tg : Expr} (it : Addr) (z : Str) (t : Tok) : Turn P w K tg (Its z) [it] it (fun i h => h.IsStrIter it "str_iterator" z t i) where
  mem := by simp
  obj := fun i h st b hb => by
    have e : b = it := by simpa using hb
    subst e
    obtain ⟨o, e, c, d⟩ := st
    exact ⟨o, e, fun v z => by rw [d] at z; cases z⟩
  keep := fun i h h' st k => let ⟨o, ho, r⟩ := st; ⟨o, k it (by simp) o ho, r⟩
  item := by
    intro X hP hw hK hc i pins s σ H E I hf st hg
    subst hP hw hK
    obtain ⟨f0, f1, f2, f3, f4, f5⟩ := hf it (by simp)
    have W := Walks.strWide (prog := X.prog) (w := X.w) (I.ok.hd hc) it z t
    refine W.item i s _ _ hg st fun v h' tk hv st' kk => ?_
    obtain ⟨c, u, hcu, rfl⟩ := hv
    have I1 : Inv X pins σ H { s with heap := h', toks := tk } := I.turned (fun b o hb e => kk b o (by simpa using hb) e) f0 f1 f3 f4 f5
    obtain ⟨o, e, c', d⟩ := id st'
    exact ⟨_, rfl, go_of (s := { s with heap := h', toks := tk }) e c' d (by decide) ⟨.str ⟨#[c]⟩, H, I1, ⟨_, rfl⟩, ⟨rfl, c, hcu, rfl⟩, st', fun b hb => (hf b hb).1⟩⟩
  done := by
    intro X hP hw hK hc i pins s σ H E I hf st hg
    subst hP hw hK
    obtain ⟨f0, f1, f2, f3, f4, f5⟩ := hf it (by simp)
    have hg' : z.length ≤ i := hg
    exact wpAny_pyNext_wide_end (I.ok.hd hc) st (by simpa [Str.length] using hg') fun h' eb => ⟨rfl, I.turned (t' := s.toks) (fun b o hb e => eb b o hb e) f0 f1 f3 f4 f5⟩
  self := fun _ _ _ _ _ st h => wpAny_pyIter_striter_wide st h
end
end L2

namespace L2
open PySem PySem.Spec PyProof.Rows
section
variable {X : Cx}
def iStr (tl : TE) : TI := fun σ H R => tl σ H fun x H1 => ∃ z, x = .str z ∧ R (Its z) H1
theorem pi_str {tg l : Expr} {tl : TE} (hl : PE X l tl) : PI X tg l (iStr tl) := by
  intro pins s σ H R I h
  refine thn (hl pins s σ H _ I h) fun v s1 ⟨x, H1, I1, r1, q1⟩ => ?_
  obtain ⟨z, e, q⟩ := q1
  subst e
  obtain ⟨t, rfl⟩ := r1
  cases ha : z.cps.all (· < 128)
  · refine wpAny_pyIter_wide ha ?_
    refine ⟨s1.heap.objs.size, [s1.heap.objs.size], _, _, H1, rfl, I1.kept (t' := s1.toks) fun b o e => Heap.get?_push_of_some _ e, turn_strW _ z t, ⟨_, Heap.get?_push_size _ rfl, rfl, rfl⟩, fun b hb => ?_, q⟩
    have e : b = s1.heap.objs.size := by simpa using hb
    subst e
    exact I1.fpOk (Nat.le_refl _) (I1.hok.fresh (Nat.le_refl _))
  · refine wpAny_pyIter_ascii ha ?_
    refine ⟨s1.heap.objs.size, [s1.heap.objs.size], _, _, H1, rfl, I1.kept (t' := s1.toks) fun b o e => Heap.get?_push_of_some _ e, turn_strA _ z t, ⟨_, Heap.get?_push_size _ rfl, rfl, rfl⟩, fun b hb => ?_, q⟩
    have e : b = s1.heap.objs.size := by simpa using hb
    subst e
    exact I1.fpOk (Nat.le_refl _) (I1.hok.fresh (Nat.le_refl _))
theorem strsAre_of : ∀ {ys : List Str} {us : List Value}, Vals (ys.map V.str) us → StrsAre us ys
  | [], _, .nil => .nil
  | y :: ys, _, .cons r t => by
    obtain ⟨tk, rfl⟩ := r
    exact .cons y tk (strsAre_of t)
def rJoin (K : PySem.W.Frag) : V → List V → Hp → VK → Prop := fun x xs H Q => ∃ z l ys, x = .str z ∧ xs = [.ref l] ∧ SqL K H l (ys.map V.str) ∧ (ys.map (·.length)).sum + ys.length * z.length ≤ 16777216 ∧ Q (.str (Txt.join z ys)) H
theorem mt_join : MtR X "str.join" (rJoin X.K) := by
  intro pins s σ H x xs v us Q I rx rv h
  obtain ⟨z, l, ys, rfl, rfl, hq, hok, q⟩ := h
  obtain ⟨t, rfl⟩ := rx
  obtain ⟨u, rfl, ru⟩ := rv.one
  cases ru
  obtain ⟨its, r, p, hz⟩ := I.list hq
  exact join_list p.isList (strsAre_of (by simpa using r)) hok fun t' k => ⟨.str _, H, I.tok k, ⟨_, rfl⟩, q⟩
def rSlS : V → Option Int → Option Int → Hp → VK → Prop := fun x lo hi H Q => ∃ z, x = .str z ∧ z.length ≤ sizeLine ∧ Q (.str (Txt.slice z lo hi)) H
def eqVs (xs ys : List V) : Bool := (List.range (min xs.length ys.length)).all (fun i => eqV (xs.getD i .non) (ys.getD i .non)) && xs.length == ys.length
theorem eqVs_flat {A : Around} {s : Shared} {xs ys : List V} {us ws : List Value} (r : Vals xs us) (q : Vals ys ws) (f : xs.all flatV = true) (g : ys.all flatV = true) (j : Nat) (h1 : j < us.toArray.size) (h2 : j < ws.toArray.size) :
    SeqAt.EqAt A s us.toArray[j] ws.toArray[j] (eqV (xs.getD j .non) (ys.getD j .non)) := by
  have l1 := r.length
  have l2 := q.length
  have h1' : j < us.length := by simpa using h1
  have h2' : j < ws.length := by simpa using h2
  have j1 : j < xs.length := by omega
  have j2 : j < ys.length := by omega
  obtain ⟨u, e1, r1⟩ := r.get (i := j) (x := xs[j]) (by simp [j1])
  obtain ⟨w, e2, r2⟩ := q.get (i := j) (x := ys[j]) (by simp [j2])
  rw [List.getElem?_eq_getElem h1'] at e1
  rw [List.getElem?_eq_getElem h2'] at e2
  cases e1; cases e2
  have g1 : xs.getD j .non = xs[j] := by simp [List.getD, j1]
  have g2 : ys.getD j .non = ys[j] := by simp [List.getD, j2]
  rw [g1, g2]
  have f1 : flatV xs[j] = true := List.all_eq_true.mp f _ (List.getElem_mem j1)
  have f2 : flatV ys[j] = true := List.all_eq_true.mp g _ (List.getElem_mem j2)
  simpa using eqAt_V (A := A) (s := s) r1 r2 f1 f2
def rEqL (K : PySem.W.Frag) (neg : Bool) : R2 := fun x y H Q => ∃ a b xs ys, x = .ref a ∧ y = .ref b ∧ SqL K H a xs ∧ SqL K H b ys ∧ xs.all flatV = true ∧ ys.all flatV = true ∧ Q (.bl (if neg then !eqVs xs ys else eqVs xs ys)) H
theorem op_eqL (hu : X.A.units < cLine) : OpR X (compareOp .Eq) (rEqL X.K false) := by
  intro pins s σ H x y v u Q I rx ry h
  obtain ⟨a, b, xs, ys, rfl, rfl, ha, hb, fx, fy, q⟩ := h
  cases rx
  cases ry
  obtain ⟨its, r1, p1, _⟩ := I.list ha
  obtain ⟨its2, r2, p2, _⟩ := I.list hb
  have l1 := r1.length
  have l2 := r2.length
  by_cases hl : xs.length = ys.length
  · refine SeqAt.eq_listAt (e := fun i => eqV (xs.getD i .non) (ys.getD i .non)) p1.isList p2.isList (by simp; omega) hu (fun j h1 h2 => eqVs_flat r1 r2 fx fy j h1 h2) ⟨.bl _, H, I, rfl, ?_⟩
    have e : (List.range its.toArray.size).all (fun i => eqV (xs.getD i .non) (ys.getD i .non)) = eqVs xs ys := by
      unfold eqVs
      rw [hl, Nat.min_self, beq_self_eq_true, Bool.and_true, List.size_toArray, ← l1, hl]
    rw [e]
    exact q
  · refine SeqAt.eq_list_lengthsAt p1.isList p2.isList (by simp; omega) hu ⟨.bl false, H, I, rfl, ?_⟩
    have e : eqVs xs ys = false := by
      unfold eqVs
      rw [beq_eq_false_iff_ne.mpr hl, Bool.and_false]
    rw [if_neg Bool.false_ne_true, e] at q
    exact q
theorem eqV_refl {x : V} (f : flatV x = true) : eqV x x = true := by cases x <;> simp [eqV, flatV] at *
theorem eqVs_refl {xs : List V} (f : xs.all flatV = true) : eqVs xs xs = true := by
  unfold eqVs
  rw [Nat.min_self, beq_self_eq_true, Bool.and_true, List.all_eq_true]
  intro i hi
  have hi' : i < xs.length := by simpa using hi
  have g1 : xs.getD i .non = xs[i] := by simp [List.getD, hi']
  rw [g1]
  exact eqV_refl (List.all_eq_true.mp f _ (List.getElem_mem hi'))
end
end L2


end
section
set_option Elab.async false
set_option linter.all false
set_option maxRecDepth 100000
set_option maxHeartbeats 4000000
namespace L2
open PySem PySem.Spec PyProof.Rows
theorem bo_len : bootBuiltins "len" = some (.builtin "len") := by decide +kernel
theorem bo_isinstance : bootBuiltins "isinstance" = some (.builtin "isinstance") := by decide +kernel
theorem bo_ord : bootBuiltins "ord" = some (.builtin "ord") := by decide +kernel
theorem bo_abs : bootBuiltins "abs" = some (.builtin "abs") := by decide +kernel
theorem bo_str : bootBuiltins "str" = some (.type "str") := by decide +kernel
theorem bo_int : bootBuiltins "int" = some (.type "int") := by decide +kernel
theorem bo_bool : bootBuiltins "bool" = some (.type "bool") := by decide +kernel
theorem bo_list : bootBuiltins "list" = some (.type "list") := by decide +kernel
theorem bo_tuple : bootBuiltins "tuple" = some (.type "tuple") := by decide +kernel
/-- the block's names, as one test -/
def blkB (dsc sc : Scope) (x : Str) (N M : List Str) : Bool :=
  decide (sc.kind = .function) && sc.names.all (fun y => decide (y.2 ≠ .cell)) && sc.names.all (fun y => decide (y.2 = .local → sc.names.lookup y.1 = some .local)) && decide (sc.names.lookup x = some .local) && decide ((x :: M).Nodup) &&
  decide (M.length = N.length) && sc.names.all (fun y => decide (y.2 = .free → dsc.names.lookup y.1 = some .cell ∨ dsc.names.lookup y.1 = some .free)) &&
  (List.range M.length).all (fun i => match M[i]? with | some y => decide (sc.names.lookup y = some .free → N[i]? = some y) | none => true) && M.all (fun y => decide (sc.names.lookup y ≠ some .local))
theorem blkOk {X : Cx} {sc dsc : Scope} {x : Str} {N M : List Str} (hN : X.N = N) (hs : X.env.scope = dsc) (h : blkB dsc sc x N M = true) : BlkOk X sc x M := by
  unfold blkB at h
  simp only [Bool.and_eq_true, decide_eq_true_eq, List.all_eq_true] at h
  obtain ⟨⟨⟨⟨⟨⟨⟨⟨h1, h2⟩, h3⟩, h4⟩, h5⟩, h6⟩, h7⟩, h8⟩, h9⟩ := h
  refine ⟨h1, h2, h3, h4, h5, by rw [hN]; exact h6, fun y hy hf => ?_, fun i y hi hf => ?_, h9⟩
  · have := h7 y hy hf
    rw [← hs] at this
    exact this
  · have hl : i < M.length := (List.getElem?_eq_some_iff.mp hi).1
    have := h8 i (List.mem_range.mpr hl)
    rw [hi] at this
    rw [hN]
    exact (decide_eq_true_eq.mp this) hf
/-- a def of the text that may be called by its name: its promise, how it binds, where it stands -/
def Cal (P : Program) (w : World) (K : PySem.W.Frag) (mg : Str → Option Value) (base : Heap) (k : Nat) (x : Str) (ps : List Str) (sp : Sp) : Prop :=
  ∃ f fd, FnOk P w K mg base CX0 k f fd ps sp ∧ Binds K fd ps [] ∧ PySem.W.keepIn K (.ref f) = true ∧ mg x = some (.ref f)
section
variable {X : Cx} {e : Expr} {es : List Expr} {t : TA} {p pos : Pos}
theorem pe_cal {j k : Nat} {x : Str} {ps : List Str} {sp : Sp} (G : Cal X.prog X.w X.K X.mg X.base j x ps sp) (hr : Room k X.A) (hj : j ≤ k) (hg : Gl X x) (ha : PA X (e :: es) t) (hdb : (x == ("__debug__" : Str)) = false := by decide)
    (he : starEach (e :: es) X.env = (false, eval e X.env) :: starEach es X.env := by rfl) (hpl : (backTo pos (starEach es X.env)).any (·.1) = false := by rfl) : PE X (.Call (.Name x p) (e :: es) [] pos) (tCall sp [] E0 t) := by
  obtain ⟨f, fd, F, b, kp, m⟩ := G
  exact pe_call F (hr.mono hj) hg m kp b .nil pass0 ha hdb he hpl
/-- a number of the module -/
theorem pe_gint {x : Str} {i : Int} (h : ∃ t, X.mg x = some (.int i t)) (hg : Gl X x) (hd : (x == ("__debug__" : Str)) = false := by decide) : PE X (.Name x pos) (tC (.int i)) := by
  obtain ⟨t, h⟩ := h
  exact pe_glob hg h ⟨t, rfl⟩ hd
end
theorem isI_of {K : PySem.W.Frag} {H : Hp} {Q : VK} {x : V} {n : String} {t : Value} {b : Bool} (ty : TyOf K H x t) (e : PySem.W.kitOne K t (.type n) = some b) (q : Q (.bl b) H) : rIsI K [x, .ty n] H Q := ⟨x, .ty n, t, .type n, b, rfl, rfl, ty, e, q⟩
section
variable {K : PySem.W.Frag}
theorem kit_int_str : PySem.W.kitOne K (.type "int") (.type "str") = some false := by rfl
theorem kit_str_str : PySem.W.kitOne K (.type "str") (.type "str") = some true := by rfl
theorem kit_non_str : PySem.W.kitOne K (.type "NoneType") (.type "str") = some false := by rfl
theorem kit_int_int : PySem.W.kitOne K (.type "int") (.type "int") = some true := by rfl
theorem kit_str_int : PySem.W.kitOne K (.type "str") (.type "int") = some false := by rfl
theorem kit_bool_int : PySem.W.kitOne K (.type "bool") (.type "int") = some true := by rfl
theorem kit_int_bool : PySem.W.kitOne K (.type "int") (.type "bool") = some false := by rfl
theorem kit_bool_bool : PySem.W.kitOne K (.type "bool") (.type "bool") = some true := by rfl
end
end L2
namespace L2
open PySem PySem.Spec PyProof.Rows
theorem rd_start {t : TS} {D : Ends} {σ σ' : St} {H : Hp} (e : σ' = σ) (h : t D σ H) : t D σ' H := by rw [e]; exact h
end L2


end
section
set_option Elab.async false
set_option linter.all false
set_option maxRecDepth 100000
set_option maxHeartbeats 4000000
namespace Att
open PySem PySem.W PySem.Calls PyProof.Rows
theorem bits_all : ∀ (ns : List Int), WData.weightAll (ns.map WData.int) ≤ 2 ^ 20 → ∀ n ∈ ns, Builtin.Int.intBits n ≤ 2 ^ 20
  | [], _, _, h => nomatch h
  | m :: ns, hw, n, h => by
    rw [List.map_cons] at hw
    have e : WData.weightAll (WData.int m :: ns.map WData.int) = WData.weight (.int m) + 1 + WData.weightAll (ns.map WData.int) := by simp only [WData.weightAll]
    rw [e] at hw
    rcases List.mem_cons.mp h with rfl | h
    · have : WData.weight (.int n) ≤ 2 ^ 20 := by omega
      simpa only [WData.weight, Builtin.Int.intBits] using this
    · exact bits_all ns (by omega) n h
theorem attach_callB {l : OpenLaw} {n : Nat} {q : Program} {loose : List Str} {XP : (Str → Option Value) → Heap → Prop} {YP : World → Heap → Prop} {d : DefRec}
    (hn : l.most = some n) (hdf : d.params.defaults = [])
    (call : ∀ (w : World) (s₀ s₁ : Shared) (mg mb : Str → Option Value) (fa : Addr) (o : Obj) (pm cd doc : Value) (a : Addr) (vs : List Value) (ns : List Int),
      Ground q loose [] XP w s₀ mg mb s₁.heap → YP w s₁.heap →
      s₁.heap.get? fa = some o → o.data = .func (docDef d.name d.params d.body d.scope pm cd doc) → s₁.heap.CodeRec cd d.name → mg d.name = some (.ref fa) →
      s₁.heap.get? a = some { cls := .type "list", data := .seq vs.toArray } → IntsAre vs ns → ns.length ≤ n → (∀ i ∈ ns, Builtin.Int.intBits i ≤ 2 ^ 20) → s₁.gens = #[] →
      codeAny (model l.prog w) callerA (.call (.ref fa) ⟨[.ref a], []⟩) (fun r s' => r = .ok (.ret (.bool true)) ∧ OldK s₁.heap s'.heap ∧ s'.os = s₁.os ∧ AllBare s'.gens) s₁) :
    WalkO q loose XP YP l.row.toRowW d [] (fun f vs => PySem.call f vs) := by
  intro w s₀ s₁ mg mb G Y fa o pm cd doc dV kV ho hd hcd hD hmg hg args vals as hpre hlay hrd hwl hlo
  obtain rfl : dV = .none := Dflts.none hD hdf
  obtain rfl : kV = .none := Dflts.noKw hD
  obtain ⟨a, vs, ns, rfl, rfl, hobj, hints, hlen⟩ := script_of hn hpre hwl
  have hb : ∀ i ∈ ns, Builtin.Int.intBits i ≤ 2 ^ 20 := by
    have h1 : WData.layable (.list (ns.map WData.int)) = true := by
      have := hlay
      unfold WData.layableAll at this
      exact List.all_eq_true.mp this _ List.mem_cons_self
    have h2 : WData.weight (.list (ns.map WData.int)) ≤ 2 ^ 20 := of_decide_eq_true (Bool.and_eq_true_iff.mp h1).2
    exact bits_all ns (by simpa only [WData.weight] using h2)
  refine enter_call (codeAny_mono (call w s₀ s₁ mg mb fa o pm cd doc a vs ns G Y ho (fd_plain hd) hcd hmg hobj hints hlen hb hg) fun r s' hq => ?_)
  obtain ⟨rfl, h2, h3, h4⟩ := hq
  exact ⟨.inl ⟨.bool true, .bool true, [], rfl, fun _ => rfl, .bool true, post_true l _, fun _ => ⟨List.Pairwise.nil, fun _ hm => (nomatch hm)⟩⟩, h2, h3, h4⟩
end Att
namespace L2
open PySem PySem.Spec PyProof.Rows
/-- the head, with the bound of the script's ints -/
theorem walk_ofB {l : PySem.W.OpenLaw} {n k : Nat} {q : Program} {loose : List Str} {XP : (Str → Option Value) → Heap → Prop} {YP : World → Heap → Prop} {d : DefRec} {K : Params → PySem.W.Frag} {CX : World → CXT} {sp : PySem.W.Frag → Sp} {x : Str}
    (hn : l.most = some n) (hn2 : n ≤ sizeLine) (hdf : d.params.defaults = []) (hr : Room k callerA)
    (hY : ∀ (w : World) (h : Heap), YP w h → (K w.params).In h)
    (F : ∀ (w : World) (mg : Str → Option Value) (fa : Addr) (h : Heap), (K w.params).In h → h.Ns mainGlobals mg → mg d.name = some (.ref fa) →
      ∃ fd : FuncData, (∀ (s : Shared) (u : Value), BindsTo s fd ⟨[u], []⟩ [(x, u)]) ∧
        ∀ base : Heap, (K w.params).In base → base.Ns mainGlobals mg → FnOk l.prog w (K w.params) mg base (CX w) k fa fd [x] (sp (K w.params)))
    (hsp : ∀ (K : PySem.W.Frag) (H : Hp) (a : Addr) (ns : List Int), ns.length ≤ n → (∀ i ∈ ns, Builtin.Int.intBits i ≤ 2 ^ 20) → Only H → SqL K H a (ns.map V.int) → sp K [.ref a] H (fun v _ => v = .bl true) fun _ _ _ => False)
    (hCX : ∀ (w : World) (H : Hp) (s : Shared) (e : Value) (s' : Shared), CX w [] H s (fun _ _ _ => False) e s' → False) :
    PySem.W.WalkO q loose XP YP l.row.toRowW d [] (fun f vs => PySem.call f vs) := by
  refine Att.attach_callB hn hdf fun w s₀ s₁ mg mb fa o pm cd doc a vs ns G Y ho hd hcd hmg hobj hints hlen hb hg => ?_
  have KX := hY w _ Y
  obtain ⟨fd, hbd, hF⟩ := F w mg fa _ KX G.T.g hmg
  exact law_call KX G.T.g G.T.b G.T.builtins G.T.nolimit hg hobj hints (Nat.le_trans hlen hn2) hr hF hbd (fun H hO hS => hsp _ H a ns hlen hb hO hS) fun H e s' => hCX w H s₁ e s'
section
variable {X : Cx}
theorem op_mulB : OpR X (binaryOp .Mult) (rI IntMulOk fun i j => .int (i * j)) := opI fun _ _ _ _ _ _ _ hc q => mul_int q hc
end
theorem bits_natAbs {a b : Int} (h : a.natAbs ≤ b.natAbs) : Builtin.Int.intBits a ≤ Builtin.Int.intBits b := by
  unfold Builtin.Int.intBits
  split
  · exact Nat.zero_le _
  · rename_i ha
    have ha' : a ≠ 0 := by simpa using ha
    have hb' : b ≠ 0 := by omega
    rw [if_neg (by simpa using hb')]
    have h1 : 2 ^ a.natAbs.log2 ≤ a.natAbs := Nat.log2_self_le (by omega)
    have := (Nat.le_log2 (n := b.natAbs) (k := a.natAbs.log2) (by omega)).mpr (Nat.le_trans h1 h)
    omega
theorem bits_div (a k : Int) : Builtin.Int.intBits (a / k) ≤ Builtin.Int.intBits a := bits_natAbs (Int.natAbs_ediv_le_natAbs a k)
end L2


end
section
set_option Elab.async false
set_option linter.all false
set_option maxRecDepth 100000
set_option maxHeartbeats 4000000
namespace L2
open PySem PySem.Spec PyProof.Rows
section
variable {X : Cx}
theorem sl_str : SlR X rSlS := by
  intro pins s σ H x v vl vu lo hi sl Q I rx hs pl pu h
  obtain ⟨z, rfl, hz, q⟩ := h
  obtain ⟨t, rfl⟩ := rx
  refine ⟨"str", _, PySem.F.slot_str_getitem.lookup, typeIs_str _ _ _, ?_⟩
  cases pl with
  | none =>
    cases pu with
    | none => exact wpAny_getItem_str_slice (l := none) (u := none) (st := none) hs rfl (post_val_or_str ⟨Nat.le_trans (Txt.slice_le z _ _) hz, fun t' k => ⟨.str (Txt.slice z none none), H, I.tok k, ⟨_, rfl⟩, q⟩⟩)
    | int j uj => exact wpAny_getItem_str_slice (l := none) (u := some (j, uj)) (st := none) hs rfl (post_val_or_str ⟨Nat.le_trans (Txt.slice_le z _ _) hz, fun t' k => ⟨.str (Txt.slice z none (some j)), H, I.tok k, ⟨_, rfl⟩, q⟩⟩)
  | int i ui =>
    cases pu with
    | none => exact wpAny_getItem_str_slice (l := some (i, ui)) (u := none) (st := none) hs rfl (post_val_or_str ⟨Nat.le_trans (Txt.slice_le z _ _) hz, fun t' k => ⟨.str (Txt.slice z (some i) none), H, I.tok k, ⟨_, rfl⟩, q⟩⟩)
    | int j uj => exact wpAny_getItem_str_slice (l := some (i, ui)) (u := some (j, uj)) (st := none) hs rfl (post_val_or_str ⟨Nat.le_trans (Txt.slice_le z _ _) hz, fun t' k => ⟨.str (Txt.slice z (some i) (some j)), H, I.tok k, ⟨_, rfl⟩, q⟩⟩)
end
theorem same_upd {H : Hp} {p : Addr} (h : H p = none) (o : HO) : Same H (upd H p o) := fun b u q => by rw [upd_ne (ne_of_none q h)]; exact q
theorem Same.updL {H H' : Hp} {p : Addr} (s : Same H H') (h : H p = none) (o : HO) : Same H (upd H' p o) := fun b u q => by rw [upd_ne (ne_of_none q h)]; exact s b u q
theorem Same.seqT {K : PySem.W.Frag} {H H' : Hp} {a : Addr} {xs : List V} (e : Same H H') (h : SqT K H a xs) : SqT K H' a xs := by
  rcases h with (h | ⟨o, h⟩) | h
  · exact .inl (.inl (e _ _ h))
  · exact .inl (.inr ⟨o, e _ _ h⟩)
  · exact .inr h
theorem cutV_map {α : Type} (f : α → V) (ns : List α) (lo hi : Option Int) : ∃ ms : List α, cutV (ns.map f) lo hi = ms.map f ∧ ms.length ≤ ns.length ∧ ∀ m ∈ ms, m ∈ ns := by
  refine ⟨(ns.drop (HT.sIx ns.length 0 lo)).take (HT.sIx ns.length ns.length hi - HT.sIx ns.length 0 lo), ?_, ?_, fun m h => List.mem_of_mem_drop (List.mem_of_mem_take h)⟩
  · unfold cutV
    rw [List.length_map, ← List.map_drop, ← List.map_take]
  · rw [List.length_take, List.length_drop]
    omega
theorem join_len (sep : Str) (ys : List Str) : (Txt.join sep ys).length ≤ (ys.map (·.length)).sum + ys.length * sep.length := by
  show (Builtin.Str.glued sep ys).length ≤ _
  rw [StrLaws.glued_eq_join]
  exact StrLaws.join_length_le sep ys
theorem sum_ones : ∀ (ys : List Str), (∀ y ∈ ys, y.length = 1) → (ys.map (·.length)).sum = ys.length
  | [], _ => rfl
  | y :: ys, h => by
    rw [List.map_cons, List.sum_cons, h y List.mem_cons_self, sum_ones ys fun z hz => h z (List.mem_cons_of_mem _ hz), List.length_cons, Nat.add_comm]
/-- a list of texts, as values -/
theorem strs_of : ∀ (vs : List V), (∀ v ∈ vs, ∃ z, v = .str z) → ∃ ys : List Str, vs = ys.map V.str
  | [], _ => ⟨[], rfl⟩
  | v :: vs, h => by
    obtain ⟨z, rfl⟩ := h v List.mem_cons_self
    obtain ⟨ys, rfl⟩ := strs_of vs fun u hu => h u (List.mem_cons_of_mem _ hu)
    exact ⟨z :: ys, rfl⟩
end L2
namespace L2
open PySem PySem.Spec PyProof.Rows
theorem pickN {α : Type} (xs : List α) (i : Nat) : ∀ k : Nat, ((List.range k).map (i + ·)).filterMap (xs[·]?) = (xs.drop i).take k
  | 0 => by simp
  | k + 1 => by
    rw [List.range_succ, List.map_append, List.filterMap_append, pickN xs i k, List.take_add_one, List.getElem?_drop]
    cases h : xs[i + k]? <;> simp [h]
theorem slice_ixs (lo hi : Option Int) (n : Nat) : Builtin.Str.strSliceIndices lo hi 1 n = (List.range (HT.sIx n n hi - HT.sIx n 0 lo)).map (HT.sIx n 0 lo + ·) := by
  obtain ⟨h1, h2, h3⟩ := slice_bounds lo hi n
  have e : Builtin.Str.strSliceIndices lo hi 1 n = sliceRange (sliceBounds lo hi none n).1 (sliceBounds lo hi none n).2.1 (sliceBounds lo hi none n).2.2 := rfl
  rw [e, h1, h2, h3]
  unfold sliceRange
  have h4 : (1 : Int) > 0 := by decide
  simp only [h4, if_true]
  have e2 : (if ((HT.sIx n 0 lo : Nat) : Int) < ((HT.sIx n n hi : Nat) : Int) then (((HT.sIx n n hi : Nat) : Int) - ((HT.sIx n 0 lo : Nat) : Int) + 1 - 1) / 1 else 0).toNat = HT.sIx n n hi - HT.sIx n 0 lo := by
    split <;> omega
  rw [e2]
  apply List.map_congr_left
  intro k _
  omega
def cutS (z : Str) (lo hi : Option Int) : List Nat := (z.cps.toList.drop (HT.sIx z.length 0 lo)).take (HT.sIx z.length z.length hi - HT.sIx z.length 0 lo)
theorem slice_list (z : Str) (lo hi : Option Int) : (Txt.slice z lo hi).cps.toList = cutS z lo hi := by
  have hn : z.cps.toList.length = z.length := by simp [Str.length]
  unfold Txt.slice cutS
  rw [slice_ixs]
  split
  · rename_i h
    have hl : HT.sIx z.length z.length hi - HT.sIx z.length 0 lo = z.length := by
      have := (Bool.and_eq_true_iff.mp h).2
      simpa using this
    have hb := HT.sIx_le z.length z.length (Nat.le_refl _) hi
    have ha : HT.sIx z.length 0 lo = 0 ∨ z.length = 0 := by omega
    rcases ha with ha | ha
    · rw [hl, ha, List.drop_zero, List.take_of_length_le (by omega)]
    · have : z.cps.toList = [] := List.eq_nil_of_length_eq_zero (by omega)
      rw [this]; simp
  · show (List.toArray _).toList = _
    rw [List.toList_toArray]
    have e : (fun (x : Nat) => z.cps[x]?) = fun (x : Nat) => z.cps.toList[x]? := by funext x; simp
    rw [e]
    exact pickN _ _ _
def FoR (J : It) (g : TG) (tb : TS) (D : Ends) (σ : St) (H1 : Hp) : Prop := ∃ W : Nat → Nat → St → Hp → Prop, (∃ m, W 0 m σ H1) ∧ ∀ i m σ H, W i m σ H →
  (J.stop i H ∧ D.nx σ H) ∨ (J.go i H ∧ ∃ N : St → Hp → Prop, (∀ σ' H', N σ' H' → ∃ m', m' < m ∧ W (i + 1) m' σ' H') ∧ ∀ x H', J.yld i H x H' → g x σ H' fun σ2 H2 => tb { D with nx := N, ct := N, bk := D.nx } σ2 H2)
def LcR (J : It) (tt : TT) (te : TE) (σ : St) (Q : VK) (H1 : Hp) : Prop := ∀ D, H1 D = none → ∃ W : Nat → Nat → List V → Hp → Prop, (∃ m, W 0 m [] (upd H1 D (.lst []))) ∧ ∀ i m ys H, W i m ys H →
  H D = some (.lst ys) ∧ ((J.stop i H ∧ Q (.ref D) H) ∨ (J.go i H ∧ ys.length < sizeLine ∧ ∀ x H', J.yld i H x H' → tt (some x :: σ) H' fun b H2 => if b = true then te (some x :: σ) H2 fun v H3 =>
    H3 D = some (.lst ys) ∧ ∃ m', m' < m ∧ W (i + 1) m' (ys ++ [v]) (upd H3 D (.lst (ys ++ [v]))) else ∃ m', m' < m ∧ W (i + 1) m' ys H2))
theorem tFor_rng1 {ta : TA} {g : TG} {tb : TS} {D : Ends} {σ : St} {H : Hp} : tFor (iRng1 ta) g tb D σ H = ta σ H fun vs H1 => ∃ j : Int, vs = [.int j] ∧ -(2 ^ 62) ≤ j ∧ j < 2 ^ 62 ∧ FoR (Itr 0 j.toNat) g tb D σ H1 := rfl
theorem tFor_rng2 {ta : TA} {g : TG} {tb : TS} {D : Ends} {σ : St} {H : Hp} : tFor (iRng2 ta) g tb D σ H = ta σ H fun vs H1 => ∃ i j : Int, vs = [.int i, .int j] ∧ (-(2 ^ 62) ≤ i ∧ i < 2 ^ 62 ∧ -(2 ^ 62) ≤ j ∧ j < 2 ^ 62) ∧ FoR (Itr i (j - i).toNat) g tb D σ H1 := rfl
theorem tFor_list {K : PySem.W.Frag} {tl : TE} {g : TG} {tb : TS} {D : Ends} {σ : St} {H : Hp} : tFor (iList K tl) g tb D σ H = tl σ H fun x H1 => ∃ a, x = .ref a ∧ (∃ xs, SqL K H1 a xs) ∧ FoR (Itl K a) g tb D σ H1 := rfl
theorem tFor_tup {K : PySem.W.Frag} {tl : TE} {g : TG} {tb : TS} {D : Ends} {σ : St} {H : Hp} : tFor (iTup K tl) g tb D σ H = tl σ H fun x H1 => ∃ a, x = .ref a ∧ (∃ xs, SqT K H1 a xs) ∧ FoR (Itt K a) g tb D σ H1 := rfl
theorem tFor_str {tl : TE} {g : TG} {tb : TS} {D : Ends} {σ : St} {H : Hp} : tFor (iStr tl) g tb D σ H = tl σ H fun x H1 => ∃ z, x = .str z ∧ FoR (Its z) g tb D σ H1 := rfl
theorem tLc_rng1 {ta : TA} {tt : TT} {te : TE} {σ : St} {H : Hp} {Q : VK} : tLc (iRng1 ta) tt te σ H Q = ta σ H fun vs H1 => ∃ j : Int, vs = [.int j] ∧ -(2 ^ 62) ≤ j ∧ j < 2 ^ 62 ∧ LcR (Itr 0 j.toNat) tt te σ Q H1 := rfl
theorem tLc_list {K : PySem.W.Frag} {tl : TE} {tt : TT} {te : TE} {σ : St} {H : Hp} {Q : VK} : tLc (iList K tl) tt te σ H Q = tl σ H fun x H1 => ∃ a, x = .ref a ∧ (∃ xs, SqL K H1 a xs) ∧ LcR (Itl K a) tt te σ Q H1 := rfl
theorem tLc_tup {K : PySem.W.Frag} {tl : TE} {tt : TT} {te : TE} {σ : St} {H : Hp} {Q : VK} : tLc (iTup K tl) tt te σ H Q = tl σ H fun x H1 => ∃ a, x = .ref a ∧ (∃ xs, SqT K H1 a xs) ∧ LcR (Itt K a) tt te σ Q H1 := rfl
theorem tLc_str {tl : TE} {tt : TT} {te : TE} {σ : St} {H : Hp} {Q : VK} : tLc (iStr tl) tt te σ H Q = tl σ H fun x H1 => ∃ z, x = .str z ∧ LcR (Its z) tt te σ Q H1 := rfl
theorem foR_range {lo : Int} {n : Nat} {g : TG} {tb : TS} {D : Ends} {σ : St} {H : Hp} (Pv : Nat → St → Hp → Prop) (h0 : Pv 0 σ H)
    (hs : ∀ i σ H, i < n → Pv i σ H → g (.int (lo + i)) σ H fun σ2 H2 => tb { D with nx := Pv (i + 1), ct := Pv (i + 1), bk := D.nx } σ2 H2) (hd : ∀ σ H, Pv n σ H → D.nx σ H) : FoR (Itr lo n) g tb D σ H := for_range Pv h0 hs hd
theorem foR_list {K : PySem.W.Frag} {a : Addr} (xs : List V) {g : TG} {tb : TS} {D : Ends} {σ : St} {H : Hp} (Pv : Nat → St → Hp → Prop) (h0 : Pv 0 σ H) (hl : ∀ i σ H, i ≤ xs.length → Pv i σ H → SqL K H a xs)
    (hs : ∀ i x σ H, xs[i]? = some x → Pv i σ H → g x σ H fun σ2 H2 => tb { D with nx := Pv (i + 1), ct := Pv (i + 1), bk := D.nx } σ2 H2) (hd : ∀ σ H, Pv xs.length σ H → D.nx σ H) : FoR (Itl K a) g tb D σ H := for_list Pv h0 hl hs hd
/-- a comprehension over n things, each of which an item it i yields: the items told by what is true of them -/
theorem lcR_of {J : It} {te : TE} {σ : St} {H1 : Hp} {Q : VK} (n : Nat) (item : Nat → V → Prop) (P : Nat → V → Prop) (hz : n ≤ sizeLine)
    (hgo : ∀ i H2, i < n → Same H1 H2 → J.go i H2 ∧ ∀ x H', J.yld i H2 x H' → H' = H2 ∧ item i x) (hst : ∀ H2, Same H1 H2 → J.stop n H2)
    (he : ∀ i x H2 (R : VK), item i x → Same H1 H2 → (∀ v H3, P i v → Same H2 H3 → R v H3) → te (some x :: σ) H2 R)
    (hq : ∀ D H2 ys, H1 D = none → Same H1 H2 → H2 D = some (.lst ys) → ys.length = n → (∀ i y, ys[i]? = some y → P i y) → Q (.ref D) H2) : LcR J tYes te σ Q H1 := by
  intro D hD
  refine ⟨fun i m ys H2 => m = n - i ∧ i ≤ n ∧ ys.length = i ∧ H2 D = some (.lst ys) ∧ Same H1 H2 ∧ ∀ j y, ys[j]? = some y → P j y, ⟨_, rfl, Nat.zero_le _, rfl, upd_same, same_upd hD _, fun j y h => by simp at h⟩, ?_⟩
  rintro i m ys H2 ⟨rfl, hi, hl, hd, sm, hp⟩
  refine ⟨hd, ?_⟩
  by_cases hlt : i < n
  · obtain ⟨go, yl⟩ := hgo i H2 hlt sm
    refine .inr ⟨go, by omega, fun x H' y => ?_⟩
    obtain ⟨e, hx⟩ := yl x H' y
    subst e
    unfold tYes
    refine iteT ?_
    refine he i x _ _ hx sm fun v H3 pv s3 => ⟨s3 _ _ hd, n - (i + 1), by omega, rfl, hlt, by rw [List.length_append, hl]; rfl, upd_same, (sm.trans s3).updL hD _, fun j y h => ?_⟩
    by_cases hj : j < ys.length
    · rw [List.getElem?_append_left hj] at h
      exact hp j y h
    · rw [List.getElem?_append_right (by omega)] at h
      have hj2 : j = i := by
        have := (List.getElem?_eq_some_iff.mp h).1
        simp at this
        omega
      subst hj2
      rw [hl] at h
      simp at h
      subst h
      exact pv
  · have e : i = n := by omega
    subst e
    exact .inl ⟨hst H2 sm, hq D H2 ys hD sm hd hl hp⟩
theorem lcR_range {te : TE} {σ : St} {H1 : Hp} {Q : VK} {lo : Int} {n : Nat} (P : Nat → V → Prop) (hz : n ≤ sizeLine)
    (he : ∀ (i : Nat) H2 (R : VK), i < n → Same H1 H2 → (∀ v H3, P i v → Same H2 H3 → R v H3) → te (some (.int (lo + i)) :: σ) H2 R)
    (hq : ∀ D H2 ys, H1 D = none → Same H1 H2 → H2 D = some (.lst ys) → ys.length = n → (∀ i y, ys[i]? = some y → P i y) → Q (.ref D) H2) : LcR (Itr lo n) tYes te σ Q H1 :=
  lcR_of n (fun i x => i < n ∧ x = .int (lo + i)) P hz (fun i H2 hi _ => ⟨hi, fun x H' y => ⟨y.1, hi, y.2⟩⟩) (fun _ _ => Nat.le_refl _) (fun i x H2 R ⟨hi, e⟩ s r => by subst e; exact he i H2 R hi s r) hq
theorem lcR_list {K : PySem.W.Frag} {a : Addr} (xs : List V) {te : TE} {σ : St} {H1 : Hp} {Q : VK} (P : Nat → V → Prop) (hx : SqL K H1 a xs) (hz : xs.length ≤ sizeLine)
    (he : ∀ i x H2 (R : VK), xs[i]? = some x → Same H1 H2 → (∀ v H3, P i v → Same H2 H3 → R v H3) → te (some x :: σ) H2 R)
    (hq : ∀ D H2 ys, H1 D = none → Same H1 H2 → H2 D = some (.lst ys) → ys.length = xs.length → (∀ i y, ys[i]? = some y → P i y) → Q (.ref D) H2) : LcR (Itl K a) tYes te σ Q H1 :=
  lcR_of xs.length (fun i x => xs[i]? = some x) P hz (fun i H2 hi s => ⟨⟨xs, xs[i], s.seq hx, by simp [hi]⟩, fun x H' y => ⟨y.1, y.2 xs (s.seq hx)⟩⟩) (fun H2 s => ⟨xs, s.seq hx, Nat.le_refl _⟩) he hq
theorem lcR_tup {K : PySem.W.Frag} {a : Addr} (xs : List V) {te : TE} {σ : St} {H1 : Hp} {Q : VK} (P : Nat → V → Prop) (hx : SqT K H1 a xs) (hz : xs.length ≤ sizeLine)
    (he : ∀ i x H2 (R : VK), xs[i]? = some x → Same H1 H2 → (∀ v H3, P i v → Same H2 H3 → R v H3) → te (some x :: σ) H2 R)
    (hq : ∀ D H2 ys, H1 D = none → Same H1 H2 → H2 D = some (.lst ys) → ys.length = xs.length → (∀ i y, ys[i]? = some y → P i y) → Q (.ref D) H2) : LcR (Itt K a) tYes te σ Q H1 :=
  lcR_of xs.length (fun i x => xs[i]? = some x) P hz (fun i H2 hi s => ⟨⟨xs, xs[i], s.seqT hx, by simp [hi]⟩, fun x H' y => ⟨y.1, y.2 xs (s.seqT hx)⟩⟩) (fun H2 s => ⟨xs, s.seqT hx, Nat.le_refl _⟩) he hq
theorem lcR_str {z : Str} {te : TE} {σ : St} {H1 : Hp} {Q : VK} (P : Nat → V → Prop) (hz : z.length ≤ sizeLine)
    (he : ∀ i c H2 (R : VK), z.cps.toList[i]? = some c → Same H1 H2 → (∀ v H3, P i v → Same H2 H3 → R v H3) → te (some (.str ⟨#[c]⟩) :: σ) H2 R)
    (hq : ∀ D H2 ys, H1 D = none → Same H1 H2 → H2 D = some (.lst ys) → ys.length = z.length → (∀ i y, ys[i]? = some y → P i y) → Q (.ref D) H2) : LcR (Its z) tYes te σ Q H1 :=
  lcR_of z.length (fun i x => ∃ c, z.cps.toList[i]? = some c ∧ x = .str ⟨#[c]⟩) P hz (fun i H2 hi _ => ⟨hi, fun x H' ⟨e, c, hc, ex⟩ => ⟨e, c, by simpa using hc, ex⟩⟩) (fun _ _ => Nat.le_refl _) (fun i x H2 R ⟨c, hc, e⟩ s r => by subst e; exact he i c H2 R hc s r) hq
end L2


end
section
set_option linter.all false
namespace SortT
open PySem PySem.W PyProof.Rows
/-- the tree's answer where i comes before j just where r i < r j; all that is asked lies below n -/
def spec {α : Type} (n : Nat) (r : Nat → Nat) : KasT α → (α → Prop) → Prop
  | .ret a, Q => Q a
  | .ask i j k, Q => i < n ∧ j < n ∧ spec n r (k (decide (r i < r j))) Q
theorem spec_mono {α : Type} {n : Nat} {r : Nat → Nat} {Q Q' : α → Prop} (h : ∀ a, Q a → Q' a) : ∀ t : KasT α, spec n r t Q → spec n r t Q'
  | .ret a, q => h a q
  | .ask i j k, q => ⟨q.1, q.2.1, spec_mono h (k _) q.2.2⟩
theorem spec_bind {α β : Type} {n : Nat} {r : Nat → Nat} {f : α → KasT β} {Q : β → Prop} : ∀ t : KasT α, spec n r t (fun a => spec n r (f a) Q) → spec n r (t.bind f) Q
  | .ret a, q => q
  | .ask i j k, q => ⟨q.1, q.2.1, spec_bind (k _) q.2.2⟩
theorem spec_wp {α : Type} {n : Nat} {r : Nat → Nat} {cmp : Nat → Nat → (Bool → Shared → Prop) → Shared → Prop} {Q : α → Shared → Prop} {I : Shared → Prop} (hc : ∀ i j C s, i < n → j < n → I s → (∀ s', I s' → C (decide (r i < r j)) s') → cmp i j C s) :
    ∀ (t : KasT α) (s : Shared), I s → spec n r t (fun a => ∀ s', I s' → Q a s') → t.kasWp cmp Q s
  | .ret a, s, hs, q => q s hs
  | .ask i j k, s, hs, q => hc i j _ s q.1 q.2.1 hs fun s' hs' => spec_wp hc (k _) s' hs' q.2.2
def K (r : Nat → Nat) (p : Array Nat) (i : Nat) : Nat := r (p.getD i 0)
structure Ok (n : Nat) (p : Array Nat) : Prop where
  size : p.size = n
  perm : p.Perm (List.range n).toArray
theorem Ok.lt {n : Nat} {p : Array Nat} (h : Ok n p) (hn : 0 < n) (i : Nat) : p.getD i 0 < n := by
  rw [Array.getD_eq_getD_getElem?]
  cases e : p[i]? with
  | none => exact hn
  | some x =>
    have hx : x ∈ p := Array.mem_of_getElem? e
    have := (h.perm.mem_iff (a := x)).mp hx
    simpa using this
theorem Ok.start (n : Nat) : Ok n (List.range n).toArray := ⟨by simp, Array.Perm.refl _⟩
theorem Ok.rev {n : Nat} {p : Array Nat} (h : Ok n p) (i j : Nat) : Ok n (kas_rev p i j) := ⟨(mirror_size _ _ _ _).trans h.size, (mirror_perm _ _ _ _).trans h.perm⟩
theorem Ok.bub {n : Nat} {p : Array Nat} (h : Ok n p) (i j : Nat) : Ok n (bubble p i j) := ⟨(bubble_size _ _ _).trans h.size, (bubble_perm _ _ _).trans h.perm⟩
theorem K_of {r : Nat → Nat} {p q : Array Nat} {i j : Nat} (h : p[i]? = q[j]?) : K r p i = K r q j := by
  unfold K; rw [Array.getD_eq_getD_getElem?, Array.getD_eq_getD_getElem?, h]
theorem K_rev {r : Nat → Nat} {p : Array Nat} {i j : Nat} (hj : j ≤ p.size) (k : Nat) : K r (kas_rev p i j) k = if i ≤ k ∧ k < j then K r p (i + j - 1 - k) else K r p k := by
  have h := getElem?_mirror (xs := p) (i := i) hj ((j - i) / 2) (by omega) k
  unfold kas_rev
  by_cases hk : (i ≤ k ∧ k < i + (j - i) / 2) ∨ (j - (j - i) / 2 ≤ k ∧ k < j)
  · rw [if_pos hk] at h
    rw [if_pos (by omega)]
    exact K_of h
  · rw [if_neg hk] at h
    by_cases hk2 : i ≤ k ∧ k < j
    · rw [if_pos hk2]
      have e : i + j - 1 - k = k := by omega
      rw [e]
      exact K_of h
    · rw [if_neg hk2]
      exact K_of h
theorem K_bub {r : Nat → Nat} {p : Array Nat} {k l : Nat} (hk : k < p.size) (hl : l ≤ k) (x : Nat) : K r (bubble p k (k - l)) x = if x = l then K r p k else if l < x ∧ x ≤ k then K r p (x - 1) else K r p x := by
  have h := getElem?_bubble (xs := p) hk (k - l) (by omega) x
  have e : k - (k - l) = l := by omega
  rw [e] at h
  by_cases h1 : x = l
  · rw [if_pos h1] at h ⊢; exact K_of h
  · rw [if_neg h1] at h ⊢
    by_cases h2 : l < x ∧ x ≤ k
    · rw [if_pos h2] at h ⊢; exact K_of h
    · rw [if_neg h2] at h ⊢; exact K_of h
def Up (r : Nat → Nat) (p : Array Nat) (m : Nat) : Prop := ∀ i j, i ≤ j → j < m → K r p i ≤ K r p j
def Dn (r : Nat → Nat) (p : Array Nat) (m : Nat) : Prop := ∀ i j, i ≤ j → j < m → K r p j ≤ K r p i
variable {n : Nat} {r : Nat → Nat}
theorem asc_ok {p : Array Nat} (hp : Ok n p) (hn : 0 < n) : ∀ (f m : Nat), 1 ≤ m → m + f ≤ n → Up r p m → spec n r (kas_asc p f m) fun k => m ≤ k ∧ k ≤ m + f ∧ Up r p k ∧ (k < m + f → K r p k < K r p (k - 1))
  | 0, m, h1, h2, u => ⟨Nat.le_refl _, Nat.le_refl _, u, fun h => absurd h (by omega)⟩
  | f + 1, m, h1, h2, u => by
    refine ⟨hp.lt hn _, hp.lt hn _, ?_⟩
    show spec n r (if decide (K r p m < K r p (m - 1)) = true then .ret m else kas_asc p f (m + 1)) _
    by_cases h : K r p m < K r p (m - 1)
    · rw [if_pos (decide_eq_true h)]
      exact ⟨Nat.le_refl _, by omega, u, fun _ => h⟩
    · rw [if_neg (by simpa using h)]
      refine spec_mono (fun k hk => ⟨by omega, by omega, hk.2.2.1, fun h' => hk.2.2.2 (by omega)⟩) _ (asc_ok hp hn f (m + 1) (by omega) (by omega) fun i j hij hj => ?_)
      by_cases hjm : j = m
      · subst hjm
        by_cases him : i = j
        · rw [him]; exact Nat.le_refl _
        · have := u i (j - 1) (by omega) (by omega); omega
      · exact u i j hij (by omega)
theorem rev_up {p : Array Nat} {m : Nat} (hm : m ≤ p.size) (d : Dn r p m) : Up r (kas_rev p 0 m) m := fun i j hij hj => by
  rw [K_rev hm, K_rev hm, if_pos (by omega), if_pos (by omega)]
  exact d _ _ (by omega) (by omega)
theorem tail_ok {p : Array Nat} (hp : Ok n p) (hn : 0 < n) {m : Nat} (h1 : 1 ≤ m) (hm : m ≤ n) (d : Dn r p m) : spec n r (kas_tail3 m n p) fun q => 1 ≤ q.1 ∧ q.1 ≤ n ∧ Ok n q.2 ∧ Up r q.2 q.1 := by
  unfold kas_tail3
  refine spec_bind _ (spec_mono (fun k hk => ?_) _ (asc_ok (hp.rev 0 m) hn (n - m) m h1 (by omega) (rev_up (by rw [hp.size]; exact hm) d)))
  exact ⟨by omega, by omega, hp.rev 0 m, hk.2.2.1⟩
/-- a block of equals turned round changes no rank -/
theorem rev_same {p : Array Nat} {a b : Nat} (hb : b ≤ p.size) (h : ∀ i, a ≤ i → i < b → K r p i = K r p a) (k : Nat) : K r (kas_rev p a b) k = K r p k := by
  rw [K_rev hb]
  by_cases hk : a ≤ k ∧ k < b
  · rw [if_pos hk, h _ (by omega) (by omega), h k hk.1 hk.2]
  · rw [if_neg hk]
theorem desc_ok (hn : 0 < n) : ∀ (f : Nat) (p : Array Nat) (m q : Nat), Ok n p → q + 1 ≤ m → m + f ≤ n → Dn r p m → (∀ i, m - (q + 1) ≤ i → i < m → K r p i = K r p (m - (q + 1))) →
    spec n r (kas_desc f p m q) fun x => Ok n x.1 ∧ m ≤ x.2.1 ∧ x.2.1 ≤ m + f ∧ x.2.2 + 1 ≤ x.2.1 ∧ Dn r x.1 x.2.1 ∧ ∀ i, x.2.1 - (x.2.2 + 1) ≤ i → i < x.2.1 → K r x.1 i = K r x.1 (x.2.1 - (x.2.2 + 1))
  | 0, p, m, q, hp, hq, hf, d, e => ⟨hp, Nat.le_refl _, Nat.le_refl _, hq, d, e⟩
  | f + 1, p, m, q, hp, hq, hf, d, e => by
    have step : ∀ p' : Array Nat, Ok n p' → (∀ k, K r p' k = K r p k) → ∀ q', q' + 1 ≤ m + 1 → K r p m ≤ K r p (m - 1) → (∀ i, m + 1 - (q' + 1) ≤ i → i < m + 1 → K r p i = K r p (m + 1 - (q' + 1))) → Dn r p' (m + 1) ∧ ∀ i, m + 1 - (q' + 1) ≤ i → i < m + 1 → K r p' i = K r p' (m + 1 - (q' + 1)) := fun p' hp' hk q' hq' hle he => by
      refine ⟨fun i j hij hj => ?_, fun i h1 h2 => by rw [hk, hk]; exact he i h1 h2⟩
      rw [hk, hk]
      by_cases hjm : j = m
      · subst hjm
        by_cases him : i = j
        · rw [him]; exact Nat.le_refl _
        · have := d i (j - 1) (by omega) (by omega); omega
      · exact d i j hij (by omega)
    refine ⟨hp.lt hn _, hp.lt hn _, ?_⟩
    show spec n r (if decide (K r p m < K r p (m - 1)) = true then (if q > 0 then kas_desc f (kas_rev p (m - (q + 1)) m) (m + 1) 0 else kas_desc f p (m + 1) 0) else .ask (p.getD (m - 1) 0) (p.getD m 0) fun d => if d = true then .ret (p, m, q) else kas_desc f p (m + 1) (q + 1)) _
    by_cases h : K r p m < K r p (m - 1)
    · rw [if_pos (decide_eq_true h)]
      have one : ∀ i, m + 1 - (0 + 1) ≤ i → i < m + 1 → K r p i = K r p (m + 1 - (0 + 1)) := fun i h1 h2 => by
        have : i = m + 1 - (0 + 1) := by omega
        rw [this]
      have post : ∀ {x : Array Nat × Nat × Nat}, (Ok n x.1 ∧ m + 1 ≤ x.2.1 ∧ x.2.1 ≤ m + 1 + f ∧ x.2.2 + 1 ≤ x.2.1 ∧ Dn r x.1 x.2.1 ∧ ∀ i, x.2.1 - (x.2.2 + 1) ≤ i → i < x.2.1 → K r x.1 i = K r x.1 (x.2.1 - (x.2.2 + 1))) →
          Ok n x.1 ∧ m ≤ x.2.1 ∧ x.2.1 ≤ m + (f + 1) ∧ x.2.2 + 1 ≤ x.2.1 ∧ Dn r x.1 x.2.1 ∧ ∀ i, x.2.1 - (x.2.2 + 1) ≤ i → i < x.2.1 → K r x.1 i = K r x.1 (x.2.1 - (x.2.2 + 1)) := fun hx => ⟨hx.1, by omega, by omega, hx.2.2.2.1, hx.2.2.2.2.1, hx.2.2.2.2.2⟩
      by_cases hq0 : q > 0
      · rw [if_pos hq0]
        have hs := step (kas_rev p (m - (q + 1)) m) (hp.rev _ _) (rev_same (by rw [hp.size]; omega) e) 0 (by omega) (by omega) one
        exact spec_mono (fun x hx => post hx) _ (desc_ok hn f _ (m + 1) 0 (hp.rev _ _) (by omega) (by omega) hs.1 hs.2)
      · rw [if_neg hq0]
        have hs := step p hp (fun _ => rfl) 0 (by omega) (by omega) one
        exact spec_mono (fun x hx => post hx) _ (desc_ok hn f _ (m + 1) 0 hp (by omega) (by omega) hs.1 hs.2)
    · rw [if_neg (by simpa using h)]
      refine ⟨hp.lt hn _, hp.lt hn _, ?_⟩
      show spec n r (if decide (K r p (m - 1) < K r p m) = true then .ret (p, m, q) else kas_desc f p (m + 1) (q + 1)) _
      by_cases h2 : K r p (m - 1) < K r p m
      · rw [if_pos (decide_eq_true h2)]
        exact ⟨hp, Nat.le_refl _, Nat.le_add_right _ _, hq, d, e⟩
      · rw [if_neg (by simpa using h2)]
        have he : ∀ i, m + 1 - (q + 1 + 1) ≤ i → i < m + 1 → K r p i = K r p (m + 1 - (q + 1 + 1)) := fun i h3 h4 => by
          have e1 : m + 1 - (q + 1 + 1) = m - (q + 1) := by omega
          rw [e1] at h3 ⊢
          by_cases him : i = m
          · have := e (m - 1) (by omega) (by omega)
            rw [him]; omega
          · exact e i h3 (by omega)
        have hs := step p hp (fun _ => rfl) (q + 1) (by omega) (by omega) he
        exact spec_mono (fun x hx => ⟨hx.1, by omega, by omega, hx.2.2.2.1, hx.2.2.2.2.1, hx.2.2.2.2.2⟩) _ (desc_ok hn f _ (m + 1) (q + 1) hp (by omega) (by omega) hs.1 hs.2)
theorem descPart_ok {p : Array Nat} (hp : Ok n p) (hn : 0 < n) {m : Nat} (h1 : 1 ≤ m) (hm : m + 1 ≤ n) (d : Dn r p (m + 1)) : spec n r (kas_descPart m n p) fun q => 1 ≤ q.1 ∧ q.1 ≤ n ∧ Ok n q.2 ∧ Up r q.2 q.1 := by
  unfold kas_descPart
  refine spec_bind _ (spec_mono (fun x hx => ?_) _ (desc_ok hn (n - (m + 1)) p (m + 1) 0 hp (by omega) (by omega) d fun i h3 h4 => by
    have : i = m + 1 - (0 + 1) := by omega
    rw [this]))
  obtain ⟨ho, h3, h4, h5, hd, he⟩ := hx
  by_cases hq : x.2.2 > 0
  · rw [if_pos hq]
    refine tail_ok (ho.rev _ _) hn (by omega) (by omega) fun i j hij hj => ?_
    rw [rev_same (by rw [ho.size]; omega) he, rev_same (by rw [ho.size]; omega) he]
    exact hd i j hij hj
  · rw [if_neg hq]
    exact tail_ok ho hn (by omega) (by omega) hd
theorem count_ok {p : Array Nat} (hp : Ok n p) (hn : 0 < n) : spec n r (kas_count n p) fun q => 1 ≤ q.1 ∧ q.1 ≤ n ∧ Ok n q.2 ∧ Up r q.2 q.1 := by
  unfold kas_count
  refine spec_bind _ (spec_mono (fun m hm => ?_) _ (asc_ok hp hn (n - 1) 1 (Nat.le_refl _) (by omega) fun i j hij hj => by
    have : i = j := by omega
    rw [this]; exact Nat.le_refl _))
  obtain ⟨h1, h2, u, hlt⟩ := hm
  by_cases he : m = n
  · rw [if_pos (by simpa using he)]
    exact ⟨h1, by omega, hp, u⟩
  · rw [if_neg (by simpa using he)]
    have hlt' : K r p m < K r p (m - 1) := hlt (by omega)
    by_cases h3 : m > 1
    · rw [if_pos h3]
      refine ⟨hp.lt hn _, hp.lt hn _, ?_⟩
      show spec n r (if decide (K r p 0 < K r p (m - 1)) = true then .ret (m, p) else kas_descPart m n (kas_rev p 0 m)) _
      by_cases h4 : K r p 0 < K r p (m - 1)
      · rw [if_pos (decide_eq_true h4)]
        exact ⟨h1, by omega, hp, u⟩
      · rw [if_neg (by simpa using h4)]
        have eq : ∀ i, 0 ≤ i → i < m → K r p i = K r p 0 := fun i _ hi => by
          have a := u 0 i (by omega) hi
          have b := u i (m - 1) (by omega) (by omega)
          omega
        refine descPart_ok (hp.rev 0 m) hn h1 (by omega) fun i j hij hj => ?_
        rw [rev_same (by rw [hp.size]; omega) eq, rev_same (by rw [hp.size]; omega) eq]
        by_cases hjm : j = m
        · subst hjm
          by_cases hij' : i = j
          · rw [hij']; exact Nat.le_refl _
          · rw [eq i (by omega) (by omega)]
            have := eq (j - 1) (by omega) (by omega)
            omega
        · rw [eq i (by omega) (by omega), eq j (by omega) (by omega)]
          exact Nat.le_refl _
    · rw [if_neg h3]
      refine descPart_ok hp hn h1 (by omega) fun i j hij hj => ?_
      have hm1 : m = 1 := by omega
      subst hm1
      by_cases hij' : i = j
      · rw [hij']; exact Nat.le_refl _
      · have hi0 : i = 0 := by omega
        have hj1 : j = 1 := by omega
        subst hi0 hj1
        exact Nat.le_of_lt hlt'
theorem place_ok {p : Array Nat} (hp : Ok n p) (hn : 0 < n) {k : Nat} (u : Up r p k) : ∀ (f l q : Nat), l ≤ q → q ≤ k → q - l ≤ f → (∀ i, i < l → K r p i ≤ K r p k) → (∀ i, q ≤ i → i < k → K r p k < K r p i) →
    spec n r (kas_place p k f l q) fun x => x ≤ k ∧ (∀ i, i < x → K r p i ≤ K r p k) ∧ ∀ i, x ≤ i → i < k → K r p k < K r p i
  | 0, l, q, h1, h2, h3, a, b => by
    have e : l = q := by omega
    subst e
    exact ⟨h2, a, b⟩
  | f + 1, l, q, h1, h2, h3, a, b => by
    unfold kas_place
    by_cases hlq : l ≥ q
    · rw [if_pos hlq]
      have e : l = q := by omega
      subst e
      exact ⟨h2, a, b⟩
    · rw [if_neg hlq]
      refine ⟨hp.lt hn _, hp.lt hn _, ?_⟩
      show spec n r (if decide (K r p k < K r p ((l + q) / 2)) = true then kas_place p k f l ((l + q) / 2) else kas_place p k f ((l + q) / 2 + 1) q) _
      by_cases h : K r p k < K r p ((l + q) / 2)
      · rw [if_pos (decide_eq_true h)]
        refine place_ok hp hn u f l _ (by omega) (by omega) (by omega) a fun i hi hik => ?_
        have := u ((l + q) / 2) i hi hik
        omega
      · rw [if_neg (by simpa using h)]
        refine place_ok hp hn u f _ q (by omega) (by omega) (by omega) (fun i hi => ?_) b
        have := u i ((l + q) / 2) (by omega) (by omega)
        omega
theorem bin_ok (hn : 0 < n) : ∀ (f : Nat) (p : Array Nat) (k : Nat), Ok n p → k + f = n → Up r p k → spec n r (kas_bin f p k) fun q => Ok n q ∧ Up r q n
  | 0, p, k, hp, h, u => ⟨hp, by rw [← h]; exact u⟩
  | f + 1, p, k, hp, h, u => by
    unfold kas_bin
    refine spec_bind _ (spec_mono (fun x hx => ?_) _ (place_ok hp hn u k 0 k (Nat.zero_le _) (Nat.le_refl _) (by omega) (fun i hi => absurd hi (by omega)) fun i h1 h2 => absurd h2 (by omega)))
    obtain ⟨hx1, hx2, hx3⟩ := hx
    refine bin_ok hn f _ (k + 1) (hp.bub _ _) (by omega) fun i j hij hj => ?_
    rw [K_bub (by rw [hp.size]; omega) hx1, K_bub (by rw [hp.size]; omega) hx1]
    by_cases hi1 : i = x
    · rw [if_pos hi1]
      by_cases hj1 : j = x
      · rw [if_pos hj1]; exact Nat.le_refl _
      · rw [if_neg hj1, if_pos (by omega)]
        exact Nat.le_of_lt (hx3 (j - 1) (by omega) (by omega))
    · rw [if_neg hi1]
      by_cases hi2 : x < i ∧ i ≤ k
      · rw [if_pos hi2, if_neg (by omega), if_pos (by omega)]
        exact u _ _ (by omega) (by omega)
      · rw [if_neg hi2]
        by_cases hj1 : j = x
        · rw [if_pos hj1]; exact hx2 i (by omega)
        · rw [if_neg hj1]
          by_cases hj2 : x < j ∧ j ≤ k
          · rw [if_pos hj2]; exact u _ _ (by omega) (by omega)
          · rw [if_neg hj2]; exact u _ _ (by omega) (by omega)
theorem sort_ok (hn : 0 < n) : spec n r (kas_sort n) fun q => Ok n q ∧ Up r q n := by
  unfold kas_sort
  refine spec_bind _ (spec_mono (fun x hx => ?_) _ (count_ok (Ok.start n) hn))
  obtain ⟨h1, h2, ho, u⟩ := hx
  by_cases h : x.1 < n
  · rw [if_pos h]
    have e : max x.1 1 = x.1 := by omega
    rw [e]
    exact bin_ok hn _ _ _ ho (by omega) u
  · rw [if_neg h]
    have e : x.1 = n := by omega
    rw [e] at u
    exact ⟨ho, u⟩
end SortT


end
section
set_option Elab.async false
set_option linter.all false
set_option maxRecDepth 100000
set_option maxHeartbeats 4000000
namespace L2
open PySem PySem.Spec PyProof.Rows PySem.W
theorem katLex_V {prog : Program} {w : World} {A : Around} {s : Shared} {Q : Bool → Shared → Prop} {b : Bool} {r : Bool} (q : Q r s) : ∀ (xs ys : List V) (us ws : List Value) (i : Nat) (fin : Bool), Vals xs us → Vals ys ws → HT.lexV xs ys = some r →
    fin = decide (xs.length < ys.length) → (b = true → i = 0 → ∀ x ∈ xs.head?, ∃ n, x = V.int n) → KatLex prog w A b fin Q (us.zip ws) i s := by
  intro xs
  induction xs with
  | nil =>
    intro ys us ws i fin rx ry hl hf hb
    cases rx
    cases ry with
    | nil => rw [HT.lexV_nil_nil] at hl; cases hl; rw [hf]; exact kat_nil q
    | cons c d => rw [HT.lexV_nil_cons] at hl; cases hl; rw [hf]; exact kat_nil (by simpa using q)
  | cons x xs ih =>
    intro ys us ws i fin rx ry hl hf hb
    cases rx with
    | cons r1 rt =>
      rename_i u us
      cases ry with
      | nil => rw [HT.lexV_cons_nil] at hl; cases hl; rw [hf]; exact kat_nil (by simpa using q)
      | cons r2 rt2 =>
        rename_i y w2 ys ws
        rw [List.zip_cons_cons]
        have hf' : fin = decide (xs.length < ys.length) := by rw [hf]; simp
        cases x with
        | int m =>
          cases y with
          | int n =>
            obtain ⟨t, rfl⟩ := r1
            obtain ⟨t2, rfl⟩ := r2
            simp only [HT.lexV] at hl
            refine kat_cons (wpAny_eqBool_int ?_)
            by_cases e : m = n
            · rw [if_pos e] at hl
              rw [show (m == n) = true by simpa using e]
              exact kat_yes (ih ys _ _ (i + 1) fin rt rt2 hl hf' fun _ z => absurd z (by omega))
            · rw [if_neg e] at hl
              cases hl
              rw [show (m == n) = false by simpa using e]
              refine kat_no ?_
              cases eb : (b && i == 0) with
              | true => exact oneLt_int q
              | false => exact kat_one _ _ (lt_int (show PySem.W.BoolBack Q (.bool _) s from q))
          | _ => simp [HT.lexV] at hl
        | str m =>
          cases y with
          | str n =>
            obtain ⟨t, rfl⟩ := r1
            obtain ⟨t2, rfl⟩ := r2
            simp only [HT.lexV] at hl
            refine kat_cons (PyProof.Rows.eqBool_str ?_)
            by_cases e : m = n
            · rw [if_pos e] at hl
              rw [show (m == n) = true by simpa using e]
              exact kat_yes (ih ys _ _ (i + 1) fin rt rt2 hl hf' fun _ z => absurd z (by omega))
            · rw [if_neg e] at hl
              cases hl
              rw [show (m == n) = false by simpa using e]
              refine kat_no ?_
              cases eb : (b && i == 0) with
              | true =>
                rw [Bool.and_eq_true] at eb
                obtain ⟨n', z⟩ := hb eb.1 (by simpa using eb.2) _ rfl
                cases z
              | false => exact kat_one _ _ (lt_str (show PySem.W.BoolBack Q (.bool _) s from q))
          | _ => simp [HT.lexV] at hl
        | _ => cases y <;> simp [HT.lexV] at hl

theorem Inv.adopt {X : Cx} {pins : List (Addr × Obj)} {σ : St} {H : Hp} {s : Shared} {h' : Heap} {D : Addr} {o : HO} {t' : Nat} (I : Inv X pins σ H s) (f : FpOk X pins H D) (k : ∀ b u, b ≠ D → s.heap.get? b = some u → h'.get? b = some u)
    (new : ObjOk X.prog X.w (upd H D o) h' D o) : Inv X pins σ (upd H D o) { s with heap := h', toks := t' } := by
  obtain ⟨f0, f1, f2, f3, f4, f5⟩ := f
  have nit : ∀ b u, H b = some u → b ≠ D := fun b u e z => by rw [z, f0] at e; cases e
  refine I.step (g' := s.gens) (d' := s.drawn) (ch := [D]) (fun b hb => ?_) (fun b o _ _ hc e _ => k b o (fun z => hc (by simp [z])) e) (fun b o _ _ hc e _ => ⟨o.slots, k b o (fun z => hc (by simp [z])) e⟩) (fun b _ hc _ n => by rw [upd_ne (fun z => hc (by simp [z]))]; exact n)
    (fun b o hc e => ⟨o, k b o (fun z => hc (by simp [z])) e⟩) (fun b _ e => by rw [upd_ne (nit _ _ e)]; exact e) (fun b _ _ e => by rw [upd_ne (nit _ _ e)]; exact e) (fun b ps e => ⟨#[], by rw [upd_ne (nit _ _ e), e]; simp⟩) (fun m hm => ?_) (fun b u e => ?_) I.bare
  · have e : b = D := by simpa using hb
    subst e
    exact ⟨f3, f1, f4, f5⟩
  · obtain ⟨o, es, ep, ho, r⟩ := hm
    exact ⟨o, es, ep, k _ o (Ne.symm f1) ho, r⟩
  · by_cases hb : b = D
    · subst hb; rw [upd_same] at e; cases e; exact new
    · rw [upd_ne hb] at e
      refine (I.hok b u e).stay (fun c v hc q => k c v ?_ q) (fun c q => by rw [upd_ne (nit _ _ q)]; exact q) fun c xs q => by rw [upd_ne (nit _ _ q)]; exact q
      rcases hc with z | z
      · rw [z]; exact hb
      · exact nit c _ z

theorem Vals.getD : ∀ {xs : List V} {us : List Value}, Vals xs us → ∀ i, RelV (xs.getD i .non) (us.getD i Value.none) := fun {xs us} r i => by
  cases e : xs[i]? with
  | none =>
    have e2 := r.none_of e
    rw [List.getD_eq_getElem?_getD, List.getD_eq_getElem?_getD, e, e2]
    rfl
  | some x =>
    obtain ⟨u, e2, ru⟩ := r.get e
    rw [List.getD_eq_getElem?_getD, List.getD_eq_getElem?_getD, e, e2]
    exact ru
theorem Vals.pick {xs : List V} {us : List Value} (r : Vals xs us) : ∀ l : List Nat, Vals (l.map fun i => xs.getD i .non) (l.map fun i => us.getD i Value.none)
  | [] => .nil
  | i :: l => .cons (r.getD i) (r.pick l)
theorem countP_lt {α : Type} {p q : α → Bool} : ∀ {l : List α} {a : α}, (∀ x ∈ l, p x = true → q x = true) → a ∈ l → q a = true → p a = false → l.countP p < l.countP q
  | x :: l, a, h, hm, hq, hp => by
    have mono : l.countP p ≤ l.countP q := List.countP_mono_left fun y hy => h y (List.mem_cons_of_mem _ hy)
    rw [List.countP_cons, List.countP_cons]
    rcases List.mem_cons.mp hm with e | e
    · subst e
      rw [hq, hp]
      simp only [Bool.false_eq_true, if_false, if_true]
      omega
    · have ih := countP_lt (fun y hy => h y (List.mem_cons_of_mem _ hy)) e hq hp
      have hx := h x List.mem_cons_self
      cases hpx : p x with
      | false => simp only [Bool.false_eq_true, if_false]; split <;> omega
      | true => rw [hx hpx]; simp only [if_true]; omega

/-- lt is a strict weak order on xs -/
structure Swo {α : Type} (xs : List α) (lt : α → α → Bool) : Prop where
  irr : ∀ a ∈ xs, lt a a = false
  tr : ∀ a ∈ xs, ∀ b ∈ xs, ∀ c ∈ xs, lt a b = true → lt b c = true → lt a c = true
  neg : ∀ a ∈ xs, ∀ b ∈ xs, ∀ c ∈ xs, lt a c = true → lt a b = true ∨ lt b c = true
theorem Swo.rank {α : Type} {xs : List α} {lt : α → α → Bool} (w : Swo xs lt) {a b : α} (ha : a ∈ xs) (hb : b ∈ xs) : decide (xs.countP (lt · a) < xs.countP (lt · b)) = lt a b := by
  cases e : lt a b with
  | true => exact decide_eq_true (countP_lt (fun x hx h => w.tr x hx a ha b hb h e) ha e (w.irr a ha))
  | false =>
    refine decide_eq_false fun h => ?_
    have : xs.countP (lt · b) ≤ xs.countP (lt · a) := List.countP_mono_left fun x hx h => (w.neg x hx a ha b hb h).elim id fun z => by rw [e] at z; cases z
    omega
theorem getD_mem {α : Type} {xs : List α} {i : Nat} {d : α} (h : i < xs.length) : xs.getD i d ∈ xs := by
  rw [List.getD_eq_getElem?_getD, List.getElem?_eq_getElem h]
  exact List.getElem_mem h
theorem picks_perm {α : Type} {xs : List α} {d : α} {p : Array Nat} (h : SortT.Ok xs.length p) : (p.toList.map fun i => xs.getD i d).Perm xs := by
  have h1 : p.toList.Perm (List.range xs.length) := by
    have := Array.perm_iff_toList_perm.mp h.perm
    simpa using this
  have h2 := h1.map (fun i => xs.getD i d)
  have h3 : (List.range xs.length).map (fun i => xs.getD i d) = xs := by
    apply List.ext_getElem
    · simp
    · intro i h1 h2
      simp [h2]
  rw [h3] at h2
  exact h2
theorem picks_up {xs : List V} {lt : V → V → Bool} (w : Swo xs lt) {p : Array Nat} (h : SortT.Ok xs.length p) (hn : 0 < xs.length) (u : SortT.Up (fun i => xs.countP (lt · (xs.getD i .non))) p xs.length) :
    (p.toList.map fun i => xs.getD i V.non).Pairwise fun a b => lt b a = false := by
  rw [List.pairwise_iff_getElem]
  intro i j hi hj hij
  have hi' : i < p.size := by simpa using hi
  have hj' : j < p.size := by simpa using hj
  have hjn : j < xs.length := by rw [← h.size]; exact hj'
  have := u i j (by omega) hjn
  unfold SortT.K at this
  have gi : p.getD i 0 = p[i] := by simp [Array.getD, hi']
  have gj : p.getD j 0 = p[j] := by simp [Array.getD, hj']
  have li := h.lt hn i
  have lj := h.lt hn j
  rw [gi] at this li
  rw [gj] at this lj
  have e1 : (p.toList.map fun i => xs.getD i V.non)[i] = xs.getD p[i] .non := by simp
  have e2 : (p.toList.map fun i => xs.getD i V.non)[j] = xs.getD p[j] .non := by simp
  rw [e1, e2, ← w.rank (getD_mem lj) (getD_mem li)]
  dsimp only at this
  exact decide_eq_false (by omega)
end L2


end
section
set_option Elab.async false
set_option linter.all false
set_option maxRecDepth 100000
set_option maxHeartbeats 400000
namespace L2
open PySem PySem.Spec PyProof.Rows PySem.W
section
variable {X : Cx} {pins : List (Addr × Obj)} {σ : St} {H : Hp} {s : Shared} {k : Nat} {f : Addr} {fd : FuncData} {p0 : Str} {sp : Sp} {A : Around} {E : Value → Shared → Prop}
/-- what is known of the key function over the items -/
structure KeyF (K : PySem.W.Frag) (sp : Sp) (H : Hp) (xs : List V) (rk : V → List V) (lt : V → V → Bool) : Prop where
  hd : ∀ v ∈ xs, ∃ n r, rk v = .int n :: r
  key : ∀ v ∈ xs, ∀ H2, Same H H2 → ∀ R : VK, (∀ p H3, Same H2 H3 → SqT K H3 p (rk v) → R (.ref p) H3) → sp [v] H2 R E0
  lex : ∀ v ∈ xs, ∀ u ∈ xs, HT.lexV (rk v) (rk u) = some (lt v u)
  swo : Swo xs lt
/-- the keys made so far -/
def KeysAt (K : PySem.W.Frag) (H : Hp) (rk : V → List V) (xs : List V) (ks : List Value) : Prop :=
  ∃ ps : List Addr, ks = ps.map Value.ref ∧ ∀ (j : Nat) p v, ps[j]? = some p → xs[j]? = some v → SqT K H p (rk v)
theorem key_call (F : FnOk X.prog X.w X.K X.mg X.base CX0 k f fd [p0] sp) (hb : Binds X.K fd [p0] []) (hr : Room k A) (hfr : A.frames = some X.stack) (I : Inv X pins σ H s) {v : V} {u : Value} (r : RelV v u) {R : VK} (h : sp [v] H R E0) :
    wpAny (model X.prog X.w) A (call (.ref f) [u]) (EP X pins σ R) (fun _ _ => False) s := by
  have e0 := I.env0
  refine wpAny_call (codeAny_mono (F.run A X.stack s H ⟨[u], []⟩ [u] [v] R E0 hr ⟨hfr, e0.mod, e0.bs, e0.bsz, e0.funs, e0.frf, e0.hok, e0.bare⟩ (hb s [u] I.kIn rfl) (.cons r .nil) h) fun r s' hq => ?_)
  cases r with
  | error e => exact hq
  | ok fl =>
    cases fl with
    | ret u => exact I.after hq
    | next => exact False.elim hq
    | brk => exact False.elim hq
    | cont => exact False.elim hq
/-- behind the sorting: the key store and the list are written -/
theorem sort_tail {D kS : Addr} {e e1 : Nat} {ks : List Value} {out : List Value} {ys : List V} {st : SortSt} {P : PySem.Fin → Shared → Prop} (I : Inv X (pins ++ [(D, seqObj "list" #[] e1)]) σ H s) (fD : FpOk X pins H D) (fK : FpOk X (pins ++ [(D, seqObj "list" #[] e1)]) H kS)
    (hk : s.heap.get? kS = some (seqObj "list" ks.toArray e)) (hkl : ks.length < 1000) (hout : (arrOf st).map (·.2) = List.toArray out) (hf : failedOf st = none) (rv : Vals ys out) (hl : ys.length < 1000)
    (h : ∀ s', Inv X pins σ (upd H D (.lst ys)) s' → P (.done (.ret .none)) s') : wpAny (model X.prog X.w) A (ksk_tail D false e1 (.ref kS) st) P E s := by
  have hD := (I.pin (D, seqObj "list" #[] e1) (List.mem_append_right _ (List.mem_append_right _ (by simp)))).1
  have hDk : D ≠ kS := fK.2.2.2.2.2 (D, seqObj "list" #[] e1) (List.mem_append_right _ (List.mem_append_right _ (by simp)))
  have s1 := Heap.SameBut.update s.heap kS (Obj.mapSeq fun _ => (#[] : Array Value))
  have I1 : Inv X (pins ++ [(D, seqObj "list" #[] e1)]) σ H { s with heap := s.heap.update kS (Obj.mapSeq fun _ => (#[] : Array Value)) } :=
    I.turned (t' := s.toks) (fun b o hb q => (s1.2 b hb).trans q) fK.1 fK.2.1 fK.2.2.2.1 fK.2.2.2.2.1 fK.2.2.2.2.2
  have hD1 := (I1.pin (D, seqObj "list" #[] e1) (List.mem_append_right _ (List.mem_append_right _ (by simp)))).1
  have s2 := Heap.SameBut.update (s.heap.update kS (Obj.mapSeq fun _ => (#[] : Array Value))) D (Obj.mapSeq fun _ => List.toArray out)
  obtain ⟨c2, hc2⟩ : ∃ c2, ((s.heap.update kS (Obj.mapSeq fun _ => (#[] : Array Value))).update D (Obj.mapSeq fun _ => List.toArray out)).get? D = some (seqObj "list" (List.toArray out) c2) := ⟨_, get?_update_seq hD1 fun _ => List.toArray out⟩
  have ho : out.length < 1000 := by rw [← rv.length]; exact hl
  unfold ksk_tail
  try dsimp only
  rw [hout]
  simp only [Bool.false_eq_true, if_false]
  refine wpAny_bind (listUpdate_at hk rfl ?_ (by rw [List.size_toArray]; exact Nat.le_of_lt (small1000 (by omega))) (Nat.zero_le _))
  refine wpAny_bind (wpAny_letGo ?_)
  refine wpAny_bind (seqEpoch_at hD1 rfl ?_)
  refine wpAny_bind (listUpdate_at hD1 rfl ?_ (Nat.zero_le _) (by rw [List.size_toArray]; exact Nat.le_succ_of_le (Nat.le_of_lt (small1000 (by omega)))))
  rw [hf]
  simp only [bne_self_eq_false, Bool.false_eq_true, if_false]
  refine wpAny_pure (h _ ?_)
  exact (I1.unpinned).adopt (t' := s.toks) fD (fun b u hb q => (s2.2 b hb).trans q) ⟨Nat.le_of_lt (small1000 (by omega)), out, c2, rv, hc2⟩
theorem keys_tups {rk : V → List V} {xs : List V} : ∀ {ks : List Value}, (I : Inv X pins σ H s) → (∀ v ∈ xs, ∃ n r, rk v = .int n :: r) → ks.length = xs.length → KeysAt X.K H rk xs ks →
    ∃ fs, KatTups s.heap ks fs ∧ fs.length = ks.length ∧ ∀ g ∈ fs, ∃ n t, g = Value.int n t := by
  induction xs with
  | nil =>
    intro ks I hd hl hk
    match ks, hl with
    | [], _ => exact ⟨[], KatTups.nil, rfl, fun _ h => nomatch h⟩
  | cons x xs ih =>
    intro ks I hd hl hk
    obtain ⟨ps, rfl, hp⟩ := hk
    match ps, hl, hp with
    | p :: ps, hl, hp =>
      rw [List.map_cons, List.length_cons, List.length_cons] at hl
      obtain ⟨fs, h1, h2, h3⟩ := ih (ks := ps.map Value.ref) I (fun v hv => hd v (List.mem_cons_of_mem _ hv)) (by omega) ⟨ps, rfl, fun j p' v e1 e2 => hp (j + 1) p' v (by simpa using e1) (by simpa using e2)⟩
      have ht := hp 0 p x rfl rfl
      obtain ⟨its, r, ⟨ob, e, c, n, d⟩, _⟩ := I.tuple ht
      obtain ⟨m, rs, em⟩ := hd x List.mem_cons_self
      rw [em] at r
      cases r with
      | cons ra rt =>
        obtain ⟨t, rfl⟩ := ra
        exact ⟨Value.int m t :: fs, KatTups.cons e c d (by simp) h1, by simp [h2], fun g hg => (List.mem_cons.mp hg).elim (fun z => ⟨m, t, z⟩) (h3 g)⟩
theorem sort_ask {rk : V → List V} {lt : V → V → Bool} {xs : List V} {ks : List Value} (I : Inv X pins σ H s) (hK : KeyF X.K sp H xs rk lt) (hl : ks.length = xs.length) (hk : KeysAt X.K H rk xs ks) {i j : Nat} (hi : i < xs.length) (hj : j < xs.length)
    {C : Bool → Shared → Prop} (h : C (lt (xs.getD i .non) (xs.getD j .non)) s) : kas_ask X.prog X.w A (tuples' true) ks i j C s := by
  obtain ⟨ps, rfl, hp⟩ := hk
  rw [List.length_map] at hl
  have gi : (ps.map Value.ref).getD i Value.none = Value.ref (ps[i]'(by omega)) := by simp [show i < ps.length by omega]
  have gj : (ps.map Value.ref).getD j Value.none = Value.ref (ps[j]'(by omega)) := by simp [show j < ps.length by omega]
  have xi : xs.getD i V.non = xs[i] := by simp [hi]
  have xj : xs.getD j V.non = xs[j] := by simp [hj]
  unfold kas_ask
  rw [gi, gj]
  rw [xi, xj] at h
  obtain ⟨its, r, ⟨ob, e, c, n, d⟩, _⟩ := I.tuple (hp i _ xs[i] (List.getElem?_eq_getElem (by omega)) (List.getElem?_eq_getElem hi))
  obtain ⟨its2, r2, ⟨ob2, e2, c2, n2, d2⟩, _⟩ := I.tuple (hp j _ xs[j] (List.getElem?_eq_getElem (by omega)) (List.getElem?_eq_getElem hj))
  refine kat_lt e d e2 d2 (katLex_V (b := true) h _ _ _ _ 0 _ (by simpa using r) (by simpa using r2) (hK.lex _ (List.getElem_mem hi) _ (List.getElem_mem hj)) ?_ fun _ _ x hx => ?_)
  · rw [List.size_toArray, List.size_toArray, r.length, r2.length]
  · obtain ⟨m, rs, em⟩ := hK.hd xs[i] (List.getElem_mem hi)
    rw [em] at hx
    exact ⟨m, (Option.some.inj hx).symm⟩
theorem pw_small {α : Type} {R : α → α → Prop} : ∀ {xs : List α}, xs.length < 2 → xs.Pairwise R
  | [], _ => List.Pairwise.nil
  | [a], _ => List.pairwise_singleton _ _
theorem sort_end {D kS : Addr} {e e1 : Nat} {ks : List Value} {vs : List Value} {xs : List V} {rk : V → List V} {lt : V → V → Bool} {P : PySem.Fin → Shared → Prop} (I : Inv X (pins ++ [(D, seqObj "list" #[] e1)]) σ H s) (fD : FpOk X pins H D) (fK : FpOk X (pins ++ [(D, seqObj "list" #[] e1)]) H kS)
    (hk : s.heap.get? kS = some (seqObj "list" ks.toArray e)) (h64 : xs.length < 64) (hl : ks.length = xs.length) (hK : KeyF X.K sp H xs rk lt) (hks : KeysAt X.K H rk xs ks) (rv : Vals xs vs)
    (h : ∀ ys s', Inv X pins σ (upd H D (.lst ys)) s' → ys.Perm xs → ys.Pairwise (fun a b => lt b a = false) → P (.done (.ret .none)) s') : wpAny (model X.prog X.w) A (ksk_end D false vs.toArray e1 (.ref kS) ks.toArray) P E s := by
  have hlv := rv.length
  unfold ksk_end
  simp only [Bool.false_eq_true, if_false]
  by_cases h2 : vs.toArray.size < 2
  · rw [if_pos h2, if_pos h2]
    refine wpAny_bind (wpAny_pure ?_)
    rw [StateT.run_pure]
    refine wpAny_bind (wpAny_pure ?_)
    try dsimp only
    refine sort_tail (st := SortSt.mk' general' (ks.toArray.zip vs.toArray) #[] 7 none) I fD fK hk (by omega) (out := vs) ?_ rfl rv (by omega) fun s' I' => h xs s' I' (List.Perm.refl _) ?_
    · apply Array.toList_inj.mp
      show (Array.map (·.2) (ks.toArray.zip vs.toArray)).toList = _
      rw [Array.toList_map, ksk_zip]
      show List.map (·.2) (ks.zip vs) = vs
      exact List.map_snd_zip (by omega)
    · rw [List.size_toArray] at h2
      exact pw_small (by omega)
  · rw [if_neg h2, if_neg h2]
    rw [List.size_toArray] at h2
    obtain ⟨fs, t1, t2, t3⟩ := keys_tups I hK.hd hl hks
    refine wpAny_bind (kat_kind (T := .type "int") t1 (by omega) (fun v hv => ?_) (by decide) ?_)
    · obtain ⟨n, t, rfl⟩ := t3 v hv
      exact Looks.of_pure rfl
    have et : (Value.type "int" != Value.type "tuple") = true := by decide
    rw [et]
    have hn : 0 < xs.length := by omega
    have run := kat_run (prog := X.prog) (w := X.w) (A := A) (E := E) (κ := tuples' true) (ks := ks) (vs := vs) (s := s) (Q := fun st' s' => ∃ p : Array Nat, arrOf st' = p.map (kas_item (ks.toArray.zip vs.toArray)) ∧ failedOf st' = none ∧ s' = s ∧ SortT.Ok xs.length p ∧ SortT.Up (fun i => xs.countP (lt · (xs.getD i .non))) p xs.length)
      (G := fun p s' => s' = s ∧ SortT.Ok xs.length p ∧ SortT.Up (fun i => xs.countP (lt · (xs.getD i .non))) p xs.length) (by omega) (by omega) (by omega) (fun p st' s' a1 a2 a3 a4 => ⟨p, a2, a3, a4⟩) (by
        rw [← hlv]
        refine SortT.spec_wp (n := xs.length) (r := fun i => xs.countP (lt · (xs.getD i .non))) (I := fun s' => s' = s) (fun i j C s' hi hj es hC => ?_) _ s rfl (SortT.spec_mono (fun p hp s' es => ⟨es, hp⟩) _ (SortT.sort_ok hn))
        subst es
        have := hC s' rfl
        rw [hK.swo.rank (getD_mem hi) (getD_mem hj)] at this
        exact sort_ask I hK hl hks hi hj this)
    refine wpAny_bind (wpAny_mono run ?_ fun _ _ x => x)
    rintro ⟨⟨⟩, st'⟩ s' ⟨p, har, hf, es, ok, up⟩
    subst es
    have hout := kat_snds (by omega) har
    exact sort_tail I fD fK hk (by omega) hout hf (rv.pick p.toList) (by rw [List.length_map, Array.length_toList, ok.size]; omega) fun s' I' => h _ s' I' (picks_perm ok) (picks_up hK.swo ok hn up)
theorem sort_rest {D kS : Addr} {e1 : Nat} {vs : List Value} {xs : List V} {rk : V → List V} {lt : V → V → Bool} {P : PySem.Fin → Shared → Prop} (F : FnOk X.prog X.w X.K X.mg X.base CX0 k f fd [p0] sp) (hb : Binds X.K fd [p0] []) (hr : Room k A) (hfr : A.frames = some X.stack)
    (I : Inv X (pins ++ [(D, seqObj "list" #[] e1)]) σ H s) (fD : FpOk X pins H D) (fK : FpOk X (pins ++ [(D, seqObj "list" #[] e1)]) H kS)
    (hk : s.heap.get? kS = some (seqObj "list" #[] 0)) (h64 : xs.length < 64) (hK : KeyF X.K sp H xs rk lt) (rv : Vals xs vs)
    (h : ∀ H' ys s', Same H H' → Inv X pins σ (upd H' D (.lst ys)) s' → H' D = none → ys.Perm xs → ys.Pairwise (fun a b => lt b a = false) → P (.done (.ret .none)) s') : wpAny (model X.prog X.w) A (ksk_rest D (.ref f) false vs.toArray e1 (.ref kS)) P E s := by
  have hlv := rv.length
  unfold ksk_rest
  refine wpAny_bind (wpAny_rule ?_)
  first
    | rw [List.forIn_toArray]
    | (rw [← Array.forIn_toList]; simp only [List.toList_toArray])
    | rw [← Array.forIn_toList]
  refine wpAny_bind (ksk_fold (fun i s' => ∃ (H' : Hp) (ks : List Value) (e : Nat), Inv X (pins ++ [(D, seqObj "list" #[] e1)]) σ H' s' ∧ Same H H' ∧ H' kS = none ∧ s'.heap.get? kS = some (seqObj "list" ks.toArray e) ∧ ks.length = i ∧ KeysAt X.K H' rk xs ks)
    vs 0 s ⟨H, [], 0, I, Same.refl _, fK.1, hk, rfl, [], rfl, fun j p v e1 _ => by simp at e1⟩ (fun j x s' hx hJ => ?_) fun s' hJ => ?_)
  · rw [Nat.zero_add] at hJ
    obtain ⟨H', ks, e, I', sm, hn, hk', hl, ps, rfl, hp⟩ := hJ
    rw [List.length_map] at hl
    have hj : j < xs.length := by rw [hlv]; exact (List.getElem?_eq_some_iff.mp hx).1
    obtain ⟨u, hu, ru⟩ := rv.get (List.getElem?_eq_getElem hj)
    rw [hx] at hu
    cases hu
    have I2 : Inv X ((pins ++ [(D, seqObj "list" #[] e1)]) ++ [(kS, seqObj "list" (ps.map Value.ref).toArray e)]) σ H' s' := I'.pins_of fun p hp => (List.mem_append.mp hp).elim (fun z => I'.pin p (List.mem_append_right _ z)) fun z => by
      have z : p = (kS, seqObj "list" (ps.map Value.ref).toArray e) := by simpa using z
      subst z
      exact ⟨hk', hn, fK.2.1, fK.2.2.1, fun v q => by cases q⟩
    refine wpAny_bind (wpAny_attempt (wpAny_mono (key_call F hb hr hfr I2 ru (hK.key xs[j] (List.getElem_mem hj) H' sm (fun v H3 => ∃ p, v = .ref p ∧ Same H' H3 ∧ SqT X.K H3 p (rk xs[j])) fun p H3 s3 t3 => ⟨p, rfl, s3, t3⟩)) (fun u s'' hu => ?_) fun _ _ hF => hF.elim))
    obtain ⟨v, H3, I3, r3, p, rfl, s3, t3⟩ := hu
    cases r3
    have hk3 := (I3.pin (kS, seqObj "list" (ps.map Value.ref).toArray e) (List.mem_append_right _ (List.mem_append_right _ (by simp))))
    have s1 := Heap.SameBut.update s''.heap kS (Obj.mapSeq (·.push (Value.ref p)))
    have ea : (List.toArray (ps.map Value.ref)).push (Value.ref p) = List.toArray ((ps ++ [p]).map Value.ref) := by simp
    obtain ⟨c2, hc2⟩ : ∃ c2, (s''.heap.update kS (Obj.mapSeq (·.push (Value.ref p)))).get? kS = some (seqObj "list" (List.toArray ((ps ++ [p]).map Value.ref)) c2) := ⟨_, by rw [← ea]; exact get?_update_seq hk3.1 (·.push (Value.ref p))⟩
    try dsimp only
    refine wpAny_bind (listUpdate_at hk3.1 rfl ?_ (by rw [List.size_toArray, List.length_map]; exact Nat.le_of_lt (small1000 (by omega))) (by rw [Array.size_push, List.size_toArray, List.length_map]; exact Nat.succ_le_succ (Nat.le_of_lt (small1000 (by omega)))))
    refine wpAny_pure ⟨rfl, H3, _, c2, I3.unpinned.turned (t' := s''.toks) (fun b o hb q => (s1.2 b hb).trans q) hk3.2.1 fK.2.1 fK.2.2.2.1 fK.2.2.2.2.1 fK.2.2.2.2.2, sm.trans s3, hk3.2.1, hc2, by rw [List.length_map, List.length_append, hl]; simp, ps ++ [p], rfl, fun i q v e1 e2 => ?_⟩
    by_cases hi : i < ps.length
    · rw [List.getElem?_append_left hi] at e1
      exact s3.seqT (hp i q v e1 e2)
    · rw [List.getElem?_append_right (by omega)] at e1
      have hz : i - ps.length = 0 := by
        cases q' : i - ps.length with
        | zero => rfl
        | succ m => rw [q'] at e1; simp at e1
      rw [hz] at e1
      have : i = j := by omega
      subst this
      rw [List.getElem?_eq_getElem hj] at e2
      simp at e1
      cases e1
      cases e2
      exact t3
  · rw [Nat.zero_add] at hJ
    obtain ⟨H', ks, e, I', sm, hn, hk', hl, hks⟩ := hJ
    refine wpAny_bind (listItems_at hk' rfl ?_)
    have hD0 := (I'.pin (D, seqObj "list" #[] e1) (List.mem_append_right _ (List.mem_append_right _ (by simp)))).2.1
    exact sort_end I' ⟨hD0, fD.2⟩ ⟨hn, fK.2⟩ hk' h64 (by omega) ⟨hK.hd, fun v hv H2 s2 => hK.key v hv H2 (sm.trans s2), hK.lex, hK.swo⟩ hks rv fun ys s'' I'' p1 p2 => h H' ys s'' sm I'' hD0 p1 p2
end
end L2


end
section
set_option Elab.async false
set_option linter.all false
set_option maxRecDepth 100000
set_option maxHeartbeats 400000
namespace L2
open PySem PySem.Spec PyProof.Rows PySem.W
theorem bo_sorted : bootBuiltins "sorted" = some (.builtin "sorted") := by decide +kernel
/-- a list made and filled: where it stands, and what stood before -/
theorem copied (h : Heap) (vs : List Value) : ((h.push (seqObj "list" #[] 0)).update h.objs.size (Obj.mapSeq (· ++ vs.toArray))).objs.size = h.objs.size + 1 ∧
    ∀ b o, h.get? b = some o → ((h.push (seqObj "list" #[] 0)).update h.objs.size (Obj.mapSeq (· ++ vs.toArray))).get? b = some o := by
  constructor
  · simp only [Heap.size_update, size_push']
  · intro b o q
    have nb : b ≠ h.objs.size := Nat.ne_of_lt (Heap.lt_size q)
    exact ((Heap.SameBut.update (h.push (seqObj "list" #[] 0)) h.objs.size _).2 b nb).trans (Heap.get?_push_of_some _ q)
section
variable {X : Cx} {pins : List (Addr × Obj)} {σ : St} {H : Hp} {s : Shared} {k : Nat} {f : Addr} {fd : FuncData} {p0 : Str} {sp : Sp}
theorem sorted_run {l : Addr} {xs : List V} {rk : V → List V} {lt : V → V → Bool} {Q : VK} (F : FnOk X.prog X.w X.K X.mg X.base CX0 k f fd [p0] sp) (hb : Binds X.K fd [p0] []) (hr : Room (k + 2) X.A)
    (I : Inv X pins σ H s) (hl : SqL X.K H l xs) (h64 : xs.length < 64) (hK : KeyF X.K sp H xs rk lt)
    (h : ∀ D H' ys, Same H H' → H D = none → H' D = some (.lst ys) → ys.Perm xs → ys.Pairwise (fun a b => lt b a = false) → Q (.ref D) H') :
    wpAny (model X.prog X.w) X.A (call (.builtin "sorted") [.ref l] [(Str.ofString "key", .ref f)]) (EP X pins σ Q) X.xe s := by
  obtain ⟨vs, rv, pl, hz⟩ := I.list hl
  have hlv := rv.length
  have hvz : vs.length ≤ sizeLine := by rw [← hlv]; exact hz
  refine call_function_entry_kw kind_sorted plain_sorted entry_sorted (ksk_s1 _ _) ?_
  unfold Builtin.«sorted»
  refine wpAny_bind (m := checkCount "sorted" 1 1 _) (wpAny_pure ?_)
  refine wpAny_bind (collect_list pl.isList ?_ hvz)
  refine wpAny_bind (wpAny_newList ?_ hvz)
  obtain ⟨hsz, kept1⟩ := copied s.heap vs
  have hoL := Heap.get?_push_size ((s.heap.push (seqObj "list" #[] 0)).update s.heap.objs.size (Obj.mapSeq (· ++ vs.toArray))) (o := seqObj "list" vs.toArray 0) rfl
  rw [hsz] at hoL
  have keep := fun b o q => Heap.get?_push_of_some (seqObj "list" vs.toArray 0) (kept1 b o q)
  have I1 : Inv X pins σ H { s with heap := ((s.heap.push (seqObj "list" #[] 0)).update s.heap.objs.size (Obj.mapSeq (· ++ vs.toArray))).push (seqObj "list" vs.toArray 0) } := I.kept (t' := s.toks) keep
  have fD : FpOk X pins H (s.heap.objs.size + 1) := I.fpOk (Nat.le_succ _) (I.hok.fresh (Nat.le_succ _))
  show wpAny _ _ _ _ _ { s with heap := ((s.heap.push (seqObj "list" #[] 0)).update s.heap.objs.size (Obj.mapSeq (· ++ vs.toArray))).push (seqObj "list" vs.toArray 0) }
  rw [hsz]
  generalize ((s.heap.push (seqObj "list" #[] 0)).update s.heap.objs.size (Obj.mapSeq (· ++ vs.toArray))).push (seqObj "list" vs.toArray 0) = h1 at hoL I1
  generalize s.heap.objs.size + 1 = D at hoL fD
  refine wpAny_bind (wpAny_holding (wpAny_call_entry_kw slot_list_sort ⟨_, hoL, rfl⟩ entry_list_sort ?body (ksk_l1 _ _)))
  case body =>
    rw [ksk_t1]
    unfold ksk_tree
    have s1 := Heap.SameBut.update h1 D (Obj.mapSeq fun _ => (#[] : Array Value))
    obtain ⟨e1, ho1⟩ : ∃ e1, (h1.update D (Obj.mapSeq fun _ => (#[] : Array Value))).get? D = some (seqObj "list" #[] e1) := ⟨_, get?_update_seq hoL fun _ => #[]⟩
    have I2 : Inv X pins σ H { s with heap := h1.update D (Obj.mapSeq fun _ => (#[] : Array Value)) } := I1.turned (t' := s.toks) (fun b o hb q => (s1.2 b hb).trans q) fD.1 fD.2.1 fD.2.2.2.1 fD.2.2.2.2.1 fD.2.2.2.2.2
    have I3 : Inv X (pins ++ [(D, seqObj "list" #[] e1)]) σ H { s with heap := h1.update D (Obj.mapSeq fun _ => (#[] : Array Value)) } := I2.pins_of fun p hp => (List.mem_append.mp hp).elim (fun z => I2.pin p (List.mem_append_right _ z)) fun z => by
      have z : p = (D, seqObj "list" #[] e1) := by simpa using z
      subst z
      exact ⟨ho1, fD.1, fD.2.1, fD.2.2.1, fun v q => by cases q⟩
    have I4 : Inv X (pins ++ [(D, seqObj "list" #[] e1)]) σ H { s with heap := (h1.update D (Obj.mapSeq fun _ => (#[] : Array Value))).push (seqObj "tuple" vs.toArray 0) } := I3.kept (t' := s.toks) fun b u q => Heap.get?_push_of_some _ q
    have fK : FpOk X (pins ++ [(D, seqObj "list" #[] e1)]) H ((h1.update D (Obj.mapSeq fun _ => (#[] : Array Value))).push (seqObj "tuple" vs.toArray 0)).objs.size := I4.fpOk (Nat.le_refl _) (I4.hok.fresh (Nat.le_refl _))
    have I5 : Inv X (pins ++ [(D, seqObj "list" #[] e1)]) σ H { s with heap := ((h1.update D (Obj.mapSeq fun _ => (#[] : Array Value))).push (seqObj "tuple" vs.toArray 0)).push (seqObj "list" #[] 0) } := I4.kept (t' := s.toks) fun b u q => Heap.get?_push_of_some _ q
    refine wpAny_bind (listItems_at hoL rfl ?_)
    refine wpAny_bind (listUpdate_at hoL rfl ?_ (by rw [List.size_toArray]; exact hvz) (Nat.zero_le _))
    refine wpAny_bind (seqEpoch_at ho1 rfl ?_)
    refine wpAny_bind (wpAny_newTuple ?_ (by show vs.length ≤ _; exact hvz))
    refine wpAny_bind (wpAny_newList ?_ (Nat.zero_le _))
    refine wpAny_holding ?_
    refine sort_rest (s := { s with heap := ((h1.update D (Obj.mapSeq fun _ => (#[] : Array Value))).push (seqObj "tuple" vs.toArray 0)).push (seqObj "list" #[] 0) }) F hb hr.in1.in1 I.ok.frames I5 fD fK (Heap.get?_push_size _ rfl) h64 hK rv fun H' ys s' sm I' hD p1 p2 => ?_
    exact ⟨_, rfl, wpAny_pure ⟨_, rfl, .ref D, _, I', rfl, h D _ ys (sm.updL fD.1 _) fD.1 upd_same p1 p2⟩⟩
def tSortK (K : PySem.W.Frag) (sp : Sp) (te : TE) : TE := fun σ H Q => te σ H fun x H1 => ∃ a xs rk lt, x = .ref a ∧ SqL K H1 a xs ∧ xs.length < 64 ∧ KeyF K sp H1 xs rk lt ∧
  ∀ D H' ys, Same H1 H' → H1 D = none → H' D = some (.lst ys) → ys.Perm xs → ys.Pairwise (fun a b => lt b a = false) → Q (.ref D) H'
theorem pe_sortedK {j : Nat} {fx : Str} {e : Expr} {te : TE} {p kp kpos pos : Pos} (G : Cal X.prog X.w X.K X.mg X.base j fx [p0] sp) (hr : Room k X.A) (hj : j + 2 ≤ k) (hs : Gl X "sorted") (hm : X.mg "sorted" = none) (hf : Gl X fx) (he : PE X e te)
    (hdb : (fx == ("__debug__" : Str)) = false := by decide) (hst : starEach [e] X.env = [(false, eval e X.env)] := by rfl) :
    PE X (.Call (.Name "sorted" p) [e] [⟨some "key", .Name fx kp, kpos⟩] pos) (tSortK X.K sp te) := by
  obtain ⟨f, fd, F, b, kpt, m⟩ := G
  intro pins s σ H Q I h
  refine wpAny_Call_Name_kw (ld_blt I hs hm bo_sorted ?_)
  refine callWith_kw (thn (pa_cons he pa_nil hst pos pins s σ H (fun vs H1 => ∃ x, vs = [x] ∧ ∃ a xs rk lt, x = .ref a ∧ SqL X.K H1 a xs ∧ xs.length < 64 ∧ KeyF X.K sp H1 xs rk lt ∧
    ∀ D H' ys, Same H1 H' → H1 D = none → H' D = some (.lst ys) → ys.Perm xs → ys.Pairwise (fun a b => lt b a = false) → Q (.ref D) H') I ?_) fun us s1 ⟨vs, H1, I1, r1, x, ex, a, xs, rk, lt, ea, hl, h64, hK, q⟩ => ?_) (by rw [hst]; rfl) (by rw [hst]; rfl)
  · show te σ H _
    exact (show (te σ H fun x H1 => _) from h) |> fun z => by
      refine (?_ : te σ H _)
      have := z
      simpa only [tNil, exists_eq_left', List.cons.injEq, and_true] using this
  · subst ex ea
    obtain ⟨u, rfl, ru⟩ := vals1 r1
    obtain rfl : u = Value.ref a := ru
    refine thn (pk_cons (nm := some "key") (pe_glob hf m (v := .ref f) rfl hdb) pk_nil pos pins s1 σ H1 (fun zs H2 => zs = [.ref f] ∧ H2 = H1) I1 ⟨rfl, rfl⟩) fun ws s2 ⟨zs, H2, I2, rz, ez, eH⟩ => ?_
    subst ez eH
    obtain ⟨u2, rfl, ru2⟩ := vals1 rz
    obtain rfl : u2 = Value.ref f := ru2
    exact sorted_run F b (hr.mono hj) I2 hl h64 hK q
end
end L2


end
section
set_option Elab.async false
set_option linter.all false
set_option maxRecDepth 100000
set_option maxHeartbeats 400000
namespace L2
open PySem PySem.Spec PyProof.Rows
section
variable {X : Cx} {e : Expr} {es : List Expr} {te : TE} {pos : Pos}
def tFmtI (te : TE) : TE := fun σ H Q => te σ H fun x H1 => ∃ i : Int, x = .int i ∧ i.natAbs.log2 < 1920 ∧ Q (.str (toString i)) H1
def tFmtS (te : TE) : TE := fun σ H Q => te σ H fun x H1 => ∃ z : Str, x = .str z ∧ z.length ≤ sizeLine ∧ Q (.str z) H1
theorem pe_fmtI (he : PE X e te) : PE X (.FormattedValue e (-1) none pos) (tFmtI te) := by
  intro pins s σ H Q I h
  refine PyProof.Rows.FormattedValue_plain (thn (he pins s σ H _ I h) fun u s1 ⟨x, H1, I1, r1, i, ex, hd, q1⟩ => ?_)
  subst ex
  obtain ⟨t, rfl⟩ := r1
  exact formatField_int_small hd ⟨.str (toString i), H1, I1.tok _, ⟨_, rfl⟩, q1⟩
theorem pe_fmtS (he : PE X e te) : PE X (.FormattedValue e (-1) none pos) (tFmtS te) := by
  intro pins s σ H Q I h
  refine PyProof.Rows.FormattedValue_plain (thn (he pins s σ H _ I h) fun u s1 ⟨x, H1, I1, r1, z, ex, hz, q1⟩ => ?_)
  subst ex
  obtain ⟨t, rfl⟩ := r1
  exact PyProof.Rows.formatField_str (fun t' tk => ⟨.str z, H1, I1.tok tk, ⟨_, rfl⟩, q1⟩) hz
/-- the parts of an f-string -/
inductive PFs (X : Cx) : List Expr → List TE → Prop where
  | nil : PFs X [] []
  | cons {e : Expr} {te : TE} {es : List Expr} {ts : List TE} (he : PE X e te) (hr : PFs X es ts) : PFs X (e :: es) (te :: ts)
def tParts : List TE → Str → TE
  | [], acc => fun _ H Q => acc.length ≤ sizeLine ∧ Q (.str acc) H
  | t :: ts, acc => fun σ H Q => t σ H fun x H1 => ∃ z : Str, x = .str z ∧ (acc ++ z).length ≤ sizeLine ∧ tParts ts (acc ++ z) σ H1 Q
theorem pf_go {ts : List TE} (h : PFs X es ts) : ∀ (acc : Str) (pins : List (Addr × Obj)) (s : Shared) (σ : St) (H : Hp) (Q : VK), Inv X pins σ H s → tParts ts acc σ H Q → wpAny (model X.prog X.w) X.A (joinParts acc (evalEach es X.env)) (EP X pins σ Q) X.xe s := by
  induction h with
  | nil =>
    intro acc pins s σ H Q I h
    exact joinParts_nil ⟨.str acc, H, I.tok _, ⟨_, rfl⟩, h.2⟩ h.1
  | cons he hr ih =>
    intro acc pins s σ H Q I h
    refine joinParts_cons (thn (he pins s σ H _ I h) fun u s1 ⟨x, H1, I1, r1, z, ex, hz, q1⟩ => ?_)
    subst ex
    obtain ⟨t, rfl⟩ := r1
    exact ⟨hz, ih (acc ++ z) pins s1 σ H1 Q I1 q1⟩
def tJoinF (ts : List TE) : TE := tParts ts Str.empty
theorem pe_join {e1 e2 : Expr} {ts : List TE} (h : PFs X (e1 :: e2 :: es) ts) : PE X (.JoinedStr (e1 :: e2 :: es) pos) (tJoinF ts) := by
  intro pins s σ H Q I hq
  exact PyProof.Rows.JoinedStr_many (pf_go h Str.empty pins s σ H Q I hq)
end
theorem fn_never {P : Program} {w : World} {K : PySem.W.Frag} {mg : Str → Option Value} {base : Heap} {f : Addr} {fd : FuncData} {ps : List Str} : FnOk P w K mg base CX0 0 f fd ps (fun _ _ _ _ => False) :=
  ⟨fun _ _ _ _ h => h.elim, fun _ _ _ _ _ _ _ _ _ _ _ _ _ h => h.elim⟩
theorem empty_add (z : Str) : Str.empty ++ z = z := by
  apply PyProof.Rows.ext_toList
  rw [PySem.W.KT.app_list]; rfl
end L2


end
section
set_option Elab.async false
set_option linter.all false
set_option maxRecDepth 100000
set_option maxHeartbeats 400000
namespace Pl
open PySem L2
def plainV : V → Prop
  | .non => True
  | .int i => -(10 ^ 30) < i ∧ i < 10 ^ 30
  | .str z => z.length ≤ 40
  | _ => False
def rk : V → List V
  | .non => [.int 0, .int 0]
  | .str z => [.int 2, .str z]
  | v => [.int 1, v]
def rk3 : V → List V
  | .non => [.int 0, .int 0, .str (Str.ofString "")]
  | .str z => [.int 2, .int 0, .str z]
  | v => [.int 1, v, .str (Str.ofString "")]
def ltV (a b : V) : Bool := (HT.lexV (rk a) (rk b)).getD false
theorem lex_rk {a b : V} (ha : plainV a) (hb : plainV b) : HT.lexV (rk a) (rk b) = some (ltV a b) := by
  unfold ltV
  cases a <;> first | exact ha.elim | skip
  all_goals (cases b <;> first | exact hb.elim | skip)
  all_goals (simp only [rk, HT.lexV]; repeat' (first | rfl | split))
theorem lex_rk3 {a b : V} (ha : plainV a) (hb : plainV b) : HT.lexV (rk3 a) (rk3 b) = some (ltV a b) := by
  unfold ltV
  cases a <;> first | exact ha.elim | skip
  all_goals (cases b <;> first | exact hb.elim | skip)
  all_goals (simp only [rk, rk3, HT.lexV]; repeat' (first | rfl | split))
theorem lt_nn : ltV .non .non = false := rfl
theorem lt_ni (i : Int) : ltV .non (.int i) = true := rfl
theorem lt_ns (z : Str) : ltV .non (.str z) = true := rfl
theorem lt_in (i : Int) : ltV (.int i) .non = false := rfl
theorem lt_sn (z : Str) : ltV (.str z) .non = false := rfl
theorem lt_is (i : Int) (z : Str) : ltV (.int i) (.str z) = true := rfl
theorem lt_si (i : Int) (z : Str) : ltV (.str z) (.int i) = false := rfl
theorem lt_ii (i j : Int) : ltV (.int i) (.int j) = decide (i < j) := by
  unfold ltV
  simp only [rk, HT.lexV, if_true]
  by_cases e : i = j
  · rw [if_pos e]; subst e; simp
  · rw [if_neg e]; rfl
theorem lt_ss (x y : Str) : ltV (.str x) (.str y) = decide (x.cps.toList < y.cps.toList) := by
  unfold ltV
  simp only [rk, HT.lexV, if_true]
  by_cases e : x = y
  · rw [if_pos e]; subst e
    have : ¬ (x.cps.toList < x.cps.toList) := List.lt_irrefl _
    simp [this]
  · rw [if_neg e]; rfl
theorem irr {a : V} (ha : plainV a) : ltV a a = false := by
  cases a <;> first | exact ha.elim | skip
  · rfl
  · rw [lt_ii]; simp
  · rw [lt_ss]; exact decide_eq_false (List.lt_irrefl _)
theorem tr {a b c : V} (ha : plainV a) (hb : plainV b) (hc : plainV c) (h1 : ltV a b = true) (h2 : ltV b c = true) : ltV a c = true := by
  cases a <;> first | exact ha.elim | skip
  all_goals (cases b <;> first | exact hb.elim | skip)
  all_goals (cases c <;> first | exact hc.elim | skip)
  all_goals first | rfl | (exfalso; rw [lt_nn] at h1; cases h1; done) | (exfalso; rw [lt_in] at h1; cases h1; done) | (exfalso; rw [lt_sn] at h1; cases h1; done) | (exfalso; rw [lt_si] at h1; cases h1; done) | (exfalso; rw [lt_nn] at h2; cases h2; done) | (exfalso; rw [lt_in] at h2; cases h2; done) | (exfalso; rw [lt_sn] at h2; cases h2; done) | (exfalso; rw [lt_si] at h2; cases h2; done) | skip
  · rw [lt_ii, decide_eq_true_eq] at *; omega
  · rw [lt_ss, decide_eq_true_eq] at *; exact List.lt_trans h1 h2
theorem tri {a b : V} (ha : plainV a) (hb : plainV b) (h1 : ltV a b = false) (h2 : ltV b a = false) : a = b := by
  cases a <;> first | exact ha.elim | skip
  all_goals (cases b <;> first | exact hb.elim | skip)
  all_goals first | rfl | (exfalso; rw [lt_ni] at h1; cases h1; done) | (exfalso; rw [lt_ns] at h1; cases h1; done) | (exfalso; rw [lt_is] at h1; cases h1; done) | (exfalso; rw [lt_ni] at h2; cases h2; done) | (exfalso; rw [lt_ns] at h2; cases h2; done) | (exfalso; rw [lt_is] at h2; cases h2; done) | skip
  · rw [lt_ii, decide_eq_false_iff_not] at *
    congr 1; omega
  · rw [lt_ss, decide_eq_false_iff_not] at *
    congr 1
    exact PyProof.Rows.ext_toList (List.le_antisymm (List.not_lt.mp h2) (List.not_lt.mp h1))
theorem neg {a b c : V} (ha : plainV a) (hb : plainV b) (hc : plainV c) (h : ltV a c = true) : ltV a b = true ∨ ltV b c = true := by
  cases e : ltV a b with
  | true => exact .inl rfl
  | false =>
    cases e2 : ltV b a with
    | true => exact .inr (tr hb ha hc e2 h)
    | false => rw [tri ha hb e e2] at h; exact .inr h
theorem swo {xs : List V} (h : ∀ v ∈ xs, plainV v) : Swo xs ltV := ⟨fun a ha => irr (h a ha), fun a ha b hb c hc => tr (h a ha) (h b hb) (h c hc), fun a ha b hb c hc => neg (h a ha) (h b hb) (h c hc)⟩
theorem rk3_hd (v : V) : ∃ n r, rk3 v = .int n :: r := by cases v <;> exact ⟨_, _, rfl⟩
/-- ys: the items of xs in order, each once -/
structure Rise (xs ys : List V) : Prop where
  up : ys.Pairwise fun a b => ltV a b = true
  mem : ∀ v, v ∈ ys ↔ v ∈ xs
/-- what holds while the items, in order, are put one behind the other: each once -/
structure Grow (ys : List V) (i : Nat) (fs : List V) : Prop where
  up : fs.Pairwise fun a b => ltV a b = true
  mem : ∀ v, v ∈ fs ↔ v ∈ ys.take i
  last : ∀ v, fs.getLast? = some v → ∃ k, k < i ∧ ys[k]? = some v
  len : fs.length ≤ i
theorem Grow.start (ys : List V) : Grow ys 0 [] := ⟨List.Pairwise.nil, fun v => by simp, fun v h => by simp at h, Nat.zero_le _⟩
theorem take_succ_mem {ys : List V} {i : Nat} {x v : V} (hx : ys[i]? = some x) : v ∈ ys.take (i + 1) ↔ v ∈ ys.take i ∨ v = x := by
  rw [List.take_succ, hx]; simp
theorem Grow.put {ys fs : List V} {i : Nat} {x : V} (g : Grow ys i fs) (p : ∀ v ∈ ys, plainV v) (so : ys.Pairwise fun a b => ltV b a = false) (hx : ys[i]? = some x) (h : ∀ l, fs.getLast? = some l → ltV l x = true) : Grow ys (i + 1) (fs ++ [x]) := by
  have px := p x (List.mem_of_getElem? hx)
  refine ⟨List.pairwise_append.mpr ⟨g.up, List.pairwise_singleton _ _, fun a ha b hb => ?_⟩, fun v => ?_, fun v hv => ?_, by have := g.len; rw [List.length_append, List.length_singleton]; omega⟩
  · have e : b = x := by simpa using hb
    subst e
    obtain ⟨l, hl⟩ : ∃ l, fs.getLast? = some l := by
      cases q : fs.getLast? with
      | none => rw [List.getLast?_eq_none_iff] at q; rw [q] at ha; cases ha
      | some l => exact ⟨l, rfl⟩
    have pl : plainV l := p l (List.mem_of_mem_take ((g.mem l).mp (List.mem_of_getLast? hl)))
    have pa : plainV a := p a (List.mem_of_mem_take ((g.mem a).mp ha))
    obtain ⟨fs', rfl⟩ := List.getLast?_eq_some_iff.mp hl
    rcases List.mem_append.mp ha with h' | h'
    · exact tr pa pl px ((List.pairwise_append.mp g.up).2.2 a h' l (by simp)) (h l hl)
    · have e : a = l := by simpa using h'
      subst e; exact h a hl
  · rw [take_succ_mem hx, List.mem_append, g.mem v]; simp
  · rw [List.getLast?_append] at hv
    simp at hv
    subst hv
    exact ⟨i, Nat.lt_succ_self _, hx⟩
theorem Grow.skip {ys fs : List V} {i : Nat} {x l : V} (g : Grow ys i fs) (p : ∀ v ∈ ys, plainV v) (so : ys.Pairwise fun a b => ltV b a = false) (hx : ys[i]? = some x) (hl : fs.getLast? = some l) (h : ltV l x = false) : Grow ys (i + 1) fs := by
  have px := p x (List.mem_of_getElem? hx)
  have pl : plainV l := p l (List.mem_of_mem_take ((g.mem l).mp (List.mem_of_getLast? hl)))
  have hxl : ltV x l = false := by
    obtain ⟨k, hk, e⟩ := g.last l hl
    obtain ⟨k1, e1⟩ := List.getElem?_eq_some_iff.mp e
    obtain ⟨i1, e2⟩ := List.getElem?_eq_some_iff.mp hx
    have := (List.pairwise_iff_getElem.mp so) k i k1 i1 hk
    rw [e1, e2] at this
    exact this
  have e : l = x := tri pl px h hxl
  refine ⟨g.up, fun v => ?_, fun v hv => ?_, Nat.le_succ_of_le g.len⟩
  · rw [take_succ_mem hx, g.mem v]
    constructor
    · exact fun h => .inl h
    · rintro (h | h)
      · exact h
      · rw [h, ← e]; exact (g.mem l).mp (List.mem_of_getLast? hl)
  · obtain ⟨k, hk, e⟩ := g.last v hv
    exact ⟨k, by omega, e⟩
theorem Grow.rise {xs ys fs : List V} (g : Grow ys ys.length fs) (hp : ys.Perm xs) : Rise xs fs := ⟨g.up, fun v => by rw [g.mem v, List.take_length]; exact hp.mem_iff⟩
end Pl


end
section
set_option Elab.async false
set_option linter.all false
set_option maxRecDepth 100000
set_option maxHeartbeats 400000
namespace L2
open PySem PySem.Spec PyProof.Rows
/-- the tuples are kept -/
def SameT (H H' : Hp) : Prop := ∀ b xs, H b = some (.tup xs) → H' b = some (.tup xs)
theorem Same.t {H H' : Hp} (s : Same H H') : SameT H H' := fun b xs e => s b _ e
theorem SameT.refl (H : Hp) : SameT H H := fun _ _ e => e
theorem SameT.trans {H H1 H2 : Hp} (a : SameT H H1) (b : SameT H1 H2) : SameT H H2 := fun c xs e => b c xs (a c xs e)
theorem sameT_lst {H : Hp} {D : Addr} {ys zs : List V} (h : H D = some (.lst ys)) : SameT H (upd H D (.lst zs)) := fun b xs e => by
  rw [upd_ne (ne_of e h (by intro z; cases z))]; exact e
/-- .. what is true of the items may look at tuples -/
theorem lcR_ofT {J : It} {te : TE} {σ : St} {H1 : Hp} {Q : VK} (n : Nat) (item : Nat → V → Prop) (P : Hp → Nat → V → Prop) (mono : ∀ H H' i v, SameT H H' → P H i v → P H' i v) (hz : n ≤ sizeLine)
    (hgo : ∀ i H2, i < n → Same H1 H2 → J.go i H2 ∧ ∀ x H', J.yld i H2 x H' → H' = H2 ∧ item i x) (hst : ∀ H2, Same H1 H2 → J.stop n H2)
    (he : ∀ i x H2 (R : VK), item i x → Same H1 H2 → (∀ v H3, P H3 i v → Same H2 H3 → R v H3) → te (some x :: σ) H2 R)
    (hq : ∀ D H2 ys, H1 D = none → Same H1 H2 → H2 D = some (.lst ys) → ys.length = n → (∀ i y, ys[i]? = some y → P H2 i y) → Q (.ref D) H2) : LcR J tYes te σ Q H1 := by
  intro D hD
  refine ⟨fun i m ys H2 => m = n - i ∧ i ≤ n ∧ ys.length = i ∧ H2 D = some (.lst ys) ∧ Same H1 H2 ∧ ∀ j y, ys[j]? = some y → P H2 j y, ⟨_, rfl, Nat.zero_le _, rfl, upd_same, same_upd hD _, fun j y h => by simp at h⟩, ?_⟩
  rintro i m ys H2 ⟨rfl, hi, hl, hd, sm, hp⟩
  refine ⟨hd, ?_⟩
  by_cases hlt : i < n
  · obtain ⟨go, yl⟩ := hgo i H2 hlt sm
    refine .inr ⟨go, by omega, fun x H' y => ?_⟩
    obtain ⟨e, hx⟩ := yl x H' y
    subst e
    unfold tYes
    refine iteT ?_
    refine he i x _ _ hx sm fun v H3 pv s3 => ⟨s3 _ _ hd, n - (i + 1), by omega, rfl, hlt, by rw [List.length_append, hl]; rfl, upd_same, (sm.trans s3).updL hD _, fun j y h => ?_⟩
    have st := sameT_lst (zs := ys ++ [v]) (s3 _ _ hd)
    by_cases hj : j < ys.length
    · rw [List.getElem?_append_left hj] at h
      exact mono _ _ _ _ (s3.t.trans st) (hp j y h)
    · rw [List.getElem?_append_right (by omega)] at h
      have hj2 : j = i := by
        have := (List.getElem?_eq_some_iff.mp h).1
        simp at this
        omega
      subst hj2
      rw [hl] at h
      simp at h
      subst h
      exact mono _ _ _ _ st pv
  · have e : i = n := by omega
    subst e
    exact .inl ⟨hst H2 sm, hq D H2 ys hD sm hd hl hp⟩
theorem lcR_tupT {K : PySem.W.Frag} {a : Addr} (xs : List V) {te : TE} {σ : St} {H1 : Hp} {Q : VK} (P : Hp → Nat → V → Prop) (mono : ∀ H H' i v, SameT H H' → P H i v → P H' i v) (hx : SqT K H1 a xs) (hz : xs.length ≤ sizeLine)
    (he : ∀ i x H2 (R : VK), xs[i]? = some x → Same H1 H2 → (∀ v H3, P H3 i v → Same H2 H3 → R v H3) → te (some x :: σ) H2 R)
    (hq : ∀ D H2 ys, H1 D = none → Same H1 H2 → H2 D = some (.lst ys) → ys.length = xs.length → (∀ i y, ys[i]? = some y → P H2 i y) → Q (.ref D) H2) : LcR (Itt K a) tYes te σ Q H1 :=
  lcR_ofT xs.length (fun i x => xs[i]? = some x) P mono hz (fun i H2 hi s => ⟨⟨xs, xs[i], s.seqT hx, by simp [hi]⟩, fun x H' y => ⟨y.1, y.2 xs (s.seqT hx)⟩⟩) (fun H2 s => ⟨xs, s.seqT hx, Nat.le_refl _⟩) he hq
theorem add_assoc (a b c : Str) : a ++ b ++ c = a ++ (b ++ c) := PyProof.Rows.ext_toList (by simp only [PySem.W.KT.app_list, List.append_assoc])
theorem fold_add (sep : Str) : ∀ (l : List Str) (a b : Str), a ++ l.foldl (fun s u => s ++ sep ++ u) b = l.foldl (fun s u => s ++ sep ++ u) (a ++ b)
  | [], _, _ => rfl
  | u :: l, a, b => by
    rw [List.foldl_cons, List.foldl_cons, fold_add sep l]
    congr 1
    simp only [add_assoc]
theorem join_fold (sep : Str) : ∀ (l : List Str) (a : Str), Txt.join sep (a :: l) = l.foldl (fun s u => s ++ sep ++ u) a := by
  intro l
  induction l with
  | nil => intro a; show Builtin.Str.glued sep [a] = a; rw [StrLaws.glued_eq_join]; rfl
  | cons b l ih =>
    intro a
    have e := ih b
    have ej : Txt.join sep (a :: b :: l) = a ++ sep ++ Txt.join sep (b :: l) := by
      show Builtin.Str.glued sep (a :: b :: l) = a ++ sep ++ Builtin.Str.glued sep (b :: l)
      rw [StrLaws.glued_eq_join, StrLaws.glued_eq_join]; rfl
    rw [ej, e, List.foldl_cons, fold_add]
/-- the codes of a number's figures -/
def nd (m : Nat) : List Nat := (Nat.toDigits 10 m).map Char.toNat
theorem digit_code : ∀ d : Nat, d < 10 → (Nat.digitChar d).toNat = 48 + d := by decide
theorem nd_small {m : Nat} (h : m < 10) : nd m = [48 + m] := by
  unfold nd
  rw [Nat.toDigits_of_lt_base h, List.map_cons, List.map_nil, digit_code m h]
theorem nd_step {m : Nat} (h : 10 ≤ m) : nd m = nd (m / 10) ++ [48 + m % 10] := by
  have t : Nat.toDigits 10 (m / 10) ++ Nat.toDigits 10 (m % 10) = Nat.toDigits 10 (10 * (m / 10) + m % 10) := Nat.toDigits_append_toDigits (by decide) (by omega) (Nat.mod_lt _ (by decide))
  rw [Nat.div_add_mod] at t
  unfold nd
  rw [← t, List.map_append, Nat.toDigits_of_lt_base (Nat.mod_lt m (by decide)), List.map_cons, List.map_nil, digit_code _ (Nat.mod_lt m (by decide))]
theorem num_codes (m : Nat) : (Str.ofString (toString ((m : Nat) : Int))).cps.toList = nd m := PySem.W.KIN.signs_num m
theorem nd_len : ∀ (k m : Nat), m < 10 ^ (k + 1) → (nd m).length ≤ k + 1
  | 0, m, h => by rw [nd_small (by simpa using h)]; simp
  | k + 1, m, h => by
    by_cases hm : m < 10
    · rw [nd_small hm]; simp
    · rw [nd_step (by omega), List.length_append]
      have := nd_len k (m / 10) (by rw [Nat.div_lt_iff_lt_mul (by decide)]; rw [Nat.pow_succ] at h; exact h)
      simp; omega
theorem log_ok {i : Int} (h : -(10 ^ 40) < i ∧ i < 10 ^ 40) : i.natAbs.log2 < 1920 := by
  by_cases e : i.natAbs = 0
  · rw [e]; decide
  · rw [Nat.log2_lt e]
    have : i.natAbs < 10 ^ 40 := by omega
    exact Nat.lt_of_lt_of_le this (Nat.le_trans (by decide : 10 ^ 40 ≤ 2 ^ 200) (Nat.pow_le_pow_right (by decide) (by decide)))
end L2


end
section
set_option Elab.async false
set_option linter.all false
set_option maxRecDepth 100000
set_option maxHeartbeats 400000
namespace L2
open PySem PySem.Spec PyProof.Rows
def noStar : Expr → Bool
  | .Starred _ _ => false
  | _ => true
theorem star_cons {e : Expr} {es : List Expr} {env : Env} (h : noStar e = true) : starEach (e :: es) env = (false, eval e env) :: starEach es env := by
  cases e <;> first | rfl | (exact absurd h Bool.false_ne_true)
theorem pa_c {X : Cx} {e : Expr} {es : List Expr} {te : TE} {t : TA} (ha : PE X e te) (hr : PA X es t) (hn : noStar e = true := by rfl) : PA X (e :: es) (tCons te t) := pa_cons ha hr (star_cons hn)
end L2


end
section
set_option Elab.async false
set_option linter.all false
set_option maxRecDepth 100000
set_option maxHeartbeats 400000
namespace L2
open PySem PySem.Spec PyProof.Rows
section
variable {prog : Program} {w : World} {A : Around} {E : Value → Shared → Prop} {s : Shared}
structure ZipAt (h : Heap) (z TI TO i1 i2 : Addr) (f0 : Value) : Prop where
  z : IsZip h z TI TO f0
  ti : IsPair h TI (.ref i1) (.ref i2)
  to : ∃ a b, IsPair h TO a b
theorem ZipAt.same {h h' : Heap} {z TI TO i1 i2 c : Addr} {f0 : Value} (x : ZipAt h z TI TO i1 i2 f0) (sb : Heap.SameBut c h h') (n1 : z ≠ c) (n2 : TI ≠ c) (n3 : TO ≠ c) : ZipAt h' z TI TO i1 i2 f0 :=
  ⟨(sb.2 _ n1).trans x.z, (sb.2 _ n2).trans x.ti, let ⟨a, b, e⟩ := x.to; ⟨a, b, (sb.2 _ n3).trans e⟩⟩
variable {z TI TO i1 i2 : Addr} {fp1 fp2 : List Addr} {n1 n2 i : Nat} {P1 P2 : Nat → Value → Prop} {S1 S2 : Nat → Heap → Prop}
end
end L2


end
section
set_option Elab.async false
set_option linter.all false
set_option maxRecDepth 100000
set_option maxHeartbeats 400000
namespace L2
open PySem PySem.Spec PyProof.Rows
def SqB (tup : Bool) (H : Hp) (a : Addr) (xs : List V) : Prop := H a = some (if tup then .tup xs else .lst xs)
theorem SqB.inj {tup : Bool} {H : Hp} {a : Addr} {xs ys : List V} (h : SqB tup H a xs) (h' : SqB tup H a ys) : xs = ys := by
  unfold SqB at h h'
  rw [h] at h'
  cases tup <;> simpa using h'
def seqName (tup : Bool) : String := if tup then "tuple" else "list"
def SeqAtB (tup : Bool) (h : Heap) (a : Addr) (its : Array Value) : Prop := if tup = true then IsTup h a its else h.IsList a its
def IterB (tup : Bool) (h : Heap) (it a : Addr) (i : Nat) : Prop := if tup = true then h.IsTupleIter it a i else h.IsListIter it a i
theorem SeqAtB.cls {tup : Bool} {h : Heap} {a : Addr} {its : Array Value} (x : SeqAtB tup h a its) : ∃ o, h.get? a = some o ∧ o.cls = .type (seqName tup) := by
  cases tup with
  | true => obtain ⟨o, e, c, _⟩ := (x : IsTup h a its); exact ⟨o, e, c⟩
  | false => obtain ⟨o, e, c, _⟩ := (x : h.IsList a its); exact ⟨o, e, c⟩
theorem IterB.get {tup : Bool} {h : Heap} {it a : Addr} {i : Nat} (x : IterB tup h it a i) : ∃ o, h.get? it = some o ∧ (o.cls = .type "tuple_iterator" ∨ o.cls = .type "list_iterator") ∧ o.data = .fields #[.ref a, .int i 0] := by
  cases tup with
  | true => obtain ⟨o, e, c, d⟩ := (x : h.IsTupleIter it a i); exact ⟨o, e, .inl c, d⟩
  | false => obtain ⟨o, e, c, d⟩ := (x : h.IsListIter it a i); exact ⟨o, e, .inr c, d⟩
theorem IterB.keep {tup : Bool} {h h' : Heap} {it a : Addr} {i : Nat} (x : IterB tup h it a i) (k : ∀ o, h.get? it = some o → h'.get? it = some o) : IterB tup h' it a i := by
  cases tup with
  | true => obtain ⟨o, e, r⟩ := (x : h.IsTupleIter it a i); exact (⟨o, k o e, r⟩ : h'.IsTupleIter it a i)
  | false => obtain ⟨o, e, r⟩ := (x : h.IsListIter it a i); exact (⟨o, k o e, r⟩ : h'.IsListIter it a i)
def ItZ (ta tb : Bool) (a b : Addr) : It :=
  ⟨fun i H => ∃ xs ys x y, SqB ta H a xs ∧ SqB tb H b ys ∧ xs[i]? = some x ∧ ys[i]? = some y,
   fun i H v H' => ∃ T x y, H T = none ∧ v = .ref T ∧ H' = upd H T (.tup [x, y]) ∧ (∀ xs, SqB ta H a xs → xs[i]? = some x) ∧ ∀ ys, SqB tb H b ys → ys[i]? = some y,
   fun i H => ∃ xs, SqB ta H a xs ∧ xs.length = i⟩
section
variable {prog : Program} {w : World} {A : Around} {E : Value → Shared → Prop} {s : Shared}
theorem SeqAtB.keep {tup : Bool} {h h' : Heap} {a : Addr} {its : Array Value} (x : SeqAtB tup h a its) (k : ∀ o, h.get? a = some o → h'.get? a = some o) : SeqAtB tup h' a its := by
  cases tup with
  | true => obtain ⟨o, e, r⟩ := (x : IsTup h a its); exact (⟨o, k o e, r⟩ : IsTup h' a its)
  | false => obtain ⟨o, e, r⟩ := (x : h.IsList a its); exact (⟨o, k o e, r⟩ : h'.IsList a its)
end
section
variable {X : Cx} {ea eb : Expr} {ua ub : TE} {p pos tpos : Pos} {elts : List Expr} {kk : Nat}
def iZip (ta tb : Bool) (ua ub : TE) : TI := fun σ H R => ua σ H fun x H1 => ub σ H1 fun y H2 => ∃ a b xs ys, x = .ref a ∧ y = .ref b ∧ SqB ta H2 a xs ∧ SqB tb H2 b ys ∧ R (ItZ ta tb a b) H2
theorem tFor_zip {ta tb : Bool} {g : TG} {t : TS} {D : Ends} {σ : St} {H : Hp} : tFor (iZip ta tb ua ub) g t D σ H = ua σ H fun x H1 => ub σ H1 fun y H2 => ∃ a b xs ys, x = .ref a ∧ y = .ref b ∧ SqB ta H2 a xs ∧ SqB tb H2 b ys ∧ FoR (ItZ ta tb a b) g t D σ H2 := rfl
end
end L2


end
section
set_option Elab.async false
set_option linter.all false
set_option maxRecDepth 100000
set_option maxHeartbeats 400000
namespace L2
open PySem PySem.Spec PyProof.Rows
section
variable {X : Cx}
end
end L2


end
section
set_option Elab.async false
set_option linter.all false
set_option maxRecDepth 100000
set_option maxHeartbeats 400000
namespace L2
open PySem PySem.Spec PyProof.Rows
section
variable {X : Cx}
theorem op_le_str : OpR X (compareOp .LtE) (fun x y H Q => ∃ i j, x = .str i ∧ y = .str j ∧ Q (.bl (!decide (j.cps.toList < i.cps.toList))) H) := by
  intro pins s σ H x y v u Q I rx ry h
  obtain ⟨i, j, rfl, rfl, q⟩ := h
  obtain ⟨t, rfl⟩ := rx
  obtain ⟨t2, rfl⟩ := ry
  exact P.le_str ⟨.bl _, H, I, rfl, q⟩
theorem bo_all : bootBuiltins "all" = some (.builtin "all") := by decide +kernel
theorem bools_at {bs : List Bool} : ∀ {us : List Value}, Vals (bs.map V.bl) us → ∀ {i : Nat} {v : Value}, us[i]? = some v → ∃ b, bs[i]? = some b ∧ v = .bool b := fun {us} r {i v} e => by
  have hi : i < us.length := (List.getElem?_eq_some_iff.mp e).1
  have hl := r.length
  rw [List.length_map] at hl
  obtain ⟨u, e2, ru⟩ := r.get (i := i) (x := .bl (bs[i]'(by omega))) (by simp [show i < bs.length by omega])
  rw [e] at e2
  cases e2
  exact ⟨_, List.getElem?_eq_getElem (by omega), ru⟩
theorem all_ix (bs : List Bool) : ((List.range bs.length).all fun i => (bs[i]?).getD true) = bs.all id := by
  rw [Bool.eq_iff_iff, List.all_eq_true, List.all_eq_true]
  constructor
  · intro h b hb
    obtain ⟨i, hi, e⟩ := List.mem_iff_getElem.mp hb
    have := h i (List.mem_range.mpr hi)
    rw [List.getElem?_eq_getElem hi, e] at this
    exact this
  · intro h i hi
    have hi := List.mem_range.mp hi
    rw [List.getElem?_eq_getElem hi]
    exact h _ (List.getElem_mem hi)
def rAll (K : PySem.W.Frag) : List V → Hp → VK → Prop := fun xs H Q => ∃ (a : Addr) (bs : List Bool), xs = [.ref a] ∧ SqL K H a (bs.map V.bl) ∧ Q (.bl (bs.all id)) H
theorem call_allL (hc : X.calm = true) : CallR X (.builtin "all") (rAll X.K) := by
  intro pins s σ H xs us Q I r h
  obtain ⟨a, bs, rfl, hq, q⟩ := h
  obtain ⟨u, rfl, ru⟩ := vals1 r
  obtain rfl : u = Value.ref a := ru
  obtain ⟨its, rv, p, hz⟩ := I.list hq
  have hl := rv.length
  rw [List.length_map] at hl
  have lt : a < s.heap.objs.size := by obtain ⟨_, e, _⟩ := p.isList; exact Heap.lt_size e
  have hh := I.ok.hd hc
  refine call_all_walk (wpAny_pyIter_list p.isList ⟨s.heap.objs.size, [s.heap.objs.size, a], [s.heap.objs.size], its.toArray.size, _, _, fun i => (bs[i]?).getD true, rfl, Walks.list (A := X.A.in1) hh _ a (Nat.ne_of_lt lt) its.toArray, ⟨⟨_, Heap.get?_push_size _ rfl, rfl, rfl⟩, p.isList.push _⟩, ?_, ?_⟩)
  · intro i v s' Q' E' hP hQ
    obtain ⟨b, e, rfl⟩ := bools_at rv (i := i) (v := v) (by simpa using hP)
    simp only [e, Option.getD_some] at hQ
    exact wpAny_truthy_bool hQ
  · intro h' tk hk
    rw [List.size_toArray, ← hl, all_ix]
    refine ⟨.bl _, H, I.kept (t' := tk) fun b o e => hk b o ?_ (Heap.get?_push_of_some _ e), rfl, q⟩
    intro hm
    rw [List.mem_singleton.mp hm] at e
    exact Nat.lt_irrefl _ (Heap.lt_size e)
def tDNew : TE := fun _ H Q => ∀ p, H p = none → Q (.ref p) (upd H p (.dK []))
def rEqN (K : PySem.W.Frag) : R2 := fun x y H Q => ∃ a b xs ys, x = .ref a ∧ y = .ref b ∧ SqL K H a xs ∧ SqL K H b ys ∧ ((xs.length ≠ ys.length ∧ Q (.bl false) H) ∨ (xs.all flatV = true ∧ ys.all flatV = true ∧ Q (.bl (eqVs xs ys)) H))
theorem tLc_rng2 {ta : TA} {tt : TT} {te : TE} {σ : St} {H : Hp} {Q : VK} : tLc (iRng2 ta) tt te σ H Q = ta σ H fun vs H1 => ∃ i j : Int, vs = [.int i, .int j] ∧ (-(2 ^ 62) ≤ i ∧ i < 2 ^ 62 ∧ -(2 ^ 62) ≤ j ∧ j < 2 ^ 62) ∧ LcR (Itr i (j - i).toNat) tt te σ Q H1 := rfl
end
/-- a sign in a text -/
theorem has_sign (x : Str) (c : Nat) : (!(Builtin.Str.occurrences x ⟨#[c]⟩ 0 x.length 1).isEmpty) = decide (c ∈ x.cps.toList) := StrLaws.found_one x c
end L2


end
section
set_option Elab.async false
set_option linter.all false
set_option maxRecDepth 100000
set_option maxHeartbeats 400000
namespace L2
open PySem PySem.Spec PyProof.Rows
/-- all is kept, but that lists may have other items -/
def SameL (H H' : Hp) : Prop := ∀ b o, H b = some o → H' b = some o ∨ ((∃ xs, o = .lst xs) ∧ ∃ ys, H' b = some (.lst ys))
theorem Same.l {H H' : Hp} (s : Same H H') : SameL H H' := fun b o e => .inl (s b o e)
theorem SameL.refl (H : Hp) : SameL H H := (Same.refl H).l
theorem SameL.trans {H H1 H2 : Hp} (a : SameL H H1) (b : SameL H1 H2) : SameL H H2 := fun c o e => by
  rcases a c o e with h | ⟨⟨xs, rfl⟩, ys, h⟩
  · exact b c o h
  · rcases b c _ h with h' | ⟨_, zs, h'⟩
    · exact .inr ⟨⟨xs, rfl⟩, ys, h'⟩
    · exact .inr ⟨⟨xs, rfl⟩, zs, h'⟩
theorem SameL.tup {H H' : Hp} (s : SameL H H') {b : Addr} {xs : List V} (e : H b = some (.tup xs)) : H' b = some (.tup xs) := by
  rcases s b _ e with h | ⟨⟨ys, h⟩, _⟩
  · exact h
  · cases h
theorem SameL.dK {H H' : Hp} (s : SameL H H') {b : Addr} {xs : List (Key × V)} (e : H b = some (.dK xs)) : H' b = some (.dK xs) := by
  rcases s b _ e with h | ⟨⟨ys, h⟩, _⟩
  · exact h
  · cases h
theorem SameL.lst {H H' : Hp} (s : SameL H H') {b : Addr} {xs : List V} (e : H b = some (.lst xs)) : ∃ ys, H' b = some (.lst ys) := by
  rcases s b _ e with h | ⟨_, ys, h⟩
  · exact ⟨xs, h⟩
  · exact ⟨ys, h⟩
end L2
namespace Th
open PySem L2 Pl
def signB (c : Nat) : Bool := decide (32 ≤ c ∧ c ≤ 126 ∧ c ≠ 37)
def goodZ (z : Str) : Prop := z.length ≤ 60 ∧ ∀ c ∈ z.cps.toList, signB c = true ∨ c = 9 ∨ c = 10
def flatG : V → Prop
  | .non => True
  | .bl _ => True
  | .int _ => True
  | .str z => goodZ z
  | _ => False
/-- what a thing is, n tuples deep -/
def TT : Nat → Hp → V → Prop
  | 0, H, v => flatG v ∨ ∃ a, v = .ref a ∧ ((∃ xs, H a = some (.lst xs)) ∨ H a = some (.dK []) ∨ ∃ xs, H a = some (.tup xs) ∧ xs.length ≤ 60)
  | n + 1, H, v => flatG v ∨ ∃ a, v = .ref a ∧ ((∃ xs, H a = some (.lst xs)) ∨ H a = some (.dK []) ∨ ∃ xs, H a = some (.tup xs) ∧ xs.length ≤ 60 ∧ ∀ u ∈ xs, TT n H u)
theorem TT.mono : ∀ {n : Nat} {H H' : Hp} {v : V}, SameL H H' → TT n H v → TT n H' v
  | 0, H, H', v, s, h => by
    rcases h with h | ⟨a, e, h | h | ⟨xs, h, l⟩⟩
    · exact .inl h
    · obtain ⟨xs, h⟩ := h; exact .inr ⟨a, e, .inl (s.lst h)⟩
    · exact .inr ⟨a, e, .inr (.inl (s.dK h))⟩
    · exact .inr ⟨a, e, .inr (.inr ⟨xs, s.tup h, l⟩)⟩
  | n + 1, H, H', v, s, h => by
    rcases h with h | ⟨a, e, h | h | ⟨xs, h, l, p⟩⟩
    · exact .inl h
    · obtain ⟨xs, h⟩ := h; exact .inr ⟨a, e, .inl (s.lst h)⟩
    · exact .inr ⟨a, e, .inr (.inl (s.dK h))⟩
    · exact .inr ⟨a, e, .inr (.inr ⟨xs, s.tup h, l, fun u hu => TT.mono s (p u hu)⟩)⟩
theorem TT.less : ∀ {n : Nat} {H : Hp} {v : V}, TT (n + 1) H v → TT n H v
  | 0, H, v, h => by
    rcases h with h | ⟨a, e, h | h | ⟨xs, h, l, p⟩⟩
    · exact .inl h
    · exact .inr ⟨a, e, .inl h⟩
    · exact .inr ⟨a, e, .inr (.inl h)⟩
    · exact .inr ⟨a, e, .inr (.inr ⟨xs, h, l⟩)⟩
  | n + 1, H, v, h => by
    rcases h with h | ⟨a, e, h | h | ⟨xs, h, l, p⟩⟩
    · exact .inl h
    · exact .inr ⟨a, e, .inl h⟩
    · exact .inr ⟨a, e, .inr (.inl h)⟩
    · exact .inr ⟨a, e, .inr (.inr ⟨xs, h, l, fun u hu => TT.less (p u hu)⟩)⟩
theorem TT.flat {n : Nat} {H : Hp} {v : V} (h : flatG v) : TT n H v := by cases n <;> exact .inl h
theorem TT.ofT {n : Nat} {H : Hp} {a : Addr} {xs : List V} (h : H a = some (.tup xs)) (l : xs.length ≤ 60) (p : ∀ u ∈ xs, TT n H u) : TT (n + 1) H (.ref a) := .inr ⟨a, rfl, .inr (.inr ⟨xs, h, l, p⟩)⟩
def wholeB : V → Bool
  | .int _ => true
  | _ => false
def numB : V → Bool
  | .int i => decide (-(10 ^ 30) < i ∧ i < 10 ^ 30)
  | _ => false
def textB (n : Nat) : V → Bool
  | .str z => decide (n ≤ z.length ∧ z.length ≤ 40) && z.cps.toList.all signB
  | _ => false
def plainB (v : V) : Bool := decide (v = .non) || (numB v || textB 0 v)
def risingB : List V → Bool
  | a :: b :: r => ltV a b && risingB (b :: r)
  | _ => true
def nowsB (H : Hp) : V → Bool
  | .ref b => match H b with
    | some (.tup ns) => decide (2 ≤ ns.length) && (ns.all plainB && risingB ns)
    | _ => false
  | _ => false
def clashB (H : Hp) : V → Bool
  | .ref a => match H a with
    | some (.tup [x, y]) => plainB x && nowsB H y
    | _ => false
  | _ => false
theorem plain_of {v : V} (h : plainB v = true) : plainV v := by
  unfold plainB at h
  rw [Bool.or_eq_true, Bool.or_eq_true, decide_eq_true_eq] at h
  rcases h with h | h | h
  · rw [h]; trivial
  · cases v <;> first | (simp [numB] at h; done) | skip
    simp only [numB, decide_eq_true_eq] at h
    exact h
  · cases v <;> first | (simp [textB] at h; done) | skip
    rw [textB, Bool.and_eq_true, decide_eq_true_eq] at h
    exact h.1.2
theorem flat_of {v : V} (h : plainB v = true) : flatV v = true := by
  have := plain_of h
  cases v <;> first | exact this.elim | rfl
/-- rising is pairwise rising -/
theorem rising_iff : ∀ {ns : List V}, (∀ v ∈ ns, plainV v) → (risingB ns = true ↔ ns.Pairwise fun a b => ltV a b = true)
  | [], _ => by simp [risingB]
  | [a], _ => by simp [risingB]
  | a :: b :: r, p => by
    have ih := rising_iff (ns := b :: r) fun v hv => p v (List.mem_cons_of_mem _ hv)
    rw [risingB, Bool.and_eq_true, ih]
    constructor
    · rintro ⟨h, hr⟩
      refine List.pairwise_cons.mpr ⟨fun c hc => ?_, hr⟩
      rcases List.mem_cons.mp hc with e | e
      · rw [e]; exact h
      · exact tr (p a List.mem_cons_self) (p b (by simp)) (p c (by simp [e])) h ((List.pairwise_cons.mp hr).1 c e)
    · intro h
      exact ⟨(List.pairwise_cons.mp h).1 b List.mem_cons_self, (List.pairwise_cons.mp h).2⟩
end Th


end
section
set_option Elab.async false
set_option linter.all false
set_option maxRecDepth 100000
set_option maxHeartbeats 400000
namespace L2
open PySem PySem.Spec PyProof.Rows
/-- what the head of its traceback is marked with -/
def HeadIs (h : Heap) (Y : Addr → Prop) (e : Addr) (vs : Array Value) : Option Value → Prop
  | none => vs[1]? = some .none
  | some v => ∃ T oT ts, vs[1]? = some (.ref T) ∧ T ≠ e ∧ (Y T ∧ oT.cls = .type "traceback") ∧ h.get? T = some oT ∧ oT.data = .fields ts ∧ ts[3]? = some v
/-- the exceptions behind an exception: each one's context is the next -/
def Links : List (Addr × Obj) → Value → Prop
  | [], c => c = .none
  | p :: r, c => c = .ref p.1 ∧ ∃ va c', p.2.data = .fields va ∧ va[2]? = some c' ∧ Links r c'
/-- they lie in the heap -/
def Lie (h : Heap) (Y : Addr → Prop) (e : Addr) (ch : List (Addr × Obj)) : Prop := (e :: ch.map (·.1)).Nodup ∧ ∀ p ∈ ch, h.get? p.1 = some p.2 ∧ p.2.cls ≠ .type "traceback" ∧ (∃ va, p.2.data = .fields va) ∧ Y p.1
/-- the record at e, of the class cls, with its dict at dx and the exceptions ch behind it; Y: where the traceback's records may lie -/
def Exc (h : Heap) (Y : Addr → Prop) (e : Addr) (cls : Value) (dx : Option Addr) (ch : List (Addr × Obj)) (fl : Option Value) : Prop :=
  ∃ oe vs, h.get? e = some oe ∧ oe.cls = cls ∧ oe.dict = dx ∧ oe.data = .fields vs ∧ ((∃ c, vs[2]? = some c ∧ Links ch c) ∧ Lie h Y e ch) ∧ HeadIs h Y e vs fl
/-- what stays: all but e and the tracebacks in Y, and the frames' slots -/
structure Stay (Y : Addr → Prop) (e : Addr) (fs : List Addr) (h h' : Heap) : Prop where
  keep : ∀ b o, h.get? b = some o → b ≠ e → ¬ (Y b ∧ o.cls = .type "traceback") → b ∉ fs → h'.get? b = some o
  slot : ∀ b o, h.get? b = some o → (∀ vs, o.data ≠ .fields vs) → ∃ sl, h'.get? b = some { o with slots := sl }
  size : h.objs.size ≤ h'.objs.size
theorem Stay.refl (Y : Addr → Prop) (e : Addr) (fs : List Addr) (h : Heap) : Stay Y e fs h h := ⟨fun _ _ q _ _ _ => q, fun _ o q _ => ⟨o.slots, q⟩, Nat.le_refl _⟩
theorem Stay.trans {Y : Addr → Prop} {e : Addr} {fs : List Addr} {h₁ h₂ h₃ : Heap} (x : Stay Y e fs h₁ h₂) (y : Stay Y e fs h₂ h₃) : Stay Y e fs h₁ h₃ :=
  ⟨fun b o q a c d => y.keep b o (x.keep b o q a c d) a c d, fun b o q n => let ⟨_, e1⟩ := x.slot b o q n; let ⟨sl, e2⟩ := y.slot b _ e1 n; ⟨sl, e2⟩, Nat.le_trans x.size y.size⟩
theorem Stay.funs {Y : Addr → Prop} {e : Addr} {fs : List Addr} {h h' base : Heap} {l : List Env} (x : Stay Y e fs h h') (f : h.FunFrames base l) : h'.FunFrames base l :=
  f.of_keeps fun b o q n => let ⟨sl, e1⟩ := x.slot b o q n; ⟨_, e1, rfl⟩
theorem Lie.stay {Y : Addr → Prop} {e : Addr} {fs : List Addr} {h h' : Heap} {ch : List (Addr × Obj)} (l : Lie h Y e ch) (st : Stay Y e fs h h') (nf : ∀ b ∈ fs, ∃ o, h.get? b = some o ∧ ∀ vs, o.data ≠ .fields vs) : Lie h' Y e ch :=
  ⟨l.1, fun p hp => by
    obtain ⟨q, c, ⟨va, d⟩, y⟩ := l.2 p hp
    refine ⟨st.keep p.1 p.2 q (fun z => ?_) (fun z => c z.2) (fun z => ?_), c, ⟨va, d⟩, y⟩
    · exact (List.nodup_cons.mp l.1).1 (by rw [← z]; exact List.mem_map_of_mem hp)
    · obtain ⟨o, q', n⟩ := nf _ z
      rw [q] at q'; cases q'
      exact n va d⟩
theorem dict_mapF (o : Obj) (f) : (o.mapFields f).dict = o.dict := by
  obtain ⟨c, d, dt, sl⟩ := o; cases dt <;> rfl
/-- a record's field is set -/
theorem stay_set {Y : Addr → Prop} {e a : Addr} {fs : List Addr} {h : Heap} {o : Obj} {vs : Array Value} (i : Nat) (x : Value) (ho : h.get? a = some o) (hd : o.data = .fields vs) (ha : a = e ∨ (Y a ∧ o.cls = .type "traceback")) :
    Stay Y e fs h (h.update a (Obj.mapFields (·.setIfInBounds i x))) where
  keep b u q n1 n2 _ := by
    rw [Heap.get?_update_other _ _ (fun z => by subst z; rw [ho] at q; cases q; exact ha.elim n1 n2)]; exact q
  slot b u q n := ⟨u.slots, by
    rw [Heap.get?_update_other _ _ (fun z => by subst z; rw [ho] at q; cases q; exact n vs hd)]; exact q⟩
  size := by rw [Heap.size_update]; exact Nat.le_refl _
theorem set_get {a : Addr} {h : Heap} {o : Obj} {vs : Array Value} (i : Nat) (x : Value) (ho : h.get? a = some o) (hd : o.data = .fields vs) :
    (h.update a (Obj.mapFields (·.setIfInBounds i x))).get? a = some (o.mapFields (·.setIfInBounds i x)) := Heap.get?_update_self _ ho (Obj.isFreed_of_fields (Obj.data_mapFields hd _))
section
variable {M : Model} {A : Around} {E : Value → Shared → Prop} {s : Shared} {Y : Addr → Prop} {base : Heap} {env : Env} {outer : List Env} {L e : Addr} {cls : Value} {dx : Option Addr} {ch : List (Addr × Obj)} {fl : Option Value} {Q : Unit → Shared → Prop}
/-- the mark is taken away -/
theorem land_ok {fs : List Addr} {v : Value} (nf : ∀ b ∈ fs, ∃ o, s.heap.get? b = some o ∧ ∀ vs, o.data ≠ .fields vs) (x : Exc s.heap Y e cls dx ch (some v)) (q : ∀ h', Stay Y e fs s.heap h' → Exc h' Y e cls dx ch (some .none) → Q () { s with heap := h' }) : wpAny M A (setFlight (.ref e) none) Q E s := by
  obtain ⟨oe, vs, he, hc, hdx, hd, ⟨lk, ll⟩, T, oT, ts, h1, hTe, hY, hT, hdT, h3⟩ := x
  unfold setFlight
  refine wpAny_bind (wpAny_field he hd h1 ?_)
  rw [if_pos (show (Value.ref T != Value.none) = true from by simp)]
  have hsz : 3 < ts.size := (Array.getElem?_eq_some_iff.mp h3).1
  have st := stay_set (Y := Y) (e := e) (fs := fs) 3 ((none : Option Addr).elim Value.none fun f => rawInt f) hT hdT (.inr hY)
  refine wpAny_setField hT hdT hsz (q _ st ⟨oe, vs, ?_, hc, hdx, hd, ⟨lk, ll.stay st nf⟩, T, _, _, h1, hTe, ⟨hY.1, (Obj.cls_mapFields _ _).trans hY.2⟩, set_get 3 _ hT hdT, Obj.data_mapFields hdT _, ?_⟩)
  · rw [Heap.get?_update_other _ _ hTe]; exact he
  · simp [hsz]
/-- a new head for the traceback -/
theorem entry_ok {head : Value} {hadNext : Bool} (hfr : A.frames = some (env :: outer)) (hl : s.heap.FunFrames base (env :: outer)) (hf : env.frame = some L) (hy : ∀ b, s.heap.objs.size ≤ b → Y b) {oe : Obj} {vs : Array Value}
    (he : s.heap.get? e = some oe) (hc : oe.cls = cls) (hdx : oe.dict = dx) (hd : oe.data = .fields vs) (hsz : 1 < vs.size) (lk : ∃ c, vs[2]? = some c ∧ Links ch c) (ll : Lie s.heap Y e ch)
    (q : ∀ h', Stay Y e (frs (env :: outer)) s.heap h' → Exc h' Y e cls dx ch (some (rawInt L)) → Q () { s with heap := h' }) :
    wpAny M A (do let a ← frameOf env; let pl ← entryPlaceOf L hadNext; let b ← EntryCells.newEntry head a .none (rawInt L) .none pl; setField (.ref e) 1 b) Q E s := by
  refine wpAny_bind (wpAny_frameOf_fun hfr hl hf fun h₁ hs => ?_)
  refine wpAny_bind (wpAny_entryPlaceOf fun pl hpl => ?_)
  unfold EntryCells.newEntry newFields
  refine wpAny_bind (wpAny_newObj_type ?_ (hpl.sizeOk5 _ _ _ _ _))
  have hef : e ∉ frs (env :: outer) := fun hm => by
    obtain ⟨_, o, ho, hn⟩ := hl.mem hm
    rw [he] at ho; cases ho; exact hn vs hd
  have he1 : h₁.get? e = some oe := (hs.2.1 e hef).trans he
  have hne : h₁.objs.size ≠ e := Nat.ne_of_gt (Heap.lt_size he1)
  generalize htb : ({ cls := .type "traceback", dict := none, data := .fields ([head, .ref L, .none, rawInt L, .none] ++ (if pl.isEmpty then List.replicate 6 Value.none else pl)).toArray } : Obj) = tb
  have htd : tb.data = .fields ([head, .ref L, .none, rawInt L, .none] ++ (if pl.isEmpty then List.replicate 6 Value.none else pl)).toArray := by rw [← htb]
  have hfr' : tb.isFreed = false := Obj.isFreed_of_fields htd
  have he2 : (h₁.push tb).get? e = some oe := Heap.get?_push_of_some _ he1
  have hY : Y h₁.objs.size := hy _ (by rw [hs.1]; exact Nat.le_refl _)
  have htc : tb.cls = .type "traceback" := by rw [← htb]
  have st : Stay Y e (frs (env :: outer)) s.heap ((h₁.push tb).update e (Obj.mapFields (·.setIfInBounds 1 (Value.ref h₁.objs.size)))) := by
    refine Stay.trans ?_ (stay_set 1 _ he2 hd (.inl rfl))
    refine ⟨fun b o g _ _ n => Heap.get?_push_of_some _ ((hs.2.1 b n).trans g), fun b o g _ => ?_, ?_⟩
    · obtain ⟨sl, g1⟩ := hs.2.2 b o g
      exact ⟨sl, Heap.get?_push_of_some _ g1⟩
    · rw [← hs.1]; cases h₁; simp [Heap.push]
  refine wpAny_setField he2 hd hsz (q _ st ⟨_, _, set_get 1 _ he2 hd, (Obj.cls_mapFields _ _).trans hc, (dict_mapF _ _).trans hdx, Obj.data_mapFields hd _, ⟨?_, ll.stay st fun b hb => (hl.mem hb).2⟩, h₁.objs.size, tb, _, by simp [hsz], hne, ⟨hY, htc⟩, ?_, htd, ?_⟩)
  · obtain ⟨c, h2, l⟩ := lk
    exact ⟨c, by rw [Array.getElem?_setIfInBounds_ne (by decide)]; exact h2, l⟩
  · rw [Heap.get?_update_other _ _ (Ne.symm hne)]; exact Heap.get?_push_size _ hfr'
  · first | (simp; done) | (rcases hpl with rfl | ⟨_, _, _, _, _, _, _, rfl⟩ <;> simp)
/-- the frame is noted -/
theorem note_ok (hfr : A.frames = some (env :: outer)) (hl : s.heap.FunFrames base (env :: outer)) (hf : env.frame = some L) (hy : ∀ b, s.heap.objs.size ≤ b → Y b) (x : Exc s.heap Y e cls dx ch fl) (hfl : fl = none ∨ fl = some .none)
    (q : ∀ h', Stay Y e (frs (env :: outer)) s.heap h' → Exc h' Y e cls dx ch (some (rawInt L)) → Q () { s with heap := h' }) : wpAny M A (noteFrame (.ref e) env) Q E s := by
  obtain ⟨oe, vs, he, hc, hdx, hd, ⟨lk, ll⟩, hh⟩ := x
  unfold noteFrame
  simp only [hf]
  rcases hfl with rfl | rfl
  · have h1 : vs[1]? = some .none := hh
    refine wpAny_bind (wpAny_field he hd h1 ?_)
    rw [if_neg (by decide)]
    exact entry_ok hfr hl hf hy he hc hdx hd (Array.getElem?_eq_some_iff.mp h1).1 lk ll q
  · obtain ⟨T, oT, ts, h1, hTe, hY, hT, hdT, h3⟩ := hh
    refine wpAny_bind (wpAny_field he hd h1 ?_)
    rw [if_pos (show (Value.ref T != Value.none) = true from by simp)]
    refine wpAny_bind (wpAny_field hT hdT h3 ?_)
    rw [if_neg (show ¬ ((Value.none == rawInt L) = true) from by simp [rawInt])]
    refine wpAny_bind (wpAny_setField hT hdT (Array.getElem?_eq_some_iff.mp h3).1 ?_)
    have st : Stay Y e (frs (env :: outer)) s.heap (s.heap.update T (Obj.mapFields (·.setIfInBounds 3 Value.none))) := stay_set 3 _ hT hdT (.inr hY)
    refine entry_ok (s := { s with heap := s.heap.update T (Obj.mapFields (·.setIfInBounds 3 Value.none)) }) hfr (st.funs hl) hf (fun b hb => hy b (Nat.le_trans st.size hb)) ((Heap.get?_update_other _ _ hTe).trans he) hc hdx hd (Array.getElem?_eq_some_iff.mp h1).1 lk (ll.stay st fun b hb => (hl.mem hb).2) fun h' t x' => q h' (st.trans t) x'
/-- it leaves a frame -/
theorem leave_ok (hfr : A.frames = some (env :: outer)) (hl : s.heap.FunFrames base (env :: outer)) (hf : env.frame = some L) (hy : ∀ b, s.heap.objs.size ≤ b → Y b) (x : Exc s.heap Y e cls dx ch fl) (hfl : fl = none ∨ fl = some .none)
    (q : ∀ h', Stay Y e (frs (env :: outer)) s.heap h' → Exc h' Y e cls dx ch (some .none) → Q () { s with heap := h' }) : wpAny M A (leaving env (.ref e)) Q E s := by
  unfold leaving
  refine wpAny_bind (note_ok hfr hl hf hy x hfl fun h₁ st x1 => ?_)
  exact land_ok (s := { s with heap := h₁ }) (fs := frs (env :: outer)) (fun b hb => ((st.funs hl).mem hb).2) x1 fun h₂ st2 x2 => q h₂ (st.trans st2) x2
end
end L2


end
section
set_option Elab.async false
set_option linter.all false
set_option maxRecDepth 100000
set_option maxHeartbeats 400000
namespace L2
open PySem PySem.Spec PyProof.Rows
theorem Exc.mono {h : Heap} {Y Y' : Addr → Prop} {e : Addr} {cls : Value} {dx : Option Addr} {ch : List (Addr × Obj)} {fl : Option Value} (x : Exc h Y e cls dx ch fl) (k : ∀ b, Y b → Y' b) : Exc h Y' e cls dx ch fl := by
  obtain ⟨oe, vs, he, hc, hdx, hd, ⟨lk, l1, l2⟩, hh⟩ := x
  refine ⟨oe, vs, he, hc, hdx, hd, ⟨lk, l1, fun p hp => let ⟨a, b, c, d⟩ := l2 p hp; ⟨a, b, c, k _ d⟩⟩, ?_⟩
  cases fl with
  | none => exact hh
  | some v => obtain ⟨T, oT, ts, h1, h2, h3, r⟩ := hh; exact ⟨T, oT, ts, h1, h2, ⟨k T h3.1, h3.2⟩, r⟩
/-- young and not tracked -/
def Yg (old : Heap) (H : Hp) (b : Addr) : Prop := old.get? b = none ∧ H b = none
/-- how an exception lies behind a call -/
def CX1 (P : Program) (w : World) : CXT := fun outer H s E e s' => ∃ ea cls dx ch H', e = .ref ea ∧ s'.os = s.os ∧ AllBare s'.gens ∧ Un (frs outer) [] H H' s.heap s'.heap ∧ HOk P w H' s'.heap ∧
  Exc s'.heap (Yg s.heap H') ea cls dx ch (some .none) ∧ s.heap.get? ea = none ∧ H' ea = none ∧ E cls dx H'
/-- what is thrown in the body reaches the wish -/
def Throws (X : Cx) (E : XK) : Prop := ∀ (pins : List (Addr × Obj)) (σ : St) (H : Hp) (s : Shared) (e : Addr) (cls : Value) (dx : Option Addr) (ch : List (Addr × Obj)) (fl : Option Value), Inv X pins σ H s → Exc s.heap (Yg X.s₀.heap H) e cls dx ch fl → (fl = none ∨ fl = some .none) →
  X.s₀.heap.get? e = none → H e = none → E cls dx H → X.xe (.ref e) s
section
variable {X : Cx} {E : XK} {pins : List (Addr × Obj)} {σ : St} {H : Hp} {s : Shared}
theorem Inv.young (I : Inv X pins σ H s) (hx : X.ex = []) {b : Addr} (h : s.heap.get? b = none) : X.s₀.heap.get? b = none := by
  cases q : X.s₀.heap.get? b with
  | none => rfl
  | some o =>
    obtain ⟨o', e⟩ := I.base.there b o q (by rw [hx]; simp)
    rw [h] at e; cases e
theorem frs_cons {env : Env} {outer : List Env} {L : Addr} (h : env.frame = some L) : frs (env :: outer) = L :: frs outer := by unfold frs; rw [List.filterMap_cons, h]
end
section
variable {P : Program} {w : World} {K : PySem.W.Frag} {mg : Str → Option Value} {base : Heap} {N : List Str} {qual : Str} {scope : Scope} {f : Addr} {cd : Value} {A : Around} {outer : List Env} {s : Shared} {H : Hp} {E : XK}
theorem throws0 : Throws (cxOf (CX1 P w) P w K mg base N qual scope f cd A outer s H E) E := by
  intro pins σ H' s' e cls dx ch fl I x hfl n1 n2 hE
  have n1 : s.heap.get? e = none := n1
  have fr : frs (envOfC qual scope s.heap.objs.size f cd :: outer) = s.heap.objs.size :: frs outer := frs_cons rfl
  have stk : s'.heap.FunFrames base (envOfC qual scope s.heap.objs.size f cd :: outer) := I.stack
  have sf : ∀ b ∈ frs (envOfC qual scope s.heap.objs.size f cd :: outer), H' b = none := I.stkFree
  have ib : Un (frs outer) [] H H' s.heap s'.heap := I.base
  show wpAny (model P w) _ (leaving _ (.ref e)) _ _ s'
  refine leave_ok (base := base) (Y := Yg s.heap H') (L := s.heap.objs.size) (fl := fl) I.ok.frames stk rfl (fun b hb => ⟨Heap.get?_none_of_le (Nat.le_trans I.sz hb), I.hok.fresh hb⟩) x hfl fun h' st x' => ?_
  have nf : ∀ b o, s.heap.get? b = some o → b ∉ frs outer → b ∉ frs (envOfC qual scope s.heap.objs.size f cd :: outer) := fun b o q hb hm => by
    rw [fr] at hm
    rcases List.mem_cons.mp hm with z | z
    · rw [z] at q; exact absurd (Heap.lt_size q) (Nat.lt_irrefl _)
    · exact hb z
  have ne : ∀ b o, s.heap.get? b = some o → b ≠ e := fun b o q z => by rw [z, n1] at q; cases q
  have ny : ∀ b o (o' : Obj), s.heap.get? b = some o → ¬ (Yg s.heap H' b ∧ o'.cls = .type "traceback") := fun b o o' q y => by rw [y.1.1] at q; cases q
  refine ⟨e, cls, dx, ch, H', rfl, I.os, I.bare, ⟨fun b o q n hb hx => ?_, fun b o q n hb hx => ?_, ib.free, fun b o q hx => ?_, ib.tups, ib.frzs, ib.tbls⟩, fun b u eb => ?_, x', n1, n2, hE⟩
  · exact st.keep b o (ib.keep b o q n hb hx) (ne b o q) (ny b o _ q) (nf b o q hb)
  · obtain ⟨sl, q1⟩ := ib.slot b o q n hb hx
    obtain ⟨_, o2, q2, hn⟩ := stk.mem (show b ∈ frs _ by rw [fr]; exact List.mem_cons_of_mem _ hb)
    rw [q1] at q2; cases q2
    obtain ⟨sl', q3⟩ := st.slot b _ q1 hn
    exact ⟨sl', q3⟩
  · obtain ⟨o', q1⟩ := ib.there b o q hx
    by_cases hn : ∀ vs, o'.data ≠ .fields vs
    · obtain ⟨sl, q2⟩ := st.slot b o' q1 hn
      exact ⟨_, q2⟩
    · refine ⟨o', st.keep b o' q1 (ne b o q) (ny b o _ q) fun hm => ?_⟩
      obtain ⟨_, o2, q2, hn2⟩ := stk.mem hm
      rw [q1] at q2; cases q2
      exact hn hn2
  · refine (I.hok b u eb).stay (fun c v hc q => ?_) (fun _ q => q) fun _ _ q => q
    have hc' : H' c ≠ none := by
      rcases hc with z | z
      · rw [z, eb]; simp
      · rw [z]; simp
    exact st.keep c v q (fun z => hc' (by rw [z]; exact n2)) (fun y => hc' y.1.2) fun hm => hc' (sf c hm)
theorem own1 : PassesOwn (model P w) (cxOf (CX1 P w) P w K mg base N qual scope f cd A outer s H E).A (cxOf (CX1 P w) P w K mg base N qual scope f cd A outer s H E).env (cxOf (CX1 P w) P w K mg base N qual scope f cd A outer s H E).xe := PassesOwn.leaving (Q₁ := fun e s'' => CX1 P w outer H s E e s'')
end
theorem ObjOk.obj {P : Program} {w : World} {H : Hp} {h : Heap} {a : Addr} {o : HO} (x : ObjOk P w H h a o) : ∃ ob, h.get? a = some ob := by
  cases o with
  | lst xs => obtain ⟨_, _, _, _, e⟩ := x; exact ⟨_, e⟩
  | tup xs => obtain ⟨_, _, _, p⟩ := x; obtain ⟨o, e, _⟩ := p; exact ⟨_, e⟩
  | dK kvs => obtain ⟨_, _, _, _, o, _, _, e, _⟩ := x; exact ⟨_, e⟩
  | dT kvs => obtain ⟨_, _, _, _, o, _, _, e, _⟩ := x; exact ⟨_, e⟩
  | set S n => obtain ⟨o, _, _, _, e, _⟩ := x; exact ⟨_, e⟩
  | ins C dx fs => obtain ⟨_, _, _, e, _⟩ := x; exact ⟨_, e⟩
  | own y => exact x
  | xd fs => obtain ⟨_, ⟨_, _, _, e, _⟩, _⟩ := x; exact ⟨_, e⟩
  | rng lo hi => obtain ⟨_, _, _, e⟩ := x; exact ⟨_, e⟩
  | frz ob u => obtain ⟨e, _⟩ := x; exact ⟨_, e⟩
  | tbl ps => exact ⟨_, x⟩
  | met f y => exact ⟨_, x⟩
  | ext φ => obtain ⟨_, e, _⟩ := x; exact e
theorem HOk.none_of {P : Program} {w : World} {H : Hp} {h : Heap} {a : Addr} (x : HOk P w H h) (e : h.get? a = none) : H a = none := by
  cases q : H a with
  | none => rfl
  | some u => obtain ⟨o, e'⟩ := (x a u q).obj; rw [e] at e'; cases e'
/-- an own class of exceptions, its bases' row bm; behind the own ones bmB -/
structure ExcC (K : PySem.W.Frag) (C : Addr) (bm bmB : List Value) (newId : String) : Prop where
  ex : ∃ nm q N bs hdct sn sub ab col dd k0 k1 k2 k3 k5, K.lookup C = some (excClassObj nm q C N bs bm hdct sn sub ab col dd k0 k1 k2 k3 k5 newId) ∧ PySem.W.nsOkIn K N = true ∧ PySem.W.nsIn K N "__init__" = some none
  tail : PySem.W.tailIn K bmB bm = true
section
variable {X : Cx} {E : XK} {x : Str} {C : Addr} {bm bmB : List Value} {B newId initId : String} {np cpos pos : Pos}
/-- the reading of a raise: what is wanted of the exception -/
def tRaise (E : XK) (cls : Value) : TS := fun _ _ H => E cls none H
theorem ps_raise0 (T : Throws X E) (hex : X.ex = []) (hcalm : X.calm = true) (hg : Gl X x) (hm : X.mg x = some (.ref C)) (c : ExcC X.K C bm bmB newId) (FB : ExcBaseFacts B newId initId bmB) (hdb : (x == ("__debug__" : Str)) = false := by decide) :
    PS X (.Raise (some (.Call (.Name x np) [] [] cpos)) none pos) (tRaise E (.ref C)) := by
  intro pins s σ H D I h
  obtain ⟨nm, q, N, bs, hdct, sn, sub, ab, col, dd, k0, k1, k2, k3, k5, lk, ok, hi⟩ := c.ex
  have KX := I.kIn
  have TL : OwnTail s.heap bmB bm := PySem.W.tail_of_in KX c.tail
  refine wpAny_Raise_call_subT (C := C) (nm := nm) (q := q) (N := N) (bs := bs) (bm := bm) (hdct := hdct) (sn := sn) (sub := sub) (ab := ab) (col := col) (dd := dd) (k0 := k0) (k1 := k1) (k2 := k2) (k3 := k3) (k5 := k5) FB (mN := s.heap.nsMap N) (TL.hasType FB.hasBase) (I.ok.hd hcalm) rfl (PySem.W.nsMap_none_of_in KX ok hi) (ld_glob I hg hm ⟨rfl, ?_⟩ hdb)
  refine evalArgs_empty ⟨rfl, Nat.zero_le _, KX _ _ lk, .of_isNs (PySem.W.isNs_of_in KX ok), TL, fun h' e mk => ?_⟩
  have I2 : Inv X pins σ H { s with heap := h' } := I.kept (t' := s.toks) mk.keeps
  obtain ⟨t, he, _⟩ := mk.there
  exact T pins σ H _ e (.ref C) none [] none I2 ⟨_, _, he, rfl, rfl, rfl, ⟨⟨.none, rfl, rfl⟩, by simp, fun p hp => by cases hp⟩, rfl⟩ (.inl rfl) (I.young hex mk.new) (I.hok.none_of mk.new) h
end
end L2


end
section
set_option Elab.async false
set_option linter.all false
set_option maxRecDepth 100000
set_option maxHeartbeats 400000
namespace L2
open PySem PySem.Spec PyProof.Rows
/-- what was there ahead of the call: all of the entry, all that is pinned -/
structure Old (X : Cx) (pins : List (Addr × Obj)) (old : Heap) : Prop where
  ent : ∀ b, old.get? b = none → X.s₀.heap.get? b = none
  pin : ∀ p ∈ X.pn ++ pins, old.get? p.1 ≠ none
def X1P (X : Cx) (pins : List (Addr × Obj)) (σ : St) (E : XK) (ev : Value) (s' : Shared) : Prop :=
  ∃ ea cls dx ch H' old, ev = .ref ea ∧ Inv X pins σ H' s' ∧ Exc s'.heap (Yg old H') ea cls dx ch (some .none) ∧ Old X pins old ∧ (∀ b, s'.heap.objs.size ≤ b → old.get? b = none) ∧ old.get? ea = none ∧ H' ea = none ∧ E cls dx H'
abbrev TE1 := St → Hp → VK → XK → Prop
abbrev TS1 := Ends → St → Hp → XK → Prop
def PE1 (X : Cx) (e : Expr) (t : TE1) : Prop :=
  ∀ (pins : List (Addr × Obj)) (s : Shared) (σ : St) (H : Hp) (Q : VK) (E : XK), Inv X pins σ H s → t σ H Q E → wpAny (model X.prog X.w) X.A (eval e X.env) (EP X pins σ Q) (X1P X pins σ E) s
def PS1 (X : Cx) (st : Stmt) (t : TS1) : Prop :=
  ∀ (pins : List (Addr × Obj)) (s : Shared) (σ : St) (H : Hp) (D : Ends) (E : XK), Inv X pins σ H s → t D σ H E → wpAny (model X.prog X.w) X.A (exec st X.env) (SP X pins D) (X1P X pins σ E) s
section
variable {X : Cx} {E : XK} {e : Expr} {es : List Expr} {t : TA} {t1 : TE1} {x : Str} {p pos : Pos} {k j : Nat} {f : Addr} {fd : FuncData} {ps : List Str} {sp : Sp}
theorem X1P.thrown {pins : List (Addr × Obj)} {σ : St} {ev : Value} {s' : Shared} (T : Throws X E) (h : X1P X pins σ E ev s') : X.xe ev s' := by
  obtain ⟨ea, cls, dx, ch, H', old, rfl, I, y, o, _, n1, n2, hE⟩ := h
  exact T pins σ H' s' ea cls dx ch _ I (y.mono fun b z => ⟨o.ent b z.1, z.2⟩) (.inr rfl) (o.ent _ n1) n2 hE
theorem PE1.pe (h : PE1 X e t1) (T : Throws X E) : PE X e (fun σ H Q => t1 σ H Q E) := fun pins s σ H Q I q => wpAny_mono (h pins s σ H Q E I q) (fun _ _ z => z) fun _ _ z => z.thrown T
theorem Inv.old {pins : List (Addr × Obj)} {σ : St} {H : Hp} {s : Shared} (I : Inv X pins σ H s) (hex : X.ex = []) : Old X pins s.heap :=
  ⟨fun b h => I.young hex h, fun p hp h => by rw [(I.pin p hp).1] at h; cases h⟩
/-- the callee runs -/
theorem run_fn1 {pins : List (Addr × Obj)} {σ : St} {H : Hp} {s : Shared} {Q : VK} {us : List Value} {vs : List V} (F : FnOk X.prog X.w X.K X.mg X.base (CX1 X.prog X.w) k f fd ps sp) (hr : Room k X.A) (hb : Binds X.K fd ps []) (hex : X.ex = [])
    (I : Inv X pins σ H s) (r : Vals vs us) (h : sp vs H Q E) : wpAny (model X.prog X.w) X.A (call (.ref f) us) (EP X pins σ Q) (X1P X pins σ E) s := by
  have hl : (us ++ []).length = ps.length := by rw [List.append_nil, ← r.length]; exact F.len _ _ _ _ h
  have b := hb s us I.kIn hl
  rw [List.append_nil] at b
  refine wpAny_call (codeAny_mono (F.run X.A X.stack s H ⟨us, []⟩ us vs Q E hr I.env0 b r h) fun res s' hq => ?_)
  cases res with
  | error ev =>
    obtain ⟨ea, cls, dx, ch, H', rfl, os, bare, un, hok, y, n1, n2, hE⟩ := hq
    refine ⟨ea, cls, dx, ch, H', s.heap, rfl, I.call' (ch := []) os un hok bare (fun b z => absurd z (by simp)), y, I.old hex, fun b hb => ?_, n1, n2, hE⟩
    cases q : s.heap.get? b with
    | none => rfl
    | some u =>
      obtain ⟨u', q'⟩ := un.there b u q (by simp)
      exact absurd (Nat.lt_of_lt_of_le (Heap.lt_size q') hb) (Nat.lt_irrefl _)
  | ok fl =>
    cases fl with
    | ret u => exact I.after hq
    | next => exact False.elim hq
    | brk => exact False.elim hq
    | cont => exact False.elim hq
def tCall1 (sp : Sp) (t : TA) : TE1 := fun σ H Q E => t σ H fun vs H1 => sp vs H1 Q E
theorem pa_nox {pins : List (Addr × Obj)} {σ : St} {H : Hp} {s : Shared} {Q : List V → Hp → Prop} {W : Value → Shared → Prop} (ha : PA X.nox es t) (I : Inv X pins σ H s) (q : t σ H Q) : wpAny (model X.prog X.w) X.A (spliced (backTo pos (starEach es X.env))) (AP X pins σ Q) W s :=
  wpAny_mono (ha pos pins s σ H Q (I.wish _) q) (fun _ _ ⟨vs, H', I', r, z⟩ => ⟨vs, H', I'.unwish, r, z⟩) fun _ _ z => False.elim z
theorem pe1_call (F : FnOk X.prog X.w X.K X.mg X.base (CX1 X.prog X.w) k f fd ps sp) (hr : Room k X.A) (hg : Gl X x) (hm : X.mg x = some (.ref f)) (hk : PySem.W.keepIn X.K (.ref f) = true) (hb : Binds X.K fd ps []) (hex : X.ex = [])
    (ha : PA X.nox (e :: es) t) (hdb : (x == ("__debug__" : Str)) = false := by decide) (he : starEach (e :: es) X.env = (false, eval e X.env) :: starEach es X.env := by rfl) (hpl : (backTo pos (starEach es X.env)).any (·.1) = false := by rfl) :
    PE1 X (.Call (.Name x p) (e :: es) [] pos) (tCall1 sp t) := by
  intro pins s σ H Q E I h
  refine wpAny_Call_Name_kw (ld_glob I hg hm ?_ hdb)
  refine PySem.W.callWith_K (h₀ := X.base) I.ok.mod.kin hk (thn (pa_nox ha I h) fun us s1 ⟨vs, H1, I1, r, q⟩ => ⟨I1.kIn, ?_⟩) he hpl
  exact run_fn1 F hr hb hex I1 r q
theorem ps1_ret (h : PE1 X e t1) : PS1 X (.Return (some e) pos) (fun D σ H E => t1 σ H D.rt E) := fun pins s σ H D E I q =>
  wpAny_Return_some (thn (h pins s σ H _ E I q) fun v s1 ⟨x, H1, I1, r1, q1⟩ => ⟨x, σ, H1, I1, r1, q1⟩)
theorem ps1_set {i : Nat} {y : Str} {pos' : Pos} (hN : X.N.Nodup) (hi : X.N[i]? = some y) (hx : Loc X.env.scope y) (h : PE1 X e t1) (hs : swapsWith e (some (.Name y pos')) pos.line X.env = pure false := by rfl)
    (hf : X.fn y = true ∨ X.env.scope.names.lookup y = some .local := by first | exact .inl rfl | exact .inr rfl | assumption) : PS1 X (.Assign [.Name y pos'] e pos) (fun D σ H E => t1 σ H (fun v H1 => D.nx (σ.set i (some v)) H1) E) := fun pins s σ H D E I q =>
  wpAny_Assign_Name (thn (h pins s σ H _ E I q) fun v s1 ⟨y, H1, I1, r1, q1⟩ => store_ok I1 hN hi hx r1 (fun s' I' => ⟨_, H1, I', q1⟩) hf) hs
end
section
variable {X : Cx} {pins : List (Addr × Obj)} {σ : St} {H : Hp} {s : Shared}
theorem ns_slot {h h' : Heap} {a : Addr} {m : Str → Option Value} (hn : h.Ns a m) (k : ∀ o, h.get? a = some o → (∀ vs, o.data ≠ .fields vs) → ∃ sl, h'.get? a = some { o with slots := sl }) : h'.Ns a m := by
  obtain ⟨o, es, ep, ho, hd, r⟩ := hn
  obtain ⟨sl, e⟩ := k o ho fun vs q => by rw [hd] at q; cases q
  exact ⟨_, es, ep, e, hd, r⟩
/-- the exception's own records and the frames' slots have changed -/
theorem Inv.stayed {old h' : Heap} {e : Addr} (I : Inv X pins σ H s) (hex : X.ex = []) (o : Old X pins old) (n1 : old.get? e = none) (n2 : H e = none) (st : Stay (Yg old H) e (frs X.stack) s.heap h') : Inv X pins σ H { s with heap := h' } := by
  have ne : ∀ b, X.s₀.heap.get? b ≠ none → b ≠ e := fun b q z => q (by rw [z]; exact o.ent _ n1)
  have ny : ∀ b (u : Obj), X.s₀.heap.get? b ≠ none → ¬ (Yg old H b ∧ u.cls = .type "traceback") := fun b _ q y => q (o.ent _ y.1.1)
  have sub : ∀ b, b ∈ frs X.stack → b = X.env.locals ∨ b ∈ X.fs := fun b hb => List.mem_cons.mp (I.stkSub b hb)
  have nl : ∀ b u, X.s₀.heap.get? b = some u → b ≠ X.env.locals := fun b u q => Nat.ne_of_lt (Nat.lt_of_lt_of_le (Heap.lt_size q) I.ok.above)
  have xn : ∀ b : Addr, b ∉ X.ex := fun b z => by rw [hex] at z; exact absurd z (by simp)
  have ck : ∀ c v, s.heap.IsCell c v → ({ s with heap := h' } : Shared).heap.IsCell c v := fun c v ⟨oc, hc, hd⟩ => by
    obtain ⟨sl, q⟩ := st.slot c oc hc fun vs z => by rw [hd] at z; cases z
    exact ⟨_, q, hd⟩
  refine ⟨I.ok, I.os, I.bare, ⟨fun b u q n hb hx => ?_, fun b u q n hb hx => ?_, I.base.free, fun b u q hx => ?_, I.base.tups, I.base.frzs, I.base.tbls⟩, ?_, fun y c q => ?_, I.free, I.freeC, fun p hp => ?_, fun b u eb => ?_, I.len⟩
  · exact st.keep b u (I.base.keep b u q n hb hx) (ne b (by rw [q]; simp)) (ny b _ (by rw [q]; simp)) fun hm => (sub b hm).elim (nl b u q) hb
  · obtain ⟨sl, q1⟩ := I.base.slot b u q n hb hx
    obtain ⟨_, o2, q2, hn⟩ := I.ok.funs.mem hb
    rw [q] at q2; cases q2
    obtain ⟨sl', q3⟩ := st.slot b _ q1 hn
    exact ⟨sl', q3⟩
  · obtain ⟨u', q1⟩ := I.base.there b u q hx
    by_cases hn : ∀ vs, u'.data ≠ .fields vs
    · obtain ⟨sl, q2⟩ := st.slot b u' q1 hn
      exact ⟨_, q2⟩
    · refine ⟨u', st.keep b u' q1 (ne b (by rw [q]; simp)) (ny b _ (by rw [q]; simp)) fun hm => ?_⟩
      obtain ⟨_, o2, q2, hn2⟩ := I.stack.mem hm
      rw [q1] at q2; cases q2
      exact hn hn2
  · obtain ⟨m, hn, hl⟩ := I.loc
    refine ⟨m, ns_slot hn fun u q n => st.slot _ u q n, fun i y v e1 e2 e3 => ?_⟩
    obtain ⟨u, r, l⟩ := hl i y v e1 e2 e3
    refine ⟨u, r, ?_⟩
    rcases l with l | ⟨k, c, ec, z⟩
    · exact .inl l
    · exact .inr ⟨k, c, ec, ck c _ z⟩
  · obtain ⟨v, z⟩ := I.cell y c q
    exact ⟨v, ck c v z⟩
  · obtain ⟨q, n, a, b, d⟩ := I.pin p hp
    have hq := o.pin p hp
    exact ⟨st.keep p.1 p.2 q (fun z => hq (by rw [z]; exact n1)) (fun y => hq y.1.1) fun hm => (sub p.1 hm).elim a b, n, a, b, d⟩
  · refine (I.hok b u eb).stay (fun c v hc q => ?_) (fun _ q => q) fun _ _ q => q
    have hc' : H c ≠ none := by
      rcases hc with z | z
      · rw [z, eb]; simp
      · rw [z]; simp
    exact st.keep c v q (fun z => hc' (by rw [z]; exact n2)) (fun y => hc' y.1.2) fun hm => hc' (I.stkFree c hm)
/-- within an except suite: the exception at ea is held; it and those behind it are pinned -/
abbrev Cx.held (X : Cx) (ea : Addr) (ps : List (Addr × Obj)) : Cx := { X with A := X.A.mark (some (.ref ea)), calm := false, pn := ps ++ X.pn }
structure HeldIs (X : Cx) (ea : Addr) (ps : List (Addr × Obj)) : Prop where
  ex : ∃ oe vs c ch, ps = (ea, oe) :: ch ∧ oe.data = .fields vs ∧ vs[2]? = some c ∧ Links ch c
  nd : (ps.map (·.1)).Nodup
  all : ∀ p ∈ ps, p.2.cls ≠ .type "traceback" ∧ (∃ va, p.2.data = .fields va) ∧ X.s₀.heap.get? p.1 = none
theorem Inv.held {ea : Addr} {ps : List (Addr × Obj)} (I : Inv X pins σ H s) (h : ∀ p ∈ ps, s.heap.get? p.1 = some p.2 ∧ H p.1 = none ∧ p.1 ≠ X.env.locals ∧ p.1 ∉ X.fs ∧ ∀ v, p.2.data ≠ .cell v) : Inv (X.held ea ps) pins σ H s :=
  ⟨⟨I.ok.mod, I.ok.kind, I.ok.glob, I.ok.blt, I.ok.above, I.ok.inj, I.ok.has, I.ok.cab, (fun h => by cases h), I.ok.frames, I.ok.stk, I.ok.exf, I.ok.bs, I.ok.bsz, I.ok.noex, I.ok.exfs, I.ok.funs, I.ok.frf⟩, I.os, I.bare, I.base, I.loc, I.cell, I.free, I.freeC, fun p hp => by
    have hp : p ∈ (ps ++ X.pn) ++ pins := hp
    rw [List.append_assoc] at hp
    exact (List.mem_append.mp hp).elim (h p) (I.pin p), I.hok, I.len⟩
theorem Inv.unheld {ea : Addr} {ps : List (Addr × Obj)} (I : Inv (X.held ea ps) pins σ H s) (ok : X.Ok) : Inv X pins σ H s := ⟨ok, I.os, I.bare, I.base, I.loc, I.cell, I.free, I.freeC, fun p hp => I.pin p (by show p ∈ (ps ++ X.pn) ++ pins; rw [List.append_assoc]; exact List.mem_append_right _ hp), I.hok, I.len⟩
theorem Throws.held {E : XK} (T : Throws X E) (ok : X.Ok) (ea : Addr) (ps : List (Addr × Obj)) : Throws (X.held ea ps) E := fun pins σ H s e cls dx ch fl I y hf n1 n2 hE => T pins σ H s e cls dx ch fl (I.unheld ok) y hf n1 n2 hE
end
section
variable {X : Cx} {st b₀ : Stmt} {suite : List Stmt} {t1 : TS1} {ts : TS} {x : Str} {C : Addr} {bm bmB : List Value} {B newId initId : String} {np hpos pos : Pos}
/-- try: one statement / except C: .. -/
theorem ps_try (h1 : PS1 X st t1) (hex : X.ex = []) (hst : X.stack = X.env :: X.outer) (hfr : X.env.frame = some X.env.locals) (hown : ∀ hd, PassesOwnAt (model X.prog X.w) (X.A.mark hd) X.A X.env X.xe) (hg : Gl X x) (hm : X.mg x = some (.ref C))
    (c : ExcC X.K C bm bmB newId) (FB : ExcBaseFacts B newId initId bmB) (hs : ∀ ea ps, X.Ok → HeldIs X ea ps → PSs (X.held ea ps) (b₀ :: suite) ts) (hdb : (x == ("__debug__" : Str)) = false := by decide) :
    PS X (.Try [st] [.ExceptHandler (some (.Name x np)) none (b₀ :: suite) hpos] [] [] pos) (fun D σ H => t1 D σ H fun cls _ H' => cls = .ref C ∧ ts D σ H') := by
  intro pins s σ H D I h
  refine wpAny_Try_except (wpAny_execs_cons (wpAny_mono (h1 pins s σ H D _ I h) (fun f s1 q => ?_) fun ev s1 q => ?_))
  · cases f with
    | next => exact wpAny_execs_nil (wpAny_execs_nil q)
    | ret v => exact q
    | brk => exact q
    | cont => exact q
  obtain ⟨ea, cls, dx, ch, H', old, rfl, I1, y, o, hsz, n1, n2, rfl, hts⟩ := q
  have frm : X.A.frames = some (X.env :: X.outer) := by rw [← hst]; exact I1.ok.frames
  have stk : s1.heap.FunFrames X.base (X.env :: X.outer) := by rw [← hst]; exact I1.stack
  obtain ⟨nm, q, N, bs, hdct, sn, sub, ab, col, dd, k0, k1, k2, k3, k5, lk, ok, hi⟩ := c.ex
  refine note_ok (base := X.base) frm stk hfr (fun b hb => ⟨hsz b hb, I1.hok.fresh hb⟩) y (.inr rfl) fun h2 st2 y2 => ?_
  refine land_ok (s := { s1 with heap := h2 }) (fs := frs (X.env :: X.outer)) (fun b hb => ((st2.funs stk).mem hb).2) y2 fun h3 st3 y3 => ?_
  have st := st2.trans st3
  rw [← hst] at st
  have I3 : Inv X pins σ H' { s1 with heap := h3 } := I1.stayed hex o n1 n2 st
  refine wpAny_handleBy_cons (codeAny_handlers_test (ld_glob (X := X.held ea []) (I3.held (ea := ea) (ps := []) fun p hp => by cases hp) hg hm ?_ hdb)) (by intro z; cases z)
  obtain ⟨oe, vs, he, hc, hdx, hd, _, hh⟩ := id y3
  have TL : OwnTail h3 bmB bm := PySem.W.tail_of_in I3.kIn c.tail
  refine wpAny_excMatches_sub_self (I3.kIn _ _ lk) he hc (TL.hasType FB.hasBase) (codeAny_handlers_suite ?_)
  refine land_ok (s := { s1 with heap := h3 }) (fs := frs X.stack) (fun b hb => (I3.stack.mem hb).2) y3 fun h4 st4 y4 => ?_
  have I4 : Inv X pins σ H' { s1 with heap := h4 } := I3.stayed hex o n1 n2 st4
  obtain ⟨oe4, vs4, he4, hc4, _, hd4, ⟨⟨c4, hv4, hl4⟩, nd4, ll4⟩, _⟩ := y4
  have nfr : ∀ b u va, h4.get? b = some u → u.data = .fields va → b ≠ X.env.locals ∧ b ∉ X.fs := fun b u va q d => by
    have st4 : h4.FunFrames X.base (X.env :: X.outer) := by rw [← hst]; exact I4.stack
    have hno : b ∉ frs (X.env :: X.outer) := fun hm => by
      obtain ⟨_, o2, q2, hn2⟩ := st4.mem hm
      rw [q] at q2; cases q2
      exact hn2 va d
    rw [frs_cons hfr] at hno
    exact ⟨fun z => hno (by rw [z]; exact List.mem_cons_self), fun z => hno (List.mem_cons_of_mem _ z)⟩
  have cd : ∀ {u : Obj} {va : Array Value}, u.data = .fields va → ∀ v, u.data ≠ .cell v := fun d v z => by rw [d] at z; cases z
  have hI : HeldIs X ea ((ea, oe4) :: ch) := ⟨⟨oe4, vs4, c4, ch, rfl, hd4, hv4, hl4⟩, nd4, fun p hp => by
    rcases List.mem_cons.mp hp with z | z
    · subst z; exact ⟨(fun z => by rw [show oe4.cls = .ref C from hc4] at z; cases z), ⟨_, hd4⟩, o.ent _ n1⟩
    · obtain ⟨q1, q2, q3, q4⟩ := ll4 p z
      exact ⟨q2, q3, o.ent _ q4.1⟩⟩
  have J4 : Inv (X.held ea ((ea, oe4) :: ch)) pins σ H' { s1 with heap := h4 } := I4.held fun p hp => by
    rcases List.mem_cons.mp hp with z | z
    · subst z; exact ⟨he4, n2, (nfr _ _ _ he4 hd4).1, (nfr _ _ _ he4 hd4).2, cd hd4⟩
    · obtain ⟨q1, q2, ⟨va, q3⟩, q4⟩ := ll4 p z
      exact ⟨q1, q4.2, (nfr _ _ _ q1 q3).1, (nfr _ _ _ q1 q3).2, cd q3⟩
  refine wpAny_passesOwnAt (hown _) (wpAny_mono (hs ea _ I.ok hI pins _ σ H' D J4 hts) (fun f s5 z => ?_) fun _ _ z => z)
  cases f with
  | next => obtain ⟨σ', H5, J, q⟩ := z; exact ⟨σ', H5, J.unheld I.ok, q⟩
  | brk => obtain ⟨σ', H5, J, q⟩ := z; exact ⟨σ', H5, J.unheld I.ok, q⟩
  | cont => obtain ⟨σ', H5, J, q⟩ := z; exact ⟨σ', H5, J.unheld I.ok, q⟩
  | ret u => obtain ⟨v, σ', H5, J, r, q⟩ := z; exact ⟨v, σ', H5, J.unheld I.ok, r, q⟩
end
end L2


end
section
set_option Elab.async false
set_option linter.all false
set_option maxRecDepth 100000
set_option maxHeartbeats 400000
namespace L2
open PySem PySem.Spec PyProof.Rows
theorem entry_unchain : entryFor table "proto.unchain" = some Builtin.«proto.unchain» := entryFor_of_tree (by kernel_rfl)
theorem quiet_unchain (a : Args) : (Code.builtin "proto.unchain" a).quiet = true := Code.quiet_builtin a (by decide +kernel)
section
variable {prog : Program} {w : World} {A : Around} {s : Shared} {R : Result → Shared → Prop} {value : Value}
/-- the walk along the exceptions behind the held one finds no end but None -/
theorem unchain_ok (hR : R (.ok (.ret .none)) s) : ∀ (r : List (Addr × Obj)) (o : Addr) (oo : Obj) (vo : Array Value) (c : Value) (slow : Addr) (toggle : Bool) (seen : List Addr),
    s.heap.get? o = some oo → oo.data = .fields vo → vo[2]? = some c → Links r c → (∀ p ∈ r, s.heap.get? p.1 = some p.2 ∧ value ≠ .ref p.1 ∧ p.1 ∉ seen) → (r.map (·.1)).Nodup → slow ∈ seen →
    (∀ a ∈ seen, ∃ oa va x, s.heap.get? a = some oa ∧ oa.data = .fields va ∧ va[2]? = some x ∧ ((∃ b ∈ seen, x = .ref b) ∨ x = c)) →
    codeAny (model prog w) A (.builtin "proto.unchain" ⟨[value, .ref o, .ref slow, .bool toggle], []⟩) R s := by
  intro r
  induction r with
  | nil =>
    intro o oo vo c slow toggle seen ho hd hc hl _ _ _ _
    have hl : c = .none := hl
    subst hl
    refine codeAny_builtin entry_unchain ?_
    unfold Builtin.«proto.unchain»
    refine wpAny_bind (wpAny_field ho hd hc ?_)
    rw [if_pos (by decide)]
    exact wpAny_pure hR
  | cons p r ih =>
    intro o oo vo c slow toggle seen ho hd hc hl hr nd hs ha
    obtain ⟨rfl, va, c', hdp, hcp, hl'⟩ := hl
    obtain ⟨hp, hv, hns⟩ := hr p List.mem_cons_self
    have hne : p.1 ≠ slow := fun z => hns (by rw [z]; exact hs)
    refine codeAny_builtin entry_unchain ?_
    unfold Builtin.«proto.unchain»
    refine wpAny_bind (wpAny_field ho hd hc ?_)
    rw [if_neg (fun z => by cases (beq_iff_eq.mp z)), if_neg (fun z => hv (beq_iff_eq.mp z).symm), if_neg (fun z => hne (Value.ref.inj (beq_iff_eq.mp z)))]
    have nd' := List.nodup_cons.mp (show (p.1 :: r.map (·.1)).Nodup from nd)
    have hr' : ∀ q ∈ r, s.heap.get? q.1 = some q.2 ∧ value ≠ .ref q.1 ∧ q.1 ∉ p.1 :: seen := fun q hq => by
      obtain ⟨a, b, d⟩ := hr q (List.mem_cons_of_mem _ hq)
      refine ⟨a, b, fun z => ?_⟩
      rcases List.mem_cons.mp z with z | z
      · exact nd'.1 (by rw [← z]; exact List.mem_map_of_mem hq)
      · exact d z
    have ha' : ∀ a ∈ p.1 :: seen, ∃ oa va x, s.heap.get? a = some oa ∧ oa.data = .fields va ∧ va[2]? = some x ∧ ((∃ b ∈ p.1 :: seen, x = .ref b) ∨ x = c') := fun a h => by
      rcases List.mem_cons.mp h with z | z
      · subst z; exact ⟨p.2, va, c', hp, hdp, hcp, .inr rfl⟩
      · obtain ⟨oa, va2, x, q1, q2, q3, q4⟩ := ha a z
        refine ⟨oa, va2, x, q1, q2, q3, .inl ?_⟩
        rcases q4 with ⟨b, hb, e⟩ | e
        · exact ⟨b, List.mem_cons_of_mem _ hb, e⟩
        · exact ⟨p.1, List.mem_cons_self, e⟩
    cases toggle with
    | true =>
      obtain ⟨oa, va2, x, q1, q2, q3, q4⟩ := ha slow hs
      refine wpAny_bind (wpAny_field q1 q2 q3 ?_)
      rcases q4 with ⟨b, hb, rfl⟩ | rfl
      · exact wpAny_pure ⟨quiet_unchain _, ih p.1 p.2 va c' b _ (p.1 :: seen) hp hdp hcp hl' hr' nd'.2 (List.mem_cons_of_mem _ hb) ha'⟩
      · exact wpAny_pure ⟨quiet_unchain _, ih p.1 p.2 va c' p.1 _ (p.1 :: seen) hp hdp hcp hl' hr' nd'.2 List.mem_cons_self ha'⟩
    | false => exact wpAny_bind (wpAny_pure (wpAny_pure ⟨quiet_unchain _, ih p.1 p.2 va c' slow _ (p.1 :: seen) hp hdp hcp hl' hr' nd'.2 (List.mem_cons_of_mem _ hs) ha'⟩))
/-- raised within an except suite: the held one becomes its context -/
theorem raiseNew_held {α : Type} {E : Value → Shared → Prop} {Q : α → Shared → Prop} {e h : Addr} {oe oh : Obj} {ve vh : Array Value} {c : Value} {ch : List (Addr × Obj)} (hh : A.handled = some (.ref h)) (he : s.heap.get? e = some oe) (hde : oe.data = .fields ve) (hs2 : 2 < ve.size)
    (ho : s.heap.get? h = some oh) (hd : oh.data = .fields vh) (hc : vh[2]? = some c) (hl : Links ch c) (hr : ∀ p ∈ ch, s.heap.get? p.1 = some p.2) (nd : (e :: h :: ch.map (·.1)).Nodup)
    (hE : E (.ref e) { s with heap := s.heap.update e (Obj.mapFields (·.setIfInBounds 2 (.ref h))) }) : wpAny (model prog w) A (raiseNew (.ref e) : Sem α) Q E s := by
  have n1 := List.nodup_cons.mp nd
  have n2 := List.nodup_cons.mp n1.2
  unfold raiseNew
  refine wpAny_bind (wpAny_handled ?_)
  rw [hh]
  have hne : (Value.ref h != Value.ref e) = true := by
    rw [bne_iff_ne]; intro z; exact n1.1 (by rw [← Value.ref.inj z]; exact List.mem_cons_self)
  dsimp only
  rw [if_pos hne]
  refine wpAny_bind (wpAny_holding (wpAny_runValue (unchain_ok ?_ ch h oh vh c h false [h] ho hd hc hl (fun p hp => ⟨hr p hp, fun z => n1.1 ?_, fun z => n2.1 ?_⟩) n2.2 (by simp) fun a ha => ?_)))
  · exact wpAny_bind (show wpAny _ _ (setField (.ref e) 2 (.ref h)) _ _ _ from wpAny_setField he hde hs2 (wpAny_throw hE))
  · rw [Value.ref.inj z]; exact List.mem_cons_of_mem _ (List.mem_map_of_mem hp)
  · rw [← List.mem_singleton.mp z]; exact List.mem_map_of_mem hp
  · rw [List.mem_singleton.mp ha]; exact ⟨oh, vh, c, ho, hd, hc, .inr rfl⟩
end
section
variable {M : Model} {A : Around} {E : Value → Shared → Prop} {env : Env}
variable {nm q : Str} {C N : Addr} {bs bm : List Value} {hdct : Bool} {sn : List Str} {sub : List Value} {ab : Bool} {col : Option Bool} {dd : Option Addr} {k0 k1 k2 k3 k5 : Option Value} {newId : String}
/-- raise e from None -/
theorem raise_fromN {s : Shared} {x cs : Sem Value} {Q : Flow → Shared → Prop} (hbase : bm.contains (.type "BaseException") = true)
    (h : wpAny M A x (fun v s₁ => ∃ e t, v = .ref e ∧ s₁.heap.get? C = some (excClassObj nm q C N bs bm hdct sn sub ab col dd k0 k1 k2 k3 k5 newId) ∧ C ≠ e ∧
      s₁.heap.get? e = some { cls := .ref C, data := .fields #[.ref t, .none, .none, .none, .bool false, .none] } ∧ wpAny M A cs (fun v s₂ => v = .none ∧
      s₂.heap.get? C = some (excClassObj nm q C N bs bm hdct sn sub ab col dd k0 k1 k2 k3 k5 newId) ∧ s₂.heap.get? e = some { cls := .ref C, data := .fields #[.ref t, .none, .none, .none, .bool false, .none] } ∧
      wpAny M A (raiseNew (.ref e) : Sem Flow) Q E { s₂ with heap := (s₂.heap.update e (Obj.mapFields (·.setIfInBounds 3 .none))).update e (Obj.mapFields (·.setIfInBounds 4 (.bool true))) }) E s₁) E s) :
    wpAny M A (raiseStmt env (some x) (some cs)) Q E s := by
  have hcB : (Value.ref C :: bm).contains (.type "BaseException") = true := by rw [List.contains_cons, hbase, Bool.or_true]
  unfold raiseStmt
  refine wpAny_bind (wpAny_mono h (fun v s₁ h₁ => ?_) fun _ _ x => x)
  obtain ⟨e, t, rfl, _, hCe, _, h₂⟩ := h₁
  refine wpAny_bind (wpAny_holding (wpAny_mono h₂ (fun v s₂ h₃ => ?_) fun _ _ x => x))
  obtain ⟨rfl, hC, he, hR⟩ := h₃
  obtain ⟨hp, g, d, tk, os⟩ := s₂
  refine wpAny_bind (wpAny_pure ?_)
  dsimp only
  repeat (first | with_reducible refine wpAny_loadPart_at he ?_ | with_reducible refine wpAny_loadPart_at hC ?_ | (with_reducible refine wpAny_isSubtype_exc hC ?_; rw [hcB]) | wp_step)
  exact hR
end
section
variable {X : Cx} {E : XK} {x : Str} {C ea : Addr} {ps : List (Addr × Obj)} {bm bmB : List Value} {B newId initId : String} {np cpos kpos pos : Pos} {j : Nat}
theorem ps_raiseN (T : Throws (X.held ea ps) E) (hI : HeldIs X ea ps) (hex : X.ex = []) (hg : Gl X x) (hm : X.mg x = some (.ref C)) (c : ExcC X.K C bm bmB newId) (FB : ExcBaseFacts B newId initId bmB) (hdb : (x == ("__debug__" : Str)) = false := by decide) :
    PS (X.held ea ps) (.Raise (some (.Call (.Name x np) [] [] cpos)) (some (.Constant .none j kpos)) pos) (tRaise E (.ref C)) := by
  intro pins s σ H D I h
  obtain ⟨nm, q, N, bs, hdct, sn, sub, ab, col, dd, k0, k1, k2, k3, k5, lk, ok, hi⟩ := c.ex
  have KX := I.kIn
  have TL : OwnTail s.heap bmB bm := PySem.W.tail_of_in KX c.tail
  rw [arm_exec_Raise]
  refine wpAny_bind (wpAny_standAt (raise_fromN (C := C) (nm := nm) (q := q) (N := N) (bs := bs) (bm := bm) (hdct := hdct) (sn := sn) (sub := sub) (ab := ab) (col := col) (dd := dd) (k0 := k0) (k1 := k1) (k2 := k2) (k3 := k3) (k5 := k5) (newId := newId) (TL.hasType FB.hasBase) ?_))
  have hC := KX _ _ lk
  have hn : s.heap.Ns N (s.heap.nsMap N) := .of_isNs (PySem.W.isNs_of_in KX ok)
  have hni := PySem.W.nsMap_none_of_in KX ok hi
  refine wpAny_bind (wpAny_mono (wpAny_Call_ofName (ld_glob I hg hm ?_ hdb)) (fun v s₃ h₃ => wpAny_bind (wpAny_standAt (wpAny_pure h₃))) fun _ _ z => z)
  unfold callWith
  refine wpAny_bind (wpAny_holding (evalArgs_empty (wpAny_bind (wpAny_standAt ?_))))
  have hpl : (backTo cpos (starEach [] (X.held ea ps).env)).any (·.1) = false := rfl
  simp only [hpl]
  refine wpAny_bind (wpAny_keeperOf_exc hC ?_)
  refine wpAny_bind (wpAny_call_exc_subT (hrest := Nat.zero_le _) FB TL hC hn hni fun h' e mk => wpAny_bind (wpAny_holding (wpAny_point (wpAny_pure ?_))))
  obtain ⟨t, he, _⟩ := mk.there
  have hCe : C ≠ e := fun z => by have := mk.new; rw [← z, hC] at this; cases this
  refine ⟨e, t, rfl, mk.keeps _ _ hC, hCe, he, wpAny_bind (Constant_none (wpAny_bind (wpAny_standAt (wpAny_pure ⟨rfl, mk.keeps _ _ hC, he, ?_⟩))))⟩
  obtain ⟨oe, vs, c0, ch, rfl, hd, hv, hl⟩ := hI.ex
  have pin : ∀ p ∈ (ea, oe) :: ch, s.heap.get? p.1 = some p.2 ∧ H p.1 = none := fun p hp => by
    obtain ⟨a, b, _⟩ := I.pin p (by show p ∈ (((ea, oe) :: ch) ++ X.pn) ++ pins; rw [List.append_assoc]; exact List.mem_append_left _ hp)
    exact ⟨a, b⟩
  have ne : ∀ b u, s.heap.get? b = some u → b ≠ e := fun b u g z => by have := mk.new; rw [← z, g] at this; cases this
  have g1 := set_get 3 .none he rfl
  have g2 := set_get 4 (.bool true) g1 (Obj.data_mapFields rfl _)
  have g3 := set_get 2 (.ref ea) g2 (Obj.data_mapFields (Obj.data_mapFields rfl _) _)
  have up : ∀ b u, s.heap.get? b = some u → ((h'.update e (Obj.mapFields (·.setIfInBounds 3 .none))).update e (Obj.mapFields (·.setIfInBounds 4 (.bool true)))).get? b = some u := fun b u g => by
    rw [Heap.get?_update_other _ _ (Ne.symm (ne b u g)), Heap.get?_update_other _ _ (Ne.symm (ne b u g))]; exact mk.keeps b u g
  have nd : (e :: (ea :: ch.map (·.1))).Nodup := List.nodup_cons.mpr ⟨fun z => by
    obtain ⟨p, hp, z⟩ := List.mem_map.mp (show e ∈ ((ea, oe) :: ch).map (·.1) from z)
    exact ne p.1 p.2 (pin p hp).1 z, hI.nd⟩
  refine raiseNew_held (h := ea) (c := c0) (ch := ch) rfl g2 (Obj.data_mapFields (Obj.data_mapFields rfl _) _) (by simp) (up _ _ (pin (ea, oe) List.mem_cons_self).1) hd hv hl (fun p hp => up _ _ (pin p (List.mem_cons_of_mem _ hp)).1) nd ?_
  have up3 : ∀ b u, s.heap.get? b = some u → (((h'.update e (Obj.mapFields (·.setIfInBounds 3 .none))).update e (Obj.mapFields (·.setIfInBounds 4 (.bool true)))).update e (Obj.mapFields (·.setIfInBounds 2 (.ref ea)))).get? b = some u := fun b u g => by
    rw [Heap.get?_update_other _ _ (Ne.symm (ne b u g))]; exact up b u g
  have I2 : Inv (X.held ea ((ea, oe) :: ch)) pins σ H { s with heap := ((h'.update e (Obj.mapFields (·.setIfInBounds 3 .none))).update e (Obj.mapFields (·.setIfInBounds 4 (.bool true)))).update e (Obj.mapFields (·.setIfInBounds 2 (.ref ea))) } := I.kept (t' := s.toks) up3
  exact T pins σ H _ e (.ref C) none ((ea, oe) :: ch) none I2 ⟨_, _, g3, rfl, rfl, rfl, ⟨⟨.ref ea, rfl, rfl, vs, c0, hd, hv, hl⟩, nd, fun p hp => ⟨up3 _ _ (pin p hp).1, (hI.all p hp).1, (hI.all p hp).2.1, (hI.all p hp).2.2, (pin p hp).2⟩⟩, rfl⟩ (.inl rfl) (I.young hex mk.new) (I.hok.none_of mk.new) h
end
end L2


end
section
set_option Elab.async false
set_option linter.all false
set_option maxRecDepth 100000
set_option maxHeartbeats 400000
namespace L2
open PySem PySem.Spec PyProof.Rows
/-- a function at f, with its promise -/
def FnV (P : Program) (w : World) (K : PySem.W.Frag) (mg : Str → Option Value) (base : Heap) (k : Nat) (f : Addr) (n : Nat) (sp : Sp) : Prop :=
  ∃ fd ps, FnOk P w K mg base (CX1 P w) k f fd ps sp ∧ Binds K fd ps [] ∧ PySem.W.keepIn K (.ref f) = true ∧ ps.length = n
theorem FnV.mono {P : Program} {w : World} {K : PySem.W.Frag} {mg : Str → Option Value} {base : Heap} {j k : Nat} {f : Addr} {n : Nat} {sp : Sp} (h : FnV P w K mg base j f n sp) (hj : j ≤ k) : FnV P w K mg base k f n sp := by
  obtain ⟨fd, ps, F, b, kp, l⟩ := h
  exact ⟨fd, ps, F.mono hj, b, kp, l⟩
/-- a method of the class at C, with its promise -/
def MeV (P : Program) (w : World) (K : PySem.W.Frag) (mg : Str → Option Value) (base : Heap) (k : Nat) (C : Addr) (m : Str) (sp : Sp) : Prop :=
  ∃ f fd ps, Meth K C m f ∧ FnOk P w K mg base (CX1 P w) k f fd ps sp ∧ Binds K fd ps []
def tMeth1 (C : Addr) (m : Str) (sp : Sp) (ta : TE) (t : TA) : TE1 := fun σ H Q E => ta σ H fun x H1 => ∃ a dx fs, x = .ref a ∧ H1 a = some (.ins C dx fs) ∧ fs.lookup m = none ∧ t σ H1 fun vs H2 => sp (x :: vs) H2 Q E
def tCallV (P : Program) (w : World) (K : PySem.W.Frag) (mg : Str → Option Value) (base : Heap) (k i : Nat) (t : TA) : TE1 := fun σ H Q E => ∃ f n sp, σ[i]? = some (some (.ref f)) ∧ FnV P w K mg base k f n sp ∧ t σ H fun vs H1 => sp vs H1 Q E
section
variable {X : Cx} {C : Addr} {m x : Str} {k i : Nat} {sp : Sp} {ta : TE} {t : TA} {e o : Expr} {es : List Expr} {p pos apos : Pos} {pl : Sem Bool}
theorem pe_noxW {pins : List (Addr × Obj)} {σ : St} {H : Hp} {s : Shared} {Q : VK} {W : Value → Shared → Prop} (h : PE X.nox e ta) (I : Inv X pins σ H s) (q : ta σ H Q) : wpAny (model X.prog X.w) X.A (eval e X.env) (EP X pins σ Q) W s :=
  wpAny_mono (h pins s σ H Q (I.wish _) q) (fun _ _ ⟨v, H', I', r, z⟩ => ⟨v, H', I'.unwish, r, z⟩) fun _ _ z => False.elim z
theorem pe1_meth (he : PE X.nox o ta) (c : Cls X.K C) (G : MeV X.prog X.w X.K X.mg X.base k C m sp) (hr : Room k X.A) (hex : X.ex = []) (ha : PA X.nox (e :: es) t)
    (hst : starEach (e :: es) X.env = (false, eval e X.env) :: starEach es X.env := by rfl) (hpl : (backTo pos (starEach es X.env)).any (·.1) = false := by rfl)
    (ht : eval (.Call (.Attribute o m apos) (e :: es) [] pos) X.env = (do
      let ov ← eval o X.env
      standAt apos.atName
      let (f, first) ← holding [ov] (getMethod ov m pl)
      callWith pos f first (backTo pos (starEach (e :: es) X.env)) (backToKw pos (keywordEach [] X.env))) := by rfl) :
    PE1 X (.Call (.Attribute o m apos) (e :: es) [] pos) (tMeth1 C m sp ta t) := by
  obtain ⟨f, fd, ps, hm, F, hb⟩ := G
  intro pins s σ H Q E I h
  refine PySem.W.methodCall_KW (pl := pl) (thn (pe_noxW he I h) fun u s1 ⟨y, H1, I1, rx, a, dx, fs, ex, ea, l, q⟩ => ?_) ht
  subst ex
  obtain rfl : u = Value.ref a := rx
  refine getmeth_ok I1 ea c hm l ?_
  refine PySem.W.callWith_K (first := [.ref a]) (h₀ := X.base) I.ok.mod.kin hm.kp (thn (pa_nox ha I1 q) fun us s2 ⟨vs, H2, I2, r, q2⟩ => ⟨I2.kIn, ?_⟩) hst hpl
  exact run_fn1 (us := .ref a :: us) (vs := .ref a :: vs) F hr hb hex I2 (.cons rfl r) q2
theorem pe1_meth0 (he : PE X.nox o ta) (c : Cls X.K C) (G : MeV X.prog X.w X.K X.mg X.base k C m sp) (hr : Room k X.A) (hex : X.ex = [])
    (ht : eval (.Call (.Attribute o m apos) [] [] pos) X.env = (do
      let ov ← eval o X.env
      standAt apos.atName
      let (f, first) ← holding [ov] (getMethod ov m pl)
      callWith pos f first (backTo pos (starEach [] X.env)) (backToKw pos (keywordEach [] X.env))) := by rfl) :
    PE1 X (.Call (.Attribute o m apos) [] [] pos) (tMeth1 C m sp ta tNil) := by
  obtain ⟨f, fd, ps, hm, F, hb⟩ := G
  intro pins s σ H Q E I h
  refine PySem.W.methodCall_KW (pl := pl) (thn (pe_noxW he I h) fun u s1 ⟨y, H1, I1, rx, a, dx, fs, ex, ea, l, q⟩ => ?_) ht
  subst ex
  obtain rfl : u = Value.ref a := rx
  refine getmeth_ok I1 ea c hm l ?_
  exact PySem.W.callWith_K0 (first := [.ref a]) I1.kIn hm.kp (run_fn1 (us := [.ref a]) (vs := [.ref a]) F hr hb hex I1 (.cons rfl .nil) q)
/-- f(..) where the name f holds a function -/
theorem pe1_callV (hN : X.N[i]? = some x) (hv : Vis X.env.scope x) (hr : Room k X.A) (hex : X.ex = []) (ha : PA X.nox (e :: es) t) (hd : (x == ("__debug__" : Str)) = false := by decide) (hcd : (x == ("__classdict__" : Str)) = false := by decide)
    (he : starEach (e :: es) X.env = (false, eval e X.env) :: starEach es X.env := by rfl) (hpl : (backTo pos (starEach es X.env)).any (·.1) = false := by rfl) :
    PE1 X (.Call (.Name x p) (e :: es) [] pos) (tCallV X.prog X.w X.K X.mg X.base k i t) := by
  intro pins s σ H Q E I h
  obtain ⟨f, n, sp, hf, ⟨fd, ps, F, hb, kp, _⟩, q⟩ := h
  refine wpAny_Call_Name_kw (thn (pe_noxW (X := X) (ta := tVar i) (pe_var hN hv hd hcd) I (Q := fun v H' => v = .ref f ∧ H' = H) ⟨_, hf, rfl, rfl⟩) fun u s1 ⟨v, H1, I1, r1, e1, e2⟩ => ?_)
  subst e1 e2
  obtain rfl : u = Value.ref f := r1
  refine PySem.W.callWith_K (h₀ := X.base) I.ok.mod.kin kp (thn (pa_nox ha I1 q) fun us s2 ⟨vs, H2, I2, r, q2⟩ => ⟨I2.kIn, ?_⟩) he hpl
  exact run_fn1 F hr hb hex I2 r q2
end
section
variable {P : Program} {w : World} {K : PySem.W.Frag} {mg : Str → Option Value} {base : Heap}
theorem Fun.ok1 {x qual : Str} {st : Stmt} {f : Addr} {fd : FuncData} {N ps : List Str} {k : Nat} {sp : Sp} (F : Fun K x qual st f fd) (S : FnScope N ps (defScope st)) (len : ∀ vs H Q E, sp vs H Q E → vs.length = ps.length)
    (hbody : ∀ (cdv : Value) (A : Around) (outer : List Env) (s : Shared) (H : Hp) (vs : List V) (Q : VK) (E : XK), Room k (A.deeper (envOfC qual (defScope st) s.heap.objs.size f cdv)) → sp vs H Q E →
      ∃ t, PSs (cxOf (CX1 P w) P w K mg base N qual (defScope st) f cdv A outer s H E) (defBody st) t ∧ t { nx := fun _ H' => Q .non H', rt := Q } (start N vs) H) : FnOk P w K mg base (CX1 P w) (k + 1) f fd ps sp := by
  obtain ⟨oc, od, kV, doc, pm, an, cdv, ct, osl, rfl, lk, hcd⟩ := F.ex
  exact fn_of lk hcd S len fun A outer s H vs Q E hr hsp => hbody cdv A outer s H vs Q E hr hsp
end
end L2


end
section
set_option Elab.async false
set_option linter.all false
set_option maxRecDepth 100000
set_option maxHeartbeats 400000
namespace L2
open PySem PySem.Spec PyProof.Rows
section
variable {X : Cx}
/-- int of a text of figures -/
def rIntS : List V → Hp → VK → Prop := fun xs H Q => ∃ z : Str, xs = [.str z] ∧ NumText.AllDigits z.cps.toList ∧ z.cps.toList ≠ [] ∧ z.length ≤ 640 ∧ Q (.int (NumText.digitsVal z.cps.toList : Nat)) H
theorem call_intS : CallR X (.type "int") rIntS := by
  intro pins s σ H xs us Q I r h
  obtain ⟨z, rfl, h1, h2, h3, q⟩ := h
  obtain ⟨u, rfl, t, rfl⟩ := vals1 r
  exact PySem.W.KIN.call_text (intText_digits h1 h2 (by omega)) h3 ⟨.int _, H, I.tok _, ⟨_, rfl⟩, q⟩
/-- nothing is thrown -/
theorem throwsN : Throws X E0 := fun _ _ _ _ _ _ _ _ _ _ _ _ _ _ h => h.elim
end
section
variable {P : Program} {w : World} {K : PySem.W.Frag} {mg : Str → Option Value} {base : Heap} {N : List Str} {qual : Str} {scope : Scope} {f : Addr} {cd : Value} {A : Around} {outer : List Env} {s : Shared} {H : Hp} {E : XK}
theorem ownAt1 (hd : Option Value) : PassesOwnAt (model P w) ((cxOf (CX1 P w) P w K mg base N qual scope f cd A outer s H E).A.mark hd) (cxOf (CX1 P w) P w K mg base N qual scope f cd A outer s H E).A (cxOf (CX1 P w) P w K mg base N qual scope f cd A outer s H E).env (cxOf (CX1 P w) P w K mg base N qual scope f cd A outer s H E).xe :=
  PassesOwnAt.leaving (Q₁ := fun e s'' => CX1 P w outer H s E e s'')
end
end L2


end
section
set_option Elab.async false
set_option linter.all false
set_option maxRecDepth 100000
set_option maxHeartbeats 400000
namespace L2
open PySem PySem.Spec PyProof.Rows
/-- a def that may raise -/
def Cal1 (P : Program) (w : World) (K : PySem.W.Frag) (mg : Str → Option Value) (base : Heap) (k : Nat) (x : Str) (ps : List Str) (sp : Sp) : Prop :=
  ∃ f fd, FnOk P w K mg base (CX1 P w) k f fd ps sp ∧ Binds K fd ps [] ∧ PySem.W.keepIn K (.ref f) = true ∧ mg x = some (.ref f)
/-- a class that is made by its __init__ -/
def MkV (P : Program) (w : World) (K : PySem.W.Frag) (mg : Str → Option Value) (base : Heap) (k : Nat) (x : Str) (C : Addr) (sp : Sp) : Prop :=
  ∃ f fd ps, Mk K C f ∧ FnOk P w K mg base CX0 k f fd ps sp ∧ Binds K fd ps [] ∧ mg x = some (.ref C)
section
variable {X : Cx} {e o : Expr} {es : List Expr} {t : TA} {ta : TE} {p pos apos : Pos} {j k : Nat} {x m : Str} {ps : List Str} {sp : Sp} {C : Addr} {E : XK} {pl : Sem Bool}
theorem pe1_cal (G : Cal1 X.prog X.w X.K X.mg X.base j x ps sp) (hr : Room k X.A) (hj : j ≤ k) (hg : Gl X x) (hex : X.ex = []) (ha : PA X.nox (e :: es) t) (hdb : (x == ("__debug__" : Str)) = false := by decide)
    (he : starEach (e :: es) X.env = (false, eval e X.env) :: starEach es X.env := by rfl) (hpl : (backTo pos (starEach es X.env)).any (·.1) = false := by rfl) : PE1 X (.Call (.Name x p) (e :: es) [] pos) (tCall1 sp t) := by
  obtain ⟨f, fd, F, b, kp, m⟩ := G
  exact pe1_call F (hr.mono hj) hg m kp b hex ha hdb he hpl
theorem MeV.mono {P : Program} {w : World} {K : PySem.W.Frag} {mg : Str → Option Value} {base : Heap} (G : MeV P w K mg base j C m sp) (hj : j ≤ k) : MeV P w K mg base k C m sp := by
  obtain ⟨f, fd, ps, a, F, b⟩ := G
  exact ⟨f, fd, ps, a, F.mono hj, b⟩
theorem pe_mk (G : MkV X.prog X.w X.K X.mg X.base j x C sp) (hr : Room k X.A) (hj : j + 1 ≤ k) (hg : Gl X x) (ha : PA X (e :: es) t) (hdb : (x == ("__debug__" : Str)) = false := by decide)
    (he : starEach (e :: es) X.env = (false, eval e X.env) :: starEach es X.env := by rfl) (hpl : (backTo pos (starEach es X.env)).any (·.1) = false := by rfl) : PE X (.Call (.Name x p) (e :: es) [] pos) (tMake C sp [] E0 t) := by
  obtain ⟨f, fd, ps, M, F, b, hm⟩ := G
  exact pe_make M F (hr.mono hj) hg hm b .nil pass0 ha hdb he hpl
/-- a def's name as a value -/
theorem pe_gfn {f : Addr} (hm : X.mg x = some (.ref f)) (hg : Gl X x) (hd : (x == ("__debug__" : Str)) = false := by decide) : PE X (.Name x pos) (tC (.ref f)) := pe_glob hg hm rfl hd
theorem ps_fldH {ea : Addr} {qs : List (Addr × Obj)} {value : Expr} {tv : TE} {f : Str} {pos' : Pos} (ha : PE (X.held ea qs) o ta) (hv : PE (X.held ea qs) value tv) (hs : swapsWith value (some (.Attribute o f pos')) pos.line X.env = pure false) :
    PS (X.held ea qs) (.Assign [.Attribute o f pos'] value pos) (sFld X.K ta tv f) := ps_fld ha hv hs
end
end L2


end
section
set_option Elab.async false
set_option linter.all false
set_option maxRecDepth 100000
set_option maxHeartbeats 400000
namespace Tg
open PySem L2 Pl
def signB (c : Nat) : Bool := decide (32 ≤ c ∧ c ≤ 126 ∧ c ≠ 37)
def goodZ (z : Str) : Prop := z.length ≤ 10000000
def flatG : V → Prop
  | .non => True
  | .bl _ => True
  | .int _ => True
  | .str z => goodZ z
  | _ => False
/-- what a thing is, n tuples deep -/
def TT : Nat → Hp → V → Prop
  | 0, H, v => flatG v ∨ ∃ a, v = .ref a ∧ ((∃ xs, H a = some (.lst xs)) ∨ H a = some (.dK []) ∨ ∃ xs, H a = some (.tup xs) ∧ xs.length ≤ 100000)
  | n + 1, H, v => flatG v ∨ ∃ a, v = .ref a ∧ ((∃ xs, H a = some (.lst xs)) ∨ H a = some (.dK []) ∨ ∃ xs, H a = some (.tup xs) ∧ xs.length ≤ 100000 ∧ ∀ u ∈ xs, TT n H u)
theorem TT.mono : ∀ {n : Nat} {H H' : Hp} {v : V}, SameL H H' → TT n H v → TT n H' v
  | 0, H, H', v, s, h => by
    rcases h with h | ⟨a, e, h | h | ⟨xs, h, l⟩⟩
    · exact .inl h
    · obtain ⟨xs, h⟩ := h; exact .inr ⟨a, e, .inl (s.lst h)⟩
    · exact .inr ⟨a, e, .inr (.inl (s.dK h))⟩
    · exact .inr ⟨a, e, .inr (.inr ⟨xs, s.tup h, l⟩)⟩
  | n + 1, H, H', v, s, h => by
    rcases h with h | ⟨a, e, h | h | ⟨xs, h, l, p⟩⟩
    · exact .inl h
    · obtain ⟨xs, h⟩ := h; exact .inr ⟨a, e, .inl (s.lst h)⟩
    · exact .inr ⟨a, e, .inr (.inl (s.dK h))⟩
    · exact .inr ⟨a, e, .inr (.inr ⟨xs, s.tup h, l, fun u hu => TT.mono s (p u hu)⟩)⟩
theorem TT.less : ∀ {n : Nat} {H : Hp} {v : V}, TT (n + 1) H v → TT n H v
  | 0, H, v, h => by
    rcases h with h | ⟨a, e, h | h | ⟨xs, h, l, p⟩⟩
    · exact .inl h
    · exact .inr ⟨a, e, .inl h⟩
    · exact .inr ⟨a, e, .inr (.inl h)⟩
    · exact .inr ⟨a, e, .inr (.inr ⟨xs, h, l⟩)⟩
  | n + 1, H, v, h => by
    rcases h with h | ⟨a, e, h | h | ⟨xs, h, l, p⟩⟩
    · exact .inl h
    · exact .inr ⟨a, e, .inl h⟩
    · exact .inr ⟨a, e, .inr (.inl h)⟩
    · exact .inr ⟨a, e, .inr (.inr ⟨xs, h, l, fun u hu => TT.less (p u hu)⟩)⟩
theorem TT.flat {n : Nat} {H : Hp} {v : V} (h : flatG v) : TT n H v := by cases n <;> exact .inl h
theorem TT.ofT {n : Nat} {H : Hp} {a : Addr} {xs : List V} (h : H a = some (.tup xs)) (l : xs.length ≤ 100000) (p : ∀ u ∈ xs, TT n H u) : TT (n + 1) H (.ref a) := .inr ⟨a, rfl, .inr (.inr ⟨xs, h, l, p⟩)⟩
def wholeB : V → Bool
  | .int _ => true
  | _ => false
def numB : V → Bool
  | .int i => decide (-(10 ^ 30) < i ∧ i < 10 ^ 30)
  | _ => false
def textB (n : Nat) : V → Bool
  | .str z => decide (n ≤ z.length ∧ z.length ≤ 40) && z.cps.toList.all signB
  | _ => false
def plainB (v : V) : Bool := decide (v = .non) || (numB v || textB 0 v)
def risingB : List V → Bool
  | a :: b :: r => ltV a b && risingB (b :: r)
  | _ => true
def nowsB (H : Hp) : V → Bool
  | .ref b => match H b with
    | some (.tup ns) => decide (2 ≤ ns.length) && (ns.all plainB && risingB ns)
    | _ => false
  | _ => false
def clashB (H : Hp) : V → Bool
  | .ref a => match H a with
    | some (.tup [x, y]) => plainB x && nowsB H y
    | _ => false
  | _ => false
theorem plain_of {v : V} (h : plainB v = true) : plainV v := by
  unfold plainB at h
  rw [Bool.or_eq_true, Bool.or_eq_true, decide_eq_true_eq] at h
  rcases h with h | h | h
  · rw [h]; trivial
  · cases v <;> first | (simp [numB] at h; done) | skip
    simp only [numB, decide_eq_true_eq] at h
    exact h
  · cases v <;> first | (simp [textB] at h; done) | skip
    rw [textB, Bool.and_eq_true, decide_eq_true_eq] at h
    exact h.1.2
theorem flat_of {v : V} (h : plainB v = true) : flatV v = true := by
  have := plain_of h
  cases v <;> first | exact this.elim | rfl
/-- rising is pairwise rising -/
theorem rising_iff : ∀ {ns : List V}, (∀ v ∈ ns, plainV v) → (risingB ns = true ↔ ns.Pairwise fun a b => ltV a b = true)
  | [], _ => by simp [risingB]
  | [a], _ => by simp [risingB]
  | a :: b :: r, p => by
    have ih := rising_iff (ns := b :: r) fun v hv => p v (List.mem_cons_of_mem _ hv)
    rw [risingB, Bool.and_eq_true, ih]
    constructor
    · rintro ⟨h, hr⟩
      refine List.pairwise_cons.mpr ⟨fun c hc => ?_, hr⟩
      rcases List.mem_cons.mp hc with e | e
      · rw [e]; exact h
      · exact tr (p a List.mem_cons_self) (p b (by simp)) (p c (by simp [e])) h ((List.pairwise_cons.mp hr).1 c e)
    · intro h
      exact ⟨(List.pairwise_cons.mp h).1 b List.mem_cons_self, (List.pairwise_cons.mp h).2⟩
end Tg


end
section
set_option Elab.async false
set_option linter.all false
set_option maxRecDepth 100000
set_option maxHeartbeats 400000
namespace L2
open PySem PySem.Spec PyProof.Rows
section
variable {X : Cx}
/-- two tuples of a flat value and of a tuple of flat values, alike -/
def rEqTT (K : PySem.W.Frag) : R2 := fun x y H Q => ∃ a b ta tb was xs, x = .ref a ∧ y = .ref b ∧ SqT K H a [was, .ref ta] ∧ SqT K H b [was, .ref tb] ∧ SqT K H ta xs ∧ SqT K H tb xs ∧ flatV was = true ∧ xs.all flatV = true ∧ Q (.bl true) H
end
end L2
namespace L2
open PySem PySem.Spec PyProof.Rows
/-- texts joined without a sign between -/
theorem join_flat (zs : List Str) : (Txt.join (Str.ofString "") zs).cps.toList = zs.flatMap fun z => z.cps.toList := by
  have e0 : (Str.ofString "").cps.toList = [] := by decide
  have f : ∀ (l : List Str) (a : Str), (l.foldl (fun s u => s ++ Str.ofString "" ++ u) a).cps.toList = a.cps.toList ++ l.flatMap fun z => z.cps.toList := fun l => by
    induction l with
    | nil => intro a; simp
    | cons z l ih =>
      intro a
      rw [List.foldl_cons, ih, PySem.W.KT.app_list, PySem.W.KT.app_list, e0, List.append_nil, List.flatMap_cons, List.append_assoc]
  cases zs with
  | nil => decide
  | cons z l => rw [join_fold, f, List.flatMap_cons]
end L2


end
section
set_option Elab.async false
set_option linter.all false
set_option maxRecDepth 100000
set_option maxHeartbeats 400000
namespace L2
open PySem PySem.Spec PyProof.Rows
section
variable {X : Cx}
/-- a text of some signs, two times or more -/
def rRepS : R2 := fun x y H Q => ∃ (z : Str) (n : Nat), x = .str z ∧ y = .int n ∧ 2 ≤ n ∧ 1 ≤ z.length ∧ z.length * n ≤ 100000 ∧ (⟨(List.replicate n z.cps).foldl (· ++ ·) #[]⟩ : Str).length ≤ sizeLine ∧ Q (.str ⟨(List.replicate n z.cps).foldl (· ++ ·) #[]⟩) H
theorem op_repS : OpR X (binaryOp .Mult) rRepS := by
  intro pins s σ H x y v u Q I rx ry h
  obtain ⟨z, n, rfl, rfl, h2, h1, hz, hL, q⟩ := h
  obtain ⟨t, rfl⟩ := rx
  obtain ⟨t', rfl⟩ := ry
  have hn : n ≤ 100000 := Nat.le_trans (Nat.le_mul_of_pos_left n h1) hz
  have hzl : z.length ≤ 100000 := Nat.le_trans (Nat.le_mul_of_pos_right _ (by omega)) hz
  refine PySem.P.mul_str (by rw [decide_eq_false (by omega), decide_eq_false (by omega)]; rfl) (fun _ _ => ?_) (fun _ _ => ?_) ?_
  · have : ((2 : Int) ^ 63 - 1) / (n : Int) ≥ ((2 : Int) ^ 63 - 1) / 100000 := by
      refine (Int.le_ediv_iff_mul_le (by omega)).mpr ?_
      have : ((2 : Int) ^ 63 - 1) / 100000 * (n : Int) ≤ ((2 : Int) ^ 63 - 1) / 100000 * 100000 := Int.mul_le_mul_of_nonneg_left (by omega) (by decide)
      exact Int.le_trans this (by decide)
    have e : ((2 : Int) ^ 63 - 1) / 100000 = 92233720368547 := by decide
    omega
  · have : z.length * ((n : Nat) : Int).toNat ≤ 100000 := hz
    generalize z.length * ((n : Nat) : Int).toNat = m at this ⊢
    have hs : 100000 ≤ sizeLine := by decide
    exact decide_eq_false (by omega)
  · rw [if_neg (by omega), if_neg (by
      rw [Bool.or_eq_true, beq_iff_eq, beq_iff_eq]
      omega)]
    exact ⟨hL, ⟨.str _, H, I.tok _, ⟨_, rfl⟩, q⟩⟩
/-- two such tuples are not unlike -/
theorem op_neTT (hu : X.A.units + 64 < cLine) : OpR X (compareOp .NotEq) (fun x y H Q => rEqTT X.K x y H fun _ H' => Q (.bl false) H') := by
  intro pins s σ H x y v u Q I rx ry h
  obtain ⟨a, b, ta, tb, was, xs, rfl, rfl, ha, hb, hta, htb, fw, fx, q⟩ := h
  cases rx
  cases ry
  obtain ⟨its, r1, p1, _⟩ := I.tuple ha
  obtain ⟨its2, r2, p2, _⟩ := I.tuple hb
  obtain ⟨jts, r3, p3, _⟩ := I.tuple hta
  obtain ⟨jts2, r4, p4, _⟩ := I.tuple htb
  have l3 := r3.length
  have l4 := r4.length
  cases r1 with | cons w1 r1 => ?_
  cases r1 with | cons z1 r1 => ?_
  cases r1
  cases r2 with | cons w2 r2 => ?_
  cases r2 with | cons z2 r2 => ?_
  cases r2
  cases z1; cases z2
  have inner : SeqAt.EqAt X.A.in1 s (.ref ta) (.ref tb) true := by
    by_cases e : ta = tb
    · subst e; exact .same _
    · have h := SeqAt.RcAt.tuples (A := X.A.in1) (e := fun i => eqV (xs.getD i .non) (xs.getD i .non)) p3 p4 (show X.A.units + 1 < cLine by omega) (fun j h1 h2 => eqVs_flat r3 r4 fx fx j h1 h2)
      have eq : ((List.range (min jts.toArray.size jts2.toArray.size)).all (fun i => eqV (xs.getD i .non) (xs.getD i .non)) && jts.toArray.size == jts2.toArray.size) = true := by
        have := eqVs_refl fx
        unfold eqVs at this
        rw [Bool.and_eq_true] at this ⊢
        simp only [List.size_toArray, ← l3, ← l4]
        exact ⟨this.1, beq_self_eq_true _⟩
      rw [eq] at h
      exact .of_refs e h
  have ew := eqAt_V (A := X.A.in1) (s := s) w1 w2 fw fw
  rw [eqV_refl fw] at ew
  refine SeqAt.RcNeAt.tuples (e := fun _ => true) p1 p2 (by omega) (fun j h1 h2 => ?_) X.prog X.w X.xe _ ⟨.bl false, H, I, rfl, q⟩
  have h1 : j < 2 := by simpa using h1
  match j, h1 with
  | 0, _ => exact ew
  | 1, _ => exact inner
end
end L2


end
section
set_option Elab.async false
set_option linter.all false
set_option maxRecDepth 100000
set_option maxHeartbeats 4000000
namespace My
open PySem L2 Pl Tg
theorem cxOf_K {CX : CXT} {P : Program} {w : World} {K : PySem.W.Frag} {mg : Str → Option Value} {base : Heap} {N : List Str} {qual : Str} {scope : Scope} {f : Addr} {cd : Value} {A : Around} {outer : List Env} {s : Shared} {H : Hp} {E : XK} : (cxOf CX P w K mg base N qual scope f cd A outer s H E).K = K := rfl
theorem blk_K {X : Cx} {sc : Scope} {x : Str} {M : List Str} {cl : List (Str × Addr)} {C : Addr} {s : Shared} {H : Hp} {fp : List Addr} : (blk X sc x M cl C s H fp).K = X.K := rfl
local macro_rules | `(tactic| walk_at "rd") => `(tactic| simp (maxSteps := 1000000) only [cxOf_K, blk_K, tFor_rng1, tFor_rng2, tFor_list, tFor_tup, tFor_str, tLc_rng1, tLc_list, tLc_tup, tLc_str, tSeq, tNext, tSetLc, rIxL, rIxT, rIxS, rLtV, rIn, rEqL, rJoin, rCat, rSlL, rSlS, Int.reduceLT, Int.reduceLE, Int.reduceToNat, tIfS, tTest, tB, tNot, tAnd, tOr, tAndV, tOrV, tNotV, tOp, tUn, tVar, tC, tRet, tRetN, tAsg, gName, tDrop, tCB, tCall, tCons, tNil, tTup, tLst, rI, rI0, rU, rEq, rNe, scal, tBM, tBM0, rAppend, tChain, tSl, tPart, tNoPart, tFmtI, tFmtS, tJoinF, tParts, empty_add, tSortK, tIf, tFor_zip, gTup, gCons, gNil, rAll, tDNew, tLc_rng2, rEqN, tYes,  List.getElem?_cons_zero, List.getElem?_cons_succ, List.set_cons_zero, List.set_cons_succ, Option.some.injEq, V.int.injEq, V.bl.injEq, V.str.injEq, V.ref.injEq, exists_eq_left, exists_eq_left', exists_eq_right, exists_and_left, List.cons.injEq, and_true, true_and, List.append_nil, decide_eq_true_eq, Bool.not_eq_true', decide_eq_false_iff_not, Bool.not_true, Bool.not_false, if_true, if_false, Bool.true_eq_false, Bool.false_eq_true, reduceCtorEq, exists_const, exists_false, false_and, and_false, not_true_eq_false, not_false_eq_true, ite_true, ite_false])
local macro_rules | `(tactic| walk_at "side") => `(tactic| first | omega | decide | (unfold CDiv; omega) | (refine CMul.ok ?_; unfold CMul; omega) | (unfold CMul; omega) | (unfold CPow; omega) | (unfold CDiv; decide) | (unfold CPow; decide))
local macro_rules | `(tactic| walk_at "go") => `(tactic| (repeat refine And.intro (by walk_at "side") ?_))

def top (i : Nat) : Stmt := PySem.Challenge.pw_twigtable_k06_whole_read_as_written.main.body.getD i (.Pass ⟨0, 0, 0, 0⟩)
def topM (i j : Nat) : Stmt := match top i with | .ClassDef _ _ _ body _ _ _ _ _ _ _ => body.getD j (.Pass ⟨0, 0, 0, 0⟩) | s => s
abbrev s_Strip_take_by : Stmt := topM 23 12
theorem sc_Strip_take_by : FnScope ["self", "step", "start"] ["self", "step"] (defScope s_Strip_take_by) := ⟨rfl, rfl, rfl, by decide +kernel, rfl, by decide +kernel, by decide +kernel⟩
abbrev s_is_whole : Stmt := top 7
theorem sc_is_whole : FnScope ["thing"] ["thing"] (defScope s_is_whole) := ⟨rfl, rfl, rfl, by decide +kernel, rfl, by decide +kernel, by decide +kernel⟩
abbrev s_is_sign : Stmt := top 9
theorem sc_is_sign : FnScope ["one"] ["one"] (defScope s_is_sign) := ⟨rfl, rfl, rfl, by decide +kernel, rfl, by decide +kernel, by decide +kernel⟩
abbrev s_rank_of : Stmt := top 14
theorem sc_rank_of : FnScope ["value"] ["value"] (defScope s_rank_of) := ⟨rfl, rfl, rfl, by decide +kernel, rfl, by decide +kernel, by decide +kernel⟩
abbrev s_base_of : Stmt := top 17
theorem sc_base_of : FnScope ["value"] ["value"] (defScope s_base_of) := ⟨rfl, rfl, rfl, by decide +kernel, rfl, by decide +kernel, by decide +kernel⟩
abbrev s_sides_of : Stmt := top 18
theorem sc_sides_of : FnScope ["value"] ["value"] (defScope s_sides_of) := ⟨rfl, rfl, rfl, by decide +kernel, rfl, by decide +kernel, by decide +kernel⟩
abbrev s_shown_plain : Stmt := top 21
theorem sc_shown_plain : FnScope ["value", "count"] ["value"] (defScope s_shown_plain) := ⟨rfl, rfl, rfl, by decide +kernel, rfl, by decide +kernel, by decide +kernel⟩
abbrev s_Strip_init : Stmt := topM 23 0
theorem sc_Strip_init : FnScope ["self", "text"] ["self", "text"] (defScope s_Strip_init) := ⟨rfl, rfl, rfl, by decide +kernel, rfl, by decide +kernel, by decide +kernel⟩
abbrev s_Strip_is_over : Stmt := topM 23 1
theorem sc_Strip_is_over : FnScope ["self"] ["self"] (defScope s_Strip_is_over) := ⟨rfl, rfl, rfl, by decide +kernel, rfl, by decide +kernel, by decide +kernel⟩
abbrev s_Strip_sign_ahead : Stmt := topM 23 2
theorem sc_Strip_sign_ahead : FnScope ["self"] ["self"] (defScope s_Strip_sign_ahead) := ⟨rfl, rfl, rfl, by decide +kernel, rfl, by decide +kernel, by decide +kernel⟩
abbrev s_Strip_run_ahead : Stmt := topM 23 3
theorem sc_Strip_run_ahead : FnScope ["self", "first", "last", "most", "end"] ["self", "first", "last", "most"] (defScope s_Strip_run_ahead) := ⟨rfl, rfl, rfl, by decide +kernel, rfl, by decide +kernel, by decide +kernel⟩
abbrev s_Strip_take_signs : Stmt := topM 23 8
theorem sc_Strip_take_signs : FnScope ["self", "count", "signs"] ["self", "count"] (defScope s_Strip_take_signs) := ⟨rfl, rfl, rfl, by decide +kernel, rfl, by decide +kernel, by decide +kernel⟩
abbrev s__law_mix : Stmt := top 31
theorem sc__law_mix : FnScope ["_law_cell", "_law_k", "_law_number"] ["_law_cell", "_law_k"] (defScope s__law_mix) := ⟨rfl, rfl, rfl, by decide +kernel, rfl, by decide +kernel, by decide +kernel⟩
abbrev s__law_sign : Stmt := top 32
theorem sc__law_sign : FnScope ["_law_number", "_law_some"] ["_law_number"] (defScope s__law_sign) := ⟨rfl, rfl, rfl, by decide +kernel, rfl, by decide +kernel, by decide +kernel⟩
abbrev s__law_rank : Stmt := top 34
theorem sc__law_rank : FnScope ["_law_thing"] ["_law_thing"] (defScope s__law_rank) := ⟨rfl, rfl, rfl, by decide +kernel, rfl, by decide +kernel, by decide +kernel⟩
abbrev s__law_piece : Stmt := top 38
theorem sc__law_piece : FnScope ["_law_number", "_law_some"] ["_law_number"] (defScope s__law_piece) := ⟨rfl, rfl, rfl, by decide +kernel, rfl, by decide +kernel, by decide +kernel⟩
abbrev s__law_is_plain : Stmt := top 40
theorem sc__law_is_plain : FnScope ["_law_thing"] ["_law_thing"] (defScope s__law_is_plain) := ⟨rfl, rfl, rfl, by decide +kernel, rfl, by decide +kernel, by decide +kernel⟩
abbrev s__law_many : Stmt := top 43
theorem sc__law_many : FnScope ["_law_cell", "_law_first"] ["_law_cell"] (defScope s__law_many) := ⟨rfl, rfl, rfl, by decide +kernel, rfl, by decide +kernel, by decide +kernel⟩
abbrev s__law_beyond : Stmt := top 44
theorem sc__law_beyond : FnScope ["_law_cell", "_law_first"] ["_law_cell"] (defScope s__law_beyond) := ⟨rfl, rfl, rfl, by decide +kernel, rfl, by decide +kernel, by decide +kernel⟩
abbrev s_is_number : Stmt := top 8
theorem sc_is_number : FnScope ["thing"] ["thing"] (defScope s_is_number) := ⟨rfl, rfl, rfl, by decide +kernel, rfl, by decide +kernel, by decide +kernel⟩
abbrev s_is_text : Stmt := top 10
theorem sc_is_text : FnScope ["thing", "least"] ["thing", "least"] (defScope s_is_text) := ⟨rfl, rfl, rfl, by decide +kernel, rfl, by decide +kernel, by decide +kernel⟩
abbrev s_before : Stmt := top 15
theorem sc_before : FnScope ["one", "other"] ["one", "other"] (defScope s_before) := ⟨rfl, rfl, rfl, by decide +kernel, rfl, by decide +kernel, by decide +kernel⟩
abbrev s_shown : Stmt := top 22
theorem sc_shown : FnScope ["value", "nows", "count", "parts"] ["value"] (defScope s_shown) := ⟨rfl, rfl, rfl, by decide +kernel, rfl, by decide +kernel, by decide +kernel⟩
abbrev s_Strip_take_whole : Stmt := topM 23 4
theorem sc_Strip_take_whole : FnScope ["self", "figures"] ["self"] (defScope s_Strip_take_whole) := ⟨rfl, rfl, rfl, by decide +kernel, rfl, by decide +kernel, by decide +kernel⟩
abbrev s_Strip_take_sign : Stmt := topM 23 6
theorem sc_Strip_take_sign : FnScope ["self", "one"] ["self", "one"] (defScope s_Strip_take_sign) := ⟨rfl, rfl, rfl, by decide +kernel, rfl, by decide +kernel, by decide +kernel⟩
abbrev s__law_plain : Stmt := top 33
theorem sc__law_plain : FnScope ["_law_cell", "_law_rest"] ["_law_cell"] (defScope s__law_plain) := ⟨rfl, rfl, rfl, by decide +kernel, rfl, by decide +kernel, by decide +kernel⟩
abbrev s__law_written : Stmt := top 36
theorem sc__law_written : FnScope ["_law_value_here", "_law_parts"] ["_law_value_here"] (defScope s__law_written) := ⟨rfl, rfl, rfl, by decide +kernel, rfl, by decide +kernel, by decide +kernel⟩
abbrev s__law_spoiled : Stmt := top 37
theorem sc__law_spoiled : FnScope ["_law_cell", "_law_some", "_law_at", "_law_odd"] ["_law_cell", "_law_some"] (defScope s__law_spoiled) := ⟨rfl, rfl, rfl, by decide +kernel, rfl, by decide +kernel, by decide +kernel⟩
abbrev s__law_is_value : Stmt := top 41
theorem sc__law_is_value : FnScope ["_law_thing", "_law_side", "_law_ranks", "_law_k"] ["_law_thing"] (defScope s__law_is_value) := ⟨rfl, rfl, rfl, by decide +kernel, rfl, by decide +kernel, by decide +kernel⟩
abbrev s_is_plain : Stmt := top 11
theorem sc_is_plain : FnScope ["thing"] ["thing"] (defScope s_is_plain) := ⟨rfl, rfl, rfl, by decide +kernel, rfl, by decide +kernel, by decide +kernel⟩
abbrev s_is_rising : Stmt := top 16
theorem sc_is_rising : FnScope ["values"] ["values"] (defScope s_is_rising) := ⟨rfl, rfl, rfl, by decide +kernel, rfl, by decide +kernel, by decide +kernel⟩
abbrev s_minus_from : Stmt := top 25
theorem sc_minus_from : FnScope ["strip", "number"] ["strip"] (defScope s_minus_from) := ⟨rfl, rfl, rfl, by decide +kernel, rfl, by decide +kernel, by decide +kernel⟩
abbrev s_are_nows : Stmt := top 13
theorem sc_are_nows : FnScope ["thing"] ["thing"] (defScope s_are_nows) := ⟨rfl, rfl, rfl, by decide +kernel, rfl, by decide +kernel, by decide +kernel⟩
abbrev s_text_from : Stmt := top 26
theorem sc_text_from : FnScope ["strip", "count", "text"] ["strip"] (defScope s_text_from) := ⟨rfl, rfl, rfl, by decide +kernel, rfl, by decide +kernel, by decide +kernel⟩
abbrev s__law_value : Stmt := top 35
theorem sc__law_value : FnScope ["_law_cell", "_law_now", "_law_some", "_law_value_here"] ["_law_cell"] (defScope s__law_value) := ⟨rfl, rfl, rfl, by decide +kernel, rfl, by decide +kernel, by decide +kernel⟩
abbrev s_is_clash : Stmt := top 12
theorem sc_is_clash : FnScope ["thing"] ["thing"] (defScope s_is_clash) := ⟨rfl, rfl, rfl, by decide +kernel, rfl, by decide +kernel, by decide +kernel⟩
abbrev s_plain_from : Stmt := top 24
theorem sc_plain_from : FnScope ["strip", "sign"] ["strip"] (defScope s_plain_from) := ⟨rfl, rfl, rfl, by decide +kernel, rfl, by decide +kernel, by decide +kernel⟩
abbrev s__law_text : Stmt := top 39
theorem sc__law_text : FnScope ["_law_cell", "_law_way", "_law_rest", "_law_some"] ["_law_cell"] (defScope s__law_text) := ⟨rfl, rfl, rfl, by decide +kernel, rfl, by decide +kernel, by decide +kernel⟩
abbrev s_Strip_take_plain : Stmt := topM 23 9
theorem sc_Strip_take_plain : FnScope ["self"] ["self"] (defScope s_Strip_take_plain) := ⟨rfl, rfl, rfl, by decide +kernel, rfl, by decide +kernel, by decide +kernel⟩
abbrev s_clash_from : Stmt := top 28
theorem sc_clash_from : FnScope ["strip", "count", "was", "nows", "clash"] ["strip"] (defScope s_clash_from) := ⟨rfl, rfl, rfl, by decide +kernel, rfl, by decide +kernel, by decide +kernel⟩
abbrev s_value_from : Stmt := top 27
theorem sc_value_from : FnScope ["strip"] ["strip"] (defScope s_value_from) := ⟨rfl, rfl, rfl, by decide +kernel, rfl, by decide +kernel, by decide +kernel⟩
abbrev s_Strip_take_value : Stmt := topM 23 10
theorem sc_Strip_take_value : FnScope ["self"] ["self"] (defScope s_Strip_take_value) := ⟨rfl, rfl, rfl, by decide +kernel, rfl, by decide +kernel, by decide +kernel⟩
abbrev s_read_value : Stmt := top 29
theorem sc_read_value : FnScope ["text", "strip", "value"] ["text"] (defScope s_read_value) := ⟨rfl, rfl, rfl, by decide +kernel, rfl, by decide +kernel, by decide +kernel⟩
abbrev s__law_good : Stmt := top 42
theorem sc__law_good : FnScope ["_law_text_here", "_law_due", "_law_refused", "_law_found"] ["_law_text_here", "_law_due"] (defScope s__law_good) := ⟨rfl, rfl, rfl, by decide +kernel, rfl, by decide +kernel, by decide +kernel⟩
abbrev s_law : Stmt := top 45
theorem sc_law : FnScope ["_law_script", "_law_cell", "_law_text_here", "_law_wrong"] ["_law_script"] (defScope s_law) := ⟨rfl, rfl, rfl, by decide +kernel, rfl, by decide +kernel, by decide +kernel⟩
structure Zs (mg : Str → Option Value) : Prop where
  abs : mg "abs" = none
  all : mg "all" = none
  bool : mg "bool" = none
  int : mg "int" = none
  isinstance : mg "isinstance" = none
  len : mg "len" = none
  list : mg "list" = none
  ord : mg "ord" = none
  range : mg "range" = none
  sorted : mg "sorted" = none
  str : mg "str" = none
  tuple : mg "tuple" = none
  MOST_SIGNS : ∃ t, mg "MOST_SIGNS" = some (.int (40) t)
  PERCENT : ∃ t, mg "PERCENT" = some (.int (37) t)
  MOST_FIGURES : ∃ t, mg "MOST_FIGURES" = some (.int (30) t)
/-- what of the text the proofs lean on: the class Strip at C, BadText at CE, TableError at CT -/
abbrev bmB : List Value := [.type "ValueError", .type "Exception", .type "BaseException", .type "object"]
structure Tx (K : PySem.W.Frag) (mg : Str → Option Value) (C CE CT : Addr) : Prop where
  cl : Cls K C
  nAt : NoAttr K C "at"
  nText : NoAttr K C "text"
  mgE : mg "BadText" = some (.ref CE)
  ex : ExcC K CE (.ref CT :: bmB) bmB "ValueError.__new__"
def bitsOk (n : Int) : Prop := Builtin.Int.intBits n ≤ 2 ^ 20
theorem bits_div' {n k : Int} (h : bitsOk n) : bitsOk (n / k) := Nat.le_trans (bits_div n k) h

def sp__law_mix (_ : PySem.W.Frag) : Sp := fun vs H Q _ => ∃ c k : Int, vs = [.int c, .int k] ∧ ∀ m, 0 ≤ m → m < 2147483629 → Q (.int m) H
seal PE PT PW PA PS PSs PI PG PIfs PGs PO in
theorem ok__law_mix {P : Program} {w : World} {K : PySem.W.Frag} {mg : Str → Option Value} {base : Heap} {C CE CT : Addr} {f : Addr} {fd : FuncData} (Z : Zs mg) (T : Tx K mg C CE CT) (F : Fun K "_law_mix" "_law_mix" s__law_mix f fd) : FnOk P w K mg base CX0 1 f fd ["_law_cell", "_law_k"] (sp__law_mix K) := by
  refine F.ok sc__law_mix (fun vs H Q E h => ?_) (fun cdv A outer s H vs Q E hr h => ?_)
  · obtain ⟨a, b, rfl, _⟩ := h; rfl
  obtain ⟨c, k, rfl, q⟩ := h
  refine ⟨_, (@pss_cons _ _ _ _ _ (ps_set (i := 2) sc__law_mix.nd rfl (Or.inl rfl) (pe_op op_mod (pe_op op_mulB (pe_op op_add (pe_op op_add (pe_op op_mod (pv 0) pe_int) (pe_op op_mulB pe_int (pv 1))) pe_int) pe_int) pe_int))
      (pss_one (ps_ret (pe_op op_mod (pe_op op_add (pe_op op_mulB (pv 2) (pv 2)) (pv 1)) pe_int)))), ?_⟩
  refine rd_start (σ := [some (.int c), some (.int k), none]) rfl ?_
  walk_at "rd"
  walk_at "go"
  exact q _ (Int.emod_nonneg _ (by decide)) (Int.emod_lt_of_pos _ (by decide))

section
variable {K : PySem.W.Frag}
theorem kit_int_tup : PySem.W.kitOne K (.type "int") (.type "tuple") = some false := by rfl
theorem kit_str_tup : PySem.W.kitOne K (.type "str") (.type "tuple") = some false := by rfl
theorem kit_non_tup : PySem.W.kitOne K (.type "NoneType") (.type "tuple") = some false := by rfl
theorem kit_bl_tup : PySem.W.kitOne K (.type "bool") (.type "tuple") = some false := by rfl
theorem kit_lst_tup : PySem.W.kitOne K (.type "list") (.type "tuple") = some false := by rfl
theorem kit_dct_tup : PySem.W.kitOne K (.type "dict") (.type "tuple") = some false := by rfl
theorem kit_tup_tup : PySem.W.kitOne K (.type "tuple") (.type "tuple") = some true := by rfl
theorem kit_tup_str : PySem.W.kitOne K (.type "tuple") (.type "str") = some false := by rfl
theorem kit_bl_str : PySem.W.kitOne K (.type "bool") (.type "str") = some false := by rfl
theorem kit_lst_str : PySem.W.kitOne K (.type "list") (.type "str") = some false := by rfl
theorem kit_dct_str : PySem.W.kitOne K (.type "dict") (.type "str") = some false := by rfl
theorem kit_tup_lst : PySem.W.kitOne K (.type "tuple") (.type "list") = some false := by rfl
theorem kit_lst_lst : PySem.W.kitOne K (.type "list") (.type "list") = some true := by rfl
theorem kit_non_bool : PySem.W.kitOne K (.type "NoneType") (.type "bool") = some false := by rfl
theorem kit_str_bool : PySem.W.kitOne K (.type "str") (.type "bool") = some false := by rfl
theorem kit_tup_bool : PySem.W.kitOne K (.type "tuple") (.type "bool") = some false := by rfl
theorem kit_lst_bool : PySem.W.kitOne K (.type "list") (.type "bool") = some false := by rfl
theorem kit_dct_bool : PySem.W.kitOne K (.type "dict") (.type "bool") = some false := by rfl
theorem kit_non_int : PySem.W.kitOne K (.type "NoneType") (.type "int") = some false := by rfl
theorem kit_tup_int : PySem.W.kitOne K (.type "tuple") (.type "int") = some false := by rfl
theorem kit_lst_int : PySem.W.kitOne K (.type "list") (.type "int") = some false := by rfl
theorem kit_dct_int : PySem.W.kitOne K (.type "dict") (.type "int") = some false := by rfl
end
theorem one_sz (v : V) : [v].length ≤ sizeLine := show 1 ≤ sizeLine by decide
theorem small_le {n : Nat} (h : n ≤ 1000) : n ≤ sizeLine := Nat.le_of_lt (small1000 h)
theorem at0 (x : V) (r : List V) : atI (x :: r) 0 = some x := atI_nat (j := 0) rfl
theorem at1 (x y : V) (r : List V) : atI (x :: y :: r) 1 = some y := atI_nat (j := 1) rfl
theorem mem_of_ix {P : V → Prop} {ys : List V} (py : ∀ (i : Nat) y, ys[i]? = some y → P y) : ∀ v ∈ ys, P v := fun v hv => by
  obtain ⟨i, hi, e⟩ := List.mem_iff_getElem.mp hv
  exact py i v (by rw [List.getElem?_eq_getElem hi, e])
/-- isinstance of a plain value, against tuple and bool -/
theorem isTup_plain {K : PySem.W.Frag} {H : Hp} {Q : VK} {v : V} (p : plainV v) (q : Q (.bl false) H) : rIsI K [v, .ty "tuple"] H Q := by
  cases v with
  | non => exact isI_of .non kit_non_tup q
  | int i => exact isI_of (.int i) kit_int_tup q
  | str z => exact isI_of (.str z) kit_str_tup q
  | _ => exact p.elim
theorem isBool_plain {K : PySem.W.Frag} {H : Hp} {Q : VK} {v : V} (p : plainV v) (q : Q (.bl false) H) : rIsI K [v, .ty "bool"] H Q := by
  cases v with
  | non => exact isI_of .non kit_non_bool q
  | int i => exact isI_of (.int i) kit_int_bool q
  | str z => exact isI_of (.str z) kit_str_bool q
  | _ => exact p.elim

def sp_rank_of (_ : PySem.W.Frag) : Sp := fun vs H Q _ => ∃ v, vs = [v] ∧ plainV v ∧ ∀ p, H p = none → Q (.ref p) (upd H p (.tup (rk v)))
seal PE PT PW PA PS PSs PI PG PIfs PGs PO in
theorem ok_rank_of {P : Program} {w : World} {K : PySem.W.Frag} {mg : Str → Option Value} {base : Heap} {C CE CT : Addr} {f : Addr} {fd : FuncData} (Z : Zs mg) (T : Tx K mg C CE CT) (F : Fun K "rank_of" "rank_of" s_rank_of f fd) : FnOk P w K mg base CX0 1 f fd ["value"] (sp_rank_of K) := by
  refine F.ok sc_rank_of (fun vs H Q E h => ?_) (fun cdv A outer s H vs Q E hr h => ?_)
  · obtain ⟨v, rfl, _⟩ := h; rfl
  obtain ⟨v, rfl, hv, q⟩ := h
  refine ⟨_, (@pss_cons _ _ _ _ _ (ps_if (pt_cmpR op_isN (pv 0) pe_non (nomark _)) (pss_one (ps_ret (pe_tup (pa_c pe_int (pa_c pe_int pa_nil))))) pss_nil)
      (@pss_cons _ _ _ _ _ (ps_if (pt_val (pe_callB call_isinst rfl (Z.isinstance) bo_isinstance (pa_c (pv 0) (pa_c (pe_bltn rfl (Z.str) bo_str (v := .ty "str") rfl) pa_nil))) (fun _ => rfl)) (pss_one (ps_ret (pe_tup (pa_c pe_int (pa_c (pv 0) pa_nil))))) pss_nil)
      (pss_one (ps_ret (pe_tup (pa_c pe_int (pa_c (pv 0) pa_nil))))))), ?_⟩
  refine rd_start (σ := [some v]) rfl ?_
  walk_at "rd"
  cases v with
  | non => walk_at "rd"; exact ⟨by decide, q⟩
  | int n =>
    walk_at "rd"
    refine isI_of (.int n) kit_int_str ⟨_, rfl, ?_⟩
    walk_at "rd"
    exact ⟨by show 2 ≤ sizeLine; decide, q⟩
  | str z =>
    walk_at "rd"
    refine isI_of (.str z) kit_str_str ⟨_, rfl, ?_⟩
    walk_at "rd"
    exact ⟨by show 2 ≤ sizeLine; decide, q⟩
  | _ => exact hv.elim

def sp_before (_ : PySem.W.Frag) : Sp := fun vs H Q _ => ∃ a b, vs = [a, b] ∧ plainV a ∧ plainV b ∧ ∀ H', Same H H' → Q (.bl (ltV a b)) H'
seal PE PT PW PA PS PSs PI PG PIfs PGs PO in
theorem ok_before {P : Program} {w : World} {K : PySem.W.Frag} {mg : Str → Option Value} {base : Heap} {C CE CT : Addr} {f : Addr} {fd : FuncData} (Z : Zs mg) (T : Tx K mg C CE CT) (G_rank_of : Cal P w K mg base 1 "rank_of" ["value"] (sp_rank_of K)) (F : Fun K "before" "before" s_before f fd) : FnOk P w K mg base CX0 2 f fd ["one", "other"] (sp_before K) := by
  refine F.ok sc_before (fun vs H Q E h => ?_) (fun cdv A outer s H vs Q E hr h => ?_)
  · obtain ⟨a, b, rfl, _⟩ := h; rfl
  obtain ⟨a, b, rfl, ha, hb, q⟩ := h
  refine ⟨_, (pss_one (ps_ret (pe_cmpR (op_ltV (hr.units0)) (pe_cal G_rank_of (k := 1) hr (by decide) rfl (pa_c (pv 0) pa_nil)) (pe_cal G_rank_of (k := 1) hr (by decide) rfl (pa_c (pv 1) pa_nil)) (nomark _)))), ?_⟩
  refine rd_start (σ := [some a, some b]) rfl ?_
  walk_at "rd"
  refine ⟨a, rfl, ha, fun p hp => ?_⟩
  walk_at "rd"
  refine ⟨b, rfl, hb, fun p2 hp2 => ?_⟩
  walk_at "rd"
  exact ⟨rk a, SqT.of (by rw [upd_ne (ne_of_none upd_same hp2)]; exact upd_same), rk b, SqT.of upd_same, ltV a b, lex_rk ha hb, q _ ((same_upd hp _).trans (same_upd hp2 _))⟩

--@SPLIT
theorem big_le {n : Nat} (h : n ≤ 100000) : n ≤ sizeLine := Nat.le_trans h (by decide)
def intB : V → Bool
  | .int _ => true
  | .bl _ => true
  | _ => false
def blB : V → Bool
  | .bl _ => true
  | _ => false
def strB : V → Bool
  | .str _ => true
  | _ => false
def tupB (H : Hp) : V → Bool
  | .ref a => match H a with
    | some (.tup _) => true
    | _ => false
  | _ => false
section
variable {K : PySem.W.Frag} {H : Hp} {Q : VK} {v : V}
theorem isInt_TT (h : TT 0 H v) (q : Q (.bl (intB v)) H) : rIsI K [v, .ty "int"] H Q := by
  rcases h with h | ⟨a, rfl, ⟨xs, h⟩ | h | ⟨xs, h, _⟩⟩
  · cases v with
    | non => exact isI_of .non kit_non_int q
    | bl b => exact isI_of (.bl b) kit_bool_int q
    | int i => exact isI_of (.int i) kit_int_int q
    | str z => exact isI_of (.str z) kit_str_int q
    | _ => exact h.elim
  · exact isI_of (.lst h) kit_lst_int q
  · exact isI_of (.dK h) kit_dct_int q
  · exact isI_of (.tup h) kit_tup_int q
theorem isBool_TT (h : TT 0 H v) (q : Q (.bl (blB v)) H) : rIsI K [v, .ty "bool"] H Q := by
  rcases h with h | ⟨a, rfl, ⟨xs, h⟩ | h | ⟨xs, h, _⟩⟩
  · cases v with
    | non => exact isI_of .non kit_non_bool q
    | bl b => exact isI_of (.bl b) kit_bool_bool q
    | int i => exact isI_of (.int i) kit_int_bool q
    | str z => exact isI_of (.str z) kit_str_bool q
    | _ => exact h.elim
  · exact isI_of (.lst h) kit_lst_bool q
  · exact isI_of (.dK h) kit_dct_bool q
  · exact isI_of (.tup h) kit_tup_bool q
theorem isStr_TT (h : TT 0 H v) (q : Q (.bl (strB v)) H) : rIsI K [v, .ty "str"] H Q := by
  rcases h with h | ⟨a, rfl, ⟨xs, h⟩ | h | ⟨xs, h, _⟩⟩
  · cases v with
    | non => exact isI_of .non kit_non_str q
    | bl b => exact isI_of (.bl b) kit_bl_str q
    | int i => exact isI_of (.int i) kit_int_str q
    | str z => exact isI_of (.str z) kit_str_str q
    | _ => exact h.elim
  · exact isI_of (.lst h) kit_lst_str q
  · exact isI_of (.dK h) kit_dct_str q
  · exact isI_of (.tup h) kit_tup_str q
theorem isTup_TT (h : TT 0 H v) (q : Q (.bl (tupB H v)) H) : rIsI K [v, .ty "tuple"] H Q := by
  rcases h with h | ⟨a, rfl, ⟨xs, h⟩ | h | ⟨xs, h, _⟩⟩
  · cases v with
    | non => exact isI_of .non kit_non_tup q
    | bl b => exact isI_of (.bl b) kit_bl_tup q
    | int i => exact isI_of (.int i) kit_int_tup q
    | str z => exact isI_of (.str z) kit_str_tup q
    | _ => exact h.elim
  · simp only [tupB, h] at q; exact isI_of (.lst h) kit_lst_tup q
  · simp only [tupB, h] at q; exact isI_of (.dK h) kit_dct_tup q
  · simp only [tupB, h] at q; exact isI_of (.tup h) kit_tup_tup q
theorem tup_of (h : TT 1 H v) (t : tupB H v = true) : ∃ a xs, v = .ref a ∧ H a = some (.tup xs) ∧ xs.length ≤ 100000 ∧ ∀ u ∈ xs, TT 0 H u := by
  rcases h with h | ⟨a, rfl, ⟨xs, h⟩ | h | ⟨xs, h, l, p⟩⟩
  · cases v <;> first | exact h.elim | cases t
  · simp [tupB, h] at t
  · simp [tupB, h] at t
  · exact ⟨a, xs, rfl, h, l, p⟩
theorem tup_of2 (h : TT 2 H v) (t : tupB H v = true) : ∃ a xs, v = .ref a ∧ H a = some (.tup xs) ∧ xs.length ≤ 100000 ∧ ∀ u ∈ xs, TT 1 H u := by
  rcases h with h | ⟨a, rfl, ⟨xs, h⟩ | h | ⟨xs, h, l, p⟩⟩
  · cases v <;> first | exact h.elim | cases t
  · simp [tupB, h] at t
  · simp [tupB, h] at t
  · exact ⟨a, xs, rfl, h, l, p⟩
end
def sp_is_whole (_ : PySem.W.Frag) : Sp := fun vs H Q _ => ∃ v, vs = [v] ∧ TT 0 H v ∧ Q (.bl (wholeB v)) H
def sp_is_number (_ : PySem.W.Frag) : Sp := fun vs H Q _ => ∃ v, vs = [v] ∧ TT 0 H v ∧ Q (.bl (numB v)) H
def sp_is_sign (_ : PySem.W.Frag) : Sp := fun vs H Q _ => ∃ c : Nat, vs = [.str ⟨#[c]⟩] ∧ Q (.bl (signB c)) H
def sp_is_text (_ : PySem.W.Frag) : Sp := fun vs H Q _ => ∃ v, ∃ n : Nat, vs = [v, .int n] ∧ TT 0 H v ∧ ∀ H', Same H H' → Q (.bl (textB n v)) H'
def sp_is_key (_ : PySem.W.Frag) : Sp := fun vs H Q _ => ∃ v, vs = [v] ∧ TT 0 H v ∧ ∀ H', Same H H' → Q (.bl (numB v || textB 1 v)) H'
def sp_is_plain (_ : PySem.W.Frag) : Sp := fun vs H Q _ => ∃ v, vs = [v] ∧ TT 0 H v ∧ ∀ H', Same H H' → Q (.bl (plainB v)) H'
seal PE PT PW PA PS PSs PI PG PIfs PGs PO in
theorem ok_is_whole {P : Program} {w : World} {K : PySem.W.Frag} {mg : Str → Option Value} {base : Heap} {C CE CT : Addr} {f : Addr} {fd : FuncData} (Z : Zs mg) (T : Tx K mg C CE CT) (F : Fun K "is_whole" "is_whole" s_is_whole f fd) : FnOk P w K mg base CX0 1 f fd ["thing"] (sp_is_whole K) := by
  refine F.ok sc_is_whole (fun vs H Q E h => ?_) (fun cdv A outer s H vs Q E hr h => ?_)
  · obtain ⟨v, rfl, _⟩ := h; rfl
  obtain ⟨v, rfl, hv, q⟩ := h
  refine ⟨_, (pss_one (ps_ret (pe_and (pe_callB call_isinst rfl (Z.isinstance) bo_isinstance (pa_c (pv 0) (pa_c (pe_bltn rfl (Z.int) bo_int (v := .ty "int") rfl) pa_nil))) (pe_one (pe_not (pe_callB call_isinst rfl (Z.isinstance) bo_isinstance (pa_c (pv 0) (pa_c (pe_bltn rfl (Z.bool) bo_bool (v := .ty "bool") rfl) pa_nil)))))))), ?_⟩
  refine rd_start (σ := [some v]) rfl ?_
  walk_at "rd"
  refine isInt_TT hv ?_
  cases v with
  | bl b => refine ⟨_, rfl, iteT ?_⟩; refine isBool_TT hv ?_; exact ⟨_, rfl, q⟩
  | int i => refine ⟨_, rfl, iteT ?_⟩; refine isBool_TT hv ?_; exact ⟨_, rfl, q⟩
  | _ => exact ⟨_, rfl, q⟩
seal PE PT PW PA PS PSs PI PG PIfs PGs PO in
theorem ok_is_number {P : Program} {w : World} {K : PySem.W.Frag} {mg : Str → Option Value} {base : Heap} {C CE CT : Addr} {f : Addr} {fd : FuncData} (Z : Zs mg) (T : Tx K mg C CE CT) (G_is_whole : Cal P w K mg base 1 "is_whole" ["thing"] (sp_is_whole K)) (F : Fun K "is_number" "is_number" s_is_number f fd) : FnOk P w K mg base CX0 2 f fd ["thing"] (sp_is_number K) := by
  refine F.ok sc_is_number (fun vs H Q E h => ?_) (fun cdv A outer s H vs Q E hr h => ?_)
  · obtain ⟨v, rfl, _⟩ := h; rfl
  obtain ⟨v, rfl, hv, q⟩ := h
  refine ⟨_, (pss_one (ps_ret (pe_and (pe_cal G_is_whole (k := 1) hr (by decide) rfl (pa_c (pv 0) pa_nil)) (pe_one (pe_chain op_lt op_lt (pe_un un_neg (pe_op op_pow pe_int pe_int)) (pv 0) (pe_op op_pow pe_int pe_int)))))), ?_⟩
  refine rd_start (σ := [some v]) rfl ?_
  walk_at "rd"
  refine ⟨v, rfl, hv, ?_⟩
  cases v with
  | int i =>
    refine ⟨_, rfl, ?_⟩
    walk_at "rd"
    rw [if_pos (show wholeB (V.int i) = true from rfl)]
    refine ⟨by unfold CPow; decide, ?_⟩
    by_cases h1 : -10 ^ 30 < i
    · rw [if_pos h1]
      refine ⟨by unfold CPow; decide, ?_⟩
      have e : numB (V.int i) = decide (i < 10 ^ 30) := by
        unfold numB
        by_cases h2 : i < 10 ^ 30
        · rw [decide_eq_true h2]; exact decide_eq_true ⟨h1, h2⟩
        · rw [decide_eq_false h2]; exact decide_eq_false fun h => h2 h.2
      rw [← e]; exact q
    · rw [if_neg h1]
      have e : numB (V.int i) = false := decide_eq_false fun h => h1 h.1
      rw [← e]; exact q
  | _ => exact ⟨_, rfl, q⟩
theorem lt1 (a b : Nat) : ([a] < [b]) ↔ a < b := by simp [List.cons_lt_cons_iff]
seal PE PT PW PA PS PSs PI PG PIfs PGs PO in
theorem ok_is_sign {P : Program} {w : World} {K : PySem.W.Frag} {mg : Str → Option Value} {base : Heap} {C CE CT : Addr} {f : Addr} {fd : FuncData} (Z : Zs mg) (T : Tx K mg C CE CT) (F : Fun K "is_sign" "is_sign" s_is_sign f fd) : FnOk P w K mg base CX0 1 f fd ["one"] (sp_is_sign K) := by
  refine F.ok sc_is_sign (fun vs H Q E h => ?_) (fun cdv A outer s H vs Q E hr h => ?_)
  · obtain ⟨v, rfl, _⟩ := h; rfl
  obtain ⟨c, rfl, q⟩ := h
  refine ⟨_, (pss_one (ps_ret (pe_and (pe_chain op_le_str op_le_str pe_str (pv 0) pe_str) (pe_one (pe_cmpR op_ne (pe_callB call_ord rfl (Z.ord) bo_ord (pa_c (pv 0) pa_nil)) (pe_gint (Z.PERCENT) rfl) (nomark _)))))), ?_⟩
  refine rd_start (σ := [some (.str ⟨#[c]⟩)]) rfl ?_
  walk_at "rd"
  have e1 : (Str.ofString " ").cps.toList = [32] := by decide
  have e2 : (Str.ofString "~").cps.toList = [126] := by decide
  rw [e1, e2]
  by_cases h1 : c < 32
  · rw [if_neg (not_not_intro ((lt1 c 32).mpr h1))]
    have e : signB c = false := decide_eq_false fun h => by omega
    rw [← e]; exact q
  rw [if_pos (fun h => h1 ((lt1 c 32).mp h))]
  by_cases h2 : 126 < c
  · rw [if_neg (not_not_intro ((lt1 126 c).mpr h2))]
    have e : signB c = false := decide_eq_false fun h => by omega
    rw [← e]; exact q
  rw [if_pos (fun h => h2 ((lt1 126 c).mp h))]
  refine ⟨rfl, ?_⟩
  have e : (!decide (((#[c].getD 0 0 : Nat) : Int) = 37)) = signB c := by
    have e0 : #[c].getD 0 0 = c := rfl
    rw [e0]
    unfold signB
    by_cases h3 : c = 37
    · rw [decide_eq_true (show ((c : Nat) : Int) = 37 by omega), decide_eq_false (fun h => h.2.2 h3)]; rfl
    · rw [decide_eq_false (show ¬ ((c : Nat) : Int) = 37 by omega), decide_eq_true (show 32 ≤ c ∧ c ≤ 126 ∧ c ≠ 37 by omega)]; rfl
  rw [e]; exact q
theorem len_codes (z : Str) : z.length = z.cps.toList.length := by simp [Str.length]
theorem bools_eq {ys : List V} {cs : List Nat} {f : Nat → Bool} (hl : ys.length = cs.length) (h : ∀ (i : Nat) y, ys[i]? = some y → ∃ c, cs[i]? = some c ∧ y = .bl (f c)) : ys = (cs.map f).map V.bl := by
  apply List.ext_getElem
  · simp [hl]
  · intro i h1 h2
    obtain ⟨c, e1, e2⟩ := h i _ (List.getElem?_eq_getElem h1)
    rw [e2]
    have : i < cs.length := by omega
    rw [List.getElem?_eq_getElem this] at e1
    cases e1
    simp
theorem all_map (cs : List Nat) (f : Nat → Bool) : (cs.map f).all id = cs.all f := by rw [List.all_map]; rfl
theorem textB_str (n : Nat) (z : Str) : textB n (V.str z) = (decide (n ≤ z.length ∧ z.length ≤ 40) && z.cps.toList.all signB) := rfl
seal PE PT PW PA PS PSs PI PG PIfs PGs PO in
theorem ok_is_text {P : Program} {w : World} {K : PySem.W.Frag} {mg : Str → Option Value} {base : Heap} {C CE CT : Addr} {f : Addr} {fd : FuncData} (Z : Zs mg) (T : Tx K mg C CE CT) (G_is_sign : Cal P w K mg base 1 "is_sign" ["one"] (sp_is_sign K)) (F : Fun K "is_text" "is_text" s_is_text f fd) : FnOk P w K mg base CX0 2 f fd ["thing", "least"] (sp_is_text K) := by
  refine F.ok sc_is_text (fun vs H Q E h => ?_) (fun cdv A outer s H vs Q E hr h => ?_)
  · obtain ⟨v, n, rfl, _⟩ := h; rfl
  obtain ⟨v, n, rfl, hv, q⟩ := h
  refine ⟨_, (@pss_cons _ _ _ _ _ (ps_if (PW.pt (pw_or (pt_not (pt_val (pe_callB call_isinst rfl (Z.isinstance) bo_isinstance (pa_c (pv 0) (pa_c (pe_bltn rfl (Z.str) bo_str (v := .ty "str") rfl) pa_nil))) (fun _ => rfl))) (pw_or1 (pt_not (pt_chain op_le op_le (pv 1) (pe_callB call_len_str rfl (Z.len) bo_len (pa_c (pv 0) pa_nil)) (pe_gint (Z.MOST_SIGNS) rfl)))))) (pss_one (ps_ret pe_bl)) pss_nil)
      (pss_one (ps_ret (pe_callB (call_allL rfl) rfl (Z.all) bo_all (pa_c (pe_lcomp ["thing", "least"] rfl (blkOk (N := ["thing", "least"]) (dsc := defScope s_is_text) rfl rfl (by decide +kernel)) (pi_str (pv 0)) (fun _ _ _ _ _ => pif_nil) (fun _ _ _ _ _ => (pe_cal G_is_sign (k := 1) hr (by decide) rfl (pa_c (pv 0) pa_nil)))) pa_nil))))), ?_⟩
  refine rd_start (σ := [some v, some (.int n)]) rfl ?_
  walk_at "rd"
  refine isStr_TT hv ?_
  cases v with
  | str z =>
    have hz : goodZ z := by rcases hv with h | ⟨a, e, _⟩; exact h; cases e
    refine ⟨_, rfl, ?_⟩
    walk_at "rd"
    rw [if_neg (show ¬ strB (V.str z) = false from fun h => by cases h)]
    refine ⟨Nat.le_trans hz (by decide), ?_⟩
    by_cases h1 : (n : Int) ≤ z.length
    · rw [if_pos h1]
      by_cases h2 : (z.length : Int) ≤ 40
      · rw [if_neg (not_not_intro h2)]
        refine lcR_str (fun i v => ∃ c, z.cps.toList[i]? = some c ∧ v = .bl (signB c)) (small_le (by omega)) (fun i c H2 R hc s2 hR => ?_) fun D H2 ys hD s2 hy ly py => ?_
        · walk_at "rd"
          exact ⟨c, rfl, hR _ _ ⟨c, hc, rfl⟩ (Same.refl _)⟩
        · have ey : ys = ((z.cps.toList).map signB).map V.bl := bools_eq (by rw [ly, len_codes]) py
          refine ⟨D, rfl, (z.cps.toList).map signB, SqL.of (by rw [hy, ey]), ?_⟩
          rw [all_map]
          have e : textB n (V.str z) = z.cps.toList.all signB := by
            rw [textB_str]
            rw [decide_eq_true (show n ≤ z.length ∧ z.length ≤ 40 by omega), Bool.true_and]
          rw [← e]
          exact q _ s2
      · rw [if_pos h2]
        have e : textB n (V.str z) = false := by rw [textB_str]; rw [decide_eq_false (fun h => h2 (by omega)), Bool.false_and]
        rw [← e]; exact q _ (Same.refl _)
    · rw [if_neg h1]
      have e : textB n (V.str z) = false := by rw [textB_str]; rw [decide_eq_false (fun h => h1 (by omega)), Bool.false_and]
      rw [← e]; exact q _ (Same.refl _)
  | _ => exact ⟨_, rfl, q _ (Same.refl _)⟩
seal PE PT PW PA PS PSs PI PG PIfs PGs PO in
theorem ok_is_plain {P : Program} {w : World} {K : PySem.W.Frag} {mg : Str → Option Value} {base : Heap} {C CE CT : Addr} {f : Addr} {fd : FuncData} (Z : Zs mg) (T : Tx K mg C CE CT) (G_is_number : Cal P w K mg base 2 "is_number" ["thing"] (sp_is_number K)) (G_is_text : Cal P w K mg base 2 "is_text" ["thing", "least"] (sp_is_text K)) (F : Fun K "is_plain" "is_plain" s_is_plain f fd) : FnOk P w K mg base CX0 3 f fd ["thing"] (sp_is_plain K) := by
  refine F.ok sc_is_plain (fun vs H Q E h => ?_) (fun cdv A outer s H vs Q E hr h => ?_)
  · obtain ⟨v, rfl, _⟩ := h; rfl
  obtain ⟨v, rfl, hv, q⟩ := h
  refine ⟨_, (pss_one (ps_ret (pe_or (pe_cmpR op_isN (pv 0) pe_non (nomark _)) (pe_or (pe_cal G_is_number (k := 2) hr (by decide) rfl (pa_c (pv 0) pa_nil)) (pe_one (pe_cal G_is_text (k := 2) hr (by decide) rfl (pa_c (pv 0) (pa_c pe_int pa_nil)))))))), ?_⟩
  refine rd_start (σ := [some v]) rfl ?_
  walk_at "rd"
  unfold plainB at q
  by_cases h : v = .non
  · rw [if_pos h]
    rw [decide_eq_true h] at q
    exact q _ (Same.refl _)
  · rw [if_neg h]
    rw [decide_eq_false h] at q
    refine ⟨v, rfl, hv, _, rfl, ?_⟩
    cases e : numB v with
    | true => rw [if_pos rfl]; rw [e] at q; exact q _ (Same.refl _)
    | false => rw [if_neg Bool.false_ne_true]; rw [e] at q; exact ⟨v, 0, rfl, hv, q⟩

--@SPLIT
def sp_is_rising (_ : PySem.W.Frag) : Sp := fun vs H Q _ => ∃ (a : Addr) (ns : List V), vs = [.ref a] ∧ H a = some (.tup ns) ∧ (∀ v ∈ ns, plainV v) ∧ ns.length ≤ 100000 ∧ ∀ H', Same H H' → Q (.bl (risingB ns)) H'
def sp_are_nows (_ : PySem.W.Frag) : Sp := fun vs H Q _ => ∃ v, vs = [v] ∧ TT 1 H v ∧ ∀ H', Same H H' → Q (.bl (nowsB H v)) H'
def sp_is_clash (_ : PySem.W.Frag) : Sp := fun vs H Q _ => ∃ v, vs = [v] ∧ TT 2 H v ∧ ∀ H', Same H H' → Q (.bl (clashB H v)) H'
/-- the heap grows: what is a clash is one still -/
theorem nows_sameL {H H' : Hp} {v : V} (h : TT 1 H v) (s : SameL H H') : nowsB H' v = nowsB H v := by
  rcases h with h | ⟨a, rfl, ⟨xs, h⟩ | h | ⟨xs, h, l, p⟩⟩
  · cases v <;> first | exact h.elim | rfl
  · obtain ⟨ys, h'⟩ := s.lst h; simp only [nowsB, h, h']
  · simp only [nowsB, h, s.dK h]
  · simp only [nowsB, h, s.tup h]
theorem clash_sameL {H H' : Hp} {v : V} (h : TT 2 H v) (s : SameL H H') : clashB H' v = clashB H v := by
  rcases h with h | ⟨a, rfl, ⟨xs, h⟩ | h | ⟨xs, h, l, p⟩⟩
  · cases v <;> first | exact h.elim | rfl
  · obtain ⟨ys, h'⟩ := s.lst h; simp only [clashB, h, h']
  · simp only [clashB, h, s.dK h]
  · simp only [clashB, h, s.tup h]
    match xs, p with
    | [], _ => rfl
    | [_], _ => rfl
    | [x, y], p => simp only [nows_sameL (p y (by simp)) s]
    | _ :: _ :: _ :: _, _ => rfl
theorem nows_same {H H' : Hp} {v : V} (h : TT 1 H v) (s : Same H H') : nowsB H' v = nowsB H v := nows_sameL h s.l
theorem clash_same {H H' : Hp} {v : V} (h : TT 2 H v) (s : Same H H') : clashB H' v = clashB H v := clash_sameL h s.l
theorem ptw {f : V → V} : ∀ {xs ys : List V}, ys.length = xs.length → (∀ (i : Nat) y, ys[i]? = some y → ∃ x, xs[i]? = some x ∧ y = f x) → ys = xs.map f
  | [], [], _, _ => rfl
  | x :: xs, y :: ys, h, e => by
    obtain ⟨x', e1, e2⟩ := e 0 y rfl
    simp at e1
    subst e1 e2
    rw [List.map_cons]
    congr 1
    exact ptw (by simpa using h) fun i y hy => by simpa using e (i + 1) y (by simpa using hy)
theorem rising_all : ∀ {ns : List V} {bs : List Bool}, bs.length = ns.length - 1 → (∀ (i : Nat) b, bs[i]? = some b → ∃ x y, ns[i]? = some x ∧ ns[i + 1]? = some y ∧ b = ltV x y) → bs.all id = risingB ns
  | [], bs, hl, _ => by
    have : bs = [] := List.length_eq_zero_iff.mp (by simpa using hl)
    subst this; rfl
  | [a], bs, hl, _ => by
    have : bs = [] := List.length_eq_zero_iff.mp (by simpa using hl)
    subst this; rfl
  | a :: b :: r, [], hl, _ => by simp at hl
  | a :: b :: r, c :: bs, hl, h => by
    obtain ⟨x, y, e1, e2, e3⟩ := h 0 c rfl
    simp at e1 e2
    subst e1 e2 e3
    have ih := rising_all (ns := b :: r) (bs := bs) (by simp at hl ⊢; omega) fun i d hd => by
      obtain ⟨x, y, e1, e2, e3⟩ := h (i + 1) d (by simpa using hd)
      exact ⟨x, y, by simpa using e1, by simpa using e2, e3⟩
    rw [List.all_cons, ih, risingB]; rfl
theorem bls_of : ∀ (vs : List V), (∀ v ∈ vs, ∃ b, v = .bl b) → ∃ bs : List Bool, vs = bs.map V.bl
  | [], _ => ⟨[], rfl⟩
  | v :: vs, h => by
    obtain ⟨b, rfl⟩ := h v List.mem_cons_self
    obtain ⟨bs, rfl⟩ := bls_of vs fun u hu => h u (List.mem_cons_of_mem _ hu)
    exact ⟨b :: bs, rfl⟩
seal PE PT PW PA PS PSs PI PG PIfs PGs PO in
theorem ok_is_rising {P : Program} {w : World} {K : PySem.W.Frag} {mg : Str → Option Value} {base : Heap} {C CE CT : Addr} {f : Addr} {fd : FuncData} (Z : Zs mg) (T : Tx K mg C CE CT) (G_before : Cal P w K mg base 2 "before" ["one", "other"] (sp_before K)) (F : Fun K "is_rising" "is_rising" s_is_rising f fd) : FnOk P w K mg base CX0 3 f fd ["values"] (sp_is_rising K) := by
  refine F.ok sc_is_rising (fun vs H Q E h => ?_) (fun cdv A outer s H vs Q E hr h => ?_)
  · obtain ⟨a, ns, rfl, _⟩ := h; rfl
  obtain ⟨a, ns, rfl, ha, pn, ln, q⟩ := h
  refine ⟨_, (pss_one (ps_ret (pe_callB (call_allL rfl) rfl (Z.all) bo_all (pa_c (pe_lcomp ["values"] rfl (blkOk (N := ["values"]) (dsc := defScope s_is_rising) rfl rfl (by decide +kernel)) (pi_range2 rfl (Z.range) (pa_c pe_int (pa_c (pe_callB call_len_seq rfl (Z.len) bo_len (pa_c (pv 0) pa_nil)) pa_nil))) (fun _ _ _ _ _ => pif_nil) (fun _ _ _ _ _ => (pe_cal G_before (k := 2) hr (by decide) rfl (pa_c (pe_ix (r := rIxT K) ix_tup (pv 1) (pe_op op_sub (pv 0) pe_int) (fun _ _ => rfl)) (pa_c (pe_ix (r := rIxT K) ix_tup (pv 1) (pv 0) (fun _ _ => rfl)) pa_nil))))) pa_nil)))), ?_⟩
  refine rd_start (σ := [some (.ref a)]) rfl ?_
  walk_at "rd"
  refine ⟨ns, .inr (SqT.of ha), 1, _, ⟨rfl, rfl⟩, by omega, lcR_range (fun i v => ∃ x y, ns[i]? = some x ∧ ns[i + 1]? = some y ∧ v = .bl (ltV x y)) (big_le (by omega)) (fun i H2 R hi s2 hR => ?_) fun D H2 ys hD s2 hy ly py => ?_⟩
  · have h1 : i < ns.length := by omega
    have h2 : i + 1 < ns.length := by omega
    have e1 := List.getElem?_eq_getElem h1
    have e2 := List.getElem?_eq_getElem h2
    walk_at "rd"
    refine ⟨ns, SqT.of (s2 _ _ ha), ns[i], by rw [show (1 + (i : Int) - 1) = ((i : Nat) : Int) by omega]; exact atI_nat e1, ns, SqT.of (s2 _ _ ha), ns[i + 1], by rw [show (1 + (i : Int)) = ((i + 1 : Nat) : Int) by omega]; exact atI_nat e2, ns[i], ns[i + 1], rfl, pn _ (List.getElem_mem h1), pn _ (List.getElem_mem h2), fun H3 s3 => hR _ _ ⟨_, _, e1, e2, rfl⟩ s3⟩
  · obtain ⟨bs, eb⟩ := bls_of ys (mem_of_ix fun i y hy => by obtain ⟨x, z, _, _, e⟩ := py i y hy; exact ⟨_, e⟩)
    refine ⟨D, rfl, bs, SqL.of (by rw [hy, eb]), ?_⟩
    have e : bs.all id = risingB ns := rising_all (by rw [eb, List.length_map] at ly; omega) fun i b hb => by
      obtain ⟨x, y, e1, e2, e3⟩ := py i (.bl b) (by rw [eb, List.getElem?_map, hb]; rfl)
      cases e3
      exact ⟨x, y, e1, e2, rfl⟩
    rw [e]; exact q _ s2
seal PE PT PW PA PS PSs PI PG PIfs PGs PO in
theorem ok_are_nows {P : Program} {w : World} {K : PySem.W.Frag} {mg : Str → Option Value} {base : Heap} {C CE CT : Addr} {f : Addr} {fd : FuncData} (Z : Zs mg) (T : Tx K mg C CE CT) (G_is_rising : Cal P w K mg base 3 "is_rising" ["values"] (sp_is_rising K)) (G_is_plain : Cal P w K mg base 3 "is_plain" ["thing"] (sp_is_plain K)) (F : Fun K "are_nows" "are_nows" s_are_nows f fd) : FnOk P w K mg base CX0 4 f fd ["thing"] (sp_are_nows K) := by
  refine F.ok sc_are_nows (fun vs H Q E h => ?_) (fun cdv A outer s H vs Q E hr h => ?_)
  · obtain ⟨v, rfl, _⟩ := h; rfl
  obtain ⟨v, rfl, hv, q⟩ := h
  refine ⟨_, (@pss_cons _ _ _ _ _ (ps_if (PW.pt (pw_or (pt_not (pt_val (pe_callB call_isinst rfl (Z.isinstance) bo_isinstance (pa_c (pv 0) (pa_c (pe_bltn rfl (Z.tuple) bo_tuple (v := .ty "tuple") rfl) pa_nil))) (fun _ => rfl))) (pw_or1 (pt_cmpR op_lt (pe_callB call_len_seq rfl (Z.len) bo_len (pa_c (pv 0) pa_nil)) pe_int (nomark _))))) (pss_one (ps_ret pe_bl)) pss_nil)
      (pss_one (ps_ret (pe_and (pe_callB (call_allL rfl) rfl (Z.all) bo_all (pa_c (pe_lcomp ["thing"] rfl (blkOk (N := ["thing"]) (dsc := defScope s_are_nows) rfl rfl (by decide +kernel)) (pi_tup (pv 0)) (fun _ _ _ _ _ => pif_nil) (fun _ _ _ _ _ => (pe_cal G_is_plain (k := 3) hr (by decide) rfl (pa_c (pv 0) pa_nil)))) pa_nil)) (pe_one (pe_cal G_is_rising (k := 3) hr (by decide) rfl (pa_c (pv 0) pa_nil))))))), ?_⟩
  refine rd_start (σ := [some v]) rfl ?_
  walk_at "rd"
  refine isTup_TT hv.less ⟨_, rfl, ?_⟩
  cases ht : tupB H v with
  | false =>
    rw [if_pos rfl]
    have e : nowsB H v = false := by
      rcases hv with h | ⟨a, rfl, ⟨xs, h⟩ | h | ⟨xs, h, l, p⟩⟩
      · cases v <;> first | exact h.elim | rfl
      · simp only [nowsB, h]
      · simp only [nowsB, h]
      · simp [tupB, h] at ht
    rw [← e]; exact q _ (Same.refl _)
  | true =>
    obtain ⟨a, ns, rfl, ha, ln, pn⟩ := tup_of hv ht
    rw [if_neg (fun h => by cases h)]
    have en : nowsB H (.ref a) = (decide (2 ≤ ns.length) && (ns.all plainB && risingB ns)) := by simp only [nowsB, ha]
    rw [en] at q
    walk_at "rd"
    refine ⟨ns, .inr (SqT.of ha), ?_⟩
    by_cases h2 : (ns.length : Int) < 2
    · rw [if_pos h2]
      rw [decide_eq_false (show ¬ 2 ≤ ns.length by omega), Bool.false_and] at q
      exact q _ (Same.refl _)
    · rw [if_neg h2]
      rw [decide_eq_true (show 2 ≤ ns.length by omega), Bool.true_and] at q
      refine ⟨⟨_, SqT.of ha⟩, lcR_tup ns (fun i v => ∃ u, ns[i]? = some u ∧ v = .bl (plainB u)) (SqT.of ha) (big_le (by omega)) (fun i x H2 R hx s2 hR => ?_) fun D H2 ys hD s2 hy ly py => ?_⟩
      · walk_at "rd"
        exact ⟨x, rfl, (pn x (List.mem_of_getElem? hx)).mono s2.l, fun H3 s3 => hR _ _ ⟨x, hx, rfl⟩ s3⟩
      · have ey : ys = (ns.map plainB).map V.bl := by
          rw [List.map_map]
          exact ptw ly py
        refine ⟨D, rfl, ns.map plainB, SqL.of (by rw [hy, ey]), ?_⟩
        have ea : (ns.map plainB).all id = ns.all plainB := by rw [List.all_map]; rfl
        rw [ea]
        cases hall : ns.all plainB with
        | false =>
          rw [if_neg Bool.false_ne_true]
          rw [hall, Bool.false_and] at q
          exact q _ s2
        | true =>
          rw [if_pos rfl]
          rw [hall, Bool.true_and] at q
          exact ⟨a, ns, rfl, s2 _ _ ha, fun v hv => plain_of (List.all_eq_true.mp hall v hv), ln, fun H3 s3 => q _ (s2.trans s3)⟩
seal PE PT PW PA PS PSs PI PG PIfs PGs PO in
theorem ok_is_clash {P : Program} {w : World} {K : PySem.W.Frag} {mg : Str → Option Value} {base : Heap} {C CE CT : Addr} {f : Addr} {fd : FuncData} (Z : Zs mg) (T : Tx K mg C CE CT) (G_is_plain : Cal P w K mg base 3 "is_plain" ["thing"] (sp_is_plain K)) (G_are_nows : Cal P w K mg base 4 "are_nows" ["thing"] (sp_are_nows K)) (F : Fun K "is_clash" "is_clash" s_is_clash f fd) : FnOk P w K mg base CX0 5 f fd ["thing"] (sp_is_clash K) := by
  refine F.ok sc_is_clash (fun vs H Q E h => ?_) (fun cdv A outer s H vs Q E hr h => ?_)
  · obtain ⟨v, rfl, _⟩ := h; rfl
  obtain ⟨v, rfl, hv, q⟩ := h
  refine ⟨_, (@pss_cons _ _ _ _ _ (ps_if (PW.pt (pw_or (pt_not (pt_val (pe_callB call_isinst rfl (Z.isinstance) bo_isinstance (pa_c (pv 0) (pa_c (pe_bltn rfl (Z.tuple) bo_tuple (v := .ty "tuple") rfl) pa_nil))) (fun _ => rfl))) (pw_or1 (pt_cmpR op_ne (pe_callB call_len_seq rfl (Z.len) bo_len (pa_c (pv 0) pa_nil)) pe_int (nomark _))))) (pss_one (ps_ret pe_bl)) pss_nil)
      (pss_one (ps_ret (pe_and (pe_cal G_is_plain (k := 4) hr (by decide) rfl (pa_c (pe_ix ix_tup (pv 0) pe_int (fun _ _ => rfl)) pa_nil)) (pe_one (pe_cal G_are_nows (k := 4) hr (by decide) rfl (pa_c (pe_ix ix_tup (pv 0) pe_int (fun _ _ => rfl)) pa_nil))))))), ?_⟩
  refine rd_start (σ := [some v]) rfl ?_
  walk_at "rd"
  refine isTup_TT hv.less.less ⟨_, rfl, ?_⟩
  cases ht : tupB H v with
  | false =>
    rw [if_pos rfl]
    have e : clashB H v = false := by
      rcases hv with h | ⟨a, rfl, ⟨xs, h⟩ | h | ⟨xs, h, l, p⟩⟩
      · cases v <;> first | exact h.elim | rfl
      · simp only [clashB, h]
      · simp only [clashB, h]
      · simp [tupB, h] at ht
    rw [← e]; exact q _ (Same.refl _)
  | true =>
    obtain ⟨a, xs, rfl, ha, lx, px⟩ := tup_of2 hv ht
    rw [if_neg (fun h => by cases h)]
    walk_at "rd"
    refine ⟨xs, .inr (SqT.of ha), ?_⟩
    by_cases h2 : (xs.length : Int) = 2
    · rw [if_neg (not_not_intro h2)]
      obtain ⟨x, y, rfl⟩ : ∃ x y, xs = [x, y] := by
        match xs, h2 with
        | [x, y], _ => exact ⟨x, y, rfl⟩
        | [], h => simp at h
        | [_], h => simp at h
        | _ :: _ :: _ :: _, h => simp at h; omega
      have ec : clashB H (.ref a) = (plainB x && nowsB H y) := by simp only [clashB, ha]
      rw [ec] at q
      refine ⟨_, SqT.of ha, x, at0 _ _, x, rfl, (px x (by simp)).less, fun H1 s1 => ⟨_, rfl, ?_⟩⟩
      cases hp : plainB x with
      | false =>
        rw [if_neg Bool.false_ne_true]
        rw [hp, Bool.false_and] at q
        exact q _ s1
      | true =>
        rw [if_pos rfl]
        rw [hp, Bool.true_and] at q
        have ty : TT 1 H y := px y (by simp)
        refine ⟨_, SqT.of (s1 _ _ ha), y, at1 _ _ _, y, rfl, ty.mono s1.l, fun H2 s2 => ?_⟩
        rw [nows_same ty s1]
        exact q _ (s1.trans s2)
    · rw [if_pos h2]
      have ec : clashB H (.ref a) = false := by
        simp only [clashB, ha]
        match xs, h2 with
        | [], _ => rfl
        | [_], _ => rfl
        | [_, _], h => exact absurd rfl h
        | _ :: _ :: _ :: _, _ => rfl
      rw [← ec]; exact q _ (Same.refl _)

--@SPLIT
/-- a strip: its text, the place it is at -/
def stripO (C dx : Addr) (z : Str) (p : Nat) : HO := .ins C dx [("text", .str z), ("at", .int p)]
section
variable {K : PySem.W.Frag} {mg : Str → Option Value} {C CE CT a dx : Addr} {z : Str} {p i : Nat} {σ : St} {H : Hp}
theorem rd_at {Q : VK} (T : Tx K mg C CE CT) (hs : σ[i]? = some (some (.ref a))) (ha : H a = some (stripO C dx z p)) (q : Q (.int p) H) : tFld K (tVar i) "at" σ H Q := ⟨_, hs, a, C, dx, _, _, rfl, ha, T.cl, T.nAt, rfl, q⟩
theorem rd_text {Q : VK} (T : Tx K mg C CE CT) (hs : σ[i]? = some (some (.ref a))) (ha : H a = some (stripO C dx z p)) (q : Q (.str z) H) : tFld K (tVar i) "text" σ H Q := ⟨_, hs, a, C, dx, _, _, rfl, ha, T.cl, T.nText, rfl, q⟩
/-- self.at = the number that the value gives -/
theorem rd_setAt {tv : TE} {D : Ends} {n : Nat} (T : Tx K mg C CE CT) (hs : σ[i]? = some (some (.ref a))) (ha : H a = some (stripO C dx z p)) (hv : ∀ Q : VK, Q (.int n) H → tv σ H Q) (q : D.nx σ (upd H a (stripO C dx z n))) : sFld K (tVar i) tv "at" D σ H :=
  hv _ ⟨_, hs, a, C, dx, _, rfl, ha, T.cl, T.nAt, by simp, q⟩
/-- a method of the strip -/
theorem rd_m {m : Str} {sp : Sp} {t : TA} {Q : VK} {E : XK} (hs : σ[i]? = some (some (.ref a))) (ha : H a = some (stripO C dx z p)) (hm : List.lookup m [(("text" : Str), V.str z), ("at", .int p)] = none) (q : t σ H fun vs H2 => sp (.ref a :: vs) H2 Q E) : tMeth1 C m sp (tVar i) t σ H Q E := ⟨_, hs, a, dx, _, rfl, ha, hm, q⟩
end
def sp_Strip_init (_ : PySem.W.Frag) (C : Addr) : Sp := fun vs H Q _ => ∃ (a dx : Addr) (z : Str), vs = [.ref a, .str z] ∧ H a = some (.ins C dx []) ∧ Q .non (upd H a (stripO C dx z 0))
seal PE PT PW PA PS PSs PI PG PIfs PGs PO in
theorem ok_Strip_init {P : Program} {w : World} {K : PySem.W.Frag} {mg : Str → Option Value} {base : Heap} {C CE CT : Addr} {f : Addr} {fd : FuncData} (Z : Zs mg) (T : Tx K mg C CE CT) (F : Fun K "__init__" "Strip.__init__" s_Strip_init f fd) : FnOk P w K mg base CX0 1 f fd ["self", "text"] (sp_Strip_init K C) := by
  refine F.ok sc_Strip_init (fun vs H Q E h => ?_) (fun cdv A outer s H vs Q E hr h => ?_)
  · obtain ⟨a, dx, z, rfl, _⟩ := h; rfl
  obtain ⟨a, dx, z, rfl, ha, q⟩ := h
  refine ⟨_, (@pss_cons _ _ _ _ _ (ps_fld (pv 0) (pv 1) rfl)
      (pss_one (ps_fld (pv 0) pe_int rfl))), ?_⟩
  refine rd_start (σ := [some (.ref a), some (.str z)]) rfl ?_
  walk_at "rd"
  refine ⟨_, rfl, _, rfl, a, C, dx, _, rfl, ha, T.cl, T.nText, by decide, _, rfl, a, C, dx, _, rfl, upd_same, T.cl, T.nAt, by show 1 < 1000; decide, ?_⟩
  rw [upd_upd]
  exact q
def sp_Strip_is_over (_ : PySem.W.Frag) (C : Addr) : Sp := fun vs H Q _ => ∃ (a dx : Addr) (z : Str) (p : Nat), vs = [.ref a] ∧ H a = some (stripO C dx z p) ∧ z.length ≤ sizeLine ∧ Q (.bl (decide (p = z.length))) H
seal PE PT PW PA PS PSs PI PG PIfs PGs PO in
theorem ok_Strip_is_over {P : Program} {w : World} {K : PySem.W.Frag} {mg : Str → Option Value} {base : Heap} {C CE CT : Addr} {f : Addr} {fd : FuncData} (Z : Zs mg) (T : Tx K mg C CE CT) (F : Fun K "is_over" "Strip.is_over" s_Strip_is_over f fd) : FnOk P w K mg base (CX1 P w) 1 f fd ["self"] (sp_Strip_is_over K C) := by
  refine F.ok1 sc_Strip_is_over (fun vs H Q E h => ?_) (fun cdv A outer s H vs Q E hr h => ?_)
  · obtain ⟨a, dx, z, p, rfl, _⟩ := h; rfl
  obtain ⟨a, dx, z, p, rfl, ha, hz, q⟩ := h
  refine ⟨_, (pss_one (ps_ret (pe_cmpR op_eq (pe_fld (pv 0) rfl) (pe_callB call_len_str rfl (Z.len) bo_len (pa_c (pe_fld (pv 0) rfl) pa_nil)) (nomark _)))), ?_⟩
  refine rd_start (σ := [some (.ref a)]) rfl ?_
  walk_at "rd"
  refine rd_at T rfl ha (rd_text T rfl ha ⟨z, rfl, hz, rfl, ?_⟩)
  have e : decide (V.int (p : Nat) = V.int (z.length : Nat)) = decide (p = z.length) := by
    apply decide_eq_decide.mpr
    constructor
    · intro h; exact Int.ofNat.inj (V.int.inj h)
    · intro h; rw [h]
  rw [e]; exact q
def cutZ (z : Str) (p n : Nat) : Str := ⟨((z.cps.toList.drop p).take n).toArray⟩
theorem slice_cut (z : Str) (p n : Nat) : Txt.slice z (some (p : Nat)) (some ((p : Nat) + (n : Nat) : Int)) = cutZ z p n := by
  apply PyProof.Rows.ext_toList
  rw [slice_list]
  unfold cutS cutZ
  have e1 := HT.sIx_nat z.length 0 p
  have e2 := HT.sIx_nat z.length z.length (p + n)
  rw [show ((p : Nat) + (n : Nat) : Int) = ((p + n : Nat) : Int) by omega, e1, e2]
  have hl : z.cps.toList.length = z.length := by simp [Str.length]
  rw [List.toList_toArray]
  by_cases h : p ≤ z.length
  · rw [Nat.min_eq_left h, List.take_eq_take_iff, List.length_drop, hl]
    omega
  · have h1 : z.cps.toList.drop z.length = [] := List.drop_of_length_le (by rw [hl]; exact Nat.le_refl _)
    have h2 : z.cps.toList.drop p = [] := List.drop_of_length_le (by rw [hl]; omega)
    rw [Nat.min_eq_right (Nat.le_of_lt (Nat.lt_of_not_le h)), h1, h2]; simp
def sp_Strip_sign_ahead (_ : PySem.W.Frag) (C : Addr) : Sp := fun vs H Q _ => ∃ (a dx : Addr) (z : Str) (p : Nat), vs = [.ref a] ∧ H a = some (stripO C dx z p) ∧ z.length ≤ sizeLine ∧ Q (.str (cutZ z p 1)) H
seal PE PT PW PA PS PSs PI PG PIfs PGs PO in
theorem ok_Strip_sign_ahead {P : Program} {w : World} {K : PySem.W.Frag} {mg : Str → Option Value} {base : Heap} {C CE CT : Addr} {f : Addr} {fd : FuncData} (Z : Zs mg) (T : Tx K mg C CE CT) (F : Fun K "sign_ahead" "Strip.sign_ahead" s_Strip_sign_ahead f fd) : FnOk P w K mg base (CX1 P w) 1 f fd ["self"] (sp_Strip_sign_ahead K C) := by
  refine F.ok1 sc_Strip_sign_ahead (fun vs H Q E h => ?_) (fun cdv A outer s H vs Q E hr h => ?_)
  · obtain ⟨a, dx, z, p, rfl, _⟩ := h; rfl
  obtain ⟨a, dx, z, p, rfl, ha, hz, q⟩ := h
  refine ⟨_, (pss_one (ps_ret (pe_slice sl_str (pe_fld (pv 0) rfl) (po_some (pe_fld (pv 0) rfl)) (po_some (pe_op op_add (pe_fld (pv 0) rfl) pe_int))))), ?_⟩
  refine rd_start (σ := [some (.ref a)]) rfl ?_
  walk_at "rd"
  refine rd_text T rfl ha (rd_at T rfl ha ⟨_, rfl, rd_at T rfl ha ⟨_, rfl, z, rfl, hz, ?_⟩⟩)
  rw [show ((p : Int) + 1) = ((p : Nat) : Int) + ((1 : Nat) : Int) from rfl, slice_cut]
  exact q
--@SPLIT
def inR (lo hi c : Nat) : Bool := decide (lo ≤ c ∧ c ≤ hi)
def runL (z : Str) (p lo hi : Nat) : List Nat := (z.cps.toList.drop p).takeWhile (inR lo hi)
theorem tw_go {q : Nat → Bool} : ∀ {l : List Nat} {k c : Nat}, k ≤ (l.takeWhile q).length → l[k]? = some c → q c = true → k < (l.takeWhile q).length
  | [], k, c, _, h, _ => by simp at h
  | a :: l, k, c, hk, h, hq => by
    rw [List.takeWhile_cons] at hk ⊢
    cases e : q a with
    | true =>
      rw [e, if_pos rfl] at hk
      rw [if_pos rfl, List.length_cons]
      cases k with
      | zero => omega
      | succ k =>
        have := tw_go (l := l) (k := k) (c := c) (by rw [List.length_cons] at hk; omega) (by simpa using h) hq
        omega
    | false =>
      rw [e, if_neg Bool.false_ne_true] at hk
      have : k = 0 := by simpa using hk
      subst this
      simp at h
      rw [h, hq] at e; cases e
theorem tw_stop {q : Nat → Bool} : ∀ {l : List Nat} {k : Nat}, k ≤ (l.takeWhile q).length → (∀ c, l[k]? = some c → q c = false) → k = (l.takeWhile q).length
  | [], k, hk, _ => by simpa using hk
  | a :: l, k, hk, h => by
    rw [List.takeWhile_cons] at hk ⊢
    cases e : q a with
    | true =>
      rw [e, if_pos rfl] at hk
      rw [if_pos rfl, List.length_cons]
      cases k with
      | zero => have := h a rfl; rw [e] at this; cases this
      | succ k =>
        have := tw_stop (l := l) (k := k) (by rw [List.length_cons] at hk; omega) (fun c hc => h c (by simpa using hc))
        omega
    | false =>
      rw [e, if_neg Bool.false_ne_true] at hk
      rw [if_neg Bool.false_ne_true]
      simpa using hk
theorem run_take (z : Str) (p lo hi : Nat) : cutZ z p (runL z p lo hi).length = ⟨(runL z p lo hi).toArray⟩ := by
  unfold cutZ runL
  have h : ∀ (q : Nat → Bool) (l : List Nat), l.take (l.takeWhile q).length = l.takeWhile q := fun q l => by
    induction l with
    | nil => rfl
    | cons a l ih =>
      rw [List.takeWhile_cons]
      split
      · rw [List.length_cons, List.take_succ_cons, ih]
      · rfl
  rw [h]
def sp_Strip_run_ahead (_ : PySem.W.Frag) (C CE : Addr) : Sp := fun vs H Q E => ∃ (a dx : Addr) (z : Str) (p lo hi most : Nat), vs = [.ref a, .str ⟨#[lo]⟩, .str ⟨#[hi]⟩, .int most] ∧ H a = some (stripO C dx z p) ∧ p ≤ z.length ∧ z.length ≤ 100000 ∧
  (if 1 ≤ (runL z p lo hi).length ∧ (runL z p lo hi).length ≤ most then Q (.str ⟨(runL z p lo hi).toArray⟩) H else E (.ref CE) none H)
seal PE PT PW PA PS PSs PI PG PIfs PGs PO in
theorem ok_Strip_run_ahead {P : Program} {w : World} {K : PySem.W.Frag} {mg : Str → Option Value} {base : Heap} {C CE CT : Addr} {f : Addr} {fd : FuncData} (Z : Zs mg) (T : Tx K mg C CE CT) (F : Fun K "run_ahead" "Strip.run_ahead" s_Strip_run_ahead f fd) : FnOk P w K mg base (CX1 P w) 1 f fd ["self", "first", "last", "most"] (sp_Strip_run_ahead K C CE) := by
  refine F.ok1 sc_Strip_run_ahead (fun vs H Q E h => ?_) (fun cdv A outer s H vs Q E hr h => ?_)
  · obtain ⟨a, dx, z, p, lo, hi, most, rfl, _⟩ := h; rfl
  obtain ⟨a, dx, z, p, lo, hi, most, rfl, ha, hp, hz, q⟩ := h
  refine ⟨_, (@pss_cons _ _ _ _ _ (ps_set (i := 4) sc_Strip_run_ahead.nd rfl (Or.inl rfl) (pe_fld (pv 0) rfl))
      (@pss_cons _ _ _ _ _ (ps_while own1 (PW.pt (pw_and (pt_cmpR op_lt (pv 4) (pe_callB call_len_str rfl (Z.len) bo_len (pa_c (pe_fld (pv 0) rfl) pa_nil)) (nomark _)) (pw_and1 (pt_chain op_le_str op_le_str (pv 1) (pe_ix ix_str (pe_fld (pv 0) rfl) (pv 4) (fun _ _ => rfl)) (pv 2))))) (pss_one (ps_set (i := 4) sc_Strip_run_ahead.nd rfl (Or.inl rfl) (pe_op op_add (pv 4) pe_int))))
      (@pss_cons _ _ _ _ _ (ps_if (pt_not (pt_chain op_le op_le pe_int (pe_op op_sub (pv 4) (pe_fld (pv 0) rfl)) (pv 3))) (pss_one (ps_raise0 throws0 rfl rfl rfl T.mgE T.ex PySem.F.excBase_ValueError)) pss_nil)
      (pss_one (ps_ret (pe_slice sl_str (pe_fld (pv 0) rfl) (po_some (pe_fld (pv 0) rfl)) (po_some (pv 4)))))))), ?_⟩
  refine rd_start (σ := [some (.ref a), some (.str ⟨#[lo]⟩), some (.str ⟨#[hi]⟩), some (.int most), none]) rfl ?_
  walk_at "rd"
  have hsz : z.length ≤ sizeLine := Nat.le_trans hz (by decide)
  have hl : z.cps.toList.length = z.length := by simp [Str.length]
  generalize hn : (runL z p lo hi).length = n at q
  have gk : ∀ k : Nat, (z.cps.toList.drop p)[k]? = z.cps.toList[p + k]? := fun k => by rw [List.getElem?_drop]
  refine rd_at T rfl ha ⟨fun m σ' H' => ∃ k : Nat, m = z.length - (p + k) ∧ σ' = [some (V.ref a), some (V.str ⟨#[lo]⟩), some (V.str ⟨#[hi]⟩), some (V.int most), some (.int ((p : Nat) + (k : Nat)))] ∧ H' = H ∧ k ≤ n, ⟨_, 0, rfl, by simp, rfl, Nat.zero_le _⟩, ?_⟩
  rintro m σ' H' ⟨k, rfl, rfl, rfl, hk⟩
  walk_at "rd"
  have stop : (∀ c, z.cps.toList[p + k]? = some c → inR lo hi c = false) → k = n := fun h => by
    rw [← hn]; exact tw_stop (by rw [← hn] at hk; exact hk) fun c hc => h c (by rw [← gk]; exact hc)
  refine rd_text T rfl ha ⟨z, rfl, hsz, ?_⟩
  by_cases hlt : (p : Int) + (k : Int) < (z.length : Int)
  · rw [if_pos hlt]
    obtain ⟨c, hc⟩ : ∃ c, z.cps.toList[p + k]? = some c := ⟨_, List.getElem?_eq_getElem (by rw [hl]; omega)⟩
    have hat : atI z.cps.toList ((p : Int) + (k : Int)) = some c := by
      rw [show ((p : Int) + (k : Int)) = ((p + k : Nat) : Int) by omega]; exact atI_nat hc
    refine rd_text T rfl ha ⟨z, rfl, hsz, c, hat, ?_⟩
    by_cases c1 : c < lo
    · rw [if_neg (not_not_intro ((lt1 c lo).mpr c1))]
      have hkn := stop fun d hd => by
        rw [hc] at hd; cases hd
        exact decide_eq_false fun h => by omega
      refine rd_at T rfl ha ⟨_, rfl, ?_⟩
      rw [show ((p : Int) + (k : Int) - (p : Int)) = (k : Int) by omega]
      by_cases h1 : 1 ≤ (k : Int)
      · rw [if_pos h1]
        by_cases h2 : (k : Int) ≤ (most : Int)
        · rw [if_neg (not_not_intro h2)]
          rw [if_pos (show 1 ≤ n ∧ n ≤ most by omega)] at q
          refine rd_text T rfl ha (rd_at T rfl ha ⟨_, rfl, z, rfl, hsz, ?_⟩)
          rw [slice_cut, hkn, ← hn, run_take]
          exact q
        · rw [if_pos h2]
          rw [if_neg (fun h => h2 (by omega))] at q
          exact q
      · rw [if_neg h1]
        rw [if_neg (fun h => h1 (by omega))] at q
        exact q
    rw [if_pos (fun h => c1 ((lt1 c lo).mp h))]
    by_cases c2 : hi < c
    · rw [if_neg (not_not_intro ((lt1 hi c).mpr c2))]
      have hkn := stop fun d hd => by
        rw [hc] at hd; cases hd
        exact decide_eq_false fun h => by omega
      refine rd_at T rfl ha ⟨_, rfl, ?_⟩
      rw [show ((p : Int) + (k : Int) - (p : Int)) = (k : Int) by omega]
      by_cases h1 : 1 ≤ (k : Int)
      · rw [if_pos h1]
        by_cases h2 : (k : Int) ≤ (most : Int)
        · rw [if_neg (not_not_intro h2)]
          rw [if_pos (show 1 ≤ n ∧ n ≤ most by omega)] at q
          refine rd_text T rfl ha (rd_at T rfl ha ⟨_, rfl, z, rfl, hsz, ?_⟩)
          rw [slice_cut, hkn, ← hn, run_take]
          exact q
        · rw [if_pos h2]
          rw [if_neg (fun h => h2 (by omega))] at q
          exact q
      · rw [if_neg h1]
        rw [if_neg (fun h => h1 (by omega))] at q
        exact q
    rw [if_pos (fun h => c2 ((lt1 hi c).mp h))]
    have hk1 : k < n := by
      rw [← hn] at hk ⊢
      exact tw_go hk (by rw [gk]; exact hc) (decide_eq_true (by omega))
    exact ⟨fun σ2 H2 => σ2 = [some (V.ref a), some (V.str ⟨#[lo]⟩), some (V.str ⟨#[hi]⟩), some (V.int most), some (.int ((p : Nat) + (k : Nat) + 1))] ∧ H2 = H', fun σ2 H2 h => ⟨_, by omega, k + 1, rfl, by rw [h.1]; simp [Int.add_assoc], h.2, by omega⟩, rfl, rfl⟩
  · rw [if_neg hlt]
    have hkn := stop fun d hd => by
      have := (List.getElem?_eq_some_iff.mp hd).1
      omega
    refine rd_at T rfl ha ⟨_, rfl, ?_⟩
    rw [show ((p : Int) + (k : Int) - (p : Int)) = (k : Int) by omega]
    by_cases h1 : 1 ≤ (k : Int)
    · rw [if_pos h1]
      by_cases h2 : (k : Int) ≤ (most : Int)
      · rw [if_neg (not_not_intro h2)]
        rw [if_pos (show 1 ≤ n ∧ n ≤ most by omega)] at q
        refine rd_text T rfl ha (rd_at T rfl ha ⟨_, rfl, z, rfl, hsz, ?_⟩)
        rw [slice_cut, hkn, ← hn, run_take]
        exact q
      · rw [if_pos h2]
        rw [if_neg (fun h => h2 (by omega))] at q
        exact q
    · rw [if_neg h1]
      rw [if_neg (fun h => h1 (by omega))] at q
      exact q
def sp_Strip_take_sign (_ : PySem.W.Frag) (C CE : Addr) : Sp := fun vs H Q E => ∃ (a dx : Addr) (z o : Str) (p : Nat), vs = [.ref a, .str o] ∧ H a = some (stripO C dx z p) ∧ z.length ≤ sizeLine ∧ (if cutZ z p 1 = o then Q .non (upd H a (stripO C dx z (p + 1))) else E (.ref CE) none H)
seal PE PT PW PA PS PSs PI PG PIfs PGs PO in
theorem ok_Strip_take_sign {P : Program} {w : World} {K : PySem.W.Frag} {mg : Str → Option Value} {base : Heap} {C CE CT : Addr} {f : Addr} {fd : FuncData} (Z : Zs mg) (T : Tx K mg C CE CT) (M_Strip_sign_ahead : MeV P w K mg base 1 C "sign_ahead" (sp_Strip_sign_ahead K C)) (F : Fun K "take_sign" "Strip.take_sign" s_Strip_take_sign f fd) : FnOk P w K mg base (CX1 P w) 2 f fd ["self", "one"] (sp_Strip_take_sign K C CE) := by
  refine F.ok1 sc_Strip_take_sign (fun vs H Q E h => ?_) (fun cdv A outer s H vs Q E hr h => ?_)
  · obtain ⟨a, dx, z, o, p, rfl, _⟩ := h; rfl
  obtain ⟨a, dx, z, o, p, rfl, ha, hz, q⟩ := h
  refine ⟨_, (@pss_cons _ _ _ _ _ (ps_if (pt_cmpR op_ne (PE1.pe (pe1_meth0 (k := 1) (pv 0) T.cl (MeV.mono M_Strip_sign_ahead (by decide)) hr rfl) throws0) (pv 1) (nomark _)) (pss_one (ps_raise0 throws0 rfl rfl rfl T.mgE T.ex PySem.F.excBase_ValueError)) pss_nil)
      (pss_one (ps_fld (pv 0) (pe_op op_add (pe_fld (pv 0) rfl) pe_int) rfl))), ?_⟩
  refine rd_start (σ := [some (.ref a), some (.str o)]) rfl ?_
  walk_at "rd"
  refine rd_m rfl ha rfl ⟨a, dx, z, p, rfl, ha, hz, rfl, ?_⟩
  by_cases h : cutZ z p 1 = o
  · rw [if_neg (fun h' => h' (by rw [h]))]
    rw [if_pos h] at q
    exact rd_setAt T rfl ha (fun Q' q' => rd_at T rfl ha ⟨_, _, rfl, rfl, q'⟩) q
  · rw [if_pos (fun h' => h (V.str.inj h'))]
    rw [if_neg h] at q
    exact q
def sp_Strip_take_line_end (_ : PySem.W.Frag) (C CE : Addr) : Sp := fun vs H Q E => ∃ (a dx : Addr) (z : Str) (p : Nat), vs = [.ref a] ∧ H a = some (stripO C dx z p) ∧ z.length ≤ sizeLine ∧ (if cutZ z p 1 = Str.ofString "\n" then Q .non (upd H a (stripO C dx z (p + 1))) else E (.ref CE) none H)
--@SPLIT
theorem small_le' {n : Nat} (h : n ≤ 1000) : n ≤ sizeLine := Nat.le_of_lt (small1000 h)
def sp_Strip_take_signs (_ : PySem.W.Frag) (C CE : Addr) : Sp := fun vs H Q E => ∃ (a dx : Addr) (z : Str) (p n : Nat), vs = [.ref a, .int n] ∧ H a = some (stripO C dx z p) ∧ p ≤ z.length ∧ z.length ≤ 100000 ∧
  (if p + n ≤ z.length then Q (.str (cutZ z p n)) (upd H a (stripO C dx z (p + n))) else E (.ref CE) none H)
seal PE PT PW PA PS PSs PI PG PIfs PGs PO in
theorem ok_Strip_take_signs {P : Program} {w : World} {K : PySem.W.Frag} {mg : Str → Option Value} {base : Heap} {C CE CT : Addr} {f : Addr} {fd : FuncData} (Z : Zs mg) (T : Tx K mg C CE CT) (F : Fun K "take_signs" "Strip.take_signs" s_Strip_take_signs f fd) : FnOk P w K mg base (CX1 P w) 1 f fd ["self", "count"] (sp_Strip_take_signs K C CE) := by
  refine F.ok1 sc_Strip_take_signs (fun vs H Q E h => ?_) (fun cdv A outer s H vs Q E hr h => ?_)
  · obtain ⟨a, dx, z, p, n, rfl, _⟩ := h; rfl
  obtain ⟨a, dx, z, p, n, rfl, ha, hp, hz, q⟩ := h
  refine ⟨_, (@pss_cons _ _ _ _ _ (ps_set (i := 2) sc_Strip_take_signs.nd rfl (Or.inl rfl) (pe_slice sl_str (pe_fld (pv 0) rfl) (po_some (pe_fld (pv 0) rfl)) (po_some (pe_op op_add (pe_fld (pv 0) rfl) (pv 1)))))
      (@pss_cons _ _ _ _ _ (ps_if (pt_cmpR op_ne (pe_callB call_len_str rfl (Z.len) bo_len (pa_c (pv 2) pa_nil)) (pv 1) (nomark _)) (pss_one (ps_raise0 throws0 rfl rfl rfl T.mgE T.ex PySem.F.excBase_ValueError)) pss_nil)
      (@pss_cons _ _ _ _ _ (ps_fld (pv 0) (pe_op op_add (pe_fld (pv 0) rfl) (pv 1)) rfl)
      (pss_one (ps_ret (pv 2)))))), ?_⟩
  refine rd_start (σ := [some (.ref a), some (.int n), none]) rfl ?_
  walk_at "rd"
  have hsz : z.length ≤ sizeLine := Nat.le_trans hz (by decide)
  refine rd_text T rfl ha (rd_at T rfl ha ⟨_, rfl, rd_at T rfl ha ⟨_, rfl, z, rfl, hsz, ?_⟩⟩)
  rw [slice_cut]
  have hl : z.cps.toList.length = z.length := by simp [Str.length]
  have e : (cutZ z p n).length = min n (z.length - p) := by
    unfold cutZ
    simp [Str.length, List.length_take, List.length_drop, hl]
  refine ⟨Nat.le_trans (by rw [e]; omega) hsz, ?_⟩
  by_cases h : ((cutZ z p n).length : Int) = n
  · rw [if_neg (not_not_intro h)]
    rw [if_pos (show p + n ≤ z.length by omega)] at q
    exact rd_setAt (n := p + n) T rfl ha (fun Q' q' => rd_at T rfl ha ⟨_, rfl, _, _, rfl, rfl, q'⟩) ⟨_, rfl, q⟩
  · rw [if_pos h]
    rw [if_neg (fun h' => h (by omega))] at q
    exact q
theorem run_in {z : Str} {p lo hi c : Nat} (h : c ∈ runL z p lo hi) : lo ≤ c ∧ c ≤ hi := by
  have : ∀ (q : Nat → Bool) (l : List Nat), c ∈ l.takeWhile q → q c = true := fun q l => by
    induction l with
    | nil => intro h; cases h
    | cons a l ih =>
      rw [List.takeWhile_cons]
      split
      · rename_i e
        intro h
        rcases List.mem_cons.mp h with z | z
        · rw [z]; exact e
        · exact ih z
      · intro h; cases h
  exact of_decide_eq_true (this _ _ h)
/-- figures: no other figure behind a nought -/
def wholeOk (ds : List Nat) : Bool := decide (1 ≤ ds.length ∧ ds.length ≤ 30) && !(decide (1 < ds.length) && (ds.head? == some 48))
def sp_Strip_take_whole (_ : PySem.W.Frag) (C CE : Addr) : Sp := fun vs H Q E => ∃ (a dx : Addr) (z : Str) (p : Nat), vs = [.ref a] ∧ H a = some (stripO C dx z p) ∧ p ≤ z.length ∧ z.length ≤ 100000 ∧
  (if wholeOk (runL z p 48 57) = true then Q (.int (NumText.digitsVal (runL z p 48 57) : Nat)) (upd H a (stripO C dx z (p + (runL z p 48 57).length))) else E (.ref CE) none H)
seal PE PT PW PA PS PSs PI PG PIfs PGs PO in
theorem ok_Strip_take_whole {P : Program} {w : World} {K : PySem.W.Frag} {mg : Str → Option Value} {base : Heap} {C CE CT : Addr} {f : Addr} {fd : FuncData} (Z : Zs mg) (T : Tx K mg C CE CT) (M_Strip_run_ahead : MeV P w K mg base 1 C "run_ahead" (sp_Strip_run_ahead K C CE)) (F : Fun K "take_whole" "Strip.take_whole" s_Strip_take_whole f fd) : FnOk P w K mg base (CX1 P w) 2 f fd ["self"] (sp_Strip_take_whole K C CE) := by
  refine F.ok1 sc_Strip_take_whole (fun vs H Q E h => ?_) (fun cdv A outer s H vs Q E hr h => ?_)
  · obtain ⟨a, dx, z, p, rfl, _⟩ := h; rfl
  obtain ⟨a, dx, z, p, rfl, ha, hp, hz, q⟩ := h
  refine ⟨_, (@pss_cons _ _ _ _ _ (ps_set (i := 1) sc_Strip_take_whole.nd rfl (Or.inl rfl) (PE1.pe (pe1_meth (k := 1) (pv 0) T.cl (MeV.mono M_Strip_run_ahead (by decide)) hr rfl (pa_c pe_str (pa_c pe_str (pa_c (pe_gint (Z.MOST_FIGURES) rfl) pa_nil)))) throws0))
      (@pss_cons _ _ _ _ _ (ps_if (PW.pt (pw_and (pt_cmpR op_gt (pe_callB call_len_str rfl (Z.len) bo_len (pa_c (pv 1) pa_nil)) pe_int (nomark _)) (pw_and1 (pt_cmpR op_eq (pe_ix ix_str (pv 1) pe_int (fun _ _ => rfl)) pe_str (nomark _))))) (pss_one (ps_raise0 throws0 rfl rfl rfl T.mgE T.ex PySem.F.excBase_ValueError)) pss_nil)
      (@pss_cons _ _ _ _ _ (ps_fld (pv 0) (pe_op op_add (pe_fld (pv 0) rfl) (pe_callB call_len_str rfl (Z.len) bo_len (pa_c (pv 1) pa_nil))) rfl)
      (pss_one (ps_ret (pe_callTy call_intS rfl (Z.int) bo_int (pa_c (pv 1) pa_nil))))))), ?_⟩
  refine rd_start (σ := [some (.ref a), none]) rfl ?_
  walk_at "rd"
  refine rd_m rfl ha rfl ⟨a, dx, z, p, 48, 57, 30, rfl, ha, hp, hz, ?_⟩
  generalize hr' : runL z p 48 57 = ds at q ⊢
  have e : (⟨ds.toArray⟩ : Str).length = ds.length := by simp [Str.length]
  by_cases h : 1 ≤ ds.length ∧ ds.length ≤ 30
  · rw [if_pos h]
    have hd : NumText.AllDigits ds := fun c hc => by rw [← hr'] at hc; exact run_in hc
    have ne : ds ≠ [] := fun z => by rw [z] at h; exact absurd h.1 (by decide)
    have tl : ∀ i : Nat, (⟨ds.toArray⟩ : Str).cps.toList = ds := fun _ => by simp
    refine ⟨⟨ds.toArray⟩, rfl, small_le' (by omega), ?_⟩
    have fin : wholeOk ds = true → sFld K (tVar 0) (tOp (rI0 fun i j => V.int (i + j)) (tFld K (tVar 0) "at") (tCB (fun xs H Q => ∃ z : Str, xs = [V.str z] ∧ z.length ≤ sizeLine ∧ Q (V.int (z.length : Nat)) H) (tCons (tVar 1) tNil))) "at"
        { nx := tRet (tCB rIntS (tCons (tVar 1) tNil)) { nx := fun x H' => Q V.non H', rt := Q }, rt := Q } [some (V.ref a), some (V.str ⟨ds.toArray⟩)] H := fun ok => by
      rw [ok, if_pos rfl] at q
      refine rd_setAt (n := p + ds.length) T rfl ha (fun Q' q' => rd_at T rfl ha ⟨_, rfl, _, rfl, small_le' (by omega), _, _, rfl, rfl, by rw [e]; exact q'⟩) ⟨_, rfl, ⟨ds.toArray⟩, rfl, by rw [tl 0]; exact hd, by rw [tl 0]; exact ne, by omega, ?_⟩
      rw [tl 0]; exact q
    by_cases h1 : (1 : Int) < ((⟨ds.toArray⟩ : Str).length : Nat)
    · rw [if_pos h1]
      obtain ⟨c, r, ec⟩ := List.exists_cons_of_ne_nil ne
      refine ⟨⟨ds.toArray⟩, rfl, small_le' (by omega), c, by rw [tl 0, ec]; exact atI_nat (j := 0) rfl, ?_⟩
      by_cases hc : (⟨#[c]⟩ : Str) = Str.ofString "0"
      · rw [if_pos hc]
        have c48 : c = 48 := by
          have e0 : Str.ofString "0" = ⟨#[48]⟩ := by decide
          rw [e0] at hc
          simpa using hc
        have ew : wholeOk ds = false := by
          unfold wholeOk
          rw [decide_eq_true h, decide_eq_true (show 1 < ds.length by omega), ec, c48]; rfl
        rw [ew, if_neg Bool.false_ne_true] at q
        exact q
      · rw [if_neg hc]
        refine fin ?_
        unfold wholeOk
        rw [decide_eq_true h, decide_eq_true (show 1 < ds.length by omega), ec]
        have : c ≠ 48 := fun z => hc (by rw [z]; decide)
        simp [this]
    · rw [if_neg h1]
      refine fin ?_
      unfold wholeOk
      rw [decide_eq_true h, decide_eq_false (show ¬ 1 < ds.length by omega)]; rfl
  · rw [if_neg h]
    have ew : wholeOk ds = false := by unfold wholeOk; rw [decide_eq_false h, Bool.false_and]
    rw [ew, if_neg Bool.false_ne_true] at q
    exact q
def sp_Strip_take_word (_ : PySem.W.Frag) (C CE : Addr) : Sp := fun vs H Q E => ∃ (a dx : Addr) (z : Str) (p : Nat), vs = [.ref a] ∧ H a = some (stripO C dx z p) ∧ p ≤ z.length ∧ z.length ≤ 100000 ∧
  (if 1 ≤ (runL z p 97 122).length ∧ (runL z p 97 122).length ≤ 12 then Q (.str ⟨(runL z p 97 122).toArray⟩) (upd H a (stripO C dx z (p + (runL z p 97 122).length))) else E (.ref CE) none H)
/-- the step that take_by is handed: from the strip as it is, by its promise -/
def sp_Strip_take_by (P : Program) (w : World) (K : PySem.W.Frag) (mg : Str → Option Value) (base : Heap) (C CE : Addr) (k : Nat) : Sp := fun vs H Q E => ∃ (a dx f : Addr) (z : Str) (p n : Nat) (sp : Sp), vs = [.ref a, .ref f] ∧ H a = some (stripO C dx z p) ∧ FnV P w K mg base k f n sp ∧ (∀ E1 E2 : XK, (∀ c d H', E1 c d H' → E2 c d H') → sp [.ref a] H Q E1 → sp [.ref a] H Q E2) ∧
  sp [.ref a] H Q fun cls _ H' => cls = .ref CE ∧ (∃ p', H' a = some (stripO C dx z p')) ∧ E (.ref CE) none (upd H' a (stripO C dx z p))
seal PE PT PW PA PS PSs PI PG PIfs PGs PO in
theorem ok_Strip_take_by {P : Program} {w : World} {K : PySem.W.Frag} {mg : Str → Option Value} {base : Heap} {C CE CT : Addr} {f : Addr} {fd : FuncData} (Z : Zs mg) (T : Tx K mg C CE CT) (k : Nat) (F : Fun K "take_by" "Strip.take_by" s_Strip_take_by f fd) : FnOk P w K mg base (CX1 P w) (k + 1) f fd ["self", "step"] (sp_Strip_take_by P w K mg base C CE k) := by
  refine F.ok1 sc_Strip_take_by (fun vs H Q E h => ?_) (fun cdv A outer s H vs Q E hr h => ?_)
  · obtain ⟨a, dx, f', z, p, n, sp, rfl, _⟩ := h; rfl
  obtain ⟨a, dx, f', z, p, n, sp, rfl, ha, hf, mono, q⟩ := h
  refine ⟨_, (@pss_cons _ _ _ _ _ (ps_set (i := 2) sc_Strip_take_by.nd rfl (Or.inl rfl) (pe_fld (pv 0) rfl))
      (pss_one (ps_try (ps1_ret (pe1_callV (k := k) (i := 1) rfl (Or.inl rfl) hr rfl (pa_c (pv 0) pa_nil))) rfl rfl rfl ownAt1 rfl T.mgE T.ex PySem.F.excBase_ValueError (fun ea ps ok hI => (@pss_cons _ _ _ _ _ (ps_fldH (pv 0) (pv 2) rfl)
      (pss_one (ps_raiseN (throws0.held ok ea ps) hI rfl rfl T.mgE T.ex PySem.F.excBase_ValueError))))))), ?_⟩
  refine rd_start (σ := [some (.ref a), some (.ref f'), none]) rfl ?_
  walk_at "rd"
  refine rd_at T rfl ha ⟨f', n, sp, rfl, hf, _, rfl, ?_⟩
  exact mono _ _ (fun cls d H' ⟨e1, ⟨p', hp'⟩, hE⟩ => ⟨e1, rd_setAt T rfl hp' (fun Q' q' => ⟨_, rfl, q'⟩) hE⟩) q
--@SPLIT
/-! ### what is read at a place, reckoned -/
def wholeAt (z : Str) (p : Nat) : Option (Nat × Nat) := if wholeOk (runL z p 48 57) = true then some (NumText.digitsVal (runL z p 48 57), p + (runL z p 48 57).length) else none
def minusAt (z : Str) (p : Nat) : Option (V × Nat) := if cutZ z p 1 = Str.ofString "-" then
    (match wholeAt z (p + 1) with
    | some (n, p1) => if n = 0 then none else some (.int (-(n : Nat)), p1)
    | none => none) else none
def textAt (z : Str) (p : Nat) : Option (V × Nat) := if cutZ z p 1 = Str.ofString "t" then
    (match wholeAt z (p + 1) with
    | some (n, p1) => if cutZ z p1 1 = Str.ofString ":" then (if p1 + 1 + n ≤ z.length then (if plainB (.str (cutZ z (p1 + 1) n)) = true then some (.str (cutZ z (p1 + 1) n), p1 + 1 + n) else none) else none) else none
    | none => none) else none
def plainAt (z : Str) (p : Nat) : Option (V × Nat) :=
  if cutZ z p 1 = Str.ofString "~" then some (.non, p + 1)
  else if cutZ z p 1 = Str.ofString "-" then minusAt z p
  else if cutZ z p 1 = Str.ofString "t" then textAt z p
  else match wholeAt z p with
    | some (n, p1) => some (.int (n : Nat), p1)
    | none => none
theorem cut1_lt {z : Str} {p c : Nat} (h : cutZ z p 1 = ⟨#[c]⟩) : p + 1 ≤ z.length := by
  have hl : z.cps.toList.length = z.length := by simp [Str.length]
  have e : (cutZ z p 1).length = 1 := by rw [h]; rfl
  have e2 : (cutZ z p 1).length = min 1 (z.length - p) := by unfold cutZ; simp [Str.length, List.length_take, List.length_drop, hl]
  omega
theorem whole_yes {z : Str} {p : Nat} (h : wholeOk (runL z p 48 57) = true) : wholeAt z p = some (NumText.digitsVal (runL z p 48 57), p + (runL z p 48 57).length) := by unfold wholeAt; rw [if_pos h]
theorem whole_no {z : Str} {p : Nat} (h : ¬ wholeOk (runL z p 48 57) = true) : wholeAt z p = none := by unfold wholeAt; rw [if_neg h]
theorem whole_le {z : Str} {p n p1 : Nat} (hp : p ≤ z.length) (h : wholeAt z p = some (n, p1)) : p1 ≤ z.length := by
  unfold wholeAt at h
  split at h
  · cases h
    have hl : z.cps.toList.length = z.length := by simp [Str.length]
    have : (runL z p 48 57).length ≤ (z.cps.toList.drop p).length := (List.takeWhile_sublist _).length_le
    rw [List.length_drop, hl] at this
    omega
  · cases h
theorem cut_good {z : Str} {p n : Nat} (hz : z.length ≤ 100000) : goodZ (cutZ z p n) := by
  have hl : z.cps.toList.length = z.length := by simp [Str.length]
  have e : (cutZ z p n).length = min n (z.length - p) := by unfold cutZ; simp [Str.length, List.length_take, List.length_drop, hl]
  show _ ≤ _
  rw [e]; omega
theorem minus_flat {z : Str} {p p1 : Nat} {v : V} (h : minusAt z p = some (v, p1)) (hp : p ≤ z.length) : flatG v ∧ p1 ≤ z.length := by
  unfold minusAt at h
  split at h
  · rename_i hc
    have e1 : Str.ofString "-" = ⟨#[45]⟩ := by decide
    have hp1 : p + 1 ≤ z.length := cut1_lt (c := 45) (by rw [← e1]; exact hc)
    split at h
    · rename_i n p2 hw
      have := whole_le hp1 hw
      split at h
      · cases h
      · cases h; exact ⟨trivial, this⟩
    · cases h
  · cases h
theorem text_flat {z : Str} {p p1 : Nat} {v : V} (h : textAt z p = some (v, p1)) (hz : z.length ≤ 100000) : flatG v ∧ p1 ≤ z.length := by
  unfold textAt at h
  split at h
  · split at h
    · split at h
      · split at h
        · split at h
          · cases h; rename_i hl _; exact ⟨cut_good hz, hl⟩
          · cases h
        · cases h
      · cases h
    · cases h
  · cases h
theorem plain_flat {z : Str} {p p1 : Nat} {v : V} (h : plainAt z p = some (v, p1)) (hp : p ≤ z.length) (hz : z.length ≤ 100000) : flatG v ∧ p1 ≤ z.length := by
  unfold plainAt at h
  split at h
  · rename_i hc
    cases h
    have e1 : Str.ofString "~" = ⟨#[126]⟩ := by decide
    exact ⟨trivial, cut1_lt (c := 126) (by rw [← e1]; exact hc)⟩
  · split at h
    · exact minus_flat h hp
    · split at h
      · exact text_flat h hz
      · split at h
        · rename_i hw; cases h; exact ⟨trivial, whole_le hp hw⟩
        · cases h
def keyAt (z : Str) (p : Nat) : Option (V × Nat) := match plainAt z p with
  | some (v, p1) => if (numB v || textB 1 v) = true then some (v, p1) else none
  | none => none
/-- all but the strip at a is kept -/
def SameX (a : Addr) (H H' : Hp) : Prop := ∀ b o, b ≠ a → H b = some o → H' b = some o
theorem SameX.refl (a : Addr) (H : Hp) : SameX a H H := fun _ _ _ h => h
theorem SameX.trans {a : Addr} {H H1 H2 : Hp} (x : SameX a H H1) (y : SameX a H1 H2) : SameX a H H2 := fun b o n h => y b o n (x b o n h)
theorem sameX_upd {a : Addr} {H : Hp} {o : HO} : SameX a H (upd H a o) := fun b u n h => by rw [upd_ne n]; exact h
theorem same_x {a : Addr} {H H' : Hp} (s : Same H H') : SameX a H H' := fun b o _ h => s b o h
/-- the promise of a step that reads by res -/
def From (res : Str → Nat → Option (V × Nat)) (C CE : Addr) (back : Bool) : Sp := fun vs H Q E => ∃ (a dx : Addr) (z : Str) (p : Nat), vs = [.ref a] ∧ H a = some (stripO C dx z p) ∧ p ≤ z.length ∧ z.length ≤ 100000 ∧
  (∀ v p1 H', res z p = some (v, p1) → SameX a H H' → H' a = some (stripO C dx z p1) → Q v H') ∧ (∀ p' H', res z p = none → SameX a H H' → H' a = some (stripO C dx z p') → (back = true → p' = p) → E (.ref CE) none H')
def sp_minus_from (_ : PySem.W.Frag) (C CE : Addr) : Sp := From minusAt C CE false
def sp_text_from (_ : PySem.W.Frag) (C CE : Addr) : Sp := From textAt C CE false
def sp_plain_from (_ : PySem.W.Frag) (C CE : Addr) : Sp := From plainAt C CE false
def sp_Strip_take_plain (_ : PySem.W.Frag) (C CE : Addr) : Sp := From plainAt C CE true
seal PE PT PW PA PS PSs PI PG PIfs PGs PO in
theorem ok_minus_from {P : Program} {w : World} {K : PySem.W.Frag} {mg : Str → Option Value} {base : Heap} {C CE CT : Addr} {f : Addr} {fd : FuncData} (Z : Zs mg) (T : Tx K mg C CE CT) (M_Strip_take_sign : MeV P w K mg base 2 C "take_sign" (sp_Strip_take_sign K C CE)) (M_Strip_take_whole : MeV P w K mg base 2 C "take_whole" (sp_Strip_take_whole K C CE)) (F : Fun K "minus_from" "minus_from" s_minus_from f fd) : FnOk P w K mg base (CX1 P w) 3 f fd ["strip"] (sp_minus_from K C CE) := by
  refine F.ok1 sc_minus_from (fun vs H Q E h => ?_) (fun cdv A outer s H vs Q E hr h => ?_)
  · obtain ⟨a, dx, z, p, rfl, _⟩ := h; rfl
  obtain ⟨a, dx, z, p, rfl, ha, hp, hz, q, x⟩ := h
  refine ⟨_, (@pss_cons _ _ _ _ _ (ps_expr (PE1.pe (pe1_meth (k := 2) (pv 0) T.cl (MeV.mono M_Strip_take_sign (by decide)) hr rfl (pa_c pe_str pa_nil)) throws0))
      (@pss_cons _ _ _ _ _ (ps_set (i := 1) sc_minus_from.nd rfl (Or.inl rfl) (PE1.pe (pe1_meth0 (k := 2) (pv 0) T.cl (MeV.mono M_Strip_take_whole (by decide)) hr rfl) throws0))
      (@pss_cons _ _ _ _ _ (ps_if (pt_cmpR op_eq (pv 1) pe_int (nomark _)) (pss_one (ps_raise0 throws0 rfl rfl rfl T.mgE T.ex PySem.F.excBase_ValueError)) pss_nil)
      (pss_one (ps_ret (pe_un un_neg (pv 1))))))), ?_⟩
  refine rd_start (σ := [some (.ref a), none]) rfl ?_
  have hsz : z.length ≤ sizeLine := Nat.le_trans hz (by decide)
  have e1 : Str.ofString "-" = ⟨#[45]⟩ := by decide
  walk_at "rd"
  refine rd_m rfl ha rfl ⟨a, dx, z, _, p, rfl, ha, hsz, ?_⟩
  unfold minusAt at q x
  by_cases h : cutZ z p 1 = Str.ofString "-"
  · rw [if_pos h] at q x ⊢
    have hp1 : p + 1 ≤ z.length := cut1_lt (c := 45) (by rw [← e1]; exact h)
    refine rd_m rfl upd_same rfl ⟨a, dx, z, p + 1, rfl, upd_same, hp1, hz, ?_⟩
    rw [upd_upd]
    by_cases hw : wholeOk (runL z (p + 1) 48 57) = true
    · rw [if_pos hw]
      rw [whole_yes hw] at q x
      refine ⟨rfl, ?_⟩
      by_cases h0 : NumText.digitsVal (runL z (p + 1) 48 57) = 0
      · rw [if_pos (show V.int ((NumText.digitsVal (runL z (p + 1) 48 57) : Nat) : Int) = V.int 0 by rw [h0]; rfl)]
        exact x _ _ (by simp only [h0, if_true]) sameX_upd upd_same (fun z => by cases z)
      · rw [if_neg (fun e => h0 (by have := V.int.inj e; omega))]
        exact ⟨_, rfl, q _ _ _ (by simp only [h0, if_false]) sameX_upd upd_same⟩
    · rw [if_neg hw]
      rw [whole_no hw] at q x
      exact x _ _ rfl sameX_upd upd_same (fun z => by cases z)
  · rw [if_neg h] at q x ⊢
    exact x p H rfl (SameX.refl _ _) ha fun _ => rfl
seal PE PT PW PA PS PSs PI PG PIfs PGs PO in
theorem ok_text_from {P : Program} {w : World} {K : PySem.W.Frag} {mg : Str → Option Value} {base : Heap} {C CE CT : Addr} {f : Addr} {fd : FuncData} (Z : Zs mg) (T : Tx K mg C CE CT) (G_is_plain : Cal P w K mg base 3 "is_plain" ["thing"] (sp_is_plain K)) (M_Strip_take_sign : MeV P w K mg base 2 C "take_sign" (sp_Strip_take_sign K C CE)) (M_Strip_take_whole : MeV P w K mg base 2 C "take_whole" (sp_Strip_take_whole K C CE)) (M_Strip_take_signs : MeV P w K mg base 1 C "take_signs" (sp_Strip_take_signs K C CE)) (F : Fun K "text_from" "text_from" s_text_from f fd) : FnOk P w K mg base (CX1 P w) 4 f fd ["strip"] (sp_text_from K C CE) := by
  refine F.ok1 sc_text_from (fun vs H Q E h => ?_) (fun cdv A outer s H vs Q E hr h => ?_)
  · obtain ⟨a, dx, z, p, rfl, _⟩ := h; rfl
  obtain ⟨a, dx, z, p, rfl, ha, hp, hz, q, x⟩ := h
  refine ⟨_, (@pss_cons _ _ _ _ _ (ps_expr (PE1.pe (pe1_meth (k := 3) (pv 0) T.cl (MeV.mono M_Strip_take_sign (by decide)) hr rfl (pa_c pe_str pa_nil)) throws0))
      (@pss_cons _ _ _ _ _ (ps_set (i := 1) sc_text_from.nd rfl (Or.inl rfl) (PE1.pe (pe1_meth0 (k := 3) (pv 0) T.cl (MeV.mono M_Strip_take_whole (by decide)) hr rfl) throws0))
      (@pss_cons _ _ _ _ _ (ps_expr (PE1.pe (pe1_meth (k := 3) (pv 0) T.cl (MeV.mono M_Strip_take_sign (by decide)) hr rfl (pa_c pe_str pa_nil)) throws0))
      (@pss_cons _ _ _ _ _ (ps_set (i := 2) sc_text_from.nd rfl (Or.inl rfl) (PE1.pe (pe1_meth (k := 3) (pv 0) T.cl (MeV.mono M_Strip_take_signs (by decide)) hr rfl (pa_c (pv 1) pa_nil)) throws0))
      (@pss_cons _ _ _ _ _ (ps_if (pt_not (pt_val (pe_cal G_is_plain (k := 3) hr (by decide) rfl (pa_c (pv 2) pa_nil)) (fun _ => rfl))) (pss_one (ps_raise0 throws0 rfl rfl rfl T.mgE T.ex PySem.F.excBase_ValueError)) pss_nil)
      (pss_one (ps_ret (pv 2)))))))), ?_⟩
  refine rd_start (σ := [some (.ref a), none, none]) rfl ?_
  have hsz : z.length ≤ sizeLine := Nat.le_trans hz (by decide)
  have e1 : Str.ofString "t" = ⟨#[116]⟩ := by decide
  have e2 : Str.ofString ":" = ⟨#[58]⟩ := by decide
  walk_at "rd"
  refine rd_m rfl ha rfl ⟨a, dx, z, _, p, rfl, ha, hsz, ?_⟩
  unfold textAt at q x
  by_cases h : cutZ z p 1 = Str.ofString "t"
  · rw [if_pos h] at q x ⊢
    have hp1 : p + 1 ≤ z.length := cut1_lt (c := 116) (by rw [← e1]; exact h)
    refine rd_m rfl upd_same rfl ⟨a, dx, z, p + 1, rfl, upd_same, hp1, hz, ?_⟩
    rw [upd_upd]
    by_cases hw : wholeOk (runL z (p + 1) 48 57) = true
    · rw [if_pos hw]
      have hle := whole_le hp1 (whole_yes hw)
      rw [whole_yes hw] at q x
      generalize NumText.digitsVal (runL z (p + 1) 48 57) = n at q x ⊢
      generalize p + 1 + (runL z (p + 1) 48 57).length = p1 at q x hle ⊢
      dsimp only at q x
      refine rd_m rfl upd_same rfl ⟨a, dx, z, _, p1, rfl, upd_same, hsz, ?_⟩
      rw [upd_upd]
      by_cases h2 : cutZ z p1 1 = Str.ofString ":"
      · rw [if_pos h2] at q x ⊢
        have hp2 : p1 + 1 ≤ z.length := cut1_lt (c := 58) (by rw [← e2]; exact h2)
        refine rd_m rfl upd_same rfl ⟨_, rfl, a, dx, z, p1 + 1, n, rfl, upd_same, hp2, hz, ?_⟩
        rw [upd_upd]
        by_cases h3 : p1 + 1 + n ≤ z.length
        · rw [if_pos h3] at q x ⊢
          refine ⟨_, rfl, TT.flat (cut_good hz), fun H' s' => ⟨_, rfl, ?_⟩⟩
          have hs : SameX a H H' := sameX_upd.trans (same_x s')
          have hk := s' _ _ upd_same
          cases hpl : plainB (.str (cutZ z (p1 + 1) n)) with
          | true =>
            rw [if_neg (fun z => by cases z)]
            rw [hpl] at q
            exact q _ _ _ (by rw [if_pos rfl]) hs hk
          | false =>
            rw [if_pos rfl]
            rw [hpl] at x
            exact x _ _ (by rw [if_neg Bool.false_ne_true]) hs hk (fun z => by cases z)
        · rw [if_neg h3] at q x ⊢
          exact x _ _ rfl sameX_upd upd_same (fun z => by cases z)
      · rw [if_neg h2] at q x ⊢
        exact x _ _ rfl sameX_upd upd_same (fun z => by cases z)
    · rw [if_neg hw]
      rw [whole_no hw] at q x
      exact x _ _ rfl sameX_upd upd_same (fun z => by cases z)
  · rw [if_neg h] at q x ⊢
    exact x p H rfl (SameX.refl _ _) ha fun _ => rfl
seal PE PT PW PA PS PSs PI PG PIfs PGs PO in
theorem ok_plain_from {P : Program} {w : World} {K : PySem.W.Frag} {mg : Str → Option Value} {base : Heap} {C CE CT : Addr} {f : Addr} {fd : FuncData} (Z : Zs mg) (T : Tx K mg C CE CT) (G_minus_from : Cal1 P w K mg base 3 "minus_from" ["strip"] (sp_minus_from K C CE)) (G_text_from : Cal1 P w K mg base 4 "text_from" ["strip"] (sp_text_from K C CE)) (M_Strip_sign_ahead : MeV P w K mg base 1 C "sign_ahead" (sp_Strip_sign_ahead K C)) (M_Strip_take_whole : MeV P w K mg base 2 C "take_whole" (sp_Strip_take_whole K C CE)) (M_Strip_take_sign : MeV P w K mg base 2 C "take_sign" (sp_Strip_take_sign K C CE)) (F : Fun K "plain_from" "plain_from" s_plain_from f fd) : FnOk P w K mg base (CX1 P w) 5 f fd ["strip"] (sp_plain_from K C CE) := by
  refine F.ok1 sc_plain_from (fun vs H Q E h => ?_) (fun cdv A outer s H vs Q E hr h => ?_)
  · obtain ⟨a, dx, z, p, rfl, _⟩ := h; rfl
  obtain ⟨a, dx, z, p, rfl, ha, hp, hz, q, x⟩ := h
  refine ⟨_, (@pss_cons _ _ _ _ _ (ps_set (i := 1) sc_plain_from.nd rfl (Or.inl rfl) (PE1.pe (pe1_meth0 (k := 4) (pv 0) T.cl (MeV.mono M_Strip_sign_ahead (by decide)) hr rfl) throws0))
      (@pss_cons _ _ _ _ _ (ps_if (pt_cmpR op_eq (pv 1) pe_str (nomark _)) (@pss_cons _ _ _ _ _ (ps_expr (PE1.pe (pe1_meth (k := 4) (pv 0) T.cl (MeV.mono M_Strip_take_sign (by decide)) hr rfl (pa_c pe_str pa_nil)) throws0))
      (pss_one (ps_ret pe_non))) pss_nil)
      (@pss_cons _ _ _ _ _ (ps_if (pt_cmpR op_eq (pv 1) pe_str (nomark _)) (pss_one (ps_ret (PE1.pe (pe1_cal G_minus_from (k := 4) hr (by decide) rfl rfl (pa_c (pv 0) pa_nil)) throws0))) pss_nil)
      (@pss_cons _ _ _ _ _ (ps_if (pt_cmpR op_eq (pv 1) pe_str (nomark _)) (pss_one (ps_ret (PE1.pe (pe1_cal G_text_from (k := 4) hr (by decide) rfl rfl (pa_c (pv 0) pa_nil)) throws0))) pss_nil)
      (pss_one (ps_ret (PE1.pe (pe1_meth0 (k := 4) (pv 0) T.cl (MeV.mono M_Strip_take_whole (by decide)) hr rfl) throws0))))))), ?_⟩
  refine rd_start (σ := [some (.ref a), none]) rfl ?_
  have hsz : z.length ≤ sizeLine := Nat.le_trans hz (by decide)
  walk_at "rd"
  refine rd_m rfl ha rfl ⟨a, dx, z, p, rfl, ha, hsz, rfl, ?_⟩
  unfold plainAt at q x
  by_cases h1 : cutZ z p 1 = Str.ofString "~"
  · rw [if_pos (by rw [h1])]
    rw [if_pos h1] at q
    exact rd_m rfl ha rfl ⟨a, dx, z, _, p, rfl, ha, hsz, by rw [if_pos h1]; exact q _ _ _ rfl sameX_upd upd_same⟩
  rw [if_neg (fun e => h1 (V.str.inj e))]
  rw [if_neg h1] at q x
  refine ⟨rfl, ?_⟩
  by_cases h2 : cutZ z p 1 = Str.ofString "-"
  · rw [if_pos (by rw [h2])]
    rw [if_pos h2] at q x
    exact ⟨_, rfl, a, dx, z, p, rfl, ha, hp, hz, q, x⟩
  rw [if_neg (fun e => h2 (V.str.inj e))]
  rw [if_neg h2] at q x
  refine ⟨rfl, ?_⟩
  by_cases h3 : cutZ z p 1 = Str.ofString "t"
  · rw [if_pos (by rw [h3])]
    rw [if_pos h3] at q x
    exact ⟨_, rfl, a, dx, z, p, rfl, ha, hp, hz, q, x⟩
  rw [if_neg (fun e => h3 (V.str.inj e))]
  rw [if_neg h3] at q x
  refine rd_m rfl ha rfl ⟨a, dx, z, p, rfl, ha, hp, hz, ?_⟩
  by_cases hw : wholeOk (runL z p 48 57) = true
  · rw [if_pos hw]
    rw [whole_yes hw] at q
    exact q _ _ _ rfl sameX_upd upd_same
  · rw [if_neg hw]
    rw [whole_no hw] at x
    exact x p H rfl (SameX.refl _ _) ha fun _ => rfl
theorem From.mono {res : Str → Nat → Option (V × Nat)} {C CE : Addr} {b : Bool} {vs : List V} {H : Hp} {Q : VK} (E1 E2 : XK) (h : ∀ c d H', E1 c d H' → E2 c d H') (x : From res C CE b vs H Q E1) : From res C CE b vs H Q E2 := by
  obtain ⟨a, dx, z, p, e, ha, hp, hz, q, y⟩ := x
  exact ⟨a, dx, z, p, e, ha, hp, hz, q, fun p' H' r s k n => h _ _ _ (y p' H' r s k n)⟩
seal PE PT PW PA PS PSs PI PG PIfs PGs PO in
theorem ok_Strip_take_plain {P : Program} {w : World} {K : PySem.W.Frag} {mg : Str → Option Value} {base : Heap} {C CE CT : Addr} {f : Addr} {fd : FuncData} (Z : Zs mg) (T : Tx K mg C CE CT) (M_Strip_take_by : ∀ k, MeV P w K mg base (k + 1) C "take_by" (sp_Strip_take_by P w K mg base C CE k)) (G_plain_from : Cal1 P w K mg base 5 "plain_from" ["strip"] (sp_plain_from K C CE)) (F : Fun K "take_plain" "Strip.take_plain" s_Strip_take_plain f fd) : FnOk P w K mg base (CX1 P w) 7 f fd ["self"] (sp_Strip_take_plain K C CE) := by
  refine F.ok1 sc_Strip_take_plain (fun vs H Q E h => ?_) (fun cdv A outer s H vs Q E hr h => ?_)
  · obtain ⟨a, dx, z, p, rfl, _⟩ := h; rfl
  obtain ⟨a, dx, z, p, rfl, ha, hp, hz, q, x⟩ := h
  obtain ⟨f_, fd_, Ff, bf, kf, m_plain_from⟩ := G_plain_from
  refine ⟨_, (pss_one (ps_ret (PE1.pe (pe1_meth (k := 6) (pv 0) T.cl (MeV.mono (M_Strip_take_by 5) (by decide)) hr rfl (pa_c (pe_gfn m_plain_from rfl) pa_nil)) throws0))), ?_⟩
  refine rd_start (σ := [some (.ref a)]) rfl ?_
  walk_at "rd"
  refine rd_m rfl ha rfl ⟨a, dx, f_, z, p, 1, sp_plain_from K C CE, rfl, ha, ⟨fd_, _, Ff, bf, kf, rfl⟩, From.mono, a, dx, z, p, rfl, ha, hp, hz, q, fun p' H' r s k _ => ⟨rfl, ⟨p', k⟩, x p _ r (s.trans sameX_upd) upd_same fun _ => rfl⟩⟩
--@SPLIT
def sp_key_from (_ : PySem.W.Frag) (C CE : Addr) : Sp := From keyAt C CE false
def sp_Strip_take_key (_ : PySem.W.Frag) (C CE : Addr) : Sp := From keyAt C CE true
--@SPLIT
/-- what is read: a plain value, or a clash -/
inductive Rv where
  | p (v : V)
  | c (was : V) (nows : List V)
def RvAt (H : Hp) : Rv → V → Prop
  | .p u, v => v = u
  | .c was nows, v => ∃ t b, v = .ref t ∧ H t = some (.tup [was, .ref b]) ∧ H b = some (.tup nows)
def nowsAt (z : Str) : Nat → Nat → Option (List V × Nat)
  | 0, p => some ([], p)
  | k + 1, p => if cutZ z p 1 = Str.ofString " " then
      (match plainAt z (p + 1) with
      | some (v, p1) => (match nowsAt z k p1 with
        | some (vs, p2) => some (v :: vs, p2)
        | none => none)
      | none => none) else none
def clashAt (z : Str) (p : Nat) : Option (Rv × Nat) := if cutZ z p 1 = Str.ofString "c" then
    (match wholeAt z (p + 1) with
    | some (n, p1) => if cutZ z p1 1 = Str.ofString " " then
        (match plainAt z (p1 + 1) with
        | some (was, p2) => (match nowsAt z n p2 with
          | some (nows, p3) => if (plainB was && (decide (2 ≤ nows.length) && (nows.all plainB && risingB nows))) = true then some (.c was nows, p3) else none
          | none => none)
        | none => none) else none
    | none => none) else none
def valueAt (z : Str) (p : Nat) : Option (Rv × Nat) := if cutZ z p 1 = Str.ofString "c" then clashAt z p else
  match plainAt z p with
  | some (v, p1) => some (.p v, p1)
  | none => none
def FromV (res : Str → Nat → Option (Rv × Nat)) (C CE : Addr) (back : Bool) : Sp := fun vs H Q E => ∃ (a dx : Addr) (z : Str) (p : Nat), vs = [.ref a] ∧ H a = some (stripO C dx z p) ∧ p ≤ z.length ∧ z.length ≤ 100000 ∧
  (∀ r v p1 H', res z p = some (r, p1) → SameX a H H' → H' a = some (stripO C dx z p1) → RvAt H' r v → Q v H') ∧ (∀ p' H', res z p = none → SameX a H H' → H' a = some (stripO C dx z p') → (back = true → p' = p) → E (.ref CE) none H')
theorem FromV.mono {res : Str → Nat → Option (Rv × Nat)} {C CE : Addr} {b : Bool} {vs : List V} {H : Hp} {Q : VK} (E1 E2 : XK) (h : ∀ c d H', E1 c d H' → E2 c d H') (x : FromV res C CE b vs H Q E1) : FromV res C CE b vs H Q E2 := by
  obtain ⟨a, dx, z, p, e, ha, hp, hz, q, y⟩ := x
  exact ⟨a, dx, z, p, e, ha, hp, hz, q, fun p' H' r s k n => h _ _ _ (y p' H' r s k n)⟩
def sp_clash_from (_ : PySem.W.Frag) (C CE : Addr) : Sp := FromV clashAt C CE false
def sp_value_from (_ : PySem.W.Frag) (C CE : Addr) : Sp := FromV valueAt C CE false
def sp_Strip_take_value (_ : PySem.W.Frag) (C CE : Addr) : Sp := FromV valueAt C CE true
seal PE PT PW PA PS PSs PI PG PIfs PGs PO in
theorem ok_value_from {P : Program} {w : World} {K : PySem.W.Frag} {mg : Str → Option Value} {base : Heap} {C CE CT : Addr} {f : Addr} {fd : FuncData} (Z : Zs mg) (T : Tx K mg C CE CT) (G_clash_from : Cal1 P w K mg base 8 "clash_from" ["strip"] (sp_clash_from K C CE)) (M_Strip_take_plain : MeV P w K mg base 7 C "take_plain" (sp_Strip_take_plain K C CE)) (M_Strip_sign_ahead : MeV P w K mg base 1 C "sign_ahead" (sp_Strip_sign_ahead K C)) (F : Fun K "value_from" "value_from" s_value_from f fd) : FnOk P w K mg base (CX1 P w) 9 f fd ["strip"] (sp_value_from K C CE) := by
  refine F.ok1 sc_value_from (fun vs H Q E h => ?_) (fun cdv A outer s H vs Q E hr h => ?_)
  · obtain ⟨a, dx, z, p, rfl, _⟩ := h; rfl
  obtain ⟨a, dx, z, p, rfl, ha, hp, hz, q, x⟩ := h
  refine ⟨_, (@pss_cons _ _ _ _ _ (ps_if (pt_cmpR op_eq (PE1.pe (pe1_meth0 (k := 8) (pv 0) T.cl (MeV.mono M_Strip_sign_ahead (by decide)) hr rfl) throws0) pe_str (nomark _)) (pss_one (ps_ret (PE1.pe (pe1_cal G_clash_from (k := 8) hr (by decide) rfl rfl (pa_c (pv 0) pa_nil)) throws0))) pss_nil)
      (pss_one (ps_ret (PE1.pe (pe1_meth0 (k := 8) (pv 0) T.cl (MeV.mono M_Strip_take_plain (by decide)) hr rfl) throws0)))), ?_⟩
  refine rd_start (σ := [some (.ref a)]) rfl ?_
  have hsz : z.length ≤ sizeLine := Nat.le_trans hz (by decide)
  walk_at "rd"
  unfold valueAt at q x
  refine rd_m rfl ha rfl ⟨a, dx, z, p, rfl, ha, hsz, rfl, ?_⟩
  by_cases h : cutZ z p 1 = Str.ofString "c"
  · rw [if_pos (by rw [h])]
    rw [if_pos h] at q x
    exact ⟨_, rfl, a, dx, z, p, rfl, ha, hp, hz, q, x⟩
  · rw [if_neg (fun e => h (V.str.inj e))]
    rw [if_neg h] at q x
    refine rd_m rfl ha rfl ⟨a, dx, z, p, rfl, ha, hp, hz, fun v p1 H1 r s1 k1 => ?_, fun p' H1 r s1 k1 n => ?_⟩
    · rw [r] at q
      exact q _ _ _ _ rfl s1 k1 rfl
    · rw [r] at x
      exact x _ _ rfl s1 k1 (fun z => by cases z)
seal PE PT PW PA PS PSs PI PG PIfs PGs PO in
theorem ok_Strip_take_value {P : Program} {w : World} {K : PySem.W.Frag} {mg : Str → Option Value} {base : Heap} {C CE CT : Addr} {f : Addr} {fd : FuncData} (Z : Zs mg) (T : Tx K mg C CE CT) (M_Strip_take_by : ∀ k, MeV P w K mg base (k + 1) C "take_by" (sp_Strip_take_by P w K mg base C CE k)) (G_value_from : Cal1 P w K mg base 9 "value_from" ["strip"] (sp_value_from K C CE)) (F : Fun K "take_value" "Strip.take_value" s_Strip_take_value f fd) : FnOk P w K mg base (CX1 P w) 11 f fd ["self"] (sp_Strip_take_value K C CE) := by
  refine F.ok1 sc_Strip_take_value (fun vs H Q E h => ?_) (fun cdv A outer s H vs Q E hr h => ?_)
  · obtain ⟨a, dx, z, p, rfl, _⟩ := h; rfl
  obtain ⟨a, dx, z, p, rfl, ha, hp, hz, q, x⟩ := h
  obtain ⟨f_, fd_, Ff, bf, kf, m_value_from⟩ := G_value_from
  refine ⟨_, (pss_one (ps_ret (PE1.pe (pe1_meth (k := 10) (pv 0) T.cl (MeV.mono (M_Strip_take_by 9) (by decide)) hr rfl (pa_c (pe_gfn m_value_from rfl) pa_nil)) throws0))), ?_⟩
  refine rd_start (σ := [some (.ref a)]) rfl ?_
  walk_at "rd"
  refine rd_m rfl ha rfl ⟨a, dx, f_, z, p, 1, sp_value_from K C CE, rfl, ha, ⟨fd_, _, Ff, bf, kf, rfl⟩, FromV.mono, a, dx, z, p, rfl, ha, hp, hz, q, fun p' H' r s k _ => ⟨rfl, ⟨p', k⟩, x p _ r (s.trans sameX_upd) upd_same fun _ => rfl⟩⟩
theorem two {P : V → Prop} {a b : V} (ha : P a) (hb : P b) : ∀ u ∈ [a, b], P u := fun u hu => by
  simp only [List.mem_cons, List.not_mem_nil, or_false] at hu
  rcases hu with rfl | rfl
  · exact ha
  · exact hb
theorem whole_ge {z : Str} {p n p1 : Nat} (h : wholeAt z p = some (n, p1)) : p ≤ p1 := by
  unfold wholeAt at h
  split at h
  · cases h; omega
  · cases h
theorem minus_ge {z : Str} {p p1 : Nat} {v : V} (h : minusAt z p = some (v, p1)) : p ≤ p1 := by
  unfold minusAt at h
  split at h
  · split at h
    · rename_i n p2 hw
      have := whole_ge hw
      split at h
      · cases h
      · cases h; omega
    · cases h
  · cases h
theorem text_ge {z : Str} {p p1 : Nat} {v : V} (h : textAt z p = some (v, p1)) : p ≤ p1 := by
  unfold textAt at h
  split at h
  · split at h
    · rename_i n p2 hw
      have := whole_ge hw
      split at h
      · split at h
        · split at h
          · cases h; omega
          · cases h
        · cases h
      · cases h
    · cases h
  · cases h
theorem plain_ge {z : Str} {p p1 : Nat} {v : V} (h : plainAt z p = some (v, p1)) : p ≤ p1 := by
  unfold plainAt at h
  split at h
  · cases h; omega
  · split at h
    · exact minus_ge h
    · split at h
      · exact text_ge h
      · split at h
        · rename_i hw; cases h; exact whole_ge hw
        · cases h
theorem nows0 (z : Str) (p : Nat) : nowsAt z 0 p = some ([], p) := rfl
theorem nowsS (z : Str) (k p : Nat) : nowsAt z (k + 1) p = if cutZ z p 1 = Str.ofString " " then
      (match plainAt z (p + 1) with
      | some (v, p1) => (match nowsAt z k p1 with
        | some (vs, p2) => some (v :: vs, p2)
        | none => none)
      | none => none) else none := rfl
theorem SameX.updL {a D : Addr} {H H' : Hp} (s : SameX a H H') (h : H D = none) (o : HO) : SameX a H (upd H' D o) := fun b u n e => by
  rw [upd_ne (ne_of_none e h)]; exact s b u n e
theorem SameX.none_of {a D : Addr} {H H' : Hp} (s : SameX a H H') (hD : D ≠ a) (h : H' D = none) : H D = none := by
  cases q : H D with
  | none => rfl
  | some o => rw [s D o hD q] at h; cases h
/-- what is left to read gives the whole -/
def Left (z : Str) (n p2 : Nat) (us : List V) (p' : Nat) : Prop := match nowsAt z (n - us.length) p' with
  | some (vs, p3) => nowsAt z n p2 = some (us ++ vs, p3)
  | none => nowsAt z n p2 = none
theorem Left.stop {z : Str} {n p2 p' : Nat} {us : List V} (l : Left z n p2 us p') (h : us.length < n) (hn : ¬ cutZ z p' 1 = Str.ofString " " ∨ plainAt z (p' + 1) = none) : nowsAt z n p2 = none := by
  obtain ⟨k, hk⟩ : ∃ k, n - us.length = k + 1 := ⟨n - us.length - 1, by omega⟩
  unfold Left at l
  rw [hk] at l
  have : nowsAt z (k + 1) p' = none := by
    rw [nowsS]
    rcases hn with hn | hn
    · rw [if_neg hn]
    · rw [hn]; split <;> rfl
  rw [this] at l
  exact l
theorem Left.go {z : Str} {n p2 p' p1 : Nat} {us : List V} {v : V} (l : Left z n p2 us p') (h : us.length < n) (hc : cutZ z p' 1 = Str.ofString " ") (hv : plainAt z (p' + 1) = some (v, p1)) : Left z n p2 (us ++ [v]) p1 := by
  obtain ⟨k, hk⟩ : ∃ k, n - us.length = k + 1 := ⟨n - us.length - 1, by omega⟩
  unfold Left at l ⊢
  rw [hk] at l
  rw [show n - (us ++ [v]).length = k by rw [List.length_append, List.length_singleton]; omega]
  rw [nowsS, if_pos hc, hv] at l
  dsimp only at l
  cases e : nowsAt z k p1 with
  | none => rw [e] at l; exact l
  | some r => obtain ⟨vs, p3⟩ := r; rw [e] at l; simpa using l
seal PE PT PW PA PS PSs PI PG PIfs PGs PO in
theorem ok_clash_from {P : Program} {w : World} {K : PySem.W.Frag} {mg : Str → Option Value} {base : Heap} {C CE CT : Addr} {f : Addr} {fd : FuncData} (Z : Zs mg) (T : Tx K mg C CE CT) (G_is_clash : Cal P w K mg base 5 "is_clash" ["thing"] (sp_is_clash K)) (M_Strip_take_sign : MeV P w K mg base 2 C "take_sign" (sp_Strip_take_sign K C CE)) (M_Strip_take_whole : MeV P w K mg base 2 C "take_whole" (sp_Strip_take_whole K C CE)) (M_Strip_take_plain : MeV P w K mg base 7 C "take_plain" (sp_Strip_take_plain K C CE)) (F : Fun K "clash_from" "clash_from" s_clash_from f fd) : FnOk P w K mg base (CX1 P w) 8 f fd ["strip"] (sp_clash_from K C CE) := by
  refine F.ok1 sc_clash_from (fun vs H Q E h => ?_) (fun cdv A outer s H vs Q E hr h => ?_)
  · obtain ⟨a, dx, z, p, rfl, _⟩ := h; rfl
  obtain ⟨a, dx, z, p, rfl, ha, hp, hz, q, x⟩ := h
  refine ⟨_, (@pss_cons _ _ _ _ _ (ps_expr (PE1.pe (pe1_meth (k := 7) (pv 0) T.cl (MeV.mono M_Strip_take_sign (by decide)) hr rfl (pa_c pe_str pa_nil)) throws0))
      (@pss_cons _ _ _ _ _ (ps_set (i := 1) sc_clash_from.nd rfl (Or.inl rfl) (PE1.pe (pe1_meth0 (k := 7) (pv 0) T.cl (MeV.mono M_Strip_take_whole (by decide)) hr rfl) throws0))
      (@pss_cons _ _ _ _ _ (ps_expr (PE1.pe (pe1_meth (k := 7) (pv 0) T.cl (MeV.mono M_Strip_take_sign (by decide)) hr rfl (pa_c pe_str pa_nil)) throws0))
      (@pss_cons _ _ _ _ _ (ps_set (i := 2) sc_clash_from.nd rfl (Or.inl rfl) (PE1.pe (pe1_meth0 (k := 7) (pv 0) T.cl (MeV.mono M_Strip_take_plain (by decide)) hr rfl) throws0))
      (@pss_cons _ _ _ _ _ (ps_set (i := 3) sc_clash_from.nd rfl (Or.inl rfl) (pe_lst pa_nil))
      (@pss_cons _ _ _ _ _ (ps_while own1 (pt_cmpR op_lt (pe_callB call_len_seq rfl (Z.len) bo_len (pa_c (pv 3) pa_nil)) (pv 1) (nomark _)) (@pss_cons _ _ _ _ _ (ps_expr (PE1.pe (pe1_meth (k := 7) (pv 0) T.cl (MeV.mono M_Strip_take_sign (by decide)) hr rfl (pa_c pe_str pa_nil)) throws0))
      (pss_one (ps_expr (pe_bm PySem.F.plainAttrs_list PySem.F.slot_list_append PySem.F.type_list_append mt_append (pv 3) (pa_c (PE1.pe (pe1_meth0 (k := 7) (pv 0) T.cl (MeV.mono M_Strip_take_plain (by decide)) hr rfl) throws0) pa_nil))))))
      (@pss_cons _ _ _ _ _ (ps_set (i := 4) sc_clash_from.nd rfl (Or.inl rfl) (pe_tup (pa_c (pv 2) (pa_c (pe_callTy call_tuple_of rfl (Z.tuple) bo_tuple (pa_c (pv 3) pa_nil)) pa_nil))))
      (@pss_cons _ _ _ _ _ (ps_if (pt_not (pt_val (pe_cal G_is_clash (k := 7) hr (by decide) rfl (pa_c (pv 4) pa_nil)) (fun _ => rfl))) (pss_one (ps_raise0 throws0 rfl rfl rfl T.mgE T.ex PySem.F.excBase_ValueError)) pss_nil)
      (pss_one (ps_ret (pv 4))))))))))), ?_⟩
  refine rd_start (σ := [some (.ref a), none, none, none, none]) rfl ?_
  have hsz : z.length ≤ sizeLine := Nat.le_trans hz (by decide)
  have e1 : Str.ofString "c" = ⟨#[99]⟩ := by decide
  have e2 : Str.ofString " " = ⟨#[32]⟩ := by decide
  walk_at "rd"
  refine rd_m rfl ha rfl ⟨a, dx, z, _, p, rfl, ha, hsz, ?_⟩
  unfold clashAt at q x
  by_cases h : cutZ z p 1 = Str.ofString "c"
  · rw [if_pos h] at q x ⊢
    have hp1 : p + 1 ≤ z.length := cut1_lt (c := 99) (by rw [← e1]; exact h)
    refine rd_m rfl upd_same rfl ⟨a, dx, z, p + 1, rfl, upd_same, hp1, hz, ?_⟩
    rw [upd_upd]
    by_cases hw : wholeOk (runL z (p + 1) 48 57) = true
    · rw [if_pos hw]
      have hle := whole_le hp1 (whole_yes hw)
      rw [whole_yes hw] at q x
      generalize NumText.digitsVal (runL z (p + 1) 48 57) = n at q x ⊢
      generalize p + 1 + (runL z (p + 1) 48 57).length = p1 at q x hle ⊢
      dsimp only at q x
      refine rd_m rfl upd_same rfl ⟨a, dx, z, _, p1, rfl, upd_same, hsz, ?_⟩
      rw [upd_upd]
      by_cases h2 : cutZ z p1 1 = Str.ofString " "
      · rw [if_pos h2] at q x ⊢
        have hp2 : p1 + 1 ≤ z.length := cut1_lt (c := 32) (by rw [← e2]; exact h2)
        refine rd_m rfl upd_same rfl ⟨a, dx, z, p1 + 1, rfl, upd_same, hp2, hz, fun was p2 H2 r2 s2 k2 => ?_, fun p' H2 r2 s2 k2 _ => ?_⟩
        · rw [r2] at q x
          dsimp only at q x
          have fl := plain_flat r2 hp2 hz
          have s02 : SameX a H H2 := sameX_upd.trans s2
          refine ⟨by decide, fun D hD => ?_⟩
          have hDa : D ≠ a := (ne_of_none k2 hD).symm
          have hHD : H D = none := s02.none_of hDa hD
          refine ⟨fun m σ' H' => ∃ (us : List V) (p' : Nat), m = z.length - p' ∧ σ' = [some (V.ref a), some (V.int (n : Nat)), some was, some (V.ref D), none] ∧ H' a = some (stripO C dx z p') ∧ H' D = some (.lst us) ∧ SameX a H H' ∧ p' ≤ z.length ∧ us.length ≤ n ∧ us.length ≤ p' ∧ Left z n p2 us p' ∧ ∀ u ∈ us, flatG u, ⟨_, [], p2, rfl, rfl, ?_, upd_same, s02.updL hHD _, fl.2, Nat.zero_le _, Nat.zero_le _, ?_, fun u hu => by cases hu⟩, ?_⟩
          · rw [upd_ne (Ne.symm hDa)]; exact k2
          · unfold Left
            show (match nowsAt z n p2 with | some (vs, p3) => nowsAt z n p2 = some ([] ++ vs, p3) | none => nowsAt z n p2 = none)
            cases e : nowsAt z n p2 with
            | none => rfl
            | some r => rfl
          rintro m σ' H' ⟨us, p', rfl, rfl, ka, kD, sH, hp', hn', hb, lf, fu⟩
          walk_at "rd"
          refine ⟨us, .inl (SqL.of kD), ?_⟩
          by_cases hlt : (us.length : Int) < (n : Int)
          · rw [if_pos hlt]
            have hlt' : us.length < n := by omega
            refine ⟨fun σ2 H2' => ∃ (us2 : List V) (q2 : Nat), q2 > p' ∧ σ2 = [some (V.ref a), some (V.int (n : Nat)), some was, some (V.ref D), none] ∧ H2' a = some (stripO C dx z q2) ∧ H2' D = some (.lst us2) ∧ SameX a H H2' ∧ q2 ≤ z.length ∧ us2.length ≤ n ∧ us2.length ≤ q2 ∧ Left z n p2 us2 q2 ∧ ∀ u ∈ us2, flatG u, fun σ2 H2' ⟨us2, q2, g, a1, a2, a3, a4, a5, a6, a7, a8, a9⟩ => ⟨_, by omega, us2, q2, rfl, a1, a2, a3, a4, a5, a6, a7, a8, a9⟩, ?_⟩
            refine rd_m rfl ka rfl ⟨a, dx, z, _, p', rfl, ka, hsz, ?_⟩
            by_cases hc : cutZ z p' 1 = Str.ofString " "
            · rw [if_pos hc]
              have hq : p' + 1 ≤ z.length := cut1_lt (c := 32) (by rw [← e2]; exact hc)
              have kD' : upd H' a (stripO C dx z (p' + 1)) D = some (.lst us) := by rw [upd_ne hDa]; exact kD
              refine ⟨.inl ⟨rfl, _, SqL.of kD'⟩, rd_m rfl upd_same rfl ⟨a, dx, z, p' + 1, rfl, upd_same, hq, hz, fun v q1 H3 r3 s3 k3 => ?_, fun q1 H3 r3 s3 k3 _ => ?_⟩⟩
              · have f3 := plain_flat r3 hq hz
                have g3 := plain_ge r3
                have h3D := s3 _ _ hDa kD'
                refine ⟨us, h3D, Nat.lt_of_le_of_lt (show us.length ≤ 100000 by omega) (by decide), us ++ [v], q1, by omega, rfl, by rw [upd_ne (Ne.symm hDa)]; exact k3, upd_same, ((sH.trans sameX_upd).trans s3).updL hHD _, f3.2, by rw [List.length_append, List.length_singleton]; omega, by rw [List.length_append, List.length_singleton]; omega, lf.go hlt' hc r3, fun u hu => ?_⟩
                rcases List.mem_append.mp hu with e | e
                · exact fu u e
                · rw [List.mem_singleton.mp e]; exact f3.1
              · rw [lf.stop hlt' (.inr r3)] at x
                exact x _ _ rfl ((sH.trans sameX_upd).trans s3) k3 (fun z => by cases z)
            · rw [if_neg hc]
              rw [lf.stop hlt' (.inl hc)] at x
              exact x _ _ rfl sH ka (fun z => by cases z)
          · rw [if_neg hlt]
            have hnn : n - us.length = 0 := by omega
            have ln : nowsAt z n p2 = some (us, p') := by
              unfold Left at lf
              rw [hnn] at lf
              rw [nows0] at lf
              simpa using lf
            rw [ln] at q x
            dsimp only at q x
            refine ⟨us, .inl ⟨SqL.of kD, fun l hl => ⟨small_le' (by simp), fun t ht => ?_⟩⟩⟩
            have sl := same_upd hl (.tup us)
            have st := same_upd ht (.tup [was, V.ref l])
            have tl : upd (upd H' l (.tup us)) t (.tup [was, V.ref l]) l = some (.tup us) := st _ _ upd_same
            have tt : upd (upd H' l (.tup us)) t (.tup [was, V.ref l]) t = some (.tup [was, V.ref l]) := upd_same
            have sa := (sl.trans st) _ _ ka
            have sx : SameX a H (upd (upd H' l (.tup us)) t (.tup [was, V.ref l])) := sH.trans (same_x (sl.trans st))
            generalize upd (upd H' l (.tup us)) t (.tup [was, V.ref l]) = G at *
            have ec : clashB G (.ref t) = (plainB was && (decide (2 ≤ us.length) && (us.all plainB && risingB us))) := by simp only [clashB, nowsB, tt, tl]
            refine ⟨_, rfl, TT.ofT tt (by simp) (two (TT.flat fl.1) (TT.ofT tl (by omega) fun u hu => TT.flat (fu u hu))), fun G2 s2 => ⟨_, rfl, ?_⟩⟩
            rw [ec]
            cases hq : plainB was && (decide (2 ≤ us.length) && (us.all plainB && risingB us)) with
            | true =>
              rw [if_neg (fun z => by cases z)]
              rw [hq] at q
              exact q (.c was us) _ _ _ (by rw [if_pos rfl]) (sx.trans (same_x s2)) (s2 _ _ sa) ⟨t, l, rfl, s2 _ _ tt, s2 _ _ tl⟩
            | false =>
              rw [if_pos rfl]
              rw [hq] at x
              exact x _ _ (by rw [if_neg Bool.false_ne_true]) (sx.trans (same_x s2)) (s2 _ _ sa) (fun z => by cases z)
        · rw [r2] at x
          exact x _ _ rfl (sameX_upd.trans s2) k2 (fun z => by cases z)
      · rw [if_neg h2] at q x ⊢
        exact x _ _ rfl sameX_upd upd_same (fun z => by cases z)
    · rw [if_neg hw]
      rw [whole_no hw] at q x
      exact x _ _ rfl sameX_upd upd_same (fun z => by cases z)
  · rw [if_neg h] at q x ⊢
    exact x p H rfl (SameX.refl _ _) ha fun _ => rfl
--@SPLIT
/-! ### what is read, reckoned over the signs that lie ahead -/
def ls (s : String) : List Nat := s.toList.map Char.toNat
def At (z : Str) (p : Nat) (L : List Nat) : Prop := z.cps.toList.drop p = L ∧ p ≤ z.length
theorem z_len (z : Str) : z.cps.toList.length = z.length := by simp [Str.length]
theorem At.len {z : Str} {p : Nat} {L : List Nat} (h : At z p L) : p + L.length = z.length := by
  have := congrArg List.length h.1
  rw [List.length_drop, z_len] at this
  have := h.2
  omega
theorem At.app {z : Str} {p : Nat} {A L : List Nat} (h : At z p (A ++ L)) : At z (p + A.length) L := by
  have e := h.len
  rw [List.length_append] at e
  refine ⟨?_, by omega⟩
  rw [← List.drop_drop, h.1, List.drop_left]
theorem At.tail {z : Str} {p : Nat} {c : Nat} {L : List Nat} (h : At z p (c :: L)) : At z (p + 1) L := At.app (A := [c]) h
theorem At.drop {z : Str} {p n : Nat} {L : List Nat} (h : At z p L) (hn : n ≤ L.length) : At z (p + n) (L.drop n) := by
  have h' : At z p (L.take n ++ L.drop n) := by rw [List.take_append_drop]; exact h
  have := h'.app
  rwa [List.length_take, Nat.min_eq_left hn] at this
theorem At.cut {z : Str} {p n : Nat} {L : List Nat} (h : At z p L) : cutZ z p n = ⟨(L.take n).toArray⟩ := by unfold cutZ; rw [h.1]
theorem At.cut1 {z : Str} {p c : Nat} {L : List Nat} (h : At z p L) : cutZ z p 1 = ⟨#[c]⟩ ↔ L.head? = some c := by
  rw [h.cut]
  cases L with
  | nil => simp
  | cons a r => simp
theorem At.run {z : Str} {p lo hi : Nat} {L : List Nat} (h : At z p L) : runL z p lo hi = L.takeWhile (inR lo hi) := by unfold runL; rw [h.1]
theorem At.start (z : Str) : At z 0 z.cps.toList := ⟨rfl, Nat.zero_le _⟩
theorem tail_of_head {L : List Nat} {c : Nat} (h : L.head? = some c) : L = c :: L.tail := by
  cases L with
  | nil => cases h
  | cons a r => cases h; rfl
abbrev fig : Nat → Bool := inR 48 57
abbrev low : Nat → Bool := inR 97 122
def wholeL (L : List Nat) : Option (Nat × List Nat) := if wholeOk (L.takeWhile fig) = true then some (NumText.digitsVal (L.takeWhile fig), L.drop (L.takeWhile fig).length) else none
def minusL (L : List Nat) : Option (V × List Nat) := if L.head? = some 45 then
    (match wholeL L.tail with
    | some (n, L1) => if n = 0 then none else some (.int (-(n : Nat)), L1)
    | none => none) else none
def textL (L : List Nat) : Option (V × List Nat) := if L.head? = some 116 then
    (match wholeL L.tail with
    | some (n, L1) => if L1.head? = some 58 then (if n ≤ L1.tail.length then (if plainB (.str ⟨(L1.tail.take n).toArray⟩) = true then some (.str ⟨(L1.tail.take n).toArray⟩, L1.tail.drop n) else none) else none) else none
    | none => none) else none
def plainL (L : List Nat) : Option (V × List Nat) :=
  if L.head? = some 126 then some (.non, L.tail)
  else if L.head? = some 45 then minusL L
  else if L.head? = some 116 then textL L
  else match wholeL L with
    | some (n, L1) => some (.int (n : Nat), L1)
    | none => none
def keyL (L : List Nat) : Option (V × List Nat) := match plainL L with
  | some (v, L1) => if (numB v || textB 1 v) = true then some (v, L1) else none
  | none => none
def nowsL : Nat → List Nat → Option (List V × List Nat)
  | 0, L => some ([], L)
  | k + 1, L => if L.head? = some 32 then
      (match plainL L.tail with
      | some (v, L1) => (match nowsL k L1 with
        | some (vs, L2) => some (v :: vs, L2)
        | none => none)
      | none => none) else none
def clashL (L : List Nat) : Option (Rv × List Nat) := if L.head? = some 99 then
    (match wholeL L.tail with
    | some (n, L1) => if L1.head? = some 32 then
        (match plainL L1.tail with
        | some (was, L2) => (match nowsL n L2 with
          | some (nows, L3) => if (plainB was && (decide (2 ≤ nows.length) && (nows.all plainB && risingB nows))) = true then some (.c was nows, L3) else none
          | none => none)
        | none => none) else none
    | none => none) else none
def valueL (L : List Nat) : Option (Rv × List Nat) := if L.head? = some 99 then clashL L else
  match plainL L with
  | some (v, L1) => some (.p v, L1)
  | none => none
/-- read at a place, and read of the signs ahead: the same -/
def Br {α : Type} (z : Str) (a : Option (α × Nat)) (b : Option (α × List Nat)) : Prop := match b with
  | some (r, L) => ∃ p, a = some (r, p) ∧ At z p L
  | none => a = none
theorem run_le (q : Nat → Bool) (L : List Nat) : (L.takeWhile q).length ≤ L.length := (List.takeWhile_sublist _).length_le
theorem whole_br {z : Str} {p : Nat} {L : List Nat} (h : At z p L) : Br z (wholeAt z p) (wholeL L) := by
  unfold wholeAt wholeL
  rw [h.run]
  by_cases hw : wholeOk (L.takeWhile (inR 48 57)) = true
  · rw [if_pos hw, if_pos hw]
    exact ⟨_, rfl, h.drop (run_le _ _)⟩
  · rw [if_neg hw, if_neg hw]; rfl
theorem At.of_head {z : Str} {p c : Nat} {L : List Nat} (h : At z p L) (e : L.head? = some c) : At z (p + 1) L.tail := by
  rw [tail_of_head e] at h; exact h.tail
theorem minus_br {z : Str} {p : Nat} {L : List Nat} (h : At z p L) : Br z (minusAt z p) (minusL L) := by
  unfold minusAt minusL
  rw [show Str.ofString "-" = ⟨#[45]⟩ by decide]
  by_cases hc : L.head? = some 45
  · rw [if_pos hc, if_pos (h.cut1.mpr hc)]
    have b := whole_br (h.of_head hc)
    cases e : wholeL L.tail with
    | none => rw [e] at b; rw [show wholeAt z (p + 1) = none from b]; rfl
    | some r =>
      obtain ⟨n, L1⟩ := r
      rw [e] at b
      obtain ⟨p1, e1, a1⟩ := b
      rw [e1]
      dsimp only
      by_cases h0 : n = 0
      · rw [if_pos h0, if_pos h0]; rfl
      · rw [if_neg h0, if_neg h0]; exact ⟨_, rfl, a1⟩
  · rw [if_neg hc, if_neg (fun e => hc (h.cut1.mp e))]; rfl
theorem text_br {z : Str} {p : Nat} {L : List Nat} (h : At z p L) : Br z (textAt z p) (textL L) := by
  unfold textAt textL
  rw [show Str.ofString "t" = ⟨#[116]⟩ by decide, show Str.ofString ":" = ⟨#[58]⟩ by decide]
  by_cases hc : L.head? = some 116
  · rw [if_pos hc, if_pos (h.cut1.mpr hc)]
    have b := whole_br (h.of_head hc)
    cases e : wholeL L.tail with
    | none => rw [e] at b; rw [show wholeAt z (p + 1) = none from b]; rfl
    | some r =>
      obtain ⟨n, L1⟩ := r
      rw [e] at b
      obtain ⟨p1, e1, a1⟩ := b
      rw [e1]
      dsimp only
      by_cases h2 : L1.head? = some 58
      · rw [if_pos h2, if_pos (a1.cut1.mpr h2)]
        have a2 := a1.of_head h2
        have l2 := a2.len
        by_cases h3 : n ≤ L1.tail.length
        · rw [if_pos h3, if_pos (by omega), a2.cut]
          by_cases h4 : plainB (.str ⟨(L1.tail.take n).toArray⟩) = true
          · rw [if_pos h4, if_pos h4]; exact ⟨_, rfl, a2.drop h3⟩
          · rw [if_neg h4, if_neg h4]; rfl
        · rw [if_neg h3, if_neg (by omega)]; rfl
      · rw [if_neg h2, if_neg (fun e => h2 (a1.cut1.mp e))]; rfl
  · rw [if_neg hc, if_neg (fun e => hc (h.cut1.mp e))]; rfl
theorem plain_br {z : Str} {p : Nat} {L : List Nat} (h : At z p L) : Br z (plainAt z p) (plainL L) := by
  unfold plainAt plainL
  rw [show Str.ofString "-" = ⟨#[45]⟩ by decide, show Str.ofString "t" = ⟨#[116]⟩ by decide, show Str.ofString "~" = ⟨#[126]⟩ by decide]
  by_cases h1 : L.head? = some 126
  · rw [if_pos h1, if_pos (h.cut1.mpr h1)]; exact ⟨_, rfl, h.of_head h1⟩
  rw [if_neg h1, if_neg (fun e => h1 (h.cut1.mp e))]
  by_cases h2 : L.head? = some 45
  · rw [if_pos h2, if_pos (h.cut1.mpr h2)]; exact minus_br h
  rw [if_neg h2, if_neg (fun e => h2 (h.cut1.mp e))]
  by_cases h3 : L.head? = some 116
  · rw [if_pos h3, if_pos (h.cut1.mpr h3)]; exact text_br h
  rw [if_neg h3, if_neg (fun e => h3 (h.cut1.mp e))]
  have b := whole_br h
  cases e : wholeL L with
  | none => rw [e] at b; rw [show wholeAt z p = none from b]; rfl
  | some r =>
    obtain ⟨n, L1⟩ := r
    rw [e] at b
    obtain ⟨p1, e1, a1⟩ := b
    rw [e1]
    exact ⟨_, rfl, a1⟩
theorem key_br {z : Str} {p : Nat} {L : List Nat} (h : At z p L) : Br z (keyAt z p) (keyL L) := by
  unfold keyAt keyL
  have b := plain_br h
  cases e : plainL L with
  | none => rw [e] at b; rw [show plainAt z p = none from b]; rfl
  | some r =>
    obtain ⟨v, L1⟩ := r
    rw [e] at b
    obtain ⟨p1, e1, a1⟩ := b
    rw [e1]
    dsimp only
    by_cases hk : (numB v || textB 1 v) = true
    · rw [if_pos hk, if_pos hk]; exact ⟨_, rfl, a1⟩
    · rw [if_neg hk, if_neg hk]; rfl
theorem nows_br {z : Str} : ∀ {k p : Nat} {L : List Nat}, At z p L → Br z (nowsAt z k p) (nowsL k L)
  | 0, p, L, h => ⟨p, rfl, h⟩
  | k + 1, p, L, h => by
    rw [nowsS, show Str.ofString " " = ⟨#[32]⟩ by decide]
    unfold nowsL
    by_cases h1 : L.head? = some 32
    · rw [if_pos h1, if_pos (h.cut1.mpr h1)]
      have b := plain_br (h.of_head h1)
      cases e : plainL L.tail with
      | none => rw [e] at b; rw [show plainAt z (p + 1) = none from b]; rfl
      | some r =>
        obtain ⟨v, L1⟩ := r
        rw [e] at b
        obtain ⟨p1, e1, a1⟩ := b
        rw [e1]
        dsimp only
        have b2 := nows_br (k := k) a1
        cases e2 : nowsL k L1 with
        | none => rw [e2] at b2; rw [show nowsAt z k p1 = none from b2]; rfl
        | some r =>
          obtain ⟨vs, L2⟩ := r
          rw [e2] at b2
          obtain ⟨p2, e3, a2⟩ := b2
          rw [e3]
          exact ⟨_, rfl, a2⟩
    · rw [if_neg h1, if_neg (fun e => h1 (h.cut1.mp e))]; rfl
theorem clash_br {z : Str} {p : Nat} {L : List Nat} (h : At z p L) : Br z (clashAt z p) (clashL L) := by
  unfold clashAt clashL
  rw [show Str.ofString "c" = ⟨#[99]⟩ by decide, show Str.ofString " " = ⟨#[32]⟩ by decide]
  by_cases hc : L.head? = some 99
  · rw [if_pos hc, if_pos (h.cut1.mpr hc)]
    have b := whole_br (h.of_head hc)
    cases e : wholeL L.tail with
    | none => rw [e] at b; rw [show wholeAt z (p + 1) = none from b]; rfl
    | some r =>
      obtain ⟨n, L1⟩ := r
      rw [e] at b
      obtain ⟨p1, e1, a1⟩ := b
      rw [e1]
      dsimp only
      by_cases h2 : L1.head? = some 32
      · rw [if_pos h2, if_pos (a1.cut1.mpr h2)]
        have b2 := plain_br (a1.of_head h2)
        cases e2 : plainL L1.tail with
        | none => rw [e2] at b2; rw [show plainAt z (p1 + 1) = none from b2]; rfl
        | some r =>
          obtain ⟨was, L2⟩ := r
          rw [e2] at b2
          obtain ⟨p2, e3, a2⟩ := b2
          rw [e3]
          dsimp only
          have b3 := nows_br (k := n) a2
          cases e4 : nowsL n L2 with
          | none => rw [e4] at b3; rw [show nowsAt z n p2 = none from b3]; rfl
          | some r =>
            obtain ⟨nows, L3⟩ := r
            rw [e4] at b3
            obtain ⟨p3, e5, a3⟩ := b3
            rw [e5]
            dsimp only
            by_cases hk : (plainB was && (decide (2 ≤ nows.length) && (nows.all plainB && risingB nows))) = true
            · rw [if_pos hk, if_pos hk]; exact ⟨_, rfl, a3⟩
            · rw [if_neg hk, if_neg hk]; rfl
      · rw [if_neg h2, if_neg (fun e => h2 (a1.cut1.mp e))]; rfl
  · rw [if_neg hc, if_neg (fun e => hc (h.cut1.mp e))]; rfl
theorem value_br {z : Str} {p : Nat} {L : List Nat} (h : At z p L) : Br z (valueAt z p) (valueL L) := by
  unfold valueAt valueL
  rw [show Str.ofString "c" = ⟨#[99]⟩ by decide]
  by_cases hc : L.head? = some 99
  · rw [if_pos hc, if_pos (h.cut1.mpr hc)]; exact clash_br h
  rw [if_neg hc, if_neg (fun e => hc (h.cut1.mp e))]
  have b := plain_br h
  cases e : plainL L with
  | none => rw [e] at b; rw [show plainAt z p = none from b]; rfl
  | some r =>
    obtain ⟨v, L1⟩ := r
    rw [e] at b
    obtain ⟨p1, e1, a1⟩ := b
    rw [e1]
    exact ⟨_, rfl, a1⟩
/-! ### runs of figures -/
theorem tw_app {q : Nat → Bool} : ∀ {A R : List Nat}, (∀ c ∈ A, q c = true) → (∀ c, R.head? = some c → q c = false) → (A ++ R).takeWhile q = A
  | [], R, _, h => by
    cases R with
    | nil => rfl
    | cons c r => rw [List.nil_append, List.takeWhile_cons, h c rfl, if_neg Bool.false_ne_true]
  | a :: A, R, h, hr => by
    rw [List.cons_append, List.takeWhile_cons, h a List.mem_cons_self, if_pos rfl, tw_app (fun c hc => h c (List.mem_cons_of_mem _ hc)) hr]
theorem wholeL_app {A R : List Nat} (h : ∀ c ∈ A, fig c = true) (hr : ∀ c, R.head? = some c → fig c = false) : wholeL (A ++ R) = if wholeOk A = true then some (NumText.digitsVal A, R) else none := by
  unfold wholeL
  rw [tw_app h hr, List.drop_left]
theorem wholeL_not {L : List Nat} (h : ∀ c, L.head? = some c → fig c = false) : wholeL L = none := by
  have := wholeL_app (A := []) (R := L) (fun c hc => by cases hc) h
  rw [List.nil_append] at this
  rw [this]; rfl
theorem nd_fig : ∀ (m : Nat), ∀ c ∈ nd m, fig c = true := fun m => by
  induction m using Nat.strongRecOn with
  | _ m ih =>
    intro c hc
    by_cases h : m < 10
    · rw [nd_small h] at hc
      rw [List.mem_singleton.mp hc]
      exact decide_eq_true (by omega)
    · rw [nd_step (by omega)] at hc
      rcases List.mem_append.mp hc with e | e
      · exact ih _ (by omega) c e
      · rw [List.mem_singleton.mp e]
        exact decide_eq_true (by omega)
theorem nd_head : ∀ (m : Nat), 10 ≤ m → ∃ c r, nd m = c :: r ∧ 49 ≤ c := fun m => by
  induction m using Nat.strongRecOn with
  | _ m ih =>
    intro h
    rw [nd_step h]
    by_cases h2 : m / 10 < 10
    · rw [nd_small h2]
      exact ⟨48 + m / 10, [48 + m % 10], rfl, by omega⟩
    · obtain ⟨c, r, e, hc⟩ := ih (m / 10) (by omega) (by omega)
      rw [e]
      exact ⟨c, r ++ [48 + m % 10], rfl, hc⟩
theorem nd_ne (m : Nat) : 1 ≤ (nd m).length := by
  by_cases h : m < 10
  · rw [nd_small h]; exact Nat.le_refl _
  · rw [nd_step (by omega), List.length_append, List.length_singleton]; omega
theorem nd_ok {m : Nat} (h : m < 10 ^ 30) : wholeOk (nd m) = true := by
  have l := nd_len 29 m h
  have n := nd_ne m
  unfold wholeOk
  rw [decide_eq_true (show 1 ≤ (nd m).length ∧ (nd m).length ≤ 30 from ⟨n, l⟩), Bool.true_and]
  by_cases hm : m < 10
  · rw [nd_small hm]; rfl
  · obtain ⟨c, r, e, hc⟩ := nd_head m (by omega)
    rw [e]
    have : ((c :: r).head? == some 48) = false := by
      rw [List.head?_cons]
      simp; omega
    rw [this, Bool.and_false]; rfl
theorem nd_val (m : Nat) : NumText.digitsVal (nd m) = m := PySem.W.KIN.val_back m
theorem nd_read {m : Nat} {R : List Nat} (h : m < 10 ^ 30) (hr : ∀ c, R.head? = some c → fig c = false) : wholeL (nd m ++ R) = some (m, R) := by
  rw [wholeL_app (nd_fig m) hr, if_pos (nd_ok h), nd_val]
theorem nd_lt : ∀ (k m : Nat), 10 ^ k ≤ m → k + 1 ≤ (nd m).length
  | 0, m, _ => nd_ne m
  | k + 1, m, h => by
    have h1 : 10 ≤ m := Nat.le_trans (Nat.le_trans (by decide) (Nat.pow_le_pow_right (n := 10) (i := 1) (by decide) (by omega))) h
    have := nd_lt k (m / 10) (by rw [Nat.le_div_iff_mul_le (by decide)]; rw [Nat.pow_succ] at h; exact h)
    rw [nd_step h1, List.length_append, List.length_singleton]; omega
/-! ### what is written is read -/
def shL : V → List Nat
  | .non => [126]
  | .int i => if i < 0 then 45 :: nd i.natAbs else nd i.natAbs
  | .str z => 116 :: (nd z.length ++ 58 :: z.cps.toList)
  | _ => []
/-- behind a number no figure follows -/
def Stop (v : V) (R : List Nat) : Prop := (∃ i, v = .int i) → ∀ c, R.head? = some c → fig c = false
theorem nd_cons (m : Nat) : ∃ c r, nd m = c :: r ∧ 48 ≤ c ∧ c ≤ 57 := by
  have n := nd_ne m
  cases e : nd m with
  | nil => rw [e] at n; exact absurd n (by decide)
  | cons c r =>
    have := of_decide_eq_true (nd_fig m c (by rw [e]; exact List.mem_cons_self))
    exact ⟨c, r, rfl, this⟩
theorem nd_headR (m : Nat) (R : List Nat) : ∃ c, (nd m ++ R).head? = some c ∧ 48 ≤ c ∧ c ≤ 57 := by
  obtain ⟨c, r, e, h⟩ := nd_cons m
  rw [e]; exact ⟨c, rfl, h⟩
theorem whole_nd {m : Nat} {R : List Nat} (h : m < 10 ^ 30) (hr : ∀ c, R.head? = some c → fig c = false) : plainL (nd m ++ R) = some (.int (m : Nat), R) := by
  obtain ⟨c, e, h1, h2⟩ := nd_headR m R
  unfold plainL
  rw [e, if_neg (fun z => by cases z; omega), if_neg (fun z => by cases z; omega), if_neg (fun z => by cases z; omega), nd_read h hr]
theorem minus_nd {m : Nat} {R : List Nat} (h0 : 0 < m) (h : m < 10 ^ 30) (hr : ∀ c, R.head? = some c → fig c = false) : plainL (45 :: (nd m ++ R)) = some (.int (-(m : Nat)), R) := by
  unfold plainL
  rw [if_neg (by simp), if_pos (by rfl)]
  unfold minusL
  rw [if_pos (by rfl), List.tail_cons, nd_read h hr]
  dsimp only
  rw [if_neg (by omega)]
theorem text_nd {z : Str} {R : List Nat} (h : plainB (.str z) = true) : plainL (116 :: (nd z.length ++ 58 :: (z.cps.toList ++ R))) = some (.str z, R) := by
  have hz : z.length ≤ 40 := plain_of h
  unfold plainL
  rw [if_neg (by simp), if_neg (by simp), if_pos (by rfl)]
  unfold textL
  have e1 : (z.cps.toList ++ R).take z.length = z.cps.toList := by rw [← z_len, List.take_left]
  have e2 : (z.cps.toList ++ R).drop z.length = R := by rw [← z_len, List.drop_left]
  have e3 : (⟨z.cps.toList.toArray⟩ : Str) = z := by simp
  rw [if_pos (by rfl), List.tail_cons, nd_read (by omega) (fun c hc => by cases hc; decide)]
  dsimp only
  rw [if_pos (by rfl), List.tail_cons, if_pos (by rw [List.length_append, z_len]; omega), e1, e2, e3, if_pos h]
theorem plain_read {v : V} {R : List Nat} (h : plainB v = true) (hr : Stop v R) : plainL (shL v ++ R) = some (v, R) := by
  have p := plain_of h
  cases v <;> first | exact p.elim | skip
  · rfl
  · rename_i i
    have p : _ ∧ _ := p
    by_cases h0 : i < 0
    · show plainL ((if i < 0 then 45 :: nd i.natAbs else nd i.natAbs) ++ R) = _
      rw [if_pos h0, List.cons_append, minus_nd (by omega) (by omega) (hr ⟨_, rfl⟩)]
      rw [show (-((i.natAbs : Nat) : Int)) = i by omega]
    · show plainL ((if i < 0 then 45 :: nd i.natAbs else nd i.natAbs) ++ R) = _
      rw [if_neg h0, whole_nd (by omega) (hr ⟨_, rfl⟩)]
      rw [show ((i.natAbs : Nat) : Int) = i by omega]
  · rename_i z
    unfold shL
    rw [List.cons_append, List.append_assoc, List.cons_append]
    exact text_nd h
def shNs : List V → List Nat
  | [] => []
  | v :: vs => 32 :: (shL v ++ shNs vs)
theorem nows_read : ∀ {vs : List V} {R : List Nat}, (∀ v ∈ vs, plainB v = true) → (∀ v, vs.getLast? = some v → Stop v R) → nowsL vs.length (shNs vs ++ R) = some (vs, R)
  | [], R, _, _ => rfl
  | v :: vs, R, h, hr => by
    have st : Stop v (shNs vs ++ R) := fun hi => by
      cases vs with
      | nil => exact hr v rfl hi
      | cons u us => intro c hc; cases hc; decide
    have ih := nows_read (vs := vs) (R := R) (fun u hu => h u (List.mem_cons_of_mem _ hu)) (fun u hu => hr u (by
      cases vs with
      | nil => cases hu
      | cons a as => rw [List.getLast?_cons_cons]; exact hu))
    rw [List.length_cons]
    unfold nowsL
    rw [show shNs (v :: vs) ++ R = 32 :: (shL v ++ (shNs vs ++ R)) by show (32 :: (shL v ++ shNs vs)) ++ R = _; rw [List.cons_append, List.append_assoc], if_pos (by rfl), List.tail_cons, plain_read (h v List.mem_cons_self) st]
    dsimp only
    rw [ih]
def shCl (was : V) (nows : List V) : List Nat := 99 :: (nd nows.length ++ 32 :: (shL was ++ shNs nows))
theorem clash_read {was : V} {nows : List V} {R : List Nat} (hw : plainB was = true) (hl : 2 ≤ nows.length) (hm : nows.length < 10 ^ 30) (hn : ∀ v ∈ nows, plainB v = true) (hr : risingB nows = true) (st : ∀ v, nows.getLast? = some v → Stop v R) : clashL (shCl was nows ++ R) = some (.c was nows, R) := by
  unfold clashL shCl
  rw [List.cons_append, List.append_assoc, List.cons_append, List.append_assoc, if_pos (by rfl), List.tail_cons, nd_read hm (fun c hc => by cases hc; decide)]
  dsimp only
  have sw : Stop was (shNs nows ++ R) := fun _ c hc => by
    cases nows with
    | nil => exact absurd hl (by decide)
    | cons a as => cases hc; decide
  rw [if_pos (by rfl), List.tail_cons, plain_read hw sw]
  dsimp only
  rw [nows_read hn st]
  dsimp only
  rw [if_pos]
  rw [hw, decide_eq_true hl, hr, List.all_eq_true.mpr hn]; rfl

--@SPLIT
/-! ### what is read is written as it stood -/
theorem tw_split (q : Nat → Bool) (L : List Nat) : L = L.takeWhile q ++ L.drop (L.takeWhile q).length := by
  induction L with
  | nil => rfl
  | cons a L ih =>
    rw [List.takeWhile_cons]
    split
    · rw [List.length_cons, List.drop_succ_cons, List.cons_append, ← ih]
    · rfl
theorem tw_all {q : Nat → Bool} {L : List Nat} : ∀ c ∈ L.takeWhile q, q c = true := by
  induction L with
  | nil => intro c h; cases h
  | cons a L ih =>
    intro c h
    rw [List.takeWhile_cons] at h
    split at h
    · rename_i e
      rcases List.mem_cons.mp h with z | z
      · rw [z]; exact e
      · exact ih c z
    · cases h
theorem val_lt : ∀ (cs : List Nat) (a : Nat), (∀ c ∈ cs, fig c = true) → cs.foldl (fun acc c => acc * 10 + (c - 48)) a < (a + 1) * 10 ^ cs.length
  | [], a, _ => by simp
  | c :: cs, a, h => by
    have ih := val_lt cs (a * 10 + (c - 48)) fun d hd => h d (List.mem_cons_of_mem _ hd)
    have hc := of_decide_eq_true (h c List.mem_cons_self)
    rw [List.foldl_cons, List.length_cons, Nat.pow_succ]
    refine Nat.lt_of_lt_of_le ih ?_
    have : a * 10 + (c - 48) + 1 ≤ (a + 1) * 10 := by omega
    calc (a * 10 + (c - 48) + 1) * 10 ^ cs.length ≤ ((a + 1) * 10) * 10 ^ cs.length := Nat.mul_le_mul_right _ this
      _ = (a + 1) * (10 ^ cs.length * 10) := by rw [Nat.mul_assoc, Nat.mul_comm 10]
theorem nd_back {ds : List Nat} (h : ∀ c ∈ ds, fig c = true) (hw : wholeOk ds = true) : nd (NumText.digitsVal ds) = ds ∧ NumText.digitsVal ds < 10 ^ 30 := by
  unfold wholeOk at hw
  rw [Bool.and_eq_true, decide_eq_true_eq] at hw
  obtain ⟨⟨l1, l2⟩, hz⟩ := hw
  constructor
  · have hd : NumText.AllDigits ds := fun c hc => of_decide_eq_true (h c hc)
    have e := NumText.toDigits_digitsVal (ds.length - 1) ds (by omega) hd (by
      by_cases h1 : ds.length = 1
      · exact .inl (by omega)
      · right
        cases ds with
        | nil => exact absurd l1 (by decide)
        | cons c r =>
          refine ⟨c, r, rfl, ?_⟩
          have hc := of_decide_eq_true (h c List.mem_cons_self)
          have : c ≠ 48 := fun z => by
            rw [z, decide_eq_true (show 1 < (48 :: r).length by rw [z] at h1 l1; omega)] at hz
            exact absurd hz (by simp)
          omega)
    unfold nd
    rw [e, List.map_map]
    have : ∀ c ∈ ds, (Char.toNat ∘ Char.ofNat) c = c := fun c hc => by
      have := of_decide_eq_true (h c hc)
      have hv : c.isValidChar := .inl (by omega)
      show (Char.ofNat c).toNat = c
      unfold Char.ofNat
      rw [dif_pos hv]
      rfl
    calc ds.map (Char.toNat ∘ Char.ofNat) = ds.map id := List.map_congr_left this
      _ = ds := List.map_id _
  · have := val_lt ds 0 h
    refine Nat.lt_of_lt_of_le this ?_
    rw [Nat.zero_add, Nat.one_mul]
    exact Nat.pow_le_pow_right (by decide) l2
theorem whole_back {L L' : List Nat} {n : Nat} (h : wholeL L = some (n, L')) : L = nd n ++ L' ∧ n < 10 ^ 30 := by
  unfold wholeL at h
  by_cases hw : wholeOk (L.takeWhile fig) = true
  · rw [if_pos hw] at h
    have b := nd_back tw_all hw
    have e := tw_split fig L
    simp only [Option.some.injEq, Prod.mk.injEq] at h
    obtain ⟨h1, h2⟩ := h
    rw [← h1, ← h2]
    exact ⟨by rw [b.1]; exact e, b.2⟩
  · rw [if_neg hw] at h; cases h
theorem num_plain {i : Int} (h : -(10 ^ 30) < i ∧ i < 10 ^ 30) : plainB (.int i) = true := by
  have hv : numB (.int i) = true := decide_eq_true h
  show (decide _ || (numB (.int i) || _)) = true
  rw [hv]; rfl
theorem plain_back {L L' : List Nat} {v : V} (h : plainL L = some (v, L')) : plainB v = true ∧ L = shL v ++ L' := by
  unfold plainL at h
  by_cases h1 : L.head? = some 126
  · rw [if_pos h1] at h
    cases h
    exact ⟨rfl, tail_of_head h1⟩
  rw [if_neg h1] at h
  by_cases h2 : L.head? = some 45
  · rw [if_pos h2] at h
    unfold minusL at h
    rw [if_pos h2] at h
    cases e : wholeL L.tail with
    | none => rw [e] at h; cases h
    | some r =>
      obtain ⟨n, L1⟩ := r
      rw [e] at h
      dsimp only at h
      by_cases h0 : n = 0
      · rw [if_pos h0] at h; cases h
      · rw [if_neg h0] at h
        cases h
        obtain ⟨b1, b2⟩ := whole_back e
        refine ⟨num_plain ⟨by omega, by omega⟩, ?_⟩
        show L = (if -((n : Nat) : Int) < 0 then 45 :: nd (-((n : Nat) : Int)).natAbs else _) ++ L'
        rw [if_pos (by omega), show (-((n : Nat) : Int)).natAbs = n by omega, List.cons_append, ← b1]
        exact tail_of_head h2
  rw [if_neg h2] at h
  by_cases h3 : L.head? = some 116
  · rw [if_pos h3] at h
    unfold textL at h
    rw [if_pos h3] at h
    cases e : wholeL L.tail with
    | none => rw [e] at h; cases h
    | some r =>
      obtain ⟨n, L1⟩ := r
      rw [e] at h
      dsimp only at h
      by_cases h4 : L1.head? = some 58
      · rw [if_pos h4] at h
        by_cases h5 : n ≤ L1.tail.length
        · rw [if_pos h5] at h
          by_cases h6 : plainB (.str ⟨(L1.tail.take n).toArray⟩) = true
          · rw [if_pos h6] at h
            cases h
            obtain ⟨b1, b2⟩ := whole_back e
            refine ⟨h6, ?_⟩
            have el : (⟨(L1.tail.take n).toArray⟩ : Str).length = n := by
              show ((L1.tail.take n).toArray).size = n
              rw [List.size_toArray, List.length_take]; omega
            show L = 116 :: (nd (⟨(L1.tail.take n).toArray⟩ : Str).length ++ 58 :: (L1.tail.take n).toArray.toList) ++ L1.tail.drop n
            rw [el, List.toList_toArray, List.cons_append, List.append_assoc, List.cons_append, List.take_append_drop, ← tail_of_head h4, ← b1]
            exact tail_of_head h3
          · rw [if_neg h6] at h; cases h
        · rw [if_neg h5] at h; cases h
      · rw [if_neg h4] at h; cases h
  rw [if_neg h3] at h
  cases e : wholeL L with
  | none => rw [e] at h; cases h
  | some r =>
    obtain ⟨n, L1⟩ := r
    rw [e] at h
    cases h
    obtain ⟨b1, b2⟩ := whole_back e
    refine ⟨num_plain ⟨by omega, by omega⟩, ?_⟩
    show L = (if ((n : Nat) : Int) < 0 then 45 :: nd n else nd n) ++ L'
    rw [if_neg (by omega)]
    exact b1
theorem nows_back : ∀ {k : Nat} {L L' : List Nat} {vs : List V}, nowsL k L = some (vs, L') → vs.length = k ∧ (∀ v ∈ vs, plainB v = true) ∧ L = shNs vs ++ L'
  | 0, L, L', vs, h => by
    cases h
    exact ⟨rfl, fun v hv => (by cases hv), rfl⟩
  | k + 1, L, L', vs, h => by
    unfold nowsL at h
    by_cases h1 : L.head? = some 32
    · rw [if_pos h1] at h
      cases e : plainL L.tail with
      | none => rw [e] at h; cases h
      | some r =>
        obtain ⟨v, L1⟩ := r
        rw [e] at h
        dsimp only at h
        cases e2 : nowsL k L1 with
        | none => rw [e2] at h; cases h
        | some r =>
          obtain ⟨us, L2⟩ := r
          rw [e2] at h
          cases h
          obtain ⟨p1, p2⟩ := plain_back e
          obtain ⟨l1, l2, l3⟩ := nows_back e2
          refine ⟨by rw [List.length_cons, l1], fun u hu => ?_, ?_⟩
          · rcases List.mem_cons.mp hu with z | z
            · rw [z]; exact p1
            · exact l2 u z
          · show L = 32 :: (shL v ++ shNs us) ++ L'
            rw [List.cons_append, List.append_assoc, ← l3, ← p2]
            exact tail_of_head h1
    · rw [if_neg h1] at h; cases h
def shR : Rv → List Nat
  | .p v => shL v
  | .c was nows => shCl was nows
def okR : Rv → Prop
  | .p v => plainB v = true
  | .c was nows => plainB was = true ∧ 2 ≤ nows.length ∧ (∀ v ∈ nows, plainB v = true) ∧ risingB nows = true
theorem value_back {L L' : List Nat} {r : Rv} (h : valueL L = some (r, L')) : okR r ∧ L = shR r ++ L' := by
  unfold valueL at h
  by_cases hc : L.head? = some 99
  · rw [if_pos hc] at h
    unfold clashL at h
    rw [if_pos hc] at h
    cases e : wholeL L.tail with
    | none => rw [e] at h; cases h
    | some r1 =>
      obtain ⟨n, L1⟩ := r1
      rw [e] at h
      dsimp only at h
      by_cases h2 : L1.head? = some 32
      · rw [if_pos h2] at h
        cases e2 : plainL L1.tail with
        | none => rw [e2] at h; cases h
        | some r2 =>
          obtain ⟨was, L2⟩ := r2
          rw [e2] at h
          dsimp only at h
          cases e3 : nowsL n L2 with
          | none => rw [e3] at h; cases h
          | some r3 =>
            obtain ⟨nows, L3⟩ := r3
            rw [e3] at h
            dsimp only at h
            by_cases hk : (plainB was && (decide (2 ≤ nows.length) && (nows.all plainB && risingB nows))) = true
            · rw [if_pos hk] at h
              cases h
              rw [Bool.and_eq_true, Bool.and_eq_true, Bool.and_eq_true, decide_eq_true_eq, List.all_eq_true] at hk
              obtain ⟨b1, b2⟩ := whole_back e
              obtain ⟨p1, p2⟩ := plain_back e2
              obtain ⟨l1, l2, l3⟩ := nows_back e3
              refine ⟨⟨hk.1, hk.2.1, hk.2.2.1, hk.2.2.2⟩, ?_⟩
              show L = 99 :: (nd nows.length ++ 32 :: (shL was ++ shNs nows)) ++ L'
              rw [l1, List.cons_append, List.append_assoc, List.cons_append, List.append_assoc, ← l3, ← p2, ← tail_of_head h2, ← b1]
              exact tail_of_head hc
            · rw [if_neg hk] at h; cases h
      · rw [if_neg h2] at h; cases h
  · rw [if_neg hc] at h
    cases e : plainL L with
    | none => rw [e] at h; cases h
    | some r1 =>
      obtain ⟨v, L1⟩ := r1
      rw [e] at h
      cases h
      exact plain_back e
theorem sh_head {v : V} (h : plainB v = true) : ∃ c r, shL v = c :: r ∧ c ≠ 99 := by
  have p := plain_of h
  cases v <;> first | exact p.elim | skip
  · exact ⟨_, _, rfl, by decide⟩
  · rename_i i
    obtain ⟨c, r, e, h1, h2⟩ := nd_cons i.natAbs
    by_cases h0 : i < 0
    · refine ⟨45, nd i.natAbs, ?_, by decide⟩
      show (if i < 0 then _ else _) = _
      rw [if_pos h0]
    · refine ⟨c, r, ?_, by omega⟩
      show (if i < 0 then _ else nd i.natAbs) = _
      rw [if_neg h0, e]
  · exact ⟨_, _, rfl, by decide⟩
theorem value_read {r : Rv} (h : okR r) (hl : ∀ was nows, r = .c was nows → nows.length < 10 ^ 30) : valueL (shR r) = some (r, []) := by
  cases r with
  | p v =>
    have e := plain_read (R := []) h (fun _ c hc => by cases hc)
    rw [List.append_nil] at e
    obtain ⟨c, r, e1, hc⟩ := sh_head h
    unfold valueL
    rw [if_neg (by show (shL v).head? ≠ _; rw [e1]; intro z; cases z; exact hc rfl)]
    show (match plainL (shL v) with | some (v, L1) => some (Rv.p v, L1) | none => none) = _
    rw [e]
  | c was nows =>
    have e := clash_read (R := []) h.1 h.2.1 (hl was nows rfl) h.2.2.1 h.2.2.2 (fun v _ _ c hc => by cases hc)
    rw [List.append_nil] at e
    unfold valueL
    rw [if_pos (by rfl)]
    exact e
def readL (L : List Nat) : Option Rv := match valueL L with
  | some (r, []) => some r
  | _ => none
theorem read_some {L : List Nat} {r : Rv} (h : readL L = some r) : valueL L = some (r, []) := by
  unfold readL at h
  cases e : valueL L with
  | none => rw [e] at h; cases h
  | some x =>
    obtain ⟨r', L'⟩ := x
    rw [e] at h
    cases L' with
    | nil => cases h; rfl
    | cons a b => cases h
theorem read_back {L : List Nat} {r : Rv} (h : readL L = some r) : okR r ∧ L = shR r := by
  have := value_back (read_some h)
  rw [List.append_nil] at this
  exact this
theorem read_sh {r : Rv} (h : okR r) (hl : ∀ was nows, r = .c was nows → nows.length < 10 ^ 30) : readL (shR r) = some r := by
  unfold readL
  rw [value_read h hl]

--@SPLIT
/-! ### shown -/
theorem str_eq (z : Str) : (⟨z.cps.toList.toArray⟩ : Str) = z := by simp
theorem str_of {z : Str} {L : List Nat} (h : z.cps.toList = L) : z = ⟨L.toArray⟩ := by rw [← h, str_eq]
theorem strV_len (S : List Nat) : (⟨S.toArray⟩ : Str).length = S.length := by simp [Str.length]
theorem num_sh (i : Int) : (Str.ofString (toString i)).cps.toList = shL (.int i) := by
  show _ = if i < 0 then 45 :: nd i.natAbs else nd i.natAbs
  by_cases h : i < 0
  · rw [if_pos h]
    obtain ⟨k, e⟩ : ∃ k : Nat, i = -((k + 1 : Nat) : Int) := ⟨i.natAbs - 1, by omega⟩
    subst e
    have e : toString (-((k + 1 : Nat) : Int)) = "-" ++ toString ((k + 1 : Nat) : Int) := rfl
    have e2 : (-((k + 1 : Nat) : Int)).natAbs = k + 1 := by omega
    rw [e, e2, PyProof.Rows.signs_ofString, String.toList_append, List.map_append, ← PyProof.Rows.signs_ofString (toString ((k + 1 : Nat) : Int)), num_codes]
    rfl
  · rw [if_neg h]
    obtain ⟨m, rfl⟩ := Int.eq_ofNat_of_zero_le (show 0 ≤ i by omega)
    exact num_codes m
theorem sh_len {i : Int} (h : -(10 ^ 30) < i ∧ i < 10 ^ 30) : (shL (.int i)).length ≤ 31 := by
  show (if i < 0 then 45 :: nd i.natAbs else nd i.natAbs).length ≤ 31
  have := nd_len 29 i.natAbs (by omega)
  by_cases h : i < 0
  · rw [if_pos h, List.length_cons]; omega
  · rw [if_neg h]; omega
theorem num_len {i : Int} (h : -(10 ^ 30) < i ∧ i < 10 ^ 30) : (Str.ofString (toString i)).length ≤ 31 := by
  rw [← z_len, num_sh]; exact sh_len h
theorem shL_len {v : V} (h : plainB v = true) : 1 ≤ (shL v).length ∧ (shL v).length ≤ 80 := by
  have p := plain_of h
  obtain ⟨c, r, e, _⟩ := sh_head h
  refine ⟨by rw [e, List.length_cons]; omega, ?_⟩
  cases v <;> first | exact p.elim | skip
  · decide
  · exact Nat.le_trans (sh_len p) (by decide)
  · rename_i z
    have hz : z.length ≤ 40 := p
    have := nd_len 29 z.length (by omega)
    show (116 :: (nd z.length ++ 58 :: z.cps.toList)).length ≤ 80
    rw [List.length_cons, List.length_append, List.length_cons, z_len]; omega
local macro_rules | `(tactic| walk_at "sl") => `(tactic| (refine small_le ?_; (try simp only [strLen_append]); omega))
def sp_base_of (_ : PySem.W.Frag) : Sp := fun vs H Q _ => ∃ v, vs = [v] ∧ ((plainB v = true ∧ Q v H) ∨ ∃ a was r, v = .ref a ∧ H a = some (.tup (was :: r)) ∧ Q was H)
def sp_sides_of (_ : PySem.W.Frag) : Sp := fun vs H Q _ => ∃ v, vs = [v] ∧ ∃ a b was nows, v = .ref a ∧ H a = some (.tup [was, .ref b]) ∧ H b = some (.tup nows) ∧ ∀ l, H l = none → Q (.ref l) (upd H l (.lst nows))
def sp_shown_plain (_ : PySem.W.Frag) : Sp := fun vs H Q _ => ∃ v, vs = [v] ∧ plainB v = true ∧ Q (.str ⟨(shL v).toArray⟩) H
def szR : Rv → Prop
  | .p _ => True
  | .c _ nows => nows.length ≤ 50000
def sp_shown (_ : PySem.W.Frag) : Sp := fun vs H Q _ => ∃ v r, vs = [v] ∧ RvAt H r v ∧ okR r ∧ szR r ∧ ∀ H', Same H H' → Q (.str ⟨(shR r).toArray⟩) H'
seal PE PT PW PA PS PSs PI PG PIfs PGs PO in
theorem ok_base_of {P : Program} {w : World} {K : PySem.W.Frag} {mg : Str → Option Value} {base : Heap} {C CE CT : Addr} {f : Addr} {fd : FuncData} (Z : Zs mg) (T : Tx K mg C CE CT) (F : Fun K "base_of" "base_of" s_base_of f fd) : FnOk P w K mg base CX0 1 f fd ["value"] (sp_base_of K) := by
  refine F.ok sc_base_of (fun vs H Q E h => ?_) (fun cdv A outer s H vs Q E hr h => ?_)
  · obtain ⟨a, rfl, _⟩ := h; rfl
  obtain ⟨v, rfl, h⟩ := h
  refine ⟨_, (@pss_cons _ _ _ _ _ (ps_if (pt_val (pe_callB call_isinst rfl (Z.isinstance) bo_isinstance (pa_c (pv 0) (pa_c (pe_bltn rfl (Z.tuple) bo_tuple (v := .ty "tuple") rfl) pa_nil))) (fun _ => rfl)) (pss_one (ps_ret (pe_ix ix_tup (pv 0) pe_int (fun _ _ => rfl)))) pss_nil)
      (pss_one (ps_ret (pv 0)))), ?_⟩
  refine rd_start (σ := [some v]) rfl ?_
  walk_at "rd"
  rcases h with ⟨p, q⟩ | ⟨a, was, r, rfl, ha, q⟩
  · have p := plain_of p
    cases v with
    | non => refine isI_of .non kit_non_tup ⟨_, rfl, ?_⟩; walk_at "rd"; exact q
    | int i => refine isI_of (.int i) kit_int_tup ⟨_, rfl, ?_⟩; walk_at "rd"; exact q
    | str z => refine isI_of (.str z) kit_str_tup ⟨_, rfl, ?_⟩; walk_at "rd"; exact q
    | _ => exact p.elim
  · refine isI_of (.tup ha) kit_tup_tup ⟨_, rfl, ?_⟩
    walk_at "rd"
    exact ⟨_, SqT.of ha, was, at0 _ _, q⟩
seal PE PT PW PA PS PSs PI PG PIfs PGs PO in
theorem ok_sides_of {P : Program} {w : World} {K : PySem.W.Frag} {mg : Str → Option Value} {base : Heap} {C CE CT : Addr} {f : Addr} {fd : FuncData} (Z : Zs mg) (T : Tx K mg C CE CT) (F : Fun K "sides_of" "sides_of" s_sides_of f fd) : FnOk P w K mg base CX0 1 f fd ["value"] (sp_sides_of K) := by
  refine F.ok sc_sides_of (fun vs H Q E h => ?_) (fun cdv A outer s H vs Q E hr h => ?_)
  · obtain ⟨a, rfl, _⟩ := h; rfl
  obtain ⟨v, rfl, a, b, was, nows, rfl, ha, hb, q⟩ := h
  refine ⟨_, (@pss_cons _ _ _ _ _ (ps_if (pt_val (pe_callB call_isinst rfl (Z.isinstance) bo_isinstance (pa_c (pv 0) (pa_c (pe_bltn rfl (Z.tuple) bo_tuple (v := .ty "tuple") rfl) pa_nil))) (fun _ => rfl)) (pss_one (ps_ret (pe_callTy call_list_of rfl (Z.list) bo_list (pa_c (pe_ix ix_tup (pv 0) pe_int (fun _ _ => rfl)) pa_nil)))) pss_nil)
      (pss_one (ps_ret (pe_lst (pa_c (pv 0) pa_nil))))), ?_⟩
  refine rd_start (σ := [some (.ref a)]) rfl ?_
  walk_at "rd"
  refine isI_of (.tup ha) kit_tup_tup ⟨_, rfl, ?_⟩
  walk_at "rd"
  exact ⟨_, SqT.of ha, .ref b, at1 _ _ _, b, rfl, nows, .inr (SqT.of hb), q⟩
theorem text_codes (z : Str) : (Str.ofString "t" ++ Str.ofString (toString ((z.length : Nat) : Int)) ++ Str.ofString ":" ++ z).cps.toList = shL (.str z) := by
  simp only [PySem.W.KT.app_list, num_codes]
  show [116] ++ nd z.length ++ [58] ++ z.cps.toList = 116 :: (nd z.length ++ 58 :: z.cps.toList)
  simp
seal PE PT PW PA PS PSs PI PG PIfs PGs PO in
theorem ok_shown_plain {P : Program} {w : World} {K : PySem.W.Frag} {mg : Str → Option Value} {base : Heap} {C CE CT : Addr} {f : Addr} {fd : FuncData} (Z : Zs mg) (T : Tx K mg C CE CT) (F : Fun K "shown_plain" "shown_plain" s_shown_plain f fd) : FnOk P w K mg base CX0 1 f fd ["value"] (sp_shown_plain K) := by
  refine F.ok sc_shown_plain (fun vs H Q E h => ?_) (fun cdv A outer s H vs Q E hr h => ?_)
  · obtain ⟨a, rfl, _⟩ := h; rfl
  obtain ⟨v, rfl, pb, q⟩ := h
  refine ⟨_, (@pss_cons _ _ _ _ _ (ps_if (pt_cmpR op_isN (pv 0) pe_non (nomark _)) (pss_one (ps_ret pe_str)) pss_nil)
      (@pss_cons _ _ _ _ _ (ps_if (pt_val (pe_callB call_isinst rfl (Z.isinstance) bo_isinstance (pa_c (pv 0) (pa_c (pe_bltn rfl (Z.str) bo_str (v := .ty "str") rfl) pa_nil))) (fun _ => rfl)) (@pss_cons _ _ _ _ _ (ps_set (i := 1) sc_shown_plain.nd rfl (Or.inl rfl) (pe_callB call_len_str rfl (Z.len) bo_len (pa_c (pv 0) pa_nil)))
      (pss_one (ps_ret (pe_join (PFs.cons pe_str (PFs.cons (pe_fmtI (pv 1)) (PFs.cons pe_str (PFs.cons (pe_fmtS (pv 0)) PFs.nil)))))))) pss_nil)
      (pss_one (ps_ret (pe_callTy call_str_int rfl (Z.str) bo_str (pa_c (pv 0) pa_nil)))))), ?_⟩
  refine rd_start (σ := [some v, none]) rfl ?_
  have p := plain_of pb
  walk_at "rd"
  cases v with
  | non => walk_at "rd"; exact q
  | int i =>
    have p' : _ ∧ _ := p
    walk_at "rd"
    refine isI_of (.int i) kit_int_str ⟨_, rfl, ?_⟩
    walk_at "rd"
    refine ⟨log_ok (by omega), ?_⟩
    rw [str_of (num_sh i)]
    exact q
  | str z =>
    walk_at "rd"
    refine isI_of (.str z) kit_str_str ⟨_, rfl, ?_⟩
    walk_at "rd"
    have hz : z.length ≤ 40 := p
    have h1 : (Str.ofString "t").length = 1 := rfl
    have h2 : (Str.ofString ":").length = 1 := rfl
    have ln := num_len (i := (z.length : Nat)) (by omega)
    refine ⟨small_le (by omega), small_le (by omega), log_ok (by omega), (by walk_at "sl"), (by walk_at "sl"), (by walk_at "sl"), (by walk_at "sl"), (by walk_at "sl"), ?_⟩
    rw [str_of (text_codes z)]
    exact q
  | _ => exact p.elim
theorem sum_le {n : Nat} : ∀ (l : List Nat), (∀ x ∈ l, x ≤ n) → l.sum ≤ l.length * n
  | [], _ => by simp
  | x :: l, h => by
    have := sum_le l fun y hy => h y (List.mem_cons_of_mem _ hy)
    have := h x List.mem_cons_self
    rw [List.sum_cons, List.length_cons, Nat.succ_mul]
    omega
theorem join_sp (a : Str) (l : List Str) : (Txt.join (Str.ofString " ") (a :: l)).cps.toList = a.cps.toList ++ l.flatMap fun z => 32 :: z.cps.toList := by
  rw [join_fold]
  have e0 : (Str.ofString " ").cps.toList = [32] := by decide
  induction l generalizing a with
  | nil => simp
  | cons z l ih =>
    rw [List.foldl_cons, ih, PySem.W.KT.app_list, PySem.W.KT.app_list, e0, List.flatMap_cons]
    simp
theorem shNs_flat : ∀ vs : List V, shNs vs = vs.flatMap fun v => 32 :: shL v
  | [] => rfl
  | v :: vs => by rw [List.flatMap_cons, ← shNs_flat vs]; rfl
theorem join_cl {was : V} {nows : List V} {n : Nat} (hn : nows.length = n) : Txt.join (Str.ofString " ") ((Str.ofString "c" ++ Str.ofString (toString ((n : Nat) : Int))) :: (was :: nows).map fun v => ⟨(shL v).toArray⟩) = ⟨(shCl was nows).toArray⟩ := by
  refine str_of ?_
  rw [join_sp, PySem.W.KT.app_list, num_codes, List.flatMap_map]
  show [99] ++ nd n ++ ((was :: nows).flatMap fun v => 32 :: (shL v).toArray.toList) = 99 :: (nd nows.length ++ 32 :: (shL was ++ shNs nows))
  rw [shNs_flat, hn, List.flatMap_cons]
  simp
seal PE PT PW PA PS PSs PI PG PIfs PGs PO in
theorem ok_shown {P : Program} {w : World} {K : PySem.W.Frag} {mg : Str → Option Value} {base : Heap} {C CE CT : Addr} {f : Addr} {fd : FuncData} (Z : Zs mg) (T : Tx K mg C CE CT) (G_sides_of : Cal P w K mg base 1 "sides_of" ["value"] (sp_sides_of K)) (G_shown_plain : Cal P w K mg base 1 "shown_plain" ["value"] (sp_shown_plain K)) (G_base_of : Cal P w K mg base 1 "base_of" ["value"] (sp_base_of K)) (F : Fun K "shown" "shown" s_shown f fd) : FnOk P w K mg base CX0 2 f fd ["value"] (sp_shown K) := by
  refine F.ok sc_shown (fun vs H Q E h => ?_) (fun cdv A outer s H vs Q E hr h => ?_)
  · obtain ⟨a, r, rfl, _⟩ := h; rfl
  obtain ⟨v, r, rfl, hv, ok, sz, q⟩ := h
  refine ⟨_, (@pss_cons _ _ _ _ _ (ps_if (pt_not (pt_val (pe_callB call_isinst rfl (Z.isinstance) bo_isinstance (pa_c (pv 0) (pa_c (pe_bltn rfl (Z.tuple) bo_tuple (v := .ty "tuple") rfl) pa_nil))) (fun _ => rfl))) (pss_one (ps_ret (pe_cal G_shown_plain (k := 1) hr (by decide) rfl (pa_c (pv 0) pa_nil)))) pss_nil)
      (@pss_cons _ _ _ _ _ (ps_set (i := 1) sc_shown.nd rfl (Or.inl rfl) (pe_cal G_sides_of (k := 1) hr (by decide) rfl (pa_c (pv 0) pa_nil)))
      (@pss_cons _ _ _ _ _ (ps_set (i := 2) sc_shown.nd rfl (Or.inl rfl) (pe_callB call_len_seq rfl (Z.len) bo_len (pa_c (pv 1) pa_nil)))
      (@pss_cons _ _ _ _ _ (ps_lcomp (j := 3) ["value", "nows", "count", "parts"] rfl sc_shown.nd rfl rfl (blkOk (N := ["value", "nows", "count", "parts"]) (dsc := defScope s_shown) rfl rfl (by decide +kernel)) (pi_list (pe_op op_cat (pe_lst (pa_c (pe_cal G_base_of (k := 1) hr (by decide) rfl (pa_c (pv 0) pa_nil)) pa_nil)) (pv 1))) (fun _ _ _ _ _ => pif_nil) (fun _ _ _ _ _ => (pe_cal G_shown_plain (k := 1) hr (by decide) rfl (pa_c (pv 0) pa_nil))))
      (pss_one (ps_ret (pe_bm PySem.F.plainAttrs_str PySem.F.slot_str_join PySem.F.type_str_join mt_join pe_str (pa_c (pe_op op_cat (pe_lst (pa_c (pe_join (PFs.cons pe_str (PFs.cons (pe_fmtI (pv 2)) PFs.nil))) pa_nil)) (pv 3)) pa_nil)))))))), ?_⟩
  refine rd_start (σ := [some v, none, none, none]) rfl ?_
  walk_at "rd"
  cases r with
  | p u =>
    have e : v = u := hv
    subst e
    have go : sp_shown_plain K [v] H Q E0 := ⟨v, rfl, ok, q _ (Same.refl _)⟩
    have p := plain_of ok
    cases v with
    | non => refine isI_of .non kit_non_tup ⟨_, rfl, ?_⟩; walk_at "rd"; exact go
    | int i => refine isI_of (.int i) kit_int_tup ⟨_, rfl, ?_⟩; walk_at "rd"; exact go
    | str z => refine isI_of (.str z) kit_str_tup ⟨_, rfl, ?_⟩; walk_at "rd"; exact go
    | _ => exact p.elim
  | c was nows =>
    obtain ⟨a, b, rfl, ha, hb⟩ := hv
    have sz : nows.length ≤ 50000 := sz
    refine isI_of (.tup ha) kit_tup_tup ⟨_, rfl, ?_⟩
    walk_at "rd"
    refine ⟨_, rfl, a, b, was, nows, rfl, ha, hb, fun l hl => ?_⟩
    have sl := same_upd hl (.lst nows)
    walk_at "rd"
    refine ⟨nows, .inl (SqL.of upd_same), _, rfl, .inr ⟨a, was, _, rfl, sl _ _ ha, ?_⟩⟩
    refine ⟨one_sz _, fun p hp => ?_⟩
    have s2 := sl.trans (same_upd hp (.lst [was]))
    refine ⟨[was], upd_same, nows, by rw [upd_ne (ne_of_none upd_same hp)]; exact upd_same, big_le (by simp; omega), fun p1 hp1 => ⟨⟨_, SqL.of upd_same⟩, ?_⟩⟩
    have s3 := s2.trans (same_upd hp1 (.lst ([was] ++ nows)))
    have pall : ∀ u ∈ was :: nows, plainB u = true := fun u hu => (List.mem_cons.mp hu).elim (fun e => by rw [e]; exact ok.1) (ok.2.2.1 u)
    refine lcR_list (was :: nows) (fun j v => ∃ u, (was :: nows)[j]? = some u ∧ v = .str ⟨(shL u).toArray⟩) (SqL.of upd_same) (big_le (by simp; omega)) (fun i x H2 R hx s4 hR => ?_) fun D H2 ys hD s4 hy ly py => ?_
    · walk_at "rd"
      exact ⟨x, rfl, pall x (List.mem_of_getElem? hx), hR _ _ ⟨x, hx, rfl⟩ (Same.refl _)⟩
    · have ey : ys = ((was :: nows).map fun v => (⟨(shL v).toArray⟩ : Str)).map V.str := by rw [List.map_map]; exact ptw ly py
      have lc := num_len (i := (nows.length : Nat)) (by omega)
      have h1 : (Str.ofString "c").length = 1 := rfl
      have h4 : (Str.ofString " ").length = 1 := rfl
      have sm := s3.trans s4
      walk_at "rd"
      refine ⟨rfl, small_le (by omega), log_ok (by omega), (by walk_at "sl"), (by walk_at "sl"), one_sz _, fun p2 hp2 => ?_⟩
      refine ⟨_, upd_same, ys, by rw [upd_ne (ne_of_none hy hp2)]; exact hy, big_le (by rw [ly]; simp; omega), fun p3 hp3 => ?_⟩
      refine ⟨(Str.ofString "c" ++ Str.ofString (toString ((nows.length : Nat) : Int))) :: (was :: nows).map (fun v => (⟨(shL v).toArray⟩ : Str)), SqL.of (by rw [upd_same, ey]; rfl), ?_, ?_⟩
      · have hs : (((was :: nows).map fun v => (⟨(shL v).toArray⟩ : Str)).map (·.length)).sum ≤ (nows.length + 1) * 80 := by
          have := sum_le (n := 80) (((was :: nows).map fun v => (⟨(shL v).toArray⟩ : Str)).map (·.length)) fun x hx => by
            obtain ⟨z, hz, rfl⟩ := List.mem_map.mp hx
            obtain ⟨u, hu, rfl⟩ := List.mem_map.mp hz
            rw [strV_len]
            exact (shL_len (pall u hu)).2
          simpa using this
        rw [List.map_cons, List.sum_cons, List.length_cons, List.length_map, List.length_cons, h4, strLen_append]
        omega
      · rw [join_cl rfl]
        exact q _ (sm.trans ((same_upd hp2 _).trans (same_upd hp3 _)))
/-- read_value: what is read of the whole text -/
def sp_read_value (_ : PySem.W.Frag) (C CE : Addr) : Sp := fun vs H Q E => ∃ z : Str, vs = [.str z] ∧ z.length ≤ 100000 ∧ (∀ r v H', readL z.cps.toList = some r → Same H H' → RvAt H' r v → Q v H') ∧ (∀ H', readL z.cps.toList = none → Same H H' → E (.ref CE) none H')
seal PE PT PW PA PS PSs PI PG PIfs PGs PO in
theorem ok_read_value {P : Program} {w : World} {K : PySem.W.Frag} {mg : Str → Option Value} {base : Heap} {C CE CT : Addr} {f : Addr} {fd : FuncData} (Z : Zs mg) (T : Tx K mg C CE CT) (K_Strip : MkV P w K mg base 1 "Strip" C (sp_Strip_init K C)) (M_Strip_take_value : MeV P w K mg base 11 C "take_value" (sp_Strip_take_value K C CE)) (M_Strip_is_over : MeV P w K mg base 1 C "is_over" (sp_Strip_is_over K C)) (F : Fun K "read_value" "read_value" s_read_value f fd) : FnOk P w K mg base (CX1 P w) 12 f fd ["text"] (sp_read_value K C CE) := by
  refine F.ok1 sc_read_value (fun vs H Q E h => ?_) (fun cdv A outer s H vs Q E hr h => ?_)
  · obtain ⟨z, rfl, _⟩ := h; rfl
  obtain ⟨z, rfl, hz, q, x⟩ := h
  refine ⟨_, (@pss_cons _ _ _ _ _ (ps_set (i := 1) sc_read_value.nd rfl (Or.inl rfl) (pe_mk K_Strip (k := 11) hr (by decide) rfl (pa_c (pv 0) pa_nil)))
      (@pss_cons _ _ _ _ _ (ps_set (i := 2) sc_read_value.nd rfl (Or.inl rfl) (PE1.pe (pe1_meth0 (k := 11) (pv 1) T.cl (MeV.mono M_Strip_take_value (by decide)) hr rfl) throws0))
      (@pss_cons _ _ _ _ _ (ps_if (pt_not (pt_val (PE1.pe (pe1_meth0 (k := 11) (pv 1) T.cl (MeV.mono M_Strip_is_over (by decide)) hr rfl) throws0) (fun _ => rfl))) (pss_one (ps_raise0 throws0 rfl rfl rfl T.mgE T.ex PySem.F.excBase_ValueError)) pss_nil)
      (pss_one (ps_ret (pv 2)))))), ?_⟩
  refine rd_start (σ := [some (.str z), none, none]) rfl ?_
  have hsz : z.length ≤ sizeLine := Nat.le_trans hz (by decide)
  walk_at "rd"
  refine ⟨_, rfl, fun s1 d1 h1 h2 h3 => ⟨s1, d1, _, rfl, upd_same, rfl, ?_⟩⟩
  rw [upd_upd]
  have sa := (same_upd h2 (.own s1)).trans (same_upd (show upd H d1 (.own s1) s1 = none by rw [upd_ne (Ne.symm h3)]; exact h1) (stripO C d1 z 0))
  have k1 : upd (upd H d1 (.own s1)) s1 (stripO C d1 z 0) s1 = some (stripO C d1 z 0) := upd_same
  generalize upd (upd H d1 (.own s1)) s1 (stripO C d1 z 0) = H1 at sa k1 ⊢
  have keep : ∀ {H' : Hp}, SameX s1 H1 H' → Same H H' := fun {H'} sx b o e => sx b o (ne_of_none e h1) (sa b o e)
  have br := value_br (At.start z)
  unfold readL at q x
  refine rd_m rfl k1 rfl ⟨s1, d1, z, 0, rfl, k1, Nat.zero_le _, hz, fun r v p1 H2 e s2 k2 hv => ?_, fun p' H2 e s2 k2 _ => ?_⟩
  · cases e1 : valueL z.cps.toList with
    | none =>
      rw [e1] at br
      rw [show valueAt z 0 = none from br] at e; cases e
    | some y =>
      obtain ⟨r', L⟩ := y
      rw [e1] at br q x
      obtain ⟨p, e2, hat⟩ := br
      rw [e] at e2
      cases e2
      have hl := hat.len
      refine rd_m rfl k2 rfl ⟨s1, d1, z, p1, rfl, k2, hsz, _, rfl, ?_⟩
      by_cases hL : L = []
      · subst hL
        rw [List.length_nil] at hl
        rw [decide_eq_true (by omega), if_neg (by decide)]
        exact q r v H2 rfl (keep s2) hv
      · have : 0 < L.length := List.length_pos_iff.mpr hL
        rw [decide_eq_false (by omega), if_pos rfl]
        obtain ⟨c, L', e3⟩ := List.exists_cons_of_ne_nil hL
        subst e3
        exact x H2 rfl (keep s2)
  · cases e1 : valueL z.cps.toList with
    | none => rw [e1] at x; exact x _ rfl (keep s2)
    | some y =>
      obtain ⟨r, L⟩ := y
      rw [e1] at br
      obtain ⟨p, e2, _⟩ := br
      rw [e] at e2; cases e2
--@SPLIT
/-! ### the law's makers -/
def sp__law_rank (_ : PySem.W.Frag) : Sp := fun vs H Q _ => ∃ v, vs = [v] ∧ plainV v ∧ ∀ p, H p = none → Q (.ref p) (upd H p (.tup (rk3 v)))
seal PE PT PW PA PS PSs PI PG PIfs PGs PO in
theorem ok__law_rank {P : Program} {w : World} {K : PySem.W.Frag} {mg : Str → Option Value} {base : Heap} {C CE CT : Addr} {f : Addr} {fd : FuncData} (Z : Zs mg) (T : Tx K mg C CE CT) (F : Fun K "_law_rank" "_law_rank" s__law_rank f fd) : FnOk P w K mg base CX0 1 f fd ["_law_thing"] (sp__law_rank K) := by
  refine F.ok sc__law_rank (fun vs H Q E h => ?_) (fun cdv A outer s H vs Q E hr h => ?_)
  · obtain ⟨v, rfl, _⟩ := h; rfl
  obtain ⟨v, rfl, hv, q⟩ := h
  refine ⟨_, (@pss_cons _ _ _ _ _ (ps_if (pt_cmpR op_isN (pv 0) pe_non (nomark _)) (pss_one (ps_ret (pe_tup (pa_c pe_int (pa_c pe_int (pa_c pe_str pa_nil)))))) pss_nil)
      (@pss_cons _ _ _ _ _ (ps_if (pt_val (pe_callB call_isinst rfl (Z.isinstance) bo_isinstance (pa_c (pv 0) (pa_c (pe_bltn rfl (Z.str) bo_str (v := .ty "str") rfl) pa_nil))) (fun _ => rfl)) (pss_one (ps_ret (pe_tup (pa_c pe_int (pa_c pe_int (pa_c (pv 0) pa_nil)))))) pss_nil)
      (pss_one (ps_ret (pe_tup (pa_c pe_int (pa_c (pv 0) (pa_c pe_str pa_nil)))))))), ?_⟩
  refine rd_start (σ := [some v]) rfl ?_
  walk_at "rd"
  cases v with
  | non => walk_at "rd"; exact ⟨by decide, q⟩
  | int n =>
    walk_at "rd"
    refine isI_of (.int n) kit_int_str ⟨_, rfl, ?_⟩
    walk_at "rd"
    exact ⟨by show 3 ≤ sizeLine; decide, q⟩
  | str z =>
    walk_at "rd"
    refine isI_of (.str z) kit_str_str ⟨_, rfl, ?_⟩
    walk_at "rd"
    exact ⟨by show 3 ≤ sizeLine; decide, q⟩
  | _ => exact hv.elim

theorem at_some {α : Type} {l : List α} {k : Int} (h0 : 0 ≤ k) (h1 : k < (l.length : Int)) : ∃ c, atI l k = some c ∧ c ∈ l := by
  have hk : k.toNat < l.length := by omega
  have ek : k = ((k.toNat : Nat) : Int) := by omega
  have h := atI_nat (xs := l) (j := k.toNat) (List.getElem?_eq_getElem hk)
  rw [← ek] at h
  exact ⟨_, h, List.getElem_mem hk⟩
theorem signs_len : (Str.ofString " !\"#$&'()*+,-./0123456789:;<=>?@ABCDEFGHIJKLMNOPQRSTUVWXYZ[\\]^_`" ++ Str.ofString "abcdefghijklmnopqrstuvwxyz{|}~").cps.toList.length = 94 := by decide +kernel
theorem signs_all : ∀ c ∈ (Str.ofString " !\"#$&'()*+,-./0123456789:;<=>?@ABCDEFGHIJKLMNOPQRSTUVWXYZ[\\]^_`" ++ Str.ofString "abcdefghijklmnopqrstuvwxyz{|}~").cps.toList, signB c = true := by decide +kernel
def sp__law_sign (_ : PySem.W.Frag) : Sp := fun vs H Q _ => ∃ c : Int, vs = [.int c] ∧ ∀ x : Nat, signB x = true → Q (.str ⟨#[x]⟩) H
seal PE PT PW PA PS PSs PI PG PIfs PGs PO in
theorem ok__law_sign {P : Program} {w : World} {K : PySem.W.Frag} {mg : Str → Option Value} {base : Heap} {C CE CT : Addr} {f : Addr} {fd : FuncData} (Z : Zs mg) (T : Tx K mg C CE CT) (F : Fun K "_law_sign" "_law_sign" s__law_sign f fd) : FnOk P w K mg base CX0 1 f fd ["_law_number"] (sp__law_sign K) := by
  refine F.ok sc__law_sign (fun vs H Q E h => ?_) (fun cdv A outer s H vs Q E hr h => ?_)
  · obtain ⟨a, rfl, _⟩ := h; rfl
  obtain ⟨c, rfl, q⟩ := h
  refine ⟨_, (@pss_cons _ _ _ _ _ (ps_set (i := 1) sc__law_sign.nd rfl (Or.inl rfl) pe_str)
      (@pss_cons _ _ _ _ _ (ps_set (i := 1) sc__law_sign.nd rfl (Or.inl rfl) (pe_op op_add_str (pv 1) pe_str))
      (pss_one (ps_ret (pe_ix ix_str (pv 1) (pe_op op_mod (pv 0) pe_int) (fun _ _ => rfl)))))), ?_⟩
  refine rd_start (σ := [some (.int c), none]) rfl ?_
  walk_at "rd"
  obtain ⟨x, hx, hm⟩ := at_some (l := (Str.ofString " !\"#$&'()*+,-./0123456789:;<=>?@ABCDEFGHIJKLMNOPQRSTUVWXYZ[\\]^_`" ++ Str.ofString "abcdefghijklmnopqrstuvwxyz{|}~").cps.toList) (k := c % 94) (by omega) (by rw [signs_len]; omega)
  exact ⟨by decide, by decide, x, hx, q _ (signs_all x hm)⟩
/-- signs, joined -/
theorem join_ones {p : Nat → Bool} {ys : List V} (all : ∀ v ∈ ys, ∃ x : Nat, v = .str ⟨#[x]⟩ ∧ p x = true) : ∃ zs : List Str, ys = zs.map V.str ∧ (zs.map (·.length)).sum = zs.length ∧ (Txt.join (Str.ofString "") zs).length = zs.length ∧ ∀ c ∈ (Txt.join (Str.ofString "") zs).cps.toList, p c = true := by
  obtain ⟨zs, rfl⟩ := strs_of ys fun v hv => let ⟨z, e, _⟩ := all v hv; ⟨_, e⟩
  have al : ∀ z ∈ zs, ∃ x : Nat, z = ⟨#[x]⟩ ∧ p x = true := fun z hz => by
    obtain ⟨x, e, h⟩ := all (.str z) (List.mem_map.mpr ⟨z, hz, rfl⟩)
    cases e; exact ⟨x, rfl, h⟩
  have one : (zs.map (·.length)).sum = zs.length := sum_ones zs fun z hz => by
    obtain ⟨x, rfl, h⟩ := al z hz
    rfl
  refine ⟨zs, rfl, one, ?_, fun c hc => ?_⟩
  · rw [← z_len, join_flat, List.length_flatMap, ← one]
    congr 1
  · rw [join_flat] at hc
    obtain ⟨z, hz, hc⟩ := List.mem_flatMap.mp hc
    obtain ⟨x, rfl, h⟩ := al z hz
    have : c = x := by simpa using hc
    rw [this]; exact h
theorem text_plain {z : Str} (h : z.length ≤ 40) (hg : ∀ c ∈ z.cps.toList, signB c = true) : plainB (.str z) = true := by
  show (false || (false || (decide (0 ≤ z.length ∧ z.length ≤ 40) && z.cps.toList.all signB))) = true
  rw [decide_eq_true (by omega), List.all_eq_true.mpr hg]; rfl
def sp__law_plain (_ : PySem.W.Frag) : Sp := fun vs H Q _ => ∃ c : Int, vs = [.int c] ∧ bitsOk c ∧ ∀ v H', plainB v = true → Same H H' → Q v H'
seal PE PT PW PA PS PSs PI PG PIfs PGs PO in
theorem ok__law_plain {P : Program} {w : World} {K : PySem.W.Frag} {mg : Str → Option Value} {base : Heap} {C CE CT : Addr} {f : Addr} {fd : FuncData} (Z : Zs mg) (T : Tx K mg C CE CT) (G__law_sign : Cal P w K mg base 1 "_law_sign" ["_law_number"] (sp__law_sign K)) (G__law_mix : Cal P w K mg base 1 "_law_mix" ["_law_cell", "_law_k"] (sp__law_mix K)) (F : Fun K "_law_plain" "_law_plain" s__law_plain f fd) : FnOk P w K mg base CX0 2 f fd ["_law_cell"] (sp__law_plain K) := by
  refine F.ok sc__law_plain (fun vs H Q E h => ?_) (fun cdv A outer s H vs Q E hr h => ?_)
  · obtain ⟨a, rfl, _⟩ := h; rfl
  obtain ⟨c, rfl, hc, q⟩ := h
  refine ⟨_, (@pss_cons _ _ _ _ _ (ps_set (i := 1) sc__law_plain.nd rfl (Or.inr rfl) (pe_op op_fdiv (pv 0) pe_int))
      (@pss_cons _ _ _ _ _ (ps_if (pt_cmpR op_lt (pe_op op_mod (pv 0) pe_int) pe_int (nomark _)) (pss_one (ps_ret (pe_op op_sub (pe_op op_mod (pv 1) pe_int) pe_int))) pss_nil)
      (@pss_cons _ _ _ _ _ (ps_if (pt_cmpR op_lt (pe_op op_mod (pv 0) pe_int) pe_int (nomark _)) (pss_one (ps_ret (pe_op op_sub (pe_op op_mod (pe_op op_mulB (pv 1) pe_int) (pe_op op_sub (pe_op op_mulB pe_int (pe_op op_pow pe_int pe_int)) pe_int)) (pe_op op_sub (pe_op op_pow pe_int pe_int) pe_int)))) pss_nil)
      (@pss_cons _ _ _ _ _ (ps_if (pt_cmpR op_lt (pe_op op_mod (pv 0) pe_int) pe_int (nomark _)) (pss_one (ps_ret (pe_bm PySem.F.plainAttrs_str PySem.F.slot_str_join PySem.F.type_str_join mt_join pe_str (pa_c (pe_lcomp ["_law_cell", "_law_rest"] rfl (blkOk (N := ["_law_cell", "_law_rest"]) (dsc := defScope s__law_plain) rfl rfl (by decide +kernel)) (pi_range1 rfl (Z.range) (pa_c (pe_op op_mod (pe_cal G__law_mix (k := 1) hr (by decide) rfl (pa_c (pv 1) (pa_c pe_int pa_nil))) pe_int) pa_nil)) (fun _ _ _ _ _ => pif_nil) (fun _ _ _ _ _ => (pe_cal G__law_sign (k := 1) hr (by decide) rfl (pa_c (pe_cal G__law_mix (k := 1) hr (by decide) rfl (pa_c (pv 2) (pa_c (pv 0) pa_nil))) pa_nil)))) pa_nil)))) pss_nil)
      (pss_one (ps_ret pe_non)))))), ?_⟩
  refine rd_start (σ := [some (.int c), none]) rfl ?_
  walk_at "rd"
  walk_at "go"
  refine ite2 (fun _ => ?_) fun _ => ite2 (fun _ => ?_) fun _ => ite2 (fun _ => ?_) fun _ => ?_
  · exact q _ _ (num_plain ⟨by omega, by omega⟩) (Same.refl _)
  · refine ⟨IntMulOk.of_bits (bits_div' hc) (by decide +kernel), ?_⟩
    walk_at "go"
    generalize c / 8 * 612345678901234567890123456789 = y
    exact q _ _ (num_plain ⟨by omega, by omega⟩) (Same.refl _)
  · refine ⟨rfl, _, _, rfl, fun m h1 h2 => ?_⟩
    walk_at "rd"
    refine ⟨by omega, by omega, lcR_range (fun _ v => ∃ x : Nat, v = .str ⟨#[x]⟩ ∧ signB x = true) (small_le (by omega)) (fun i H2 R hi s2 hR => ?_) fun D H2 ys hD s2 hy ly py => ?_⟩
    · walk_at "rd"
      exact ⟨_, _, rfl, fun m h1 h2 => ⟨_, rfl, fun x hx => hR _ _ ⟨x, rfl, hx⟩ (Same.refl _)⟩⟩
    · obtain ⟨zs, rfl, one, lj, hg⟩ := join_ones (mem_of_ix py)
      rw [List.length_map] at ly
      have e0 : (Str.ofString "").length = 0 := rfl
      exact ⟨D, rfl, zs, SqL.of hy, by rw [one, e0]; omega, q _ _ (text_plain (by omega) hg) s2⟩
  · exact q _ _ rfl (Same.refl _)
theorem bits_small {m : Int} (h0 : 0 ≤ m) (h1 : m < 2147483629) : bitsOk m := Nat.le_trans (bits_natAbs (b := 2147483629) (by omega)) (by decide +kernel)
theorem flat_plain {v : V} (h : plainV v) : flatV v = true := by cases v <;> first | exact h.elim | rfl
theorem flats {xs : List V} (h : ∀ v ∈ xs, plainV v) : xs.all flatV = true := List.all_eq_true.mpr fun v hv => flat_plain (h v hv)
theorem key_rank3 {K : PySem.W.Frag} {H : Hp} {xs : List V} (h : ∀ v ∈ xs, plainV v) : KeyF K (sp__law_rank K) H xs rk3 ltV :=
  ⟨fun v _ => rk3_hd v, fun v hv H2 _ R hR => ⟨v, rfl, h v hv, fun p hp => hR p _ (same_upd hp _) (SqT.of upd_same)⟩, fun v hv u hu => lex_rk3 (h v hv) (h u hu), swo h⟩
theorem eqVs_nil (xs : List V) : eqVs xs [] = xs.isEmpty := by unfold eqVs; cases xs <;> simp
/-- a value that the law makes -/
def Val (H : Hp) (v : V) (r : Rv) : Prop := RvAt H r v ∧ okR r ∧ ∀ was nows, r = .c was nows → nows.length ≤ 100
def sp__law_value (_ : PySem.W.Frag) : Sp := fun vs H Q _ => ∃ c : Int, vs = [.int c] ∧ bitsOk c ∧ ∀ v r H', Val H' v r → Same H H' → Q v H'
theorem val_p {H : Hp} {v : V} (h : plainB v = true) : Val H v (.p v) := ⟨rfl, h, fun _ _ e => by cases e⟩
--@SPLIT
seal PE PT PW PA PS PSs PI PG PIfs PGs PO in
theorem ok__law_value {P : Program} {w : World} {K : PySem.W.Frag} {mg : Str → Option Value} {base : Heap} {C CE CT : Addr} {f : Addr} {fd : FuncData} (Z : Zs mg) (T : Tx K mg C CE CT) (G__law_plain : Cal P w K mg base 2 "_law_plain" ["_law_cell"] (sp__law_plain K)) (G__law_mix : Cal P w K mg base 1 "_law_mix" ["_law_cell", "_law_k"] (sp__law_mix K)) (G__law_rank : Cal P w K mg base 1 "_law_rank" ["_law_thing"] (sp__law_rank K)) (F : Fun K "_law_value" "_law_value" s__law_value f fd) : FnOk P w K mg base CX0 4 f fd ["_law_cell"] (sp__law_value K) := by
  refine F.ok sc__law_value (fun vs H Q E h => ?_) (fun cdv A outer s H vs Q E hr h => ?_)
  · obtain ⟨a, rfl, _⟩ := h; rfl
  obtain ⟨c, rfl, hc, q⟩ := h
  refine ⟨_, (@pss_cons _ _ _ _ _ (ps_if (pt_cmpR op_ne (pe_op op_mod (pv 0) pe_int) pe_int (nomark _)) (pss_one (ps_ret (pe_cal G__law_plain (k := 3) hr (by decide) rfl (pa_c (pe_op op_fdiv (pv 0) pe_int) pa_nil)))) pss_nil)
      (@pss_cons _ _ _ _ _ (ps_set (i := 1) sc__law_value.nd rfl (Or.inl rfl) (pe_lst pa_nil))
      (@pss_cons _ _ _ _ _ (ps_lcomp (j := 2) ["_law_cell", "_law_now", "_law_some", "_law_value_here"] rfl sc__law_value.nd rfl rfl (blkOk (N := ["_law_cell", "_law_now", "_law_some", "_law_value_here"]) (dsc := defScope s__law_value) rfl rfl (by decide +kernel)) (pi_range1 rfl (Z.range) (pa_c (pe_op op_add pe_int (pe_op op_mod (pe_cal G__law_mix (k := 3) hr (by decide) rfl (pa_c (pv 0) (pa_c pe_int pa_nil))) pe_int)) pa_nil)) (fun _ _ _ _ _ => pif_nil) (fun _ _ _ _ _ => (pe_cal G__law_plain (k := 3) hr (by decide) rfl (pa_c (pe_cal G__law_mix (k := 3) hr (by decide) rfl (pa_c (pv 1) (pa_c (pe_op op_add pe_int (pv 0)) pa_nil))) pa_nil))))
      (@pss_cons _ _ _ _ _ (ps_for PassesOwn.never rfl (pi_list (pe_sortedK G__law_rank (k := 3) hr (by decide) rfl (Z.sorted) rfl (pv 2))) (pg_name (i := 3) sc__law_value.nd rfl (Or.inl rfl)) (pss_one (ps_if (PW.pt (pw_or (pt_cmpR (op_eqL (hr.units0)) (pv 1) (pe_lst pa_nil) (nomark _)) (pw_or1 (pt_cmpR (op_ltV (hr.units0)) (pe_cal G__law_rank (k := 3) hr (by decide) rfl (pa_c (pe_ix ix_list (pv 1) (pe_un un_neg pe_int) (fun _ _ => rfl)) pa_nil)) (pe_cal G__law_rank (k := 3) hr (by decide) rfl (pa_c (pv 3) pa_nil)) (nomark _))))) (pss_one (ps_expr (pe_bm PySem.F.plainAttrs_list PySem.F.slot_list_append PySem.F.type_list_append mt_append (pv 1) (pa_c (pv 3) pa_nil)))) pss_nil)))
      (@pss_cons _ _ _ _ _ (ps_if (pt_cmpR op_lt (pe_callB call_len_seq rfl (Z.len) bo_len (pa_c (pv 1) pa_nil)) pe_int (nomark _)) (pss_one (ps_ret (pe_ix ix_list (pv 2) pe_int (fun _ _ => rfl)))) pss_nil)
      (pss_one (ps_ret (pe_tup (pa_c (pe_cal G__law_plain (k := 3) hr (by decide) rfl (pa_c (pe_op op_fdiv (pv 0) pe_int) pa_nil)) (pa_c (pe_callTy call_tuple_of rfl (Z.tuple) bo_tuple (pa_c (pv 1) pa_nil)) pa_nil)))))))))), ?_⟩
  refine rd_start (σ := [some (.int c), none, none, none]) rfl ?_
  walk_at "rd"
  refine ite2 (fun _ => ?_) fun _ => ?_
  · exact ⟨by unfold CDiv; decide, _, rfl, bits_div' hc, fun v H' pv s' => q v _ H' (val_p pv) s'⟩
  · refine ⟨by decide, fun f hf => ⟨_, _, rfl, fun m m0 m1 => ?_⟩⟩
    have sf := same_upd hf (.lst [])
    have kf : upd H f (.lst []) f = some (.lst []) := upd_same
    generalize upd H f (.lst []) = H0 at sf kf ⊢
    walk_at "rd"
    refine ⟨by omega, by omega, lcR_range (fun _ v => plainB v = true) (small_le (by omega)) (fun i H2 R hi s2 hR => ?_) fun a H2 xs hDa s2 ha ly py => ?_⟩
    · walk_at "rd"
      exact ⟨_, _, rfl, fun m m0 m1 => ⟨_, rfl, bits_small m0 m1, fun v H3 pv s3 => hR v H3 pv s3⟩⟩
    · have pbx : ∀ v ∈ xs, plainB v = true := mem_of_ix py
      have px : ∀ v ∈ xs, plainV v := fun v hv => plain_of (pbx v hv)
      have kf2 := s2 _ _ kf
      have s02 := sf.trans s2
      walk_at "rd"
      refine ⟨xs, SqL.of ha, by omega, _, _, key_rank3 px, fun D H1 ys s1 hD0 hD hp so => ?_⟩
      have py : ∀ v ∈ ys, plainV v := fun v hv => px v (hp.mem_iff.mp hv)
      have hfD : f ≠ D := ne_of_none kf2 hD0
      have haf : a ≠ f := (ne_of_none kf hDa).symm
      have haD : a ≠ D := ne_of_none ha hD0
      have ly' := hp.length_eq
      have keepA : ∀ {H' H'' : Hp}, Same H' H'' → H' a = some (.lst xs) → H'' a = some (.lst xs) := fun s e => s _ _ e
      refine ⟨⟨_, SqL.of hD⟩, foR_list ys (fun i σ' H' => ∃ (fs : List V) (x2 : Option V), σ' = [some (.int c), some (.ref f), some (.ref a), x2] ∧ Same H H' ∧ H' a = some (.lst xs) ∧ H' D = some (.lst ys) ∧ H' f = some (.lst fs) ∧ Grow ys i fs) ?_ ?_ ?_ ?_⟩
      · exact ⟨[], _, rfl, s02.trans s1, s1 _ _ ha, hD, s1 _ _ kf2, Grow.start ys⟩
      · rintro i σ' H' _ ⟨fs, x2, rfl, sm, h0, h1, h2, g⟩
        exact SqL.of h1
      · rintro i x σ' H' hx ⟨fs, x2, rfl, sm, h0, h1, h2, g⟩
        have hi : i < ys.length := (List.getElem?_eq_some_iff.mp hx).1
        have pf : ∀ v ∈ fs, plainV v := fun v hv => py v (List.mem_of_mem_take ((g.mem v).mp hv))
        have pX := py x (List.mem_of_getElem? hx)
        have lf := g.len
        have app : ∀ H2 : Hp, Same H' H2 → (∀ l, fs.getLast? = some l → ltV l x = true) → tyV K "list" (.ref f) H2 ∧ ∃ xs', H2 f = some (.lst xs') ∧ xs'.length < sizeLine ∧ Same H (upd H2 f (.lst (xs' ++ [x]))) ∧ upd H2 f (.lst (xs' ++ [x])) a = some (.lst xs) ∧ upd H2 f (.lst (xs' ++ [x])) D = some (.lst ys) ∧ ∃ fs' : List V, upd H2 f (.lst (xs' ++ [x])) f = some (.lst fs') ∧ Grow ys (i + 1) fs' := fun H2 s2 hl =>
          ⟨.inl ⟨rfl, _, SqL.of (s2 _ _ h2)⟩, fs, s2 _ _ h2, small1000 (by omega), (sm.trans s2).updL hf _, by rw [upd_ne haf]; exact s2 _ _ h0, by rw [upd_ne (Ne.symm hfD)]; exact s2 _ _ h1, fs ++ [x], upd_same, g.put py so hx hl⟩
        walk_at "rd"
        refine ⟨by decide, fun e he => ⟨fs, SqL.of (by rw [upd_ne (ne_of_none h2 he)]; exact h2), [], SqL.of upd_same, flats pf, rfl, ?_⟩⟩
        rw [eqVs_nil]
        have se : Same H' (upd H' e (.lst [])) := same_upd he _
        cases hemp : fs.isEmpty with
        | true =>
          rw [if_pos rfl]
          have e0 : fs = [] := List.isEmpty_iff.mp hemp
          exact app _ se fun l hl => by rw [e0] at hl; cases hl
        | false =>
          rw [if_neg Bool.false_ne_true]
          obtain ⟨l, hl⟩ : ∃ l, fs.getLast? = some l := by
            cases q : fs.getLast? with
            | none => rw [List.getLast?_eq_none_iff] at q; rw [q] at hemp; cases hemp
            | some l => exact ⟨l, rfl⟩
          obtain ⟨fs', ef⟩ := List.getLast?_eq_some_iff.mp hl
          have pl : plainV l := pf l (List.mem_of_getLast? hl)
          refine ⟨fs, SqL.of (se _ _ h2), l, by rw [ef]; exact atI_last _ _, l, rfl, pl, fun p1 hp1 => ⟨x, rfl, pX, fun p2 hp2 => ?_⟩⟩
          have s2 : Same H' (upd (upd (upd H' e (.lst [])) p1 (.tup (rk3 l))) p2 (.tup (rk3 x))) := se.trans ((same_upd hp1 _).trans (same_upd hp2 _))
          refine ⟨p1, rfl, p2, rfl, rk3 l, SqT.of (by rw [upd_ne (ne_of_none upd_same hp2)]; exact upd_same), rk3 x, SqT.of upd_same, ltV l x, lex_rk3 pl pX, ?_⟩
          cases hlt : ltV l x with
          | true =>
            rw [if_pos rfl]
            exact app _ s2 fun l' hl' => by rw [hl] at hl'; cases hl'; exact hlt
          | false =>
            rw [if_neg Bool.false_ne_true]
            exact ⟨sm.trans s2, s2 _ _ h0, s2 _ _ h1, fs, s2 _ _ h2, g.skip py so hx hl hlt⟩
      · rintro σ' H' ⟨fs, x2, rfl, sm, h0, h1, h2, g⟩
        have lf := g.len
        have rz := g.rise hp
        have pbf : ∀ v ∈ fs, plainB v = true := fun v hv => pbx v ((rz.mem v).mp hv)
        walk_at "rd"
        refine ⟨fs, .inl (SqL.of h2), ite2 (fun _ => ?_) fun h2' => ?_⟩
        · have h0' : 0 < xs.length := by omega
          exact ⟨xs, SqL.of h0, xs[0], atI_nat (j := 0) (by simp [h0']), q _ _ _ (val_p (pbx _ (List.getElem_mem h0'))) sm⟩
        · refine ⟨by unfold CDiv; decide, _, rfl, bits_div' hc, fun v H4 pv s4 => ?_⟩
          walk_at "rd"
          refine ⟨fs, .inl ⟨SqL.of (s4 _ _ h2), fun l hl => ⟨show 2 ≤ sizeLine by decide, fun p hp => q _ (.c v fs) _ ⟨⟨p, l, rfl, upd_same, ?_⟩, ⟨pv, by omega, pbf, ?_⟩, fun _ _ e => by cases e; omega⟩ ?_⟩⟩⟩
          · rw [upd_ne (ne_of_none upd_same hp)]; exact upd_same
          · exact (rising_iff fun v hv => plain_of (pbf v hv)).mpr rz.up
          · exact sm.trans (s4.trans ((same_upd hl _).trans (same_upd hp _)))
--@SPLIT
def sp__law_written1 (_ : PySem.W.Frag) : Sp := fun vs H Q _ => ∃ v, vs = [v] ∧ plainB v = true ∧ Q (.str ⟨(shL v).toArray⟩) H
def sp__law_written (_ : PySem.W.Frag) : Sp := fun vs H Q _ => ∃ v r, vs = [v] ∧ RvAt H r v ∧ okR r ∧ szR r ∧ ∀ H', Same H H' → Q (.str ⟨(shR r).toArray⟩) H'
seal PE PT PW PA PS PSs PI PG PIfs PGs PO in
theorem ok__law_written1 {P : Program} {w : World} {K : PySem.W.Frag} {mg : Str → Option Value} {base : Heap} {C CE CT : Addr} {f : Addr} {fd : FuncData} (Z : Zs mg) (T : Tx K mg C CE CT) (G__law_written : Cal P w K mg base 0 "_law_written" ["_law_value_here"] (fun _ _ _ _ => False)) (F : Fun K "_law_written" "_law_written" s__law_written f fd) : FnOk P w K mg base CX0 1 f fd ["_law_value_here"] (sp__law_written1 K) := by
  refine F.ok sc__law_written (fun vs H Q E h => ?_) (fun cdv A outer s H vs Q E hr h => ?_)
  · obtain ⟨a, rfl, _⟩ := h; rfl
  obtain ⟨v, rfl, pb, q⟩ := h
  refine ⟨_, (@pss_cons _ _ _ _ _ (ps_if (pt_cmpR op_isN (pv 0) pe_non (nomark _)) (pss_one (ps_ret pe_str)) pss_nil)
      (@pss_cons _ _ _ _ _ (ps_if (pt_val (pe_callB call_isinst rfl (Z.isinstance) bo_isinstance (pa_c (pv 0) (pa_c (pe_bltn rfl (Z.str) bo_str (v := .ty "str") rfl) pa_nil))) (fun _ => rfl)) (pss_one (ps_ret (pe_op op_add_str (pe_op op_add_str (pe_op op_add_str pe_str (pe_callTy call_str_int rfl (Z.str) bo_str (pa_c (pe_callB call_len_str rfl (Z.len) bo_len (pa_c (pv 0) pa_nil)) pa_nil))) pe_str) (pv 0)))) pss_nil)
      (@pss_cons _ _ _ _ _ (ps_if (pt_val (pe_callB call_isinst rfl (Z.isinstance) bo_isinstance (pa_c (pv 0) (pa_c (pe_bltn rfl (Z.tuple) bo_tuple (v := .ty "tuple") rfl) pa_nil))) (fun _ => rfl)) (@pss_cons _ _ _ _ _ (ps_set (i := 1) sc__law_written.nd rfl (Or.inl rfl) (pe_op op_cat (pe_lst (pa_c (pe_cal G__law_written (k := 0) hr (by decide) rfl (pa_c (pe_ix ix_tup (pv 0) pe_int (fun _ _ => rfl)) pa_nil)) pa_nil)) (pe_lcomp ["_law_value_here", "_law_parts"] rfl (blkOk (N := ["_law_value_here", "_law_parts"]) (dsc := defScope s__law_written) rfl rfl (by decide +kernel)) (pi_tup (pe_ix ix_tup (pv 0) pe_int (fun _ _ => rfl))) (fun _ _ _ _ _ => pif_nil) (fun _ _ _ _ _ => (pe_cal G__law_written (k := 0) hr (by decide) rfl (pa_c (pv 0) pa_nil))))))
      (pss_one (ps_ret (pe_op op_add_str (pe_op op_add_str (pe_op op_add_str pe_str (pe_callTy call_str_int rfl (Z.str) bo_str (pa_c (pe_callB call_len_seq rfl (Z.len) bo_len (pa_c (pe_ix ix_tup (pv 0) pe_int (fun _ _ => rfl)) pa_nil)) pa_nil))) pe_str) (pe_bm PySem.F.plainAttrs_str PySem.F.slot_str_join PySem.F.type_str_join mt_join pe_str (pa_c (pv 1) pa_nil)))))) pss_nil)
      (pss_one (ps_ret (pe_callTy call_str_int rfl (Z.str) bo_str (pa_c (pv 0) pa_nil))))))), ?_⟩
  refine rd_start (σ := [some v, none]) rfl ?_
  have p := plain_of pb
  walk_at "rd"
  cases v with
  | non => walk_at "rd"; exact q
  | int i =>
    have p' : _ ∧ _ := p
    walk_at "rd"
    refine isI_of (.int i) kit_int_str ⟨_, rfl, ?_⟩
    walk_at "rd"
    refine isI_of (.int i) kit_int_tup ⟨_, rfl, ?_⟩
    walk_at "rd"
    refine ⟨log_ok (by omega), ?_⟩
    rw [str_of (num_sh i)]
    exact q
  | str z =>
    have hz : z.length ≤ 40 := p
    have h1 : (Str.ofString "t").length = 1 := rfl
    have h2 : (Str.ofString ":").length = 1 := rfl
    have ln := num_len (i := (z.length : Nat)) (by omega)
    walk_at "rd"
    refine isI_of (.str z) kit_str_str ⟨_, rfl, ?_⟩
    walk_at "rd"
    refine ⟨small_le (by omega), log_ok (by omega), (by walk_at "sl"), (by walk_at "sl"), (by walk_at "sl"), ?_⟩
    rw [str_of (text_codes z)]
    exact q
  | _ => exact p.elim
seal PE PT PW PA PS PSs PI PG PIfs PGs PO in
theorem ok__law_written {P : Program} {w : World} {K : PySem.W.Frag} {mg : Str → Option Value} {base : Heap} {C CE CT : Addr} {f : Addr} {fd : FuncData} (Z : Zs mg) (T : Tx K mg C CE CT) (G__law_written : Cal P w K mg base 1 "_law_written" ["_law_value_here"] (sp__law_written1 K)) (F : Fun K "_law_written" "_law_written" s__law_written f fd) : FnOk P w K mg base CX0 2 f fd ["_law_value_here"] (sp__law_written K) := by
  refine F.ok sc__law_written (fun vs H Q E h => ?_) (fun cdv A outer s H vs Q E hr h => ?_)
  · obtain ⟨a, r, rfl, _⟩ := h; rfl
  obtain ⟨v, r, rfl, hv, ok, sz, q⟩ := h
  refine ⟨_, (@pss_cons _ _ _ _ _ (ps_if (pt_cmpR op_isN (pv 0) pe_non (nomark _)) (pss_one (ps_ret pe_str)) pss_nil)
      (@pss_cons _ _ _ _ _ (ps_if (pt_val (pe_callB call_isinst rfl (Z.isinstance) bo_isinstance (pa_c (pv 0) (pa_c (pe_bltn rfl (Z.str) bo_str (v := .ty "str") rfl) pa_nil))) (fun _ => rfl)) (pss_one (ps_ret (pe_op op_add_str (pe_op op_add_str (pe_op op_add_str pe_str (pe_callTy call_str_int rfl (Z.str) bo_str (pa_c (pe_callB call_len_str rfl (Z.len) bo_len (pa_c (pv 0) pa_nil)) pa_nil))) pe_str) (pv 0)))) pss_nil)
      (@pss_cons _ _ _ _ _ (ps_if (pt_val (pe_callB call_isinst rfl (Z.isinstance) bo_isinstance (pa_c (pv 0) (pa_c (pe_bltn rfl (Z.tuple) bo_tuple (v := .ty "tuple") rfl) pa_nil))) (fun _ => rfl)) (@pss_cons _ _ _ _ _ (ps_set (i := 1) sc__law_written.nd rfl (Or.inl rfl) (pe_op op_cat (pe_lst (pa_c (pe_cal G__law_written (k := 1) hr (by decide) rfl (pa_c (pe_ix ix_tup (pv 0) pe_int (fun _ _ => rfl)) pa_nil)) pa_nil)) (pe_lcomp ["_law_value_here", "_law_parts"] rfl (blkOk (N := ["_law_value_here", "_law_parts"]) (dsc := defScope s__law_written) rfl rfl (by decide +kernel)) (pi_tup (pe_ix ix_tup (pv 0) pe_int (fun _ _ => rfl))) (fun _ _ _ _ _ => pif_nil) (fun _ _ _ _ _ => (pe_cal G__law_written (k := 1) hr (by decide) rfl (pa_c (pv 0) pa_nil))))))
      (pss_one (ps_ret (pe_op op_add_str (pe_op op_add_str (pe_op op_add_str pe_str (pe_callTy call_str_int rfl (Z.str) bo_str (pa_c (pe_callB call_len_seq rfl (Z.len) bo_len (pa_c (pe_ix ix_tup (pv 0) pe_int (fun _ _ => rfl)) pa_nil)) pa_nil))) pe_str) (pe_bm PySem.F.plainAttrs_str PySem.F.slot_str_join PySem.F.type_str_join mt_join pe_str (pa_c (pv 1) pa_nil)))))) pss_nil)
      (pss_one (ps_ret (pe_callTy call_str_int rfl (Z.str) bo_str (pa_c (pv 0) pa_nil))))))), ?_⟩
  refine rd_start (σ := [some v, none]) rfl ?_
  walk_at "rd"
  cases r with
  | p u =>
    have e : v = u := hv
    subst e
    have q := q _ (Same.refl _)
    have p := plain_of ok
    cases v with
    | non => walk_at "rd"; exact q
    | int i =>
      have p' : _ ∧ _ := p
      walk_at "rd"
      refine isI_of (.int i) kit_int_str ⟨_, rfl, ?_⟩
      walk_at "rd"
      refine isI_of (.int i) kit_int_tup ⟨_, rfl, ?_⟩
      walk_at "rd"
      refine ⟨log_ok (by omega), ?_⟩
      rw [str_of (num_sh i)]
      exact q
    | str z =>
      have hz : z.length ≤ 40 := p
      have h1 : (Str.ofString "t").length = 1 := rfl
      have h2 : (Str.ofString ":").length = 1 := rfl
      have ln := num_len (i := (z.length : Nat)) (by omega)
      walk_at "rd"
      refine isI_of (.str z) kit_str_str ⟨_, rfl, ?_⟩
      walk_at "rd"
      refine ⟨small_le (by omega), log_ok (by omega), (by walk_at "sl"), (by walk_at "sl"), (by walk_at "sl"), ?_⟩
      rw [str_of (text_codes z)]
      exact q
    | _ => exact p.elim
  | c was nows =>
    obtain ⟨a, b, rfl, ha, hb⟩ := hv
    have sz : nows.length ≤ 50000 := sz
    walk_at "rd"
    refine isI_of (.tup ha) kit_tup_str ⟨_, rfl, ?_⟩
    walk_at "rd"
    refine isI_of (.tup ha) kit_tup_tup ⟨_, rfl, ?_⟩
    walk_at "rd"
    refine ⟨_, SqT.of ha, was, at0 _ _, was, rfl, ok.1, one_sz _, fun p hp => ?_⟩
    have s1 := same_upd hp (.lst [V.str ⟨(shL was).toArray⟩])
    have kp : upd H p (.lst [V.str ⟨(shL was).toArray⟩]) p = some (.lst [V.str ⟨(shL was).toArray⟩]) := upd_same
    generalize upd H p (.lst [V.str ⟨(shL was).toArray⟩]) = H1 at s1 kp ⊢
    refine ⟨_, SqT.of (s1 _ _ ha), .ref b, at1 _ _ _, b, rfl, ⟨_, SqT.of (s1 _ _ hb)⟩, lcR_tup nows (fun j v => ∃ u, nows[j]? = some u ∧ v = .str ⟨(shL u).toArray⟩) (SqT.of (s1 _ _ hb)) (big_le (by omega)) (fun i x H2 R hx s4 hR => ?_) fun D H2 ys hD s4 hy ly py => ?_⟩
    · walk_at "rd"
      exact ⟨x, rfl, ok.2.2.1 x (List.mem_of_getElem? hx), hR _ _ ⟨x, hx, rfl⟩ (Same.refl _)⟩
    · have ey : ys = (nows.map fun v => (⟨(shL v).toArray⟩ : Str)).map V.str := by rw [List.map_map]; exact ptw ly py
      have s14 := s1.trans s4
      have h1 : (Str.ofString "c").length = 1 := rfl
      have h4 : (Str.ofString " ").length = 1 := rfl
      have lc := num_len (i := (nows.length : Nat)) (by omega)
      refine ⟨D, rfl, _, s4 _ _ kp, ys, hy, big_le (by rw [ly, List.length_singleton]; omega), fun p2 hp2 => ?_⟩
      have s5 := s14.trans (same_upd hp2 (.lst ([V.str ⟨(shL was).toArray⟩] ++ ys)))
      refine ⟨_, SqT.of (s5 _ _ ha), .ref b, at1 _ _ _, b, rfl, nows, .inr (SqT.of (s5 _ _ hb)), log_ok (by omega), (by walk_at "sl"), (by walk_at "sl"), ?_⟩
      have hs : (((was :: nows).map fun v => (⟨(shL v).toArray⟩ : Str)).map (·.length)).sum ≤ (nows.length + 1) * 80 := by
        have := sum_le (n := 80) (((was :: nows).map fun v => (⟨(shL v).toArray⟩ : Str)).map (·.length)) fun x hx => by
          obtain ⟨z, hz, rfl⟩ := List.mem_map.mp hx
          obtain ⟨u, hu, rfl⟩ := List.mem_map.mp hz
          rw [strV_len]
          exact (shL_len ((List.mem_cons.mp hu).elim (fun e => by rw [e]; exact ok.1) (ok.2.2.1 u))).2
        simpa using this
      have hj := join_len (Str.ofString " ") ((was :: nows).map fun v => (⟨(shL v).toArray⟩ : Str))
      have hl : ((was :: nows).map fun v => (⟨(shL v).toArray⟩ : Str)).length = nows.length + 1 := by rw [List.length_map, List.length_cons]
      rw [hl, h4] at hj
      refine ⟨rfl, (was :: nows).map (fun v => (⟨(shL v).toArray⟩ : Str)), SqL.of (by rw [upd_same, ey]; rfl), by rw [hl, h4]; omega, Nat.le_trans (show _ ≤ 5000000 by simp only [strLen_append]; omega) (by decide), ?_⟩
      have eq : (Str.ofString "c" ++ Str.ofString (toString ((nows.length : Nat) : Int)) ++ Str.ofString " " ++ Txt.join (Str.ofString " ") ((was :: nows).map fun v => (⟨(shL v).toArray⟩ : Str))).cps.toList = shCl was nows := by
        rw [PySem.W.KT.app_list, PySem.W.KT.app_list, PySem.W.KT.app_list, num_codes, List.map_cons, join_sp, List.flatMap_map]
        show [99] ++ nd nows.length ++ [32] ++ ((shL was).toArray.toList ++ (nows.flatMap fun v => 32 :: (shL v).toArray.toList)) = 99 :: (nd nows.length ++ 32 :: (shL was ++ shNs nows))
        rw [shNs_flat]
        simp
      rw [str_of eq]
      exact q _ s5
def sp__law_is_plain (_ : PySem.W.Frag) : Sp := fun vs H Q _ => ∃ v, vs = [v] ∧ plainB v = true ∧ Q (.bl true) H
theorem no_nl {z : Str} (h : plainB (.str z) = true) : ¬ 10 ∈ z.cps.toList := by
  have hp : (false || (false || (decide (0 ≤ z.length ∧ z.length ≤ 40) && z.cps.toList.all signB))) = true := h
  rw [Bool.false_or, Bool.false_or, Bool.and_eq_true, List.all_eq_true] at hp
  intro h10
  exact absurd (hp.2 10 h10) (by decide)
seal PE PT PW PA PS PSs PI PG PIfs PGs PO in
theorem ok__law_is_plain {P : Program} {w : World} {K : PySem.W.Frag} {mg : Str → Option Value} {base : Heap} {C CE CT : Addr} {f : Addr} {fd : FuncData} (Z : Zs mg) (T : Tx K mg C CE CT) (F : Fun K "_law_is_plain" "_law_is_plain" s__law_is_plain f fd) : FnOk P w K mg base CX0 1 f fd ["_law_thing"] (sp__law_is_plain K) := by
  refine F.ok sc__law_is_plain (fun vs H Q E h => ?_) (fun cdv A outer s H vs Q E hr h => ?_)
  · obtain ⟨a, rfl, _⟩ := h; rfl
  obtain ⟨v, rfl, pb, q⟩ := h
  refine ⟨_, (@pss_cons _ _ _ _ _ (ps_if (pt_val (pe_callB call_isinst rfl (Z.isinstance) bo_isinstance (pa_c (pv 0) (pa_c (pe_bltn rfl (Z.str) bo_str (v := .ty "str") rfl) pa_nil))) (fun _ => rfl)) (pss_one (ps_ret (pe_and (pe_cmpR op_lt (pe_callB call_len_str rfl (Z.len) bo_len (pa_c (pv 0) pa_nil)) pe_int (nomark _)) (pe_one (pe_cmpR op_notin_str pe_str (pv 0) rfl))))) pss_nil)
      (@pss_cons _ _ _ _ _ (ps_if (PW.pt (pw_and (pt_val (pe_callB call_isinst rfl (Z.isinstance) bo_isinstance (pa_c (pv 0) (pa_c (pe_bltn rfl (Z.int) bo_int (v := .ty "int") rfl) pa_nil))) (fun _ => rfl)) (pw_and1 (pt_not (pt_val (pe_callB call_isinst rfl (Z.isinstance) bo_isinstance (pa_c (pv 0) (pa_c (pe_bltn rfl (Z.bool) bo_bool (v := .ty "bool") rfl) pa_nil))) (fun _ => rfl)))))) (pss_one (ps_ret (pe_cmpR op_lt (pe_callB call_abs rfl (Z.abs) bo_abs (pa_c (pv 0) pa_nil)) (pe_op op_pow pe_int pe_int) (nomark _)))) pss_nil)
      (pss_one (ps_ret (pe_cmpR op_isN (pv 0) pe_non (nomark _)))))), ?_⟩
  refine rd_start (σ := [some v]) rfl ?_
  have p := plain_of pb
  walk_at "rd"
  cases v with
  | non =>
    refine isI_of .non kit_non_str ⟨_, rfl, ?_⟩
    rw [if_neg Bool.false_ne_true]
    refine isI_of .non kit_non_int ⟨_, rfl, ?_⟩
    rw [if_neg Bool.false_ne_true]
    exact q
  | int i =>
    have p' : _ ∧ _ := p
    refine isI_of (.int i) kit_int_str ⟨_, rfl, ?_⟩
    rw [if_neg Bool.false_ne_true]
    refine isI_of (.int i) kit_int_int ⟨_, rfl, ?_⟩
    rw [if_pos rfl]
    refine isI_of (.int i) kit_int_bool ⟨_, rfl, ?_⟩
    rw [if_pos rfl]
    refine ⟨i, rfl, by unfold CPow; decide, ?_⟩
    rw [decide_eq_true (by split <;> omega)]
    exact q
  | str z =>
    have hz : z.length ≤ 40 := p
    refine isI_of (.str z) kit_str_str ⟨_, rfl, ?_⟩
    rw [if_pos rfl]
    refine ⟨z, rfl, small_le (by omega), ?_⟩
    rw [if_pos (by omega)]
    refine ⟨z, rfl, ?_⟩
    rw [show Str.ofString "\n" = ⟨#[10]⟩ by decide, has_sign, decide_eq_false (no_nl pb)]
    exact q
  | _ => exact p.elim
--@SPLIT
theorem rising_at : ∀ {ns : List V} {i : Nat} {x y : V}, risingB ns = true → ns[i]? = some x → ns[i + 1]? = some y → ltV x y = true
  | a :: b :: r, 0, x, y, h, e1, e2 => by
    rw [risingB, Bool.and_eq_true] at h
    cases e1; cases e2
    exact h.1
  | a :: b :: r, i + 1, x, y, h, e1, e2 => by
    rw [risingB, Bool.and_eq_true] at h
    exact rising_at (ns := b :: r) (i := i) h.2 (by simpa using e1) (by simpa using e2)
  | [a], i, x, y, _, _, e2 => by simp at e2
  | [], i, x, y, _, e1, _ => by simp at e1
def sp__law_is_value (_ : PySem.W.Frag) : Sp := fun vs H Q _ => ∃ v r, vs = [v] ∧ RvAt H r v ∧ okR r ∧ szR r ∧ ∀ H', Same H H' → Q (.bl true) H'
seal PE PT PW PA PS PSs PI PG PIfs PGs PO in
theorem ok__law_is_value {P : Program} {w : World} {K : PySem.W.Frag} {mg : Str → Option Value} {base : Heap} {C CE CT : Addr} {f : Addr} {fd : FuncData} (Z : Zs mg) (T : Tx K mg C CE CT) (G__law_is_plain : Cal P w K mg base 1 "_law_is_plain" ["_law_thing"] (sp__law_is_plain K)) (G__law_rank : Cal P w K mg base 1 "_law_rank" ["_law_thing"] (sp__law_rank K)) (F : Fun K "_law_is_value" "_law_is_value" s__law_is_value f fd) : FnOk P w K mg base CX0 2 f fd ["_law_thing"] (sp__law_is_value K) := by
  refine F.ok sc__law_is_value (fun vs H Q E h => ?_) (fun cdv A outer s H vs Q E hr h => ?_)
  · obtain ⟨a, r, rfl, _⟩ := h; rfl
  obtain ⟨v, r, rfl, hv, ok, sz, q⟩ := h
  refine ⟨_, (@pss_cons _ _ _ _ _ (ps_if (pt_not (pt_val (pe_callB call_isinst rfl (Z.isinstance) bo_isinstance (pa_c (pv 0) (pa_c (pe_bltn rfl (Z.tuple) bo_tuple (v := .ty "tuple") rfl) pa_nil))) (fun _ => rfl))) (pss_one (ps_ret (pe_cal G__law_is_plain (k := 1) hr (by decide) rfl (pa_c (pv 0) pa_nil)))) pss_nil)
      (@pss_cons _ _ _ _ _ (ps_if (PW.pt (pw_or (pt_cmpR op_ne (pe_callB call_len_seq rfl (Z.len) bo_len (pa_c (pv 0) pa_nil)) pe_int (nomark _)) (pw_or (pt_not (pt_val (pe_callB call_isinst rfl (Z.isinstance) bo_isinstance (pa_c (pe_ix ix_tup (pv 0) pe_int (fun _ _ => rfl)) (pa_c (pe_bltn rfl (Z.tuple) bo_tuple (v := .ty "tuple") rfl) pa_nil))) (fun _ => rfl))) (pw_or1 (pt_cmpR op_lt (pe_callB call_len_seq rfl (Z.len) bo_len (pa_c (pe_ix ix_tup (pv 0) pe_int (fun _ _ => rfl)) pa_nil)) pe_int (nomark _)))))) (pss_one (ps_ret pe_bl)) pss_nil)
      (@pss_cons _ _ _ _ _ (ps_for PassesOwn.never rfl (pi_list (pe_op op_cat (pe_lst (pa_c (pe_ix ix_tup (pv 0) pe_int (fun _ _ => rfl)) pa_nil)) (pe_callTy call_list_of rfl (Z.list) bo_list (pa_c (pe_ix ix_tup (pv 0) pe_int (fun _ _ => rfl)) pa_nil)))) (pg_name (i := 1) sc__law_is_value.nd rfl (Or.inl rfl)) (pss_one (ps_if (pt_not (pt_val (pe_cal G__law_is_plain (k := 1) hr (by decide) rfl (pa_c (pv 1) pa_nil)) (fun _ => rfl))) (pss_one (ps_ret pe_bl)) pss_nil)))
      (@pss_cons _ _ _ _ _ (ps_lcomp (j := 2) ["_law_thing", "", "_law_ranks", "_law_k"] rfl sc__law_is_value.nd rfl rfl (blkOk (N := ["_law_thing", "_law_side", "_law_ranks", "_law_k"]) (dsc := defScope s__law_is_value) rfl rfl (by decide +kernel)) (pi_tup (pe_ix ix_tup (pv 0) pe_int (fun _ _ => rfl))) (fun _ _ _ _ _ => pif_nil) (fun _ _ _ _ _ => (pe_cal G__law_rank (k := 1) hr (by decide) rfl (pa_c (pv 0) pa_nil))))
      (@pss_cons _ _ _ _ _ (ps_for PassesOwn.never rfl (pi_range2 rfl (Z.range) (pa_c pe_int (pa_c (pe_callB call_len_seq rfl (Z.len) bo_len (pa_c (pv 2) pa_nil)) pa_nil))) (pg_name (i := 3) sc__law_is_value.nd rfl (Or.inl rfl)) (pss_one (ps_if (pt_not (pt_cmpR (op_ltV (hr.units0)) (pe_ix ix_list (pv 2) (pe_op op_sub (pv 3) pe_int) (fun _ _ => rfl)) (pe_ix ix_list (pv 2) (pv 3) (fun _ _ => rfl)) (nomark _))) (pss_one (ps_ret pe_bl)) pss_nil)))
      (pss_one (ps_ret pe_bl))))))), ?_⟩
  refine rd_start (σ := [some v, none, none, none]) rfl ?_
  walk_at "rd"
  cases r with
  | p u =>
    have e : v = u := hv
    subst e
    have go : sp__law_is_plain K [v] H Q E0 := ⟨v, rfl, ok, q _ (Same.refl _)⟩
    have p := plain_of ok
    cases v with
    | non => refine isI_of .non kit_non_tup ⟨_, rfl, ?_⟩; rw [if_pos rfl]; exact go
    | int i => refine isI_of (.int i) kit_int_tup ⟨_, rfl, ?_⟩; rw [if_pos rfl]; exact go
    | str z => refine isI_of (.str z) kit_str_tup ⟨_, rfl, ?_⟩; rw [if_pos rfl]; exact go
    | _ => exact p.elim
  | c was nows =>
    obtain ⟨a, b, rfl, ha, hb⟩ := hv
    have sz : nows.length ≤ 50000 := sz
    refine isI_of (.tup ha) kit_tup_tup ⟨_, rfl, ?_⟩
    rw [if_neg (by decide)]
    refine ⟨a, rfl, _, .inr (SqT.of ha), ?_⟩
    rw [if_neg (by simp)]
    refine ⟨a, rfl, _, SqT.of ha, .ref b, at1 _ _ _, isI_of (.tup hb) kit_tup_tup ⟨_, rfl, ?_⟩⟩
    rw [if_neg (by decide)]
    refine ⟨a, rfl, _, SqT.of ha, .ref b, at1 _ _ _, b, rfl, nows, .inr (SqT.of hb), ?_⟩
    have h2 := ok.2.1
    rw [if_neg (by omega)]
    refine ⟨a, rfl, _, SqT.of ha, was, at0 _ _, one_sz _, fun p hp => ?_⟩
    have s1 := same_upd hp (.lst [was])
    have kp : upd H p (.lst [was]) p = some (.lst [was]) := upd_same
    generalize upd H p (.lst [was]) = H1 at s1 kp ⊢
    refine ⟨a, rfl, _, SqT.of (s1 _ _ ha), .ref b, at1 _ _ _, b, rfl, nows, .inr (SqT.of (s1 _ _ hb)), fun l hl => ?_⟩
    have s2 := same_upd hl (.lst nows)
    have kl : upd H1 l (.lst nows) l = some (.lst nows) := upd_same
    generalize upd H1 l (.lst nows) = H2 at s2 kl ⊢
    refine ⟨_, s2 _ _ kp, _, kl, big_le (by rw [List.length_singleton]; omega), fun p3 hp3 => ⟨⟨_, SqL.of upd_same⟩, ?_⟩⟩
    have s3 := same_upd hp3 (.lst ([was] ++ nows))
    have k3 : upd H2 p3 (.lst ([was] ++ nows)) p3 = some (.lst ([was] ++ nows)) := upd_same
    generalize upd H2 p3 (.lst ([was] ++ nows)) = H3 at s3 k3 ⊢
    have s03 := (s1.trans s2).trans s3
    have pall : ∀ u ∈ [was] ++ nows, plainB u = true := fun u hu => by
      rcases List.mem_append.mp hu with e | e
      · rw [List.mem_singleton.mp e]; exact ok.1
      · exact ok.2.2.1 u e
    have pn : ∀ u ∈ nows, plainV u := fun u hu => plain_of (ok.2.2.1 u hu)
    refine foR_list ([was] ++ nows) (fun i σ' H' => ∃ w, σ' = [some (V.ref a), w, none, none] ∧ H' = H3) ⟨_, rfl, rfl⟩ ?_ ?_ ?_
    · rintro i σ' H' _ ⟨w, rfl, rfl⟩
      exact SqL.of k3
    · rintro i x σ' H' hx ⟨w, rfl, rfl⟩
      walk_at "rd"
      refine ⟨x, rfl, pall x (List.mem_of_getElem? hx), true, rfl, ?_⟩
      rw [if_neg (by decide)]
    · rintro σ' H' ⟨w, rfl, rfl⟩
      walk_at "rd"
      have hb3 := s03 _ _ hb
      refine ⟨_, SqT.of (s03 _ _ ha), .ref b, at1 _ _ _, b, rfl, ⟨_, SqT.of hb3⟩, lcR_tupT nows (fun H i v => ∃ t u, v = .ref t ∧ nows[i]? = some u ∧ H t = some (.tup (rk3 u))) (fun H H' i v st h => ?_) (SqT.of hb3) (big_le (by omega)) (fun i x H4 R hx s4 hR => ?_) fun D H4 ys hD s4 hy ly py => ?_⟩
      · obtain ⟨t, u, e1, e2, e3⟩ := h
        exact ⟨t, u, e1, e2, st _ _ e3⟩
      · walk_at "rd"
        exact ⟨x, rfl, pn x (List.mem_of_getElem? hx), fun p hp => hR _ _ ⟨p, x, rfl, hx, upd_same⟩ (same_upd hp _)⟩
      · walk_at "rd"
        refine ⟨ys, .inl (SqL.of hy), 1, _, ⟨rfl, rfl⟩, ⟨by decide, by decide, by omega, by omega⟩, foR_range (fun i σ' H' => ∃ w3, σ' = [some (V.ref a), w, some (V.ref D), w3] ∧ H' = H4) ⟨_, rfl, rfl⟩ ?_ ?_⟩
        · rintro i σ' H' hi ⟨w3, rfl, rfl⟩
          have hi1 : i + 1 < ys.length := by omega
          obtain ⟨t1, u1, e1, f1, g1⟩ := py i ys[i] (List.getElem?_eq_getElem (by omega))
          obtain ⟨t2, u2, e2, f2, g2⟩ := py (i + 1) ys[i + 1] (List.getElem?_eq_getElem hi1)
          have p1 := pn u1 (List.mem_of_getElem? f1)
          have p2 := pn u2 (List.mem_of_getElem? f2)
          walk_at "rd"
          refine ⟨ys, SqL.of hy, .ref t1, by rw [show (1 + (i : Int) - 1) = ((i : Nat) : Int) by omega]; exact atI_nat (by rw [List.getElem?_eq_getElem (by omega), e1]), ys, SqL.of hy, .ref t2, by rw [show (1 + (i : Int)) = ((i + 1 : Nat) : Int) by omega]; exact atI_nat (by rw [List.getElem?_eq_getElem hi1, e2]), t1, rfl, t2, rfl, _, SqT.of g1, _, SqT.of g2, _, lex_rk3 p1 p2, ?_⟩
          rw [rising_at ok.2.2.2 f1 f2, if_neg (by decide)]
          exact ⟨_, rfl⟩
        · rintro σ' H' ⟨w3, rfl, rfl⟩
          walk_at "rd"
          exact q _ (s03.trans s4)
theorem slice_le (z : Str) (lo hi : Option Int) : (Txt.slice z lo hi).length ≤ z.length := by
  rw [← z_len, ← z_len, slice_list]
  unfold cutS
  rw [List.length_take, List.length_drop]; omega
def sp__law_spoiled (_ : PySem.W.Frag) : Sp := fun vs H Q _ => ∃ (c : Int) (z : Str), vs = [.int c, .str z] ∧ bitsOk c ∧ 1 ≤ z.length ∧ z.length ≤ 20000 ∧ ∀ z' : Str, z'.length ≤ 50000 → Q (.str z') H
seal PE PT PW PA PS PSs PI PG PIfs PGs PO in
theorem ok__law_spoiled {P : Program} {w : World} {K : PySem.W.Frag} {mg : Str → Option Value} {base : Heap} {C CE CT : Addr} {f : Addr} {fd : FuncData} (Z : Zs mg) (T : Tx K mg C CE CT) (G__law_mix : Cal P w K mg base 1 "_law_mix" ["_law_cell", "_law_k"] (sp__law_mix K)) (G__law_sign : Cal P w K mg base 1 "_law_sign" ["_law_number"] (sp__law_sign K)) (F : Fun K "_law_spoiled" "_law_spoiled" s__law_spoiled f fd) : FnOk P w K mg base CX0 2 f fd ["_law_cell", "_law_some"] (sp__law_spoiled K) := by
  refine F.ok sc__law_spoiled (fun vs H Q E h => ?_) (fun cdv A outer s H vs Q E hr h => ?_)
  · obtain ⟨c, z, rfl, _⟩ := h; rfl
  obtain ⟨c, z, rfl, hc, hz1, hz2, q⟩ := h
  refine ⟨_, (@pss_cons _ _ _ _ _ (ps_set (i := 2) sc__law_spoiled.nd rfl (Or.inl rfl) (pe_op op_mod (pe_cal G__law_mix (k := 1) hr (by decide) rfl (pa_c (pv 0) (pa_c pe_int pa_nil))) (pe_callB call_len_str rfl (Z.len) bo_len (pa_c (pv 1) pa_nil))))
      (@pss_cons _ _ _ _ _ (ps_set (i := 3) sc__law_spoiled.nd rfl (Or.inl rfl) (pe_ix ix_str pe_str (pe_op op_mod (pe_cal G__law_mix (k := 1) hr (by decide) rfl (pa_c (pv 0) (pa_c pe_int pa_nil))) pe_int) (fun _ _ => rfl)))
      (@pss_cons _ _ _ _ _ (ps_if (pt_cmpR op_eq (pe_op op_mod (pv 0) pe_int) pe_int (nomark _)) (pss_one (ps_set (i := 3) sc__law_spoiled.nd rfl (Or.inl rfl) (pe_cal G__law_sign (k := 1) hr (by decide) rfl (pa_c (pe_cal G__law_mix (k := 1) hr (by decide) rfl (pa_c (pv 0) (pa_c pe_int pa_nil))) pa_nil)))) pss_nil)
      (@pss_cons _ _ _ _ _ (ps_if (pt_cmpR op_eq (pe_op op_mod (pv 0) pe_int) pe_int (nomark _)) (pss_one (ps_set (i := 3) sc__law_spoiled.nd rfl (Or.inl rfl) pe_str)) pss_nil)
      (@pss_cons _ _ _ _ _ (ps_if (pt_cmpR op_eq (pe_op op_mod (pe_op op_fdiv (pv 0) pe_int) pe_int) pe_int (nomark _)) (pss_one (ps_ret (pe_op op_add_str (pe_op op_add_str (pe_slice sl_str (pv 1) po_none (po_some (pv 2))) (pv 3)) (pe_slice sl_str (pv 1) (po_some (pv 2)) po_none)))) pss_nil)
      (@pss_cons _ _ _ _ _ (ps_if (pt_cmpR op_eq (pe_op op_mod (pe_op op_fdiv (pv 0) pe_int) pe_int) pe_int (nomark _)) (pss_one (ps_ret (pe_op op_add_str (pe_op op_add_str (pe_slice sl_str (pv 1) po_none (po_some (pv 2))) (pv 3)) (pe_slice sl_str (pv 1) (po_some (pe_op op_add (pv 2) pe_int)) po_none)))) pss_nil)
      (pss_one (ps_ret (pe_op op_add_str (pe_slice sl_str (pv 1) po_none (po_some (pv 2))) (pe_slice sl_str (pv 1) (po_some (pe_op op_add (pv 2) pe_int)) po_none)))))))))), ?_⟩
  refine rd_start (σ := [some (.int c), some (.str z), none, none]) rfl ?_
  have hsz : z.length ≤ sizeLine := big_le (by omega)
  have tail : ∀ (i : Int) (o : Str), o.length = 1 → CDiv c 15 ∧ (if c / 15 % 3 = 0 then z.length ≤ sizeLine ∧ (Txt.slice z none (some (i % ↑z.length))).length + o.length ≤ sizeLine ∧ z.length ≤ sizeLine ∧ (Txt.slice z none (some (i % ↑z.length)) ++ o).length + (Txt.slice z (some (i % ↑z.length)) none).length ≤ sizeLine ∧ Q (V.str (Txt.slice z none (some (i % ↑z.length)) ++ o ++ Txt.slice z (some (i % ↑z.length)) none)) H
      else CDiv c 15 ∧ if c / 15 % 3 = 1 then z.length ≤ sizeLine ∧ (Txt.slice z none (some (i % ↑z.length))).length + o.length ≤ sizeLine ∧ z.length ≤ sizeLine ∧ (Txt.slice z none (some (i % ↑z.length)) ++ o).length + (Txt.slice z (some (i % ↑z.length + 1)) none).length ≤ sizeLine ∧ Q (V.str (Txt.slice z none (some (i % ↑z.length)) ++ o ++ Txt.slice z (some (i % ↑z.length + 1)) none)) H
      else z.length ≤ sizeLine ∧ z.length ≤ sizeLine ∧ (Txt.slice z none (some (i % ↑z.length))).length + (Txt.slice z (some (i % ↑z.length + 1)) none).length ≤ sizeLine ∧ Q (V.str (Txt.slice z none (some (i % ↑z.length)) ++ Txt.slice z (some (i % ↑z.length + 1)) none)) H) := fun i o ho => by
    have l1 := slice_le z none (some (i % ↑z.length))
    have l2 := slice_le z (some (i % ↑z.length)) none
    have l3 := slice_le z (some (i % ↑z.length + 1)) none
    refine ⟨by unfold CDiv; omega, ite2 (fun _ => ?_) fun _ => ⟨by unfold CDiv; omega, ite2 (fun _ => ?_) fun _ => ?_⟩⟩
    · exact ⟨hsz, big_le (by omega), hsz, big_le (by rw [strLen_append]; omega), q _ (by rw [strLen_append, strLen_append]; omega)⟩
    · exact ⟨hsz, big_le (by omega), hsz, big_le (by rw [strLen_append]; omega), q _ (by rw [strLen_append, strLen_append]; omega)⟩
    · exact ⟨hsz, hsz, big_le (by omega), q _ (by rw [strLen_append]; omega)⟩
  walk_at "rd"
  refine ⟨_, _, rfl, fun i i0 i1 => ⟨hsz, _, rfl, by omega, _, _, rfl, fun j j0 j1 => ⟨_, rfl, by decide, ?_⟩⟩⟩
  obtain ⟨x, hx, hm⟩ := at_some (l := (Str.ofString "~~ctt-:0012359 a:c").cps.toList) (k := j % 18) (by omega) (by rw [show (Str.ofString "~~ctt-:0012359 a:c").cps.toList.length = 18 by decide]; omega)
  refine ⟨x, hx, ite2 (fun _ => ?_) fun _ => ?_⟩
  · refine ⟨_, _, rfl, fun m m0 m1 => ⟨_, rfl, fun y hy => ?_⟩⟩
    walk_at "rd"
    exact ite2 (fun _ => tail _ _ rfl) fun _ => tail _ _ rfl
  · exact ite2 (fun _ => tail _ _ rfl) fun _ => tail _ _ rfl
--@SPLIT
def sp__law_piece (_ : PySem.W.Frag) : Sp := fun vs H Q _ => ∃ c : Int, vs = [.int c] ∧ ∀ (z : Str) H', z.length ≤ 20 → Same H H' → Q (.str z) H'
seal PE PT PW PA PS PSs PI PG PIfs PGs PO in
theorem ok__law_piece {P : Program} {w : World} {K : PySem.W.Frag} {mg : Str → Option Value} {base : Heap} {C CE CT : Addr} {f : Addr} {fd : FuncData} (Z : Zs mg) (T : Tx K mg C CE CT) (F : Fun K "_law_piece" "_law_piece" s__law_piece f fd) : FnOk P w K mg base CX0 1 f fd ["_law_number"] (sp__law_piece K) := by
  refine F.ok sc__law_piece (fun vs H Q E h => ?_) (fun cdv A outer s H vs Q E hr h => ?_)
  · obtain ⟨a, rfl, _⟩ := h; rfl
  obtain ⟨c, rfl, q⟩ := h
  refine ⟨_, (@pss_cons _ _ _ _ _ (ps_set (i := 1) sc__law_piece.nd rfl (Or.inl rfl) (pe_lst (pa_c pe_str (pa_c pe_str (pa_c pe_str (pa_c pe_str (pa_c pe_str (pa_c pe_str (pa_c pe_str (pa_c pe_str (pa_c pe_str (pa_c pe_str (pa_c pe_str (pa_c pe_str (pa_c pe_str (pa_c pe_str (pa_c pe_str (pa_c pe_str (pa_c pe_str pa_nil)))))))))))))))))))
      (@pss_cons _ _ _ _ _ (ps_expr (pe_bm PySem.F.plainAttrs_list PySem.F.slot_list_append PySem.F.type_list_append mt_append (pv 1) (pa_c pe_str pa_nil)))
      (pss_one (ps_ret (pe_ix ix_list (pv 1) (pe_op op_mod (pv 0) pe_int) (fun _ _ => rfl)))))), ?_⟩
  refine rd_start (σ := [some (.int c), none]) rfl ?_
  walk_at "rd"
  refine ⟨small_le (by show 17 ≤ 1000; decide), fun p hp => ⟨.inl ⟨rfl, _, SqL.of upd_same⟩, _, upd_same, small1000 (by show 17 ≤ 1000; decide), _, SqL.of upd_same, ?_⟩⟩
  obtain ⟨v, hv, hm⟩ := at_some (l := [V.str (Str.ofString "c2 "), V.str (Str.ofString "c3 "), V.str (Str.ofString "~"), V.str (Str.ofString "5"), V.str (Str.ofString "-"), V.str (Str.ofString "0"), V.str (Str.ofString "t0:"), V.str (Str.ofString "t1:"), V.str (Str.ofString "a"), V.str (Str.ofString " "), V.str (Str.ofString "12"), V.str (Str.ofString "t"), V.str (Str.ofString "c"), V.str (Str.ofString ":"), V.str (Str.ofString " ~"), V.str (Str.ofString " 7"), V.str (Str.ofString " t1:b")] ++ [V.str (Str.ofString "c2 ~ ~ 1")]) (k := c % 18) (by omega) (by show _ < (18 : Int); omega)
  refine ⟨v, hv, ?_⟩
  obtain ⟨z, e, hz⟩ : ∃ z : Str, v = .str z ∧ z.length ≤ 20 := by
    simp only [List.cons_append, List.nil_append, List.mem_cons, List.not_mem_nil, or_false] at hm
    rcases hm with e | e | e | e | e | e | e | e | e | e | e | e | e | e | e | e | e | e <;> exact ⟨_, e, by decide⟩
  rw [e]
  exact q z _ hz ((same_upd hp _).updL hp _)
/-- a text that the law makes: of some signs, of not too many; one that is due is read -/
def sp__law_text (_ : PySem.W.Frag) : Sp := fun vs H Q _ => ∃ c : Int, vs = [.int c] ∧ bitsOk c ∧ ∀ (z : Str) H', z.length ≤ 60000 → (c % 6 < 2 → ∃ r, readL z.cps.toList = some r) → Same H H' → Q (.str z) H'
theorem val_len {H : Hp} {v : V} {r : Rv} (h : Val H v r) : 1 ≤ (shR r).length ∧ (shR r).length ≤ 9000 ∧ szR r ∧ readL (shR r) = some r := by
  obtain ⟨_, ok, hl⟩ := h
  cases r with
  | p v =>
    have := shL_len ok
    exact ⟨this.1, Nat.le_trans this.2 (by decide), trivial, read_sh ok (fun _ _ e => by cases e)⟩
  | c was nows =>
    have ln := hl was nows rfl
    refine ⟨?_, ?_, Nat.le_trans ln (by decide), read_sh ok (fun _ _ e => by cases e; omega)⟩
    · show 1 ≤ (99 :: _).length
      rw [List.length_cons]; omega
    · show (99 :: (nd nows.length ++ 32 :: (shL was ++ shNs nows))).length ≤ 9000
      have l1 := nd_len 29 nows.length (by omega)
      have l2 := (shL_len ok.1).2
      have l3 : (shNs nows).length ≤ nows.length * 81 := by
        have : ∀ vs : List V, (∀ v ∈ vs, plainB v = true) → (shNs vs).length ≤ vs.length * 81 := fun vs => by
          induction vs with
          | nil => intro _; exact Nat.le_refl _
          | cons v vs ih =>
            intro h
            have h1 := (shL_len (h v List.mem_cons_self)).2
            have h2 := ih fun u hu => h u (List.mem_cons_of_mem _ hu)
            show (32 :: (shL v ++ shNs vs)).length ≤ _
            rw [List.length_cons, List.length_append, List.length_cons, Nat.succ_mul]; omega
        exact this nows ok.2.2.1
      rw [List.length_cons, List.length_append, List.length_cons, List.length_append]; omega
seal PE PT PW PA PS PSs PI PG PIfs PGs PO in
theorem ok__law_text {P : Program} {w : World} {K : PySem.W.Frag} {mg : Str → Option Value} {base : Heap} {C CE CT : Addr} {f : Addr} {fd : FuncData} (Z : Zs mg) (T : Tx K mg C CE CT) (G__law_written : Cal P w K mg base 2 "_law_written" ["_law_value_here"] (sp__law_written K)) (G__law_value : Cal P w K mg base 4 "_law_value" ["_law_cell"] (sp__law_value K)) (G__law_spoiled : Cal P w K mg base 2 "_law_spoiled" ["_law_cell", "_law_some"] (sp__law_spoiled K)) (G__law_piece : Cal P w K mg base 1 "_law_piece" ["_law_number"] (sp__law_piece K)) (G__law_mix : Cal P w K mg base 1 "_law_mix" ["_law_cell", "_law_k"] (sp__law_mix K)) (F : Fun K "_law_text" "_law_text" s__law_text f fd) : FnOk P w K mg base CX0 5 f fd ["_law_cell"] (sp__law_text K) := by
  refine F.ok sc__law_text (fun vs H Q E h => ?_) (fun cdv A outer s H vs Q E hr h => ?_)
  · obtain ⟨a, rfl, _⟩ := h; rfl
  obtain ⟨c, rfl, hc, q⟩ := h
  refine ⟨_, (@pss_cons _ _ _ _ _ (ps_set (i := 1) sc__law_text.nd rfl (Or.inl rfl) (pe_op op_mod (pv 0) pe_int))
      (@pss_cons _ _ _ _ _ (ps_set (i := 2) sc__law_text.nd rfl (Or.inr rfl) (pe_op op_fdiv (pv 0) pe_int))
      (@pss_cons _ _ _ _ _ (ps_set (i := 3) sc__law_text.nd rfl (Or.inl rfl) (pe_cal G__law_written (k := 4) hr (by decide) rfl (pa_c (pe_cal G__law_value (k := 4) hr (by decide) rfl (pa_c (pv 2) pa_nil)) pa_nil)))
      (@pss_cons _ _ _ _ _ (ps_if (pt_cmpR op_lt (pv 1) pe_int (nomark _)) (pss_one (ps_ret (pv 3))) pss_nil)
      (@pss_cons _ _ _ _ _ (ps_if (pt_cmpR op_lt (pv 1) pe_int (nomark _)) (pss_one (ps_ret (pe_cal G__law_spoiled (k := 4) hr (by decide) rfl (pa_c (pe_op op_fdiv (pv 2) pe_int) (pa_c (pv 3) pa_nil))))) pss_nil)
      (@pss_cons _ _ _ _ _ (ps_if (pt_cmpR op_eq (pv 1) pe_int (nomark _)) (pss_one (ps_ret (pe_op op_add_str (pe_op op_add_str (pv 3) (pe_ix ix_list (pe_lst (pa_c pe_str (pa_c pe_str pa_nil))) (pe_op op_mod (pv 2) pe_int) (fun _ _ => rfl))) (pe_cal G__law_written (k := 4) hr (by decide) rfl (pa_c (pe_cal G__law_value (k := 4) hr (by decide) rfl (pa_c (pe_cal G__law_mix (k := 4) hr (by decide) rfl (pa_c (pv 2) (pa_c pe_int pa_nil))) pa_nil)) pa_nil))))) pss_nil)
      (pss_one (ps_ret (pe_bm PySem.F.plainAttrs_str PySem.F.slot_str_join PySem.F.type_str_join mt_join pe_str (pa_c (pe_lcomp ["_law_cell", "_law_way", "_law_rest", "_law_some"] rfl (blkOk (N := ["_law_cell", "_law_way", "_law_rest", "_law_some"]) (dsc := defScope s__law_text) rfl rfl (by decide +kernel)) (pi_range1 rfl (Z.range) (pa_c (pe_op op_add pe_int (pe_op op_mod (pe_cal G__law_mix (k := 4) hr (by decide) rfl (pa_c (pv 2) (pa_c pe_int pa_nil))) pe_int)) pa_nil)) (fun _ _ _ _ _ => pif_nil) (fun _ _ _ _ _ => (pe_cal G__law_piece (k := 4) hr (by decide) rfl (pa_c (pe_cal G__law_mix (k := 4) hr (by decide) rfl (pa_c (pv 3) (pa_c (pv 0) pa_nil))) pa_nil)))) pa_nil)))))))))), ?_⟩
  refine rd_start (σ := [some (.int c), none, none, none]) rfl ?_
  walk_at "rd"
  refine ⟨by unfold CDiv; omega, _, rfl, bits_div' hc, fun v r H1 hv s1 => ?_⟩
  obtain ⟨l1, l2, l3, l4⟩ := val_len hv
  refine ⟨v, r, rfl, hv.1, hv.2.1, l3, fun H2 s2 => ?_⟩
  have s02 := s1.trans s2
  have le := strV_len (shR r)
  refine ite2 (fun h => ?_) fun h => ite2 (fun h => ?_) fun h => ite2 (fun h4 => ?_) fun h4 => ?_
  · exact q _ H2 (by omega) (fun _ => ⟨r, l4⟩) s02
  · exact ⟨by unfold CDiv; omega, _, _, rfl, bits_div' (bits_div' hc), by omega, by omega, fun z' hz' => q z' H2 (by omega) (fun h' => absurd h' (by omega)) s02⟩
  · refine ⟨small_le (by show 2 ≤ 1000; decide), fun p hp => ⟨_, SqL.of upd_same, ?_⟩⟩
    have s3 := same_upd hp (.lst [V.str (Str.ofString ""), V.str (Str.ofString " ")])
    generalize upd H2 p (.lst [V.str (Str.ofString ""), V.str (Str.ofString " ")]) = H3 at s3 ⊢
    obtain ⟨w, hw, hm⟩ := at_some (l := [V.str (Str.ofString ""), V.str (Str.ofString " ")]) (k := c / 6 % 2) (by omega) (by show _ < (2 : Int); omega)
    obtain ⟨o, e, ho⟩ : ∃ o : Str, w = .str o ∧ o.length ≤ 1 := by
      simp only [List.mem_cons, List.not_mem_nil, or_false] at hm
      rcases hm with e | e <;> exact ⟨_, e, by decide⟩
    refine ⟨w, hw, _, rfl, o, e, big_le (by omega), _, _, rfl, fun m m0 m1 => ⟨_, rfl, bits_small m0 m1, fun v2 r2 H4 hv2 s4 => ?_⟩⟩
    obtain ⟨l1', l2', l3', l4'⟩ := val_len hv2
    have le' := strV_len (shR r2)
    exact ⟨v2, r2, rfl, hv2.1, hv2.2.1, l3', fun H5 s5 => ⟨_, rfl, big_le (by rw [strLen_append]; omega), q _ H5 (by rw [strLen_append, strLen_append]; omega) (fun h' => absurd h' (by omega)) (((s02.trans s3).trans s4).trans s5)⟩⟩
  · refine ⟨rfl, _, _, rfl, fun m m0 m1 => ⟨_, rfl, by omega, by omega, lcR_range (fun _ v => ∃ z : Str, v = .str z ∧ z.length ≤ 20) (small_le (by omega)) (fun i H3 R hi s3 hR => ?_) fun D H3 ys hD s3 hy ly py => ?_⟩⟩
    · walk_at "rd"
      exact ⟨_, _, rfl, fun m m0 m1 => ⟨_, rfl, fun z H4 hz s4 => hR _ H4 ⟨z, rfl, hz⟩ s4⟩⟩
    · have all := mem_of_ix py
      obtain ⟨zs, rfl⟩ := strs_of ys fun v hv => let ⟨z, e, _⟩ := all v hv; ⟨_, e⟩
      rw [List.length_map] at ly
      have hs := sum_le (n := 20) (zs.map (·.length)) fun x hx => by
        obtain ⟨z, hz, rfl⟩ := List.mem_map.mp hx
        obtain ⟨z', e, h'⟩ := all (.str z) (List.mem_map.mpr ⟨z, hz, rfl⟩)
        cases e; exact h'
      rw [List.length_map] at hs
      have e0 : (Str.ofString "").length = 0 := rfl
      have hj := join_len (Str.ofString "") zs
      rw [e0] at hj
      exact ⟨D, rfl, zs, SqL.of hy, by rw [e0]; omega, q _ H3 (by omega) (fun h' => absurd h' (by omega)) (s02.trans s3)⟩
--@SPLIT
theorem read_sz {L : List Nat} {r : Rv} (hl : L.length ≤ 100000) (h : readL L = some r) : okR r ∧ szR r ∧ L = shR r := by
  obtain ⟨ok, e⟩ := read_back h
  refine ⟨ok, ?_, e⟩
  cases r with
  | p v => trivial
  | c was nows =>
    have e : L = 99 :: (nd nows.length ++ 32 :: (shL was ++ shNs nows)) := e
    have l3 : nows.length * 2 ≤ (shNs nows).length := by
      have : ∀ vs : List V, (∀ v ∈ vs, plainB v = true) → vs.length * 2 ≤ (shNs vs).length := fun vs => by
        induction vs with
        | nil => intro _; exact Nat.le_refl _
        | cons v vs ih =>
          intro h
          have h1 := (shL_len (h v List.mem_cons_self)).1
          have h2 := ih fun u hu => h u (List.mem_cons_of_mem _ hu)
          show _ ≤ (32 :: (shL v ++ shNs vs)).length
          simp only [List.length_cons, List.length_append]; omega
      exact this nows ok.2.2.1
    have := congrArg List.length e
    rw [List.length_cons, List.length_append, List.length_cons, List.length_append] at this
    show nows.length ≤ 50000
    omega
theorem RvAt.same {H H' : Hp} {r : Rv} {v : V} (s : Same H H') (h : RvAt H r v) : RvAt H' r v := by
  cases r with
  | p u => exact h
  | c was nows =>
    obtain ⟨t, b, e, h1, h2⟩ := h
    exact ⟨t, b, e, s _ _ h1, s _ _ h2⟩
def sp__law_good (_ : PySem.W.Frag) : Sp := fun vs H Q _ => ∃ (z : Str) (due : Bool), vs = [.str z, .bl due] ∧ z.length ≤ 100000 ∧ (due = true → ∃ r, readL z.cps.toList = some r) ∧ ∀ H', Same H H' → Q (.bl true) H'
seal PE PT PW PA PS PSs PI PG PIfs PGs PO in
theorem ok__law_good {P : Program} {w : World} {K : PySem.W.Frag} {mg : Str → Option Value} {base : Heap} {C CE CT : Addr} {f : Addr} {fd : FuncData} (Z : Zs mg) (T : Tx K mg C CE CT) (G_read_value : Cal1 P w K mg base 12 "read_value" ["text"] (sp_read_value K C CE)) (G__law_is_value : Cal P w K mg base 2 "_law_is_value" ["_law_thing"] (sp__law_is_value K)) (G__law_written : Cal P w K mg base 2 "_law_written" ["_law_value_here"] (sp__law_written K)) (G_shown : Cal P w K mg base 2 "shown" ["value"] (sp_shown K)) (F : Fun K "_law_good" "_law_good" s__law_good f fd) : FnOk P w K mg base CX0 13 f fd ["_law_text_here", "_law_due"] (sp__law_good K) := by
  refine F.ok sc__law_good (fun vs H Q E h => ?_) (fun cdv A outer s H vs Q E hr h => ?_)
  · obtain ⟨z, due, rfl, _⟩ := h; rfl
  obtain ⟨z, due, rfl, hz, hd, q⟩ := h
  refine ⟨_, (@pss_cons _ _ _ _ _ (ps_set (i := 2) sc__law_good.nd rfl (Or.inl rfl) pe_bl)
      (@pss_cons _ _ _ _ _ (ps_set (i := 3) sc__law_good.nd rfl (Or.inl rfl) pe_non)
      (@pss_cons _ _ _ _ _ (ps_try (ps1_set (i := 3) sc__law_good.nd rfl (Or.inl rfl) (pe1_cal G_read_value (k := 12) hr (by decide) rfl rfl (pa_c (pv 0) pa_nil))) rfl rfl rfl (fun _ => PassesOwnAt.never) rfl T.mgE T.ex PySem.F.excBase_ValueError (fun ea ps ok hI => (pss_one (ps_set (i := 2) sc__law_good.nd rfl (Or.inl rfl) pe_bl))))
      (@pss_cons _ _ _ _ _ (ps_if (pt_val (pv 2) (fun _ => rfl)) (pss_one (ps_ret (pe_not (pv 1)))) pss_nil)
      (pss_one (ps_ret (pe_and (pe_cal G__law_is_value (k := 12) hr (by decide) rfl (pa_c (pv 3) pa_nil)) (pe_and (pe_cmpR op_eq (pe_cal G__law_written (k := 12) hr (by decide) rfl (pa_c (pv 3) pa_nil)) (pv 0) (nomark _)) (pe_one (pe_cmpR op_eq (pe_cal G_shown (k := 12) hr (by decide) rfl (pa_c (pv 3) pa_nil)) (pv 0) (nomark _))))))))))), ?_⟩
  refine rd_start (σ := [some (.str z), some (.bl due), none, none]) rfl ?_
  walk_at "rd"
  refine ⟨_, rfl, z, rfl, hz, fun r v H1 e s1 hv => ?_, fun H1 e s1 => ⟨rfl, ?_⟩⟩
  · obtain ⟨ok, sz, eL⟩ := read_sz (by rw [z_len]; exact hz) e
    have ez : (⟨(shR r).toArray⟩ : Str) = z := (str_of eL).symm
    refine ⟨v, r, rfl, hv, ok, sz, fun H2 s2 => ⟨true, rfl, ?_⟩⟩
    rw [if_pos rfl]
    refine ⟨v, r, rfl, hv.same s2, ok, sz, fun H3 s3 => ⟨rfl, ?_⟩⟩
    rw [ez, if_pos rfl]
    refine ⟨v, r, rfl, (hv.same s2).same s3, ok, sz, fun H4 s4 => ⟨rfl, ?_⟩⟩
    rw [ez, decide_eq_true rfl]
    exact q _ (((s1.trans s2).trans s3).trans s4)
  · cases due with
    | true =>
      obtain ⟨r, hr⟩ := hd rfl
      rw [e] at hr; cases hr
    | false => exact q _ s1
--@SPLIT
/-- numbers one apart -/
def runI (a : Int) (n : Nat) : List V := (List.range n).map fun (k : Nat) => V.int (a + (k : Int))
theorem run_len (a : Int) (n : Nat) : (runI a n).length = n := by simp [runI]
theorem run_up (a : Int) (n : Nat) : (runI a n).Pairwise fun x y => ltV x y = true := by
  unfold runI
  rw [List.pairwise_map]
  refine List.Pairwise.imp (fun {x y} h => ?_) List.pairwise_lt_range
  rw [lt_ii]
  exact decide_eq_true (by omega)
theorem run_ok {a : Int} {n : Nat} (h0 : -500 ≤ a ∧ a ≤ 500) (h2 : 2 ≤ n) (hn : n ≤ 100) : okR (.c (.str (Str.ofString "")) (runI a n)) := by
  have pl : ∀ v ∈ runI a n, plainB v = true := fun v hv => by
    unfold runI at hv
    obtain ⟨k, hk, rfl⟩ := List.mem_map.mp hv
    have := List.mem_range.mp hk
    exact num_plain ⟨by omega, by omega⟩
  exact ⟨by decide, by rw [run_len]; exact h2, pl, (rising_iff fun v hv => plain_of (pl v hv)).mpr (run_up a n)⟩
def manyN (c : Int) : Nat := (2 + c / 1000 % 59).toNat
def beyondN (c : Int) : Nat := (61 + c / 1000 % 10).toNat
def sp__law_many (_ : PySem.W.Frag) : Sp := fun vs H Q _ => ∃ c : Int, vs = [.int c] ∧ ∀ v H', RvAt H' (.c (.str (Str.ofString "")) (runI (c % 1000 - 500) (manyN c))) v → Same H H' → Q v H'
def sp__law_beyond (_ : PySem.W.Frag) : Sp := fun vs H Q _ => ∃ c : Int, vs = [.int c] ∧ ∀ v H', RvAt H' (.c (.str (Str.ofString "")) (runI (c % 1000 - 500) (beyondN c))) v → Same H H' → Q v H'
theorem run_of {a : Int} {ys : List V} {n : Nat} (hl : ys.length = n) (h : ∀ (i : Nat) y, ys[i]? = some y → y = .int (a + (i : Int))) : ys = runI a n := by
  refine List.ext_getElem? fun i => ?_
  unfold runI
  rw [List.getElem?_map]
  by_cases hi : i < n
  · rw [List.getElem?_range hi, List.getElem?_eq_getElem (by omega)]
    show some ys[i] = some _
    rw [h i ys[i] (List.getElem?_eq_getElem (by omega))]
  · rw [List.getElem?_eq_none (by omega), List.getElem?_eq_none (by rw [List.length_range]; omega)]; rfl
seal PE PT PW PA PS PSs PI PG PIfs PGs PO in
theorem ok__law_many {P : Program} {w : World} {K : PySem.W.Frag} {mg : Str → Option Value} {base : Heap} {C CE CT : Addr} {f : Addr} {fd : FuncData} (Z : Zs mg) (T : Tx K mg C CE CT) (F : Fun K "_law_many" "_law_many" s__law_many f fd) : FnOk P w K mg base CX0 1 f fd ["_law_cell"] (sp__law_many K) := by
  refine F.ok sc__law_many (fun vs H Q E h => ?_) (fun cdv A outer s H vs Q E hr h => ?_)
  · obtain ⟨a, rfl, _⟩ := h; rfl
  obtain ⟨c, rfl, q⟩ := h
  refine ⟨_, (@pss_cons _ _ _ _ _ (ps_set (i := 1) sc__law_many.nd rfl (Or.inr rfl) (pe_op op_sub (pe_op op_mod (pv 0) pe_int) pe_int))
      (pss_one (ps_ret (pe_tup (pa_c pe_str (pa_c (pe_callTy call_tuple_of rfl (Z.tuple) bo_tuple (pa_c (pe_lcomp ["_law_cell", "_law_first"] rfl (blkOk (N := ["_law_cell", "_law_first"]) (dsc := defScope s__law_many) rfl rfl (by decide +kernel)) (pi_range1 rfl (Z.range) (pa_c (pe_op op_add pe_int (pe_op op_mod (pe_op op_fdiv (pv 0) pe_int) pe_int)) pa_nil)) (fun _ _ _ _ _ => pif_nil) (fun _ _ _ _ _ => (pe_op op_add (pv 2) (pv 0)))) pa_nil)) pa_nil)))))), ?_⟩
  refine rd_start (σ := [some (.int c), none]) rfl ?_
  walk_at "rd"
  refine ⟨by unfold CDiv; omega, by omega, by omega, lcR_range (fun i v => v = .int (c % 1000 - 500 + (i : Int))) (small_le (by omega)) (fun i H2 R hi s2 hR => ?_) fun D H2 ys hD s2 hy ly py => ?_⟩
  · walk_at "rd"
    exact hR _ _ (by rw [Int.zero_add]) (Same.refl _)
  · have ey := run_of (n := manyN c) ly py
    refine ⟨D, rfl, ys, .inl ⟨SqL.of hy, fun l hl => ⟨show 2 ≤ sizeLine by decide, fun p hp => q _ _ ⟨p, l, rfl, upd_same, ?_⟩ ?_⟩⟩⟩
    · rw [upd_ne (ne_of_none upd_same hp), upd_same, ey]
    · exact s2.trans ((same_upd hl _).trans (same_upd hp _))
seal PE PT PW PA PS PSs PI PG PIfs PGs PO in
theorem ok__law_beyond {P : Program} {w : World} {K : PySem.W.Frag} {mg : Str → Option Value} {base : Heap} {C CE CT : Addr} {f : Addr} {fd : FuncData} (Z : Zs mg) (T : Tx K mg C CE CT) (F : Fun K "_law_beyond" "_law_beyond" s__law_beyond f fd) : FnOk P w K mg base CX0 1 f fd ["_law_cell"] (sp__law_beyond K) := by
  refine F.ok sc__law_beyond (fun vs H Q E h => ?_) (fun cdv A outer s H vs Q E hr h => ?_)
  · obtain ⟨a, rfl, _⟩ := h; rfl
  obtain ⟨c, rfl, q⟩ := h
  refine ⟨_, (@pss_cons _ _ _ _ _ (ps_set (i := 1) sc__law_beyond.nd rfl (Or.inr rfl) (pe_op op_sub (pe_op op_mod (pv 0) pe_int) pe_int))
      (pss_one (ps_ret (pe_tup (pa_c pe_str (pa_c (pe_callTy call_tuple_of rfl (Z.tuple) bo_tuple (pa_c (pe_lcomp ["_law_cell", "_law_first"] rfl (blkOk (N := ["_law_cell", "_law_first"]) (dsc := defScope s__law_beyond) rfl rfl (by decide +kernel)) (pi_range1 rfl (Z.range) (pa_c (pe_op op_add pe_int (pe_op op_mod (pe_op op_fdiv (pv 0) pe_int) pe_int)) pa_nil)) (fun _ _ _ _ _ => pif_nil) (fun _ _ _ _ _ => (pe_op op_add (pv 2) (pv 0)))) pa_nil)) pa_nil)))))), ?_⟩
  refine rd_start (σ := [some (.int c), none]) rfl ?_
  walk_at "rd"
  refine ⟨by unfold CDiv; omega, by omega, by omega, lcR_range (fun i v => v = .int (c % 1000 - 500 + (i : Int))) (small_le (by omega)) (fun i H2 R hi s2 hR => ?_) fun D H2 ys hD s2 hy ly py => ?_⟩
  · walk_at "rd"
    exact hR _ _ (by rw [Int.zero_add]) (Same.refl _)
  · have ey := run_of (n := beyondN c) ly py
    refine ⟨D, rfl, ys, .inl ⟨SqL.of hy, fun l hl => ⟨show 2 ≤ sizeLine by decide, fun p hp => q _ _ ⟨p, l, rfl, upd_same, ?_⟩ ?_⟩⟩⟩
    · rw [upd_ne (ne_of_none upd_same hp), upd_same, ey]
    · exact s2.trans ((same_upd hl _).trans (same_upd hp _))
def sp_law (K : PySem.W.Frag) : Sp := fun vs H Q _ => ∃ (a : Addr) (ns : List Int), vs = [.ref a] ∧ SqL K H a (ns.map V.int) ∧ ns.length ≤ 63 ∧ (∀ n ∈ ns, bitsOk n) ∧ ∀ H', Q (.bl true) H'
seal PE PT PW PA PS PSs PI PG PIfs PGs PO in
theorem ok_law {P : Program} {w : World} {K : PySem.W.Frag} {mg : Str → Option Value} {base : Heap} {C CE CT : Addr} {f : Addr} {fd : FuncData} (Z : Zs mg) (T : Tx K mg C CE CT) (G__law_written : Cal P w K mg base 2 "_law_written" ["_law_value_here"] (sp__law_written K)) (G__law_good : Cal P w K mg base 13 "_law_good" ["_law_text_here", "_law_due"] (sp__law_good K)) (G_read_value : Cal1 P w K mg base 12 "read_value" ["text"] (sp_read_value K C CE)) (G__law_beyond : Cal P w K mg base 1 "_law_beyond" ["_law_cell"] (sp__law_beyond K)) (G__law_many : Cal P w K mg base 1 "_law_many" ["_law_cell"] (sp__law_many K)) (G__law_text : Cal P w K mg base 5 "_law_text" ["_law_cell"] (sp__law_text K)) (F : Fun K "law" "law" s_law f fd) : FnOk P w K mg base CX0 14 f fd ["_law_script"] (sp_law K) := by
  refine F.ok sc_law (fun vs H Q E h => ?_) (fun cdv A outer s H vs Q E hr h => ?_)
  · obtain ⟨a, ns, rfl, _⟩ := h; rfl
  obtain ⟨a0, ns0, rfl, ha0, hl0, hb0, q⟩ := h
  refine ⟨_, (@pss_cons _ _ _ _ _ (ps_for PassesOwn.never rfl (pi_list (pe_slice sl_list (pv 0) po_none (po_some pe_int))) (pg_name (i := 1) sc_law.nd rfl (Or.inl rfl)) (pss_one (ps_if (pt_cmpR (op_neTT (hr.units)) (PE1.pe (pe1_cal G_read_value (k := 13) hr (by decide) rfl rfl (pa_c (pe_cal G__law_written (k := 13) hr (by decide) rfl (pa_c (pe_cal G__law_beyond (k := 13) hr (by decide) rfl (pa_c (pv 1) pa_nil)) pa_nil)) pa_nil)) throwsN) (pe_cal G__law_beyond (k := 13) hr (by decide) rfl (pa_c (pv 1) pa_nil)) (nomark _)) (pss_one (ps_ret pe_bl)) pss_nil)))
      (@pss_cons _ _ _ _ _ (ps_for PassesOwn.never rfl (pi_list (pe_slice sl_list (pv 0) po_none (po_some pe_int))) (pg_name (i := 1) sc_law.nd rfl (Or.inl rfl)) (@pss_cons _ _ _ _ _ (ps_set (i := 2) sc_law.nd rfl (Or.inl rfl) (pe_cal G__law_written (k := 13) hr (by decide) rfl (pa_c (pe_cal G__law_many (k := 13) hr (by decide) rfl (pa_c (pv 1) pa_nil)) pa_nil)))
      (pss_one (ps_if (PW.pt (pw_or (pt_not (pt_val (pe_cal G__law_good (k := 13) hr (by decide) rfl (pa_c (pv 2) (pa_c pe_bl pa_nil))) (fun _ => rfl))) (pw_or1 (pt_not (pt_val (pe_cal G__law_good (k := 13) hr (by decide) rfl (pa_c (pe_op op_add_str (pv 2) pe_str) (pa_c pe_bl pa_nil))) (fun _ => rfl)))))) (pss_one (ps_ret pe_bl)) pss_nil))))
      (@pss_cons _ _ _ _ _ (ps_for PassesOwn.never rfl (pi_list (pe_slice sl_list (pv 0) po_none (po_some pe_int))) (pg_name (i := 1) sc_law.nd rfl (Or.inl rfl)) (pss_one (ps_if (pt_not (pt_val (pe_cal G__law_good (k := 13) hr (by decide) rfl (pa_c (pe_cal G__law_text (k := 13) hr (by decide) rfl (pa_c (pv 1) pa_nil)) (pa_c (pe_cmpR op_lt (pe_op op_mod (pv 1) pe_int) pe_int (nomark _)) pa_nil))) (fun _ => rfl))) (pss_one (ps_ret pe_bl)) pss_nil)))
      (@pss_cons _ _ _ _ _ (ps_set (i := 3) sc_law.nd rfl (Or.inl rfl) (pe_lst (pa_c pe_str (pa_c pe_str (pa_c pe_str (pa_c pe_str (pa_c pe_str (pa_c pe_str (pa_c pe_str (pa_c pe_str (pa_c pe_str (pa_c pe_str (pa_c pe_str (pa_c pe_str (pa_c pe_str (pa_c pe_str pa_nil))))))))))))))))
      (@pss_cons _ _ _ _ _ (ps_for PassesOwn.never rfl (pi_list (pe_op op_cat (pv 3) (pe_lst (pa_c (pe_op op_add_str (pe_op op_add_str pe_str (pe_op op_repS pe_str pe_int)) pe_str) (pa_c (pe_op op_add_str (pe_op op_add_str pe_str (pe_op op_repS pe_str pe_int)) pe_str) (pa_c pe_str pa_nil)))))) (pg_name (i := 2) sc_law.nd rfl (Or.inl rfl)) (pss_one (ps_if (pt_not (pt_val (pe_cal G__law_good (k := 13) hr (by decide) rfl (pa_c (pv 2) (pa_c pe_bl pa_nil))) (fun _ => rfl))) (pss_one (ps_ret pe_bl)) pss_nil)))
      (pss_one (ps_ret (pe_and (pe_cal G__law_good (k := 13) hr (by decide) rfl (pa_c pe_str (pa_c pe_bl pa_nil))) (pe_and (pe_cal G__law_good (k := 13) hr (by decide) rfl (pa_c pe_str (pa_c pe_bl pa_nil))) (pe_one (pe_cal G__law_good (k := 13) hr (by decide) rfl (pa_c pe_str (pa_c pe_bl pa_nil))))))))))))), ?_⟩
  refine rd_start (σ := [some (.ref a0), none, none, none]) rfl ?_
  have mem : ∀ {ms : List Int} {i : Nat} {x : V}, (ms.map V.int)[i]? = some x → ∃ c, x = .int c ∧ c ∈ ms := fun {ms i x} h => by
    obtain ⟨c, hc, e⟩ := List.mem_map.mp (List.mem_of_getElem? h)
    exact ⟨c, e.symm, hc⟩
  walk_at "rd"
  refine ⟨_, ha0, fun p hp => ⟨⟨_, SqL.of upd_same⟩, ?_⟩⟩
  obtain ⟨ms, em, lm, hm⟩ := cutV_map V.int ns0 none (some 1)
  rw [em]
  have s1 := same_upd hp (.lst (ms.map V.int))
  have k1 : upd H p (.lst (ms.map V.int)) p = some (.lst (ms.map V.int)) := upd_same
  generalize upd H p (.lst (ms.map V.int)) = H1 at s1 k1 ⊢
  refine foR_list (ms.map V.int) (fun i σ' H' => ∃ w, σ' = [some (V.ref a0), w, none, none] ∧ Same H1 H') ⟨_, rfl, Same.refl _⟩ ?_ ?_ ?_
  · rintro i σ' H' _ ⟨w, rfl, s'⟩
    exact SqL.of (s' _ _ k1)
  · rintro i x σ' H' hx ⟨w, rfl, s'⟩
    obtain ⟨c, rfl, hc⟩ := mem hx
    have okr := run_ok (a := c % 1000 - 500) (n := beyondN c) (by omega) (by unfold beyondN; omega) (by unfold beyondN; omega)
    have nr : beyondN c ≤ 100 := by unfold beyondN; omega
    walk_at "rd"
    unfold tCall1
    walk_at "rd"
    refine ⟨c, rfl, fun v H2 hv s2 => ?_⟩
    obtain ⟨l1, l2, l3, l4⟩ := val_len (H := H2) (v := v) ⟨hv, okr, fun _ _ e => by cases e; rw [run_len]; exact nr⟩
    refine ⟨v, _, rfl, hv, okr, l3, fun H3 s3 => ⟨_, rfl, by rw [strV_len]; omega, fun r' v' H4 e s4 hv4 => ?_, fun H4 e => ?_⟩⟩
    · have e' : readL (shR (.c (.str (Str.ofString "")) (runI (c % 1000 - 500) (beyondN c)))) = some r' := e
      rw [l4] at e'
      cases e'
      refine ⟨c, rfl, fun v2 H5 hv5 s5 => ?_⟩
      obtain ⟨t1, b1, rfl, g1, g2⟩ := hv4.same s5
      obtain ⟨t2, b2, rfl, g3, g4⟩ := hv5
      exact ⟨t1, t2, b1, b2, _, _, rfl, rfl, SqT.of g1, SqT.of g3, SqT.of g2, SqT.of g4, rfl, List.all_eq_true.mpr fun u hu => flat_of (okr.2.2.1 u hu), (((s'.trans s2).trans s3).trans s4).trans s5⟩
    · have e' : readL (shR (.c (.str (Str.ofString "")) (runI (c % 1000 - 500) (beyondN c)))) = none := e
      rw [l4] at e'; cases e'
  · rintro σ' H' ⟨w, rfl, s'⟩
    have s01 := s1.trans s'
    walk_at "rd"
    refine ⟨_, s01.seq ha0, fun p2 hp2 => ⟨⟨_, SqL.of upd_same⟩, ?_⟩⟩
    obtain ⟨ms2, em2, lm2, hm2⟩ := cutV_map V.int ns0 none (some 3)
    rw [em2]
    have s2 := same_upd hp2 (.lst (ms2.map V.int))
    have k2 : upd H' p2 (.lst (ms2.map V.int)) p2 = some (.lst (ms2.map V.int)) := upd_same
    generalize upd H' p2 (.lst (ms2.map V.int)) = H2 at s2 k2 ⊢
    refine foR_list (ms2.map V.int) (fun i σ' H' => ∃ w w2, σ' = [some (V.ref a0), w, w2, none] ∧ Same H2 H') ⟨_, _, rfl, Same.refl _⟩ ?_ ?_ ?_
    · rintro i σ' H' _ ⟨w, w2, rfl, s'⟩
      exact SqL.of (s' _ _ k2)
    · rintro i x σ' H' hx ⟨w, w2, rfl, s'⟩
      obtain ⟨c, rfl, hc⟩ := mem hx
      have okr := run_ok (a := c % 1000 - 500) (n := manyN c) (by omega) (by unfold manyN; omega) (by unfold manyN; omega)
      have nr : manyN c ≤ 100 := by unfold manyN; omega
      walk_at "rd"
      refine ⟨c, rfl, fun v H3 hv s3 => ?_⟩
      obtain ⟨l1, l2, l3, l4⟩ := val_len (H := H3) (v := v) ⟨hv, okr, fun _ _ e => by cases e; rw [run_len]; exact nr⟩
      have e9 : (Str.ofString " 9999").length = 5 := by decide
      refine ⟨v, _, rfl, hv, okr, l3, fun H4 s4 => ⟨_, true, rfl, by rw [strV_len]; omega, fun _ => ⟨_, l4⟩, fun H5 s5 => ⟨true, rfl, ?_⟩⟩⟩
      rw [if_neg (by decide)]
      refine ⟨_, rfl, big_le (by rw [strV_len]; omega), _, false, rfl, by rw [strLen_append, strV_len]; omega, (fun h => by cases h), fun H6 s6 => ⟨true, rfl, ?_⟩⟩
      rw [if_neg (by decide)]
      exact ⟨_, _, ⟨rfl, rfl⟩, (((s'.trans s3).trans s4).trans s5).trans s6⟩
    · rintro σ' H3 ⟨w, w2, rfl, s3⟩
      have s03 := (s01.trans s2).trans s3
      walk_at "rd"
      refine ⟨_, s03.seq ha0, fun p4 hp4 => ⟨⟨_, SqL.of upd_same⟩, ?_⟩⟩
      obtain ⟨ms4, em4, lm4, hm4⟩ := cutV_map V.int ns0 none (some 30)
      rw [em4]
      have k4 : upd H3 p4 (.lst (ms4.map V.int)) p4 = some (.lst (ms4.map V.int)) := upd_same
      generalize upd H3 p4 (.lst (ms4.map V.int)) = H4 at k4 ⊢
      refine foR_list (ms4.map V.int) (fun i σ' H' => ∃ w w2, σ' = [some (V.ref a0), w, w2, none] ∧ Same H4 H') ⟨_, _, rfl, Same.refl _⟩ ?_ ?_ ?_
      · rintro i σ' H' _ ⟨w, w2, rfl, s'⟩
        exact SqL.of (s' _ _ k4)
      · rintro i x σ' H' hx ⟨w, w2, rfl, s'⟩
        obtain ⟨c, rfl, hc⟩ := mem hx
        walk_at "rd"
        refine ⟨c, rfl, hb0 c (hm4 c hc), fun z H5 hz hd s5 => ⟨z, _, rfl, by omega, fun h => hd (of_decide_eq_true h), fun H6 s6 => ⟨true, rfl, ?_⟩⟩⟩
        rw [if_neg (by decide)]
        exact ⟨_, _, ⟨rfl, rfl⟩, (s'.trans s5).trans s6⟩
      · rintro σ' H5 ⟨w, w2, rfl, s5⟩
        walk_at "rd"
        refine ⟨small_le (by show 14 ≤ 1000; decide), fun pw hpw => ?_⟩
        have kw : upd H5 pw (.lst [V.str (Str.ofString ""), V.str (Str.ofString "~~"), V.str (Str.ofString "t"), V.str (Str.ofString "t1"), V.str (Str.ofString "t1:"), V.str (Str.ofString "-"), V.str (Str.ofString "-0"), V.str (Str.ofString "00"), V.str (Str.ofString "c"), V.str (Str.ofString "c0 1"), V.str (Str.ofString "c1 1 2"), V.str (Str.ofString "c2 1 3 3"), V.str (Str.ofString " 5"), V.str (Str.ofString "5 ")]) pw = some (.lst [V.str (Str.ofString ""), V.str (Str.ofString "~~"), V.str (Str.ofString "t"), V.str (Str.ofString "t1"), V.str (Str.ofString "t1:"), V.str (Str.ofString "-"), V.str (Str.ofString "-0"), V.str (Str.ofString "00"), V.str (Str.ofString "c"), V.str (Str.ofString "c0 1"), V.str (Str.ofString "c1 1 2"), V.str (Str.ofString "c2 1 3 3"), V.str (Str.ofString " 5"), V.str (Str.ofString "5 ")]) := upd_same
        generalize upd H5 pw _ = H6 at kw ⊢
        refine ⟨Str.ofString "9", 30, rfl, rfl, by decide, by decide, by decide, by decide, _, rfl, by decide, by decide, Str.ofString "9", 30, rfl, rfl, by decide, by decide, by decide, by decide, _, rfl, by decide, by decide, ?_⟩
        have f1 : (Str.ofString "c" ++ (⟨List.foldl (fun x1 x2 => x1 ++ x2) #[] (List.replicate 30 (Str.ofString "9").cps)⟩ : Str) ++ Str.ofString " ~ 1 2").length ≤ 100 := by decide
        have f2 : (Str.ofString "t" ++ (⟨List.foldl (fun x1 x2 => x1 ++ x2) #[] (List.replicate 30 (Str.ofString "9").cps)⟩ : Str) ++ Str.ofString ":a").length ≤ 100 := by decide
        generalize (Str.ofString "c" ++ (⟨List.foldl (fun x1 x2 => x1 ++ x2) #[] (List.replicate 30 (Str.ofString "9").cps)⟩ : Str) ++ Str.ofString " ~ 1 2") = z1 at f1 ⊢
        generalize (Str.ofString "t" ++ (⟨List.foldl (fun x1 x2 => x1 ++ x2) #[] (List.replicate 30 (Str.ofString "9").cps)⟩ : Str) ++ Str.ofString ":a") = z2 at f2 ⊢
        refine ⟨small_le (by show 3 ≤ 1000; decide), fun p6 hp6 => ⟨_, (same_upd hp6 _) _ _ kw, _, upd_same, small_le (by show 14 + 3 ≤ 1000; decide), fun p7 hp7 => ⟨⟨_, SqL.of upd_same⟩, ?_⟩⟩⟩
        have all : ∀ v ∈ [V.str (Str.ofString ""), V.str (Str.ofString "~~"), V.str (Str.ofString "t"), V.str (Str.ofString "t1"), V.str (Str.ofString "t1:"), V.str (Str.ofString "-"), V.str (Str.ofString "-0"), V.str (Str.ofString "00"), V.str (Str.ofString "c"), V.str (Str.ofString "c0 1"), V.str (Str.ofString "c1 1 2"), V.str (Str.ofString "c2 1 3 3"), V.str (Str.ofString " 5"), V.str (Str.ofString "5 ")] ++ [V.str z1, V.str z2, V.str (Str.ofString "c02 1 2 3")], ∃ z : Str, v = .str z ∧ z.length ≤ 100 := fun v hv => by
          simp only [List.cons_append, List.nil_append, List.mem_cons, List.not_mem_nil, or_false] at hv
          rcases hv with e | e | e | e | e | e | e | e | e | e | e | e | e | e | e | e | e <;> first | exact ⟨_, e, by decide⟩ | exact ⟨_, e, f1⟩ | exact ⟨_, e, f2⟩
        have k7 : upd (upd H6 p6 (.lst [V.str z1, V.str z2, V.str (Str.ofString "c02 1 2 3")])) p7 (.lst ([V.str (Str.ofString ""), V.str (Str.ofString "~~"), V.str (Str.ofString "t"), V.str (Str.ofString "t1"), V.str (Str.ofString "t1:"), V.str (Str.ofString "-"), V.str (Str.ofString "-0"), V.str (Str.ofString "00"), V.str (Str.ofString "c"), V.str (Str.ofString "c0 1"), V.str (Str.ofString "c1 1 2"), V.str (Str.ofString "c2 1 3 3"), V.str (Str.ofString " 5"), V.str (Str.ofString "5 ")] ++ [V.str z1, V.str z2, V.str (Str.ofString "c02 1 2 3")])) p7 = some (.lst ([V.str (Str.ofString ""), V.str (Str.ofString "~~"), V.str (Str.ofString "t"), V.str (Str.ofString "t1"), V.str (Str.ofString "t1:"), V.str (Str.ofString "-"), V.str (Str.ofString "-0"), V.str (Str.ofString "00"), V.str (Str.ofString "c"), V.str (Str.ofString "c0 1"), V.str (Str.ofString "c1 1 2"), V.str (Str.ofString "c2 1 3 3"), V.str (Str.ofString " 5"), V.str (Str.ofString "5 ")] ++ [V.str z1, V.str z2, V.str (Str.ofString "c02 1 2 3")])) := upd_same
        generalize [V.str (Str.ofString ""), V.str (Str.ofString "~~"), V.str (Str.ofString "t"), V.str (Str.ofString "t1"), V.str (Str.ofString "t1:"), V.str (Str.ofString "-"), V.str (Str.ofString "-0"), V.str (Str.ofString "00"), V.str (Str.ofString "c"), V.str (Str.ofString "c0 1"), V.str (Str.ofString "c1 1 2"), V.str (Str.ofString "c2 1 3 3"), V.str (Str.ofString " 5"), V.str (Str.ofString "5 ")] ++ [V.str z1, V.str z2, V.str (Str.ofString "c02 1 2 3")] = LL at all k7 ⊢
        generalize upd (upd H6 p6 (.lst [V.str z1, V.str z2, V.str (Str.ofString "c02 1 2 3")])) p7 (.lst LL) = H7 at k7 ⊢
        refine foR_list LL (fun i σ' H' => ∃ w w2, σ' = [some (V.ref a0), w, w2, some (V.ref pw)] ∧ Same H7 H') ⟨_, _, rfl, Same.refl _⟩ ?_ ?_ ?_
        · rintro i σ' H' _ ⟨w, w2, rfl, s'⟩
          exact SqL.of (s' _ _ k7)
        · rintro i x σ' H' hx ⟨w, w2, rfl, s'⟩
          obtain ⟨z, rfl, hz⟩ := all x (List.mem_of_getElem? hx)
          walk_at "rd"
          refine ⟨z, false, rfl, by omega, (fun h => by cases h), fun H8 s8 => ⟨true, rfl, ?_⟩⟩
          rw [if_neg (by decide)]
          exact ⟨_, _, ⟨rfl, rfl⟩, s'.trans s8⟩
        · rintro σ' H' ⟨w, w2, rfl, s'⟩
          walk_at "rd"
          refine ⟨_, true, rfl, by decide, fun _ => ⟨.p (.int 0), by kernel_rfl⟩, fun H8 s8 => ⟨true, rfl, ?_⟩⟩
          rw [if_pos rfl]
          refine ⟨_, true, rfl, by decide, fun _ => ⟨.c (.int 5) [.non, .str ⟨#[97]⟩], by kernel_rfl⟩, fun H9 s9 => ⟨true, rfl, ?_⟩⟩
          rw [if_pos rfl]
          exact ⟨_, true, rfl, by decide, fun _ => ⟨.p (.str ⟨#[126, 32]⟩), by kernel_rfl⟩, fun H10 _ => q _⟩
theorem law_sp {K : PySem.W.Frag} {H : Hp} {a : Addr} {ns : List Int} (hl : ns.length ≤ 63) (hb : ∀ i ∈ ns, Builtin.Int.intBits i ≤ 2 ^ 20) (hS : SqL K H a (ns.map V.int)) : sp_law K [.ref a] H (fun v _ => v = .bl true) fun _ _ _ => False :=
  ⟨a, ns, rfl, hS, hl, hb, fun _ => rfl⟩
--@SPLIT
theorem all_mk {l : PySem.W.OpenLaw} {w : World} {K : PySem.W.Frag} {h : Heap} {mg : Str → Option Value} {fa : Addr} (X : K.In h) (G : h.Ns mainGlobals mg) (hfa : mg "law" = some (.ref fa))
    {C CE CT : Addr} {xnm xq : Str} {xN : Addr} {xbs : List Value} {xhd : Bool} {xsn : List Str} {xsub : List Value} {xab : Bool} {xcol : Option Bool} {xdd : Option Addr} {xk0 xk1 xk2 xk3 xk5 : Option Value}
    (b1 : PySem.W.nsIn K mainGlobals "BadText" = some (some (.ref CE))) (b2 : K.lookup CE = some (excClassObj xnm xq CE xN xbs (.ref CT :: bmB) xhd xsn xsub xab xcol xdd xk0 xk1 xk2 xk3 xk5 "ValueError.__new__"))
    (b3 : PySem.W.nsOkIn K xN = true) (b4 : PySem.W.nsIn K xN "__init__" = some none) (b5 : PySem.W.tailIn K bmB (.ref CT :: bmB) = true)
    (d1 : PySem.W.nsIn K mainGlobals "Strip" = some (some (.ref C))) (d2 : PySem.W.plainGet K C Str.empty = true) (d3 : PySem.W.hasDictIn K C = true) (d4 : PySem.W.plainOver K C = true) (d5 : PySem.W.findIn K (.ref C) "__setattr__" = some (some (.builtin "object.__setattr__")))
    (n0 : PySem.W.findIn K (.ref C) "at" = some none)
    (n1 : PySem.W.findIn K (.ref C) "text" = some none)
    (d8 : PySem.W.makesIn K C = true) (e2 : PySem.W.keepIn K (.ref C) = true)
    {f1 : Addr} {od1 an1 : Option Addr} {sl1 : Array (Option Value)} {oc1 kV1 dc1 pm1 cd1 ct1 : Value}
    (a1 : PySem.W.findIn K (.ref C) "take_by" = some (some (.ref f1))) (i1 : PySem.W.isFn K (.ref f1) = true)
    (l1 : K.lookup f1 = some ⟨oc1, od1, .func (PySem.W.fnOf "take_by" "Strip.take_by" (defArgs s_Strip_take_by) (defBody s_Strip_take_by) (defScope s_Strip_take_by) .none kV1 dc1 pm1 an1 cd1 ct1), sl1⟩) (c1 : PySem.W.codeIn K cd1 "Strip.take_by" = true) (k1 : PySem.W.keepIn K (.ref f1) = true)
    {f2 : Addr} {od2 an2 : Option Addr} {sl2 : Array (Option Value)} {oc2 kV2 dc2 pm2 cd2 ct2 : Value}
    (a2 : PySem.W.nsIn K mainGlobals "is_whole" = some (some (.ref f2)))
    (l2 : K.lookup f2 = some ⟨oc2, od2, .func (PySem.W.fnOf "is_whole" "is_whole" (defArgs s_is_whole) (defBody s_is_whole) (defScope s_is_whole) .none kV2 dc2 pm2 an2 cd2 ct2), sl2⟩) (c2 : PySem.W.codeIn K cd2 "is_whole" = true) (k2 : PySem.W.keepIn K (.ref f2) = true)
    {f3 : Addr} {od3 an3 : Option Addr} {sl3 : Array (Option Value)} {oc3 kV3 dc3 pm3 cd3 ct3 : Value}
    (a3 : PySem.W.nsIn K mainGlobals "is_sign" = some (some (.ref f3)))
    (l3 : K.lookup f3 = some ⟨oc3, od3, .func (PySem.W.fnOf "is_sign" "is_sign" (defArgs s_is_sign) (defBody s_is_sign) (defScope s_is_sign) .none kV3 dc3 pm3 an3 cd3 ct3), sl3⟩) (c3 : PySem.W.codeIn K cd3 "is_sign" = true) (k3 : PySem.W.keepIn K (.ref f3) = true)
    {f4 : Addr} {od4 an4 : Option Addr} {sl4 : Array (Option Value)} {oc4 kV4 dc4 pm4 cd4 ct4 : Value}
    (a4 : PySem.W.nsIn K mainGlobals "rank_of" = some (some (.ref f4)))
    (l4 : K.lookup f4 = some ⟨oc4, od4, .func (PySem.W.fnOf "rank_of" "rank_of" (defArgs s_rank_of) (defBody s_rank_of) (defScope s_rank_of) .none kV4 dc4 pm4 an4 cd4 ct4), sl4⟩) (c4 : PySem.W.codeIn K cd4 "rank_of" = true) (k4 : PySem.W.keepIn K (.ref f4) = true)
    {f5 : Addr} {od5 an5 : Option Addr} {sl5 : Array (Option Value)} {oc5 kV5 dc5 pm5 cd5 ct5 : Value}
    (a5 : PySem.W.nsIn K mainGlobals "base_of" = some (some (.ref f5)))
    (l5 : K.lookup f5 = some ⟨oc5, od5, .func (PySem.W.fnOf "base_of" "base_of" (defArgs s_base_of) (defBody s_base_of) (defScope s_base_of) .none kV5 dc5 pm5 an5 cd5 ct5), sl5⟩) (c5 : PySem.W.codeIn K cd5 "base_of" = true) (k5 : PySem.W.keepIn K (.ref f5) = true)
    {f6 : Addr} {od6 an6 : Option Addr} {sl6 : Array (Option Value)} {oc6 kV6 dc6 pm6 cd6 ct6 : Value}
    (a6 : PySem.W.nsIn K mainGlobals "sides_of" = some (some (.ref f6)))
    (l6 : K.lookup f6 = some ⟨oc6, od6, .func (PySem.W.fnOf "sides_of" "sides_of" (defArgs s_sides_of) (defBody s_sides_of) (defScope s_sides_of) .none kV6 dc6 pm6 an6 cd6 ct6), sl6⟩) (c6 : PySem.W.codeIn K cd6 "sides_of" = true) (k6 : PySem.W.keepIn K (.ref f6) = true)
    {f7 : Addr} {od7 an7 : Option Addr} {sl7 : Array (Option Value)} {oc7 kV7 dc7 pm7 cd7 ct7 : Value}
    (a7 : PySem.W.nsIn K mainGlobals "shown_plain" = some (some (.ref f7)))
    (l7 : K.lookup f7 = some ⟨oc7, od7, .func (PySem.W.fnOf "shown_plain" "shown_plain" (defArgs s_shown_plain) (defBody s_shown_plain) (defScope s_shown_plain) .none kV7 dc7 pm7 an7 cd7 ct7), sl7⟩) (c7 : PySem.W.codeIn K cd7 "shown_plain" = true) (k7 : PySem.W.keepIn K (.ref f7) = true)
    {f8 : Addr} {od8 an8 : Option Addr} {sl8 : Array (Option Value)} {oc8 kV8 dc8 pm8 cd8 ct8 : Value}
    (a8 : PySem.W.findIn K (.ref C) "__init__" = some (some (.ref f8))) (i8 : PySem.W.isFn K (.ref f8) = true)
    (l8 : K.lookup f8 = some ⟨oc8, od8, .func (PySem.W.fnOf "__init__" "Strip.__init__" (defArgs s_Strip_init) (defBody s_Strip_init) (defScope s_Strip_init) .none kV8 dc8 pm8 an8 cd8 ct8), sl8⟩) (c8 : PySem.W.codeIn K cd8 "Strip.__init__" = true) (k8 : PySem.W.keepIn K (.ref f8) = true)
    {f9 : Addr} {od9 an9 : Option Addr} {sl9 : Array (Option Value)} {oc9 kV9 dc9 pm9 cd9 ct9 : Value}
    (a9 : PySem.W.findIn K (.ref C) "is_over" = some (some (.ref f9))) (i9 : PySem.W.isFn K (.ref f9) = true)
    (l9 : K.lookup f9 = some ⟨oc9, od9, .func (PySem.W.fnOf "is_over" "Strip.is_over" (defArgs s_Strip_is_over) (defBody s_Strip_is_over) (defScope s_Strip_is_over) .none kV9 dc9 pm9 an9 cd9 ct9), sl9⟩) (c9 : PySem.W.codeIn K cd9 "Strip.is_over" = true) (k9 : PySem.W.keepIn K (.ref f9) = true)
    {f10 : Addr} {od10 an10 : Option Addr} {sl10 : Array (Option Value)} {oc10 kV10 dc10 pm10 cd10 ct10 : Value}
    (a10 : PySem.W.findIn K (.ref C) "sign_ahead" = some (some (.ref f10))) (i10 : PySem.W.isFn K (.ref f10) = true)
    (l10 : K.lookup f10 = some ⟨oc10, od10, .func (PySem.W.fnOf "sign_ahead" "Strip.sign_ahead" (defArgs s_Strip_sign_ahead) (defBody s_Strip_sign_ahead) (defScope s_Strip_sign_ahead) .none kV10 dc10 pm10 an10 cd10 ct10), sl10⟩) (c10 : PySem.W.codeIn K cd10 "Strip.sign_ahead" = true) (k10 : PySem.W.keepIn K (.ref f10) = true)
    {f11 : Addr} {od11 an11 : Option Addr} {sl11 : Array (Option Value)} {oc11 kV11 dc11 pm11 cd11 ct11 : Value}
    (a11 : PySem.W.findIn K (.ref C) "run_ahead" = some (some (.ref f11))) (i11 : PySem.W.isFn K (.ref f11) = true)
    (l11 : K.lookup f11 = some ⟨oc11, od11, .func (PySem.W.fnOf "run_ahead" "Strip.run_ahead" (defArgs s_Strip_run_ahead) (defBody s_Strip_run_ahead) (defScope s_Strip_run_ahead) .none kV11 dc11 pm11 an11 cd11 ct11), sl11⟩) (c11 : PySem.W.codeIn K cd11 "Strip.run_ahead" = true) (k11 : PySem.W.keepIn K (.ref f11) = true)
    {f12 : Addr} {od12 an12 : Option Addr} {sl12 : Array (Option Value)} {oc12 kV12 dc12 pm12 cd12 ct12 : Value}
    (a12 : PySem.W.findIn K (.ref C) "take_signs" = some (some (.ref f12))) (i12 : PySem.W.isFn K (.ref f12) = true)
    (l12 : K.lookup f12 = some ⟨oc12, od12, .func (PySem.W.fnOf "take_signs" "Strip.take_signs" (defArgs s_Strip_take_signs) (defBody s_Strip_take_signs) (defScope s_Strip_take_signs) .none kV12 dc12 pm12 an12 cd12 ct12), sl12⟩) (c12 : PySem.W.codeIn K cd12 "Strip.take_signs" = true) (k12 : PySem.W.keepIn K (.ref f12) = true)
    {f13 : Addr} {od13 an13 : Option Addr} {sl13 : Array (Option Value)} {oc13 kV13 dc13 pm13 cd13 ct13 : Value}
    (a13 : PySem.W.nsIn K mainGlobals "_law_mix" = some (some (.ref f13)))
    (l13 : K.lookup f13 = some ⟨oc13, od13, .func (PySem.W.fnOf "_law_mix" "_law_mix" (defArgs s__law_mix) (defBody s__law_mix) (defScope s__law_mix) .none kV13 dc13 pm13 an13 cd13 ct13), sl13⟩) (c13 : PySem.W.codeIn K cd13 "_law_mix" = true) (k13 : PySem.W.keepIn K (.ref f13) = true)
    {f14 : Addr} {od14 an14 : Option Addr} {sl14 : Array (Option Value)} {oc14 kV14 dc14 pm14 cd14 ct14 : Value}
    (a14 : PySem.W.nsIn K mainGlobals "_law_sign" = some (some (.ref f14)))
    (l14 : K.lookup f14 = some ⟨oc14, od14, .func (PySem.W.fnOf "_law_sign" "_law_sign" (defArgs s__law_sign) (defBody s__law_sign) (defScope s__law_sign) .none kV14 dc14 pm14 an14 cd14 ct14), sl14⟩) (c14 : PySem.W.codeIn K cd14 "_law_sign" = true) (k14 : PySem.W.keepIn K (.ref f14) = true)
    {f15 : Addr} {od15 an15 : Option Addr} {sl15 : Array (Option Value)} {oc15 kV15 dc15 pm15 cd15 ct15 : Value}
    (a15 : PySem.W.nsIn K mainGlobals "_law_rank" = some (some (.ref f15)))
    (l15 : K.lookup f15 = some ⟨oc15, od15, .func (PySem.W.fnOf "_law_rank" "_law_rank" (defArgs s__law_rank) (defBody s__law_rank) (defScope s__law_rank) .none kV15 dc15 pm15 an15 cd15 ct15), sl15⟩) (c15 : PySem.W.codeIn K cd15 "_law_rank" = true) (k15 : PySem.W.keepIn K (.ref f15) = true)
    {f16 : Addr} {od16 an16 : Option Addr} {sl16 : Array (Option Value)} {oc16 kV16 dc16 pm16 cd16 ct16 : Value}
    (a16 : PySem.W.nsIn K mainGlobals "_law_piece" = some (some (.ref f16)))
    (l16 : K.lookup f16 = some ⟨oc16, od16, .func (PySem.W.fnOf "_law_piece" "_law_piece" (defArgs s__law_piece) (defBody s__law_piece) (defScope s__law_piece) .none kV16 dc16 pm16 an16 cd16 ct16), sl16⟩) (c16 : PySem.W.codeIn K cd16 "_law_piece" = true) (k16 : PySem.W.keepIn K (.ref f16) = true)
    {f17 : Addr} {od17 an17 : Option Addr} {sl17 : Array (Option Value)} {oc17 kV17 dc17 pm17 cd17 ct17 : Value}
    (a17 : PySem.W.nsIn K mainGlobals "_law_is_plain" = some (some (.ref f17)))
    (l17 : K.lookup f17 = some ⟨oc17, od17, .func (PySem.W.fnOf "_law_is_plain" "_law_is_plain" (defArgs s__law_is_plain) (defBody s__law_is_plain) (defScope s__law_is_plain) .none kV17 dc17 pm17 an17 cd17 ct17), sl17⟩) (c17 : PySem.W.codeIn K cd17 "_law_is_plain" = true) (k17 : PySem.W.keepIn K (.ref f17) = true)
    {f18 : Addr} {od18 an18 : Option Addr} {sl18 : Array (Option Value)} {oc18 kV18 dc18 pm18 cd18 ct18 : Value}
    (a18 : PySem.W.nsIn K mainGlobals "_law_many" = some (some (.ref f18)))
    (l18 : K.lookup f18 = some ⟨oc18, od18, .func (PySem.W.fnOf "_law_many" "_law_many" (defArgs s__law_many) (defBody s__law_many) (defScope s__law_many) .none kV18 dc18 pm18 an18 cd18 ct18), sl18⟩) (c18 : PySem.W.codeIn K cd18 "_law_many" = true) (k18 : PySem.W.keepIn K (.ref f18) = true)
    {f19 : Addr} {od19 an19 : Option Addr} {sl19 : Array (Option Value)} {oc19 kV19 dc19 pm19 cd19 ct19 : Value}
    (a19 : PySem.W.nsIn K mainGlobals "_law_beyond" = some (some (.ref f19)))
    (l19 : K.lookup f19 = some ⟨oc19, od19, .func (PySem.W.fnOf "_law_beyond" "_law_beyond" (defArgs s__law_beyond) (defBody s__law_beyond) (defScope s__law_beyond) .none kV19 dc19 pm19 an19 cd19 ct19), sl19⟩) (c19 : PySem.W.codeIn K cd19 "_law_beyond" = true) (k19 : PySem.W.keepIn K (.ref f19) = true)
    {f20 : Addr} {od20 an20 : Option Addr} {sl20 : Array (Option Value)} {oc20 kV20 dc20 pm20 cd20 ct20 : Value}
    (a20 : PySem.W.nsIn K mainGlobals "is_number" = some (some (.ref f20)))
    (l20 : K.lookup f20 = some ⟨oc20, od20, .func (PySem.W.fnOf "is_number" "is_number" (defArgs s_is_number) (defBody s_is_number) (defScope s_is_number) .none kV20 dc20 pm20 an20 cd20 ct20), sl20⟩) (c20 : PySem.W.codeIn K cd20 "is_number" = true) (k20 : PySem.W.keepIn K (.ref f20) = true)
    {f21 : Addr} {od21 an21 : Option Addr} {sl21 : Array (Option Value)} {oc21 kV21 dc21 pm21 cd21 ct21 : Value}
    (a21 : PySem.W.nsIn K mainGlobals "is_text" = some (some (.ref f21)))
    (l21 : K.lookup f21 = some ⟨oc21, od21, .func (PySem.W.fnOf "is_text" "is_text" (defArgs s_is_text) (defBody s_is_text) (defScope s_is_text) .none kV21 dc21 pm21 an21 cd21 ct21), sl21⟩) (c21 : PySem.W.codeIn K cd21 "is_text" = true) (k21 : PySem.W.keepIn K (.ref f21) = true)
    {f22 : Addr} {od22 an22 : Option Addr} {sl22 : Array (Option Value)} {oc22 kV22 dc22 pm22 cd22 ct22 : Value}
    (a22 : PySem.W.nsIn K mainGlobals "before" = some (some (.ref f22)))
    (l22 : K.lookup f22 = some ⟨oc22, od22, .func (PySem.W.fnOf "before" "before" (defArgs s_before) (defBody s_before) (defScope s_before) .none kV22 dc22 pm22 an22 cd22 ct22), sl22⟩) (c22 : PySem.W.codeIn K cd22 "before" = true) (k22 : PySem.W.keepIn K (.ref f22) = true)
    {f23 : Addr} {od23 an23 : Option Addr} {sl23 : Array (Option Value)} {oc23 kV23 dc23 pm23 cd23 ct23 : Value}
    (a23 : PySem.W.nsIn K mainGlobals "shown" = some (some (.ref f23)))
    (l23 : K.lookup f23 = some ⟨oc23, od23, .func (PySem.W.fnOf "shown" "shown" (defArgs s_shown) (defBody s_shown) (defScope s_shown) .none kV23 dc23 pm23 an23 cd23 ct23), sl23⟩) (c23 : PySem.W.codeIn K cd23 "shown" = true) (k23 : PySem.W.keepIn K (.ref f23) = true)
    {f24 : Addr} {od24 an24 : Option Addr} {sl24 : Array (Option Value)} {oc24 kV24 dc24 pm24 cd24 ct24 : Value}
    (a24 : PySem.W.findIn K (.ref C) "take_whole" = some (some (.ref f24))) (i24 : PySem.W.isFn K (.ref f24) = true)
    (l24 : K.lookup f24 = some ⟨oc24, od24, .func (PySem.W.fnOf "take_whole" "Strip.take_whole" (defArgs s_Strip_take_whole) (defBody s_Strip_take_whole) (defScope s_Strip_take_whole) .none kV24 dc24 pm24 an24 cd24 ct24), sl24⟩) (c24 : PySem.W.codeIn K cd24 "Strip.take_whole" = true) (k24 : PySem.W.keepIn K (.ref f24) = true)
    {f25 : Addr} {od25 an25 : Option Addr} {sl25 : Array (Option Value)} {oc25 kV25 dc25 pm25 cd25 ct25 : Value}
    (a25 : PySem.W.findIn K (.ref C) "take_sign" = some (some (.ref f25))) (i25 : PySem.W.isFn K (.ref f25) = true)
    (l25 : K.lookup f25 = some ⟨oc25, od25, .func (PySem.W.fnOf "take_sign" "Strip.take_sign" (defArgs s_Strip_take_sign) (defBody s_Strip_take_sign) (defScope s_Strip_take_sign) .none kV25 dc25 pm25 an25 cd25 ct25), sl25⟩) (c25 : PySem.W.codeIn K cd25 "Strip.take_sign" = true) (k25 : PySem.W.keepIn K (.ref f25) = true)
    {f26 : Addr} {od26 an26 : Option Addr} {sl26 : Array (Option Value)} {oc26 kV26 dc26 pm26 cd26 ct26 : Value}
    (a26 : PySem.W.nsIn K mainGlobals "_law_plain" = some (some (.ref f26)))
    (l26 : K.lookup f26 = some ⟨oc26, od26, .func (PySem.W.fnOf "_law_plain" "_law_plain" (defArgs s__law_plain) (defBody s__law_plain) (defScope s__law_plain) .none kV26 dc26 pm26 an26 cd26 ct26), sl26⟩) (c26 : PySem.W.codeIn K cd26 "_law_plain" = true) (k26 : PySem.W.keepIn K (.ref f26) = true)
    {f27 : Addr} {od27 an27 : Option Addr} {sl27 : Array (Option Value)} {oc27 kV27 dc27 pm27 cd27 ct27 : Value}
    (a27 : PySem.W.nsIn K mainGlobals "_law_written" = some (some (.ref f27)))
    (l27 : K.lookup f27 = some ⟨oc27, od27, .func (PySem.W.fnOf "_law_written" "_law_written" (defArgs s__law_written) (defBody s__law_written) (defScope s__law_written) .none kV27 dc27 pm27 an27 cd27 ct27), sl27⟩) (c27 : PySem.W.codeIn K cd27 "_law_written" = true) (k27 : PySem.W.keepIn K (.ref f27) = true)
    {f28 : Addr} {od28 an28 : Option Addr} {sl28 : Array (Option Value)} {oc28 kV28 dc28 pm28 cd28 ct28 : Value}
    (a28 : PySem.W.nsIn K mainGlobals "_law_spoiled" = some (some (.ref f28)))
    (l28 : K.lookup f28 = some ⟨oc28, od28, .func (PySem.W.fnOf "_law_spoiled" "_law_spoiled" (defArgs s__law_spoiled) (defBody s__law_spoiled) (defScope s__law_spoiled) .none kV28 dc28 pm28 an28 cd28 ct28), sl28⟩) (c28 : PySem.W.codeIn K cd28 "_law_spoiled" = true) (k28 : PySem.W.keepIn K (.ref f28) = true)
    {f29 : Addr} {od29 an29 : Option Addr} {sl29 : Array (Option Value)} {oc29 kV29 dc29 pm29 cd29 ct29 : Value}
    (a29 : PySem.W.nsIn K mainGlobals "_law_is_value" = some (some (.ref f29)))
    (l29 : K.lookup f29 = some ⟨oc29, od29, .func (PySem.W.fnOf "_law_is_value" "_law_is_value" (defArgs s__law_is_value) (defBody s__law_is_value) (defScope s__law_is_value) .none kV29 dc29 pm29 an29 cd29 ct29), sl29⟩) (c29 : PySem.W.codeIn K cd29 "_law_is_value" = true) (k29 : PySem.W.keepIn K (.ref f29) = true)
    {f30 : Addr} {od30 an30 : Option Addr} {sl30 : Array (Option Value)} {oc30 kV30 dc30 pm30 cd30 ct30 : Value}
    (a30 : PySem.W.nsIn K mainGlobals "is_plain" = some (some (.ref f30)))
    (l30 : K.lookup f30 = some ⟨oc30, od30, .func (PySem.W.fnOf "is_plain" "is_plain" (defArgs s_is_plain) (defBody s_is_plain) (defScope s_is_plain) .none kV30 dc30 pm30 an30 cd30 ct30), sl30⟩) (c30 : PySem.W.codeIn K cd30 "is_plain" = true) (k30 : PySem.W.keepIn K (.ref f30) = true)
    {f31 : Addr} {od31 an31 : Option Addr} {sl31 : Array (Option Value)} {oc31 kV31 dc31 pm31 cd31 ct31 : Value}
    (a31 : PySem.W.nsIn K mainGlobals "is_rising" = some (some (.ref f31)))
    (l31 : K.lookup f31 = some ⟨oc31, od31, .func (PySem.W.fnOf "is_rising" "is_rising" (defArgs s_is_rising) (defBody s_is_rising) (defScope s_is_rising) .none kV31 dc31 pm31 an31 cd31 ct31), sl31⟩) (c31 : PySem.W.codeIn K cd31 "is_rising" = true) (k31 : PySem.W.keepIn K (.ref f31) = true)
    {f32 : Addr} {od32 an32 : Option Addr} {sl32 : Array (Option Value)} {oc32 kV32 dc32 pm32 cd32 ct32 : Value}
    (a32 : PySem.W.nsIn K mainGlobals "minus_from" = some (some (.ref f32)))
    (l32 : K.lookup f32 = some ⟨oc32, od32, .func (PySem.W.fnOf "minus_from" "minus_from" (defArgs s_minus_from) (defBody s_minus_from) (defScope s_minus_from) .none kV32 dc32 pm32 an32 cd32 ct32), sl32⟩) (c32 : PySem.W.codeIn K cd32 "minus_from" = true) (k32 : PySem.W.keepIn K (.ref f32) = true)
    {f33 : Addr} {od33 an33 : Option Addr} {sl33 : Array (Option Value)} {oc33 kV33 dc33 pm33 cd33 ct33 : Value}
    (a33 : PySem.W.nsIn K mainGlobals "are_nows" = some (some (.ref f33)))
    (l33 : K.lookup f33 = some ⟨oc33, od33, .func (PySem.W.fnOf "are_nows" "are_nows" (defArgs s_are_nows) (defBody s_are_nows) (defScope s_are_nows) .none kV33 dc33 pm33 an33 cd33 ct33), sl33⟩) (c33 : PySem.W.codeIn K cd33 "are_nows" = true) (k33 : PySem.W.keepIn K (.ref f33) = true)
    {f34 : Addr} {od34 an34 : Option Addr} {sl34 : Array (Option Value)} {oc34 kV34 dc34 pm34 cd34 ct34 : Value}
    (a34 : PySem.W.nsIn K mainGlobals "text_from" = some (some (.ref f34)))
    (l34 : K.lookup f34 = some ⟨oc34, od34, .func (PySem.W.fnOf "text_from" "text_from" (defArgs s_text_from) (defBody s_text_from) (defScope s_text_from) .none kV34 dc34 pm34 an34 cd34 ct34), sl34⟩) (c34 : PySem.W.codeIn K cd34 "text_from" = true) (k34 : PySem.W.keepIn K (.ref f34) = true)
    {f35 : Addr} {od35 an35 : Option Addr} {sl35 : Array (Option Value)} {oc35 kV35 dc35 pm35 cd35 ct35 : Value}
    (a35 : PySem.W.nsIn K mainGlobals "_law_value" = some (some (.ref f35)))
    (l35 : K.lookup f35 = some ⟨oc35, od35, .func (PySem.W.fnOf "_law_value" "_law_value" (defArgs s__law_value) (defBody s__law_value) (defScope s__law_value) .none kV35 dc35 pm35 an35 cd35 ct35), sl35⟩) (c35 : PySem.W.codeIn K cd35 "_law_value" = true) (k35 : PySem.W.keepIn K (.ref f35) = true)
    {f36 : Addr} {od36 an36 : Option Addr} {sl36 : Array (Option Value)} {oc36 kV36 dc36 pm36 cd36 ct36 : Value}
    (a36 : PySem.W.nsIn K mainGlobals "is_clash" = some (some (.ref f36)))
    (l36 : K.lookup f36 = some ⟨oc36, od36, .func (PySem.W.fnOf "is_clash" "is_clash" (defArgs s_is_clash) (defBody s_is_clash) (defScope s_is_clash) .none kV36 dc36 pm36 an36 cd36 ct36), sl36⟩) (c36 : PySem.W.codeIn K cd36 "is_clash" = true) (k36 : PySem.W.keepIn K (.ref f36) = true)
    {f37 : Addr} {od37 an37 : Option Addr} {sl37 : Array (Option Value)} {oc37 kV37 dc37 pm37 cd37 ct37 : Value}
    (a37 : PySem.W.nsIn K mainGlobals "plain_from" = some (some (.ref f37)))
    (l37 : K.lookup f37 = some ⟨oc37, od37, .func (PySem.W.fnOf "plain_from" "plain_from" (defArgs s_plain_from) (defBody s_plain_from) (defScope s_plain_from) .none kV37 dc37 pm37 an37 cd37 ct37), sl37⟩) (c37 : PySem.W.codeIn K cd37 "plain_from" = true) (k37 : PySem.W.keepIn K (.ref f37) = true)
    {f38 : Addr} {od38 an38 : Option Addr} {sl38 : Array (Option Value)} {oc38 kV38 dc38 pm38 cd38 ct38 : Value}
    (a38 : PySem.W.nsIn K mainGlobals "_law_text" = some (some (.ref f38)))
    (l38 : K.lookup f38 = some ⟨oc38, od38, .func (PySem.W.fnOf "_law_text" "_law_text" (defArgs s__law_text) (defBody s__law_text) (defScope s__law_text) .none kV38 dc38 pm38 an38 cd38 ct38), sl38⟩) (c38 : PySem.W.codeIn K cd38 "_law_text" = true) (k38 : PySem.W.keepIn K (.ref f38) = true)
    {f39 : Addr} {od39 an39 : Option Addr} {sl39 : Array (Option Value)} {oc39 kV39 dc39 pm39 cd39 ct39 : Value}
    (a39 : PySem.W.findIn K (.ref C) "take_plain" = some (some (.ref f39))) (i39 : PySem.W.isFn K (.ref f39) = true)
    (l39 : K.lookup f39 = some ⟨oc39, od39, .func (PySem.W.fnOf "take_plain" "Strip.take_plain" (defArgs s_Strip_take_plain) (defBody s_Strip_take_plain) (defScope s_Strip_take_plain) .none kV39 dc39 pm39 an39 cd39 ct39), sl39⟩) (c39 : PySem.W.codeIn K cd39 "Strip.take_plain" = true) (k39 : PySem.W.keepIn K (.ref f39) = true)
    {f40 : Addr} {od40 an40 : Option Addr} {sl40 : Array (Option Value)} {oc40 kV40 dc40 pm40 cd40 ct40 : Value}
    (a40 : PySem.W.nsIn K mainGlobals "clash_from" = some (some (.ref f40)))
    (l40 : K.lookup f40 = some ⟨oc40, od40, .func (PySem.W.fnOf "clash_from" "clash_from" (defArgs s_clash_from) (defBody s_clash_from) (defScope s_clash_from) .none kV40 dc40 pm40 an40 cd40 ct40), sl40⟩) (c40 : PySem.W.codeIn K cd40 "clash_from" = true) (k40 : PySem.W.keepIn K (.ref f40) = true)
    {f41 : Addr} {od41 an41 : Option Addr} {sl41 : Array (Option Value)} {oc41 kV41 dc41 pm41 cd41 ct41 : Value}
    (a41 : PySem.W.nsIn K mainGlobals "value_from" = some (some (.ref f41)))
    (l41 : K.lookup f41 = some ⟨oc41, od41, .func (PySem.W.fnOf "value_from" "value_from" (defArgs s_value_from) (defBody s_value_from) (defScope s_value_from) .none kV41 dc41 pm41 an41 cd41 ct41), sl41⟩) (c41 : PySem.W.codeIn K cd41 "value_from" = true) (k41 : PySem.W.keepIn K (.ref f41) = true)
    {f42 : Addr} {od42 an42 : Option Addr} {sl42 : Array (Option Value)} {oc42 kV42 dc42 pm42 cd42 ct42 : Value}
    (a42 : PySem.W.findIn K (.ref C) "take_value" = some (some (.ref f42))) (i42 : PySem.W.isFn K (.ref f42) = true)
    (l42 : K.lookup f42 = some ⟨oc42, od42, .func (PySem.W.fnOf "take_value" "Strip.take_value" (defArgs s_Strip_take_value) (defBody s_Strip_take_value) (defScope s_Strip_take_value) .none kV42 dc42 pm42 an42 cd42 ct42), sl42⟩) (c42 : PySem.W.codeIn K cd42 "Strip.take_value" = true) (k42 : PySem.W.keepIn K (.ref f42) = true)
    {f43 : Addr} {od43 an43 : Option Addr} {sl43 : Array (Option Value)} {oc43 kV43 dc43 pm43 cd43 ct43 : Value}
    (a43 : PySem.W.nsIn K mainGlobals "read_value" = some (some (.ref f43)))
    (l43 : K.lookup f43 = some ⟨oc43, od43, .func (PySem.W.fnOf "read_value" "read_value" (defArgs s_read_value) (defBody s_read_value) (defScope s_read_value) .none kV43 dc43 pm43 an43 cd43 ct43), sl43⟩) (c43 : PySem.W.codeIn K cd43 "read_value" = true) (k43 : PySem.W.keepIn K (.ref f43) = true)
    {f44 : Addr} {od44 an44 : Option Addr} {sl44 : Array (Option Value)} {oc44 kV44 dc44 pm44 cd44 ct44 : Value}
    (a44 : PySem.W.nsIn K mainGlobals "_law_good" = some (some (.ref f44)))
    (l44 : K.lookup f44 = some ⟨oc44, od44, .func (PySem.W.fnOf "_law_good" "_law_good" (defArgs s__law_good) (defBody s__law_good) (defScope s__law_good) .none kV44 dc44 pm44 an44 cd44 ct44), sl44⟩) (c44 : PySem.W.codeIn K cd44 "_law_good" = true) (k44 : PySem.W.keepIn K (.ref f44) = true)
    {f45 : Addr} {od45 an45 : Option Addr} {sl45 : Array (Option Value)} {oc45 kV45 dc45 pm45 cd45 ct45 : Value}
    (a45 : PySem.W.nsIn K mainGlobals "law" = some (some (.ref f45)))
    (l45 : K.lookup f45 = some ⟨oc45, od45, .func (PySem.W.fnOf "law" "law" (defArgs s_law) (defBody s_law) (defScope s_law) .none kV45 dc45 pm45 an45 cd45 ct45), sl45⟩) (c45 : PySem.W.codeIn K cd45 "law" = true) (k45 : PySem.W.keepIn K (.ref f45) = true)
    (z1 : PySem.W.nsIn K mainGlobals "abs" = some none)
    (z2 : PySem.W.nsIn K mainGlobals "all" = some none)
    (z3 : PySem.W.nsIn K mainGlobals "bool" = some none)
    (z4 : PySem.W.nsIn K mainGlobals "int" = some none)
    (z5 : PySem.W.nsIn K mainGlobals "isinstance" = some none)
    (z6 : PySem.W.nsIn K mainGlobals "len" = some none)
    (z7 : PySem.W.nsIn K mainGlobals "list" = some none)
    (z8 : PySem.W.nsIn K mainGlobals "ord" = some none)
    (z9 : PySem.W.nsIn K mainGlobals "range" = some none)
    (z10 : PySem.W.nsIn K mainGlobals "sorted" = some none)
    (z11 : PySem.W.nsIn K mainGlobals "str" = some none)
    (z12 : PySem.W.nsIn K mainGlobals "tuple" = some none)
    {tk1 : Tok} (g1 : PySem.W.nsIn K mainGlobals "MOST_SIGNS" = some (some (.int (40) tk1)))
    {tk2 : Tok} (g2 : PySem.W.nsIn K mainGlobals "PERCENT" = some (some (.int (37) tk2)))
    {tk3 : Tok} (g3 : PySem.W.nsIn K mainGlobals "MOST_FIGURES" = some (some (.int (30) tk3)))
    : ∃ fd : FuncData, (∀ (s : Shared) (v : Value), BindsTo s fd ⟨[v], []⟩ [("_law_script", v)]) ∧ ∀ base : Heap, K.In base → base.Ns mainGlobals mg → FnOk l.prog w K mg base CX0 14 fa fd ["_law_script"] (sp_law K) := by
  have e := hfa.symm.trans (PySem.W.mg_of X G a45)
  cases e
  have F1 := fun_mk (st := s_Strip_take_by) l1 c1 k1
  have q1 := F1.binds (ps := ["self", "step"]) fun _ _ _ _ _ _ us hl => match us, hl with | [_, _], _ => rfl
  have F2 := fun_mk (st := s_is_whole) l2 c2 k2
  have q2 := F2.binds (ps := ["thing"]) fun _ _ _ _ _ _ us hl => match us, hl with | [_], _ => rfl
  have F3 := fun_mk (st := s_is_sign) l3 c3 k3
  have q3 := F3.binds (ps := ["one"]) fun _ _ _ _ _ _ us hl => match us, hl with | [_], _ => rfl
  have F4 := fun_mk (st := s_rank_of) l4 c4 k4
  have q4 := F4.binds (ps := ["value"]) fun _ _ _ _ _ _ us hl => match us, hl with | [_], _ => rfl
  have F5 := fun_mk (st := s_base_of) l5 c5 k5
  have q5 := F5.binds (ps := ["value"]) fun _ _ _ _ _ _ us hl => match us, hl with | [_], _ => rfl
  have F6 := fun_mk (st := s_sides_of) l6 c6 k6
  have q6 := F6.binds (ps := ["value"]) fun _ _ _ _ _ _ us hl => match us, hl with | [_], _ => rfl
  have F7 := fun_mk (st := s_shown_plain) l7 c7 k7
  have q7 := F7.binds (ps := ["value"]) fun _ _ _ _ _ _ us hl => match us, hl with | [_], _ => rfl
  have F8 := fun_mk (st := s_Strip_init) l8 c8 k8
  have q8 := F8.binds (ps := ["self", "text"]) fun _ _ _ _ _ _ us hl => match us, hl with | [_, _], _ => rfl
  have F9 := fun_mk (st := s_Strip_is_over) l9 c9 k9
  have q9 := F9.binds (ps := ["self"]) fun _ _ _ _ _ _ us hl => match us, hl with | [_], _ => rfl
  have F10 := fun_mk (st := s_Strip_sign_ahead) l10 c10 k10
  have q10 := F10.binds (ps := ["self"]) fun _ _ _ _ _ _ us hl => match us, hl with | [_], _ => rfl
  have F11 := fun_mk (st := s_Strip_run_ahead) l11 c11 k11
  have q11 := F11.binds (ps := ["self", "first", "last", "most"]) fun _ _ _ _ _ _ us hl => match us, hl with | [_, _, _, _], _ => rfl
  have F12 := fun_mk (st := s_Strip_take_signs) l12 c12 k12
  have q12 := F12.binds (ps := ["self", "count"]) fun _ _ _ _ _ _ us hl => match us, hl with | [_, _], _ => rfl
  have F13 := fun_mk (st := s__law_mix) l13 c13 k13
  have q13 := F13.binds (ps := ["_law_cell", "_law_k"]) fun _ _ _ _ _ _ us hl => match us, hl with | [_, _], _ => rfl
  have F14 := fun_mk (st := s__law_sign) l14 c14 k14
  have q14 := F14.binds (ps := ["_law_number"]) fun _ _ _ _ _ _ us hl => match us, hl with | [_], _ => rfl
  have F15 := fun_mk (st := s__law_rank) l15 c15 k15
  have q15 := F15.binds (ps := ["_law_thing"]) fun _ _ _ _ _ _ us hl => match us, hl with | [_], _ => rfl
  have F16 := fun_mk (st := s__law_piece) l16 c16 k16
  have q16 := F16.binds (ps := ["_law_number"]) fun _ _ _ _ _ _ us hl => match us, hl with | [_], _ => rfl
  have F17 := fun_mk (st := s__law_is_plain) l17 c17 k17
  have q17 := F17.binds (ps := ["_law_thing"]) fun _ _ _ _ _ _ us hl => match us, hl with | [_], _ => rfl
  have F18 := fun_mk (st := s__law_many) l18 c18 k18
  have q18 := F18.binds (ps := ["_law_cell"]) fun _ _ _ _ _ _ us hl => match us, hl with | [_], _ => rfl
  have F19 := fun_mk (st := s__law_beyond) l19 c19 k19
  have q19 := F19.binds (ps := ["_law_cell"]) fun _ _ _ _ _ _ us hl => match us, hl with | [_], _ => rfl
  have F20 := fun_mk (st := s_is_number) l20 c20 k20
  have q20 := F20.binds (ps := ["thing"]) fun _ _ _ _ _ _ us hl => match us, hl with | [_], _ => rfl
  have F21 := fun_mk (st := s_is_text) l21 c21 k21
  have q21 := F21.binds (ps := ["thing", "least"]) fun _ _ _ _ _ _ us hl => match us, hl with | [_, _], _ => rfl
  have F22 := fun_mk (st := s_before) l22 c22 k22
  have q22 := F22.binds (ps := ["one", "other"]) fun _ _ _ _ _ _ us hl => match us, hl with | [_, _], _ => rfl
  have F23 := fun_mk (st := s_shown) l23 c23 k23
  have q23 := F23.binds (ps := ["value"]) fun _ _ _ _ _ _ us hl => match us, hl with | [_], _ => rfl
  have F24 := fun_mk (st := s_Strip_take_whole) l24 c24 k24
  have q24 := F24.binds (ps := ["self"]) fun _ _ _ _ _ _ us hl => match us, hl with | [_], _ => rfl
  have F25 := fun_mk (st := s_Strip_take_sign) l25 c25 k25
  have q25 := F25.binds (ps := ["self", "one"]) fun _ _ _ _ _ _ us hl => match us, hl with | [_, _], _ => rfl
  have F26 := fun_mk (st := s__law_plain) l26 c26 k26
  have q26 := F26.binds (ps := ["_law_cell"]) fun _ _ _ _ _ _ us hl => match us, hl with | [_], _ => rfl
  have F27 := fun_mk (st := s__law_written) l27 c27 k27
  have q27 := F27.binds (ps := ["_law_value_here"]) fun _ _ _ _ _ _ us hl => match us, hl with | [_], _ => rfl
  have F28 := fun_mk (st := s__law_spoiled) l28 c28 k28
  have q28 := F28.binds (ps := ["_law_cell", "_law_some"]) fun _ _ _ _ _ _ us hl => match us, hl with | [_, _], _ => rfl
  have F29 := fun_mk (st := s__law_is_value) l29 c29 k29
  have q29 := F29.binds (ps := ["_law_thing"]) fun _ _ _ _ _ _ us hl => match us, hl with | [_], _ => rfl
  have F30 := fun_mk (st := s_is_plain) l30 c30 k30
  have q30 := F30.binds (ps := ["thing"]) fun _ _ _ _ _ _ us hl => match us, hl with | [_], _ => rfl
  have F31 := fun_mk (st := s_is_rising) l31 c31 k31
  have q31 := F31.binds (ps := ["values"]) fun _ _ _ _ _ _ us hl => match us, hl with | [_], _ => rfl
  have F32 := fun_mk (st := s_minus_from) l32 c32 k32
  have q32 := F32.binds (ps := ["strip"]) fun _ _ _ _ _ _ us hl => match us, hl with | [_], _ => rfl
  have F33 := fun_mk (st := s_are_nows) l33 c33 k33
  have q33 := F33.binds (ps := ["thing"]) fun _ _ _ _ _ _ us hl => match us, hl with | [_], _ => rfl
  have F34 := fun_mk (st := s_text_from) l34 c34 k34
  have q34 := F34.binds (ps := ["strip"]) fun _ _ _ _ _ _ us hl => match us, hl with | [_], _ => rfl
  have F35 := fun_mk (st := s__law_value) l35 c35 k35
  have q35 := F35.binds (ps := ["_law_cell"]) fun _ _ _ _ _ _ us hl => match us, hl with | [_], _ => rfl
  have F36 := fun_mk (st := s_is_clash) l36 c36 k36
  have q36 := F36.binds (ps := ["thing"]) fun _ _ _ _ _ _ us hl => match us, hl with | [_], _ => rfl
  have F37 := fun_mk (st := s_plain_from) l37 c37 k37
  have q37 := F37.binds (ps := ["strip"]) fun _ _ _ _ _ _ us hl => match us, hl with | [_], _ => rfl
  have F38 := fun_mk (st := s__law_text) l38 c38 k38
  have q38 := F38.binds (ps := ["_law_cell"]) fun _ _ _ _ _ _ us hl => match us, hl with | [_], _ => rfl
  have F39 := fun_mk (st := s_Strip_take_plain) l39 c39 k39
  have q39 := F39.binds (ps := ["self"]) fun _ _ _ _ _ _ us hl => match us, hl with | [_], _ => rfl
  have F40 := fun_mk (st := s_clash_from) l40 c40 k40
  have q40 := F40.binds (ps := ["strip"]) fun _ _ _ _ _ _ us hl => match us, hl with | [_], _ => rfl
  have F41 := fun_mk (st := s_value_from) l41 c41 k41
  have q41 := F41.binds (ps := ["strip"]) fun _ _ _ _ _ _ us hl => match us, hl with | [_], _ => rfl
  have F42 := fun_mk (st := s_Strip_take_value) l42 c42 k42
  have q42 := F42.binds (ps := ["self"]) fun _ _ _ _ _ _ us hl => match us, hl with | [_], _ => rfl
  have F43 := fun_mk (st := s_read_value) l43 c43 k43
  have q43 := F43.binds (ps := ["text"]) fun _ _ _ _ _ _ us hl => match us, hl with | [_], _ => rfl
  have F44 := fun_mk (st := s__law_good) l44 c44 k44
  have q44 := F44.binds (ps := ["_law_text_here", "_law_due"]) fun _ _ _ _ _ _ us hl => match us, hl with | [_, _], _ => rfl
  have F45 := fun_mk (st := s_law) l45 c45 k45
  have q45 := F45.binds (ps := ["_law_script"]) fun _ _ _ _ _ _ us hl => match us, hl with | [_], _ => rfl
  have Z : Zs mg := ⟨PySem.W.mg_none_of X G z1, PySem.W.mg_none_of X G z2, PySem.W.mg_none_of X G z3, PySem.W.mg_none_of X G z4, PySem.W.mg_none_of X G z5, PySem.W.mg_none_of X G z6, PySem.W.mg_none_of X G z7, PySem.W.mg_none_of X G z8, PySem.W.mg_none_of X G z9, PySem.W.mg_none_of X G z10, PySem.W.mg_none_of X G z11, PySem.W.mg_none_of X G z12, ⟨_, PySem.W.mg_of X G g1⟩, ⟨_, PySem.W.mg_of X G g2⟩, ⟨_, PySem.W.mg_of X G g3⟩⟩
  have T : Tx K mg C CE CT := ⟨⟨d2, d3, d4, d5⟩, n0, n1, PySem.W.mg_of X G b1, ⟨⟨xnm, xq, xN, xbs, xhd, xsn, xsub, xab, xcol, xdd, xk0, xk1, xk2, xk3, xk5, b2, b3, b4⟩, b5⟩⟩
  refine ⟨PySem.W.fnOf "law" "law" (defArgs s_law) (defBody s_law) (defScope s_law) .none kV45 dc45 pm45 an45 cd45 ct45, fun s v => .of_eq rfl, fun base _ _ => ?_⟩
  have M_Strip_take_by : ∀ k, MeV l.prog w K mg base (k + 1) C "take_by" (sp_Strip_take_by l.prog w K mg base C CE k) := fun k => ⟨_, _, _, ⟨a1, i1, k1⟩, ok_Strip_take_by Z T  k F1, q1⟩
  have C_is_whole : Cal l.prog w K mg base 1 "is_whole" ["thing"] (sp_is_whole K) := ⟨_, _, ok_is_whole Z T  F2, q2, k2, PySem.W.mg_of X G a2⟩
  have C_is_sign : Cal l.prog w K mg base 1 "is_sign" ["one"] (sp_is_sign K) := ⟨_, _, ok_is_sign Z T  F3, q3, k3, PySem.W.mg_of X G a3⟩
  have C_rank_of : Cal l.prog w K mg base 1 "rank_of" ["value"] (sp_rank_of K) := ⟨_, _, ok_rank_of Z T  F4, q4, k4, PySem.W.mg_of X G a4⟩
  have C_base_of : Cal l.prog w K mg base 1 "base_of" ["value"] (sp_base_of K) := ⟨_, _, ok_base_of Z T  F5, q5, k5, PySem.W.mg_of X G a5⟩
  have C_sides_of : Cal l.prog w K mg base 1 "sides_of" ["value"] (sp_sides_of K) := ⟨_, _, ok_sides_of Z T  F6, q6, k6, PySem.W.mg_of X G a6⟩
  have C_shown_plain : Cal l.prog w K mg base 1 "shown_plain" ["value"] (sp_shown_plain K) := ⟨_, _, ok_shown_plain Z T  F7, q7, k7, PySem.W.mg_of X G a7⟩
  have K_Strip : MkV l.prog w K mg base 1 "Strip" C (sp_Strip_init K C) := ⟨_, _, _, ⟨d8, a8, i8, e2⟩, ok_Strip_init Z T  F8, q8, PySem.W.mg_of X G d1⟩
  have M_Strip_is_over : MeV l.prog w K mg base 1 C "is_over" (sp_Strip_is_over K C) := ⟨_, _, _, ⟨a9, i9, k9⟩, ok_Strip_is_over Z T  F9, q9⟩
  have M_Strip_sign_ahead : MeV l.prog w K mg base 1 C "sign_ahead" (sp_Strip_sign_ahead K C) := ⟨_, _, _, ⟨a10, i10, k10⟩, ok_Strip_sign_ahead Z T  F10, q10⟩
  have M_Strip_run_ahead : MeV l.prog w K mg base 1 C "run_ahead" (sp_Strip_run_ahead K C CE) := ⟨_, _, _, ⟨a11, i11, k11⟩, ok_Strip_run_ahead Z T  F11, q11⟩
  have M_Strip_take_signs : MeV l.prog w K mg base 1 C "take_signs" (sp_Strip_take_signs K C CE) := ⟨_, _, _, ⟨a12, i12, k12⟩, ok_Strip_take_signs Z T  F12, q12⟩
  have C__law_mix : Cal l.prog w K mg base 1 "_law_mix" ["_law_cell", "_law_k"] (sp__law_mix K) := ⟨_, _, ok__law_mix Z T  F13, q13, k13, PySem.W.mg_of X G a13⟩
  have C__law_sign : Cal l.prog w K mg base 1 "_law_sign" ["_law_number"] (sp__law_sign K) := ⟨_, _, ok__law_sign Z T  F14, q14, k14, PySem.W.mg_of X G a14⟩
  have C__law_rank : Cal l.prog w K mg base 1 "_law_rank" ["_law_thing"] (sp__law_rank K) := ⟨_, _, ok__law_rank Z T  F15, q15, k15, PySem.W.mg_of X G a15⟩
  have C__law_piece : Cal l.prog w K mg base 1 "_law_piece" ["_law_number"] (sp__law_piece K) := ⟨_, _, ok__law_piece Z T  F16, q16, k16, PySem.W.mg_of X G a16⟩
  have C__law_is_plain : Cal l.prog w K mg base 1 "_law_is_plain" ["_law_thing"] (sp__law_is_plain K) := ⟨_, _, ok__law_is_plain Z T  F17, q17, k17, PySem.W.mg_of X G a17⟩
  have C__law_many : Cal l.prog w K mg base 1 "_law_many" ["_law_cell"] (sp__law_many K) := ⟨_, _, ok__law_many Z T  F18, q18, k18, PySem.W.mg_of X G a18⟩
  have C__law_beyond : Cal l.prog w K mg base 1 "_law_beyond" ["_law_cell"] (sp__law_beyond K) := ⟨_, _, ok__law_beyond Z T  F19, q19, k19, PySem.W.mg_of X G a19⟩
  have C_is_number : Cal l.prog w K mg base 2 "is_number" ["thing"] (sp_is_number K) := ⟨_, _, ok_is_number Z T C_is_whole F20, q20, k20, PySem.W.mg_of X G a20⟩
  have C_is_text : Cal l.prog w K mg base 2 "is_text" ["thing", "least"] (sp_is_text K) := ⟨_, _, ok_is_text Z T C_is_sign F21, q21, k21, PySem.W.mg_of X G a21⟩
  have C_before : Cal l.prog w K mg base 2 "before" ["one", "other"] (sp_before K) := ⟨_, _, ok_before Z T C_rank_of F22, q22, k22, PySem.W.mg_of X G a22⟩
  have C_shown : Cal l.prog w K mg base 2 "shown" ["value"] (sp_shown K) := ⟨_, _, ok_shown Z T C_sides_of C_shown_plain C_base_of F23, q23, k23, PySem.W.mg_of X G a23⟩
  have M_Strip_take_whole : MeV l.prog w K mg base 2 C "take_whole" (sp_Strip_take_whole K C CE) := ⟨_, _, _, ⟨a24, i24, k24⟩, ok_Strip_take_whole Z T M_Strip_run_ahead F24, q24⟩
  have M_Strip_take_sign : MeV l.prog w K mg base 2 C "take_sign" (sp_Strip_take_sign K C CE) := ⟨_, _, _, ⟨a25, i25, k25⟩, ok_Strip_take_sign Z T M_Strip_sign_ahead F25, q25⟩
  have C__law_plain : Cal l.prog w K mg base 2 "_law_plain" ["_law_cell"] (sp__law_plain K) := ⟨_, _, ok__law_plain Z T C__law_sign C__law_mix F26, q26, k26, PySem.W.mg_of X G a26⟩
  have C__law_written0 : Cal l.prog w K mg base 0 "_law_written" ["_law_value_here"] (fun _ _ _ _ => False) := ⟨_, _, fn_never, q27, k27, PySem.W.mg_of X G a27⟩
  have C__law_written1 : Cal l.prog w K mg base 1 "_law_written" ["_law_value_here"] (sp__law_written1 K) := ⟨_, _, ok__law_written1 Z T C__law_written0  F27, q27, k27, PySem.W.mg_of X G a27⟩
  have C__law_written : Cal l.prog w K mg base 2 "_law_written" ["_law_value_here"] (sp__law_written K) := ⟨_, _, ok__law_written Z T C__law_written1  F27, q27, k27, PySem.W.mg_of X G a27⟩
  have C__law_spoiled : Cal l.prog w K mg base 2 "_law_spoiled" ["_law_cell", "_law_some"] (sp__law_spoiled K) := ⟨_, _, ok__law_spoiled Z T C__law_mix C__law_sign F28, q28, k28, PySem.W.mg_of X G a28⟩
  have C__law_is_value : Cal l.prog w K mg base 2 "_law_is_value" ["_law_thing"] (sp__law_is_value K) := ⟨_, _, ok__law_is_value Z T C__law_is_plain C__law_rank F29, q29, k29, PySem.W.mg_of X G a29⟩
  have C_is_plain : Cal l.prog w K mg base 3 "is_plain" ["thing"] (sp_is_plain K) := ⟨_, _, ok_is_plain Z T C_is_number C_is_text F30, q30, k30, PySem.W.mg_of X G a30⟩
  have C_is_rising : Cal l.prog w K mg base 3 "is_rising" ["values"] (sp_is_rising K) := ⟨_, _, ok_is_rising Z T C_before F31, q31, k31, PySem.W.mg_of X G a31⟩
  have C_minus_from : Cal1 l.prog w K mg base 3 "minus_from" ["strip"] (sp_minus_from K C CE) := ⟨_, _, ok_minus_from Z T M_Strip_take_sign M_Strip_take_whole F32, q32, k32, PySem.W.mg_of X G a32⟩
  have C_are_nows : Cal l.prog w K mg base 4 "are_nows" ["thing"] (sp_are_nows K) := ⟨_, _, ok_are_nows Z T C_is_rising C_is_plain F33, q33, k33, PySem.W.mg_of X G a33⟩
  have C_text_from : Cal1 l.prog w K mg base 4 "text_from" ["strip"] (sp_text_from K C CE) := ⟨_, _, ok_text_from Z T C_is_plain M_Strip_take_sign M_Strip_take_whole M_Strip_take_signs F34, q34, k34, PySem.W.mg_of X G a34⟩
  have C__law_value : Cal l.prog w K mg base 4 "_law_value" ["_law_cell"] (sp__law_value K) := ⟨_, _, ok__law_value Z T C__law_plain C__law_mix C__law_rank F35, q35, k35, PySem.W.mg_of X G a35⟩
  have C_is_clash : Cal l.prog w K mg base 5 "is_clash" ["thing"] (sp_is_clash K) := ⟨_, _, ok_is_clash Z T C_is_plain C_are_nows F36, q36, k36, PySem.W.mg_of X G a36⟩
  have C_plain_from : Cal1 l.prog w K mg base 5 "plain_from" ["strip"] (sp_plain_from K C CE) := ⟨_, _, ok_plain_from Z T C_minus_from C_text_from M_Strip_sign_ahead M_Strip_take_whole M_Strip_take_sign F37, q37, k37, PySem.W.mg_of X G a37⟩
  have C__law_text : Cal l.prog w K mg base 5 "_law_text" ["_law_cell"] (sp__law_text K) := ⟨_, _, ok__law_text Z T C__law_written C__law_value C__law_spoiled C__law_piece C__law_mix F38, q38, k38, PySem.W.mg_of X G a38⟩
  have M_Strip_take_plain : MeV l.prog w K mg base 7 C "take_plain" (sp_Strip_take_plain K C CE) := ⟨_, _, _, ⟨a39, i39, k39⟩, ok_Strip_take_plain Z T M_Strip_take_by C_plain_from F39, q39⟩
  have C_clash_from : Cal1 l.prog w K mg base 8 "clash_from" ["strip"] (sp_clash_from K C CE) := ⟨_, _, ok_clash_from Z T C_is_clash M_Strip_take_sign M_Strip_take_whole M_Strip_take_plain F40, q40, k40, PySem.W.mg_of X G a40⟩
  have C_value_from : Cal1 l.prog w K mg base 9 "value_from" ["strip"] (sp_value_from K C CE) := ⟨_, _, ok_value_from Z T C_clash_from M_Strip_take_plain M_Strip_sign_ahead F41, q41, k41, PySem.W.mg_of X G a41⟩
  have M_Strip_take_value : MeV l.prog w K mg base 11 C "take_value" (sp_Strip_take_value K C CE) := ⟨_, _, _, ⟨a42, i42, k42⟩, ok_Strip_take_value Z T M_Strip_take_by C_value_from F42, q42⟩
  have C_read_value : Cal1 l.prog w K mg base 12 "read_value" ["text"] (sp_read_value K C CE) := ⟨_, _, ok_read_value Z T K_Strip M_Strip_take_value M_Strip_is_over F43, q43, k43, PySem.W.mg_of X G a43⟩
  have C__law_good : Cal l.prog w K mg base 13 "_law_good" ["_law_text_here", "_law_due"] (sp__law_good K) := ⟨_, _, ok__law_good Z T C_read_value C__law_is_value C__law_written C_shown F44, q44, k44, PySem.W.mg_of X G a44⟩
  exact ok_law Z T C__law_written C__law_good C_read_value C__law_beyond C__law_many C__law_text F45
end My
def PySem.W.Fast.tw6526256268430083963 : Nat := 0
def PySem.W.Fast.tw12088150565546276136 : Nat := 0
def PySem.W.Fast.tw1270067146607722331 : Nat := 0
def PySem.W.Fast.tw18052441365072624810 : Nat := 0
def PySem.W.Fast.tw14341744361254603912 : Nat := 0
def PySem.W.Fast.tw9725931376546015513 : Nat := 0
def PySem.W.Fast.tw18424696837810526783 : Nat := 0
def PySem.W.Fast.tw10030488716854045300 : Nat := 0
def PySem.W.Fast.tw668508870859313885 : Nat := 0
def PySem.W.Fast.tw18409800479943822776 : Nat := 0
def PySem.W.Fast.tw16094597716861708713 : Nat := 0
def PySem.W.Fast.tw17693667313486359022 : Nat := 0
def PySem.W.Fast.tw5058545430694028948 : Nat := 0
def PySem.W.Fast.tw3196024760129924498 : Nat := 0
def PySem.W.Fast.tw4350417761816948277 : Nat := 0
def PySem.W.Fast.tw12191459711904683365 : Nat := 0
def PySem.W.Fast.tw791088519200472516 : Nat := 0
def PySem.W.Fast.tw2786655085542782265 : Nat := 0
def PySem.W.Fast.tw7199017408434296113 : Nat := 0
def PySem.W.Fast.tw6509403340963237896 : Nat := 0
def PySem.W.Fast.tw11484180921598538955 : Nat := 0
def PySem.W.Fast.tw11680328191079696751 : Nat := 0
def PySem.W.Fast.tw15163032881370770293 : Nat := 0
def PySem.W.Fast.tw17391985929521886377 : Nat := 0
def PySem.W.Fast.tw3810346203152661476 : Nat := 0
def PySem.W.Fast.tw10808482236765416796 : Nat := 0
def PySem.W.Fast.tw15305158324240707369 : Nat := 0
def PySem.W.Fast.tw10861314003175830929 : Nat := 0
def PySem.W.Fast.tw3001409205949672183 : Nat := 0
def PySem.W.Fast.tw18327901196920635869 : Nat := 0
def PySem.W.Fast.tw18215854923716164236 : Nat := 0
def PySem.W.Fast.tw6809857390235219245 : Nat := 0
def PySem.W.Fast.tw16416380761402963276 : Nat := 0
def PySem.W.Fast.tw14508691808691946348 : Nat := 0
def PySem.W.Fast.tw15375833312793458639 : Nat := 0
def PySem.W.Fast.tw7302416070381672923 : Nat := 0
open PySem PySem.W PyProof.Rows
set_option maxRecDepth 100000 in
set_option maxHeartbeats 0 in
theorem PySem.Challenge.cw_twigtable_k06_whole_read_as_written_holds : PySem.Challenge.rw_twigtable_k06_whole_read_as_written.Holds := by
  w_on; o_law; k_head; (case hw => w_witness2)
  k_fill
  refine L2.walk_ofB (l := PySem.Challenge.rw_twigtable_k06_whole_read_as_written) (n := 63) (k := 14) (x := "_law_script") (CX := fun _ => L2.CX0) (sp := My.sp_law) rfl (by decide) rfl ⟨rfl, by decide, by decide⟩ (fun w h Y => PySem.W.kIn_of Y) ?F ?S ?C
  case F =>
    intro w mg fa h KX G hmg
    refine' My.all_mk KX G hmg ?b1 ?b2 ?b3 ?b4 ?b5 ?d1 ?d2 ?d3 ?d4 ?d5 ?n0 ?n1 ?d8 ?e2 ?a1 ?i1 ?l1 ?c1 ?k1 ?a2 ?l2 ?c2 ?k2 ?a3 ?l3 ?c3 ?k3 ?a4 ?l4 ?c4 ?k4 ?a5 ?l5 ?c5 ?k5 ?a6 ?l6 ?c6 ?k6 ?a7 ?l7 ?c7 ?k7 ?a8 ?i8 ?l8 ?c8 ?k8 ?a9 ?i9 ?l9 ?c9 ?k9 ?a10 ?i10 ?l10 ?c10 ?k10 ?a11 ?i11 ?l11 ?c11 ?k11 ?a12 ?i12 ?l12 ?c12 ?k12 ?a13 ?l13 ?c13 ?k13 ?a14 ?l14 ?c14 ?k14 ?a15 ?l15 ?c15 ?k15 ?a16 ?l16 ?c16 ?k16 ?a17 ?l17 ?c17 ?k17 ?a18 ?l18 ?c18 ?k18 ?a19 ?l19 ?c19 ?k19 ?a20 ?l20 ?c20 ?k20 ?a21 ?l21 ?c21 ?k21 ?a22 ?l22 ?c22 ?k22 ?a23 ?l23 ?c23 ?k23 ?a24 ?i24 ?l24 ?c24 ?k24 ?a25 ?i25 ?l25 ?c25 ?k25 ?a26 ?l26 ?c26 ?k26 ?a27 ?l27 ?c27 ?k27 ?a28 ?l28 ?c28 ?k28 ?a29 ?l29 ?c29 ?k29 ?a30 ?l30 ?c30 ?k30 ?a31 ?l31 ?c31 ?k31 ?a32 ?l32 ?c32 ?k32 ?a33 ?l33 ?c33 ?k33 ?a34 ?l34 ?c34 ?k34 ?a35 ?l35 ?c35 ?k35 ?a36 ?l36 ?c36 ?k36 ?a37 ?l37 ?c37 ?k37 ?a38 ?l38 ?c38 ?k38 ?a39 ?i39 ?l39 ?c39 ?k39 ?a40 ?l40 ?c40 ?k40 ?a41 ?l41 ?c41 ?k41 ?a42 ?i42 ?l42 ?c42 ?k42 ?a43 ?l43 ?c43 ?k43 ?a44 ?l44 ?c44 ?k44 ?a45 ?l45 ?c45 ?k45 ?z1 ?z2 ?z3 ?z4 ?z5 ?z6 ?z7 ?z8 ?z9 ?z10 ?z11 ?z12 ?g1 ?g2 ?g3
    (case b1 => k_is)
    (case b2 => k_is)
    (case b3 => (first | rfl | kernel_rfl | decide +kernel))
    (case b4 => k_is)
    (case b5 => (first | rfl | kernel_rfl | decide +kernel))
    (case d1 => k_is)
    (case d2 => k_is)
    (case d3 => k_is)
    (case d4 => k_is)
    (case d5 => k_is)
    (case n0 => k_is)
    (case n1 => k_is)
    (case d8 => k_is)
    (case e2 => k_is)
    (case a1 => k_is); (case i1 => k_is); (case l1 => k_is); (case c1 => k_is); (case k1 => k_is)
    (case a2 => k_is); (case l2 => k_is); (case c2 => k_is); (case k2 => k_is)
    (case a3 => k_is); (case l3 => k_is); (case c3 => k_is); (case k3 => k_is)
    (case a4 => k_is); (case l4 => k_is); (case c4 => k_is); (case k4 => k_is)
    (case a5 => k_is); (case l5 => k_is); (case c5 => k_is); (case k5 => k_is)
    (case a6 => k_is); (case l6 => k_is); (case c6 => k_is); (case k6 => k_is)
    (case a7 => k_is); (case l7 => k_is); (case c7 => k_is); (case k7 => k_is)
    (case a8 => k_is); (case i8 => k_is); (case l8 => k_is); (case c8 => k_is); (case k8 => k_is)
    (case a9 => k_is); (case i9 => k_is); (case l9 => k_is); (case c9 => k_is); (case k9 => k_is)
    (case a10 => k_is); (case i10 => k_is); (case l10 => k_is); (case c10 => k_is); (case k10 => k_is)
    (case a11 => k_is); (case i11 => k_is); (case l11 => k_is); (case c11 => k_is); (case k11 => k_is)
    (case a12 => k_is); (case i12 => k_is); (case l12 => k_is); (case c12 => k_is); (case k12 => k_is)
    (case a13 => k_is); (case l13 => k_is); (case c13 => k_is); (case k13 => k_is)
    (case a14 => k_is); (case l14 => k_is); (case c14 => k_is); (case k14 => k_is)
    (case a15 => k_is); (case l15 => k_is); (case c15 => k_is); (case k15 => k_is)
    (case a16 => k_is); (case l16 => k_is); (case c16 => k_is); (case k16 => k_is)
    (case a17 => k_is); (case l17 => k_is); (case c17 => k_is); (case k17 => k_is)
    (case a18 => k_is); (case l18 => k_is); (case c18 => k_is); (case k18 => k_is)
    (case a19 => k_is); (case l19 => k_is); (case c19 => k_is); (case k19 => k_is)
    (case a20 => k_is); (case l20 => k_is); (case c20 => k_is); (case k20 => k_is)
    (case a21 => k_is); (case l21 => k_is); (case c21 => k_is); (case k21 => k_is)
    (case a22 => k_is); (case l22 => k_is); (case c22 => k_is); (case k22 => k_is)
    (case a23 => k_is); (case l23 => k_is); (case c23 => k_is); (case k23 => k_is)
    (case a24 => k_is); (case i24 => k_is); (case l24 => k_is); (case c24 => k_is); (case k24 => k_is)
    (case a25 => k_is); (case i25 => k_is); (case l25 => k_is); (case c25 => k_is); (case k25 => k_is)
    (case a26 => k_is); (case l26 => k_is); (case c26 => k_is); (case k26 => k_is)
    (case a27 => k_is); (case l27 => k_is); (case c27 => k_is); (case k27 => k_is)
    (case a28 => k_is); (case l28 => k_is); (case c28 => k_is); (case k28 => k_is)
    (case a29 => k_is); (case l29 => k_is); (case c29 => k_is); (case k29 => k_is)
    (case a30 => k_is); (case l30 => k_is); (case c30 => k_is); (case k30 => k_is)
    (case a31 => k_is); (case l31 => k_is); (case c31 => k_is); (case k31 => k_is)
    (case a32 => k_is); (case l32 => k_is); (case c32 => k_is); (case k32 => k_is)
    (case a33 => k_is); (case l33 => k_is); (case c33 => k_is); (case k33 => k_is)
    (case a34 => k_is); (case l34 => k_is); (case c34 => k_is); (case k34 => k_is)
    (case a35 => k_is); (case l35 => k_is); (case c35 => k_is); (case k35 => k_is)
    (case a36 => k_is); (case l36 => k_is); (case c36 => k_is); (case k36 => k_is)
    (case a37 => k_is); (case l37 => k_is); (case c37 => k_is); (case k37 => k_is)
    (case a38 => k_is); (case l38 => k_is); (case c38 => k_is); (case k38 => k_is)
    (case a39 => k_is); (case i39 => k_is); (case l39 => k_is); (case c39 => k_is); (case k39 => k_is)
    (case a40 => k_is); (case l40 => k_is); (case c40 => k_is); (case k40 => k_is)
    (case a41 => k_is); (case l41 => k_is); (case c41 => k_is); (case k41 => k_is)
    (case a42 => k_is); (case i42 => k_is); (case l42 => k_is); (case c42 => k_is); (case k42 => k_is)
    (case a43 => k_is); (case l43 => k_is); (case c43 => k_is); (case k43 => k_is)
    (case a44 => k_is); (case l44 => k_is); (case c44 => k_is); (case k44 => k_is)
    (case a45 => k_is); (case l45 => k_is); (case c45 => k_is); (case k45 => k_is)
    (case z1 => k_is)
    (case z2 => k_is)
    (case z3 => k_is)
    (case z4 => k_is)
    (case z5 => k_is)
    (case z6 => k_is)
    (case z7 => k_is)
    (case z8 => k_is)
    (case z9 => k_is)
    (case z10 => k_is)
    (case z11 => k_is)
    (case z12 => k_is)
    (case g1 => k_is)
    (case g2 => k_is)
    (case g3 => k_is)
  case S => exact fun w H a ns hl hb hO hS => My.law_sp hl hb hS
  case C => exact fun _ _ _ _ _ z => z


end
