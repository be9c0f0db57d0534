import PyProof.Rows.All
import Wide.All
import OpenK.AllK
import Wide.FinOn
import Lean
import PyProof.EqAt
import PyProof.EqKinds
import PyProof.TupleCall
import PyProof.NeKinds
import PyProof.StrOps2
import PySem.Challenge.RW_twigtable_k08_refusals
section
set_option Elab.async false
set_option linter.all false
set_option maxRecDepth 100000
namespace L2
open PySem PySem.Spec PyProof.Rows

/-- a key: an int or a str -/
abbrev Key := Sum Int Str
def keyIs : Key → Value → Bool
  | .inl k, v => Value.isInt k v
  | .inr x, v => Value.isStrOf x v
def keyH (w : World) : Key → Int
  | .inl k => hashInt k
  | .inr x => hashStr w x
theorem keyIs_shape : ∀ {k : Key} {v : Value}, keyIs k v = true → (∃ i t, k = Sum.inl i ∧ v = Value.int i t) ∨ (∃ x t, k = Sum.inr x ∧ v = Value.str x t)
  | .inl i, v, h => by
    obtain ⟨t, e⟩ := Value.isInt_shape (k := i) (v := v) h
    exact .inl ⟨i, t, rfl, e⟩
  | .inr x, v, h => by
    obtain ⟨t, e⟩ := Value.isStrOf_shape (x := x) (v := v) h
    exact .inr ⟨x, t, rfl, e⟩
theorem key_ll (a b : Int) : decide ((Sum.inl a : Key) = Sum.inl b) = (a == b) := by
  by_cases e : a = b
  · subst e; simp
  · have h : ¬ (Sum.inl a : Key) = Sum.inl b := fun q => e (Sum.inl.inj q)
    rw [decide_eq_false h]
    exact (beq_eq_false_iff_ne.mpr e).symm
theorem key_rr (a b : Str) : decide ((Sum.inr a : Key) = Sum.inr b) = decide (a = b) := by
  by_cases e : a = b
  · subst e; simp
  · have h : ¬ (Sum.inr a : Key) = Sum.inr b := fun q => e (Sum.inr.inj q)
    rw [decide_eq_false h, decide_eq_false e]
theorem key_lr (a : Int) (b : Str) : decide ((Sum.inl a : Key) = Sum.inr b) = false := decide_eq_false (fun q => nomatch q)
theorem key_rl (a : Str) (b : Int) : decide ((Sum.inr a : Key) = Sum.inl b) = false := decide_eq_false (fun q => nomatch q)

def mixKind (prog : Program) (w : World) : PySem.KeyKind prog w Key where
  is := keyIs
  hash := keyH w
  inj := fun v a b ha hb => by
    rcases keyIs_shape ha with ⟨i, t, rfl, rfl⟩ | ⟨x, t, rfl, rfl⟩
    · rcases keyIs_shape hb with ⟨j, u, rfl, e⟩ | ⟨y, u, rfl, e⟩
      · injection e with e1 _; rw [e1]
      · exact nomatch e
    · rcases keyIs_shape hb with ⟨j, u, rfl, e⟩ | ⟨y, u, rfl, e⟩
      · exact nomatch e
      · injection e with e1 _; rw [e1]
  byValue := fun k v h => by
    rcases keyIs_shape h with ⟨i, t, rfl, rfl⟩ | ⟨x, t, rfl, rfl⟩ <;> rfl
  pyHash := fun hv h => by
    rcases keyIs_shape hv with ⟨i, t, rfl, rfl⟩ | ⟨x, t, rfl, rfl⟩
    · exact wpAny_pyHash_int h
    · exact wpAny_pyHash_str h
  eqBool := fun hu hv h => by
    rcases keyIs_shape hu with ⟨i, t, rfl, rfl⟩ | ⟨x, t, rfl, rfl⟩
    · rcases keyIs_shape hv with ⟨j, u, rfl, rfl⟩ | ⟨y, u, rfl, rfl⟩
      · rw [key_ll] at h; exact wpAny_eqBool_int h
      · rw [key_lr] at h; exact SeqAt.EqAt.int_str i t y u _ _ _ _ h
    · rcases keyIs_shape hv with ⟨j, u, rfl, rfl⟩ | ⟨y, u, rfl, rfl⟩
      · rw [key_rl] at h; exact SeqAt.EqAt.str_int x t j u _ _ _ _ h
      · rw [key_rr] at h; exact wpAny_eqBool_str h
  «strs» := fun k x t v h => by
    rcases keyIs_shape h with ⟨i, u, rfl, e⟩ | ⟨y, u, rfl, e⟩
    · exact nomatch e
    · injection e with e1 _
      subst e1
      cases v <;> rfl

end L2

namespace L2
open PySem PySem.Spec PyProof.Rows

/-- a value, without the heap -/
inductive V where
  | non | bl (b : Bool) | int (i : Int) | str (x : Str) | byt (b : Array UInt8) | flt (b : UInt64) | ref (a : Addr) | ty (n : String)
  deriving DecidableEq

def RelV : V → Value → Prop
  | .non, u => u = Value.none
  | .bl b, u => u = Value.bool b
  | .int i, u => ∃ t, u = Value.int i t
  | .str x, u => ∃ t, u = Value.str x t
  | .byt b, u => ∃ t, u = Value.bytes b t
  | .flt b, u => ∃ t, u = Value.float b t
  | .ref a, u => u = Value.ref a
  | .ty n, u => u = Value.type n

abbrev Vals : List V → List Value → Prop := Paired RelV
theorem Vals.length {xs : List V} {us : List Value} (r : Vals xs us) : xs.length = us.length := Paired.length r
theorem Vals.get : ∀ {xs : List V} {us : List Value} {i : Nat} {x : V}, Vals xs us → xs[i]? = some x → ∃ u, us[i]? = some u ∧ RelV x u
  | _, _, _, _, .nil, e => by simp at e
  | _, _, 0, _, .cons r _, e => by simp at e; subst e; exact ⟨_, rfl, r⟩
  | _, _, i + 1, x, .cons _ t, e => by
    obtain ⟨u, h1, h2⟩ := Vals.get (i := i) (x := x) t (by simpa using e)
    exact ⟨u, by simpa using h1, h2⟩
theorem Vals.set {x : V} {u : Value} (r : RelV x u) : ∀ {xs : List V} {us : List Value} (i : Nat), Vals xs us → Vals (xs.set i x) (us.set i u)
  | _, _, _, .nil => .nil
  | _, _, 0, .cons _ t => .cons r t
  | _, _, i + 1, .cons q t => .cons q (Vals.set r i t)
theorem Vals.append : ∀ {xs ys : List V} {us ws : List Value}, Vals xs us → Vals ys ws → Vals (xs ++ ys) (us ++ ws)
  | _, _, _, _, .nil, s => s
  | _, _, _, _, .cons r t, s => .cons r (Vals.append t s)
theorem Vals.take : ∀ {xs : List V} {us : List Value} (n : Nat), Vals xs us → Vals (xs.take n) (us.take n)
  | _, _, 0, _ => .nil
  | _, _, _ + 1, .nil => .nil
  | _, _, n + 1, .cons r t => .cons r (Vals.take n t)
theorem Vals.drop : ∀ {xs : List V} {us : List Value} (n : Nat), Vals xs us → Vals (xs.drop n) (us.drop n)
  | _, _, 0, r => r
  | _, _, _ + 1, .nil => .nil
  | _, _, n + 1, .cons _ t => Vals.drop n t
theorem Vals.none_of : ∀ {xs : List V} {us : List Value} {i : Nat}, Vals xs us → xs[i]? = none → us[i]? = none := fun {xs us i} r e => by
  have h1 := r.length
  have h2 : xs.length ≤ i := List.getElem?_eq_none_iff.mp e
  exact List.getElem?_eq_none_iff.mpr (by omega)

def RelO : Option V → Option Value → Prop
  | some v, some u => RelV v u
  | none, none => True
  | _, _ => False
def KV {κ : Type} : List (κ × V) → List (κ × Value) → Prop := Paired fun (p : κ × V) (q : κ × Value) => p.1 = q.1 ∧ RelV p.2 q.2

/-- a key of a dict (00_mix): an int or a text -/
def kV : Key → V
  | .inl i => .int i
  | .inr x => .str x

/-- what stands at a tracked address -/
inductive HO where
  /-- a list -/
  | lst (xs : List V)
  /-- a tuple (never changes) -/
  | tup (xs : List V)
  /-- a dict whose keys are ints and texts; one whose keys are tuples of ints and texts (the empty one is both) -/
  | dK (kvs : List (Key × V)) | dT (kvs : List (List Key × V))
  /-- a set of ints: its members, its size -/
  | set (S : Int → Bool) (n : Nat)
  /-- an instance of the class at C, its dict at dx, its attributes -/
  | ins (C dx : Addr) (fs : List (Str × V))
  /-- the dict of the instance at x -/
  | own (x : Addr)
  /-- the dict of an exception -/
  | xd (fs : List (Str × V))
  /-- a bound method, f of x -/
  | met (f x : Addr)
  /-- a range object lo, lo + 1, .. below hi -/
  | rng (lo hi : Int)
  /-- a thing that is known to the object (the script; a dict while a loop walks it): read, never written while it is so -/
  | frz (o : Obj) (u : HO)
  /-- a code object's table -/
  | tbl (ps : Array Value)
  /-- any other thing, by what is true of its one object (a def of one's own: SetO a S n := HO.ext fun h => ..) -/
  | ext (φ : Heap → Prop)

abbrev Hp := Addr → Option HO
def upd (H : Hp) (a : Addr) (o : HO) : Hp := fun b => if b = a then some o else H b
theorem upd_same {H : Hp} {a : Addr} {o : HO} : upd H a o a = some o := by unfold upd; rw [if_pos rfl]
theorem upd_ne {H : Hp} {a b : Addr} {o : HO} (h : b ≠ a) : upd H a o b = H b := by unfold upd; rw [if_neg h]
theorem upd_upd {H : Hp} {a : Addr} {o u : HO} : upd (upd H a o) a u = upd H a u := by
  funext b; unfold upd; split <;> rfl
theorem ne_of_none {H : Hp} {a b : Addr} {o : HO} (h : H a = some o) (h' : H b = none) : a ≠ b := by
  intro e; subst e; rw [h] at h'; cases h'

section
variable (P : Program) (w : World)
def ObjOk (H : Hp) (h : Heap) (a : Addr) : HO → Prop
  | .lst xs => xs.length ≤ sizeLine ∧ ∃ (its : List Value) (n : Nat), Vals xs its ∧ h.get? a = some { cls := .type "list", data := .seq its.toArray n }
  | .tup xs => xs.length ≤ sizeLine ∧ ∃ its : List Value, Vals xs its ∧ IsTup h a its.toArray
  | .dK kvs => kvs.length ≤ sizeLine ∧ (a == sysModules) = false ∧ ∃ vs, KV kvs vs ∧ h.DictOf (mixKind P w) a vs
  | .dT kvs => kvs.length ≤ sizeLine ∧ (a == sysModules) = false ∧ ∃ xs : List (List Key × Addr × Value),
      Paired (fun (p : List Key × V) (q : List Key × Addr × Value) => p.1 = q.1 ∧ H q.2.1 = some (.tup (p.1.map kV)) ∧ RelV p.2 q.2.2) kvs xs ∧
      ∃ o es ep, h.get? a = some o ∧ o.ExactDict ∧ o.data = .dict es ep ∧ es.toList = xs.map (entryOfKey (tupleKind (mixKind P w))) ∧ (xs.map (·.1)).Nodup
  | .set S n => h.SetOf (intKind P w) a S n
  | .ins C dx fs => H dx = some (.own a) ∧ fs.length ≤ 1000 ∧ dx ≠ a ∧ h.get? a = some (PySem.W.instObj C dx) ∧
      ∃ mA, h.Ns1 dx mA ∧ (∀ f, RelO (fs.lookup f) (mA f)) ∧ PySem.Within mA (fs.map (·.1))
  | .own _ => ∃ o, h.get? a = some o
  | .xd fs => ∃ mA, h.Ns1 a mA ∧ ∀ f, RelO (fs.lookup f) (mA f)
  | .rng lo hi => ∃ t u v, h.get? a = some { cls := .type "range", data := .fields #[.int lo t, .int hi u, .int 1 v] }
  | .frz o u => h.get? a = some o ∧ ObjOk H h a u
  | .tbl ps => h.get? a = some { cls := .none, data := .fields ps }
  | .met f x => h.get? a = some (PySem.W.methodObj (.ref f) (.ref x))
  | .ext φ => φ h ∧ (∃ o, h.get? a = some o) ∧ ∀ h1 h2 : Heap, φ h1 → (∀ o, h1.get? a = some o → h2.get? a = some o) → φ h2
/-- the abstract heap is held -/
def HOk (H : Hp) (h : Heap) : Prop := ∀ a o, H a = some o → ObjOk P w H h a o
end

section
variable {P : Program} {w : World} {H H' : Hp} {h h' : Heap} {a : Addr} {o : HO}
theorem ObjOk.lt (x : ObjOk P w H h a o) : a < h.objs.size := by
  cases o with
  | lst xs => obtain ⟨_, _, _, _, e⟩ := x; exact Heap.lt_size e
  | tup xs => obtain ⟨_, _, _, p⟩ := x; exact p.lt
  | dK kvs => obtain ⟨_, _, _, _, o, _, _, e, _⟩ := x; exact Heap.lt_size e
  | dT kvs => obtain ⟨_, _, _, _, o, _, _, e, _⟩ := x; exact Heap.lt_size e
  | set S n => obtain ⟨o, _, _, _, e, _⟩ := x; exact Heap.lt_size e
  | ins C dx fs => obtain ⟨_, _, _, e, _⟩ := x; exact Heap.lt_size e
  | own y => obtain ⟨_, e⟩ := x; exact Heap.lt_size e
  | xd fs => obtain ⟨_, ⟨_, _, _, e, _⟩, _⟩ := x; exact Heap.lt_size e
  | rng lo hi => obtain ⟨_, _, _, e⟩ := x; exact Heap.lt_size e
  | frz ob u => obtain ⟨e, _⟩ := x; exact Heap.lt_size e
  | tbl ps => exact Heap.lt_size (show h.get? a = some _ from x)
  | met f y => exact Heap.lt_size (show h.get? a = some _ from x)
  | ext φ => obtain ⟨_, ⟨_, e⟩, _⟩ := x; exact Heap.lt_size e
theorem Paired.mapP {α β : Type} {F G : α → β → Prop} : ∀ {l₁ : List α} {l₂ : List β}, Paired F l₁ l₂ → (∀ a b, F a b → G a b) → Paired G l₁ l₂
  | _, _, .nil, _ => .nil
  | _, _, .cons r t, f => .cons (f _ _ r) (Paired.mapP t f)
/-- what an object's description leans on: its own object, its own dict, the tuples -/
theorem ObjOk.stay (x : ObjOk P w H h a o) (k : ∀ b u, (b = a ∨ H b = some (.own a)) → h.get? b = some u → h'.get? b = some u)
    (ho : ∀ b, H b = some (.own a) → H' b = some (.own a)) (ht : ∀ b xs, H b = some (.tup xs) → H' b = some (.tup xs)) : ObjOk P w H' h' a o := by
  induction o with
  | lst xs => obtain ⟨z, its, n, r, e⟩ := x; exact ⟨z, its, n, r, k _ _ (.inl rfl) e⟩
  | tup xs => obtain ⟨z, its, r, ob, e, c⟩ := x; exact ⟨z, its, r, ob, k _ _ (.inl rfl) e, c⟩
  | dK kvs => obtain ⟨z, y, vs, r, ob, es, ep, e, c⟩ := x; exact ⟨z, y, vs, r, ob, es, ep, k _ _ (.inl rfl) e, c⟩
  | dT kvs =>
    obtain ⟨z, y, xs, r, ob, es, ep, e, c⟩ := x
    exact ⟨z, y, xs, Paired.mapP r fun p q z => ⟨z.1, ht _ _ z.2.1, z.2.2⟩, ob, es, ep, k _ _ (.inl rfl) e, c⟩
  | set S n => obtain ⟨ob, es, ep, t, e, c⟩ := x; exact ⟨ob, es, ep, t, k _ _ (.inl rfl) e, c⟩
  | ins C dx fs =>
    obtain ⟨d, z, ne, e, mA, ⟨od, es, ep, e2, c⟩, r⟩ := x
    exact ⟨ho _ d, z, ne, k _ _ (.inl rfl) e, mA, ⟨od, es, ep, k _ _ (.inr d) e2, c⟩, r⟩
  | own y => obtain ⟨ob, e⟩ := x; exact ⟨ob, k _ _ (.inl rfl) e⟩
  | xd fs => obtain ⟨mA, ⟨od, es, ep, e, c⟩, r⟩ := x; exact ⟨mA, ⟨od, es, ep, k _ _ (.inl rfl) e, c⟩, r⟩
  | rng lo hi => obtain ⟨t, u, v, e⟩ := x; exact ⟨t, u, v, k _ _ (.inl rfl) e⟩
  | frz ob u ih => obtain ⟨e, q⟩ := x; exact ⟨k _ _ (.inl rfl) e, ih q⟩
  | tbl ps =>
    have e : h.get? a = some { cls := .none, data := .fields ps } := x
    show h'.get? a = some { cls := .none, data := .fields ps }
    exact k a _ (.inl rfl) e
  | met f y =>
    have e : h.get? a = some (PySem.W.methodObj (.ref f) (.ref y)) := x
    show h'.get? a = some (PySem.W.methodObj (.ref f) (.ref y))
    exact k a _ (.inl rfl) e
  | ext φ => obtain ⟨p, ⟨o, e⟩, st⟩ := x; exact ⟨st _ _ p fun o q => k _ _ (.inl rfl) q, ⟨o, k _ _ (.inl rfl) e⟩, st⟩
theorem HOk.lt (x : HOk P w H h) (e : H a = some o) : a < h.objs.size := (x a o e).lt
theorem HOk.fresh (x : HOk P w H h) (e : h.objs.size ≤ a) : H a = none := by
  cases q : H a with
  | none => rfl
  | some u => exact absurd (Nat.lt_of_lt_of_le (x.lt q) e) (Nat.lt_irrefl _)
/-- every object of the heap is kept -/
theorem HOk.kept (x : HOk P w H h) (k : ∀ b u, h.get? b = some u → h'.get? b = some u) : HOk P w H h' := fun a o e =>
  (x a o e).stay (fun b u _ q => k b u q) (fun _ q => q) fun _ _ q => q
/-- a new object is laid and tracked -/
theorem HOk.laid (x : HOk P w H h) (k : ∀ b u, h.get? b = some u → h'.get? b = some u) (hp : h.objs.size ≤ a) (new : ObjOk P w (upd H a o) h' a o) : HOk P w (upd H a o) h' := fun b u e => by
  have hn := x.fresh hp
  by_cases hb : b = a
  · subst hb; rw [upd_same] at e; cases e; exact new
  · rw [upd_ne hb] at e
    exact (x b u e).stay (fun c v _ q => k c v q) (fun c q => by rw [upd_ne (ne_of_none q hn)]; exact q) fun c xs q => by rw [upd_ne (ne_of_none q hn)]; exact q
end

/-- what may be read as u: it is u, or a known u -/
def Rd (H : Hp) (a : Addr) (u : HO) : Prop := H a = some u ∨ ∃ o, H a = some (.frz o u)
theorem Rd.of {H : Hp} {a : Addr} {u : HO} (h : H a = some u) : Rd H a u := .inl h
theorem Rd.ok {P : Program} {w : World} {H : Hp} {h : Heap} {a : Addr} {u : HO} (r : Rd H a u) (x : HOk P w H h) : ObjOk P w H h a u := by
  rcases r with r | ⟨o, r⟩
  · exact x a u r
  · obtain ⟨_, q⟩ := x a _ r
    exact q
/-- what may be written -/
def Mut : Option HO → Prop
  | some (.lst _) => True
  | some (.dK _) => True
  | some (.dT _) => True
  | some (.set _ _) => True
  | some (.ins _ _ _) => True
  | some (.ext _) => True
  | _ => False
section
variable {P : Program} {w : World} {H : Hp} {h h' : Heap} {x e : Addr} {o' : HO}
/-- the object at e is changed: x itself, or the dict of the instance x -/
theorem HOk.write (ok : HOk P w H h) (mu : Mut (H x)) (he : e = x ∨ H e = some (.own x)) (k : ∀ b u, b ≠ e → h.get? b = some u → h'.get? b = some u) (heo : ∃ u, h'.get? e = some u)
    (new : ObjOk P w (upd H x o') h' x o') : HOk P w (upd H x o') h' := fun b u q => by
  have nown : ∀ c y, H c = some (.own y) → c ≠ x := fun c y r z => by subst z; rw [r] at mu; exact mu
  have ntup : ∀ c xs, H c = some (.tup xs) → c ≠ x := fun c xs r z => by subst z; rw [r] at mu; exact mu
  by_cases hb : b = x
  · subst hb; rw [upd_same] at q; cases q; exact new
  · rw [upd_ne hb] at q
    by_cases hbe : b = e
    · have q' : H b = some (.own x) := by
        rcases he with z | z
        · exact absurd (hbe.trans z) hb
        · rw [hbe]; exact z
      rw [q] at q'; cases q'
      obtain ⟨v, hv⟩ := heo
      exact ⟨v, by rw [hbe]; exact hv⟩
    · refine (ok b u q).stay (fun c v hc r => k c v ?_ r) (fun c r => by rw [upd_ne (nown c b r)]; exact r) fun c xs r => by rw [upd_ne (ntup c xs r)]; exact r
      rcases hc with rfl | hc
      · exact hbe
      · rintro rfl
        rcases he with z | z
        · exact nown c b hc z
        · rw [hc] at z; cases z; exact hb rfl
end

structure Un (fs ex : List Addr) (H H' : Hp) (h h' : Heap) : Prop where
  keep : ∀ b o, h.get? b = some o → H b = none → b ∉ fs → b ∉ ex → h'.get? b = some o
  slot : ∀ b o, h.get? b = some o → H b = none → b ∈ fs → b ∉ ex → ∃ sl, h'.get? b = some { o with slots := sl }
  free : ∀ b o, h.get? b = some o → H b = none → b ∉ ex → H' b = none
  there : ∀ b o, h.get? b = some o → b ∉ ex → ∃ o', h'.get? b = some o'
  tups : ∀ b xs, H b = some (.tup xs) → H' b = some (.tup xs)
  frzs : ∀ b o u, H b = some (.frz o u) → H' b = some (.frz o u)
  tbls : ∀ b ps, H b = some (.tbl ps) → ∃ more, H' b = some (.tbl (ps ++ more))
section
variable {fs fs' ex ex' : List Addr} {H H1 H2 : Hp} {h h1 h2 h' : Heap} {a x e : Addr} {o : HO}
theorem Un.any (u : Un fs ex H H1 h h1) {b : Addr} {ob : Obj} (q : h.get? b = some ob) (n : H b = none) (hx : b ∉ ex) : ∃ sl, h1.get? b = some { ob with slots := sl } := by
  by_cases hb : b ∈ fs
  · exact u.slot b ob q n hb hx
  · exact ⟨ob.slots, u.keep b ob q n hb hx⟩
theorem Un.trans (a : Un fs ex H H1 h h1) (b : Un fs ex H1 H2 h1 h2) : Un fs ex H H2 h h2 where
  keep := fun c ob q n hc hx => b.keep c ob (a.keep c ob q n hc hx) (a.free c ob q n hx) hc hx
  slot := fun c ob q n hc hx => by
    obtain ⟨sl, e1⟩ := a.slot c ob q n hc hx
    obtain ⟨sl', e2⟩ := b.slot c _ e1 (a.free c ob q n hx) hc hx
    exact ⟨sl', e2⟩
  free := fun c ob q n hx => by
    obtain ⟨o', e1⟩ := a.there c ob q hx
    exact b.free c o' e1 (a.free c ob q n hx) hx
  there := fun c ob q hx => by
    obtain ⟨o', e1⟩ := a.there c ob q hx
    exact b.there c o' e1 hx
  tups := fun c xs q => b.tups c xs (a.tups c xs q)
  frzs := fun c ob xs q => b.frzs c ob xs (a.frzs c ob xs q)
  tbls := fun c ps q => by
    obtain ⟨m1, e1⟩ := a.tbls c ps q
    obtain ⟨m2, e2⟩ := b.tbls c _ e1
    exact ⟨m1 ++ m2, by rw [e2, Array.append_assoc]⟩
theorem Un.kept (k : ∀ b u, h.get? b = some u → h'.get? b = some u) : Un fs ex H H h h' :=
  ⟨fun b ob q _ _ _ => k b ob q, fun b ob q _ _ _ => ⟨ob.slots, k b ob q⟩, fun _ _ _ n _ => n, fun b ob q _ => ⟨ob, k b ob q⟩, fun _ _ q => q, fun _ _ _ q => q, fun _ ps q => ⟨#[], by rw [q]; simp⟩⟩
theorem Un.refl : Un fs ex H H h h := Un.kept fun _ _ q => q
theorem Un.laid (k : ∀ b u, h.get? b = some u → h'.get? b = some u) (hp : h.objs.size ≤ a) (hn : H a = none) : Un fs ex H (upd H a o) h h' where
  keep := fun b u q _ _ _ => k b u q
  slot := fun b u q _ _ _ => ⟨u.slots, k b u q⟩
  free := fun b u q n _ => by rw [upd_ne (Nat.ne_of_lt (Nat.lt_of_lt_of_le (Heap.lt_size q) hp))]; exact n
  there := fun b u q _ => ⟨u, k b u q⟩
  tups := fun b xs q => by rw [upd_ne (ne_of_none q hn)]; exact q
  frzs := fun b u xs q => by rw [upd_ne (ne_of_none q hn)]; exact q
  tbls := fun b ps q => ⟨#[], by rw [upd_ne (ne_of_none q hn), q]; simp⟩
theorem Un.write (mu : Mut (H x)) (he : e = x ∨ H e = some (.own x)) (k : ∀ b u, b ≠ e → h.get? b = some u → h'.get? b = some u) (heo : ∃ u, h'.get? e = some u) : Un fs ex H (upd H x o) h h' := by
  have hx : ∀ b, H b = none → b ≠ x := fun b n z => by subst z; rw [n] at mu; exact mu
  have hb : ∀ b, H b = none → b ≠ e := fun b n z => by
    subst z
    rcases he with r | r
    · exact hx b n r
    · rw [n] at r; cases r
  have hm : ∀ b u, H b = some u → ¬ Mut (some u) → b ≠ x := fun b u q nm z => by subst z; rw [q] at mu; exact nm mu
  refine ⟨fun b u q n _ _ => k b u (hb b n) q, fun b u q n _ _ => ⟨u.slots, k b u (hb b n) q⟩, fun b u q n _ => by rw [upd_ne (hx b n)]; exact n, fun b u q _ => ?_,
    fun b xs q => by rw [upd_ne (hm b _ q fun z => z)]; exact q, fun b u xs q => by rw [upd_ne (hm b _ q fun z => z)]; exact q, fun b ps q => ⟨#[], by rw [upd_ne (hm b _ q fun z => z), q]; simp⟩⟩
  by_cases hbe : b = e
  · subst hbe; exact heo
  · exact ⟨u, k b u hbe q⟩
theorem Un.mono (u : Un fs ex H H1 h h1) (hs : ∀ b ∈ fs, b ∈ fs') (hx : ∀ b ∈ ex, b ∈ ex') : Un fs' ex' H H1 h h1 :=
  ⟨fun b ob q n hb he => u.keep b ob q n (fun z => hb (hs b z)) fun z => he (hx b z), fun _ _ q n _ he => u.any q n fun z => he (hx _ z), fun b ob q n he => u.free b ob q n fun z => he (hx b z), fun b ob q he => u.there b ob q fun z => he (hx b z), u.tups, u.frzs, u.tbls⟩
end

def trk (h : Heap) (H : Hp) : List Addr := (List.range h.objs.size).filter fun a => (H a).isSome
def hidT (h : Heap) (H : Hp) : Heap := PySem.W.hideAll h (trk h H)
theorem hidT_size (h : Heap) (H : Hp) : (hidT h H).objs.size = h.objs.size := PySem.W.hideAll_size _ _
theorem hidT_get {h : Heap} {H : Hp} {b : Addr} {o : Obj} (e : h.get? b = some o) (n : H b = none) : (hidT h H).get? b = some o :=
  PySem.W.hideAll_get _ e fun hm => by
    have q : (H b).isSome = true := (List.mem_filter.mp hm).2
    rw [n] at q; simp at q
theorem of_hidT {h : Heap} {H : Hp} {b : Addr} {o : Obj} (e : (hidT h H).get? b = some o) : h.get? b = some o ∧ H b = none := by
  have e' : h.get? b = some o := PySem.W.of_hideAll (trk h H) e
  refine ⟨e', ?_⟩
  cases q : H b with
  | none => rfl
  | some x =>
    have hm : b ∈ trk h H := List.mem_filter.mpr ⟨List.mem_range.mpr (Heap.lt_size e'), by simp [q]⟩
    have z : (hidT h H).get? b = none := PySem.W.hideAll_none (trk h H) hm
    rw [z] at e; cases e

def allNews (g h : Heap) (L : Addr) : List (Addr × Obj) := (List.range h.objs.size).filterMap fun a => if a = L ∨ (g.get? a).isSome = true then none else (h.get? a).map fun o => (a, o)
def rest (g h : Heap) (L d : Addr) : List (Addr × Obj) := (allNews g h L).filter fun p => decide (p.1 ≠ d)
end L2

namespace L2
open PySem PySem.Spec PyProof.Rows

/-- the module's facts, over the base: the heap at the law's entry without what is tracked there -/
structure Mod (K : PySem.W.Frag) (mg : Str → Option Value) (base : Heap) : Prop where
  kin : K.In base
  glob : base.Ns mainGlobals mg
  blt : ∃ mb, base.Ns builtinsNs mb ∧ ∀ x : Str, x ≠ "__name__" → mb x = bootBuiltins x
  nolimit : base.NoLimit

/-- the context: a def's body (or a comprehension's block) running. base: fixed through the whole law; s₀, H₀: the entry; outer: the frames whose slots others may change (a def's callers); stack: all frames that run;
   ex: iterators that were made ahead of the entry and are walked here (a comprehension's); fn: the names whose cells were made at the entry (a def: all; a comprehension's block: its own); calm: not within an except suite; pn: pins that every state bears; xe: what is wanted of an exception that leaves the code -/
structure Cx where
  prog : Program
  w : World
  K : PySem.W.Frag
  mg : Str → Option Value
  base : Heap
  A : Around
  N : List Str
  s₀ : Shared
  H₀ : Hp
  env : Env
  outer : List Env
  stack : List Env
  ex : List Addr
  fn : Str → Bool
  calm : Bool
  pn : List (Addr × Obj)
  xe : Value → Shared → Prop
/-- the callers' frames -/
def frs (l : List Env) : List Addr := l.filterMap (·.frame)
abbrev Cx.fs (X : Cx) : List Addr := frs X.outer

def Vis (sc : Scope) (x : Str) : Prop := sc.names.lookup x = some .local ∨ sc.names.lookup x = some .cell ∨ sc.names.lookup x = some .free
def Loc (sc : Scope) (x : Str) : Prop := sc.names.lookup x = some .local ∨ sc.names.lookup x = some .cell
def Look (env : Env) (h : Heap) (m : Str → Option Value) (x : Str) (u : Value) : Prop :=
  (env.kindOf x = some .local ∧ m x = some u) ∨ ((env.kindOf x = some .cell ∨ env.kindOf x = some .free) ∧ ∃ c, env.cells.lookup x = some c ∧ h.IsCell c (some u))

structure Cx.Ok (X : Cx) : Prop where
  mod : Mod X.K X.mg X.base
  kind : X.env.scope.kind = .function
  glob : X.env.globals = mainGlobals
  blt : X.env.builtins = builtinsNs
  above : X.s₀.heap.objs.size ≤ X.env.locals
  inj : ∀ x y c, X.env.cells.lookup x = some c → X.env.cells.lookup y = some c → x = y
  has : ∀ x, (X.env.kindOf x = some .cell ∨ X.env.kindOf x = some .free) → ∃ c, X.env.cells.lookup x = some c
  cab : ∀ x c, X.fn x = true → X.env.cells.lookup x = some c → X.s₀.heap.objs.size ≤ c
  hd : X.calm = true → X.A.handled = none
  frames : X.A.frames = some X.stack
  stk : X.stack = X.outer ∨ (X.stack = X.env :: X.outer ∧ X.env.frame = some X.env.locals)
  exf : ∀ b ∈ X.ex, b ≠ X.env.locals ∧ ∀ x c, X.env.cells.lookup x = some c → c ≠ b
  bs : ∀ b o, X.base.get? b = some o → X.s₀.heap.get? b = some o ∧ X.H₀ b = none
  bsz : X.base.objs.size ≤ X.s₀.heap.objs.size
  noex : ∀ b o, X.base.get? b = some o → b ∉ X.ex
  exfs : ∀ b ∈ X.ex, b ∉ X.fs
  funs : X.s₀.heap.FunFrames X.base X.outer
  frf : ∀ b ∈ X.fs, X.H₀ b = none

structure Inv (X : Cx) (pins : List (Addr × Obj)) (σ : List (Option V)) (H : Hp) (s : Shared) : Prop where
  ok : X.Ok
  os : s.os = X.s₀.os
  bare : AllBare s.gens
  base : Un X.fs X.ex X.H₀ H X.s₀.heap s.heap
  loc : ∃ m, s.heap.Ns X.env.locals m ∧ ∀ (i : Nat) (x : Str) (v : V), X.N[i]? = some x → σ[i]? = some (some v) → Vis X.env.scope x → ∃ u, RelV v u ∧ Look X.env s.heap m x u
  cell : ∀ x c, X.env.cells.lookup x = some c → ∃ v, s.heap.IsCell c v
  free : H X.env.locals = none
  freeC : ∀ x c, X.env.cells.lookup x = some c → H c = none
  pin : ∀ p ∈ X.pn ++ pins, s.heap.get? p.1 = some p.2 ∧ H p.1 = none ∧ p.1 ≠ X.env.locals ∧ p.1 ∉ X.fs ∧ ∀ v, p.2.data ≠ .cell v
  hok : HOk X.prog X.w H s.heap
  len : σ.length = X.N.length

section
variable {X : Cx} {pins : List (Addr × Obj)} {σ : List (Option V)} {H H' : Hp} {s : Shared} {h' : Heap}

theorem Cx.Ok.nofr (ok : X.Ok) {b : Addr} {o : Obj} (e : X.base.get? b = some o) : b ∉ X.fs := fun hb => by
  have := (ok.funs.mem hb).1
  rw [e] at this; cases this
theorem Inv.bs (I : Inv X pins σ H s) : ∀ b o, X.base.get? b = some o → s.heap.get? b = some o ∧ H b = none := fun b o e =>
  ⟨I.base.keep b o (I.ok.bs b o e).1 (I.ok.bs b o e).2 (I.ok.nofr e) (I.ok.noex b o e), I.base.free b o (I.ok.bs b o e).1 (I.ok.bs b o e).2 (I.ok.noex b o e)⟩
theorem Inv.bk (I : Inv X pins σ H s) : ∀ b o, X.base.get? b = some o → s.heap.get? b = some o := fun b o e => (I.bs b o e).1
theorem Inv.mod (I : Inv X pins σ H s) : Mod X.K X.mg X.base := I.ok.mod
theorem Inv.kIn (I : Inv X pins σ H s) : X.K.In s.heap := I.ok.mod.kin.keeps I.bk
theorem Inv.nolimit (I : Inv X pins σ H s) : s.heap.NoLimit := I.ok.mod.nolimit.keeps I.bk
/-- the frame over the base: for OpenK's rules (K.In X.base is I.mod.kin) -/
theorem Inv.fr (I : Inv X pins σ H s) : ∃ m, Fr X.base X.env.locals s.heap m :=
  let ⟨m, hn, _⟩ := I.loc
  ⟨m, hn, I.bk, Nat.le_trans I.ok.bsz I.ok.above⟩
theorem Inv.lt (I : Inv X pins σ H s) : X.env.locals < s.heap.objs.size := let ⟨_, hn, _⟩ := I.loc; hn.lt
theorem Inv.sz (I : Inv X pins σ H s) : X.s₀.heap.objs.size ≤ s.heap.objs.size := Nat.le_trans I.ok.above (Nat.le_of_lt I.lt)
theorem Inv.nofs (I : Inv X pins σ H s) {a : Addr} (h : s.heap.objs.size ≤ a) : a ∉ X.fs := fun hb => by
  obtain ⟨_, o, ho, _⟩ := I.ok.funs.mem hb
  exact absurd (Nat.lt_of_lt_of_le (Heap.lt_size ho) (Nat.le_trans I.sz h)) (Nat.lt_irrefl _)
theorem Inv.cne (I : Inv X pins σ H s) : ∀ x c, X.env.cells.lookup x = some c → c ≠ X.env.locals := fun x c e z => by
  obtain ⟨v, o, ho, hd⟩ := I.cell x c e
  obtain ⟨m, ⟨o', es, ep, ho', hd', _⟩, _⟩ := I.loc
  rw [z, ho'] at ho; cases ho; rw [hd'] at hd; cases hd
theorem Inv.funs (I : Inv X pins σ H s) : s.heap.FunFrames X.base X.outer := by
  have all : ∀ (l : List Env), (∀ b ∈ frs l, b ∈ X.fs) → X.s₀.heap.FunFrames X.base l → s.heap.FunFrames X.base l := by
    intro l
    induction l with
    | nil => intro _ _; trivial
    | cons env r ih =>
      intro hs hl
      obtain ⟨hk, ⟨L, o, hf, hn, ho, hd⟩, hr⟩ := hl
      have hL : L ∈ X.fs := hs L (by unfold frs; rw [List.filterMap_cons, hf]; exact List.mem_cons_self)
      obtain ⟨sl, e⟩ := I.base.slot L o ho (I.ok.frf L hL) hL fun z => I.ok.exfs L z hL
      exact ⟨hk, ⟨L, _, hf, hn, e, hd⟩, ih (fun b hb => hs b (by unfold frs; rw [List.filterMap_cons, hf]; exact List.mem_cons_of_mem _ hb)) hr⟩
  exact all X.outer (fun _ hb => hb) I.ok.funs

/-- the frames that run, for a call -/
theorem Inv.stack (I : Inv X pins σ H s) : s.heap.FunFrames X.base X.stack := by
  rcases I.ok.stk with e | ⟨e, hf⟩
  · rw [e]; exact I.funs
  · rw [e]
    obtain ⟨m, hn, _⟩ := I.loc
    refine .cons (by rw [I.ok.kind]; decide) hf hn ?_ I.funs
    exact Heap.get?_none_of_le (Nat.le_trans I.ok.bsz I.ok.above)
theorem Inv.stkSub (I : Inv X pins σ H s) : ∀ b ∈ frs X.stack, b ∈ X.env.locals :: X.fs := fun b hb => by
  rcases I.ok.stk with e | ⟨e, hf⟩
  · rw [e] at hb; exact List.mem_cons_of_mem _ hb
  · rw [e] at hb
    unfold frs at hb
    rw [List.filterMap_cons, hf] at hb
    exact hb
theorem Inv.stkFree (I : Inv X pins σ H s) : ∀ b ∈ frs X.stack, H b = none := fun b hb => by
  rcases List.mem_cons.mp (I.stkSub b hb) with e | hb
  · rw [e]; exact I.free
  · obtain ⟨_, o, ho, _⟩ := I.ok.funs.mem hb
    exact I.base.free b o ho (I.ok.frf b hb) fun z => I.ok.exfs b z hb

/-- THE STEP: the untracked objects but the frame and the records at ch are kept (the callers' frames up to slots), the frame's map is kept, the new abstract heap is held -/
theorem Inv.step {g' : Array GenState} {t' : Nat} {d' : Drawn} {ch : List Addr} (I : Inv X pins σ H s)
    (hch : ∀ b ∈ ch, (b ∈ X.ex ∨ X.s₀.heap.objs.size ≤ b) ∧ b ≠ X.env.locals ∧ (∀ x c, X.env.cells.lookup x = some c → c ≠ b) ∧ ∀ p ∈ X.pn ++ pins, p.1 ≠ b)
    (keep : ∀ b o, b ≠ X.env.locals → b ∉ X.fs → b ∉ ch → s.heap.get? b = some o → H b = none → h'.get? b = some o)
    (slot : ∀ b o, b ≠ X.env.locals → b ∈ X.fs → b ∉ ch → s.heap.get? b = some o → H b = none → ∃ sl, h'.get? b = some { o with slots := sl }) (free : ∀ b o, b ∉ ch → s.heap.get? b = some o → H b = none → H' b = none)
    (there : ∀ b o, b ∉ ch → s.heap.get? b = some o → ∃ o', h'.get? b = some o')
    (tups : ∀ b xs, H b = some (.tup xs) → H' b = some (.tup xs)) (frzs : ∀ b o u, H b = some (.frz o u) → H' b = some (.frz o u)) (tbls : ∀ b ps, H b = some (.tbl ps) → ∃ more, H' b = some (.tbl (ps ++ more)))
    (ns : ∀ m, s.heap.Ns X.env.locals m → h'.Ns X.env.locals m) (hok : HOk X.prog X.w H' h') (hg : AllBare g') :
    Inv X pins σ H' { s with heap := h', gens := g', drawn := d', toks := t' } := by
  have neL : ∀ b o, X.s₀.heap.get? b = some o → b ≠ X.env.locals := fun b o e => Nat.ne_of_lt (Nat.lt_of_lt_of_le (Heap.lt_size e) I.ok.above)
  have neC : ∀ b o, X.s₀.heap.get? b = some o → b ∉ X.ex → b ∉ ch := fun b o e hx hb => by
    rcases (hch b hb).1 with z | z
    · exact hx z
    · exact absurd (Nat.lt_of_lt_of_le (Heap.lt_size e) z) (Nat.lt_irrefl _)
  have cellK : ∀ x c, X.env.cells.lookup x = some c → ∀ v, s.heap.IsCell c v → h'.IsCell c v := fun x c e v ⟨o, ho, hd⟩ => by
    have nch : c ∉ ch := fun z => (hch c z).2.2.1 x c e rfl
    by_cases hc : c ∈ X.fs
    · obtain ⟨sl, q⟩ := slot c o (I.cne x c e) hc nch ho (I.freeC x c e)
      exact ⟨_, q, hd⟩
    · exact ⟨o, keep c o (I.cne x c e) hc nch ho (I.freeC x c e), hd⟩
  refine ⟨I.ok, I.os, hg, ⟨fun b o e n hb hx => ?_, fun b o e n hb hx => ?_, fun b o e n hx => ?_, fun b o e hx => ?_, fun b xs e => tups b xs (I.base.tups b xs e), fun b o xs e => frzs b o xs (I.base.frzs b o xs e), fun b ps e => ?_⟩, ?_, fun x c e => ?_, ?_, fun x c e => ?_, fun p hp => ?_, hok, I.len⟩
  · exact keep b o (neL b o e) hb (neC b o e hx) (I.base.keep b o e n hb hx) (I.base.free b o e n hx)
  · obtain ⟨sl, e1⟩ := I.base.slot b o e n hb hx
    obtain ⟨sl', e2⟩ := slot b _ (neL b o e) hb (neC b o e hx) e1 (I.base.free b o e n hx)
    exact ⟨sl', e2⟩
  · obtain ⟨o', e1⟩ := I.base.there b o e hx
    exact free b o' (neC b o e hx) e1 (I.base.free b o e n hx)
  · obtain ⟨o', e1⟩ := I.base.there b o e hx
    exact there b o' (neC b o e hx) e1
  · obtain ⟨m1, e1⟩ := I.base.tbls b ps e
    obtain ⟨m2, e2⟩ := tbls b _ e1
    exact ⟨m1 ++ m2, by rw [e2, Array.append_assoc]⟩
  · obtain ⟨m, hn, hl⟩ := I.loc
    refine ⟨m, ns m hn, fun i x v e1 e2 e3 => ?_⟩
    obtain ⟨u, r, l⟩ := hl i x v e1 e2 e3
    refine ⟨u, r, ?_⟩
    rcases l with l | ⟨k, c, e, z⟩
    · exact .inl l
    · exact .inr ⟨k, c, e, cellK x c e _ z⟩
  · obtain ⟨v, z⟩ := I.cell x c e
    exact ⟨v, cellK x c e v z⟩
  · obtain ⟨m, ⟨o, _, _, ho, _⟩, _⟩ := I.loc
    exact free _ o (fun z => (hch _ z).2.1 rfl) ho I.free
  · obtain ⟨v, o, ho, hd⟩ := I.cell x c e
    exact free c o (fun z => (hch c z).2.2.1 x c e rfl) ho (I.freeC x c e)
  · obtain ⟨e, n, ne, nf, d⟩ := I.pin p hp
    have nch : p.1 ∉ ch := fun z => (hch p.1 z).2.2.2 p hp rfl
    exact ⟨keep p.1 p.2 ne nf nch e n, free p.1 p.2 nch e n, ne, nf, d⟩
/-- .. where the frame's own object is kept too -/
theorem Inv.un {t' : Nat} (I : Inv X pins σ H s) (u : Un X.fs [] H H' s.heap h') (hok : HOk X.prog X.w H' h') : Inv X pins σ H' { s with heap := h', toks := t' } := by
  obtain ⟨m, ⟨o, es, ep, ho, r⟩, _⟩ := id I.loc
  obtain ⟨sl, hL⟩ := u.any ho I.free (by simp)
  exact I.step (g' := s.gens) (d' := s.drawn) (ch := []) (fun _ z => nomatch z) (fun b o _ hb _ e n => u.keep b o e n hb (by simp)) (fun b o _ hb _ e n => u.slot b o e n hb (by simp)) (fun b o _ e n => u.free b o e n (by simp)) (fun b o _ e => u.there b o e (by simp)) u.tups u.frzs u.tbls (fun m' hm => by
    obtain ⟨o', es', ep', ho', r'⟩ := hm
    rw [ho] at ho'; cases ho'
    exact ⟨_, es', ep', hL, r'⟩) hok I.bare
/-- behind a call (or a comprehension's block): the slots of this frame may have changed too, the records at ch may have turned -/
theorem Inv.call {g' : Array GenState} {t' : Nat} {d' : Drawn} {ch : List Addr} (I : Inv X pins σ H s) (u : Un (frs X.stack) ch H H' s.heap h') (hok : HOk X.prog X.w H' h') (hg : AllBare g')
    (hch : ∀ b ∈ ch, (b ∈ X.ex ∨ X.s₀.heap.objs.size ≤ b) ∧ b ≠ X.env.locals ∧ (∀ x c, X.env.cells.lookup x = some c → c ≠ b) ∧ ∀ p ∈ X.pn ++ pins, p.1 ≠ b) :
    Inv X pins σ H' { s with heap := h', gens := g', drawn := d', toks := t' } := by
  obtain ⟨m, ⟨o, es, ep, ho, r⟩, _⟩ := id I.loc
  obtain ⟨sl, hL⟩ := u.any ho I.free fun z => (hch _ z).2.1 rfl
  exact I.step (ch := ch) hch (fun b o hL hb hc e n => u.keep b o e n (fun z => (List.mem_cons.mp (I.stkSub b z)).elim hL hb) hc) (fun b o _ _ hc e n => u.any e n hc) (fun b o hc e n => u.free b o e n hc) (fun b o hc e => u.there b o e hc) u.tups u.frzs u.tbls (fun m' hm => by
    obtain ⟨o', es', ep', ho', r'⟩ := hm
    rw [ho] at ho'; cases ho'
    exact ⟨_, es', ep', hL, r'⟩) hok hg
/-- an untracked record of ours (an iterator) has turned -/
theorem Inv.turned {t' : Nat} {it : Addr} (I : Inv X pins σ H s) (k : ∀ b o, b ≠ it → s.heap.get? b = some o → h'.get? b = some o) (hn : H it = none) (hL : it ≠ X.env.locals)
    (h1 : it ∈ X.ex ∨ X.s₀.heap.objs.size ≤ it) (h2 : ∀ x c, X.env.cells.lookup x = some c → c ≠ it) (h3 : ∀ p ∈ X.pn ++ pins, p.1 ≠ it) : Inv X pins σ H { s with heap := h', toks := t' } := by
  have nit : ∀ b u, H b = some u → b ≠ it := fun b u e z => by rw [z, hn] at e; cases e
  refine I.step (g' := s.gens) (d' := s.drawn) (ch := [it]) (fun b hb => ?_) (fun b o _ _ hc e _ => k b o (fun z => hc (by simp [z])) e) (fun b o _ _ hc e _ => ⟨o.slots, k b o (fun z => hc (by simp [z])) e⟩) (fun _ _ _ _ n => n)
    (fun b o hc e => ⟨o, k b o (fun z => hc (by simp [z])) e⟩) (fun _ _ e => e) (fun _ _ _ e => e) (fun b ps e => ⟨#[], by rw [e]; simp⟩) (fun m hm => ?_) (fun b u e => ?_) I.bare
  · have e : b = it := by simpa using hb
    subst e
    exact ⟨h1, hL, h2, h3⟩
  · obtain ⟨o, es, ep, ho, r⟩ := hm
    exact ⟨o, es, ep, k _ o (Ne.symm hL) ho, r⟩
  · refine (I.hok b u e).stay (fun c v hc q => k c v ?_ q) (fun _ q => q) fun _ _ q => q
    rcases hc with z | z
    · rw [z]; exact nit b u e
    · exact nit c _ z
theorem Inv.tok (I : Inv X pins σ H s) (t : Nat) : Inv X pins σ H { s with toks := t } := I.un (h' := s.heap) (t' := t) Un.refl I.hok
/-- all objects kept -/
theorem Inv.kept {t' : Nat} (I : Inv X pins σ H s) (k : ∀ b u, s.heap.get? b = some u → h'.get? b = some u) : Inv X pins σ H { s with heap := h', toks := t' } := I.un (Un.kept k) (I.hok.kept k)
/-- a new object laid and tracked -/
theorem Inv.laid {a : Addr} {o : HO} {t' : Nat} (I : Inv X pins σ H s) (k : ∀ b u, s.heap.get? b = some u → h'.get? b = some u) (hp : s.heap.objs.size ≤ a) (new : ObjOk X.prog X.w (upd H a o) h' a o) :
    Inv X pins σ (upd H a o) { s with heap := h', toks := t' } := I.un (Un.laid k hp (I.hok.fresh hp)) (I.hok.laid k hp new)
/-- an object written -/
theorem Inv.write {x e : Addr} {o : HO} {t' : Nat} (I : Inv X pins σ H s) (mu : Mut (H x)) (he : e = x ∨ H e = some (.own x)) (k : ∀ b u, b ≠ e → s.heap.get? b = some u → h'.get? b = some u) (heo : ∃ u, h'.get? e = some u)
    (new : ObjOk X.prog X.w (upd H x o) h' x o) : Inv X pins σ (upd H x o) { s with heap := h', toks := t' } := I.un (Un.write mu he k heo) (I.hok.write mu he k heo new)
theorem Inv.pins_of {pins' : List (Addr × Obj)} (I : Inv X pins σ H s) (h : ∀ p ∈ pins', s.heap.get? p.1 = some p.2 ∧ H p.1 = none ∧ p.1 ≠ X.env.locals ∧ p.1 ∉ X.fs ∧ ∀ v, p.2.data ≠ .cell v) : Inv X pins' σ H s :=
  ⟨I.ok, I.os, I.bare, I.base, I.loc, I.cell, I.free, I.freeC, fun p hp => (List.mem_append.mp hp).elim (fun z => I.pin p (List.mem_append_left _ z)) (h p), I.hok, I.len⟩

theorem nodup_ix {N : List Str} (hN : N.Nodup) {i j : Nat} {x : Str} (a : N[i]? = some x) (b : N[j]? = some x) : i = j := by
  obtain ⟨h1, e1⟩ := List.getElem?_eq_some_iff.mp a
  obtain ⟨h2, e2⟩ := List.getElem?_eq_some_iff.mp b
  exact (List.getElem_inj hN).mp (e1.trans e2.symm)

/-- a name is stored; what changed -/
theorem store_ok2 {M : Model} {A : Around} {E : Value → Shared → Prop} {i : Nat} {x : Str} {v : V} {u : Value} {Q : Unit → Shared → Prop} (I : Inv X pins σ H s) (hN : X.N.Nodup) (hi : X.N[i]? = some x) (hx : Loc X.env.scope x) (r : RelV v u)
    (h : ∀ s', Inv X pins (σ.set i (some v)) H s' → (∃ a, Heap.SameBut a s.heap s'.heap ∧ (a = X.env.locals ∨ X.env.cells.lookup x = some a)) → Q () s') (hf : X.fn x = true ∨ X.env.scope.names.lookup x = some .local := by first | exact .inl rfl | exact .inr rfl | assumption) : wpAny M A (storeName X.env x u) Q E s := by
  obtain ⟨m, hn, hl⟩ := id I.loc
  have hcls : (X.env.scope.kind == .class || (X.env.scope.kind == .module && X.env.locals != X.env.globals)) = false := by rw [I.ok.kind]; rfl
  have hiσ : i < σ.length := by rw [I.len]; exact (List.getElem?_eq_some_iff.mp hi).1
  have cne := I.cne
  have tracked : ∀ {a : Addr} {h' : Heap}, (∃ o, s.heap.get? a = some o ∧ H a = none) → Heap.SameBut a s.heap h' → HOk X.prog X.w H h' := fun {a h'} ha hs b ob e => by
    obtain ⟨_, _, hfree⟩ := ha
    refine (I.hok b ob e).stay (fun c w' hc q => (hs.2 c ?_).trans q) (fun _ q => q) fun _ _ q => q
    rintro rfl
    rcases hc with rfl | hc
    · rw [hfree] at e; cases e
    · rw [hfree] at hc; cases hc
  rcases hx with hk | hk
  · refine wpAny_storeName_local hk hn (fun h' hn' hs => ?_) hcls
    obtain ⟨oL, _, _, hoL, _⟩ := id hn
    refine h _ ⟨I.ok, I.os, I.bare, ⟨fun b o e n hb hx => ?_, fun b o e n hb hx => ?_, I.base.free, fun b o e hx => ?_, I.base.tups, I.base.frzs, I.base.tbls⟩, ⟨_, hn', fun j y v' e1 e2 e3 => ?_⟩, fun y c e => ?_, I.free, I.freeC, fun p hp => ?_, tracked ⟨oL, hoL, I.free⟩ hs, by simpa using I.len⟩ ⟨_, hs, .inl rfl⟩
    · exact (hs.2 b (Nat.ne_of_lt (Nat.lt_of_lt_of_le (Heap.lt_size e) I.ok.above))).trans (I.base.keep b o e n hb hx)
    · obtain ⟨sl, e1⟩ := I.base.slot b o e n hb hx
      exact ⟨sl, (hs.2 b (Nat.ne_of_lt (Nat.lt_of_lt_of_le (Heap.lt_size e) I.ok.above))).trans e1⟩
    · obtain ⟨o', e1⟩ := I.base.there b o e hx
      exact ⟨o', (hs.2 b (Nat.ne_of_lt (Nat.lt_of_lt_of_le (Heap.lt_size e) I.ok.above))).trans e1⟩
    · by_cases hj : j = i
      · subst hj
        rw [hi] at e1; cases e1
        rw [List.getElem?_set_self hiσ] at e2
        cases e2
        exact ⟨u, r, .inl ⟨hk, by simp⟩⟩
      · rw [List.getElem?_set_ne (Ne.symm hj)] at e2
        obtain ⟨u', r', q⟩ := hl j y v' e1 e2 e3
        refine ⟨u', r', ?_⟩
        rcases q with ⟨k, e⟩ | ⟨k, c, e, z⟩
        · refine .inl ⟨k, ?_⟩
          have : y ≠ x := fun e => hj (nodup_ix hN e1 (e ▸ hi))
          simp [this, e]
        · exact .inr ⟨k, c, e, z.sameBut hs (cne y c e)⟩
    · obtain ⟨w', z⟩ := I.cell y c e
      exact ⟨w', z.sameBut hs (cne y c e)⟩
    · obtain ⟨e, n, ne, nf, d⟩ := I.pin p hp
      exact ⟨(hs.2 p.1 ne).trans e, n, ne, nf, d⟩
  · have hfn : X.fn x = true := by
      rcases hf with z | z
      · exact z
      · rw [z] at hk; cases hk
    obtain ⟨c, hc⟩ := I.ok.has x (.inl hk)
    obtain ⟨w', z⟩ := I.cell x c hc
    refine wpAny_storeName_cell I.ok.kind hk hc z (fun h' hc' hs => ?_)
    obtain ⟨oc, hoc, hocd⟩ := id z
    refine h { s with heap := h' } ⟨I.ok, I.os, I.bare, ⟨fun b o e n hb hx => ?_, fun b o e n hb hx => ?_, I.base.free, fun b o e hx => ?_, I.base.tups, I.base.frzs, I.base.tbls⟩, ⟨m, hn.sameBut hs (Ne.symm (cne x c hc)), fun j y v' e1 e2 e3 => ?_⟩, fun y c' e => ?_, I.free, I.freeC, fun p hp => ?_, tracked ⟨oc, hoc, I.freeC x c hc⟩ hs, by simpa using I.len⟩ ⟨c, hs, .inr hc⟩
    · exact (hs.2 b (Nat.ne_of_lt (Nat.lt_of_lt_of_le (Heap.lt_size e) (I.ok.cab x c hfn hc)))).trans (I.base.keep b o e n hb hx)
    · obtain ⟨sl, e1⟩ := I.base.slot b o e n hb hx
      exact ⟨sl, (hs.2 b (Nat.ne_of_lt (Nat.lt_of_lt_of_le (Heap.lt_size e) (I.ok.cab x c hfn hc)))).trans e1⟩
    · obtain ⟨o', e1⟩ := I.base.there b o e hx
      exact ⟨o', (hs.2 b (Nat.ne_of_lt (Nat.lt_of_lt_of_le (Heap.lt_size e) (I.ok.cab x c hfn hc)))).trans e1⟩
    · by_cases hj : j = i
      · subst hj
        rw [hi] at e1; cases e1
        rw [List.getElem?_set_self hiσ] at e2
        cases e2
        exact ⟨u, r, .inr ⟨.inl hk, c, hc, hc'⟩⟩
      · rw [List.getElem?_set_ne (Ne.symm hj)] at e2
        obtain ⟨u', r', q⟩ := hl j y v' e1 e2 e3
        refine ⟨u', r', ?_⟩
        rcases q with q | ⟨k, c', e, z'⟩
        · exact .inl q
        · refine .inr ⟨k, c', e, z'.sameBut hs ?_⟩
          rintro rfl
          exact hj (nodup_ix hN e1 (I.ok.inj _ _ _ e hc ▸ hi))
    · by_cases hcc : c' = c
      · subst hcc; exact ⟨_, hc'⟩
      · obtain ⟨w2, z2⟩ := I.cell y c' e
        exact ⟨w2, z2.sameBut hs hcc⟩
    · obtain ⟨e, n, ne, nf, d⟩ := I.pin p hp
      refine ⟨(hs.2 p.1 ?_).trans e, n, ne, nf, d⟩
      intro q
      rw [q, hoc] at e
      have q' : oc = p.2 := Option.some.inj e
      exact d w' (by rw [← q']; exact hocd)
theorem store_ok {M : Model} {A : Around} {E : Value → Shared → Prop} {i : Nat} {x : Str} {v : V} {u : Value} {Q : Unit → Shared → Prop} (I : Inv X pins σ H s) (hN : X.N.Nodup) (hi : X.N[i]? = some x) (hx : Loc X.env.scope x) (r : RelV v u)
    (h : ∀ s', Inv X pins (σ.set i (some v)) H s' → Q () s') (hf : X.fn x = true ∨ X.env.scope.names.lookup x = some .local := by first | exact .inl rfl | exact .inr rfl | assumption) : wpAny M A (storeName X.env x u) Q E s :=
  store_ok2 I hN hi hx r (fun s' I' _ => h s' I') hf
/-- behind a call or a block, the state as it is -/
theorem Inv.call' {s' : Shared} {ch : List Addr} (I : Inv X pins σ H s) (ho : s'.os = s.os) (u : Un (frs X.stack) ch H H' s.heap s'.heap) (hok : HOk X.prog X.w H' s'.heap) (hg : AllBare s'.gens)
    (hch : ∀ b ∈ ch, (b ∈ X.ex ∨ X.s₀.heap.objs.size ≤ b) ∧ b ≠ X.env.locals ∧ (∀ x c, X.env.cells.lookup x = some c → c ≠ b) ∧ ∀ p ∈ X.pn ++ pins, p.1 ≠ b) : Inv X pins σ H' s' := by
  obtain ⟨h', g', d', t', o'⟩ := s'
  have e : o' = s.os := ho
  subst e
  exact I.call (g' := g') (t' := t') (d' := d') u hok hg hch
end

/-- an exception: its class, its own dict's address (where it has one), the abstract heap behind it -/
abbrev XK := Value → Option Addr → Hp → Prop
abbrev St := List (Option V)
abbrev VK := V → Hp → Prop
/-- an expression's reading; a test's; an argument list's -/
abbrev TE := St → Hp → VK → Prop
abbrev TT := St → Hp → (Bool → Hp → Prop) → Prop
abbrev TA := St → Hp → (List V → Hp → Prop) → Prop
/-- what is wanted behind a statement -/
structure Ends where
  nx : St → Hp → Prop
  rt : VK
  bk : St → Hp → Prop := fun _ _ => False
  ct : St → Hp → Prop := fun _ _ => False
abbrev TS := Ends → St → Hp → Prop

def EP (X : Cx) (pins : List (Addr × Obj)) (σ : St) (Q : VK) (u : Value) (s' : Shared) : Prop := ∃ v H', Inv X pins σ H' s' ∧ RelV v u ∧ Q v H'
def TP (X : Cx) (pins : List (Addr × Obj)) (σ : St) (Q : Bool → Hp → Prop) (b : Bool) (s' : Shared) : Prop := ∃ H', Inv X pins σ H' s' ∧ Q b H'
def AP (X : Cx) (pins : List (Addr × Obj)) (σ : St) (Q : List V → Hp → Prop) (us : List Value) (s' : Shared) : Prop := ∃ vs H', Inv X pins σ H' s' ∧ Vals vs us ∧ Q vs H'
def SP (X : Cx) (pins : List (Addr × Obj)) (D : Ends) (f : Flow) (s' : Shared) : Prop :=
  match f with
  | .next => ∃ σ' H', Inv X pins σ' H' s' ∧ D.nx σ' H'
  | .brk => ∃ σ' H', Inv X pins σ' H' s' ∧ D.bk σ' H'
  | .cont => ∃ σ' H', Inv X pins σ' H' s' ∧ D.ct σ' H'
  | .ret u => ∃ v σ' H', Inv X pins σ' H' s' ∧ RelV v u ∧ D.rt v H'

def PE (X : Cx) (e : Expr) (t : TE) : Prop :=
  ∀ (pins : List (Addr × Obj)) (s : Shared) (σ : St) (H : Hp) (Q : VK), Inv X pins σ H s → t σ H Q → wpAny (model X.prog X.w) X.A (eval e X.env) (EP X pins σ Q) X.xe s
def PT (X : Cx) (e : Expr) (t : TT) : Prop :=
  ∀ (pins : List (Addr × Obj)) (s : Shared) (σ : St) (H : Hp) (Q : Bool → Hp → Prop), Inv X pins σ H s → t σ H Q → wpAny (model X.prog X.w) X.A (isTrue e X.env (eval e X.env)) (TP X pins σ Q) X.xe s
/-- a test whatever its 'whole' is (and, or) -/
def PW (X : Cx) (e : Expr) (t : TT) : Prop :=
  ∀ (whole : Sem Value) (pins : List (Addr × Obj)) (s : Shared) (σ : St) (H : Hp) (Q : Bool → Hp → Prop), Inv X pins σ H s → t σ H Q → wpAny (model X.prog X.w) X.A (isTrue e X.env whole) (TP X pins σ Q) X.xe s
theorem PW.pt {X : Cx} {e : Expr} {t : TT} (h : PW X e t) : PT X e t := h _
/-- an argument list (no star), from the left -/
def PA (X : Cx) (es : List Expr) (t : TA) : Prop :=
  ∀ (pos : Pos) (pins : List (Addr × Obj)) (s : Shared) (σ : St) (H : Hp) (Q : List V → Hp → Prop), Inv X pins σ H s → t σ H Q → wpAny (model X.prog X.w) X.A (spliced (backTo pos (starEach es X.env))) (AP X pins σ Q) X.xe s
def PS (X : Cx) (st : Stmt) (t : TS) : Prop :=
  ∀ (pins : List (Addr × Obj)) (s : Shared) (σ : St) (H : Hp) (D : Ends), Inv X pins σ H s → t D σ H → wpAny (model X.prog X.w) X.A (exec st X.env) (SP X pins D) X.xe s
def PSs (X : Cx) (st : List Stmt) (t : TS) : Prop :=
  ∀ (pins : List (Addr × Obj)) (s : Shared) (σ : St) (H : Hp) (D : Ends), Inv X pins σ H s → t D σ H → wpAny (model X.prog X.w) X.A (execs st X.env) (SP X pins D) X.xe s
/-- weaken the end -/
theorem thn {α : Type} {t : Sem α} {Q Q' : α → Shared → Prop} {M : Model} {A : Around} {E : Value → Shared → Prop} {s : Shared} (h : wpAny M A t Q E s) (hQ : ∀ a s, Q a s → Q' a s) : wpAny M A t Q' E s := wpAny_mono h hQ fun _ _ x => x
end L2

namespace L2
open PySem PySem.Spec PyProof.Rows
section
variable {X : Cx}

def tVar (i : Nat) : TE := fun σ H Q => ∃ v, σ[i]? = some (some v) ∧ Q v H
def tC (v : V) : TE := fun _ H Q => Q v H
theorem pe_var {i : Nat} {x : Str} {pos : Pos} (hN : X.N[i]? = some x) (hv : Vis X.env.scope x) (hd : (x == ("__debug__" : Str)) = false := by decide) (hcd : (x == ("__classdict__" : Str)) = false := by decide) : PE X (.Name x pos) (tVar i) := by
  intro pins s σ H Q I h
  obtain ⟨v, e, h⟩ := h
  obtain ⟨m, hn, hl⟩ := I.loc
  obtain ⟨u, r, l⟩ := hl i x v hN e hv
  have fin : EP X pins σ Q u s := ⟨v, H, I, r, h⟩
  rcases l with ⟨hk, hm⟩ | ⟨hk, c, hc, hcell⟩
  · exact wpAny_Name (wpAny_loadName_local I.ok.kind hk hn hm fin) hd
  · rcases hk with hk | hk
    · exact wpAny_Name (wpAny_loadName_cell I.ok.kind hk hc hcell fin) hd
    · exact wpAny_Name (wpAny_loadName_free I.ok.kind hk hc hcell fin hcd) hd
theorem pe_int {i j pos} : PE X (.Constant (.int i) j pos) (tC (.int i)) := fun _ _ _ H _ I h => wpAny_Constant_int ⟨.int i, H, I.tok _, ⟨_, rfl⟩, h⟩
theorem pe_bl {b j pos} : PE X (.Constant (.bool b) j pos) (tC (.bl b)) := fun _ _ _ H _ I h => Constant_bool ⟨.bl b, H, I, rfl, h⟩
theorem pe_non {j pos} : PE X (.Constant .none j pos) (tC .non) := fun _ _ _ H _ I h => Constant_none ⟨.non, H, I, rfl, h⟩
theorem pe_str {x j pos} : PE X (.Constant (.str x) j pos) (tC (.str x)) := fun _ _ _ H _ I h => Calls.Constant_str ⟨.str x, H, I.tok _, ⟨_, rfl⟩, h⟩

/-- a global name of the def -/
def Gl (X : Cx) (x : Str) : Prop := X.env.kindOf x = some .globalImplicit
theorem ld_glob {E : Value → Shared → Prop} {pins : List (Addr × Obj)} {s : Shared} {σ : St} {H : Hp} {x : Str} {u : Value} {pos : Pos} {Q : Value → Shared → Prop} (I : Inv X pins σ H s) (hg : Gl X x) (hm : X.mg x = some u) (h : Q u s)
    (hd : (x == ("__debug__" : Str)) = false := by decide) : wpAny (model X.prog X.w) X.A (eval (.Name x pos) X.env) Q E s :=
  Calls.Name_function_global I.ok.kind hg (Calls.loadGlobal_global (by rw [I.ok.glob]; exact I.mod.glob.keeps I.bk) hm h) hd
theorem ld_blt {E : Value → Shared → Prop} {pins : List (Addr × Obj)} {s : Shared} {σ : St} {H : Hp} {x : Str} {u : Value} {pos : Pos} {Q : Value → Shared → Prop} (I : Inv X pins σ H s) (hg : Gl X x) (hm : X.mg x = none) (hv : bootBuiltins x = some u) (h : Q u s)
    (hn : x ≠ "__name__" := by decide) (hd : (x == ("__debug__" : Str)) = false := by decide) : wpAny (model X.prog X.w) X.A (eval (.Name x pos) X.env) Q E s := by
  obtain ⟨mb, h1, h2⟩ := I.mod.blt
  exact Calls.Name_function_global I.ok.kind hg (Calls.loadGlobal_builtin (by rw [I.ok.glob]; exact I.mod.glob.keeps I.bk) hm (by rw [I.ok.blt]; exact h1.keeps I.bk) ((h2 x hn).trans hv) h) hd
/-- a module's constant, a class, a function, as a value -/
theorem pe_glob {x : Str} {v : V} {u : Value} {pos : Pos} (hg : Gl X x) (hm : X.mg x = some u) (r : RelV v u) (hd : (x == ("__debug__" : Str)) = false := by decide) : PE X (.Name x pos) (tC v) :=
  fun _ _ _ H _ I h => ld_glob I hg hm ⟨v, H, I, r, h⟩ hd
theorem pe_bltn {x : Str} {v : V} {u : Value} {pos : Pos} (hg : Gl X x) (hm : X.mg x = none) (hv : bootBuiltins x = some u) (r : RelV v u) (hn : x ≠ "__name__" := by decide) (hd : (x == ("__debug__" : Str)) = false := by decide) : PE X (.Name x pos) (tC v) :=
  fun _ _ _ H _ I h => ld_blt I hg hm hv ⟨v, H, I, r, h⟩ hn hd

variable {a b : Expr} {ta tb : TE} {pos : Pos}
/-- a comparison as a value, as a test -/
def tB (t : TE) : TT := fun σ H Q => t σ H fun x H1 => ∃ c, x = .bl c ∧ Q c H1
/-- an expression whose value is a bool, as a test -/
theorem pt_val {e : Expr} {t : TE} (h : PE X e t) (he : ∀ whole, isTrue e X.env whole = (do let v ← whole; standAt e.pos; holding [v] (truthy v)) := by intro _; rfl) : PT X e (tB t) := by
  intro pins s σ H Q I hw
  refine isTrue_plain (thn (h pins s σ H _ I hw) fun v s1 ⟨x, H1, I1, r1, q1⟩ => ?_) (he _)
  obtain ⟨d, rfl, q⟩ := q1
  cases r1
  exact wpAny_truthy_bool ⟨H1, I1, q⟩

variable {tA tB' : TT} {rest : List Expr}
def tAnd (t u : TT) : TT := fun σ H Q => t σ H fun c H1 => if c = true then u σ H1 Q else Q false H1
def tOr (t u : TT) : TT := fun σ H Q => t σ H fun c H1 => if c = true then Q true H1 else u σ H1 Q
def tNot (t : TT) : TT := fun σ H Q => t σ H fun c H1 => Q (!c) H1
theorem pw_or1 (ha : PT X a tA) : PW X (.BoolOp .Or [a] pos) tA := by
  intro wh pins s σ H Q I h
  refine isTrue_or (thn (ha pins s σ H Q I h) fun c s1 e => ?_)
  cases c with
  | false => exact isTrue_or_nil e
  | true => exact e
theorem pw_or (ha : PT X a tA) (hb : PW X (.BoolOp .Or (b :: rest) pos) tB') : PW X (.BoolOp .Or (a :: b :: rest) pos) (tOr tA tB') := by
  intro wh pins s σ H Q I h
  refine isTrue_or (thn (ha pins s σ H _ I h) fun c s1 ⟨H1, I1, q1⟩ => ?_)
  cases c with
  | true => exact ⟨H1, I1, q1⟩
  | false => exact hb wh pins s1 σ H1 Q I1 q1
theorem pt_not (ha : PT X a tA) : PT X (.UnaryOp .Not a pos) (tNot tA) := by
  intro pins s σ H Q I h
  exact isTrue_not (ha pins s σ H (fun c H1 => Q (!c) H1) I h)
/-- .. as values (bools) -/
def tAndV (ta tb : TE) : TE := fun σ H Q => ta σ H fun x H1 => ∃ c, x = .bl c ∧ if c = true then tb σ H1 Q else Q (.bl false) H1
def tOrV (ta tb : TE) : TE := fun σ H Q => ta σ H fun x H1 => ∃ c, x = .bl c ∧ if c = true then Q (.bl true) H1 else tb σ H1 Q
def tNotV (ta : TE) : TE := fun σ H Q => ta σ H fun x H1 => ∃ c, x = .bl c ∧ Q (.bl (!c)) H1
theorem pe_one {op} {t : TE} (h : PE X a t) : PE X (.BoolOp op [a] pos) t := fun pins s σ H Q I hw => BoolOp_one (h pins s σ H Q I hw)
theorem pe_and (ha : PE X a ta) (hb : PE X (.BoolOp .And (b :: rest) pos) tb) : PE X (.BoolOp .And (a :: b :: rest) pos) (tAndV ta tb) := by
  intro pins s σ H Q I h
  refine BoolOp_and (thn (ha pins s σ H _ I h) fun v s1 ⟨x, H1, I1, r1, q1⟩ => ?_)
  obtain ⟨c, rfl, q1⟩ := q1
  cases r1
  refine wpAny_truthy_bool ?_
  cases c with
  | true => exact hb pins s1 σ H1 Q I1 q1
  | false => exact ⟨.bl false, H1, I1, rfl, q1⟩
theorem pe_not (ha : PE X a ta) : PE X (.UnaryOp .Not a pos) (tNotV ta) := by
  intro pins s σ H Q I h
  refine UnaryOp_ (thn (ha pins s σ H _ I h) fun v s1 ⟨x, H1, I1, r1, q1⟩ => ?_)
  obtain ⟨c, rfl, q1⟩ := q1
  cases r1
  exact not_of (wpAny_truthy_bool ⟨.bl (!c), H1, I1, rfl, q1⟩)
/-- a if t else b -/
def tIf (t : TT) (ta tb : TE) : TE := fun σ H Q => t σ H fun c H1 => if c = true then ta σ H1 Q else tb σ H1 Q
end
end L2

namespace L2
open PySem PySem.Spec PyProof.Rows

def SqL (K : PySem.W.Frag) (H : Hp) (a : Addr) (xs : List V) : Prop :=
  Rd H a (.lst xs) ∨
    ∃ (o : Obj) (its : Array Value) (n : Nat), K.lookup a = some o ∧ o.cls = .type "list" ∧ o.dict = none ∧ o.data = .seq its n ∧ its.size ≤ sizeLine ∧ Vals xs its.toList
def SqT (K : PySem.W.Frag) (H : Hp) (a : Addr) (xs : List V) : Prop :=
  Rd H a (.tup xs) ∨
    ∃ (o : Obj) (its : Array Value) (n : Nat), K.lookup a = some o ∧ o.cls = .type "tuple" ∧ o.data = .seq its n ∧ its.size ≤ sizeLine ∧ Vals xs its.toList
def absV : Value → Option V
  | .none => some .non
  | .bool b => some (.bl b)
  | .int i _ => some (.int i)
  | .str x _ => some (.str x)
  | .bytes b _ => some (.byt b)
  | .float b _ => some (.flt b)
  | .ref a => some (.ref a)
  | .type n => some (.ty n)
  | _ => none
theorem RelV.abs {x : V} {u : Value} (r : RelV x u) : absV u = some x := by
  cases x with
  | non => cases r; rfl
  | bl _ => cases r; rfl
  | int _ => obtain ⟨t, rfl⟩ := r; rfl
  | str _ => obtain ⟨t, rfl⟩ := r; rfl
  | byt _ => obtain ⟨t, rfl⟩ := r; rfl
  | flt _ => obtain ⟨t, rfl⟩ := r; rfl
  | ref _ => cases r; rfl
  | ty _ => cases r; rfl
theorem RelV.inj {x y : V} {u : Value} (r : RelV x u) (q : RelV y u) : x = y := Option.some.inj (r.abs.symm.trans q.abs)
theorem Vals.inj : ∀ {xs ys : List V} {us : List Value}, Vals xs us → Vals ys us → xs = ys
  | _, _, _, .nil, .nil => rfl
  | _, _, _, .cons r t, .cons r' t' => by rw [r.inj r', Vals.inj t t']
section
variable {X : Cx} {pins : List (Addr × Obj)} {σ : St} {H : Hp} {s : Shared} {a : Addr} {xs ys : List V}
theorem SqL.of {K : PySem.W.Frag} (h : H a = some (.lst xs)) : SqL K H a xs := .inl (.inl h)
theorem SqT.of {K : PySem.W.Frag} (h : H a = some (.tup xs)) : SqT K H a xs := .inl (.inl h)
theorem Inv.list (I : Inv X pins σ H s) (h : SqL X.K H a xs) : ∃ its : List Value, Vals xs its ∧ PlainL s.heap a its.toArray ∧ xs.length ≤ sizeLine := by
  rcases h with h | ⟨o, its, n, hk, hc, hd, hs, hz, r⟩
  · obtain ⟨z, its, n, r, e⟩ := h.ok I.hok
    exact ⟨its, r, ⟨_, n, e, rfl, rfl, rfl⟩, z⟩
  · refine ⟨its.toList, r, ⟨o, n, I.kIn a o hk, hc, hd, by simpa using hs⟩, ?_⟩
    have e := r.length
    simp only [Array.length_toList] at e
    omega
theorem Inv.tuple (I : Inv X pins σ H s) (h : SqT X.K H a xs) : ∃ its : List Value, Vals xs its ∧ IsTup s.heap a its.toArray ∧ xs.length ≤ sizeLine := by
  rcases h with h | ⟨o, its, n, hk, hc, hs, hz, r⟩
  · obtain ⟨z, its, r, p⟩ := h.ok I.hok
    exact ⟨its, r, p, z⟩
  · refine ⟨its.toList, r, ⟨o, I.kIn a o hk, hc, n, by simpa using hs⟩, ?_⟩
    have e := r.length
    simp only [Array.length_toList] at e
    omega
end

abbrev Cx.wish (X : Cx) (E : Value → Shared → Prop) : Cx := { X with xe := E }
/-- no exception leaves -/
abbrev Cx.nox (X : Cx) : Cx := X.wish fun _ _ => False
theorem Cx.Ok.wish {X : Cx} (ok : X.Ok) (E : Value → Shared → Prop) : (X.wish E).Ok :=
  ⟨ok.mod, ok.kind, ok.glob, ok.blt, ok.above, ok.inj, ok.has, ok.cab, ok.hd, ok.frames, ok.stk, ok.exf, ok.bs, ok.bsz, ok.noex, ok.exfs, ok.funs, ok.frf⟩
theorem Cx.Ok.unwish {X : Cx} {E : Value → Shared → Prop} (ok : (X.wish E).Ok) : X.Ok :=
  ⟨ok.mod, ok.kind, ok.glob, ok.blt, ok.above, ok.inj, ok.has, ok.cab, ok.hd, ok.frames, ok.stk, ok.exf, ok.bs, ok.bsz, ok.noex, ok.exfs, ok.funs, ok.frf⟩
section
variable {X : Cx} {pins : List (Addr × Obj)} {σ : St} {H : Hp} {s : Shared} {E : Value → Shared → Prop}
theorem Inv.wish (I : Inv X pins σ H s) (E : Value → Shared → Prop) : Inv (X.wish E) pins σ H s := ⟨I.ok.wish E, I.os, I.bare, I.base, I.loc, I.cell, I.free, I.freeC, I.pin, I.hok, I.len⟩
theorem Inv.unwish (I : Inv (X.wish E) pins σ H s) : Inv X pins σ H s := ⟨I.ok.unwish, I.os, I.bare, I.base, I.loc, I.cell, I.free, I.freeC, I.pin, I.hok, I.len⟩
theorem SP.unwish {D : Ends} {f : Flow} {s' : Shared} (h : SP (X.wish E) pins D f s') : SP X pins D f s' := by
  cases f with
  | next => obtain ⟨σ', H', I, q⟩ := h; exact ⟨σ', H', I.unwish, q⟩
  | brk => obtain ⟨σ', H', I, q⟩ := h; exact ⟨σ', H', I.unwish, q⟩
  | cont => obtain ⟨σ', H', I, q⟩ := h; exact ⟨σ', H', I.unwish, q⟩
  | ret u => obtain ⟨v, σ', H', I, r, q⟩ := h; exact ⟨v, σ', H', I.unwish, r, q⟩
theorem PE.nox {e : Expr} {t : TE} (h : PE X.nox e t) : PE X e t := fun pins s σ H Q I hw =>
  wpAny_mono (h pins s σ H Q (I.wish _) hw) (fun _ _ ⟨v, H', I', r, q⟩ => ⟨v, H', I'.unwish, r, q⟩) fun _ _ z => False.elim z
theorem PT.nox {e : Expr} {t : TT} (h : PT X.nox e t) : PT X e t := fun pins s σ H Q I hw =>
  wpAny_mono (h pins s σ H Q (I.wish _) hw) (fun _ _ ⟨H', I', q⟩ => ⟨H', I'.unwish, q⟩) fun _ _ z => False.elim z
theorem PSs.nox {st : List Stmt} {t : TS} (h : PSs X.nox st t) : PSs X st t := fun pins s σ H D I hw =>
  wpAny_mono (h pins s σ H D (I.wish _) hw) (fun _ _ q => q.unwish) fun _ _ z => False.elim z
end

section
variable {X : Cx} {st : Stmt} {rest : List Stmt} {t u : TS} {e : Expr} {te : TE} {pos : Pos}
def tNext : TS := fun D σ H => D.nx σ H
def tSeq (t u : TS) : TS := fun D σ H => t { D with nx := u D } σ H
theorem pss_nil : PSs X [] tNext := fun _ _ σ H _ I h => wpAny_execs_nil ⟨σ, H, I, h⟩
theorem pss_cons (h1 : PS X st t) (h2 : PSs X rest u) : PSs X (st :: rest) (tSeq t u) := by
  intro pins s σ H D I h
  refine wpAny_execs_cons (thn (h1 pins s σ H { D with nx := u D } I h) fun f s1 q => ?_)
  cases f with
  | next =>
    obtain ⟨σ', H', I', q⟩ := q
    exact h2 pins s1 σ' H' D I' q
  | ret v => exact q
  | brk => exact q
  | cont => exact q
theorem pss_one (h1 : PS X st t) : PSs X [st] t := by
  intro pins s σ H D I h
  refine wpAny_execs_cons (thn (h1 pins s σ H D I h) fun f s1 q => ?_)
  cases f with
  | next => exact wpAny_execs_nil q
  | ret v => exact q
  | brk => exact q
  | cont => exact q
/-- in a def's body nothing is shown -/
theorem Inv.quiet {pins : List (Addr × Obj)} {σ : St} {H : Hp} {s : Shared} (I : Inv X pins σ H s) : interactive X.env = false := by simp [interactive, I.ok.kind]
/-- an expression whose value is dropped -/
def tDrop (te : TE) : TS := fun D σ H => te σ H fun _ H1 => D.nx σ H1
theorem ps_expr (he : PE X e te) (hs : swapsWith e none pos.line X.env = pure false := by rfl) : PS X (.Expr e pos) (tDrop te) := by
  intro pins s σ H D I h
  exact wpAny_Expr_any (thn (he pins s σ H _ I h) fun v s1 ⟨x, H1, I1, r1, q1⟩ => ⟨σ, H1, I1, q1⟩) I.quiet hs
def tRet (te : TE) : TS := fun D σ H => te σ H D.rt
theorem ps_ret (he : PE X e te) : PS X (.Return (some e) pos) (tRet te) := by
  intro pins s σ H D I h
  exact wpAny_Return_some (thn (he pins s σ H _ I h) fun v s1 ⟨x, H1, I1, r1, q1⟩ => ⟨x, σ, H1, I1, r1, q1⟩)
def tRetN : TS := fun D _ H => D.rt .non H
def tIfS (c : TT) (t u : TS) : TS := fun D σ H => c σ H fun b H1 => if b = true then t D σ H1 else u D σ H1
theorem ps_if {c : Expr} {a b : List Stmt} {tc : TT} (hc : PT X c tc) (ha : PSs X a t) (hb : PSs X b u) : PS X (.If c a b pos) (tIfS tc t u) := by
  intro pins s σ H D I h
  refine wpAny_If (thn (hc pins s σ H _ I h) fun d s1 ⟨H1, I1, q1⟩ => ?_)
  cases d with
  | true => exact ha pins s1 σ H1 D I1 q1
  | false => exact hb pins s1 σ H1 D I1 q1
end

abbrev TG := V → St → Hp → (St → Hp → Prop) → Prop
abbrev TGs := List V → St → Hp → (St → Hp → Prop) → Prop
def PG (X : Cx) (target : Expr) (t : TG) : Prop :=
  ∀ (pins : List (Addr × Obj)) (s : Shared) (σ : St) (H : Hp) (v : V) (u : Value) (Q : St → Hp → Prop), Inv X pins σ H s → RelV v u → t v σ H Q →
    wpAny (model X.prog X.w) X.A (assign target X.env u) (fun _ s' => ∃ σ' H', Inv X pins σ' H' s' ∧ Q σ' H') X.xe s
/-- several targets, one after another -/
def PGs (X : Cx) (ts : List Expr) (t : TGs) : Prop :=
  ∀ (pins : List (Addr × Obj)) (s : Shared) (σ : St) (H : Hp) (vs : List V) (us : List Value) (Q : St → Hp → Prop), Inv X pins σ H s → Vals vs us → t vs σ H Q →
    wpAny (model X.prog X.w) X.A (assignInOrder ((assignEach ts X.env).map (·.2)) us) (fun _ s' => ∃ σ' H', Inv X pins σ' H' s' ∧ Q σ' H') X.xe s
section
variable {X : Cx} {pos : Pos}
def gName (i : Nat) : TG := fun v σ H Q => Q (σ.set i (some v)) H
theorem pg_name {i : Nat} {x : Str} (hN : X.N.Nodup) (hi : X.N[i]? = some x) (hx : Loc X.env.scope x) (hf : X.fn x = true ∨ X.env.scope.names.lookup x = some .local := by first | exact .inl rfl | exact .inr rfl | assumption) : PG X (.Name x pos) (gName i) := by
  intro pins s σ H v u Q I r h
  exact wpAny_assign_Name (store_ok I hN hi hx r (fun s' I' => ⟨_, H, I', h⟩) hf)
def gNil : TGs := fun vs σ H Q => vs = [] ∧ Q σ H
def gCons (t : TG) (u : TGs) : TGs := fun vs σ H Q => ∃ v r, vs = v :: r ∧ t v σ H fun σ' H' => u r σ' H' Q
/-- (a, b, ..) = a tuple of that length -/
def gTup (K : PySem.W.Frag) (n : Nat) (t : TGs) : TG := fun v σ H Q => ∃ a xs, v = .ref a ∧ SqT K H a xs ∧ xs.length = n ∧ t xs σ H Q
/-- target = value -/
def tAsg (te : TE) (g : TG) : TS := fun D σ H => te σ H fun x H1 => g x σ H1 D.nx
/-- name = value -/
theorem ps_set {i : Nat} {x : Str} {e : Expr} {te : TE} {pos' : Pos} (hN : X.N.Nodup) (hi : X.N[i]? = some x) (hx : Loc X.env.scope x) (he : PE X e te) (hs : swapsWith e (some (.Name x pos')) pos.line X.env = pure false := by rfl) (hf : X.fn x = true ∨ X.env.scope.names.lookup x = some .local := by first | exact .inl rfl | exact .inr rfl | assumption) :
    PS X (.Assign [.Name x pos'] e pos) (tAsg te (gName i)) := by
  intro pins s σ H D I h
  refine wpAny_Assign_Name (thn (he pins s σ H _ I h) fun v s1 ⟨y, H1, I1, r1, q1⟩ => ?_) hs
  exact store_ok I1 hN hi hx r1 (fun s2 I2 => ⟨_, H1, I2, q1⟩) hf
end

section
variable {X : Cx} {pos : Pos}
end

/-- at turn i: it yields x (the heap may grow), or it stops -/
structure It where
  go : Nat → Hp → Prop
  yld : Nat → Hp → V → Hp → Prop
  stop : Nat → Hp → Prop
/-- the iterator's own objects may turn: they are not the frame's, not pinned, younger than the entry (or a comprehension's own) -/
def FpOk (X : Cx) (pins : List (Addr × Obj)) (H : Hp) (b : Addr) : Prop :=
  H b = none ∧ b ≠ X.env.locals ∧ b ∉ X.fs ∧ (b ∈ X.ex ∨ X.s₀.heap.objs.size ≤ b) ∧ (∀ x c, X.env.cells.lookup x = some c → c ≠ b) ∧ ∀ p ∈ X.pn ++ pins, p.1 ≠ b
theorem Inv.fpOk {X : Cx} {pins : List (Addr × Obj)} {σ : St} {H H' : Hp} {s : Shared} {b : Addr} (I : Inv X pins σ H s) (hb : s.heap.objs.size ≤ b) (hn : H' b = none) : FpOk X pins H' b := by
  refine ⟨hn, Nat.ne_of_gt (Nat.lt_of_lt_of_le I.lt hb), I.nofs hb, .inr (Nat.le_trans I.sz hb), fun x c e z => ?_, fun p hp z => ?_⟩
  · obtain ⟨v, q⟩ := I.cell x c e
    exact absurd (Nat.lt_of_lt_of_le q.lt (by rw [z]; exact hb)) (Nat.lt_irrefl _)
  · exact absurd (Nat.lt_of_lt_of_le (Heap.lt_size (I.pin p hp).1) (by rw [z]; exact hb)) (Nat.lt_irrefl _)
structure Turn (P : Program) (w : World) (K : PySem.W.Frag) (tg : Expr) (J : It) (fp : List Addr) (it : Addr) (tn : Nat → Heap → Prop) : Prop where
  mem : it ∈ fp
  obj : ∀ i h, tn i h → ∀ b ∈ fp, ∃ o, h.get? b = some o ∧ ∀ v, o.data ≠ .cell v
  keep : ∀ i h h', tn i h → (∀ b ∈ fp, ∀ o, h.get? b = some o → h'.get? b = some o) → tn i h'
  item : ∀ (X : Cx), X.prog = P → X.w = w → X.K = K → X.calm = true → ∀ (i : Nat) (pins : List (Addr × Obj)) (s : Shared) (σ : St) (H : Hp) (E : Value → Shared → Prop), Inv X pins σ H s → (∀ b ∈ fp, FpOk X pins H b) → tn i s.heap → J.go i H →
    wpAny (model P w) X.A (pyNext (.ref it)) (fun r s1 => ∃ u, r = some u ∧
      wpAny (model P w) X.A (letOwnedTupleGo tg (.ref it) u) (fun _ s2 => ∃ x H', Inv X pins σ H' s2 ∧ RelV x u ∧ J.yld i H x H' ∧ tn (i + 1) s2.heap ∧ ∀ b ∈ fp, H' b = none) E s1) E s
  done : ∀ (X : Cx), X.prog = P → X.w = w → X.K = K → X.calm = true → ∀ (i : Nat) (pins : List (Addr × Obj)) (s : Shared) (σ : St) (H : Hp) (E : Value → Shared → Prop), Inv X pins σ H s → (∀ b ∈ fp, FpOk X pins H b) → tn i s.heap → J.stop i H →
    wpAny (model P w) X.A (pyNext (.ref it)) (fun r s1 => r = none ∧ Inv X pins σ H s1) E s
  self : ∀ (A : Around) (i : Nat) (s : Shared) (Q : Value → Shared → Prop) (E : Value → Shared → Prop), tn i s.heap → Q (.ref it) s → wpAny (model P w) A (pyIter (.ref it)) Q E s
abbrev TI := St → Hp → (It → Hp → Prop) → Prop
/-- an iterator has come -/
def PIE (X : Cx) (pins : List (Addr × Obj)) (σ : St) (tg : Expr) (R : It → Hp → Prop) (itv : Value) (s2 : Shared) : Prop :=
  ∃ (it : Addr) (fp : List Addr) (tn : Nat → Heap → Prop) (J : It) (H' : Hp), itv = .ref it ∧ Inv X pins σ H' s2 ∧ Turn X.prog X.w X.K tg J fp it tn ∧ tn 0 s2.heap ∧ (∀ b ∈ fp, FpOk X pins H' b) ∧ R J H'
def PI (X : Cx) (tg iter : Expr) (wi : TI) : Prop :=
  ∀ (pins : List (Addr × Obj)) (s : Shared) (σ : St) (H : Hp) (R : It → Hp → Prop), Inv X pins σ H s → wi σ H R →
    wpAny (model X.prog X.w) X.A (eval iter X.env) (fun v s1 => wpAny (model X.prog X.w) X.A (pyIter v) (PIE X pins σ tg R) X.xe s1) X.xe s

/-- the step ahead of the store is nothing for an iterator that keeps no tuple -/
theorem go_of {M : Model} {A : Around} {E : Value → Shared → Prop} {s : Shared} {tg : Expr} {it : Addr} {u : Value} {o : Obj} {n : String} {vs : Array Value} {Q : Unit → Shared → Prop} (ho : s.heap.get? it = some o) (hc : o.cls = .type n) (hd : o.data = .fields vs)
    (hn : ["enumerate", "zip", "dict_itemiterator", "dict_reverseitemiterator", "odict_iterator", "itertools.zip_longest", "itertools.pairwise"].contains n = false) (hQ : Q () s) : wpAny M A (letOwnedTupleGo tg (.ref it) u) Q E s := by
  unfold letOwnedTupleGo
  cases tg <;> first
    | exact wpAny_pure hQ
    | (cases u <;> first
        | exact wpAny_pure hQ
        | (refine wpAny_bind (wpAny_load ho ?_)
           rw [hc, hd]
           show wpAny M A (if (["enumerate", "zip", "dict_itemiterator", "dict_reverseitemiterator", "odict_iterator", "itertools.zip_longest", "itertools.pairwise"].contains n && vs[0]? == some (rawInt _)) = true then _ else _) Q E s
           rw [if_neg (by intro h; rw [hn, Bool.false_and] at h; cases h)]
           exact wpAny_pure hQ))

/-- the list at a, as it stands at each turn (a loop may append to it) -/
def Itl (K : PySem.W.Frag) (a : Addr) : It :=
  ⟨fun i H => ∃ xs x, SqL K H a xs ∧ xs[i]? = some x, fun i H x H' => H' = H ∧ ∀ xs, SqL K H a xs → xs[i]? = some x, fun i H => ∃ xs, SqL K H a xs ∧ xs.length ≤ i⟩
def Itt (K : PySem.W.Frag) (a : Addr) : It :=
  ⟨fun i H => ∃ xs x, SqT K H a xs ∧ xs[i]? = some x, fun i H x H' => H' = H ∧ ∀ xs, SqT K H a xs → xs[i]? = some x, fun i H => ∃ xs, SqT K H a xs ∧ xs.length ≤ i⟩
/-- lo, lo + 1, .. (n of them) -/
def Itr (lo : Int) (n : Nat) : It := ⟨fun i _ => i < n, fun i H x H' => H' = H ∧ x = .int (lo + i), fun i _ => n ≤ i⟩
theorem turn_range {P : Program} {w : World} {K : PySem.W.Frag} {tg : Expr} (it : Addr) (lo : Int) (n : Nat) : Turn P w K tg (Itr lo n) [it] it (fun i h => IsRangeIter h it (lo + (i : Nat) * 1) ((n : Int) - (i : Nat)) 1) where
  mem := by simp
  obj := fun i h st b hb => by
    have e : b = it := by simpa using hb
    subst e
    exact ⟨_, st, fun v z => by
      have z' : Data.fields _ = Data.cell v := z
      cases z'⟩
  keep := fun i h h' st k => k it (by simp) _ st
  item := by
    intro X hP hw hK hc i pins s σ H E I hf st hg
    subst hP hw hK
    obtain ⟨f0, f1, f2, f3, f4, f5⟩ := hf it (by simp)
    have W := Walks.range (prog := X.prog) (w := X.w) (I.ok.hd hc) it lo 1 n
    refine W.item i s _ _ hg st fun v h' tk hv st' kk => ?_
    obtain ⟨t, rfl⟩ := hv
    have I1 : Inv X pins σ H { s with heap := h', toks := tk } := I.turned (fun b o hb e => kk b o (by simpa using hb) e) f0 f1 f3 f4 f5
    refine ⟨_, rfl, go_of (s := { s with heap := h', toks := tk }) (n := "range_iterator") st' rfl rfl (by decide) ⟨.int (lo + i), H, I1, ⟨t, ?_⟩, ⟨rfl, rfl⟩, st', fun b hb => (hf b hb).1⟩⟩
    rw [Int.mul_one]
  done := by
    intro X hP hw hK hc i pins s σ H E I hf st hg
    subst hP hw hK
    obtain ⟨f0, f1, f2, f3, f4, f5⟩ := hf it (by simp)
    exact wpAny_pyNext_range_end (I.ok.hd hc) st (by have : n ≤ i := hg; omega) fun h' eb => ⟨rfl, I.turned (t' := s.toks) (fun b o hb e => eb b o hb e) f0 f1 f3 f4 f5⟩
  self := fun _ _ _ _ _ st h => wpAny_pyIter_rangeiter st h
end L2

namespace L2
open PySem PySem.Spec PyProof.Rows
section
variable {X : Cx} {tg : Expr}
def iList (K : PySem.W.Frag) (tl : TE) : TI := fun σ H R => tl σ H fun x H1 => ∃ a, x = .ref a ∧ (∃ xs, SqL K H1 a xs) ∧ R (Itl K a) H1
def iTup (K : PySem.W.Frag) (tl : TE) : TI := fun σ H R => tl σ H fun x H1 => ∃ a, x = .ref a ∧ (∃ xs, SqT K H1 a xs) ∧ R (Itt K a) H1
/-- a range object just made, walked -/
theorem range_it {pins : List (Addr × Obj)} {σ : St} {H : Hp} {s : Shared} {R : It → Hp → Prop} {E : Value → Shared → Prop} {lo hi : Int} {t u v : Tok} {tk : Nat} (I : Inv X pins σ H s) (h1 : -(2 ^ 62) ≤ lo) (h2 : lo < 2 ^ 62) (h3 : -(2 ^ 62) ≤ hi) (h4 : hi < 2 ^ 62)
    (q : R (Itr lo (hi - lo).toNat) H) : wpAny (model X.prog X.w) X.A (pyIter (.ref s.heap.objs.size)) (PIE X pins σ tg R) E { s with heap := s.heap.push { cls := .type "range", data := .fields #[.int lo t, .int hi u, .int 1 v] }, toks := tk } := by
  refine wpAny_pyIter_range (IsRange.new ..) (small_one h1 h2 h3 h4) ?_
  have I1 : Inv X pins σ H { s with heap := s.heap.push { cls := .type "range", data := .fields #[.int lo t, .int hi u, .int 1 v] }, toks := tk } := I.kept fun b o e => Heap.get?_push_of_some _ e
  refine ⟨(s.heap.push { cls := .type "range", data := .fields #[.int lo t, .int hi u, .int 1 v] }).objs.size, [(s.heap.push { cls := .type "range", data := .fields #[.int lo t, .int hi u, .int 1 v] }).objs.size], _, _, H, rfl,
    I1.kept (t' := tk) fun b o e => Heap.get?_push_of_some _ e, turn_range _ lo (hi - lo).toNat, ?_, fun b hb => ?_, q⟩
  · have e1 : lo + ((0 : Nat) : Int) * 1 = lo := by simp
    have e2 : (((hi - lo).toNat : Nat) : Int) - ((0 : Nat) : Int) = Builtin.Range.rangeSize lo hi 1 := by rw [rangeSize_one]; split <;> omega
    show IsRangeIter _ _ (lo + ((0 : Nat) : Int) * 1) ((((hi - lo).toNat : Nat) : Int) - ((0 : Nat) : Int)) 1
    rw [e1, e2]
    exact Heap.get?_push_size _ rfl
  · have e : b = (s.heap.push { cls := .type "range", data := .fields #[.int lo t, .int hi u, .int 1 v] }).objs.size := by simpa using hb
    subst e
    exact I1.fpOk (Nat.le_refl _) (I1.hok.fresh (Nat.le_refl _))
def iRng1 (ta : TA) : TI := fun σ H R => ta σ H fun vs H1 => ∃ j : Int, vs = [.int j] ∧ -(2 ^ 62) ≤ j ∧ j < 2 ^ 62 ∧ R (Itr 0 j.toNat) H1
def iRng2 (ta : TA) : TI := fun σ H R => ta σ H fun vs H1 => ∃ i j : Int, vs = [.int i, .int j] ∧ (-(2 ^ 62) ≤ i ∧ i < 2 ^ 62 ∧ -(2 ^ 62) ≤ j ∧ j < 2 ^ 62) ∧ R (Itr i (j - i).toNat) H1
theorem pi_range1 {a : Expr} {ta : TA} {p pos : Pos} (hg : Gl X "range") (hm : X.mg "range" = none) (ha : PA X [a] ta) (hs : starEach [a] X.env = [(false, eval a X.env)] := by rfl) : PI X tg (.Call (.Name "range" p) [a] [] pos) (iRng1 ta) := by
  intro pins s σ H R I h
  refine Call_ (ld_blt I hg hm boot_range (PyProof.Rows.callWith_type1 (thn (ha pos pins s σ H _ I h) fun us s1 ⟨vs, H1, I1, r1, q1⟩ => ?_) hs rfl))
  obtain ⟨j, e, q1, q2, q⟩ := q1
  subst e
  cases r1 with
  | cons r rr =>
    cases rr
    obtain ⟨t, rfl⟩ := r
    exact call_range_1 (range_it I1 (by omega) (by omega) q1 q2 (by simpa using q))
/-- W: the invariant by the turn and a measure; N: what the body is to reach -/
def tFor (wi : TI) (g : TG) (tb : TS) : TS := fun D σ H => wi σ H fun J H1 => ∃ W : Nat → Nat → St → Hp → Prop, (∃ m, W 0 m σ H1) ∧ ∀ i m σ H, W i m σ H →
  (J.stop i H ∧ D.nx σ H) ∨ (J.go i H ∧ ∃ N : St → Hp → Prop, (∀ σ' H', N σ' H' → ∃ m', m' < m ∧ W (i + 1) m' σ' H') ∧ ∀ x H', J.yld i H x H' → g x σ H' fun σ2 H2 => tb { D with nx := N, ct := N, bk := D.nx } σ2 H2)
/-- the records at fp as they stand -/
def pinsAt (fp : List Addr) (h : Heap) : List (Addr × Obj) := fp.filterMap fun b => (h.get? b).map fun o => (b, o)
theorem mem_pinsAt {fp : List Addr} {h : Heap} {b : Addr} {o : Obj} (hb : b ∈ fp) (e : h.get? b = some o) : (b, o) ∈ pinsAt fp h := List.mem_filterMap.mpr ⟨b, hb, by rw [e]; rfl⟩
theorem of_pinsAt {fp : List Addr} {h : Heap} {p : Addr × Obj} (hp : p ∈ pinsAt fp h) : p.1 ∈ fp ∧ h.get? p.1 = some p.2 := by
  obtain ⟨b, hb, e⟩ := List.mem_filterMap.mp hp
  cases q : h.get? b with
  | none => rw [q] at e; cases e
  | some o =>
    rw [q] at e
    have e' : (b, o) = p := Option.some.inj e
    subst e'
    exact ⟨hb, q⟩
theorem Inv.pinned {pins : List (Addr × Obj)} {σ : St} {H : Hp} {s : Shared} {fp : List Addr} (I : Inv X pins σ H s) (hf : ∀ b ∈ fp, FpOk X pins H b) (ho : ∀ b ∈ fp, ∃ o, s.heap.get? b = some o ∧ ∀ v, o.data ≠ .cell v) : Inv X (pins ++ pinsAt fp s.heap) σ H s :=
  I.pins_of fun p hp => (List.mem_append.mp hp).elim (fun z => I.pin p (List.mem_append_right _ z)) fun z => by
    obtain ⟨hb, e⟩ := of_pinsAt z
    obtain ⟨f0, f1, f2, _⟩ := hf p.1 hb
    obtain ⟨o, e', d⟩ := ho p.1 hb
    rw [e] at e'; cases e'
    exact ⟨e, f0, f1, f2, d⟩
theorem Inv.unpinned {pins pl : List (Addr × Obj)} {σ : St} {H : Hp} {s : Shared} (I : Inv X (pins ++ pl) σ H s) : Inv X pins σ H s := I.pins_of fun p hp => I.pin p (List.mem_append_right _ (List.mem_append_left _ hp))
theorem ps_for {iter : Expr} {body : List Stmt} {wi : TI} {g : TG} {tb : TS} {pos : Pos} (hp : PassesOwn (model X.prog X.w) X.A X.env X.xe) (hc : X.calm = true) (hi : PI X tg iter wi) (hg : PG X tg g) (hb : PSs X body tb)
    (hs : ∀ x, foldedSetIterable iter X.env x = pure x := by intro _; rfl) : PS X (.For tg iter body [] pos) (tFor wi g tb) := by
  intro pins s σ H D I h
  refine wpAny_For (thn (hi pins s σ H _ I h) fun v s1 h1 => thn h1 fun itv s2 h2 => ?_) hs
  obtain ⟨it, fp, tn, J, H2, e, I2, T, st2, f2, W, ⟨m0, w0⟩, turn⟩ := h2
  subst e
  -- what stays true of the iterator's objects through the loop
  have stat : ∀ {H' : Hp}, (∀ b ∈ fp, H' b = none) → ∀ b ∈ fp, FpOk X pins H' b := fun hn b hb => ⟨hn b hb, (f2 b hb).2⟩
  refine codeAny_forLoop_any (fun n s' => ∃ i σ' H', Inv X pins σ' H' s' ∧ tn i s'.heap ∧ (∀ b ∈ fp, H' b = none) ∧ W i n σ' H') ?_ m0 ⟨0, σ, H2, I2, st2, fun b hb => (f2 b hb).1, w0⟩
  rintro n s3 ⟨i, σ3, H3, I3, st3, fr3, w3⟩
  rcases turn i n σ3 H3 w3 with ⟨stop, qn⟩ | ⟨go, N, hN, step⟩
  · refine wpAny_passesOwn hp (thn (T.done X rfl rfl rfl hc i pins s3 σ3 H3 X.xe I3 (stat fr3) st3 stop) fun r s4 ⟨hr, I4⟩ => ?_)
    subst hr
    exact wpAny_execs_nil ⟨σ3, H3, I4, qn⟩
  · refine wpAny_passesOwn hp (thn (T.item X rfl rfl rfl hc i pins s3 σ3 H3 X.xe I3 (stat fr3) st3 go) fun r s4 ⟨u, hr, h4⟩ => ?_)
    subst hr
    refine wpAny_passesOwn hp (thn h4 fun _ s5 ⟨x, H5, I5, r5, y5, st5, fr5⟩ => ?_)
    have I5' := I5.pinned (stat fr5) (T.obj _ _ st5)
    refine wpAny_passesOwn hp (thn (hg _ s5 σ3 H5 x u _ I5' r5 (step x H5 y5)) fun _ s6 ⟨σ6, H6, I6, q6⟩ => ?_)
    refine wpAny_passesOwn hp (thn (hb _ s6 σ6 H6 _ I6 q6) fun f s7 q7 => ?_)
    have again : ∀ {σ7 : St} {H7 : Hp}, Inv X (pins ++ pinsAt fp s5.heap) σ7 H7 s7 → N σ7 H7 → ∃ m, m < n ∧ ∃ i σ' H', Inv X pins σ' H' s7 ∧ tn i s7.heap ∧ (∀ b ∈ fp, H' b = none) ∧ W i m σ' H' := fun {σ7 H7} I7 n7 => by
      obtain ⟨m', hm, w7⟩ := hN σ7 H7 n7
      refine ⟨m', hm, i + 1, σ7, H7, I7.unpinned, T.keep _ _ _ st5 fun b hb o e => (I7.pin (b, o) (List.mem_append_right _ (List.mem_append_right _ (mem_pinsAt hb e)))).1, fun b hb => ?_, w7⟩
      obtain ⟨o, e, d⟩ := T.obj _ _ st5 b hb
      exact (I7.pin (b, o) (List.mem_append_right _ (List.mem_append_right _ (mem_pinsAt hb e)))).2.1
    cases f with
    | next => obtain ⟨σ7, H7, I7, n7⟩ := q7; exact again I7 n7
    | cont => obtain ⟨σ7, H7, I7, n7⟩ := q7; exact again I7 n7
    | brk => obtain ⟨σ7, H7, I7, q7⟩ := q7; exact ⟨σ7, H7, I7.unpinned, q7⟩
    | ret v => obtain ⟨x7, σ7, H7, I7, r7, q7⟩ := q7; exact ⟨x7, σ7, H7, I7.unpinned, r7, q7⟩
end

theorem for_range {lo : Int} {n : Nat} {g : TG} {tb : TS} {D : Ends} {σ : St} {H : Hp} (Pv : Nat → St → Hp → Prop) (h0 : Pv 0 σ H)
    (hs : ∀ i σ H, i < n → Pv i σ H → g (.int (lo + i)) σ H fun σ2 H2 => tb { D with nx := Pv (i + 1), ct := Pv (i + 1), bk := D.nx } σ2 H2) (hd : ∀ σ H, Pv n σ H → D.nx σ H) :
    ∃ W : Nat → Nat → St → Hp → Prop, (∃ m, W 0 m σ H) ∧ ∀ i m σ H, W i m σ H →
      ((Itr lo n).stop i H ∧ D.nx σ H) ∨ ((Itr lo n).go i H ∧ ∃ N : St → Hp → Prop, (∀ σ' H', N σ' H' → ∃ m', m' < m ∧ W (i + 1) m' σ' H') ∧ ∀ x H', (Itr lo n).yld i H x H' → g x σ H' fun σ2 H2 => tb { D with nx := N, ct := N, bk := D.nx } σ2 H2) := by
  refine ⟨fun i m σ H => m = n - i ∧ i ≤ n ∧ Pv i σ H, ⟨n, by simp, Nat.zero_le _, h0⟩, ?_⟩
  rintro i m σ H ⟨rfl, hi, p⟩
  by_cases hlt : i < n
  · refine .inr ⟨hlt, Pv (i + 1), fun σ' H' p' => ⟨n - (i + 1), by omega, rfl, hlt, p'⟩, fun x H' y => ?_⟩
    obtain ⟨e, y⟩ := y
    subst e y
    exact hs i σ _ hlt p
  · have e : i = n := by omega
    subst e
    exact .inl ⟨Nat.le_refl _, hd σ H p⟩
end L2

namespace L2
open PySem PySem.Spec PyProof.Rows

abbrev R2 := V → V → Hp → VK → Prop
/-- a two-place operation on values: f is binaryOp op, inplaceOp op or compareOp op -/
def OpR (X : Cx) (f : Value → Value → Sem Value) (r : R2) : Prop :=
  ∀ (pins : List (Addr × Obj)) (s : Shared) (σ : St) (H : Hp) (x y : V) (v u : Value) (Q : VK), Inv X pins σ H s → RelV x v → RelV y u → r x y H Q →
    wpAny (model X.prog X.w) X.A (f v u) (EP X pins σ Q) X.xe s
/-- a call of a value that is known (a builtin, a type) with values -/
def CallR (X : Cx) (f : Value) (r : List V → Hp → VK → Prop) : Prop :=
  ∀ (pins : List (Addr × Obj)) (s : Shared) (σ : St) (H : Hp) (xs : List V) (us : List Value) (Q : VK), Inv X pins σ H s → Vals xs us → r xs H Q →
    wpAny (model X.prog X.w) X.A (call f us) (EP X pins σ Q) X.xe s
def tOp (r : R2) (ta tb : TE) : TE := fun σ H Q => ta σ H fun x H1 => tb σ H1 fun y H2 => r x y H2 Q
def tUn (r : V → Hp → VK → Prop) (ta : TE) : TE := fun σ H Q => ta σ H fun x H1 => r x H1 Q
/-- ints in, under C, and a value out -/
def rI (C : Int → Int → Prop) (g : Int → Int → V) : R2 := fun x y H Q => ∃ i j, x = .int i ∧ y = .int j ∧ C i j ∧ Q (g i j) H
def rI0 (g : Int → Int → V) : R2 := fun x y H Q => ∃ i j, x = .int i ∧ y = .int j ∧ Q (g i j) H
def rU (g : Int → V) : V → Hp → VK → Prop := fun x H Q => ∃ i, x = .int i ∧ Q (g i) H

section
variable {X : Cx} {a b c : Expr} {ta tb tc : TE} {pos : Pos}

theorem binT (ha : PE X a ta) (hb : PE X b tb) {pins : List (Addr × Obj)} {s : Shared} {σ : St} {H : Hp} {R : V → V → Hp → Prop} (I : Inv X pins σ H s)
    (h : ta σ H fun x H1 => tb σ H1 fun y H2 => R x y H2) {Q : Value → Shared → Prop} {f : Value → Value → Sem Value}
    (hf : ∀ v u s2 x y H2, Inv X pins σ H2 s2 → RelV x v → RelV y u → R x y H2 → wpAny (model X.prog X.w) X.A (f v u) Q X.xe s2) :
    wpAny (model X.prog X.w) X.A (eval a X.env) (fun v s₁ => wpAny (model X.prog X.w) X.A (eval b X.env) (fun u s₂ => wpAny (model X.prog X.w) X.A (f v u) Q X.xe s₂) X.xe s₁) X.xe s := by
  refine thn (ha pins s σ H _ I h) fun v s1 ⟨x, H1, I1, r1, q1⟩ => ?_
  refine thn (hb pins s1 σ H1 _ I1 q1) fun u s2 ⟨y, H2, I2, r2, q2⟩ => ?_
  exact hf v u s2 x y H2 I2 r1 r2 q2

theorem pe_op {op : Operator} {r : R2} (ho : OpR X (binaryOp op) r) (ha : PE X a ta) (hb : PE X b tb) : PE X (.BinOp a op b pos) (tOp r ta tb) := by
  intro pins s σ H Q I h
  exact wpAny_BinOp (binT ha hb I h fun v u s2 x y H2 I2 rx ry q => ho pins s2 σ H2 x y v u Q I2 rx ry q)
theorem opI {f : Value → Value → Sem Value} {C : Int → Int → Prop} {g : Int → Int → Int}
    (rule : ∀ (i j : Int) (t u : Tok) (s : Shared) (Q : Value → Shared → Prop) (E : Value → Shared → Prop), C i j → Q (.int (g i j) s.toks) { s with toks := s.toks + 1 } → wpAny (model X.prog X.w) X.A (f (.int i t) (.int j u)) Q E s) :
    OpR X f (rI C fun i j => .int (g i j)) := by
  intro pins s σ H x y v u Q I rx ry h
  obtain ⟨i, j, rfl, rfl, hc, q⟩ := h
  obtain ⟨t, rfl⟩ := rx
  obtain ⟨t', rfl⟩ := ry
  exact rule i j t t' s _ _ hc ⟨.int (g i j), H, I.tok _, ⟨_, rfl⟩, q⟩
theorem opI0 {f : Value → Value → Sem Value} {g : Int → Int → Int}
    (rule : ∀ (i j : Int) (t u : Tok) (s : Shared) (Q : Value → Shared → Prop) (E : Value → Shared → Prop), Q (.int (g i j) s.toks) { s with toks := s.toks + 1 } → wpAny (model X.prog X.w) X.A (f (.int i t) (.int j u)) Q E s) :
    OpR X f (rI0 fun i j => .int (g i j)) := by
  intro pins s σ H x y v u Q I rx ry h
  obtain ⟨i, j, rfl, rfl, q⟩ := h
  obtain ⟨t, rfl⟩ := rx
  obtain ⟨t', rfl⟩ := ry
  exact rule i j t t' s _ _ ⟨.int (g i j), H, I.tok _, ⟨_, rfl⟩, q⟩
theorem opB0 {f : Value → Value → Sem Value} {g : Int → Int → Bool}
    (rule : ∀ (i j : Int) (t u : Tok) (s : Shared) (Q : Value → Shared → Prop) (E : Value → Shared → Prop), Q (.bool (g i j)) s → wpAny (model X.prog X.w) X.A (f (.int i t) (.int j u)) Q E s) :
    OpR X f (rI0 fun i j => .bl (g i j)) := by
  intro pins s σ H x y v u Q I rx ry h
  obtain ⟨i, j, rfl, rfl, q⟩ := h
  obtain ⟨t, rfl⟩ := rx
  obtain ⟨t', rfl⟩ := ry
  exact rule i j t t' s _ _ ⟨.bl (g i j), H, I, rfl, q⟩

def CDiv (i j : Int) : Prop := 0 < j ∧ j < 1073741824
def CPow (i j : Int) : Prop := 0 ≤ j ∧ j ≤ 1000000 ∧ i.natAbs < 2 ^ 64
def CMul (i j : Int) : Prop := (-(2 ^ 64) < i ∧ i < 2 ^ 64) ∨ (-(2 ^ 64) < j ∧ j < 2 ^ 64)
theorem CMul.ok {i j : Int} (h : CMul i j) : IntMulOk i j := by
  rcases h with ⟨h1, h2⟩ | ⟨h1, h2⟩
  · exact .of_left (intBits_le_64 h1 h2)
  · exact .of_right (intBits_le_64 h1 h2)
theorem op_add : OpR X (binaryOp .Add) (rI0 fun i j => .int (i + j)) := opI0 fun _ _ _ _ _ _ _ q => add_int q
theorem op_sub : OpR X (binaryOp .Sub) (rI0 fun i j => .int (i - j)) := opI0 fun _ _ _ _ _ _ _ q => sub_int q
/-- // by a positive divisor -/
theorem op_fdiv : OpR X (binaryOp .FloorDiv) (rI CDiv fun i j => .int (i / j)) := opI fun i j _ _ _ _ _ hc q => by
  have h1 : (0 : Int) < j := hc.1
  have h2 : j < 1073741824 := hc.2
  exact floordiv_int (by omega) (by rw [Int.fdiv_eq_ediv_of_nonneg i (by omega)]; exact q) (.inl (PyProof.noPylong_small (by omega)))
/-- % by a positive divisor of any size -/
theorem op_mod : OpR X (binaryOp .Mod) (rI (fun _ j => 0 < j) fun i j => .int (i % j)) := opI fun i j _ _ _ _ _ hc q => by
  have h1 : (0 : Int) < j := hc
  exact mod_int' (by omega) (by rw [Int.fmod_eq_emod_of_nonneg i (by omega)]; exact q)
theorem op_pow : OpR X (binaryOp .Pow) (rI CPow fun i j => .int (i ^ j.toNat)) := opI fun _ _ _ _ _ _ _ hc q => pow_int_small hc.1 hc.2.1 hc.2.2 q
end

/-- the scalars that == tells apart as data does -/
def scal : V → V → Bool
  | .non, .non => true | .non, .int _ => true | .int _, .non => true | .non, .bl _ => true | .bl _, .non => true | .non, .str _ => true | .str _, .non => true
  | .int _, .int _ => true | .bl _, .bl _ => true | .str _, .str _ => true | .byt _, .byt _ => true
  | .int _, .str _ => true | .str _, .int _ => true | .bl _, .str _ => true | .str _, .bl _ => true
  | _, _ => false
def rEq : R2 := fun x y H Q => scal x y = true ∧ Q (.bl (decide (x = y))) H
def rNe : R2 := fun x y H Q => scal x y = true ∧ Q (.bl (!decide (x = y))) H

theorem dec_int {i j : Int} : decide (V.int i = V.int j) = (i == j) := by
  rw [Bool.eq_iff_iff]
  simp
theorem dec_bl {i j : Bool} : decide (V.bl i = V.bl j) = (i == j) := by
  rw [Bool.eq_iff_iff]
  simp
theorem dec_str {i j : Str} : decide (V.str i = V.str j) = (i == j) := by
  rw [Bool.eq_iff_iff]
  simp
theorem dec_byt {i j : Array UInt8} : decide (V.byt i = V.byt j) = (i.toList == j.toList) := by
  rw [Bool.eq_iff_iff]
  cases i
  cases j
  simp

section
variable {X : Cx} {a b c : Expr} {ta tb tc : TE} {pos : Pos}
theorem fin_bl {pins : List (Addr × Obj)} {σ : St} {H : Hp} {s : Shared} {Q : VK} {k k' : Bool} (I : Inv X pins σ H s) (q : Q (.bl k) H) (e : k = k') : EP X pins σ Q (.bool k') s := by
  subst e
  exact ⟨.bl k, H, I, rfl, q⟩
theorem op_eq : OpR X (compareOp .Eq) rEq := by
  intro pins s σ H x y v u Q I rx ry h
  obtain ⟨hs, q⟩ := h
  cases x with
  | non =>
    cases rx
    cases y with
    | non => cases ry; exact PySem.EqNone.eq_none_none (fin_bl I q (by simp))
    | bl j => cases ry; exact PySem.EqNone.eq_none_bool (fin_bl I q (by simp))
    | int j => obtain ⟨t', rfl⟩ := ry; exact PySem.EqNone.eq_none_int (fin_bl I q (by simp))
    | str j => obtain ⟨t', rfl⟩ := ry; exact PySem.EqNone.eq_none_str (fin_bl I q (by simp))
    | _ => exact absurd (show false = true from hs) Bool.false_ne_true
  | bl i =>
    cases rx
    cases y with
    | non => cases ry; exact PySem.EqNone.eq_bool_none (fin_bl I q (by simp))
    | bl j => cases ry; exact eq_bool (fin_bl I q dec_bl)
    | str j => obtain ⟨t', rfl⟩ := ry; exact PySem.EqMixed.eq_bool_str (fin_bl I q (by simp))
    | _ => exact absurd (show false = true from hs) Bool.false_ne_true
  | int i =>
    obtain ⟨t, rfl⟩ := rx
    cases y with
    | non => cases ry; exact PySem.EqNone.eq_int_none (fin_bl I q (by simp))
    | int j => obtain ⟨t', rfl⟩ := ry; exact eq_int (fin_bl I q dec_int)
    | str j => obtain ⟨t', rfl⟩ := ry; exact PySem.EqMixed.eq_int_str (fin_bl I q (by simp))
    | _ => exact absurd (show false = true from hs) Bool.false_ne_true
  | str i =>
    obtain ⟨t, rfl⟩ := rx
    cases y with
    | non => cases ry; exact PySem.EqNone.eq_str_none (fin_bl I q (by simp))
    | bl j => cases ry; exact PySem.EqMixed.eq_str_bool (fin_bl I q (by simp))
    | int j => obtain ⟨t', rfl⟩ := ry; exact PySem.EqMixed.eq_str_int (fin_bl I q (by simp))
    | str j => obtain ⟨t', rfl⟩ := ry; exact eq_str (fin_bl I q dec_str)
    | _ => exact absurd (show false = true from hs) Bool.false_ne_true
  | byt i =>
    obtain ⟨t, rfl⟩ := rx
    cases y with
    | byt j => obtain ⟨t', rfl⟩ := ry; exact PySem.W.eq_bytes (fin_bl I q dec_byt)
    | _ => exact absurd (show false = true from hs) Bool.false_ne_true
  | _ => cases y <;> exact absurd (show false = true from hs) Bool.false_ne_true
theorem op_lt : OpR X (compareOp .Lt) (rI0 fun i j => .bl (decide (i < j))) := opB0 fun _ _ _ _ _ _ _ q => lt_int q
/-- is None, is not None: the right side a value none -/
theorem op_isN : OpR X (compareOp .Is) (fun x y H Q => y = .non ∧ Q (.bl (decide (x = .non))) H) := by
  intro pins s σ H x y v u Q I rx ry h
  obtain ⟨rfl, q⟩ := h
  cases ry
  refine is_none_gen (fin_bl I q ?_)
  cases x <;> first
    | (cases rx; rfl)
    | (obtain ⟨t, rfl⟩ := rx; rfl)
/-- two rules for one operation: by cases -/
theorem OpR.or {f : Value → Value → Sem Value} {r r' : R2} (h : OpR X f r) (h' : OpR X f r') : OpR X f (fun x y H Q => r x y H Q ∨ r' x y H Q) := by
  intro pins s σ H x y v u Q I rx ry q
  rcases q with q | q
  · exact h pins s σ H x y v u Q I rx ry q
  · exact h' pins s σ H x y v u Q I rx ry q

theorem nomark (b : Expr) {op : CmpOp} (h : op ≠ .In := by decide) (h2 : op ≠ .NotIn := by decide) : behindInMarks op b = false := by
  have e1 : (op == CmpOp.In) = false := by cases op <;> first | rfl | exact absurd rfl h
  have e2 : (op == CmpOp.NotIn) = false := by cases op <;> first | rfl | exact absurd rfl h2
  cases b <;> simp [behindInMarks, e1, e2]
/-- a comparison as a value; hm: nomark b, or (for in, not in) by with_unfolding_all rfl -/
theorem pe_cmpR {op : CmpOp} {r : R2} (ho : OpR X (compareOp op) r) (ha : PE X a ta) (hb : PE X b tb) (hm : behindInMarks op b = false) : PE X (.Compare a [op] [b] pos) (tOp r ta tb) := by
  intro pins s σ H Q I h
  exact wpAny_Compare1 (binT ha hb I h fun v u s2 x y H2 I2 rx ry q => ho pins s2 σ H2 x y v u Q I2 rx ry q) hm
/-- a reading of a value as a test -/
def tTest (t : TE) : TT := fun σ H Q => t σ H fun x H' => ∃ k, x = .bl k ∧ Q k H'
theorem pt_cmpR {op : CmpOp} {r : R2} (ho : OpR X (compareOp op) r) (ha : PE X a ta) (hb : PE X b tb) (hm : behindInMarks op b = false) : PT X (.Compare a [op] [b] pos) (tTest (tOp r ta tb)) := by
  intro pins s σ H Q I h
  refine wpAny_isTrue_Compare1 (thn (ha pins s σ H _ I h) fun v s1 ⟨x, H1, I1, r1, q1⟩ => thn (hb pins s1 σ H1 _ I1 q1) fun u s2 ⟨y, H2, I2, r2, q2⟩ =>
    thn (ho pins s2 σ H2 x y v u _ I2 r1 r2 q2) fun c s3 ⟨z, H3, I3, r3, k, e, q3⟩ => ?_) hm
  subst e
  cases r3
  exact wpAny_truthy_bool ⟨H3, I3, q3⟩
/-- a op1 b op2 c -/
def tChain (r r' : R2) (ta tb tc : TE) : TE := fun σ H Q => ta σ H fun x H1 => tb σ H1 fun y H2 => r x y H2 fun z H3 => ∃ k, z = .bl k ∧
  (if k = true then tc σ H3 fun w' H4 => r' y w' H4 Q else Q (.bl false) H3)
theorem line63 : (sizeLine : Nat) < 2 ^ 63 := by rw [sizeLine_eq]; decide
theorem op_add_str : OpR X (binaryOp .Add) (fun x y H Q => ∃ i j, x = .str i ∧ y = .str j ∧ i.length + j.length ≤ sizeLine ∧ Q (.str (i ++ j)) H) := by
  intro pins s σ H x y v u Q I rx ry h
  obtain ⟨i, j, rfl, rfl, hz, q⟩ := h
  obtain ⟨t, rfl⟩ := rx
  obtain ⟨t', rfl⟩ := ry
  exact add_str (fun t' tk => ⟨.str (i ++ j), H, I.tok _, ⟨_, rfl⟩, q⟩) hz
theorem vals1 {x : V} {us : List Value} (r : Vals [x] us) : ∃ u, us = [u] ∧ RelV x u := by
  cases r with
  | cons r1 r2 => cases r2; exact ⟨_, rfl, r1⟩
theorem vals2 {x y : V} {us : List Value} (r : Vals [x, y] us) : ∃ u w', us = [u, w'] ∧ RelV x u ∧ RelV y w' := by
  cases r with
  | cons r1 r2 =>
    cases r2 with
    | cons r3 r4 => cases r4; exact ⟨_, _, rfl, r1, r3⟩
end
end L2

namespace L2
open PySem PySem.Spec PyProof.Rows

structure ObjM (h : Heap) (x dx C : Addr) (mA : Str → Option Value) : Prop where
  obj : h.get? x = some (PySem.W.instObj C dx)
  ns : h.Ns1 dx mA
  ne : dx ≠ x

theorem lookIn_ns {h : Heap} {dx : Addr} {mA : Str → Option Value} (n : h.Ns1 dx mA) : ∃ od, h.get? dx = some od ∧ ∀ name, PySem.W.lookIn name od = some (mA name) := by
  obtain ⟨o, es, ep, ho, hd, hk, _, hm⟩ := n
  refine ⟨o, ho, fun name => ?_⟩
  have e := hm name
  unfold nsFind findBy at e
  rw [← Array.find?_toList] at e
  unfold PySem.W.lookIn
  rw [hd]
  dsimp only
  split
  · rename_i y q
    rw [q] at e
    exact congrArg some e
  · rename_i q
    rw [q] at e
    have a : es.toList.any (·.refKey) = false := by
      rw [List.any_eq_false]
      intro y hy
      obtain ⟨z, t, hkey⟩ := hk y (Array.mem_toList_iff.mp hy)
      simp [DictEntry.refKey, hkey]
    have a' : ¬ es.toList.any (·.refKey) = true := by rw [a]; exact Bool.false_ne_true
    rw [if_neg a']
    exact congrArg some e

theorem ObjM.look {h : Heap} {x dx C : Addr} {mA : Str → Option Value} (I : ObjM h x dx C mA) : ∃ od, PySem.W.InstAt h x (PySem.W.instObj C dx) C (some od) ∧ ∀ name, PySem.W.lookIn name od = some (mA name) :=
  let ⟨od, ho, hl⟩ := lookIn_ns I.ns
  ⟨od, ⟨I.obj, rfl, rfl, ho⟩, hl⟩

section
variable {prog : Program} {w : World} {A : Around} {E : Value → Shared → Prop} {s : Shared} {K : PySem.W.Frag} {x dx C f : Addr} {mA : Str → Option Value} {name : Str} {v : Value}

end

def putF (f : Str) (v : V) : List (Str × V) → List (Str × V)
  | [] => [(f, v)]
  | (g, x) :: r => if g = f then (g, v) :: r else (g, x) :: putF f v r
theorem lookup_putF (f g : Str) (v : V) : ∀ fs : List (Str × V), (putF f v fs).lookup g = if g = f then some v else fs.lookup g
  | [] => by
    show List.lookup g [(f, v)] = _
    by_cases h : g = f
    · have hb : (g == f) = true := beq_iff_eq.mpr h
      simp only [List.lookup, hb, if_pos h]
    · have hb : (g == f) = false := beq_eq_false_iff_ne.mpr h
      simp only [List.lookup, hb, if_neg h]
  | (k, x) :: r => by
    have ih := lookup_putF f g v r
    rw [show putF f v ((k, x) :: r) = (if k = f then (k, v) :: r else (k, x) :: putF f v r) from rfl]
    by_cases hk : k = f
    · rw [if_pos hk]
      by_cases h : g = k
      · have hb : (g == k) = true := beq_iff_eq.mpr h
        simp only [List.lookup, hb, if_pos (h.trans hk)]
      · have hb : (g == k) = false := beq_eq_false_iff_ne.mpr h
        simp only [List.lookup, hb, if_neg (fun e : g = f => h (e.trans hk.symm))]
    · rw [if_neg hk]
      by_cases h : g = k
      · have hb : (g == k) = true := beq_iff_eq.mpr h
        simp only [List.lookup, hb, if_neg (fun e : g = f => hk (h.symm.trans e))]
      · have hb : (g == k) = false := beq_eq_false_iff_ne.mpr h
        simp only [List.lookup, hb]
        exact ih
theorem keys_putF (f : Str) (v : V) : ∀ fs : List (Str × V), f ∈ (putF f v fs).map (·.1) ∧ ∀ g, g ∈ fs.map (·.1) → g ∈ (putF f v fs).map (·.1)
  | [] => ⟨by simp [putF], fun g h => by simp at h⟩
  | (k, x) :: r => by
    obtain ⟨i1, i2⟩ := keys_putF f v r
    rw [show putF f v ((k, x) :: r) = (if k = f then (k, v) :: r else (k, x) :: putF f v r) from rfl]
    by_cases hk : k = f
    · rw [if_pos hk]
      subst hk
      exact ⟨by simp, fun g h => by simpa using h⟩
    · rw [if_neg hk]
      refine ⟨?_, fun g h => ?_⟩
      · rw [List.map_cons]
        exact List.mem_cons_of_mem _ i1
      · rw [List.map_cons] at h ⊢
        rcases List.mem_cons.mp h with e | e
        · exact List.mem_cons.mpr (.inl e)
        · exact List.mem_cons_of_mem _ (i2 g e)
theorem RelO.some_of {v : V} {o : Option Value} (r : RelO (some v) o) : ∃ u, o = some u ∧ RelV v u := by
  cases o with
  | none => exact (show False from r).elim
  | some u => exact ⟨u, rfl, r⟩
theorem RelO.none_of {o : Option Value} (r : RelO none o) : o = none := by
  cases o with
  | none => rfl
  | some u => exact (show False from r).elim
theorem handed_of {v : V} {u : Value} (r : RelV v u) : PySem.W.handedIn u = true := by
  cases v with
  | non => cases (show u = Value.none from r); rfl
  | bl b => cases (show u = Value.bool b from r); rfl
  | int i => obtain ⟨t, e⟩ := (show ∃ t, u = Value.int i t from r); cases e; rfl
  | str x => obtain ⟨t, e⟩ := (show ∃ t, u = Value.str x t from r); cases e; rfl
  | byt b => obtain ⟨t, e⟩ := (show ∃ t, u = Value.bytes b t from r); cases e; rfl
  | flt b => obtain ⟨t, e⟩ := (show ∃ t, u = Value.float b t from r); cases e; rfl
  | ref a => cases (show u = Value.ref a from r); rfl
  | ty n => cases (show u = Value.type n from r); rfl

section
variable {P : Program} {w : World} {H H' : Hp} {h h' : Heap} {a C dx : Addr} {fs fs' : List (Str × V)}
theorem ins_get (hok : HOk P w H h) (e : H a = some (.ins C dx fs)) : ∃ mA, ObjM h a dx C mA ∧ (∀ f, RelO (fs.lookup f) (mA f)) ∧ PySem.Within mA (fs.map (·.1)) ∧ fs.length ≤ 1000 ∧ H dx = some (.own a) := by
  obtain ⟨d, z, ne, ob, mA, n, r, q⟩ := (show ObjOk P w H h a (.ins C dx fs) from hok a _ e)
  exact ⟨mA, ⟨ob, n, ne⟩, r, q, z, d⟩
end

structure Cls (K : PySem.W.Frag) (C : Addr) : Prop where
  pg : PySem.W.plainGet K C Str.empty = true
  hd : PySem.W.hasDictIn K C = true
  po : PySem.W.plainOver K C = true
  sa : PySem.W.findIn K (.ref C) "__setattr__" = some (some (.builtin "object.__setattr__"))
theorem Cls.get {K : PySem.W.Frag} {C : Addr} (c : Cls K C) (f : Str) : PySem.W.plainGet K C f = true := c.pg
/-- no class of it has the name -/
def NoAttr (K : PySem.W.Frag) (C : Addr) (f : Str) : Prop := PySem.W.findIn K (.ref C) f = some none
/-- a method: a plain def of the class or of one above it -/
structure Meth (K : PySem.W.Frag) (C : Addr) (m : Str) (f : Addr) : Prop where
  at_ : PySem.W.findIn K (.ref C) m = some (some (.ref f))
  fn : PySem.W.isFn K (.ref f) = true
  kp : PySem.W.keepIn K (.ref f) = true

section
variable {X : Cx} {pins : List (Addr × Obj)} {σ : St} {H : Hp} {s : Shared} {a C dx : Addr} {fs : List (Str × V)} {f : Str} {v : V} {A : Around} {E : Value → Shared → Prop}

/-- e.f where nothing but the object is asked: through attributeBase (super) and the last hold -/
theorem attr_of {prog : Program} {w : World} {env : Env} {e : Expr} {f : Str} {pos : Pos} {s : Shared} {Q : Value → Shared → Prop} (hb : attributeBase e f env (eval e env) = eval e env)
    (h : wpAny (model prog w) A (eval e env) (fun o s₁ => wpAny (model prog w) A (getAttr o f true) Q E s₁) E s) : wpAny (model prog w) A (eval (.Attribute e f pos) env) Q E s :=
  Attribute_any_ h (by rw [arm_eval_Attribute, hb])
end

section
variable {X : Cx} {o e value : Expr} {f : Str} {pos pos' tpos : Pos} {ta tv : TE}
end

section
variable {X : Cx} {pins : List (Addr × Obj)} {σ : St} {H : Hp} {s : Shared} {A : Around} {E : Value → Shared → Prop} {Q : Value → Shared → Prop} {c : Value} {b : Bool}
/-- the type of a value, as the fragment's deciders take it; for an instance its class -/
inductive TyOf (K : PySem.W.Frag) (H : Hp) : V → Value → Prop where
  | non : TyOf K H .non (.type "NoneType")
  | bl (x : Bool) : TyOf K H (.bl x) (.type "bool")
  | int (i : Int) : TyOf K H (.int i) (.type "int")
  | str (x : Str) : TyOf K H (.str x) (.type "str")
  | flt (x : UInt64) : TyOf K H (.flt x) (.type "float")
  | lst {a : Addr} {xs : List V} (e : H a = some (.lst xs)) : TyOf K H (.ref a) (.type "list")
  | frz {a : Addr} {o : Obj} {xs : List V} (e : H a = some (.frz o (.lst xs))) : TyOf K H (.ref a) (.type "list")
  | tup {a : Addr} {xs : List V} (e : H a = some (.tup xs)) : TyOf K H (.ref a) (.type "tuple")
  | dK {a : Addr} {kvs : List (Key × V)} (e : H a = some (.dK kvs)) : TyOf K H (.ref a) (.type "dict")
  | dT {a : Addr} {kvs : List (List Key × V)} (e : H a = some (.dT kvs)) : TyOf K H (.ref a) (.type "dict")
  | ins {a C dx : Addr} {fs : List (Str × V)} (e : H a = some (.ins C dx fs)) (cl : Cls K C) (ha : PySem.W.findIn K (.ref C) "__class__" = some (some (.builtin "object.__class__")))
      (hn : PySem.W.specialIn K (.builtin "object.__class__") "__get__" = some (some (.builtin "getset_descriptor.__get__"))) (htk : PySem.W.takesIn K (.builtin "object.__class__") = some true)
      (hm : PySem.W.mroIn K C (.type "object") = some true) : TyOf K H (.ref a) (.ref C)
/-- isinstance(x, c) for one class c, a built-in or an own one: kitOne's answer -/
theorem isinst_ok {x : V} {u t : Value} (I : Inv X pins σ H s) (rx : RelV x u) (ty : TyOf X.K H x t) (e : PySem.W.kitOne X.K t c = some b) (h : ∀ tk, Q (.bool b) { s with toks := tk }) :
    wpAny (model X.prog X.w) A (call (.builtin "isinstance") [u, c]) Q E s := by
  cases ty with
  | non => cases (show u = Value.none from rx); exact PySem.W.kia_one PySem.W.kitx_none I.kIn True.intro e (fun z => nomatch z) h
  | bl y => cases (show u = Value.bool y from rx); exact PySem.W.kia_one PySem.W.kitx_bool I.kIn True.intro e (fun z => nomatch z) h
  | int i => obtain ⟨t, q⟩ := (show ∃ t, u = Value.int i t from rx); cases q; exact PySem.W.kia_one PySem.W.kitx_int I.kIn True.intro e (fun z => nomatch z) h
  | str y => obtain ⟨t, q⟩ := (show ∃ t, u = Value.str y t from rx); cases q; exact PySem.W.kia_one PySem.W.kitx_str I.kIn True.intro e (fun z => nomatch z) h
  | flt y => obtain ⟨t, q⟩ := (show ∃ t, u = Value.float y t from rx); cases q; exact PySem.W.kia_one PySem.W.kitx_float I.kIn True.intro e (fun z => nomatch z) h
  | @lst a xs ea =>
    cases (show u = Value.ref a from rx)
    obtain ⟨_, _, n, _, h1⟩ := (show ObjOk X.prog X.w H s.heap a (.lst xs) from I.hok a _ ea)
    exact PySem.W.kia_one PySem.W.kitx_list I.kIn ⟨_, h1, rfl⟩ e (fun z => nomatch z) h
  | @frz a ob xs ea =>
    cases (show u = Value.ref a from rx)
    obtain ⟨_, _, _, n, _, h1⟩ := (show ObjOk X.prog X.w H s.heap a (.frz ob (.lst xs)) from I.hok a _ ea)
    exact PySem.W.kia_one PySem.W.kitx_list I.kIn ⟨_, h1, rfl⟩ e (fun z => nomatch z) h
  | @tup a xs ea =>
    cases (show u = Value.ref a from rx)
    obtain ⟨_, _, _, p⟩ := (show ObjOk X.prog X.w H s.heap a (.tup xs) from I.hok a _ ea)
    obtain ⟨o, h1, h2, _⟩ := p
    exact PySem.W.kia_one PySem.W.kitx_tuple I.kIn ⟨o, h1, h2⟩ e (fun z => nomatch z) h
  | @dK a kvs ea =>
    cases (show u = Value.ref a from rx)
    obtain ⟨_, _, vs, _, p⟩ := (show ObjOk X.prog X.w H s.heap a (.dK kvs) from I.hok a _ ea)
    obtain ⟨o, es, ep, h1, h2, _⟩ := p
    exact PySem.W.kia_one PySem.W.kitx_dict I.kIn ⟨o, h1, h2.1⟩ e (fun z => nomatch z) h
  | @dT a kvs ea =>
    cases (show u = Value.ref a from rx)
    obtain ⟨_, _, xs, _, o, es, ep, h1, h2, _⟩ := (show ObjOk X.prog X.w H s.heap a (.dT kvs) from I.hok a _ ea)
    exact PySem.W.kia_one PySem.W.kitx_dict I.kIn ⟨o, h1, h2.1⟩ e (fun z => nomatch z) h
  | @ins a C dx fs ea cl ha hn htk hm =>
    cases (show u = Value.ref a from rx)
    obtain ⟨mA, O, _⟩ := ins_get I.hok ea
    obtain ⟨od, J, _⟩ := O.look
    exact PySem.W.kia_one (PySem.W.kitx_own (cl.get _) cl.hd ha hn htk hm) I.kIn J e (fun z => nomatch z) h
end
end L2

namespace L2
open PySem PySem.Spec PyProof.Rows

structure Room (k : Nat) (A : Around) : Prop where
  hd : A.handled = none
  dp : A.depth + 3 * k + 5 < recursionLimit
  un : A.units + 16 * k + 200 < cLine
theorem Room.mono {j k : Nat} {A : Around} (r : Room k A) (h : j ≤ k) : Room j A := ⟨r.hd, by have := r.dp; omega, by have := r.un; omega⟩
theorem Room.deeper {k : Nat} {A : Around} (r : Room (k + 1) A) (env : Env) : Room k (A.deeper env) :=
  ⟨r.hd, by have := r.dp; show A.depth + 1 + 3 * k + 5 < _; omega, by have := r.un; show A.units + 3 + 16 * k + 200 < _; omega⟩
theorem Room.in1 {k : Nat} {A : Around} (r : Room (k + 1) A) : Room k A.in1 :=
  ⟨r.hd, by have := r.dp; show A.depth + 3 * k + 5 < _; omega, by have := r.un; show A.units + 1 + 16 * k + 200 < _; omega⟩
theorem make_depth {A : Around} {C : Addr} {us : List Value} {kw : List (Str × Value)} : (A.under (.builtin "type.__call__" ⟨.ref C :: us, kw⟩)).depth = A.depth + 1 := by
  first | rfl | simp [Around.under, Code.weight, Code.isCreation, Code.isGuard, Code.isCaller, Code.frames, Code.isFrame, guardIds]
theorem make_units {A : Around} {C : Addr} {us : List Value} {kw : List (Str × Value)} : (A.under (.builtin "type.__call__" ⟨.ref C :: us, kw⟩)).units = A.units + 1 := by
  first | rfl | simp [Around.under, Code.cUnits, Code.frames, Code.isFrame]
theorem Room.make {k : Nat} {A : Around} (r : Room (k + 1) A) (C : Addr) (us : List Value) (kw : List (Str × Value)) : Room k (A.under (.builtin "type.__call__" ⟨.ref C :: us, kw⟩)) :=
  ⟨r.hd, by have := r.dp; rw [make_depth]; omega, by have := r.un; rw [make_units]; omega⟩
theorem Room.depth {k : Nat} {A : Around} (r : Room k A) : A.depth < recursionLimit := by have := r.dp; omega
theorem Room.units {k : Nat} {A : Around} (r : Room k A) : A.units + 64 < cLine := by have := r.un; omega
theorem Room.units0 {k : Nat} {A : Around} (r : Room k A) : A.units < cLine := by have := r.un; omega

def tNil : TA := fun _ H Q => Q [] H
def tCons (ta : TE) (tr : TA) : TA := fun σ H Q => ta σ H fun x H1 => tr σ H1 fun xs H2 => Q (x :: xs) H2
section
variable {X : Cx} {e : Expr} {es : List Expr} {te : TE} {t : TA} {pos : Pos}
theorem pa_nil : PA X [] tNil := fun _ _ _ _ H Q I h => Calls.spliced_nil ⟨[], H, I, .nil, h⟩
theorem pa_cons (ha : PE X e te) (hr : PA X es t) (hs : starEach (e :: es) X.env = (false, eval e X.env) :: starEach es X.env := by rfl) : PA X (e :: es) (tCons te t) := by
  intro pos pins s σ H Q I h
  rw [hs]
  show wpAny _ _ (spliced ((false, eval e X.env) :: backTo pos (starEach es X.env))) _ _ s
  refine Calls.spliced_cons (thn (ha pins s σ H _ I h) fun u s1 ⟨x, H1, I1, r1, q1⟩ => ?_)
  exact thn (hr pos pins s1 σ H1 _ I1 q1) fun us s2 ⟨xs, H2, I2, r2, q2⟩ => ⟨x :: xs, H2, I2, .cons r1 r2, q2⟩

/-- a tuple, a list of written items -/
def tTup (t : TA) : TE := fun σ H Q => t σ H fun xs H1 => xs.length ≤ sizeLine ∧ ∀ p, H1 p = none → Q (.ref p) (upd H1 p (.tup xs))
def tLst (t : TA) : TE := fun σ H Q => t σ H fun xs H1 => xs.length ≤ sizeLine ∧ ∀ p, H1 p = none → Q (.ref p) (upd H1 p (.lst xs))
theorem pe_tup {x1} (h : PA X es t) : PE X (.Tuple es x1 pos) (tTup t) := by
  intro pins s σ H Q I hq
  refine wpAny_Tuple_spliced (thn (h pos pins s σ H _ I hq) fun us s1 ⟨xs, H1, I1, r, z, q⟩ => ⟨by rw [← r.length]; exact z, ?_⟩)
  have hf : H1 s1.heap.objs.size = none := I1.hok.fresh (Nat.le_refl _)
  refine ⟨.ref s1.heap.objs.size, upd H1 s1.heap.objs.size (.tup xs), I1.laid (t' := s1.toks) (fun b u e => Heap.get?_push_of_some _ e) (Nat.le_refl _) ?_, rfl, q _ hf⟩
  exact ⟨z, us, r, ⟨_, Heap.get?_push_size _ rfl, rfl, _, rfl⟩⟩
theorem pe_lst (h : PA X es t) : PE X (.List es pos) (tLst t) := by
  intro pins s σ H Q I hq
  refine wpAny_List_spliced (thn (h pos pins s σ H _ I hq) fun us s1 ⟨xs, H1, I1, r, z, q⟩ => ⟨by rw [← r.length]; exact z, ?_⟩)
  have hf : H1 s1.heap.objs.size = none := I1.hok.fresh (Nat.le_refl _)
  refine ⟨.ref s1.heap.objs.size, upd H1 s1.heap.objs.size (.lst xs), I1.laid (t' := s1.toks) (fun b u e => Heap.get?_push_of_some _ e) (Nat.le_refl _) ?_, rfl, q _ hf⟩
  exact ⟨z, us, 0, r, Heap.get?_push_size _ rfl⟩
end

/-- a def's promise: the bound arguments in the parameters' order, the heap, the wanted end, the wanted exception -/
abbrev Sp := List V → Hp → VK → XK → Prop
/-- how an exception lies behind a call (file 08 gives it): the callers' frames, abstract heap and state ahead of the call, the wish, the exception, the state -/
abbrev CXT := List Env → Hp → Shared → XK → Value → Shared → Prop

/-- the state at a call -/
structure Env0 (P : Program) (w : World) (K : PySem.W.Frag) (mg : Str → Option Value) (base : Heap) (A : Around) (outer : List Env) (s : Shared) (H : Hp) : Prop where
  frames : A.frames = some outer
  mod : Mod K mg base
  bs : ∀ b o, base.get? b = some o → s.heap.get? b = some o ∧ H b = none
  bsz : base.objs.size ≤ s.heap.objs.size
  funs : s.heap.FunFrames base outer
  frf : ∀ b ∈ frs outer, H b = none
  hok : HOk P w H s.heap
  bare : AllBare s.gens
/-- a call's end -/
def CE (outer : List Env) (P : Program) (w : World) (H : Hp) (s : Shared) (Q : VK) (u : Value) (s' : Shared) : Prop :=
  ∃ v H', s'.os = s.os ∧ AllBare s'.gens ∧ Un (frs outer) [] H H' s.heap s'.heap ∧ HOk P w H' s'.heap ∧ RelV v u ∧ Q v H'
def CR (CX : CXT) (outer : List Env) (P : Program) (w : World) (H : Hp) (s : Shared) (Q : VK) (E : XK) (r : Result) (s' : Shared) : Prop :=
  match r with
  | .ok (.ret u) => CE outer P w H s Q u s'
  | .ok _ => False
  | .error e => CX outer H s E e s'
structure FnOk (P : Program) (w : World) (K : PySem.W.Frag) (mg : Str → Option Value) (base : Heap) (CX : CXT) (k : Nat) (f : Addr) (fd : FuncData) (ps : List Str) (sp : Sp) : Prop where
  len : ∀ vs H Q E, sp vs H Q E → vs.length = ps.length
  run : ∀ (A : Around) (outer : List Env) (s : Shared) (H : Hp) (args : Args) (us : List Value) (vs : List V) (Q : VK) (E : XK), Room k A → Env0 P w K mg base A outer s H → BindsTo s fd args (ps.zip us) → Vals vs us → sp vs H Q E →
    codeAny (model P w) A (.call (.ref f) args) (CR CX outer P w H s Q E) s
theorem FnOk.mono {P : Program} {w : World} {K : PySem.W.Frag} {mg : Str → Option Value} {base : Heap} {CX : CXT} {j k : Nat} {f : Addr} {fd : FuncData} {ps : List Str} {sp : Sp} (F : FnOk P w K mg base CX j f fd ps sp) (h : j ≤ k) :
    FnOk P w K mg base CX k f fd ps sp := ⟨F.len, fun A outer s H args us vs Q E hr => F.run A outer s H args us vs Q E (hr.mono h)⟩
theorem Env0.make {P : Program} {w : World} {K : PySem.W.Frag} {mg : Str → Option Value} {base : Heap} {A : Around} {outer : List Env} {s : Shared} {H : Hp} (e : Env0 P w K mg base A outer s H) (C : Addr) (us : List Value) (kw : List (Str × Value)) :
    Env0 P w K mg base (A.under (.builtin "type.__call__" ⟨.ref C :: us, kw⟩)) outer s H := ⟨by first | exact e.frames | (simpa [Around.under, Code.envs, Code.isFrame, pushEnvs] using e.frames), e.mod, e.bs, e.bsz, e.funs, e.frf, e.hok, e.bare⟩
theorem Env0.in1 {P : Program} {w : World} {K : PySem.W.Frag} {mg : Str → Option Value} {base : Heap} {A : Around} {outer : List Env} {s : Shared} {H : Hp} (e : Env0 P w K mg base A outer s H) :
    Env0 P w K mg base A.in1 outer s H := ⟨e.frames, e.mod, e.bs, e.bsz, e.funs, e.frf, e.hok, e.bare⟩

section
variable {X : Cx} {pins : List (Addr × Obj)} {σ : St} {H : Hp} {s s' : Shared}
/-- from a body: what a callee wants -/
theorem Inv.env0 (I : Inv X pins σ H s) : Env0 X.prog X.w X.K X.mg X.base X.A X.stack s H :=
  ⟨I.ok.frames, I.ok.mod, I.bs, Nat.le_trans I.ok.bsz I.sz, I.stack, I.stkFree, I.hok, I.bare⟩
/-- behind a call -/
theorem Inv.after {Q : VK} {u : Value} (I : Inv X pins σ H s) (h : CE X.stack X.prog X.w H s Q u s') : EP X pins σ Q u s' := by
  obtain ⟨v, H', os, bare, un, hok, r, q⟩ := h
  obtain ⟨hh, g, d, t, os'⟩ := s'
  obtain rfl : os' = s.os := os
  exact ⟨v, H', I.call (h' := hh) (g' := g) (d' := d) (t' := t) (ch := []) un hok bare (fun b z => absurd z (by simp)), r, q⟩
end

/-- f(..): the written arguments, then the defaults dvs; E: what is wanted of an exception -/
def tCall (sp : Sp) (dvs : List V) (E : XK) (t : TA) : TE := fun σ H Q => t σ H fun vs H1 => sp (vs ++ dvs) H1 Q E
/-- how the parameters are bound: us the positional arguments, kw the keywords' values by name, ds the defaults that fill up -/
def Binds (K : PySem.W.Frag) (fd : FuncData) (ps : List Str) (ds : List Value) : Prop :=
  ∀ (s : Shared) (us : List Value), K.In s.heap → (us ++ ds).length = ps.length → BindsTo s fd ⟨us, []⟩ (ps.zip (us ++ ds))
/-- every parameter is given -/
theorem Binds.all {K : PySem.W.Frag} {fd : FuncData} {ps : List Str} (h : ∀ us : List Value, us.length = ps.length → bindArgs fd ⟨us, []⟩ = pure (ps.zip us)) : Binds K fd ps [] := fun s us _ hl => by
  rw [List.append_nil] at hl ⊢
  exact .of_eq (h us hl)

/-- an exception of a callee reaches what this body wants of exceptions -/
def Passes (CX : CXT) (X : Cx) (E : XK) : Prop := ∀ (pins : List (Addr × Obj)) (σ : St) (H : Hp) (s : Shared) (e : Value) (s' : Shared), Inv X pins σ H s → CX X.stack H s E e s' → X.xe e s'

section
variable {X : Cx} {CX : CXT} {k : Nat} {f C : Addr} {fd : FuncData} {ps : List Str} {sp : Sp} {dvs : List V} {ds : List Value} {E : XK} {x m : Str} {p pos apos : Pos} {e o : Expr} {es : List Expr} {ta : TE} {t : TA}

/-- the callee runs -/
theorem run_fn {pins : List (Addr × Obj)} {σ : St} {H : Hp} {s : Shared} {Q : VK} {us : List Value} {vs : List V} (F : FnOk X.prog X.w X.K X.mg X.base CX k f fd ps sp) (hr : Room k X.A) (hb : Binds X.K fd ps ds) (hd : Vals dvs ds) (hx : Passes CX X E)
    (I : Inv X pins σ H s) (r : Vals vs us) (h : sp (vs ++ dvs) H Q E) : wpAny (model X.prog X.w) X.A (call (.ref f) us) (EP X pins σ Q) X.xe s := by
  have r2 : Vals (vs ++ dvs) (us ++ ds) := r.append hd
  have hl : (us ++ ds).length = ps.length := by rw [← r2.length]; exact F.len _ _ _ _ h
  refine wpAny_call (codeAny_mono (F.run X.A X.stack s H ⟨us, []⟩ (us ++ ds) (vs ++ dvs) Q E hr I.env0 (hb s us I.kIn hl) r2 h) fun r s' hq => ?_)
  cases r with
  | error e => exact hx pins σ H s e s' I hq
  | ok fl =>
    cases fl with
    | ret u => exact I.after hq
    | next => exact False.elim hq
    | brk => exact False.elim hq
    | cont => exact False.elim hq

theorem pe_call (F : FnOk X.prog X.w X.K X.mg X.base CX k f fd ps sp) (hr : Room k X.A) (hg : Gl X x) (hm : X.mg x = some (.ref f)) (hk : PySem.W.keepIn X.K (.ref f) = true) (hb : Binds X.K fd ps ds) (hd : Vals dvs ds) (hx : Passes CX X E)
    (ha : PA X (e :: es) t) (hdb : (x == ("__debug__" : Str)) = false := by decide) (he : starEach (e :: es) X.env = (false, eval e X.env) :: starEach es X.env := by rfl) (hpl : (backTo pos (starEach es X.env)).any (·.1) = false := by rfl) :
    PE X (.Call (.Name x p) (e :: es) [] pos) (tCall sp dvs E t) := by
  intro pins s σ H Q I h
  refine wpAny_Call_Name_kw (ld_glob I hg hm ?_ hdb)
  refine PySem.W.callWith_K (h₀ := X.base) I.ok.mod.kin hk (thn (ha pos pins s σ H _ I h) fun us s1 ⟨vs, H1, I1, r, q⟩ => ⟨I1.kIn, ?_⟩) he hpl
  exact run_fn F hr hb hd hx I1 r q
end

section
variable {X : Cx} {CX : CXT} {k : Nat} {f C : Addr} {fd : FuncData} {ps ks : List Str} {sp : Sp} {E : XK} {x m : Str} {p pos apos kpos : Pos} {e o : Expr} {es : List Expr} {kws : List Keyword} {te ta : TE} {t tk : TA} {nm : Option Str}
variable {g : List Value → List Value → List Value} {gV : List V → List V → List V}
end

/-- names: the parameters first -/
structure FnScope (N P : List Str) (sc : Scope) : Prop where
  kind : sc.kind = .function
  co : sc.isCoroutine = false
  gen : sc.isGenerator = false
  nd : N.Nodup
  pre : N.take P.length = P
  par : ∀ x ∈ P, sc.names.lookup x = some .local ∨ sc.names.lookup x = some .cell
  nofree : ∀ y ∈ sc.names, y.2 ≠ .free

theorem bindL_out {kindOf : Str → Option NameKind} {x : Str} : ∀ {binds : List (Str × Value)} {m : Str → Option Value}, (∀ v, (x, v) ∉ binds) → bindL kindOf binds m x = m x
  | [], _, _ => rfl
  | (n, v) :: r, m, h => by
    unfold bindL
    rw [bindL_out fun w hw => h w (List.mem_cons_of_mem _ hw)]
    split
    · have : x ≠ n := by rintro rfl; exact h v List.mem_cons_self
      simp [this]
    · rfl
theorem bindC_out {kindOf : Str → Option NameKind} {x : Str} : ∀ {binds : List (Str × Value)} {m : Str → Option Value}, (∀ v, (x, v) ∉ binds) → bindC kindOf binds m x = m x
  | [], _, _ => rfl
  | (n, v) :: r, m, h => by
    unfold bindC
    rw [bindC_out fun w hw => h w (List.mem_cons_of_mem _ hw)]
    split
    · rfl
    · have : x ≠ n := by rintro rfl; exact h v List.mem_cons_self
      simp [this]
theorem bindL_get {kindOf : Str → Option NameKind} {x : Str} {v : Value} : ∀ {P : List Str} {vs : List Value} {i : Nat} {m : Str → Option Value}, P.Nodup → P[i]? = some x → vs[i]? = some v → kindOf x = some .local →
    bindL kindOf (P.zip vs) m x = some v
  | [], _, _, _, _, h, _, _ => by simp at h
  | _ :: _, [], _, _, _, _, h, _ => by simp at h
  | p :: P, w :: vs, 0, m, nd, h1, h2, hk => by
    simp at h1 h2; subst h1; subst h2
    show bindL kindOf ((p, w) :: P.zip vs) m p = _
    unfold bindL
    rw [bindL_out fun v hv => (List.nodup_cons.mp nd).1 (List.of_mem_zip hv).1, if_pos hk]
    simp
  | p :: P, w :: vs, i + 1, m, nd, h1, h2, hk => by
    show bindL kindOf ((p, w) :: P.zip vs) m x = _
    unfold bindL
    exact bindL_get (i := i) (List.nodup_cons.mp nd).2 (by simpa using h1) (by simpa using h2) hk
theorem bindC_get {kindOf : Str → Option NameKind} {x : Str} {v : Value} : ∀ {P : List Str} {vs : List Value} {i : Nat} {m : Str → Option Value}, P.Nodup → P[i]? = some x → vs[i]? = some v → kindOf x ≠ some .local →
    bindC kindOf (P.zip vs) m x = some v
  | [], _, _, _, _, h, _, _ => by simp at h
  | _ :: _, [], _, _, _, _, h, _ => by simp at h
  | p :: P, w :: vs, 0, m, nd, h1, h2, hk => by
    simp at h1 h2; subst h1; subst h2
    show bindC kindOf ((p, w) :: P.zip vs) m p = _
    unfold bindC
    rw [bindC_out fun v hv => (List.nodup_cons.mp nd).1 (List.of_mem_zip hv).1, if_neg hk]
    simp
  | p :: P, w :: vs, i + 1, m, nd, h1, h2, hk => by
    show bindC kindOf ((p, w) :: P.zip vs) m x = _
    unfold bindC
    exact bindC_get (i := i) (List.nodup_cons.mp nd).2 (by simpa using h1) (by simpa using h2) hk

/-- the names' values at the entry -/
def start (N : List Str) (vs : List V) : St := vs.map some ++ List.replicate (N.length - vs.length) none

/-- the context of a def's body, at its entry; an exception leaves the frame, then lies as CX says -/
def cxOf (CX : CXT) (P : Program) (w : World) (K : PySem.W.Frag) (mg : Str → Option Value) (base : Heap) (N : List Str) (qual : Str) (scope : Scope) (f : Addr) (cd : Value) (A : Around) (outer : List Env) (s : Shared) (H : Hp) (E : XK) : Cx where
  prog := P
  w := w
  K := K
  mg := mg
  base := base
  A := A.deeper (envOfC qual scope s.heap.objs.size f cd)
  N := N
  s₀ := s
  H₀ := H
  env := envOfC qual scope s.heap.objs.size f cd
  outer := outer
  stack := envOfC qual scope s.heap.objs.size f cd :: outer
  ex := []
  calm := true
  fn := fun _ => true
  pn := []
  xe := fun e s' => wpAny (model P w) (A.deeper (envOfC qual scope s.heap.objs.size f cd)) (leaving (envOfC qual scope s.heap.objs.size f cd) e) (fun _ s'' => CX outer H s E e s'') (fun e' s'' => CX outer H s E e' s'') s'

theorem cell_has {sc : Scope} {n : Nat} {x : Str} (h : sc.names.lookup x = some .cell) : ∃ c, (cellsFrom n sc.names []).lookup x = some c := by
  have q := PySem.W.cellsFrom_some sc.names n [] (.inl h)
  exact Option.isSome_iff_exists.mp q

theorem inv_start {CX : CXT} {P : Program} {w : World} {K : PySem.W.Frag} {mg : Str → Option Value} {base : Heap} {N ps : List Str} {qual : Str} {scope : Scope} {f : Addr} {cd : Value} {A : Around} {outer : List Env} {s s1 : Shared} {H : Hp} {E : XK} {us : List Value} {vs : List V}
    (S : FnScope N ps scope) (hd : A.handled = none) (e0 : Env0 P w K mg base A outer s H) (hl : vs.length = ps.length) (r : Vals vs us)
    (x : InCallC s s.heap.objs.size (bindL (envOfC qual scope s.heap.objs.size f cd).kindOf (ps.zip us) fun _ => none) (cellsFrom (s.heap.objs.size + 1) scope.names []) (bindC (envOfC qual scope s.heap.objs.size f cd).kindOf (ps.zip us) fun _ => none) s1) :
    Inv (cxOf CX P w K mg base N qual scope f cd A outer s H E) [] (start N vs) H s1 := by
  have hpl : ps.length ≤ N.length := by have := congrArg List.length S.pre; rw [List.length_take] at this; omega
  obtain ⟨h1, tk, rfl, hk⟩ := x.done
  have noA : ∀ b : Addr, b ∉ (cxOf CX P w K mg base N qual scope f cd A outer s H E).ex := fun b z => absurd (show b ∈ ([] : List Addr) from z) (by simp)
  refine ⟨⟨e0.mod, S.kind, rfl, rfl, Nat.le_refl _, fun y z c h1 h2 => ?_, fun y hy => ?_, fun y c _ h => ?_, fun _ => hd, Around.frames_deeper e0.frames, .inr ⟨rfl, rfl⟩, fun b z => absurd z (noA b), e0.bs, e0.bsz, fun b _ _ => noA b, fun b z => absurd z (noA b), e0.funs, e0.frf⟩,
    rfl, e0.bare, Un.kept hk, ⟨_, x.toInCall.ns, fun i y v h1 h2 h3 => ?_⟩, fun y c h => ⟨_, x.cell y c h⟩, e0.hok.fresh (Nat.le_refl _), fun y c h => ?_, fun p hp => absurd (show p ∈ ([] : List (Addr × Obj)) from hp) (by simp), e0.hok.kept hk, ?_⟩
  · exact name_of_addr x.apart (PySem.mem_of_lookup h1) (PySem.mem_of_lookup h2)
  · have hy : scope.names.lookup y = some .cell ∨ scope.names.lookup y = some .free := hy
    rcases hy with hy | hy
    · exact cell_has hy
    · exact absurd rfl (S.nofree _ (PySem.mem_of_lookup hy))
  · exact Nat.le_of_lt (x.above y c (PySem.mem_of_lookup h))
  · have hi : i < vs.length := by
      unfold start at h2
      by_cases hi : i < vs.length
      · exact hi
      · rw [List.getElem?_append_right (by simpa using hi)] at h2
        rw [List.getElem?_replicate] at h2
        split at h2 <;> cases h2
    have ha : vs[i]? = some v := by
      unfold start at h2
      rw [List.getElem?_append_left (by simpa using hi), List.getElem?_map] at h2
      cases e : vs[i]? with
      | none => rw [e] at h2; cases h2
      | some a => rw [e] at h2; cases h2; rfl
    obtain ⟨u, hu, rv⟩ := r.get ha
    have hp : ps[i]? = some y := by
      rw [← S.pre, List.getElem?_take_of_lt (by omega)]; exact h1
    have ndP : ps.Nodup := by rw [← S.pre]; exact S.nd.sublist (List.take_sublist _ _)
    refine ⟨u, rv, ?_⟩
    rcases S.par y (List.mem_of_getElem? hp) with k | k
    · exact .inl ⟨k, bindL_get ndP hp hu k⟩
    · obtain ⟨c, e⟩ := cell_has (n := s.heap.objs.size + 1) k
      refine .inr ⟨.inl k, c, e, ?_⟩
      have q := x.cell y c e
      rw [bindC_get ndP hp hu (by show scope.names.lookup y ≠ _; rw [k]; decide)] at q
      exact q
  · exact e0.hok.fresh (Nat.le_of_lt (x.above y c (PySem.mem_of_lookup h)))
  · unfold start
    show _ = N.length
    rw [List.length_append, List.length_map, List.length_replicate]
    omega

/-- THE RULE: a def (or a method) of the text, by its body. The body's reading t is chosen for each entry; it is run at the parameters' values -/
theorem fn_of {CX : CXT} {P : Program} {w : World} {K : PySem.W.Frag} {mg : Str → Option Value} {base : Heap} {k : Nat} {f : Addr} {name qual : Str} {params : Arguments} {body : List Stmt} {scope : Scope} {dV kV doc pm cdv ct oc : Value} {an od : Option Addr}
    {osl : Array (Option Value)} {N ps : List Str} {sp : Sp} (lk : K.lookup f = some ⟨oc, od, .func (PySem.W.fnOf name qual params body scope dV kV doc pm an cdv ct), osl⟩) (hcd : PySem.W.codeIn K cdv qual = true) (S : FnScope N ps scope)
    (len : ∀ vs H Q E, sp vs H Q E → vs.length = ps.length)
    (hbody : ∀ (A : Around) (outer : List Env) (s : Shared) (H : Hp) (vs : List V) (Q : VK) (E : XK), Room k (A.deeper (envOfC qual scope s.heap.objs.size f cdv)) → sp vs H Q E →
      ∃ t, PSs (cxOf CX P w K mg base N qual scope f cdv A outer s H E) body t ∧ t { nx := fun _ H' => Q .non H', rt := Q } (start N vs) H) :
    FnOk P w K mg base CX (k + 1) f (PySem.W.fnOf name qual params body scope dV kV doc pm an cdv ct) ps sp := by
  refine ⟨len, fun A outer s H args us vs Q E hr e0 hb r hsp => ?_⟩
  have hl := len _ _ _ _ hsp
  have KX : K.In s.heap := e0.mod.kin.keeps fun b o e => (e0.bs b o e).1
  have lim : s.heap.NoLimit := e0.mod.nolimit.keeps fun b o e => (e0.bs b o e).1
  have hkind : ∀ y ∈ ps.zip us, scope.names.lookup y.1 = some .local ∨ (scope.names.lookup y.1 = some .cell ∧ ((cellsFrom (s.heap.objs.size + 1) scope.names []).lookup y.1).isSome = true) := fun ⟨n, v⟩ hy => by
    rcases S.par n (List.of_mem_zip hy).1 with q | q
    · exact .inl q
    · exact .inr ⟨q, PySem.W.cellsFrom_some _ _ _ (.inl q)⟩
  refine codeAny_call_function hr.depth (KX _ _ lk) rfl S.co S.gen rfl (PySem.W.codeRec_of KX hcd) (hb _ _ _ _ ?_)
  refine wpAny_newFunctionEnv_cells S.kind hkind fun env he s1 x => ?_
  subst he
  refine ⟨lim.keeps x.toInCall.keep, codeAny_func ?_⟩
  obtain ⟨t, ht, hq⟩ := hbody A outer s H vs Q E (hr.deeper _) hsp
  have I : Inv (cxOf CX P w K mg base N qual scope f cdv A outer s H E) [] (start N vs) H s1 := inv_start S hr.hd e0 hl r x
  refine wpAny_mono (ht [] s1 (start N vs) H _ I hq) (fun fl s' hs => ?_) fun e s' hs => hs
  have fin : ∀ {σ' : St} {H' : Hp} {v : V} {u : Value}, Inv (cxOf CX P w K mg base N qual scope f cdv A outer s H E) [] σ' H' s' → RelV v u → Q v H' → CE outer P w H s Q u s' :=
    fun {σ' H' v u} J rv q => ⟨v, H', J.os, J.bare, J.base, J.hok, rv, q⟩
  cases fl with
  | ret u =>
    obtain ⟨v, σ', H', J, rv, q⟩ := hs
    exact fin J rv q
  | next =>
    obtain ⟨σ', H', J, q⟩ := hs
    exact fin (v := V.non) (u := Value.none) J rfl q
  | brk =>
    obtain ⟨_, _, _, q⟩ := hs
    exact False.elim q
  | cont =>
    obtain ⟨_, _, _, q⟩ := hs
    exact False.elim q
end L2

namespace L2
open PySem PySem.Spec PyProof.Rows
section
variable {X : Cx} {x : Str} {p pos : Pos} {e : Expr} {es : List Expr} {t : TA} {id T : String} {r : List V → Hp → VK → Prop}

def tCB (r : List V → Hp → VK → Prop) (t : TA) : TE := fun σ H Q => t σ H fun vs H1 => r vs H1 Q
/-- f(e, ..), f a built-in function -/
theorem pe_callB (hc : CallR X (.builtin id) r) (hg : Gl X x) (hm : X.mg x = none) (hv : bootBuiltins x = some (.builtin id)) (ha : PA X (e :: es) t) (hn : x ≠ "__name__" := by decide) (hdb : (x == ("__debug__" : Str)) = false := by decide)
    (he : starEach (e :: es) X.env = (false, eval e X.env) :: starEach es X.env := by rfl) (hpl : (backTo pos (starEach es X.env)).any (·.1) = false := by rfl) : PE X (.Call (.Name x p) (e :: es) [] pos) (tCB r t) := by
  intro pins s σ H Q I h
  refine wpAny_Call_Name_kw (ld_blt I hg hm hv ?_ hn hdb)
  exact PyProof.Rows.callWith_builtin1 (thn (ha pos pins s σ H _ I h) fun us s1 ⟨vs, H1, I1, r1, q1⟩ => hc pins s1 σ H1 vs us Q I1 r1 q1) he hpl
end
end L2

namespace HT
open PySem PyProof.Rows

section
open PySem.SeqAt
open PySem.AutoSeq1 (wpAny_loadPart')
open PySem.MeetsSeq PySem.MeetsSeq2 PySem.MeetsSeq3

end

section
variable {prog : Program} {w : World} {A : Around} {E : Value → Shared → Prop} {s : Shared}

/-- a slice's bound as a place among n (d where it is left out) -/
def sIx (n d : Nat) : Option Int → Nat
  | none => d
  | some v => if v < 0 then (v + (n : Int)).toNat else min v.toNat n
end
end HT

namespace L2
open PySem PySem.Spec PyProof.Rows

abbrev TO := St → Hp → (Option Int → Hp → Prop) → Prop
/-- a slice's part (left out, or an int) -/
def PO (X : Cx) (e : Option Expr) (t : TO) : Prop :=
  ∀ (pins : List (Addr × Obj)) (s : Shared) (σ : St) (H : Hp) (Q : Option Int → Hp → Prop), Inv X pins σ H s → t σ H Q →
    wpAny (model X.prog X.w) X.A (evalPart e X.env) (fun u s' => ∃ o H', Inv X pins σ H' s' ∧ IsPart u o ∧ Q o H') X.xe s
def tNoPart : TO := fun _ H Q => Q none H
def tPart (t : TE) : TO := fun σ H Q => t σ H fun x H1 => ∃ i, x = .int i ∧ Q (some i) H1

section
variable {X : Cx} {e : Expr} {te : TE} {lo hi : Option Expr} {tl th : TO} {pos p2 : Pos}

/-- what a slice of a value is, by values: the slice object stands at sl -/
def SlR (X : Cx) (r : V → Option Int → Option Int → Hp → VK → Prop) : Prop :=
  ∀ (pins : List (Addr × Obj)) (s : Shared) (σ : St) (H : Hp) (x : V) (v vl vu : Value) (lo hi : Option Int) (sl : Addr) (Q : VK), Inv X pins σ H s → RelV x v → s.heap.IsSliceOf sl vl vu .none → IsPart vl lo → IsPart vu hi → r x lo hi H Q →
    ∃ T id, typeLookup (.type T) "__getitem__" = pure (some (.builtin id)) ∧ s.TypeIs v T ∧ wpAny (model X.prog X.w) X.A (getItem v (.ref sl)) (EP X pins σ Q) X.xe s
theorem SlR.or {r r' : V → Option Int → Option Int → Hp → VK → Prop} (h : SlR X r) (h' : SlR X r') : SlR X (fun x lo hi H Q => r x lo hi H Q ∨ r' x lo hi H Q) := by
  intro pins s σ H x v vl vu lo hi sl Q I rx hs pl pu q
  rcases q with q | q
  · exact h pins s σ H x v vl vu lo hi sl Q I rx hs pl pu q
  · exact h' pins s σ H x v vl vu lo hi sl Q I rx hs pl pu q
def tSl (r : V → Option Int → Option Int → Hp → VK → Prop) (te : TE) (tl th : TO) : TE := fun σ H Q => te σ H fun x H1 => tl σ H1 fun l H2 => th σ H2 fun u H3 => r x l u H3 Q
/-- the items of xs[lo:hi] -/
def cutV (xs : List V) (lo hi : Option Int) : List V := (xs.drop (HT.sIx xs.length 0 lo)).take (HT.sIx xs.length xs.length hi - HT.sIx xs.length 0 lo)
end
end L2

namespace L2
open PySem PySem.Spec PyProof.Rows

/-- the place that an index of any sign means -/
def ixN (n : Nat) (i : Int) : Option Nat := if 0 ≤ i then (if i < n then some i.toNat else none) else if -(n : Int) ≤ i then some (i + n).toNat else none
def atI {α : Type} (xs : List α) (i : Int) : Option α := (ixN xs.length i).bind fun j => xs[j]?
theorem ixN_seq {n : Nat} {i : Int} {j : Nat} (h : ixN n i = some j) : seqIndex? i n = some j ∧ j < n ∧ -(n : Int) ≤ i ∧ i < n := by
  unfold ixN at h
  by_cases h0 : 0 ≤ i
  · rw [if_pos h0] at h
    by_cases h1 : i < n
    · rw [if_pos h1] at h
      have e : i.toNat = j := Option.some.inj h
      exact ⟨by rw [seqIndex_of h0 h1, e], by omega, by omega, h1⟩
    · rw [if_neg h1] at h; cases h
  · rw [if_neg h0] at h
    by_cases h1 : -(n : Int) ≤ i
    · rw [if_pos h1] at h
      have e : (i + n).toNat = j := Option.some.inj h
      exact ⟨by rw [seqIndex_neg (by omega) h1, e], by omega, h1, by omega⟩
    · rw [if_neg h1] at h; cases h
theorem atI_get {α : Type} {xs : List α} {i : Int} {v : α} (h : atI xs i = some v) : ∃ j, seqIndex? i xs.length = some j ∧ xs[j]? = some v ∧ j < xs.length ∧ -(xs.length : Int) ≤ i ∧ i < xs.length := by
  unfold atI at h
  cases e : ixN xs.length i with
  | none => rw [e] at h; cases h
  | some j =>
    rw [e] at h
    obtain ⟨h1, h2, h3, h4⟩ := ixN_seq e
    exact ⟨j, h1, h, h2, h3, h4⟩
theorem atI_nat {α : Type} {xs : List α} {j : Nat} {v : α} (h : xs[j]? = some v) : atI xs (j : Int) = some v := by
  have hj : j < xs.length := (List.getElem?_eq_some_iff.mp h).1
  have e : ixN xs.length (j : Int) = some j := by
    unfold ixN
    rw [if_pos (by omega), if_pos (by omega)]; simp
  unfold atI; rw [e]; exact h
/-- what stands as an index of a plain subscript -/
def PlainIx (b : Expr) : Prop := ∀ o i, subscripted b false o i = operate [o, i] (getItem o i)
/-- a subscript by values -/
def IxR (X : Cx) (r : R2) : Prop :=
  ∀ (value slice : Expr) (pins : List (Addr × Obj)) (s : Shared) (σ : St) (H : Hp) (x y : V) (v u : Value) (Q : VK), Inv X pins σ H s → RelV x v → RelV y u → r x y H Q →
    subscripted slice false v u = operate [v, u] (getItem v u) → wpAny (model X.prog X.w) X.A (subscriptTail value slice v u) (EP X pins σ Q) X.xe s
/-- a call of a builtin's method by values: the receiver, the arguments -/
def MtR (X : Cx) (id : String) (r : V → List V → Hp → VK → Prop) : Prop :=
  ∀ (pins : List (Addr × Obj)) (s : Shared) (σ : St) (H : Hp) (x : V) (xs : List V) (v : Value) (us : List Value) (Q : VK), Inv X pins σ H s → RelV x v → Vals xs us → r x xs H Q →
    wpAny (model X.prog X.w) X.A (call (.builtin id) (v :: us)) (EP X pins σ Q) X.xe s
section
variable {X : Cx} {a b : Expr} {ta tb : TE} {pos : Pos}
theorem IxR.or {r r' : R2} (h : IxR X r) (h' : IxR X r') : IxR X (fun x y H Q => r x y H Q ∨ r' x y H Q) := by
  intro value slice pins s σ H x y v u Q I rx ry q hs
  rcases q with q | q
  · exact h value slice pins s σ H x y v u Q I rx ry q hs
  · exact h' value slice pins s σ H x y v u Q I rx ry q hs
theorem MtR.or {id : String} {r r' : V → List V → Hp → VK → Prop} (h : MtR X id r) (h' : MtR X id r') : MtR X id (fun x xs H Q => r x xs H Q ∨ r' x xs H Q) := by
  intro pins s σ H x xs v us Q I rx rs q
  rcases q with q | q
  · exact h pins s σ H x xs v us Q I rx rs q
  · exact h' pins s σ H x xs v us Q I rx rs q
/-- a[b] -/
theorem pe_ix {r : R2} (hr : IxR X r) (ha : PE X a ta) (hb : PE X b tb) (hs : PlainIx b) : PE X (.Subscript a b pos) (tOp r ta tb) := by
  intro pins s σ H Q I h
  exact Subscript_ (binT ha hb I h fun v u s2 x y H2 I2 rx ry q => hr a b pins s2 σ H2 x y v u Q I2 rx ry q (hs _ _))

def rIxL (K : PySem.W.Frag) : R2 := fun x y H Q => ∃ p xs i v, x = .ref p ∧ y = .int i ∧ SqL K H p xs ∧ atI xs i = some v ∧ Q v H
def rIxT (K : PySem.W.Frag) : R2 := fun x y H Q => ∃ p xs i v, x = .ref p ∧ y = .int i ∧ SqT K H p xs ∧ atI xs i = some v ∧ Q v H
def rIxS : R2 := fun x y H Q => ∃ z i c, x = .str z ∧ y = .int i ∧ z.length ≤ sizeLine ∧ atI z.cps.toList i = some c ∧ Q (.str ⟨#[c]⟩) H
theorem ix_list : IxR X (rIxL X.K) := by
  intro value slice pins s σ H x y v u Q I rx ry h hs
  obtain ⟨p, xs, i, z, rfl, rfl, hq, he, q⟩ := h
  cases rx
  obtain ⟨t, rfl⟩ := ry
  obtain ⟨its, r, pl, hz⟩ := I.list hq
  obtain ⟨j, h1, h2, h3, h4, h5⟩ := atI_get he
  obtain ⟨w, ew, rw'⟩ := r.get h2
  have hl := r.length
  have hn := line63
  have fin : EP X pins σ Q w s := ⟨z, H, I, rw', q⟩
  by_cases h0 : 0 ≤ i
  · have hj : i.toNat = j := by
      rw [seqIndex_of h0 h5] at h1
      exact Option.some.inj h1
    exact item_listR pl.isList h0 (by omega) (by rw [hj]; simpa using ew) fin hs
  · have hj : (i + (its.toArray.size : Int)).toNat = j := by
      rw [seqIndex_neg (by omega) h4] at h1
      rw [List.size_toArray, ← hl]
      exact Option.some.inj h1
    exact subscriptTail_builtinR (x := w) pl.isList.typeIs slot_list_getitem.lookup
      (wpAny_getItem_list_neg (Q := fun r s' => r = w ∧ EP X pins σ Q r s') pl.isList (by omega) (by rw [List.size_toArray] <;> omega) (by omega) (by rw [hj]; simpa using ew) ⟨rfl, fin⟩) hs
theorem ix_str : IxR X rIxS := by
  intro value slice pins s σ H x y v u Q I rx ry h hs
  obtain ⟨z, i, c, rfl, rfl, hz, he, q⟩ := h
  obtain ⟨t, rfl⟩ := rx
  obtain ⟨t', rfl⟩ := ry
  obtain ⟨j, h1, h2, h3, h4, h5⟩ := atI_get he
  have hl : z.cps.toList.length = z.length := by simp [Str.length]
  rw [hl] at h1 h4 h5
  have hn := line63
  exact tail_any (typeIs_str s z t) slot_str_getitem.lookup (getItem_str (c := c) (by
    have e1 : decide (i < -(2 ^ 63 : Int)) = false := decide_eq_false (by omega)
    have e2 : decide (i ≥ 2 ^ 63) = false := decide_eq_false (by omega)
    rw [e1, e2, Bool.or_false]) (by rw [h1]; simpa using h2) ⟨.str ⟨#[c]⟩, H, I.tok _, ⟨_, rfl⟩, q⟩) hs
theorem Inv.lst {pins : List (Addr × Obj)} {σ : St} {H : Hp} {s : Shared} {p : Addr} {xs : List V} (I : Inv X pins σ H s) (h : H p = some (.lst xs)) :
    ∃ (its : List Value) (n : Nat), Vals xs its ∧ s.heap.get? p = some { cls := .type "list", data := .seq its.toArray n } ∧ xs.length ≤ sizeLine := by
  obtain ⟨z, its, n, r, e⟩ := I.hok p _ h
  exact ⟨its, n, r, e, z⟩
/-- xs[lo:hi] of a list: a new list -/
def rSlL (K : PySem.W.Frag) : V → Option Int → Option Int → Hp → VK → Prop := fun x lo hi H Q => ∃ a xs, x = .ref a ∧ SqL K H a xs ∧ ∀ p, H p = none → Q (.ref p) (upd H p (.lst (cutV xs lo hi)))
def flatV : V → Bool
  | .non => true
  | .bl _ => true
  | .int _ => true
  | .str _ => true
  | _ => false
/-- == of flat values -/
def eqV : V → V → Bool
  | .non, .non => true
  | .bl a, .bl b => a == b
  | .bl a, .int b => (if a then 1 else 0) == b
  | .int a, .bl b => a == (if b then 1 else 0)
  | .int a, .int b => a == b
  | .str a, .str b => a == b
  | _, _ => false
theorem eqAt_V {A : Around} {s : Shared} {y x : V} {u v : Value} (ry : RelV y u) (rx : RelV x v) (fy : flatV y = true) (fx : flatV x = true) : SeqAt.EqAt A s u v (eqV y x) := by
  cases y with
  | non =>
    cases ry
    cases x with
    | non => cases rx; exact SeqAt.EqAt.same _
    | bl b => cases rx; exact SeqAt.EqAt.none_bool b
    | int b => obtain ⟨t, rfl⟩ := rx; exact SeqAt.EqAt.none_int b t
    | str b => obtain ⟨t, rfl⟩ := rx; exact SeqAt.EqAt.none_str b t
    | _ => exact absurd (show false = true from fx) Bool.false_ne_true
  | bl a =>
    cases ry
    cases x with
    | non => cases rx; exact SeqAt.EqAt.bool_none a
    | bl b => cases rx; exact SeqAt.EqAt.bool_bool a b
    | int b => obtain ⟨t, rfl⟩ := rx; exact SeqAt.EqAt.bool_int a b t
    | str b => obtain ⟨t, rfl⟩ := rx; exact SeqAt.EqAt.bool_str a b t
    | _ => exact absurd (show false = true from fx) Bool.false_ne_true
  | int a =>
    obtain ⟨t', rfl⟩ := ry
    cases x with
    | non => cases rx; exact SeqAt.EqAt.int_none a t'
    | bl b => cases rx; exact SeqAt.EqAt.int_bool a t' b
    | int b => obtain ⟨t, rfl⟩ := rx; exact SeqAt.EqAt.int_int a t' b t
    | str b => obtain ⟨t, rfl⟩ := rx; exact SeqAt.EqAt.int_str a t' b t
    | _ => exact absurd (show false = true from fx) Bool.false_ne_true
  | str a =>
    obtain ⟨t', rfl⟩ := ry
    cases x with
    | non => cases rx; exact SeqAt.EqAt.str_none a t'
    | bl b => cases rx; exact SeqAt.EqAt.str_bool a t' b
    | int b => obtain ⟨t, rfl⟩ := rx; exact SeqAt.EqAt.str_int a t' b t
    | str b => obtain ⟨t, rfl⟩ := rx; exact SeqAt.EqAt.str_str a t' b t
    | _ => exact absurd (show false = true from fx) Bool.false_ne_true
  | _ => exact absurd (show false = true from fy) Bool.false_ne_true
def inV (x : V) (xs : List V) : Bool := xs.any fun y => eqV y x
/-- x in a list or tuple of flat items -/
def rIn (K : PySem.W.Frag) (neg : Bool) : R2 := fun x y H Q => ∃ p xs, y = .ref p ∧ (SqL K H p xs ∨ SqT K H p xs) ∧ flatV x = true ∧ xs.all flatV = true ∧ Q (.bl (if neg then !inV x xs else inV x xs)) H
theorem call_len_seq : CallR X (.builtin "len") (fun xs H Q => ∃ p ys, xs = [.ref p] ∧ (SqL X.K H p ys ∨ SqT X.K H p ys) ∧ Q (.int ys.length) H) := by
  intro pins s σ H xs us Q I r h
  obtain ⟨p, ys, rfl, hq, q⟩ := h
  obtain ⟨u, rfl, rx⟩ := vals1 r
  cases rx
  have hn := line63
  rcases hq with hq | hq
  · obtain ⟨its, r', pl, hz⟩ := I.list hq
    have hlen := r'.length
    exact Calls.call_len_list pl.isList (by simp only [List.size_toArray] <;> omega) ⟨.int ys.length, H, I.tok _, ⟨s.toks + 1, by rw [List.size_toArray, hlen]⟩, q⟩
  · obtain ⟨its, r', pl, hz⟩ := I.tuple hq
    have hlen := r'.length
    exact len_tuple pl (by simp only [List.size_toArray] <;> omega) ⟨.int ys.length, H, I.tok _, ⟨s.toks + 1, by rw [List.size_toArray, hlen]⟩, q⟩
theorem CallR.or {f : Value} {r r' : List V → Hp → VK → Prop} (h : CallR X f r) (h' : CallR X f r') : CallR X f (fun xs H Q => r xs H Q ∨ r' xs H Q) := by
  intro pins s σ H xs us Q I rs q
  rcases q with q | q
  · exact h pins s σ H xs us Q I rs q
  · exact h' pins s σ H xs us Q I rs q
/-- the value is of that builtin type -/
def tyV (K : PySem.W.Frag) (T : String) (x : V) (H : Hp) : Prop := match x with
  | .str _ => T = "str"
  | .int _ => T = "int"
  | .ref p => (T = "list" ∧ ∃ xs, SqL K H p xs) ∨ (T = "tuple" ∧ ∃ o, K.lookup p = some o ∧ o.cls = .type "tuple" ∧ o.dict = none) ∨
      (T = "dict" ∧ ((∃ kvs, H p = some (.dK kvs)) ∨ ∃ kvs, H p = some (.dT kvs))) ∨ (T = "set" ∧ ∃ S n, H p = some (.set S n))
  | _ => False
theorem tyV_is {pins : List (Addr × Obj)} {σ : St} {H : Hp} {s : Shared} {T : String} {x : V} {v : Value} (I : Inv X pins σ H s) (r : RelV x v) (ty : tyV X.K T x H) :
    s.TypeIs v T ∧ ∀ a, v = .ref a → ∃ ob, s.heap.get? a = some ob ∧ ob.dict = none := by
  cases x with
  | str z =>
    obtain ⟨t, rfl⟩ := r
    cases (show T = "str" from ty)
    exact ⟨typeIs_str s z t, fun _ e => nomatch e⟩
  | int i =>
    obtain ⟨t, rfl⟩ := r
    cases (show T = "int" from ty)
    exact ⟨typeIs_int s i t, fun _ e => nomatch e⟩
  | ref p =>
    cases r
    rcases ty with ⟨rfl, xs, hq⟩ | ⟨rfl, o, hk, hc, hd⟩ | ⟨rfl, hk⟩ | ⟨rfl, S, n, hk⟩
    · obtain ⟨its, _, pl, _⟩ := I.list hq
      refine ⟨pl.isList.typeIs, fun a e => ?_⟩
      cases e
      obtain ⟨o, n, e, c, hd, _⟩ := pl
      exact ⟨o, e, hd⟩
    · refine ⟨⟨o, I.kIn p o hk, hc⟩, fun a e => ?_⟩
      cases e
      exact ⟨o, I.kIn _ o hk, hd⟩
    · have z : ∃ o, s.heap.get? p = some o ∧ o.ExactDict := by
        rcases hk with ⟨kvs, hk⟩ | ⟨kvs, hk⟩
        · obtain ⟨_, _, _, _, o, _, _, e, ex, _⟩ := I.hok p _ hk
          exact ⟨o, e, ex⟩
        · obtain ⟨_, _, _, _, o, _, _, e, ex, _⟩ := I.hok p _ hk
          exact ⟨o, e, ex⟩
      obtain ⟨o, e, ex⟩ := z
      refine ⟨⟨o, e, ex.1⟩, fun a e2 => ?_⟩
      cases e2
      exact ⟨o, e, ex.2.1⟩
    · obtain ⟨o, _, _, _, e, ex, _⟩ := I.hok p _ hk
      refine ⟨⟨o, e, ex.1⟩, fun a e2 => ?_⟩
      cases e2
      exact ⟨o, e, ex.2.1⟩
  | _ => exact False.elim ty
def tBM0 (K : PySem.W.Frag) (T : String) (r : V → List V → Hp → VK → Prop) (to : TE) : TE := fun σ H Q => to σ H fun x H1 => tyV K T x H1 ∧ r x [] H1 Q
def tBM (K : PySem.W.Frag) (T : String) (r : V → List V → Hp → VK → Prop) (to : TE) (t : TA) : TE := fun σ H Q => to σ H fun x H1 => tyV K T x H1 ∧ t σ H1 fun xs H2 => r x xs H2 Q
variable {o e : Expr} {es : List Expr} {to : TE} {t : TA} {name : Str} {apos cpos : Pos} {T id : String} {r : V → List V → Hp → VK → Prop}
theorem pe_bm (pa : PlainAttrs T) (slot : Slot T name id) (hty : typeOf (.builtin id) = pure (.type "method_descriptor")) (hm : MtR X id r) (ho : PE X o to) (ha : PA X (e :: es) t)
    (hbase : attributeBase o name X.env (eval o X.env) = eval o X.env := by rfl)
    (hfew : ((backTo cpos (starEach (e :: es) X.env)).all (fun x => !x.1) && (backToKw cpos (keywordEach [] X.env)).all (fun x => x.1.isSome)
      && decide ((e :: es).length + ([] : List Keyword).length + (if ([] : List Keyword).isEmpty then 0 else 1) < 30)) = true := by rfl)
    (hline : (apos.endLine == cpos.line) = true := by rfl) (hs : starEach (e :: es) X.env = (false, eval e X.env) :: starEach es X.env := by rfl) (hplain : (backTo cpos (starEach es X.env)).any (·.1) = false := by rfl) :
    PE X (.Call (.Attribute o name apos) (e :: es) [] cpos) (tBM X.K T r to t) := by
  intro pins s σ H Q I h
  refine wpAny_Call_method_late hbase hfew hline rfl (thn (ho pins s σ H _ I h) fun v s1 ⟨x, H1, I1, r1, ty, q1⟩ => ?_)
  obtain ⟨h1, h2⟩ := tyV_is I1 r1 ty
  refine ⟨T, id, pa, slot, hty, h1, h2, ?_⟩
  have hA := ha cpos pins s1 σ H1 _ I1 q1
  rw [hs] at hA ⊢
  refine Calls.callWith_builtin (by show (false || (backTo cpos (starEach es X.env)).any (·.1)) = false; rw [hplain] <;> rfl) (Calls.evalArgs_plain ?_)
  exact thn hA fun us s2 ⟨vs, H2, I2, r2, q2⟩ => hm pins s2 σ H2 x vs v us Q I2 r1 r2 q2
end
end L2

namespace L2
open PySem PySem.Spec PyProof.Rows

def MtM (X : Cx) (id : String) (r : V → List V → Hp → VK → Prop) : Prop :=
  ∀ (pins : List (Addr × Obj)) (s : Shared) (σ : St) (H : Hp) (x : V) (xs : List V) (v : Value) (us : List Value) (Q : VK), Inv X pins σ H s → RelV x v → Vals xs us → r x xs H Q →
    wpAny (model X.prog X.w) X.A (call (.builtin id) (v :: us)) (EP X pins σ Q) X.xe s

theorem Vals.one : ∀ {x : V} {us : List Value}, Vals [x] us → ∃ u, us = [u] ∧ RelV x u
  | _, _, .cons r .nil => ⟨_, rfl, r⟩
theorem Vals.zero : ∀ {us : List Value}, Vals [] us → us = []
  | _, .nil => rfl
section
variable {X : Cx} {pins : List (Addr × Obj)} {σ : St} {H : Hp} {s : Shared} {l b : Addr} {xs ys zs : List V}

theorem Inv.lset {its its' : List Value} {n : Nat} {f : Array Value → Array Value} {t' : Nat} (I : Inv X pins σ H s) (hH : H l = some (.lst xs))
    (e : s.heap.get? l = some { cls := .type "list", data := .seq its.toArray n }) (hf : f its.toArray = its'.toArray) (hv : Vals ys its') (hz : ys.length ≤ sizeLine) :
    Inv X pins σ (upd H l (.lst ys)) { s with heap := s.heap.update l (Obj.mapSeq f), toks := t' } := by
  have q := PySem.IsL.update e f
  rw [hf] at q
  refine I.write (x := l) (e := l) (by rw [hH]; exact trivial) (.inl rfl) (fun b' u hb hu => (Heap.get?_update_other s.heap (Obj.mapSeq f) (Ne.symm hb)).trans hu) ⟨_, q⟩ ?_
  exact ⟨hz, its', _, hv, q⟩
theorem Inv.lnew {its : List Value} {t' : Nat} (I : Inv X pins σ H s) (hv : Vals ys its) (hz : ys.length ≤ sizeLine) :
    Inv X pins σ (upd H s.heap.objs.size (.lst ys)) { s with heap := s.heap.push { cls := .type "list", data := .seq its.toArray }, toks := t' } :=
  I.laid (fun _ _ q => Heap.get?_push_of_some _ q) (Nat.le_refl _) ⟨hz, its, 0, hv, Heap.get?_push_size _ rfl⟩
theorem Inv.fresh (I : Inv X pins σ H s) : H s.heap.objs.size = none := I.hok.fresh (Nat.le_refl _)
theorem Inv.lstM (I : Inv X pins σ H s) (hH : H l = some (.lst xs)) : xs.length ≤ sizeLine ∧ ∃ (its : List Value) (n : Nat), Vals xs its ∧ xs.length = its.length ∧ s.heap.get? l = some { cls := .type "list", data := .seq its.toArray n } := by
  obtain ⟨z, its, n, r, e⟩ := I.hok l _ hH
  exact ⟨z, its, n, r, r.length, e⟩

end

section
variable {X : Cx}

def rAppend : V → List V → Hp → VK → Prop := fun x vs H Q => ∃ l xs y, x = .ref l ∧ vs = [y] ∧ H l = some (.lst xs) ∧ xs.length < sizeLine ∧ Q .non (upd H l (.lst (xs ++ [y])))
theorem mt_append : MtM X "list.append" rAppend := by
  intro pins s σ H x vs v us Q I rx rv h
  obtain ⟨l, xs, y, rfl, rfl, hH, hz, q⟩ := h
  cases rx
  obtain ⟨u, rfl, ru⟩ := rv.one
  obtain ⟨z, its, n, r, hl, e⟩ := I.lstM hH
  refine call_meets F.slot_list_append ⟨_, e, rfl⟩ F.entry_list_append (F.args_list_append_2 _ _) (PySem.list_append l its.toArray n u (by rw [List.size_toArray]; omega)) ⟨e, ?_⟩
  refine ⟨.non, _, I.lset (its' := its ++ [u]) hH e (by simp) (r.append (.cons ru .nil)) ?_, rfl, q⟩
  rw [List.length_append, List.length_singleton]
  omega

def rCat : R2 := fun x y H Q => ∃ l b xs zs, x = .ref l ∧ y = .ref b ∧ H l = some (.lst xs) ∧ H b = some (.lst zs) ∧ xs.length + zs.length ≤ sizeLine ∧ ∀ p, H p = none → Q (.ref p) (upd H p (.lst (xs ++ zs)))
theorem op_cat : OpR X (binaryOp .Add) rCat := by
  intro pins s σ H x y v u Q I rx ry h
  obtain ⟨l, b, xs, zs, rfl, rfl, hH, hB, hz, q⟩ := h
  cases rx
  cases ry
  obtain ⟨z, its, n, r, hl, e⟩ := I.lstM hH
  obtain ⟨z2, its2, n2, r2, hl2, e2⟩ := I.lstM hB
  refine PySem.P.add_list e e2 ?_ (by rw [List.size_toArray, List.size_toArray]; omega)
  have ea : its.toArray ++ its2.toArray = (its ++ its2).toArray := by simp
  rw [ea]
  exact ⟨.ref _, _, I.lnew (t' := s.toks) (r.append r2) (by rw [List.length_append]; omega), rfl, q _ I.fresh⟩
end

section
variable {prog : Program} {w : World} {A : Around} {E : Value → Shared → Prop} {s : Shared}
end

section
variable {X : Cx}
end
end L2

namespace Att
open PySem PySem.W PySem.Calls PyProof.Rows

theorem ints_of_wellAll {P : Params} {h : Heap} : ∀ (ns : List Int) (vs : List Value), WellAll P h vs (ns.map WData.int) → IntsAre vs ns := by
  intro ns
  induction ns with
  | nil =>
    intro vs w
    rw [List.map_nil] at w
    cases w
    exact .nil
  | cons n ns ih =>
    intro vs w
    rw [List.map_cons] at w
    cases w with
    | cons a b =>
      cases a
      exact .cons _ _ (ih _ b)

theorem script_of {l : OpenLaw} {n : Nat} (hn : l.most = some n) {P : Params} {h : Heap} {args : List WData} {vals : List Value}
    (hpre : l.row.toRowW.claim.pre args = true) (hwl : WellAll P h vals args) :
    ∃ a vs ns, vals = [Value.ref a] ∧ args = [WData.list (ns.map WData.int)] ∧ h.get? a = some { cls := .type "list", data := .seq vs.toArray } ∧ IntsAre vs ns ∧ ns.length ≤ n := by
  have hsh : WShape.hasAll [] args [.list .int] = true := (pre_splitW hpre).1
  have hc : l.pre.holds [] { args := args } = true := (pre_splitW hpre).2
  obtain ⟨d, r, rfl, h1, h2⟩ := hasAllW_cons hsh
  obtain rfl := hasAllW_nil h2
  obtain ⟨xs, rfl, h3⟩ := hasW_list h1
  obtain ⟨ns, rfl⟩ := items_int h3
  have hlen : ns.length ≤ n := by
    unfold OpenLaw.pre at hc
    have h4 : (WTm.not (.lt (.lit (.int (n : Int))) (.len (.arg 0)))).holds [] { args := [.list (ns.map .int)] } = true := by
      have h4 := (holds_andW hc).1
      rw [hn] at h4
      exact h4
    have h5 := condW_of h4 (w_not (w_lt w_lit (w_len_list (w_arg rfl))))
    rw [List.length_map] at h5
    refine Nat.le_of_not_lt fun q => ?_
    have q' : (n : Int) < ((ns.length : Nat) : Int) := by omega
    first
      | (rw [decide_eq_true q'] at h5; exact absurd h5 (by decide))
      | (simp at h5; omega)
  cases hwl with
  | cons w1 w2 =>
    cases w2
    cases w1 with
    | list ho hall => exact ⟨_, _, ns, rfl, rfl, ho, ints_of_wellAll ns _ hall, hlen⟩

theorem post_true (l : OpenLaw) (args : List WData) : l.row.toRowW.claim.post args (.bool true) args = true :=
  postW_of (r := l.row.toRowW) (X := (true == true))
    (show WShape.has [] (.bool true) .bool = true by first | rfl | decide | simp [WShape.has, WShape.arms, WShape.armsAll])
    (show (WTm.eq .res (.lit (.bool true))).value [] { args := args, res := some (.bool true), after := args } = some (.bool (true == true)) from w_eq_bool (w_res rfl) w_lit) rfl

section
variable {prog : Program} {w : World} {A : Around} {E : Value → Shared → Prop} {s : Shared} {K : Frag}

end
end Att

namespace L2
open PySem PySem.Spec PyProof.Rows

theorem vals_ints : ∀ {vs : List Value} {ns : List Int}, IntsAre vs ns → Vals (ns.map V.int) vs
  | _, _, .nil => .nil
  | _, _, .cons n t h => .cons ⟨t, rfl⟩ (vals_ints h)

/-- nothing is tracked but the script, known to the object (or it is an object of the module) -/
def Only (H : Hp) : Prop := ∀ b, H b = none ∨ ∃ o xs, H b = some (.frz o (.lst xs))

/-- THE HEAD: the law's promise, at the heap behind the top. F, the promise of the law's def, may use that base is part of the heap (so K.In base, base.Ns mainGlobals mg stand in Mod) -/
theorem law_call {P : Program} {w : World} {K : PySem.W.Frag} {mg mb : Str → Option Value} {CX : CXT} {k : Nat} {fa a : Addr} {fd : FuncData} {x : Str} {sp : Sp} {s₁ : Shared} {vs : List Value} {ns : List Int}
    (KX : K.In s₁.heap) (hns : s₁.heap.Ns mainGlobals mg) (hb : s₁.heap.Ns builtinsNs mb) (hbb : ∀ x : Str, x ≠ "__name__" → mb x = bootBuiltins x) (hlim : s₁.heap.NoLimit) (hg : s₁.gens = #[])
    (ha : s₁.heap.get? a = some { cls := .type "list", data := .seq vs.toArray }) (hi : IntsAre vs ns) (hl : ns.length ≤ sizeLine) (hr : Room k callerA)
    (F : ∀ base : Heap, K.In base → base.Ns mainGlobals mg → FnOk P w K mg base CX k fa fd [x] sp) (hbind : ∀ (s : Shared) (u : Value), BindsTo s fd ⟨[u], []⟩ [(x, u)])
    (hsp : ∀ H : Hp, Only H → SqL K H a (ns.map V.int) → sp [.ref a] H (fun v _ => v = .bl true) fun _ _ _ => False)
    (hCX : ∀ H e s', CX [] H s₁ (fun _ _ _ => False) e s' → False) :
    codeAny (model P w) callerA (.call (.ref fa) ⟨[.ref a], []⟩) (fun r s' => r = .ok (.ret (.bool true)) ∧ OldK s₁.heap s'.heap ∧ s'.os = s₁.os ∧ AllBare s'.gens) s₁ := by
  have rv := vals_ints hi
  have lenV := hi.length
  -- from an abstract heap in which nothing but the script may be tracked
  have core : ∀ H : Hp, Only H → SqL K H a (ns.map V.int) → HOk P w H s₁.heap → (∀ b, H b ≠ none → b = a) → (H a ≠ none → K.lookup a = none) →
      codeAny (model P w) callerA (.call (.ref fa) ⟨[.ref a], []⟩) (fun r s' => r = .ok (.ret (.bool true)) ∧ OldK s₁.heap s'.heap ∧ s'.os = s₁.os ∧ AllBare s'.gens) s₁ := by
    intro H hO hS hok hA hK
    have base_of : ∀ {b : Addr} {o : Obj}, s₁.heap.get? b = some o → H b = none → (hidT s₁.heap H).get? b = some o := fun e n => hidT_get e n
    have noA : ∀ {b : Addr} {o : Obj} {es : Array DictEntry} {ep : Nat}, s₁.heap.get? b = some o → o.data = .dict es ep → H b = none := fun {b o es ep} e d => by
      cases q : H b with
      | none => rfl
      | some u =>
        have e' : b = a := hA b (by rw [q]; simp)
        subst e'
        rw [ha] at e; cases e
        have d' : Data.seq vs.toArray _ = Data.dict es ep := d
        cases d'
    have nsK : ∀ {b : Addr} {m : Str → Option Value}, s₁.heap.Ns b m → (hidT s₁.heap H).Ns b m := fun {b m} ⟨o, es, ep, e, d, r⟩ => ⟨o, es, ep, base_of e (noA e d), d, r⟩
    have hKb : K.In (hidT s₁.heap H) := fun b o e => base_of (KX b o e) (by
      cases q : H b with
      | none => rfl
      | some u =>
        have e' : b = a := hA b (by rw [q]; simp)
        subst e'
        rw [hK (by rw [q]; simp)] at e; cases e)
    have hM : Mod K mg (hidT s₁.heap H) := ⟨hKb, nsK hns, ⟨mb, nsK hb, hbb⟩, let ⟨mc, h1, h2⟩ := hlim; ⟨mc, nsK h1, h2⟩⟩
    have e0 : Env0 P w K mg (hidT s₁.heap H) callerA [] s₁ H := ⟨rfl, hM, fun b o e => of_hidT e, Nat.le_of_eq (hidT_size _ _), trivial, fun b hb => absurd (show b ∈ ([] : List Addr) from hb) (by simp), hok, .of_eq hg⟩
    refine codeAny_mono ((F _ hKb (nsK hns)).run callerA [] s₁ H ⟨[.ref a], []⟩ [.ref a] [.ref a] _ _ hr e0 (hbind s₁ (.ref a)) (.cons rfl .nil) (hsp H hO hS)) fun r s' h => ?_
    cases r with
    | error e => exact (hCX H e s' h).elim
    | ok fl =>
      cases fl with
      | next => exact False.elim h
      | brk => exact False.elim h
      | cont => exact False.elim h
      | ret u =>
        obtain ⟨v, H', os, bare, un, hok', r', q⟩ := h
        have q' : v = .bl true := q
        subst q'
        obtain rfl : u = Value.bool true := r'
        refine ⟨rfl, OldK.of_keep fun b o e => ?_, os, bare⟩
        cases q : H b with
        | none => exact un.keep b o e q (by intro z; exact absurd (show b ∈ ([] : List Addr) from z) (by simp)) (by simp)
        | some u =>
          rcases hO b with z | ⟨ob, xs, z⟩
          · rw [q] at z; cases z
          · have z2 := un.frzs b ob _ z
            obtain ⟨e1, _⟩ := hok b _ z
            obtain ⟨e2, _⟩ := hok' b _ z2
            rw [e] at e1; cases e1
            exact e2
  cases hk : K.lookup a with
  | some o =>
    -- the script is one of the module's own objects
    have e := KX a o hk
    rw [ha] at e
    cases e
    refine core (fun _ => none) (fun _ => .inl rfl) (.inr ⟨_, vs.toArray, _, hk, rfl, rfl, rfl, by rw [List.size_toArray, lenV]; exact hl, by simpa using rv⟩) (fun b u z => by have z' : (none : Option HO) = some u := z; cases z') (fun b z => absurd rfl z) fun z => absurd rfl z
  | none =>
    refine core (fun b => if b = a then some (.frz { cls := .type "list", data := .seq vs.toArray } (.lst (ns.map V.int))) else none) (fun b => ?_) (.inl (.inr ⟨{ cls := .type "list", data := .seq vs.toArray }, if_pos rfl⟩)) (fun b u z => ?_) (fun b z => ?_) fun _ => hk
    · by_cases hb : b = a
      · exact .inr ⟨_, _, if_pos hb⟩
      · exact .inl (if_neg hb)
    · by_cases hb : b = a
      · have z' := (if_pos hb).symm.trans z
        cases z'
        subst hb
        exact ⟨ha, by rw [List.length_map]; exact hl, vs, _, rv, ha⟩
      · have z' := (if_neg hb).symm.trans z
        cases z'
    · by_cases hb : b = a
      · exact hb
      · exact absurd (if_neg hb) z
end L2

namespace L2
open PySem PySem.Spec PyProof.Rows

end L2

namespace L2
open PySem PySem.Spec PyProof.Rows

def defArgs (s : Stmt) : Arguments := match s with
  | .FunctionDef _ a _ _ _ _ _ _ _ _ => a
  | _ => { posonlyargs := [], args := [], vararg := none, kwonlyargs := [], kw_defaults := [], kwarg := none, defaults := [] }
def defBody (s : Stmt) : List Stmt := match s with
  | .FunctionDef _ _ b _ _ _ _ _ _ _ => b
  | _ => []
def defScope (s : Stmt) : Scope := match s with
  | .FunctionDef _ _ _ _ _ _ sc _ _ _ => sc
  | _ => { kind := .function, names := [], isGenerator := false, isCoroutine := false }

abbrev CX0 : CXT := fun _ _ _ _ _ _ => False
abbrev E0 : XK := fun _ _ _ => False
theorem pass0 {X : Cx} : Passes CX0 X E0 := fun _ _ _ _ _ _ _ h => h.elim

structure Fun (K : PySem.W.Frag) (x qual : Str) (st : Stmt) (f : Addr) (fd : FuncData) : Prop where
  ex : ∃ (oc : Value) (od : Option Addr) (kV doc pm : Value) (an : Option Addr) (cdv ct : Value) (osl : Array (Option Value)),
    fd = PySem.W.fnOf x qual (defArgs st) (defBody st) (defScope st) .none kV doc pm an cdv ct ∧ K.lookup f = some ⟨oc, od, .func fd, osl⟩ ∧ PySem.W.codeIn K cdv qual = true
  kp : PySem.W.keepIn K (.ref f) = true
section
variable {P : Program} {w : World} {K : PySem.W.Frag} {mg : Str → Option Value} {base : Heap}
/-- THE RULE for a def: its body as a term of rules, and the reading of that term -/
theorem Fun.ok {x qual : Str} {st : Stmt} {f : Addr} {fd : FuncData} {N ps : List Str} {k : Nat} {sp : Sp} (F : Fun K x qual st f fd) (S : FnScope N ps (defScope st)) (len : ∀ vs H Q E, sp vs H Q E → vs.length = ps.length)
    (hbody : ∀ (cdv : Value) (A : Around) (outer : List Env) (s : Shared) (H : Hp) (vs : List V) (Q : VK) (E : XK), Room k (A.deeper (envOfC qual (defScope st) s.heap.objs.size f cdv)) → sp vs H Q E →
      ∃ t, PSs (cxOf CX0 P w K mg base N qual (defScope st) f cdv A outer s H E).nox (defBody st) t ∧ t { nx := fun _ H' => Q .non H', rt := Q } (start N vs) H) : FnOk P w K mg base CX0 (k + 1) f fd ps sp := by
  obtain ⟨oc, od, kV, doc, pm, an, cdv, ct, osl, rfl, lk, hcd⟩ := F.ex
  refine fn_of lk hcd S len fun A outer s H vs Q E hr hsp => ?_
  obtain ⟨t, h, q⟩ := hbody cdv A outer s H vs Q E hr hsp
  exact ⟨t, h.nox, q⟩
/-- how its arguments bind (no defaults): h is «fun _ _ _ _ _ _ us hl => match us, hl with | [_, _], _ => rfl», one _ a parameter -/
theorem Fun.binds {x qual : Str} {st : Stmt} {f : Addr} {fd : FuncData} {ps : List Str} (F : Fun K x qual st f fd)
    (h : ∀ (kV doc pm : Value) (an : Option Addr) (cdv ct : Value) (us : List Value), us.length = ps.length → bindArgs (PySem.W.fnOf x qual (defArgs st) (defBody st) (defScope st) .none kV doc pm an cdv ct) ⟨us, []⟩ = pure (ps.zip us)) : Binds K fd ps [] := by
  obtain ⟨oc, od, kV, doc, pm, an, cdv, ct, osl, rfl, lk, hcd⟩ := F.ex
  exact .all (h kV doc pm an cdv ct)
theorem fun_mk {x qual : Str} {st : Stmt} {f : Addr} {oc : Value} {od an : Option Addr} {osl : Array (Option Value)} {kV doc pm cdv ct : Value} (l : K.lookup f = some ⟨oc, od, .func (PySem.W.fnOf x qual (defArgs st) (defBody st) (defScope st) .none kV doc pm an cdv ct), osl⟩)
    (c : PySem.W.codeIn K cdv qual = true) (k : PySem.W.keepIn K (.ref f) = true) : Fun K x qual st f (PySem.W.fnOf x qual (defArgs st) (defBody st) (defScope st) .none kV doc pm an cdv ct) := ⟨⟨oc, od, kV, doc, pm, an, cdv, ct, osl, rfl, l, c⟩, k⟩
end
theorem small1000 {n : Nat} (h : n ≤ 1000) : n < sizeLine := Nat.lt_of_le_of_lt h (by decide)

section
variable {X : Cx}
theorem pv (i : Nat) {x : Str} {pos : Pos} (hN : X.N[i]? = some x := by rfl) (hv : Vis X.env.scope x := by first | exact Or.inl rfl | exact Or.inr (Or.inl rfl) | exact Or.inr (Or.inr rfl)) (hd : (x == ("__debug__" : Str)) = false := by decide)
    (hcd : (x == ("__classdict__" : Str)) = false := by decide) : PE X (.Name x pos) (tVar i) := pe_var hN hv hd hcd
end

theorem iteT {A B : Prop} (h : A) : if true = true then A else B := by
  rw [if_pos rfl]
  exact h
theorem ite2 {c A B : Prop} [Decidable c] (h1 : c → A) (h2 : ¬ c → B) : if c then A else B := by
  by_cases h : c
  · rw [if_pos h]
    exact h1 h
  · rw [if_neg h]
    exact h2 h
/-- all that was tracked is as it was -/
def Same (H H' : Hp) : Prop := ∀ b o, H b = some o → H' b = some o
theorem Same.refl (H : Hp) : Same H H := fun _ _ h => h
theorem Same.trans {H H1 H2 : Hp} (a : Same H H1) (b : Same H1 H2) : Same H H2 := fun c o h => b c o (a c o h)
theorem Same.free {H H' : Hp} (e : Same H H') {l : Addr} (h : H' l = Option.none) : H l = Option.none := by
  cases q : H l with
  | none => rfl
  | some o =>
    rw [e l o q] at h
    cases h
theorem Same.seq {K : PySem.W.Frag} {H H' : Hp} {a : Addr} {xs : List V} (e : Same H H') (h : SqL K H a xs) : SqL K H' a xs := by
  rcases h with (h | ⟨o, h⟩) | h
  · exact .inl (.inl (e _ _ h))
  · exact .inl (.inr ⟨o, e _ _ h⟩)
  · exact .inr h

end L2


end
section
set_option Elab.async false
set_option linter.all false
set_option maxRecDepth 100000
set_option maxHeartbeats 4000000
namespace L2
open PySem PySem.Spec PyProof.Rows

theorem relabel_lookup (env : Env) : ∀ (l : List (Str × NameKind)) (x : Str),
    (l.map fun (n, k) => if (k == NameKind.free && env.scope.kind == .function && env.kindOf n == some .cell) then (n, NameKind.cell) else (n, k)).lookup x
      = (l.lookup x).map fun k => if (k == NameKind.free && env.scope.kind == .function && env.kindOf x == some .cell) then NameKind.cell else k
  | [], _ => rfl
  | (n, k) :: r, x => by
    have ih := relabel_lookup env r x
    show List.lookup x ((if (k == NameKind.free && env.scope.kind == .function && env.kindOf n == some .cell) = true then (n, NameKind.cell) else (n, k)) :: _) = _
    cases hx : x == n with
    | true =>
      have e : x = n := by simpa using hx
      subst e
      by_cases hc : (k == NameKind.free && env.scope.kind == .function && env.kindOf x == some .cell) = true
      · rw [if_pos hc]; simp only [List.lookup_cons, hx, Option.map_some, hc, if_true]
      · rw [if_neg hc]; simp only [List.lookup_cons, hx, Option.map_some, if_neg hc]
    | false =>
      by_cases hc : (k == NameKind.free && env.scope.kind == .function && env.kindOf n == some .cell) = true
      · rw [if_pos hc]; simp only [List.lookup_cons, hx]; exact ih
      · rw [if_neg hc]; simp only [List.lookup_cons, hx]; exact ih

theorem closure_go {env : Env} : ∀ (l : List (Str × NameKind)) (acc : List (Str × Addr)), (∀ y ∈ l, y.2 = .free → ∃ c, env.cells.lookup y.1 = some c) → (∀ y c, acc.lookup y = some c → env.cells.lookup y = some c) →
    ∃ cl, (forIn l acc fun x (cs : List (Str × Addr)) => (if (x.2 == NameKind.free) = true then (do let a ← cellOf env x.1; pure (ForInStep.yield ((x.1, a) :: cs))) else pure (ForInStep.yield cs) : Sem (ForInStep (List (Str × Addr))))) = pure cl ∧ (∀ y c, cl.lookup y = some c → env.cells.lookup y = some c) ∧ (∀ y c, acc.lookup y = some c → ∃ c', cl.lookup y = some c') ∧
      ∀ y ∈ l, y.2 = .free → ∃ c, cl.lookup y.1 = some c
  | [], acc, _, h2 => ⟨acc, rfl, h2, fun _ c h => ⟨c, h⟩, fun _ h => nomatch h⟩
  | (n, k) :: r, acc, h1, h2 => by
    by_cases hk : k = .free
    · subst hk
      obtain ⟨c, hc⟩ := h1 (n, .free) List.mem_cons_self rfl
      have h2' : ∀ y c', ((n, c) :: acc).lookup y = some c' → env.cells.lookup y = some c' := fun y c' h => by
        rw [List.lookup_cons] at h
        cases hy : y == n with
        | true => rw [hy] at h; have e : y = n := by simpa using hy
                  subst e; cases h; exact hc
        | false => rw [hy] at h; exact h2 y c' h
      obtain ⟨cl, e, q1, q2, q3⟩ := closure_go r ((n, c) :: acc) (fun y hy => h1 y (List.mem_cons_of_mem _ hy)) h2'
      refine ⟨cl, ?_, q1, fun y c' h => ?_, fun y hy hf => ?_⟩
      · rw [List.forIn_cons]
        simp only [beq_self_eq_true, if_true]
        unfold cellOf
        rw [hc]
        exact e
      · cases hy : y == n with
        | true => exact q2 y c (by rw [List.lookup_cons, hy])
        | false => exact q2 y c' (by rw [List.lookup_cons, hy]; exact h)
      · rcases List.mem_cons.mp hy with e' | hy
        · subst e'
          exact q2 n c (by simp [List.lookup_cons])
        · exact q3 y hy hf
    · have hb : (k == NameKind.free) = false := by simpa using hk
      obtain ⟨cl, e, q1, q2, q3⟩ := closure_go r acc (fun y hy => h1 y (List.mem_cons_of_mem _ hy)) h2
      refine ⟨cl, ?_, q1, q2, fun y hy hf => ?_⟩
      · rw [List.forIn_cons]
        simp only [hb, Bool.false_eq_true, if_false]
        exact e
      · rcases List.mem_cons.mp hy with e' | hy
        · subst e'; exact absurd hf hk
        · exact q3 y hy hf

theorem closure_ok (env : Env) (sc : Scope) (h : ∀ y ∈ sc.names, y.2 = .free → ∃ c, env.cells.lookup y.1 = some c) :
    ∃ cl, closureFor sc env = pure cl ∧ (∀ y c, cl.lookup y = some c → env.cells.lookup y = some c) ∧ ∀ y ∈ sc.names, y.2 = .free → ∃ c, cl.lookup y.1 = some c := by
  obtain ⟨cl, e, q1, _, q3⟩ := closure_go (env := env) sc.names [] h (fun y c z => by simp at z)
  refine ⟨cl, ?_, q1, q3⟩
  unfold closureFor
  rw [← e]
  simp only [bind_pure]

/-- the block of a comprehension over the slots M of the def, its own name x ahead of them -/
def blk (X : Cx) (sc : Scope) (x : Str) (M : List Str) (cl : List (Str × Addr)) (C : Addr) (s : Shared) (H : Hp) (fp : List Addr) : Cx :=
  { X with N := x :: M, s₀ := s, H₀ := H, env := compEnvC sc cl C X.env, outer := X.stack, ex := fp, fn := fun _ => false, pn := [], xe := fun _ _ => False }

/-- what the text says of the block: its names, as decide sees them -/
structure BlkOk (X : Cx) (sc : Scope) (x : Str) (M : List Str) : Prop where
  kind : sc.kind = .function
  nocell : ∀ y ∈ sc.names, y.2 ≠ .cell
  names : ∀ y ∈ sc.names, y.2 = .local → sc.names.lookup y.1 = some .local
  own : sc.names.lookup x = some .local
  nd : (x :: M).Nodup
  len : M.length = X.N.length
  free : ∀ y ∈ sc.names, y.2 = .free → X.env.kindOf y.1 = some .cell ∨ X.env.kindOf y.1 = some .free
  same : ∀ (i : Nat) (y : Str), M[i]? = some y → sc.names.lookup y = some .free → X.N[i]? = some y
  noloc : ∀ y ∈ M, sc.names.lookup y ≠ some .local

section
variable {X : Cx}
theorem Inv.toBlk {pins : List (Addr × Obj)} {σ : St} {H : Hp} {s : Shared} {sc : Scope} {x : Str} {M : List Str} {cl : List (Str × Addr)} {fp : List Addr} {h₁ : Heap} {tk : Nat}
    (I : Inv X pins σ H s) (B : BlkOk X sc x M) (q1 : ∀ y c, cl.lookup y = some c → X.env.cells.lookup y = some c) (q3 : ∀ y ∈ sc.names, y.2 = .free → ∃ c, cl.lookup y.1 = some c)
    (fpk : ∀ b ∈ fp, FpOk X pins H b) (fpl : ∀ b ∈ fp, b < s.heap.objs.size) {m : Str → Option Value} (hn : h₁.Ns s.heap.objs.size m) (keep : ∀ b o, s.heap.get? b = some o → h₁.get? b = some o) :
    Inv (blk X sc x M cl s.heap.objs.size s H fp) [] (none :: σ) H { s with heap := h₁, toks := tk } := by
  have kindOf' : ∀ y, (blk X sc x M cl s.heap.objs.size s H fp).env.kindOf y = (sc.names.lookup y).map fun k => if (k == NameKind.free && X.env.scope.kind == .function && X.env.kindOf y == some .cell) then NameKind.cell else k := fun y => relabel_lookup X.env sc.names y
  have isfree : ∀ y, ((blk X sc x M cl s.heap.objs.size s H fp).env.kindOf y = some .cell ∨ (blk X sc x M cl s.heap.objs.size s H fp).env.kindOf y = some .free) → sc.names.lookup y = some .free := fun y hy => by
    rw [kindOf'] at hy
    cases e : sc.names.lookup y with
    | none => rw [e] at hy; simp at hy
    | some k =>
      rw [e] at hy
      by_cases hk : k = .free
      · rw [hk]
      · exfalso
        have hb : (k == NameKind.free) = false := by simpa using hk
        simp only [hb, Bool.false_and, Option.map_some, Bool.false_eq_true, if_false, Option.some.injEq] at hy
        rcases hy with z | z
        · exact B.nocell (y, k) (PySem.mem_of_lookup e) z
        · exact hk z
  have ncell : ∀ y c, X.env.cells.lookup y = some c → c < s.heap.objs.size := fun y c e => by
    obtain ⟨v, o, ho, _⟩ := I.cell y c e
    exact Heap.lt_size ho
  have below : ∀ b ∈ fp, FpOk X pins H b := fpk
  refine ⟨⟨I.ok.mod, B.kind, I.ok.glob, I.ok.blt, Nat.le_refl _, fun y z c h1 h2 => I.ok.inj y z c (q1 y c h1) (q1 z c h2), fun y hy => q3 _ (PySem.mem_of_lookup (isfree y hy)) rfl, fun y c h _ => absurd (show false = true from h) Bool.false_ne_true, I.ok.hd, I.ok.frames, .inl rfl,
    fun b hb => ?_, I.bs, Nat.le_trans I.ok.bsz I.sz, fun b o e hb => ?_, fun b hb z => ?_, I.stack, I.stkFree⟩, rfl, I.bare, Un.kept keep, ⟨_, hn, fun i y v e1 e2 e3 => ?_⟩, fun y c h => ?_, I.hok.fresh (Nat.le_refl _), fun y c h => I.freeC y c (q1 y c h), fun p hp => absurd (show p ∈ ([] : List (Addr × Obj)) from hp) (by simp), I.hok.kept keep, ?_⟩
  · exact ⟨Nat.ne_of_lt (fpl b hb), fun y c h => (fpk b hb).2.2.2.2.1 y c (q1 y c h)⟩
  · rcases (fpk b hb).2.2.2.1 with z | z
    · exact I.ok.noex b o e z
    · exact absurd (Nat.lt_of_lt_of_le (Heap.lt_size e) (Nat.le_trans I.ok.bsz z)) (Nat.lt_irrefl _)
  · rcases List.mem_cons.mp (I.stkSub b z) with e | z
    · exact (fpk b hb).2.1 e
    · exact (fpk b hb).2.2.1 z
  · cases i with
    | zero => simp at e2
    | succ i =>
      have e1' : M[i]? = some y := e1
      have e2' : σ[i]? = some (some v) := e2
      have hy : sc.names.lookup y = some .free := by
        rcases e3 with z | z | z
        · exfalso
          have z' : (blk X sc x M cl s.heap.objs.size s H fp).env.kindOf y = some .local := z
          rw [kindOf'] at z'
          cases e : sc.names.lookup y with
          | none => rw [e] at z'; simp at z'
          | some k =>
            rw [e] at z'
            simp only [Option.map_some, Option.some.injEq] at z'
            split at z'
            · cases z'
            · subst z'
              exact B.noloc y (List.mem_of_getElem? e1') e
        · exact isfree y (.inl z)
        · exact isfree y (.inr z)
      have hk := B.free _ (PySem.mem_of_lookup hy) rfl
      obtain ⟨m0, hn0, hl⟩ := I.loc
      obtain ⟨u, r, l⟩ := hl i y v (B.same i y e1' hy) e2' (hk.elim (fun z => .inr (.inl z)) fun z => .inr (.inr z))
      refine ⟨u, r, .inr ⟨?_, ?_⟩⟩
      · rcases e3 with z | z | z
        · exfalso
          have z' : (blk X sc x M cl s.heap.objs.size s H fp).env.kindOf y = some .local := z
          rw [kindOf', hy] at z'
          simp only [Option.map_some, Option.some.injEq] at z'
          split at z' <;> cases z'
        · exact .inl z
        · exact .inr z
      · rcases l with ⟨k, _⟩ | ⟨_, c, e, hc⟩
        · rcases hk with z | z <;> (have z' : X.env.kindOf y = _ := z; rw [k] at z'; cases z')
        · obtain ⟨c', e'⟩ := q3 _ (PySem.mem_of_lookup hy) rfl
          have e'' := q1 y c' e'
          rw [e] at e''; cases e''
          obtain ⟨o, ho, hd⟩ := hc
          exact ⟨c, e', o, keep c o ho, hd⟩
  · obtain ⟨v, o, ho, hd⟩ := I.cell y c (q1 y c h)
    exact ⟨v, o, keep c o ho, hd⟩
  · show (none :: σ).length = (x :: M).length
    rw [List.length_cons, List.length_cons, I.len, B.len]
end

def PIfs (X : Cx) (ifs : List Expr) (t : TT) : Prop :=
  ∀ (pins : List (Addr × Obj)) (s : Shared) (σ : St) (H : Hp) (Q : Bool → Hp → Prop), Inv X pins σ H s → t σ H Q →
    wpAny (model X.prog X.w) X.A (forIn ifs true fun c r => if r = true then do let ok ← isTrue c X.env (eval c X.env); pure (ForInStep.yield ok) else pure (ForInStep.yield r)) (TP X pins σ Q) X.xe s
def tYes : TT := fun _ H Q => Q true H
theorem pif_nil {X : Cx} : PIfs X [] tYes := fun _ _ _ H _ I h => wpAny_tests_nil ⟨H, I, h⟩
section
variable {prog : Program} {w : World} {A : Around} {E : Value → Shared → Prop} {R : Result → Shared → Prop} {s : Shared}
theorem compLoop_go {elt target iter : Expr} {ifs : List Expr} {scope : Scope} {pos : Pos} {it acc : Value} {env : Env} (I : Nat → Shared → Prop)
    (turn : ∀ n s, I n s → wpAny (model prog w) A (pyNext it) (fun r s₁ => match r with
      | none => R (.ok .next) s₁
      | some v => wpAny (model prog w) A (letOwnedTupleGo target it v) (fun _ s₁ => wpAny (model prog w) A (assign target env v) (fun _ s₂ =>
          wpAny (model prog w) A (forIn ifs true fun c r => if r = true then do let ok ← isTrue c env (eval c env); pure (ForInStep.yield ok) else pure (ForInStep.yield r)) (fun ok s₃ =>
            if ok = true then wpAny (model prog w) A (eval elt env) (fun x s₄ =>
              wpAny (model prog w) A (call (.builtin "list.append") [acc, x]) (fun _ s₅ => ∃ m, m < n ∧ I m s₅) (fun _ _ => False) s₄) (fun _ _ => False) s₃
            else ∃ m, m < n ∧ I m s₃) (fun _ _ => False) s₂) (fun _ _ => False) s₁) (fun _ _ => False) s₁) (fun _ _ => False) s)
    (n : Nat) (h : I n s) :
    codeAny (model prog w) A (.compLoop (.ListComp elt [⟨target, iter, ifs, 0⟩] scope pos) 0 it acc env) R s := by
  refine codeAny_loop rfl I (fun n s hI => ?_) n h
  show wpAny _ A ((compTurn (.ListComp elt [⟨target, iter, ifs, 0⟩] scope pos) 0 it acc env).onRaise (fun x => do noteFrame x env; theTreesLotGoes x)) _ _ s
  refine wpAny_noted ?_
  rw [compTurn_list]
  refine wpAny_bind (wpAny_standAt (wpAny_bind (wpAny_mono (turn n s hI) (fun r s₁ h₁ => ?_) fun _ _ h' => h'.elim)))
  cases r with
  | none => exact wpAny_pure h₁
  | some v =>
    refine wpAny_bind (wpAny_mono h₁ (fun _ s₁ h₁ => ?_) fun _ _ h' => h'.elim)
    refine wpAny_bind (wpAny_mono h₁ (fun _ s₂ h₂ => wpAny_bind (wpAny_mono h₂ (fun ok s₃ h₃ => ?_) fun _ _ h' => h'.elim)) fun _ _ h' => h'.elim)
    cases ok with
    | false => exact wpAny_pure ⟨rfl, h₃⟩
    | true =>
      exact wpAny_bind (wpAny_bind (wpAny_mono h₃ (fun x s₄ h₄ => wpAny_bind (wpAny_mono h₄ (fun _ s₅ h₅ => wpAny_pure (wpAny_pure ⟨rfl, h₅⟩)) fun _ _ h' => h'.elim)) fun _ _ h' => h'.elim))
end

def tLc (wi : TI) (tt : TT) (te : TE) : TE := fun σ H Q => wi σ H fun J H1 => ∀ D, H1 D = none → ∃ W : Nat → Nat → List V → Hp → Prop, (∃ m, W 0 m [] (upd H1 D (.lst []))) ∧ ∀ i m ys H, W i m ys H →
  H D = some (.lst ys) ∧ ((J.stop i H ∧ Q (.ref D) H) ∨ (J.go i H ∧ ys.length < sizeLine ∧ ∀ x H', J.yld i H x H' → tt (some x :: σ) H' fun b H2 => if b = true then te (some x :: σ) H2 fun v H3 =>
    H3 D = some (.lst ys) ∧ ∃ m', m' < m ∧ W (i + 1) m' (ys ++ [v]) (upd H3 D (.lst (ys ++ [v]))) else ∃ m', m' < m ∧ W (i + 1) m' ys H2))

section
variable {X : Cx}
theorem lcomp_core {sc : Scope} {x : Str} {px pos : Pos} {iter elt : Expr} {ifs : List Expr} {M : List Str} {wi : TI} {tt : TT} {te : TE} {cl : List (Str × Addr)} {RR : Value → Addr → Result → Shared → Prop} {pins : List (Addr × Obj)} {s : Shared} {σ : St} {H : Hp} {Q : VK}
    (hc : X.calm = true) (B : BlkOk X sc x M) (hi : PI X (.Name x px) iter wi) (ht : ∀ C s H fp, PIfs (blk X sc x M cl C s H fp) ifs tt) (he : ∀ C s H fp, PE (blk X sc x M cl C s H fp) elt te)
    (q1 : ∀ y c, cl.lookup y = some c → X.env.cells.lookup y = some c) (q3 : ∀ y ∈ sc.names, y.2 = .free → ∃ c, cl.lookup y.1 = some c)
    (I : Inv X pins σ H s) (h : tLc wi tt te σ H Q)
    (hRR : ∀ (D C : Addr) (s' : Shared) (m : Str → Option Value) (H' : Hp), Inv X pins σ H' s' → s'.heap.Ns C m → FpOk X pins H' C → Q (.ref D) H' → RR (.ref D) C (.ok .next) s') :
    wpAny (model X.prog X.w) X.A (eval iter X.env) (fun xv s₁ => wpAny (model X.prog X.w) X.A (pyIter xv) (fun it s₂ => wpAny (model X.prog X.w) X.A (newList []) (fun acc s₃ =>
      wpAny (model X.prog X.w) X.A (newFunctionEnv sc X.env.globals cl [] X.env.qual none .none (some X.env)) (fun cenv s₄ =>
        codeAny (model X.prog X.w) X.A (.compStart (.ListComp elt [⟨.Name x px, iter, ifs, 0⟩] sc pos) 0 it acc { cenv with scope := relabel sc X.env }) (RR acc cenv.locals) s₄) X.xe s₃) X.xe s₂) X.xe s₁) X.xe s := by
  refine thn (hi pins s σ H _ I h) fun v s1 h1 => thn h1 fun itv s2 h2 => ?_
  obtain ⟨it, fp, tn, J, H2, rfl, I2, T, st2, f2, q2⟩ := h2
  refine wpAny_newObj_type (wpAny_newFunctionEnv B.nocell (by intro y hy; simp at hy) (fun h₁ hns₁ hsb₁ => ?_) B.kind)
  dsimp only at hns₁ hsb₁ ⊢
  obtain ⟨W, ⟨m0, w0⟩, turn⟩ := q2 s2.heap.objs.size I2.fresh
  have I3 : Inv X pins σ (upd H2 s2.heap.objs.size (.lst [])) { s2 with heap := s2.heap.push { cls := .type "list", data := .seq ([] : List Value).toArray }, toks := s2.toks } := I2.lnew .nil (Nat.zero_le _)
  generalize hs3 : ({ s2 with heap := s2.heap.push { cls := .type "list", data := .seq ([] : List Value).toArray }, toks := s2.toks } : Shared) = s3 at I3
  have eh : s2.heap.push { cls := .type "list", dict := none, data := .seq ([] : List Value).toArray } = s3.heap := by rw [← hs3]
  have fpl : ∀ b ∈ fp, b < s2.heap.objs.size := fun b hb => by
    obtain ⟨o, e, _⟩ := T.obj _ _ st2 b hb
    exact Heap.lt_size e
  have sz : s3.heap.objs.size = s2.heap.objs.size + 1 := by rw [← eh, Heap.size_push]
  have fpl3 : ∀ b ∈ fp, b < s3.heap.objs.size := fun b hb => by rw [sz]; exact Nat.lt_succ_of_lt (fpl b hb)
  have fp3 : ∀ b ∈ fp, FpOk X pins (upd H2 s2.heap.objs.size (.lst [])) b := fun b hb => ⟨by rw [upd_ne (Nat.ne_of_lt (fpl b hb))]; exact (f2 b hb).1, (f2 b hb).2⟩
  rw [eh] at hns₁ hsb₁ ⊢
  have keep : ∀ b o, s3.heap.get? b = some o → h₁.get? b = some o := fun b o e => hsb₁.extBut b o (Nat.ne_of_lt (Heap.lt_size e)) (Heap.get?_push_of_some _ e)
  have IB := I3.toBlk (tk := s2.toks + ([] : List (Str × Value)).length) B q1 q3 fp3 fpl3 hns₁ keep
  have st4 : tn 0 h₁ := T.keep _ _ _ st2 fun b hb o e => keep b o (by rw [← eh]; exact Heap.get?_push_of_some _ e)
  have es : ({ s3 with heap := h₁, toks := s2.toks + ([] : List (Str × Value)).length } : Shared) = { s2 with heap := h₁, toks := s2.toks + ([] : List (Str × Value)).length } := by rw [← hs3]
  rw [es] at IB
  have hx' : (blk X sc x M cl s3.heap.objs.size s3 (upd H2 s2.heap.objs.size (.lst [])) fp).env.scope.names.lookup x = some .local := lookup_relabel_local B.own
  have hg : PG (blk X sc x M cl s3.heap.objs.size s3 (upd H2 s2.heap.objs.size (.lst [])) fp) (.Name x px) (gName 0) := pg_name B.nd rfl (.inl hx') (.inr hx')
  have he' := he s3.heap.objs.size s3 (upd H2 s2.heap.objs.size (.lst [])) fp
  have ht' := ht s3.heap.objs.size s3 (upd H2 s2.heap.objs.size (.lst [])) fp
  have loop : ∀ s₄ : Shared, s₄ = { s2 with heap := h₁, toks := s2.toks + ([] : List (Str × Value)).length } →
      codeAny (model X.prog X.w) X.A (.compLoop (.ListComp elt [⟨.Name x px, iter, ifs, 0⟩] sc pos) 0 (.ref it) (.ref s2.heap.objs.size) (compEnvC sc cl s3.heap.objs.size X.env)) (RR (.ref s2.heap.objs.size) s3.heap.objs.size) s₄ := by
    rintro s₄ rfl
    refine compLoop_go (fun n s' => ∃ i ys o H', Inv (blk X sc x M cl s3.heap.objs.size s3 (upd H2 s2.heap.objs.size (.lst [])) fp) [] (o :: σ) H' s' ∧ tn i s'.heap ∧ (∀ b ∈ fp, H' b = none) ∧ W i n ys H') ?_ m0
      ⟨0, [], none, _, IB, st4, fun b hb => (fp3 b hb).1, w0⟩
    rintro n s' ⟨i, ys, o, H', I', st', fr', w'⟩
    have fpB : ∀ {H' : Hp} {pl : List (Addr × Obj)}, (∀ b ∈ fp, H' b = none) → ∀ b ∈ fp, FpOk (blk X sc x M cl s3.heap.objs.size s3 (upd H2 s2.heap.objs.size (.lst [])) fp) [] H' b := fun {H' pl} hn b hb =>
      ⟨hn b hb, Nat.ne_of_lt (fpl3 b hb), fun z => I'.ok.exfs b hb z, .inl hb, fun y c hy => (fp3 b hb).2.2.2.2.1 y c (q1 y c hy), fun p hp => absurd (show p ∈ ([] : List (Addr × Obj)) from hp) (by simp)⟩
    obtain ⟨hD, ⟨stop, q⟩ | ⟨go, hlen, step⟩⟩ := turn i n ys H' w'
    · refine wpAny_mono (T.done (blk X sc x M cl s3.heap.objs.size s3 (upd H2 s2.heap.objs.size (.lst [])) fp) rfl rfl rfl hc i [] s' (o :: σ) H' (fun _ _ => False) I' (fpB (pl := []) fr') st' stop) (fun r s4 ⟨hr, I4⟩ => ?_) fun _ _ f => f.elim
      subst hr
      obtain ⟨m, hn, _⟩ := I4.loc
      refine hRR _ _ s4 m H' (I3.call' (ch := fp) I4.os I4.base I4.hok I4.bare fun b hb => ⟨(fp3 b hb).2.2.2.1, (fp3 b hb).2.1, (fp3 b hb).2.2.2.2.1, (fp3 b hb).2.2.2.2.2⟩) hn (I3.fpOk (Nat.le_refl _) I4.free) q
    · refine wpAny_mono (T.item (blk X sc x M cl s3.heap.objs.size s3 (upd H2 s2.heap.objs.size (.lst [])) fp) rfl rfl rfl hc i [] s' (o :: σ) H' (fun _ _ => False) I' (fpB (pl := []) fr') st' go) (fun r s4 ⟨u, hr, h4⟩ => ?_) fun _ _ f => f.elim
      subst hr
      refine wpAny_mono h4 (fun _ s5 ⟨y, H5, I5, r5, y5, st5, fr5⟩ => ?_) fun _ _ f => f.elim
      have I5' := I5.pinned (fpB (pl := []) fr5) (T.obj _ _ st5)
      refine wpAny_mono (hg _ s5 (o :: σ) H5 y u (fun σ' H' => σ' = some y :: σ ∧ H' = H5) I5' r5 ⟨rfl, rfl⟩) (fun _ s6 ⟨σ6, H6, I6, e6, e6'⟩ => ?_) fun _ _ f => f.elim
      subst e6 e6'
      have again : ∀ {H7 : Hp} {s7 : Shared} {zs : List V} {m' : Nat}, Inv (blk X sc x M cl s3.heap.objs.size s3 (upd H2 s2.heap.objs.size (.lst [])) fp) ([] ++ pinsAt fp s5.heap) (some y :: σ) H7 s7 → m' < n → W (i + 1) m' zs H7 →
          ∃ m, m < n ∧ ∃ i ys o H', Inv (blk X sc x M cl s3.heap.objs.size s3 (upd H2 s2.heap.objs.size (.lst [])) fp) [] (o :: σ) H' s7 ∧ tn i s7.heap ∧ (∀ b ∈ fp, H' b = none) ∧ W i m ys H' := fun {H7 s7 zs m'} I7 hm w7 => by
        refine ⟨m', hm, i + 1, zs, some y, H7, I7.unpinned, T.keep _ _ _ st5 fun b hb o e => (I7.pin (b, o) (List.mem_append_right _ (List.mem_append_right _ (mem_pinsAt hb e)))).1, fun b hb => ?_, w7⟩
        obtain ⟨o, e, d⟩ := T.obj _ _ st5 b hb
        exact (I7.pin (b, o) (List.mem_append_right _ (List.mem_append_right _ (mem_pinsAt hb e)))).2.1
      refine wpAny_mono (ht' _ s6 (some y :: σ) H6 _ I6 (step y H6 y5)) (fun b s7 ⟨H7, I7, q7⟩ => ?_) fun _ _ f => f.elim
      cases b with
      | false =>
        rw [if_neg Bool.false_ne_true] at q7 ⊢
        obtain ⟨m', hm, w7⟩ := q7
        exact again I7 hm w7
      | true =>
        rw [if_pos rfl] at q7 ⊢
        refine wpAny_mono (he' _ s7 (some y :: σ) H7 _ I7 q7) (fun u8 s8 ⟨v8, H8, I8, r8, hD8, m', hm, w8⟩ => ?_) fun _ _ f => f.elim
        refine wpAny_mono (mt_append (X := blk X sc x M cl s3.heap.objs.size s3 (upd H2 s2.heap.objs.size (.lst [])) fp) _ s8 (some y :: σ) H8 (.ref s2.heap.objs.size) [v8] (.ref s2.heap.objs.size) [u8] (fun _ H9 => H9 = upd H8 s2.heap.objs.size (.lst (ys ++ [v8]))) I8 rfl (.cons r8 .nil) ⟨_, ys, v8, rfl, rfl, hD8, hlen, rfl⟩) (fun _ s9 ⟨_, H9, I9, _, e9⟩ => ?_) fun _ _ f => f.elim
        subst e9
        exact again I9 hm w8
  exact codeAny_compStart_list (loop _ rfl) (T.self X.A 0 _ _ _ st4 (loop _ rfl))

theorem pe_lcomp {sc : Scope} {x : Str} {px pos : Pos} {iter elt : Expr} {ifs : List Expr} (M : List Str) {wi : TI} {tt : TT} {te : TE} (hc : X.calm = true) (B : BlkOk X sc x M) (hi : PI X (.Name x px) iter wi)
    (ht : ∀ cl C s H fp, PIfs (blk X sc x M cl C s H fp) ifs tt) (he : ∀ cl C s H fp, PE (blk X sc x M cl C s H fp) elt te) (hs : ∀ x, foldedSetIterable iter X.env x = pure x := by intro _; rfl) :
    PE X (.ListComp elt [⟨.Name x px, iter, ifs, 0⟩] sc pos) (tLc wi tt te) := by
  intro pins s σ H Q I h
  obtain ⟨cl, hcl, q1, q3⟩ := closure_ok X.env sc (fun y hy hf => I.ok.has y.1 (B.free y hy hf))
  rw [eval_ListComp]
  refine wpAny_comprehension_free (use := none) rfl hs hcl B.kind B.names (lcomp_core (RR := fun acc C => compPost (model X.prog X.w) X.A X.xe none (EP X pins σ Q) acc C) hc B hi (ht cl) (he cl) q1 q3 I h ?_)
  intro D C s' m H' I' hn fpC q
  exact ⟨m, hn, fun h' sb => ⟨.ref D, H', I'.turned (t' := s'.toks) (fun b o hb e => sb.extBut b o hb e) fpC.1 fpC.2.1 fpC.2.2.2.1 fpC.2.2.2.2.1 fpC.2.2.2.2.2, rfl, q⟩⟩

/-- y = [.. for x in ..] on one row, y a plain local -/
def tSetLc (j : Nat) (wi : TI) (tt : TT) (te : TE) : TS := fun D σ H => tLc wi tt te σ H fun v H' => D.nx (σ.set j (some v)) H'
end
end L2


end
section
set_option Elab.async false
set_option linter.all false
set_option maxRecDepth 100000
set_option maxHeartbeats 4000000
namespace HT
open PySem PyProof.Rows L2
/-- t < u of tuples whose first unlike items are two ints or two texts -/
def lexV : List V → List V → Option Bool
  | [], [] => some false
  | [], _ :: _ => some true
  | _ :: _, [] => some false
  | .int i :: xs, .int j :: ys => if i = j then lexV xs ys else some (decide (i < j))
  | .str i :: xs, .str j :: ys => if i = j then lexV xs ys else some (decide (i.cps.toList < j.cps.toList))
  | _ :: _, _ :: _ => none
section
open PySem.SeqAt
open PySem.AutoSeq1 (wpAny_loadPart')
open PySem.MeetsSeq PySem.MeetsSeq2 PySem.MeetsSeq3
end
section
variable {prog : Program} {w : World} {A : Around} {E : Value → Shared → Prop} {s : Shared}
end
end HT

namespace L2
open PySem PySem.Spec PyProof.Rows
section
variable {X : Cx}
def clsV : V → Option Value
  | .ty n => some (.type n)
  | .ref a => some (.ref a)
  | _ => none
def rIsI (K : PySem.W.Frag) : List V → Hp → VK → Prop := fun xs H Q => ∃ x c t cv b, xs = [x, c] ∧ clsV c = some cv ∧ TyOf K H x t ∧ PySem.W.kitOne K t cv = some b ∧ Q (.bl b) H
theorem call_isinst : CallR X (.builtin "isinstance") (rIsI X.K) := by
  intro pins s σ H xs us Q I r h
  obtain ⟨x, c, t, cv, b, rfl, hc, ty, e, q⟩ := h
  obtain ⟨u, w', rfl, rx, rc⟩ := vals2 r
  have ec : w' = cv := by
    cases c <;> simp [clsV] at hc
    · subst hc; exact rc
    · subst hc; exact rc
  subst ec
  exact isinst_ok I rx ty e fun tk => ⟨.bl b, H, I.tok tk, rfl, q⟩
def rLtV (K : PySem.W.Frag) : R2 := fun x y H Q => ∃ a b xs ys r, x = .ref a ∧ y = .ref b ∧ SqT K H a xs ∧ SqT K H b ys ∧ HT.lexV xs ys = some r ∧ Q (.bl r) H
def Its (z : Str) : It := ⟨fun i _ => i < z.length, fun i H x H' => H' = H ∧ ∃ c, z.cps[i]? = some c ∧ x = .str ⟨#[c]⟩, fun i _ => z.length ≤ i⟩
end
end L2

namespace L2
open PySem PySem.Spec PyProof.Rows
section
variable {X : Cx}
def iStr (tl : TE) : TI := fun σ H R => tl σ H fun x H1 => ∃ z, x = .str z ∧ R (Its z) H1
theorem strsAre_of : ∀ {ys : List Str} {us : List Value}, Vals (ys.map V.str) us → StrsAre us ys
  | [], _, .nil => .nil
  | y :: ys, _, .cons r t => by
    obtain ⟨tk, rfl⟩ := r
    exact .cons y tk (strsAre_of t)
def rJoin (K : PySem.W.Frag) : V → List V → Hp → VK → Prop := fun x xs H Q => ∃ z l ys, x = .str z ∧ xs = [.ref l] ∧ SqL K H l (ys.map V.str) ∧ (ys.map (·.length)).sum + ys.length * z.length ≤ 16777216 ∧ Q (.str (Txt.join z ys)) H
theorem mt_join : MtR X "str.join" (rJoin X.K) := by
  intro pins s σ H x xs v us Q I rx rv h
  obtain ⟨z, l, ys, rfl, rfl, hq, hok, q⟩ := h
  obtain ⟨t, rfl⟩ := rx
  obtain ⟨u, rfl, ru⟩ := rv.one
  cases ru
  obtain ⟨its, r, p, hz⟩ := I.list hq
  exact join_list p.isList (strsAre_of (by simpa using r)) hok fun t' k => ⟨.str _, H, I.tok k, ⟨_, rfl⟩, q⟩
def rSlS : V → Option Int → Option Int → Hp → VK → Prop := fun x lo hi H Q => ∃ z, x = .str z ∧ z.length ≤ sizeLine ∧ Q (.str (Txt.slice z lo hi)) H
def eqVs (xs ys : List V) : Bool := (List.range (min xs.length ys.length)).all (fun i => eqV (xs.getD i .non) (ys.getD i .non)) && xs.length == ys.length
theorem eqVs_flat {A : Around} {s : Shared} {xs ys : List V} {us ws : List Value} (r : Vals xs us) (q : Vals ys ws) (f : xs.all flatV = true) (g : ys.all flatV = true) (j : Nat) (h1 : j < us.toArray.size) (h2 : j < ws.toArray.size) :
    SeqAt.EqAt A s us.toArray[j] ws.toArray[j] (eqV (xs.getD j .non) (ys.getD j .non)) := by
  have l1 := r.length
  have l2 := q.length
  have h1' : j < us.length := by simpa using h1
  have h2' : j < ws.length := by simpa using h2
  have j1 : j < xs.length := by omega
  have j2 : j < ys.length := by omega
  obtain ⟨u, e1, r1⟩ := r.get (i := j) (x := xs[j]) (by simp [j1])
  obtain ⟨w, e2, r2⟩ := q.get (i := j) (x := ys[j]) (by simp [j2])
  rw [List.getElem?_eq_getElem h1'] at e1
  rw [List.getElem?_eq_getElem h2'] at e2
  cases e1; cases e2
  have g1 : xs.getD j .non = xs[j] := by simp [List.getD, j1]
  have g2 : ys.getD j .non = ys[j] := by simp [List.getD, j2]
  rw [g1, g2]
  have f1 : flatV xs[j] = true := List.all_eq_true.mp f _ (List.getElem_mem j1)
  have f2 : flatV ys[j] = true := List.all_eq_true.mp g _ (List.getElem_mem j2)
  simpa using eqAt_V (A := A) (s := s) r1 r2 f1 f2
def rEqL (K : PySem.W.Frag) (neg : Bool) : R2 := fun x y H Q => ∃ a b xs ys, x = .ref a ∧ y = .ref b ∧ SqL K H a xs ∧ SqL K H b ys ∧ xs.all flatV = true ∧ ys.all flatV = true ∧ Q (.bl (if neg then !eqVs xs ys else eqVs xs ys)) H
theorem eqV_refl {x : V} (f : flatV x = true) : eqV x x = true := by cases x <;> simp [eqV, flatV] at *
theorem eqVs_refl {xs : List V} (f : xs.all flatV = true) : eqVs xs xs = true := by
  unfold eqVs
  rw [Nat.min_self, beq_self_eq_true, Bool.and_true, List.all_eq_true]
  intro i hi
  have hi' : i < xs.length := by simpa using hi
  have g1 : xs.getD i .non = xs[i] := by simp [List.getD, hi']
  rw [g1]
  exact eqV_refl (List.all_eq_true.mp f _ (List.getElem_mem hi'))
end
end L2


end
section
set_option Elab.async false
set_option linter.all false
set_option maxRecDepth 100000
set_option maxHeartbeats 4000000
namespace L2
open PySem PySem.Spec PyProof.Rows
theorem bo_len : bootBuiltins "len" = some (.builtin "len") := by decide +kernel
theorem bo_isinstance : bootBuiltins "isinstance" = some (.builtin "isinstance") := by decide +kernel
theorem bo_str : bootBuiltins "str" = some (.type "str") := by decide +kernel
theorem bo_int : bootBuiltins "int" = some (.type "int") := by decide +kernel
theorem bo_bool : bootBuiltins "bool" = some (.type "bool") := by decide +kernel
/-- the block's names, as one test -/
def blkB (dsc sc : Scope) (x : Str) (N M : List Str) : Bool :=
  decide (sc.kind = .function) && sc.names.all (fun y => decide (y.2 ≠ .cell)) && sc.names.all (fun y => decide (y.2 = .local → sc.names.lookup y.1 = some .local)) && decide (sc.names.lookup x = some .local) && decide ((x :: M).Nodup) &&
  decide (M.length = N.length) && sc.names.all (fun y => decide (y.2 = .free → dsc.names.lookup y.1 = some .cell ∨ dsc.names.lookup y.1 = some .free)) &&
  (List.range M.length).all (fun i => match M[i]? with | some y => decide (sc.names.lookup y = some .free → N[i]? = some y) | none => true) && M.all (fun y => decide (sc.names.lookup y ≠ some .local))
theorem blkOk {X : Cx} {sc dsc : Scope} {x : Str} {N M : List Str} (hN : X.N = N) (hs : X.env.scope = dsc) (h : blkB dsc sc x N M = true) : BlkOk X sc x M := by
  unfold blkB at h
  simp only [Bool.and_eq_true, decide_eq_true_eq, List.all_eq_true] at h
  obtain ⟨⟨⟨⟨⟨⟨⟨⟨h1, h2⟩, h3⟩, h4⟩, h5⟩, h6⟩, h7⟩, h8⟩, h9⟩ := h
  refine ⟨h1, h2, h3, h4, h5, by rw [hN]; exact h6, fun y hy hf => ?_, fun i y hi hf => ?_, h9⟩
  · have := h7 y hy hf
    rw [← hs] at this
    exact this
  · have hl : i < M.length := (List.getElem?_eq_some_iff.mp hi).1
    have := h8 i (List.mem_range.mpr hl)
    rw [hi] at this
    rw [hN]
    exact (decide_eq_true_eq.mp this) hf
/-- a def of the text that may be called by its name: its promise, how it binds, where it stands -/
def Cal (P : Program) (w : World) (K : PySem.W.Frag) (mg : Str → Option Value) (base : Heap) (k : Nat) (x : Str) (ps : List Str) (sp : Sp) : Prop :=
  ∃ f fd, FnOk P w K mg base CX0 k f fd ps sp ∧ Binds K fd ps [] ∧ PySem.W.keepIn K (.ref f) = true ∧ mg x = some (.ref f)
section
variable {X : Cx} {e : Expr} {es : List Expr} {t : TA} {p pos : Pos}
theorem pe_cal {j k : Nat} {x : Str} {ps : List Str} {sp : Sp} (G : Cal X.prog X.w X.K X.mg X.base j x ps sp) (hr : Room k X.A) (hj : j ≤ k) (hg : Gl X x) (ha : PA X (e :: es) t) (hdb : (x == ("__debug__" : Str)) = false := by decide)
    (he : starEach (e :: es) X.env = (false, eval e X.env) :: starEach es X.env := by rfl) (hpl : (backTo pos (starEach es X.env)).any (·.1) = false := by rfl) : PE X (.Call (.Name x p) (e :: es) [] pos) (tCall sp [] E0 t) := by
  obtain ⟨f, fd, F, b, kp, m⟩ := G
  exact pe_call F (hr.mono hj) hg m kp b .nil pass0 ha hdb he hpl
end
theorem isI_of {K : PySem.W.Frag} {H : Hp} {Q : VK} {x : V} {n : String} {t : Value} {b : Bool} (ty : TyOf K H x t) (e : PySem.W.kitOne K t (.type n) = some b) (q : Q (.bl b) H) : rIsI K [x, .ty n] H Q := ⟨x, .ty n, t, .type n, b, rfl, rfl, ty, e, q⟩
section
variable {K : PySem.W.Frag}
theorem kit_int_str : PySem.W.kitOne K (.type "int") (.type "str") = some false := by rfl
theorem kit_str_str : PySem.W.kitOne K (.type "str") (.type "str") = some true := by rfl
theorem kit_int_int : PySem.W.kitOne K (.type "int") (.type "int") = some true := by rfl
theorem kit_int_bool : PySem.W.kitOne K (.type "int") (.type "bool") = some false := by rfl
end
end L2
namespace L2
open PySem PySem.Spec PyProof.Rows
theorem rd_start {t : TS} {D : Ends} {σ σ' : St} {H : Hp} (e : σ' = σ) (h : t D σ H) : t D σ' H := by rw [e]; exact h
end L2


end
section
set_option Elab.async false
set_option linter.all false
set_option maxRecDepth 100000
set_option maxHeartbeats 4000000
namespace Att
open PySem PySem.W PySem.Calls PyProof.Rows
theorem bits_all : ∀ (ns : List Int), WData.weightAll (ns.map WData.int) ≤ 2 ^ 20 → ∀ n ∈ ns, Builtin.Int.intBits n ≤ 2 ^ 20
  | [], _, _, h => nomatch h
  | m :: ns, hw, n, h => by
    rw [List.map_cons] at hw
    have e : WData.weightAll (WData.int m :: ns.map WData.int) = WData.weight (.int m) + 1 + WData.weightAll (ns.map WData.int) := by simp only [WData.weightAll]
    rw [e] at hw
    rcases List.mem_cons.mp h with rfl | h
    · have : WData.weight (.int n) ≤ 2 ^ 20 := by omega
      simpa only [WData.weight, Builtin.Int.intBits] using this
    · exact bits_all ns (by omega) n h
theorem attach_callB {l : OpenLaw} {n : Nat} {q : Program} {loose : List Str} {XP : (Str → Option Value) → Heap → Prop} {YP : World → Heap → Prop} {d : DefRec}
    (hn : l.most = some n) (hdf : d.params.defaults = [])
    (call : ∀ (w : World) (s₀ s₁ : Shared) (mg mb : Str → Option Value) (fa : Addr) (o : Obj) (pm cd doc : Value) (a : Addr) (vs : List Value) (ns : List Int),
      Ground q loose [] XP w s₀ mg mb s₁.heap → YP w s₁.heap →
      s₁.heap.get? fa = some o → o.data = .func (docDef d.name d.params d.body d.scope pm cd doc) → s₁.heap.CodeRec cd d.name → mg d.name = some (.ref fa) →
      s₁.heap.get? a = some { cls := .type "list", data := .seq vs.toArray } → IntsAre vs ns → ns.length ≤ n → (∀ i ∈ ns, Builtin.Int.intBits i ≤ 2 ^ 20) → s₁.gens = #[] →
      codeAny (model l.prog w) callerA (.call (.ref fa) ⟨[.ref a], []⟩) (fun r s' => r = .ok (.ret (.bool true)) ∧ OldK s₁.heap s'.heap ∧ s'.os = s₁.os ∧ AllBare s'.gens) s₁) :
    WalkO q loose XP YP l.row.toRowW d [] (fun f vs => PySem.call f vs) := by
  intro w s₀ s₁ mg mb G Y fa o pm cd doc dV kV ho hd hcd hD hmg hg args vals as hpre hlay hrd hwl hlo
  obtain rfl : dV = .none := Dflts.none hD hdf
  obtain rfl : kV = .none := Dflts.noKw hD
  obtain ⟨a, vs, ns, rfl, rfl, hobj, hints, hlen⟩ := script_of hn hpre hwl
  have hb : ∀ i ∈ ns, Builtin.Int.intBits i ≤ 2 ^ 20 := by
    have h1 : WData.layable (.list (ns.map WData.int)) = true := by
      have := hlay
      unfold WData.layableAll at this
      exact List.all_eq_true.mp this _ List.mem_cons_self
    have h2 : WData.weight (.list (ns.map WData.int)) ≤ 2 ^ 20 := of_decide_eq_true (Bool.and_eq_true_iff.mp h1).2
    exact bits_all ns (by simpa only [WData.weight] using h2)
  refine enter_call (codeAny_mono (call w s₀ s₁ mg mb fa o pm cd doc a vs ns G Y ho (fd_plain hd) hcd hmg hobj hints hlen hb hg) fun r s' hq => ?_)
  obtain ⟨rfl, h2, h3, h4⟩ := hq
  exact ⟨.inl ⟨.bool true, .bool true, [], rfl, fun _ => rfl, .bool true, post_true l _, fun _ => ⟨List.Pairwise.nil, fun _ hm => (nomatch hm)⟩⟩, h2, h3, h4⟩
end Att
namespace L2
open PySem PySem.Spec PyProof.Rows
/-- the head, with the bound of the script's ints -/
theorem walk_ofB {l : PySem.W.OpenLaw} {n k : Nat} {q : Program} {loose : List Str} {XP : (Str → Option Value) → Heap → Prop} {YP : World → Heap → Prop} {d : DefRec} {K : Params → PySem.W.Frag} {CX : World → CXT} {sp : PySem.W.Frag → Sp} {x : Str}
    (hn : l.most = some n) (hn2 : n ≤ sizeLine) (hdf : d.params.defaults = []) (hr : Room k callerA)
    (hY : ∀ (w : World) (h : Heap), YP w h → (K w.params).In h)
    (F : ∀ (w : World) (mg : Str → Option Value) (fa : Addr) (h : Heap), (K w.params).In h → h.Ns mainGlobals mg → mg d.name = some (.ref fa) →
      ∃ fd : FuncData, (∀ (s : Shared) (u : Value), BindsTo s fd ⟨[u], []⟩ [(x, u)]) ∧
        ∀ base : Heap, (K w.params).In base → base.Ns mainGlobals mg → FnOk l.prog w (K w.params) mg base (CX w) k fa fd [x] (sp (K w.params)))
    (hsp : ∀ (K : PySem.W.Frag) (H : Hp) (a : Addr) (ns : List Int), ns.length ≤ n → (∀ i ∈ ns, Builtin.Int.intBits i ≤ 2 ^ 20) → Only H → SqL K H a (ns.map V.int) → sp K [.ref a] H (fun v _ => v = .bl true) fun _ _ _ => False)
    (hCX : ∀ (w : World) (H : Hp) (s : Shared) (e : Value) (s' : Shared), CX w [] H s (fun _ _ _ => False) e s' → False) :
    PySem.W.WalkO q loose XP YP l.row.toRowW d [] (fun f vs => PySem.call f vs) := by
  refine Att.attach_callB hn hdf fun w s₀ s₁ mg mb fa o pm cd doc a vs ns G Y ho hd hcd hmg hobj hints hlen hb hg => ?_
  have KX := hY w _ Y
  obtain ⟨fd, hbd, hF⟩ := F w mg fa _ KX G.T.g hmg
  exact law_call KX G.T.g G.T.b G.T.builtins G.T.nolimit hg hobj hints (Nat.le_trans hlen hn2) hr hF hbd (fun H hO hS => hsp _ H a ns hlen hb hO hS) fun H e s' => hCX w H s₁ e s'
section
variable {X : Cx}
theorem op_mulB : OpR X (binaryOp .Mult) (rI IntMulOk fun i j => .int (i * j)) := opI fun _ _ _ _ _ _ _ hc q => mul_int q hc
end
theorem bits_natAbs {a b : Int} (h : a.natAbs ≤ b.natAbs) : Builtin.Int.intBits a ≤ Builtin.Int.intBits b := by
  unfold Builtin.Int.intBits
  split
  · exact Nat.zero_le _
  · rename_i ha
    have ha' : a ≠ 0 := by simpa using ha
    have hb' : b ≠ 0 := by omega
    rw [if_neg (by simpa using hb')]
    have h1 : 2 ^ a.natAbs.log2 ≤ a.natAbs := Nat.log2_self_le (by omega)
    have := (Nat.le_log2 (n := b.natAbs) (k := a.natAbs.log2) (by omega)).mpr (Nat.le_trans h1 h)
    omega
theorem bits_div (a k : Int) : Builtin.Int.intBits (a / k) ≤ Builtin.Int.intBits a := bits_natAbs (Int.natAbs_ediv_le_natAbs a k)
end L2


end
section
set_option Elab.async false
set_option linter.all false
set_option maxRecDepth 100000
set_option maxHeartbeats 4000000
namespace L2
open PySem PySem.Spec PyProof.Rows
section
variable {X : Cx}
end
theorem same_upd {H : Hp} {p : Addr} (h : H p = none) (o : HO) : Same H (upd H p o) := fun b u q => by rw [upd_ne (ne_of_none q h)]; exact q
theorem Same.updL {H H' : Hp} {p : Addr} (s : Same H H') (h : H p = none) (o : HO) : Same H (upd H' p o) := fun b u q => by rw [upd_ne (ne_of_none q h)]; exact s b u q
theorem join_len (sep : Str) (ys : List Str) : (Txt.join sep ys).length ≤ (ys.map (·.length)).sum + ys.length * sep.length := by
  show (Builtin.Str.glued sep ys).length ≤ _
  rw [StrLaws.glued_eq_join]
  exact StrLaws.join_length_le sep ys
theorem sum_ones : ∀ (ys : List Str), (∀ y ∈ ys, y.length = 1) → (ys.map (·.length)).sum = ys.length
  | [], _ => rfl
  | y :: ys, h => by
    rw [List.map_cons, List.sum_cons, h y List.mem_cons_self, sum_ones ys fun z hz => h z (List.mem_cons_of_mem _ hz), List.length_cons, Nat.add_comm]
/-- a list of texts, as values -/
theorem strs_of : ∀ (vs : List V), (∀ v ∈ vs, ∃ z, v = .str z) → ∃ ys : List Str, vs = ys.map V.str
  | [], _ => ⟨[], rfl⟩
  | v :: vs, h => by
    obtain ⟨z, rfl⟩ := h v List.mem_cons_self
    obtain ⟨ys, rfl⟩ := strs_of vs fun u hu => h u (List.mem_cons_of_mem _ hu)
    exact ⟨z :: ys, rfl⟩
end L2
namespace L2
open PySem PySem.Spec PyProof.Rows
def FoR (J : It) (g : TG) (tb : TS) (D : Ends) (σ : St) (H1 : Hp) : Prop := ∃ W : Nat → Nat → St → Hp → Prop, (∃ m, W 0 m σ H1) ∧ ∀ i m σ H, W i m σ H →
  (J.stop i H ∧ D.nx σ H) ∨ (J.go i H ∧ ∃ N : St → Hp → Prop, (∀ σ' H', N σ' H' → ∃ m', m' < m ∧ W (i + 1) m' σ' H') ∧ ∀ x H', J.yld i H x H' → g x σ H' fun σ2 H2 => tb { D with nx := N, ct := N, bk := D.nx } σ2 H2)
def LcR (J : It) (tt : TT) (te : TE) (σ : St) (Q : VK) (H1 : Hp) : Prop := ∀ D, H1 D = none → ∃ W : Nat → Nat → List V → Hp → Prop, (∃ m, W 0 m [] (upd H1 D (.lst []))) ∧ ∀ i m ys H, W i m ys H →
  H D = some (.lst ys) ∧ ((J.stop i H ∧ Q (.ref D) H) ∨ (J.go i H ∧ ys.length < sizeLine ∧ ∀ x H', J.yld i H x H' → tt (some x :: σ) H' fun b H2 => if b = true then te (some x :: σ) H2 fun v H3 =>
    H3 D = some (.lst ys) ∧ ∃ m', m' < m ∧ W (i + 1) m' (ys ++ [v]) (upd H3 D (.lst (ys ++ [v]))) else ∃ m', m' < m ∧ W (i + 1) m' ys H2))
theorem tFor_rng1 {ta : TA} {g : TG} {tb : TS} {D : Ends} {σ : St} {H : Hp} : tFor (iRng1 ta) g tb D σ H = ta σ H fun vs H1 => ∃ j : Int, vs = [.int j] ∧ -(2 ^ 62) ≤ j ∧ j < 2 ^ 62 ∧ FoR (Itr 0 j.toNat) g tb D σ H1 := rfl
theorem tFor_rng2 {ta : TA} {g : TG} {tb : TS} {D : Ends} {σ : St} {H : Hp} : tFor (iRng2 ta) g tb D σ H = ta σ H fun vs H1 => ∃ i j : Int, vs = [.int i, .int j] ∧ (-(2 ^ 62) ≤ i ∧ i < 2 ^ 62 ∧ -(2 ^ 62) ≤ j ∧ j < 2 ^ 62) ∧ FoR (Itr i (j - i).toNat) g tb D σ H1 := rfl
theorem tFor_list {K : PySem.W.Frag} {tl : TE} {g : TG} {tb : TS} {D : Ends} {σ : St} {H : Hp} : tFor (iList K tl) g tb D σ H = tl σ H fun x H1 => ∃ a, x = .ref a ∧ (∃ xs, SqL K H1 a xs) ∧ FoR (Itl K a) g tb D σ H1 := rfl
theorem tFor_tup {K : PySem.W.Frag} {tl : TE} {g : TG} {tb : TS} {D : Ends} {σ : St} {H : Hp} : tFor (iTup K tl) g tb D σ H = tl σ H fun x H1 => ∃ a, x = .ref a ∧ (∃ xs, SqT K H1 a xs) ∧ FoR (Itt K a) g tb D σ H1 := rfl
theorem tFor_str {tl : TE} {g : TG} {tb : TS} {D : Ends} {σ : St} {H : Hp} : tFor (iStr tl) g tb D σ H = tl σ H fun x H1 => ∃ z, x = .str z ∧ FoR (Its z) g tb D σ H1 := rfl
theorem tLc_rng1 {ta : TA} {tt : TT} {te : TE} {σ : St} {H : Hp} {Q : VK} : tLc (iRng1 ta) tt te σ H Q = ta σ H fun vs H1 => ∃ j : Int, vs = [.int j] ∧ -(2 ^ 62) ≤ j ∧ j < 2 ^ 62 ∧ LcR (Itr 0 j.toNat) tt te σ Q H1 := rfl
theorem tLc_list {K : PySem.W.Frag} {tl : TE} {tt : TT} {te : TE} {σ : St} {H : Hp} {Q : VK} : tLc (iList K tl) tt te σ H Q = tl σ H fun x H1 => ∃ a, x = .ref a ∧ (∃ xs, SqL K H1 a xs) ∧ LcR (Itl K a) tt te σ Q H1 := rfl
theorem tLc_tup {K : PySem.W.Frag} {tl : TE} {tt : TT} {te : TE} {σ : St} {H : Hp} {Q : VK} : tLc (iTup K tl) tt te σ H Q = tl σ H fun x H1 => ∃ a, x = .ref a ∧ (∃ xs, SqT K H1 a xs) ∧ LcR (Itt K a) tt te σ Q H1 := rfl
theorem tLc_str {tl : TE} {tt : TT} {te : TE} {σ : St} {H : Hp} {Q : VK} : tLc (iStr tl) tt te σ H Q = tl σ H fun x H1 => ∃ z, x = .str z ∧ LcR (Its z) tt te σ Q H1 := rfl
theorem foR_range {lo : Int} {n : Nat} {g : TG} {tb : TS} {D : Ends} {σ : St} {H : Hp} (Pv : Nat → St → Hp → Prop) (h0 : Pv 0 σ H)
    (hs : ∀ i σ H, i < n → Pv i σ H → g (.int (lo + i)) σ H fun σ2 H2 => tb { D with nx := Pv (i + 1), ct := Pv (i + 1), bk := D.nx } σ2 H2) (hd : ∀ σ H, Pv n σ H → D.nx σ H) : FoR (Itr lo n) g tb D σ H := for_range Pv h0 hs hd
/-- a comprehension over n things, each of which an item it i yields: the items told by what is true of them -/
theorem lcR_of {J : It} {te : TE} {σ : St} {H1 : Hp} {Q : VK} (n : Nat) (item : Nat → V → Prop) (P : Nat → V → Prop) (hz : n ≤ sizeLine)
    (hgo : ∀ i H2, i < n → Same H1 H2 → J.go i H2 ∧ ∀ x H', J.yld i H2 x H' → H' = H2 ∧ item i x) (hst : ∀ H2, Same H1 H2 → J.stop n H2)
    (he : ∀ i x H2 (R : VK), item i x → Same H1 H2 → (∀ v H3, P i v → Same H2 H3 → R v H3) → te (some x :: σ) H2 R)
    (hq : ∀ D H2 ys, H1 D = none → Same H1 H2 → H2 D = some (.lst ys) → ys.length = n → (∀ i y, ys[i]? = some y → P i y) → Q (.ref D) H2) : LcR J tYes te σ Q H1 := by
  intro D hD
  refine ⟨fun i m ys H2 => m = n - i ∧ i ≤ n ∧ ys.length = i ∧ H2 D = some (.lst ys) ∧ Same H1 H2 ∧ ∀ j y, ys[j]? = some y → P j y, ⟨_, rfl, Nat.zero_le _, rfl, upd_same, same_upd hD _, fun j y h => by simp at h⟩, ?_⟩
  rintro i m ys H2 ⟨rfl, hi, hl, hd, sm, hp⟩
  refine ⟨hd, ?_⟩
  by_cases hlt : i < n
  · obtain ⟨go, yl⟩ := hgo i H2 hlt sm
    refine .inr ⟨go, by omega, fun x H' y => ?_⟩
    obtain ⟨e, hx⟩ := yl x H' y
    subst e
    unfold tYes
    refine iteT ?_
    refine he i x _ _ hx sm fun v H3 pv s3 => ⟨s3 _ _ hd, n - (i + 1), by omega, rfl, hlt, by rw [List.length_append, hl]; rfl, upd_same, (sm.trans s3).updL hD _, fun j y h => ?_⟩
    by_cases hj : j < ys.length
    · rw [List.getElem?_append_left hj] at h
      exact hp j y h
    · rw [List.getElem?_append_right (by omega)] at h
      have hj2 : j = i := by
        have := (List.getElem?_eq_some_iff.mp h).1
        simp at this
        omega
      subst hj2
      rw [hl] at h
      simp at h
      subst h
      exact pv
  · have e : i = n := by omega
    subst e
    exact .inl ⟨hst H2 sm, hq D H2 ys hD sm hd hl hp⟩
theorem lcR_range {te : TE} {σ : St} {H1 : Hp} {Q : VK} {lo : Int} {n : Nat} (P : Nat → V → Prop) (hz : n ≤ sizeLine)
    (he : ∀ (i : Nat) H2 (R : VK), i < n → Same H1 H2 → (∀ v H3, P i v → Same H2 H3 → R v H3) → te (some (.int (lo + i)) :: σ) H2 R)
    (hq : ∀ D H2 ys, H1 D = none → Same H1 H2 → H2 D = some (.lst ys) → ys.length = n → (∀ i y, ys[i]? = some y → P i y) → Q (.ref D) H2) : LcR (Itr lo n) tYes te σ Q H1 :=
  lcR_of n (fun i x => i < n ∧ x = .int (lo + i)) P hz (fun i H2 hi _ => ⟨hi, fun x H' y => ⟨y.1, hi, y.2⟩⟩) (fun _ _ => Nat.le_refl _) (fun i x H2 R ⟨hi, e⟩ s r => by subst e; exact he i H2 R hi s r) hq
end L2


end
section
set_option linter.all false
namespace SortT
open PySem PySem.W PyProof.Rows
def K (r : Nat → Nat) (p : Array Nat) (i : Nat) : Nat := r (p.getD i 0)
structure Ok (n : Nat) (p : Array Nat) : Prop where
  size : p.size = n
  perm : p.Perm (List.range n).toArray
theorem Ok.lt {n : Nat} {p : Array Nat} (h : Ok n p) (hn : 0 < n) (i : Nat) : p.getD i 0 < n := by
  rw [Array.getD_eq_getD_getElem?]
  cases e : p[i]? with
  | none => exact hn
  | some x =>
    have hx : x ∈ p := Array.mem_of_getElem? e
    have := (h.perm.mem_iff (a := x)).mp hx
    simpa using this
theorem Ok.start (n : Nat) : Ok n (List.range n).toArray := ⟨by simp, Array.Perm.refl _⟩
def Up (r : Nat → Nat) (p : Array Nat) (m : Nat) : Prop := ∀ i j, i ≤ j → j < m → K r p i ≤ K r p j
def Dn (r : Nat → Nat) (p : Array Nat) (m : Nat) : Prop := ∀ i j, i ≤ j → j < m → K r p j ≤ K r p i
variable {n : Nat} {r : Nat → Nat}
end SortT


end
section
set_option linter.all false
set_option Elab.async false
set_option maxRecDepth 100000
namespace SortB
open PySem PySem.W PyProof.Rows
/-- the rank of what stands at i -/
def K (rk : Keyed → Nat) (a : Array Keyed) (i : Nat) : Nat := match a[i]? with | some p => rk p | none => 0
theorem K_get {rk : Keyed → Nat} {a : Array Keyed} {i : Nat} (h : i < a.size) : K rk a i = rk a[i] := by unfold K; rw [getElem?_pos a i h]
section
variable {prog : Program} {w : World} {A : Around} {E : Value → Shared → Prop} {s : Shared} {κ : SortKind} {rk : Keyed → Nat} {S : Keyed → Prop}
end
end SortB


end
section
set_option linter.all false
set_option Elab.async false
set_option maxRecDepth 100000
namespace SortB
open PySem PySem.W PyProof.Rows
/-- rising by rank -/
abbrev Rs (rk : Keyed → Nat) (l : List Keyed) : Prop := l.Pairwise fun x y => rk x ≤ rk y
/-- merged so far: ia of la, ib of lb -/
structure Mg (rk : Keyed → Nat) (la lb out : List Keyed) (ia ib : Nat) : Prop where
  perm : out.Perm (la.take ia ++ lb.take ib)
  pw : Rs rk out
  ra : ∀ x ∈ out, ∀ y ∈ la.drop ia, rk x ≤ rk y
  rb : ∀ x ∈ out, ∀ y ∈ lb.drop ib, rk x ≤ rk y
section
variable {rk : Keyed → Nat} {la lb out : List Keyed} {ia ib k : Nat}
theorem drop_split (l : List Keyed) (i k : Nat) : l.drop i = (l.drop i).take k ++ l.drop (i + k) := by
  rw [← List.drop_drop, List.take_append_drop]
theorem Mg.takeA (m : Mg rk la lb out ia ib) (pa : Rs rk la) (k : Nat) (h : ∀ x ∈ (la.drop ia).take k, ∀ y ∈ lb.drop ib, rk x ≤ rk y) : Mg rk la lb (out ++ (la.drop ia).take k) (ia + k) ib := by
  have pd : Rs rk (la.drop ia) := pa.sublist (List.drop_sublist _ _)
  have ps := drop_split la ia k
  refine ⟨?_, ?_, ?_, ?_⟩
  · have e : la.take (ia + k) = la.take ia ++ (la.drop ia).take k := by rw [List.take_add]
    rw [e]
    refine (m.perm.append_right _).trans ?_
    rw [List.append_assoc, List.append_assoc]
    exact (List.perm_append_comm).append_left _
  · refine List.pairwise_append.mpr ⟨m.pw, pd.sublist (List.take_sublist _ _), fun x hx y hy => m.ra x hx y (List.mem_of_mem_take hy)⟩
  · intro x hx y hy
    rcases List.mem_append.mp hx with hx | hx
    · exact m.ra x hx y (by rw [ps]; exact List.mem_append_right _ hy)
    · rw [ps] at pd
      exact (List.pairwise_append.mp pd).2.2 x hx y hy
  · intro x hx y hy
    rcases List.mem_append.mp hx with hx | hx
    · exact m.rb x hx y hy
    · exact h x hx y hy
theorem Mg.swap (m : Mg rk la lb out ia ib) : Mg rk lb la out ib ia := ⟨m.perm.trans List.perm_append_comm, m.pw, m.rb, m.ra⟩
theorem Mg.takeB (m : Mg rk la lb out ia ib) (pb : Rs rk lb) (k : Nat) (h : ∀ x ∈ (lb.drop ib).take k, ∀ y ∈ la.drop ia, rk x ≤ rk y) : Mg rk la lb (out ++ (lb.drop ib).take k) ia (ib + k) := (m.swap.takeA pb k h).swap
/-- all of a, then what is left of b -/
theorem Mg.done (m : Mg rk la lb out ia ib) (pa : Rs rk la) (pb : Rs rk lb) (h : ∀ x ∈ la.drop ia, ∀ y ∈ lb.drop ib, rk x ≤ rk y) : (out ++ la.drop ia ++ lb.drop ib).Perm (la ++ lb) ∧ Rs rk (out ++ la.drop ia ++ lb.drop ib) := by
  have e1 : (la.drop ia).take la.length = la.drop ia := List.take_of_length_le (by rw [List.length_drop]; omega)
  have e2 : (lb.drop ib).take lb.length = lb.drop ib := List.take_of_length_le (by rw [List.length_drop]; omega)
  have m1 := m.takeA pa la.length (by rw [e1]; exact h)
  rw [e1] at m1
  have z : la.drop (ia + la.length) = [] := List.drop_eq_nil_of_le (by omega)
  have m2 := m1.takeB pb lb.length (by rw [z]; intro _ _ _ q; cases q)
  rw [e2] at m2
  refine ⟨?_, m2.pw⟩
  have := m2.perm
  rwa [List.take_of_length_le (by omega), List.take_of_length_le (by omega)] at this
theorem Mg.doneB (m : Mg rk la lb out ia ib) (pa : Rs rk la) (pb : Rs rk lb) (h : ∀ x ∈ lb.drop ib, ∀ y ∈ la.drop ia, rk x ≤ rk y) : (out ++ lb.drop ib ++ la.drop ia).Perm (la ++ lb) ∧ Rs rk (out ++ lb.drop ib ++ la.drop ia) := by
  obtain ⟨a, b⟩ := m.swap.done pb pa h
  exact ⟨a.trans List.perm_append_comm, b⟩
end
section
variable {rk : Keyed → Nat} {a : Array Keyed} {i j k n : Nat} {x : Keyed}
theorem Rs.le (h : Rs rk a.toList) (hij : i ≤ j) (hj : j < a.size) : K rk a i ≤ K rk a j := by
  by_cases e : i = j
  · rw [e]; exact Nat.le_refl _
  · rw [K_get (show i < a.size by omega), K_get hj]
    have := List.pairwise_iff_getElem.mp h i j (by simp; omega) (by simp; omega) (by omega)
    simpa using this
end
section
variable {prog : Program} {w : World} {A : Around} {E : Value → Shared → Prop} {s : Shared} {κ : SortKind} {rk : Keyed → Nat} {S : Keyed → Prop}
end
end SortB


end
section
set_option linter.all false
set_option Elab.async false
set_option maxRecDepth 100000
namespace SortB
open PySem PySem.W PyProof.Rows
/-- merged so far from the right: na of la, nb of lb are left -/
structure Mh (rk : Keyed → Nat) (la lb R : List Keyed) (na nb : Nat) : Prop where
  perm : R.Perm (la.drop na ++ lb.drop nb)
  pw : Rs rk R
  ra : ∀ x ∈ la.take na, ∀ y ∈ R, rk x ≤ rk y
  rb : ∀ x ∈ lb.take nb, ∀ y ∈ R, rk x ≤ rk y
section
variable {rk : Keyed → Nat} {la lb R : List Keyed} {na nb k : Nat}
theorem Mh.swap (m : Mh rk la lb R na nb) : Mh rk lb la R nb na := ⟨m.perm.trans List.perm_append_comm, m.pw, m.rb, m.ra⟩
theorem drop_mid {l : List Keyed} {k n : Nat} (h : k ≤ n) : l.drop k = (l.drop k).take (n - k) ++ l.drop n := by
  have e : l.drop n = (l.drop k).drop (n - k) := by rw [List.drop_drop]; congr 1; omega
  rw [e, List.take_append_drop]
theorem take_mid {l : List Keyed} {k n : Nat} (h : k ≤ n) : l.take n = l.take k ++ (l.drop k).take (n - k) := by
  have e : n = k + (n - k) := by omega
  rw [e, List.take_add]
  congr 2
  omega
theorem Mh.takeA (m : Mh rk la lb R na nb) (pa : Rs rk la) (k : Nat) (hk : k ≤ na) (h : ∀ x ∈ lb.take nb, ∀ y ∈ (la.drop k).take (na - k), rk x ≤ rk y) : Mh rk la lb ((la.drop k).take (na - k) ++ R) k nb := by
  have pt : Rs rk (la.take na) := pa.sublist (List.take_sublist _ _)
  have ps := take_mid (l := la) hk
  rw [ps] at pt
  obtain ⟨_, p2, p3⟩ := List.pairwise_append.mp pt
  have sub : ∀ y ∈ (la.drop k).take (na - k), y ∈ la.take na := fun y hy => by rw [ps]; exact List.mem_append_right _ hy
  refine ⟨?_, ?_, ?_, ?_⟩
  · refine (m.perm.append_left _).trans (List.Perm.of_eq ?_)
    rw [← List.append_assoc, ← drop_mid hk]
  · exact List.pairwise_append.mpr ⟨p2, m.pw, fun x hx y hy => m.ra x (sub x hx) y hy⟩
  · intro x hx y hy
    rcases List.mem_append.mp hy with hy | hy
    · exact p3 x hx y hy
    · exact m.ra x (by rw [ps]; exact List.mem_append_left _ hx) y hy
  · intro x hx y hy
    rcases List.mem_append.mp hy with hy | hy
    · exact h x hx y hy
    · exact m.rb x hx y hy
theorem Mh.takeB (m : Mh rk la lb R na nb) (pb : Rs rk lb) (k : Nat) (hk : k ≤ nb) (h : ∀ x ∈ la.take na, ∀ y ∈ (lb.drop k).take (nb - k), rk x ≤ rk y) : Mh rk la lb ((lb.drop k).take (nb - k) ++ R) na k := (m.swap.takeA pb k hk h).swap
theorem Mh.doneB (m : Mh rk la lb R na nb) (pa : Rs rk la) (pb : Rs rk lb) (h : ∀ x ∈ lb.take nb, ∀ y ∈ la.take na, rk x ≤ rk y) : (lb.take nb ++ la.take na ++ R).Perm (la ++ lb) ∧ Rs rk (lb.take nb ++ la.take na ++ R) := by
  have m1 := m.takeA pa 0 (Nat.zero_le _) (by simpa using h)
  have m2 := m1.takeB pb 0 (Nat.zero_le _) (by simp)
  have e : ((lb.drop 0).take (nb - 0) ++ ((la.drop 0).take (na - 0) ++ R)) = lb.take nb ++ la.take na ++ R := by simp
  rw [e] at m2
  exact ⟨by simpa using m2.perm, m2.pw⟩
theorem Mh.done (m : Mh rk la lb R na nb) (pa : Rs rk la) (pb : Rs rk lb) (h : ∀ x ∈ la.take na, ∀ y ∈ lb.take nb, rk x ≤ rk y) : (la.take na ++ lb.take nb ++ R).Perm (la ++ lb) ∧ Rs rk (la.take na ++ lb.take nb ++ R) := by
  obtain ⟨a, b⟩ := m.swap.doneB pb pa h
  exact ⟨a.trans List.perm_append_comm, b⟩
end
section
variable {rk : Keyed → Nat} {a : Array Keyed} {i j k n : Nat} {x : Keyed}
end
section
variable {prog : Program} {w : World} {A : Around} {E : Value → Shared → Prop} {s : Shared} {κ : SortKind} {rk : Keyed → Nat} {S : Keyed → Prop}
end
end SortB


end
section
set_option linter.all false
set_option Elab.async false
set_option maxRecDepth 100000
namespace SortB
open PySem PySem.W PyProof.Rows
/-- rising between lo and hi -/
def Up (rk : Keyed → Nat) (a : Array Keyed) (lo hi : Nat) : Prop := ∀ i j, lo ≤ i → i ≤ j → j < hi → K rk a i ≤ K rk a j
/-- changed between lo and hi alone, the same things in all -/
structure Ch (rk : Keyed → Nat) (lo hi : Nat) (a b : Array Keyed) : Prop where
  perm : b.Perm a
  out : ∀ j, j < lo ∨ hi ≤ j → K rk b j = K rk a j
section
variable {rk : Keyed → Nat} {a b c : Array Keyed} {lo hi lo' hi' i j k n : Nat}
theorem Ch.refl : Ch rk lo hi a a := ⟨Array.Perm.refl _, fun _ _ => rfl⟩
theorem Ch.size (h : Ch rk lo hi a b) : b.size = a.size := h.perm.size_eq
theorem Ch.trans (h : Ch rk lo hi a b) (h' : Ch rk lo hi b c) : Ch rk lo hi a c := ⟨h'.perm.trans h.perm, fun j hj => (h'.out j hj).trans (h.out j hj)⟩
theorem Ch.mono (h : Ch rk lo hi a b) (h1 : lo' ≤ lo) (h2 : hi ≤ hi') : Ch rk lo' hi' a b := ⟨h.perm, fun j hj => h.out j (by omega)⟩
theorem Ch.all {S : Keyed → Prop} (h : Ch rk lo hi a b) (hS : ∀ x ∈ a, S x) : ∀ x ∈ b, S x := fun x hx => hS x (h.perm.mem_iff.mp hx)
theorem Up.ext (u : Up rk a lo hi) (h : ∀ i, lo ≤ i → i < hi → K rk b i = K rk a i) : Up rk b lo hi := fun i j h1 h2 h3 => by
  rw [h i h1 (by omega), h j (by omega) h3]; exact u i j h1 h2 h3
theorem Up.rs (u : Up rk a lo hi) (hh : hi ≤ a.size) : Rs rk (a.extract lo hi).toList := by
  refine List.pairwise_iff_getElem.mpr ?_
  intro i j hi' hj' hij
  simp only [Array.length_toList, Array.size_extract] at hi' hj'
  have := u (lo + i) (lo + j) (by omega) (by omega) (by omega)
  rw [K_get (by omega), K_get (by omega)] at this
  simpa using this
end
section
variable {prog : Program} {w : World} {A : Around} {E : Value → Shared → Prop} {s : Shared} {κ : SortKind} {rk : Keyed → Nat} {S : Keyed → Prop}
end
end SortB


end
section
set_option linter.all false
set_option Elab.async false
set_option maxRecDepth 100000
namespace SortB
open PySem PySem.W PyProof.Rows
section
variable {prog : Program} {w : World} {A : Around} {E : Value → Shared → Prop} {s : Shared} {κ : SortKind} {rk : Keyed → Nat} {S : Keyed → Prop}
abbrev mk (κ : SortKind) (a : Array Keyed) (pd : Array (Nat × Nat × Nat)) (g : Nat) : SortSt := SortSt.mk' κ a pd g none
/-- falling between lo and hi -/
def Dn (rk : Keyed → Nat) (a : Array Keyed) (lo hi : Nat) : Prop := ∀ i j, lo ≤ i → i ≤ j → j < hi → K rk a j ≤ K rk a i
theorem Up.step {a : Array Keyed} {lo n : Nat} (u : Up rk a lo (lo + n)) (hn : 1 ≤ n) (h : ¬ K rk a (lo + n) < K rk a (lo + n - 1)) : Up rk a lo (lo + (n + 1)) := fun i j h1 h2 h3 => by
  by_cases hj : j < lo + n
  · exact u i j h1 h2 hj
  · have : j = lo + n := by omega
    subst this
    by_cases hi : i = lo + n
    · rw [hi]; exact Nat.le_refl _
    · have := u i (lo + n - 1) h1 (by omega) (by omega); omega
theorem Dn.step {a : Array Keyed} {lo n : Nat} (u : Dn rk a lo (lo + n)) (hn : 1 ≤ n) (h : K rk a (lo + n) ≤ K rk a (lo + n - 1)) : Dn rk a lo (lo + (n + 1)) := fun i j h1 h2 h3 => by
  by_cases hj : j < lo + n
  · exact u i j h1 h2 hj
  · have : j = lo + n := by omega
    subst this
    by_cases hi : i = lo + n
    · rw [hi]; exact Nat.le_refl _
    · have := u i (lo + n - 1) h1 (by omega) (by omega); omega
end
end SortB


end
section
set_option linter.all false
set_option Elab.async false
set_option maxRecDepth 100000
namespace SortB
open PySem PySem.W PyProof.Rows
/-- the runs lie one behind the other, from lo to hi -/
def Cov (rk : Keyed → Nat) (a : Array Keyed) : List (Nat × Nat × Nat) → Nat → Nat → Prop
  | [], lo, hi => lo = hi
  | (s, n, _) :: r, lo, hi => s = lo ∧ 0 < n ∧ Up rk a lo (lo + n) ∧ Cov rk a r (lo + n) hi
section
variable {rk : Keyed → Nat} {a b : Array Keyed} {l r : List (Nat × Nat × Nat)} {lo hi mid : Nat}
theorem Cov.le : ∀ {l : List (Nat × Nat × Nat)} {lo hi : Nat}, Cov rk a l lo hi → lo + l.length ≤ hi
  | [], lo, hi, h => by have : lo = hi := h; simp; omega
  | (s, n, p) :: r, lo, hi, h => by
    obtain ⟨_, h1, _, h2⟩ := h
    have := Cov.le h2
    rw [List.length_cons]; omega
theorem Cov.ext : ∀ {l : List (Nat × Nat × Nat)} {lo : Nat}, Cov rk a l lo hi → (∀ j, lo ≤ j → j < hi → K rk b j = K rk a j) → Cov rk b l lo hi
  | [], _, h, _ => h
  | (s, n, p) :: l, lo, h, e => by
    obtain ⟨a1, a2, a3, a4⟩ := h
    have := Cov.le a4
    exact ⟨a1, a2, a3.ext fun i h1 h2 => e i h1 (by omega), a4.ext fun j h1 h2 => e j (by omega) h2⟩
end
section
variable {prog : Program} {w : World} {A : Around} {E : Value → Shared → Prop} {s : Shared} {κ : SortKind} {rk : Keyed → Nat} {S : Keyed → Prop}
end
end SortB


end
section
set_option linter.all false
set_option Elab.async false
set_option maxRecDepth 100000
namespace SortB
open PySem PySem.W PyProof.Rows
open Classical in
section
variable {prog : Program} {w : World} {A : Around} {E : Value → Shared → Prop} {s : Shared} {κ : SortKind} {ks vs : List Value} {r : Nat → Nat}
end
end SortB


end
section
set_option Elab.async false
set_option linter.all false
set_option maxRecDepth 100000
set_option maxHeartbeats 4000000
namespace L2
open PySem PySem.Spec PyProof.Rows PySem.W
theorem Vals.getD : ∀ {xs : List V} {us : List Value}, Vals xs us → ∀ i, RelV (xs.getD i .non) (us.getD i Value.none) := fun {xs us} r i => by
  cases e : xs[i]? with
  | none =>
    have e2 := r.none_of e
    rw [List.getD_eq_getElem?_getD, List.getD_eq_getElem?_getD, e, e2]
    rfl
  | some x =>
    obtain ⟨u, e2, ru⟩ := r.get e
    rw [List.getD_eq_getElem?_getD, List.getD_eq_getElem?_getD, e, e2]
    exact ru
/-- lt is a strict weak order on xs -/
structure Swo {α : Type} (xs : List α) (lt : α → α → Bool) : Prop where
  irr : ∀ a ∈ xs, lt a a = false
  tr : ∀ a ∈ xs, ∀ b ∈ xs, ∀ c ∈ xs, lt a b = true → lt b c = true → lt a c = true
  neg : ∀ a ∈ xs, ∀ b ∈ xs, ∀ c ∈ xs, lt a c = true → lt a b = true ∨ lt b c = true
end L2


end
section
set_option Elab.async false
set_option linter.all false
set_option maxRecDepth 100000
set_option maxHeartbeats 400000
namespace L2
open PySem PySem.Spec PyProof.Rows PySem.W
section
variable {X : Cx} {pins : List (Addr × Obj)} {σ : St} {H : Hp} {s : Shared} {k : Nat} {f : Addr} {fd : FuncData} {p0 : Str} {sp : Sp} {A : Around} {E : Value → Shared → Prop}
/-- what is known of the key function over the items -/
structure KeyF (K : PySem.W.Frag) (sp : Sp) (H : Hp) (xs : List V) (rk : V → List V) (lt : V → V → Bool) : Prop where
  hd : ∀ v ∈ xs, ∃ n r, rk v = .int n :: r
  key : ∀ v ∈ xs, ∀ H2, Same H H2 → ∀ R : VK, (∀ p H3, Same H2 H3 → SqT K H3 p (rk v) → R (.ref p) H3) → sp [v] H2 R E0
  lex : ∀ v ∈ xs, ∀ u ∈ xs, HT.lexV (rk v) (rk u) = some (lt v u)
  swo : Swo xs lt
end
end L2


end
section
set_option Elab.async false
set_option linter.all false
set_option maxRecDepth 100000
set_option maxHeartbeats 400000
namespace L2
open PySem PySem.Spec PyProof.Rows PySem.W
section
variable {X : Cx} {pins : List (Addr × Obj)} {σ : St} {H : Hp} {s : Shared} {k : Nat} {f : Addr} {fd : FuncData} {p0 : Str} {sp : Sp}
def tSortK (K : PySem.W.Frag) (sp : Sp) (te : TE) : TE := fun σ H Q => te σ H fun x H1 => ∃ a xs rk lt, x = .ref a ∧ SqL K H1 a xs ∧ xs.length < 64 ∧ KeyF K sp H1 xs rk lt ∧
  ∀ D H' ys, Same H1 H' → H1 D = none → H' D = some (.lst ys) → ys.Perm xs → ys.Pairwise (fun a b => lt b a = false) → Q (.ref D) H'
def tSortKB (K : PySem.W.Frag) (sp : Sp) (te : TE) : TE := fun σ H Q => te σ H fun x H1 => ∃ a xs rk lt, x = .ref a ∧ SqL K H1 a xs ∧ xs.length < 1000 ∧ KeyF K sp H1 xs rk lt ∧
  ∀ D H' ys, Same H1 H' → H1 D = none → H' D = some (.lst ys) → ys.Perm xs → ys.Pairwise (fun a b => lt b a = false) → Q (.ref D) H'
end
end L2


end
section
set_option Elab.async false
set_option linter.all false
set_option maxRecDepth 100000
set_option maxHeartbeats 400000
namespace L2
open PySem PySem.Spec PyProof.Rows
section
variable {X : Cx} {e : Expr} {es : List Expr} {te : TE} {pos : Pos}
def tFmtI (te : TE) : TE := fun σ H Q => te σ H fun x H1 => ∃ i : Int, x = .int i ∧ i.natAbs.log2 < 1920 ∧ Q (.str (toString i)) H1
def tFmtS (te : TE) : TE := fun σ H Q => te σ H fun x H1 => ∃ z : Str, x = .str z ∧ z.length ≤ sizeLine ∧ Q (.str z) H1
def tParts : List TE → Str → TE
  | [], acc => fun _ H Q => acc.length ≤ sizeLine ∧ Q (.str acc) H
  | t :: ts, acc => fun σ H Q => t σ H fun x H1 => ∃ z : Str, x = .str z ∧ (acc ++ z).length ≤ sizeLine ∧ tParts ts (acc ++ z) σ H1 Q
def tJoinF (ts : List TE) : TE := tParts ts Str.empty
end
theorem empty_add (z : Str) : Str.empty ++ z = z := by
  apply PyProof.Rows.ext_toList
  rw [PySem.W.KT.app_list]; rfl
end L2


end
section
set_option Elab.async false
set_option linter.all false
set_option maxRecDepth 100000
set_option maxHeartbeats 400000
namespace Pl
open PySem L2
def plainV : V → Prop
  | .non => True
  | .int i => -(10 ^ 30) < i ∧ i < 10 ^ 30
  | .str z => z.length ≤ 40
  | _ => False
def rk : V → List V
  | .non => [.int 0, .int 0]
  | .str z => [.int 2, .str z]
  | v => [.int 1, v]
def ltV (a b : V) : Bool := (HT.lexV (rk a) (rk b)).getD false
theorem lt_nn : ltV .non .non = false := rfl
theorem lt_ni (i : Int) : ltV .non (.int i) = true := rfl
theorem lt_ns (z : Str) : ltV .non (.str z) = true := rfl
theorem lt_in (i : Int) : ltV (.int i) .non = false := rfl
theorem lt_sn (z : Str) : ltV (.str z) .non = false := rfl
theorem lt_is (i : Int) (z : Str) : ltV (.int i) (.str z) = true := rfl
theorem lt_si (i : Int) (z : Str) : ltV (.str z) (.int i) = false := rfl
theorem lt_ii (i j : Int) : ltV (.int i) (.int j) = decide (i < j) := by
  unfold ltV
  simp only [rk, HT.lexV, if_true]
  by_cases e : i = j
  · rw [if_pos e]; subst e; simp
  · rw [if_neg e]; rfl
theorem lt_ss (x y : Str) : ltV (.str x) (.str y) = decide (x.cps.toList < y.cps.toList) := by
  unfold ltV
  simp only [rk, HT.lexV, if_true]
  by_cases e : x = y
  · rw [if_pos e]; subst e
    have : ¬ (x.cps.toList < x.cps.toList) := List.lt_irrefl _
    simp [this]
  · rw [if_neg e]; rfl
theorem irr {a : V} (ha : plainV a) : ltV a a = false := by
  cases a <;> first | exact ha.elim | skip
  · rfl
  · rw [lt_ii]; simp
  · rw [lt_ss]; exact decide_eq_false (List.lt_irrefl _)
theorem tr {a b c : V} (ha : plainV a) (hb : plainV b) (hc : plainV c) (h1 : ltV a b = true) (h2 : ltV b c = true) : ltV a c = true := by
  cases a <;> first | exact ha.elim | skip
  all_goals (cases b <;> first | exact hb.elim | skip)
  all_goals (cases c <;> first | exact hc.elim | skip)
  all_goals first | rfl | (exfalso; rw [lt_nn] at h1; cases h1; done) | (exfalso; rw [lt_in] at h1; cases h1; done) | (exfalso; rw [lt_sn] at h1; cases h1; done) | (exfalso; rw [lt_si] at h1; cases h1; done) | (exfalso; rw [lt_nn] at h2; cases h2; done) | (exfalso; rw [lt_in] at h2; cases h2; done) | (exfalso; rw [lt_sn] at h2; cases h2; done) | (exfalso; rw [lt_si] at h2; cases h2; done) | skip
  · rw [lt_ii, decide_eq_true_eq] at *; omega
  · rw [lt_ss, decide_eq_true_eq] at *; exact List.lt_trans h1 h2
theorem tri {a b : V} (ha : plainV a) (hb : plainV b) (h1 : ltV a b = false) (h2 : ltV b a = false) : a = b := by
  cases a <;> first | exact ha.elim | skip
  all_goals (cases b <;> first | exact hb.elim | skip)
  all_goals first | rfl | (exfalso; rw [lt_ni] at h1; cases h1; done) | (exfalso; rw [lt_ns] at h1; cases h1; done) | (exfalso; rw [lt_is] at h1; cases h1; done) | (exfalso; rw [lt_ni] at h2; cases h2; done) | (exfalso; rw [lt_ns] at h2; cases h2; done) | (exfalso; rw [lt_is] at h2; cases h2; done) | skip
  · rw [lt_ii, decide_eq_false_iff_not] at *
    congr 1; omega
  · rw [lt_ss, decide_eq_false_iff_not] at *
    congr 1
    exact PyProof.Rows.ext_toList (List.le_antisymm (List.not_lt.mp h2) (List.not_lt.mp h1))
theorem neg {a b c : V} (ha : plainV a) (hb : plainV b) (hc : plainV c) (h : ltV a c = true) : ltV a b = true ∨ ltV b c = true := by
  cases e : ltV a b with
  | true => exact .inl rfl
  | false =>
    cases e2 : ltV b a with
    | true => exact .inr (tr hb ha hc e2 h)
    | false => rw [tri ha hb e e2] at h; exact .inr h
theorem swo {xs : List V} (h : ∀ v ∈ xs, plainV v) : Swo xs ltV := ⟨fun a ha => irr (h a ha), fun a ha b hb c hc => tr (h a ha) (h b hb) (h c hc), fun a ha b hb c hc => neg (h a ha) (h b hb) (h c hc)⟩
/-- what holds while the items, in order, are put one behind the other: each once -/
structure Grow (ys : List V) (i : Nat) (fs : List V) : Prop where
  up : fs.Pairwise fun a b => ltV a b = true
  mem : ∀ v, v ∈ fs ↔ v ∈ ys.take i
  last : ∀ v, fs.getLast? = some v → ∃ k, k < i ∧ ys[k]? = some v
  len : fs.length ≤ i
theorem Grow.start (ys : List V) : Grow ys 0 [] := ⟨List.Pairwise.nil, fun v => by simp, fun v h => by simp at h, Nat.zero_le _⟩
theorem take_succ_mem {ys : List V} {i : Nat} {x v : V} (hx : ys[i]? = some x) : v ∈ ys.take (i + 1) ↔ v ∈ ys.take i ∨ v = x := by
  rw [List.take_succ, hx]; simp
theorem Grow.skip {ys fs : List V} {i : Nat} {x l : V} (g : Grow ys i fs) (p : ∀ v ∈ ys, plainV v) (so : ys.Pairwise fun a b => ltV b a = false) (hx : ys[i]? = some x) (hl : fs.getLast? = some l) (h : ltV l x = false) : Grow ys (i + 1) fs := by
  have px := p x (List.mem_of_getElem? hx)
  have pl : plainV l := p l (List.mem_of_mem_take ((g.mem l).mp (List.mem_of_getLast? hl)))
  have hxl : ltV x l = false := by
    obtain ⟨k, hk, e⟩ := g.last l hl
    obtain ⟨k1, e1⟩ := List.getElem?_eq_some_iff.mp e
    obtain ⟨i1, e2⟩ := List.getElem?_eq_some_iff.mp hx
    have := (List.pairwise_iff_getElem.mp so) k i k1 i1 hk
    rw [e1, e2] at this
    exact this
  have e : l = x := tri pl px h hxl
  refine ⟨g.up, fun v => ?_, fun v hv => ?_, Nat.le_succ_of_le g.len⟩
  · rw [take_succ_mem hx, g.mem v]
    constructor
    · exact fun h => .inl h
    · rintro (h | h)
      · exact h
      · rw [h, ← e]; exact (g.mem l).mp (List.mem_of_getLast? hl)
  · obtain ⟨k, hk, e⟩ := g.last v hv
    exact ⟨k, by omega, e⟩
end Pl


end
section
set_option Elab.async false
set_option linter.all false
set_option maxRecDepth 100000
set_option maxHeartbeats 400000
namespace L2
open PySem PySem.Spec PyProof.Rows
/-- the tuples are kept -/
def SameT (H H' : Hp) : Prop := ∀ b xs, H b = some (.tup xs) → H' b = some (.tup xs)
theorem Same.t {H H' : Hp} (s : Same H H') : SameT H H' := fun b xs e => s b _ e
theorem SameT.refl (H : Hp) : SameT H H := fun _ _ e => e
theorem SameT.trans {H H1 H2 : Hp} (a : SameT H H1) (b : SameT H1 H2) : SameT H H2 := fun c xs e => b c xs (a c xs e)
/-- the codes of a number's figures -/
def nd (m : Nat) : List Nat := (Nat.toDigits 10 m).map Char.toNat
end L2


end
section
set_option Elab.async false
set_option linter.all false
set_option maxRecDepth 100000
set_option maxHeartbeats 400000
namespace L2
open PySem PySem.Spec PyProof.Rows
def noStar : Expr → Bool
  | .Starred _ _ => false
  | _ => true
theorem star_cons {e : Expr} {es : List Expr} {env : Env} (h : noStar e = true) : starEach (e :: es) env = (false, eval e env) :: starEach es env := by
  cases e <;> first | rfl | (exact absurd h Bool.false_ne_true)
theorem pa_c {X : Cx} {e : Expr} {es : List Expr} {te : TE} {t : TA} (ha : PE X e te) (hr : PA X es t) (hn : noStar e = true := by rfl) : PA X (e :: es) (tCons te t) := pa_cons ha hr (star_cons hn)
end L2


end
section
set_option Elab.async false
set_option linter.all false
set_option maxRecDepth 100000
set_option maxHeartbeats 400000
namespace L2
open PySem PySem.Spec PyProof.Rows
section
variable {prog : Program} {w : World} {A : Around} {E : Value → Shared → Prop} {s : Shared}
structure ZipAt (h : Heap) (z TI TO i1 i2 : Addr) (f0 : Value) : Prop where
  z : IsZip h z TI TO f0
  ti : IsPair h TI (.ref i1) (.ref i2)
  to : ∃ a b, IsPair h TO a b
theorem ZipAt.same {h h' : Heap} {z TI TO i1 i2 c : Addr} {f0 : Value} (x : ZipAt h z TI TO i1 i2 f0) (sb : Heap.SameBut c h h') (n1 : z ≠ c) (n2 : TI ≠ c) (n3 : TO ≠ c) : ZipAt h' z TI TO i1 i2 f0 :=
  ⟨(sb.2 _ n1).trans x.z, (sb.2 _ n2).trans x.ti, let ⟨a, b, e⟩ := x.to; ⟨a, b, (sb.2 _ n3).trans e⟩⟩
variable {z TI TO i1 i2 : Addr} {fp1 fp2 : List Addr} {n1 n2 i : Nat} {P1 P2 : Nat → Value → Prop} {S1 S2 : Nat → Heap → Prop}
end
end L2


end
section
set_option Elab.async false
set_option linter.all false
set_option maxRecDepth 100000
set_option maxHeartbeats 400000
namespace L2
open PySem PySem.Spec PyProof.Rows
def SqB (tup : Bool) (H : Hp) (a : Addr) (xs : List V) : Prop := H a = some (if tup then .tup xs else .lst xs)
theorem SqB.inj {tup : Bool} {H : Hp} {a : Addr} {xs ys : List V} (h : SqB tup H a xs) (h' : SqB tup H a ys) : xs = ys := by
  unfold SqB at h h'
  rw [h] at h'
  cases tup <;> simpa using h'
def seqName (tup : Bool) : String := if tup then "tuple" else "list"
def SeqAtB (tup : Bool) (h : Heap) (a : Addr) (its : Array Value) : Prop := if tup = true then IsTup h a its else h.IsList a its
def IterB (tup : Bool) (h : Heap) (it a : Addr) (i : Nat) : Prop := if tup = true then h.IsTupleIter it a i else h.IsListIter it a i
theorem SeqAtB.cls {tup : Bool} {h : Heap} {a : Addr} {its : Array Value} (x : SeqAtB tup h a its) : ∃ o, h.get? a = some o ∧ o.cls = .type (seqName tup) := by
  cases tup with
  | true => obtain ⟨o, e, c, _⟩ := (x : IsTup h a its); exact ⟨o, e, c⟩
  | false => obtain ⟨o, e, c, _⟩ := (x : h.IsList a its); exact ⟨o, e, c⟩
theorem IterB.get {tup : Bool} {h : Heap} {it a : Addr} {i : Nat} (x : IterB tup h it a i) : ∃ o, h.get? it = some o ∧ (o.cls = .type "tuple_iterator" ∨ o.cls = .type "list_iterator") ∧ o.data = .fields #[.ref a, .int i 0] := by
  cases tup with
  | true => obtain ⟨o, e, c, d⟩ := (x : h.IsTupleIter it a i); exact ⟨o, e, .inl c, d⟩
  | false => obtain ⟨o, e, c, d⟩ := (x : h.IsListIter it a i); exact ⟨o, e, .inr c, d⟩
theorem IterB.keep {tup : Bool} {h h' : Heap} {it a : Addr} {i : Nat} (x : IterB tup h it a i) (k : ∀ o, h.get? it = some o → h'.get? it = some o) : IterB tup h' it a i := by
  cases tup with
  | true => obtain ⟨o, e, r⟩ := (x : h.IsTupleIter it a i); exact (⟨o, k o e, r⟩ : h'.IsTupleIter it a i)
  | false => obtain ⟨o, e, r⟩ := (x : h.IsListIter it a i); exact (⟨o, k o e, r⟩ : h'.IsListIter it a i)
def ItZ (ta tb : Bool) (a b : Addr) : It :=
  ⟨fun i H => ∃ xs ys x y, SqB ta H a xs ∧ SqB tb H b ys ∧ xs[i]? = some x ∧ ys[i]? = some y,
   fun i H v H' => ∃ T x y, H T = none ∧ v = .ref T ∧ H' = upd H T (.tup [x, y]) ∧ (∀ xs, SqB ta H a xs → xs[i]? = some x) ∧ ∀ ys, SqB tb H b ys → ys[i]? = some y,
   fun i H => ∃ xs, SqB ta H a xs ∧ xs.length = i⟩
section
variable {prog : Program} {w : World} {A : Around} {E : Value → Shared → Prop} {s : Shared}
theorem SeqAtB.keep {tup : Bool} {h h' : Heap} {a : Addr} {its : Array Value} (x : SeqAtB tup h a its) (k : ∀ o, h.get? a = some o → h'.get? a = some o) : SeqAtB tup h' a its := by
  cases tup with
  | true => obtain ⟨o, e, r⟩ := (x : IsTup h a its); exact (⟨o, k o e, r⟩ : IsTup h' a its)
  | false => obtain ⟨o, e, r⟩ := (x : h.IsList a its); exact (⟨o, k o e, r⟩ : h'.IsList a its)
end
section
variable {X : Cx} {ea eb : Expr} {ua ub : TE} {p pos tpos : Pos} {elts : List Expr} {kk : Nat}
def iZip (ta tb : Bool) (ua ub : TE) : TI := fun σ H R => ua σ H fun x H1 => ub σ H1 fun y H2 => ∃ a b xs ys, x = .ref a ∧ y = .ref b ∧ SqB ta H2 a xs ∧ SqB tb H2 b ys ∧ R (ItZ ta tb a b) H2
theorem tFor_zip {ta tb : Bool} {g : TG} {t : TS} {D : Ends} {σ : St} {H : Hp} : tFor (iZip ta tb ua ub) g t D σ H = ua σ H fun x H1 => ub σ H1 fun y H2 => ∃ a b xs ys, x = .ref a ∧ y = .ref b ∧ SqB ta H2 a xs ∧ SqB tb H2 b ys ∧ FoR (ItZ ta tb a b) g t D σ H2 := rfl
end
end L2


end
section
set_option Elab.async false
set_option linter.all false
set_option maxRecDepth 100000
set_option maxHeartbeats 400000
namespace L2
open PySem PySem.Spec PyProof.Rows
section
variable {X : Cx}
theorem list_ne_of {prog : Program} {w : World} {A : Around} {E : Value → Shared → Prop} {s : Shared} {a b : Addr} {us ws : Array Value} {r : Bool} {Q : Value → Shared → Prop} (ha : s.heap.IsList a us) (hb : s.heap.IsList b ws) (hu : A.units < cLine)
    (h : (us.size ≠ ws.size ∧ r = true) ∨ (us.size = ws.size ∧ ∃ e : Nat → Bool, (∀ j (h1 : j < us.size) (h2 : j < ws.size), SeqAt.EqAt A.in1 s us[j] ws[j] (e j)) ∧ r = !(List.range us.size).all e)) (q : Q (.bool r) s) :
    wpAny (model prog w) A (compareOp .NotEq (.ref a) (.ref b)) Q E s := by
  obtain ⟨⟨c1, d1, dt1, sl1⟩, g1, hc1, n1, hd1⟩ := id ha
  obtain ⟨⟨c2, d2, dt2, sl2⟩, g2, hc2, n2, hd2⟩ := id hb
  simp only at hc1 hd1 hc2 hd2
  subst hc1 hd1 hc2 hd2
  rcases h with ⟨hs, rfl⟩ | ⟨hs, e, he, rfl⟩
  · exact richCompare_meets_room (op := .NotEq) ⟨_, g1, rfl⟩ ⟨_, g2, rfl⟩ F.slot_list_ne F.entry_list_ne (F.args_list_ne_2 _ _) (SeqAt.list_ne_lengthsAt a b us ws n1 n2 d1 d2 sl1 sl2 (by simpa using hs))
      ⟨g1, g2, show Value.bool true ≠ Value.notImplemented ∧ Q (.bool true) s from ⟨(fun x => nomatch x), q⟩⟩ hu
  · exact richCompare_meets_room (op := .NotEq) ⟨_, g1, rfl⟩ ⟨_, g2, rfl⟩ F.slot_list_ne F.entry_list_ne (F.args_list_ne_2 _ _) (SeqAt.list_neAt a b us ws n1 n2 d1 d2 sl1 sl2 hs e)
      ⟨g1, g2, he, show Value.bool (!(List.range us.size).all e) ≠ Value.notImplemented ∧ Q (.bool (!(List.range us.size).all e)) s from ⟨(fun x => nomatch x), q⟩⟩ hu
theorem op_neL (hu : X.A.units < cLine) : OpR X (compareOp .NotEq) (rEqL X.K true) := by
  intro pins s σ H x y v u Q I rx ry h
  obtain ⟨a, b, xs, ys, rfl, rfl, ha, hb, fx, fy, q⟩ := h
  cases rx
  cases ry
  obtain ⟨its, r1, p1, _⟩ := I.list ha
  obtain ⟨its2, r2, p2, _⟩ := I.list hb
  have l1 := r1.length
  have l2 := r2.length
  rw [if_pos rfl] at q
  refine list_ne_of (r := !eqVs xs ys) p1.isList p2.isList hu ?_ ⟨.bl _, H, I, rfl, q⟩
  by_cases hl : xs.length = ys.length
  · refine .inr ⟨by simp; omega, fun i => eqV (xs.getD i .non) (ys.getD i .non), fun j h1 h2 => eqVs_flat r1 r2 fx fy j h1 h2, ?_⟩
    unfold eqVs
    rw [hl, Nat.min_self, beq_self_eq_true, Bool.and_true, List.size_toArray, ← l1, hl]
  · refine .inl ⟨by simp; omega, ?_⟩
    unfold eqVs
    rw [beq_eq_false_iff_ne.mpr hl, Bool.and_false]; rfl
end
end L2


end
section
set_option Elab.async false
set_option linter.all false
set_option maxRecDepth 100000
set_option maxHeartbeats 400000
namespace L2
open PySem PySem.Spec PyProof.Rows
section
variable {X : Cx}
def rAll (K : PySem.W.Frag) : List V → Hp → VK → Prop := fun xs H Q => ∃ (a : Addr) (bs : List Bool), xs = [.ref a] ∧ SqL K H a (bs.map V.bl) ∧ Q (.bl (bs.all id)) H
def tDNew : TE := fun _ H Q => ∀ p, H p = none → Q (.ref p) (upd H p (.dK []))
def rEqN (K : PySem.W.Frag) : R2 := fun x y H Q => ∃ a b xs ys, x = .ref a ∧ y = .ref b ∧ SqL K H a xs ∧ SqL K H b ys ∧ ((xs.length ≠ ys.length ∧ Q (.bl false) H) ∨ (xs.all flatV = true ∧ ys.all flatV = true ∧ Q (.bl (eqVs xs ys)) H))
theorem tLc_rng2 {ta : TA} {tt : TT} {te : TE} {σ : St} {H : Hp} {Q : VK} : tLc (iRng2 ta) tt te σ H Q = ta σ H fun vs H1 => ∃ i j : Int, vs = [.int i, .int j] ∧ (-(2 ^ 62) ≤ i ∧ i < 2 ^ 62 ∧ -(2 ^ 62) ≤ j ∧ j < 2 ^ 62) ∧ LcR (Itr i (j - i).toNat) tt te σ Q H1 := rfl
end
end L2


end
section
set_option Elab.async false
set_option linter.all false
set_option maxRecDepth 100000
set_option maxHeartbeats 400000
namespace L2
open PySem PySem.Spec PyProof.Rows
/-- all is kept, but that lists may have other items -/
def SameL (H H' : Hp) : Prop := ∀ b o, H b = some o → H' b = some o ∨ ((∃ xs, o = .lst xs) ∧ ∃ ys, H' b = some (.lst ys))
theorem Same.l {H H' : Hp} (s : Same H H') : SameL H H' := fun b o e => .inl (s b o e)
theorem SameL.refl (H : Hp) : SameL H H := (Same.refl H).l
theorem SameL.trans {H H1 H2 : Hp} (a : SameL H H1) (b : SameL H1 H2) : SameL H H2 := fun c o e => by
  rcases a c o e with h | ⟨⟨xs, rfl⟩, ys, h⟩
  · exact b c o h
  · rcases b c _ h with h' | ⟨_, zs, h'⟩
    · exact .inr ⟨⟨xs, rfl⟩, ys, h'⟩
    · exact .inr ⟨⟨xs, rfl⟩, zs, h'⟩
theorem SameL.tup {H H' : Hp} (s : SameL H H') {b : Addr} {xs : List V} (e : H b = some (.tup xs)) : H' b = some (.tup xs) := by
  rcases s b _ e with h | ⟨⟨ys, h⟩, _⟩
  · exact h
  · cases h
theorem SameL.dK {H H' : Hp} (s : SameL H H') {b : Addr} {xs : List (Key × V)} (e : H b = some (.dK xs)) : H' b = some (.dK xs) := by
  rcases s b _ e with h | ⟨⟨ys, h⟩, _⟩
  · exact h
  · cases h
theorem SameL.lst {H H' : Hp} (s : SameL H H') {b : Addr} {xs : List V} (e : H b = some (.lst xs)) : ∃ ys, H' b = some (.lst ys) := by
  rcases s b _ e with h | ⟨_, ys, h⟩
  · exact ⟨xs, h⟩
  · exact ⟨ys, h⟩
end L2
namespace Th
open PySem L2 Pl
def signB (c : Nat) : Bool := decide (32 ≤ c ∧ c ≤ 126 ∧ c ≠ 37)
def goodZ (z : Str) : Prop := z.length ≤ 60 ∧ ∀ c ∈ z.cps.toList, signB c = true ∨ c = 9 ∨ c = 10
def flatG : V → Prop
  | .non => True
  | .bl _ => True
  | .int _ => True
  | .str z => goodZ z
  | _ => False
/-- what a thing is, n tuples deep -/
def TT : Nat → Hp → V → Prop
  | 0, H, v => flatG v ∨ ∃ a, v = .ref a ∧ ((∃ xs, H a = some (.lst xs)) ∨ H a = some (.dK []) ∨ ∃ xs, H a = some (.tup xs) ∧ xs.length ≤ 60)
  | n + 1, H, v => flatG v ∨ ∃ a, v = .ref a ∧ ((∃ xs, H a = some (.lst xs)) ∨ H a = some (.dK []) ∨ ∃ xs, H a = some (.tup xs) ∧ xs.length ≤ 60 ∧ ∀ u ∈ xs, TT n H u)
theorem TT.mono : ∀ {n : Nat} {H H' : Hp} {v : V}, SameL H H' → TT n H v → TT n H' v
  | 0, H, H', v, s, h => by
    rcases h with h | ⟨a, e, h | h | ⟨xs, h, l⟩⟩
    · exact .inl h
    · obtain ⟨xs, h⟩ := h; exact .inr ⟨a, e, .inl (s.lst h)⟩
    · exact .inr ⟨a, e, .inr (.inl (s.dK h))⟩
    · exact .inr ⟨a, e, .inr (.inr ⟨xs, s.tup h, l⟩)⟩
  | n + 1, H, H', v, s, h => by
    rcases h with h | ⟨a, e, h | h | ⟨xs, h, l, p⟩⟩
    · exact .inl h
    · obtain ⟨xs, h⟩ := h; exact .inr ⟨a, e, .inl (s.lst h)⟩
    · exact .inr ⟨a, e, .inr (.inl (s.dK h))⟩
    · exact .inr ⟨a, e, .inr (.inr ⟨xs, s.tup h, l, fun u hu => TT.mono s (p u hu)⟩)⟩
end Th


end
section
set_option Elab.async false
set_option linter.all false
set_option maxRecDepth 100000
set_option maxHeartbeats 400000
namespace L2
open PySem PySem.Spec PyProof.Rows
/-- what the head of its traceback is marked with -/
def HeadIs (h : Heap) (Y : Addr → Prop) (e : Addr) (vs : Array Value) : Option Value → Prop
  | none => vs[1]? = some .none
  | some v => ∃ T oT ts, vs[1]? = some (.ref T) ∧ T ≠ e ∧ (Y T ∧ oT.cls = .type "traceback") ∧ h.get? T = some oT ∧ oT.data = .fields ts ∧ ts[3]? = some v
/-- the exceptions behind an exception: each one's context is the next -/
def Links : List (Addr × Obj) → Value → Prop
  | [], c => c = .none
  | p :: r, c => c = .ref p.1 ∧ ∃ va c', p.2.data = .fields va ∧ va[2]? = some c' ∧ Links r c'
/-- they lie in the heap -/
def Lie (h : Heap) (Y : Addr → Prop) (e : Addr) (ch : List (Addr × Obj)) : Prop := (e :: ch.map (·.1)).Nodup ∧ ∀ p ∈ ch, h.get? p.1 = some p.2 ∧ p.2.cls ≠ .type "traceback" ∧ (∃ va, p.2.data = .fields va) ∧ Y p.1
/-- the record at e, of the class cls, with its dict at dx and the exceptions ch behind it; Y: where the traceback's records may lie -/
def Exc (h : Heap) (Y : Addr → Prop) (e : Addr) (cls : Value) (dx : Option Addr) (ch : List (Addr × Obj)) (fl : Option Value) : Prop :=
  ∃ oe vs, h.get? e = some oe ∧ oe.cls = cls ∧ oe.dict = dx ∧ oe.data = .fields vs ∧ ((∃ c, vs[2]? = some c ∧ Links ch c) ∧ Lie h Y e ch) ∧ HeadIs h Y e vs fl
/-- what stays: all but e and the tracebacks in Y, and the frames' slots -/
structure Stay (Y : Addr → Prop) (e : Addr) (fs : List Addr) (h h' : Heap) : Prop where
  keep : ∀ b o, h.get? b = some o → b ≠ e → ¬ (Y b ∧ o.cls = .type "traceback") → b ∉ fs → h'.get? b = some o
  slot : ∀ b o, h.get? b = some o → (∀ vs, o.data ≠ .fields vs) → ∃ sl, h'.get? b = some { o with slots := sl }
  size : h.objs.size ≤ h'.objs.size
theorem Stay.refl (Y : Addr → Prop) (e : Addr) (fs : List Addr) (h : Heap) : Stay Y e fs h h := ⟨fun _ _ q _ _ _ => q, fun _ o q _ => ⟨o.slots, q⟩, Nat.le_refl _⟩
theorem Stay.trans {Y : Addr → Prop} {e : Addr} {fs : List Addr} {h₁ h₂ h₃ : Heap} (x : Stay Y e fs h₁ h₂) (y : Stay Y e fs h₂ h₃) : Stay Y e fs h₁ h₃ :=
  ⟨fun b o q a c d => y.keep b o (x.keep b o q a c d) a c d, fun b o q n => let ⟨_, e1⟩ := x.slot b o q n; let ⟨sl, e2⟩ := y.slot b _ e1 n; ⟨sl, e2⟩, Nat.le_trans x.size y.size⟩
theorem Stay.funs {Y : Addr → Prop} {e : Addr} {fs : List Addr} {h h' base : Heap} {l : List Env} (x : Stay Y e fs h h') (f : h.FunFrames base l) : h'.FunFrames base l :=
  f.of_keeps fun b o q n => let ⟨sl, e1⟩ := x.slot b o q n; ⟨_, e1, rfl⟩
theorem Lie.stay {Y : Addr → Prop} {e : Addr} {fs : List Addr} {h h' : Heap} {ch : List (Addr × Obj)} (l : Lie h Y e ch) (st : Stay Y e fs h h') (nf : ∀ b ∈ fs, ∃ o, h.get? b = some o ∧ ∀ vs, o.data ≠ .fields vs) : Lie h' Y e ch :=
  ⟨l.1, fun p hp => by
    obtain ⟨q, c, ⟨va, d⟩, y⟩ := l.2 p hp
    refine ⟨st.keep p.1 p.2 q (fun z => ?_) (fun z => c z.2) (fun z => ?_), c, ⟨va, d⟩, y⟩
    · exact (List.nodup_cons.mp l.1).1 (by rw [← z]; exact List.mem_map_of_mem hp)
    · obtain ⟨o, q', n⟩ := nf _ z
      rw [q] at q'; cases q'
      exact n va d⟩
theorem dict_mapF (o : Obj) (f) : (o.mapFields f).dict = o.dict := by
  obtain ⟨c, d, dt, sl⟩ := o; cases dt <;> rfl
/-- a record's field is set -/
theorem stay_set {Y : Addr → Prop} {e a : Addr} {fs : List Addr} {h : Heap} {o : Obj} {vs : Array Value} (i : Nat) (x : Value) (ho : h.get? a = some o) (hd : o.data = .fields vs) (ha : a = e ∨ (Y a ∧ o.cls = .type "traceback")) :
    Stay Y e fs h (h.update a (Obj.mapFields (·.setIfInBounds i x))) where
  keep b u q n1 n2 _ := by
    rw [Heap.get?_update_other _ _ (fun z => by subst z; rw [ho] at q; cases q; exact ha.elim n1 n2)]; exact q
  slot b u q n := ⟨u.slots, by
    rw [Heap.get?_update_other _ _ (fun z => by subst z; rw [ho] at q; cases q; exact n vs hd)]; exact q⟩
  size := by rw [Heap.size_update]; exact Nat.le_refl _
theorem set_get {a : Addr} {h : Heap} {o : Obj} {vs : Array Value} (i : Nat) (x : Value) (ho : h.get? a = some o) (hd : o.data = .fields vs) :
    (h.update a (Obj.mapFields (·.setIfInBounds i x))).get? a = some (o.mapFields (·.setIfInBounds i x)) := Heap.get?_update_self _ ho (Obj.isFreed_of_fields (Obj.data_mapFields hd _))
section
variable {M : Model} {A : Around} {E : Value → Shared → Prop} {s : Shared} {Y : Addr → Prop} {base : Heap} {env : Env} {outer : List Env} {L e : Addr} {cls : Value} {dx : Option Addr} {ch : List (Addr × Obj)} {fl : Option Value} {Q : Unit → Shared → Prop}
/-- the mark is taken away -/
theorem land_ok {fs : List Addr} {v : Value} (nf : ∀ b ∈ fs, ∃ o, s.heap.get? b = some o ∧ ∀ vs, o.data ≠ .fields vs) (x : Exc s.heap Y e cls dx ch (some v)) (q : ∀ h', Stay Y e fs s.heap h' → Exc h' Y e cls dx ch (some .none) → Q () { s with heap := h' }) : wpAny M A (setFlight (.ref e) none) Q E s := by
  obtain ⟨oe, vs, he, hc, hdx, hd, ⟨lk, ll⟩, T, oT, ts, h1, hTe, hY, hT, hdT, h3⟩ := x
  unfold setFlight
  refine wpAny_bind (wpAny_field he hd h1 ?_)
  rw [if_pos (show (Value.ref T != Value.none) = true from by simp)]
  have hsz : 3 < ts.size := (Array.getElem?_eq_some_iff.mp h3).1
  have st := stay_set (Y := Y) (e := e) (fs := fs) 3 ((none : Option Addr).elim Value.none fun f => rawInt f) hT hdT (.inr hY)
  refine wpAny_setField hT hdT hsz (q _ st ⟨oe, vs, ?_, hc, hdx, hd, ⟨lk, ll.stay st nf⟩, T, _, _, h1, hTe, ⟨hY.1, (Obj.cls_mapFields _ _).trans hY.2⟩, set_get 3 _ hT hdT, Obj.data_mapFields hdT _, ?_⟩)
  · rw [Heap.get?_update_other _ _ hTe]; exact he
  · simp [hsz]
/-- a new head for the traceback -/
theorem entry_ok {head : Value} {hadNext : Bool} (hfr : A.frames = some (env :: outer)) (hl : s.heap.FunFrames base (env :: outer)) (hf : env.frame = some L) (hy : ∀ b, s.heap.objs.size ≤ b → Y b) {oe : Obj} {vs : Array Value}
    (he : s.heap.get? e = some oe) (hc : oe.cls = cls) (hdx : oe.dict = dx) (hd : oe.data = .fields vs) (hsz : 1 < vs.size) (lk : ∃ c, vs[2]? = some c ∧ Links ch c) (ll : Lie s.heap Y e ch)
    (q : ∀ h', Stay Y e (frs (env :: outer)) s.heap h' → Exc h' Y e cls dx ch (some (rawInt L)) → Q () { s with heap := h' }) :
    wpAny M A (do let a ← frameOf env; let pl ← entryPlaceOf L hadNext; let b ← EntryCells.newEntry head a .none (rawInt L) .none pl; setField (.ref e) 1 b) Q E s := by
  refine wpAny_bind (wpAny_frameOf_fun hfr hl hf fun h₁ hs => ?_)
  refine wpAny_bind (wpAny_entryPlaceOf fun pl hpl => ?_)
  unfold EntryCells.newEntry newFields
  refine wpAny_bind (wpAny_newObj_type ?_ (hpl.sizeOk5 _ _ _ _ _))
  have hef : e ∉ frs (env :: outer) := fun hm => by
    obtain ⟨_, o, ho, hn⟩ := hl.mem hm
    rw [he] at ho; cases ho; exact hn vs hd
  have he1 : h₁.get? e = some oe := (hs.2.1 e hef).trans he
  have hne : h₁.objs.size ≠ e := Nat.ne_of_gt (Heap.lt_size he1)
  generalize htb : ({ cls := .type "traceback", dict := none, data := .fields ([head, .ref L, .none, rawInt L, .none] ++ (if pl.isEmpty then List.replicate 6 Value.none else pl)).toArray } : Obj) = tb
  have htd : tb.data = .fields ([head, .ref L, .none, rawInt L, .none] ++ (if pl.isEmpty then List.replicate 6 Value.none else pl)).toArray := by rw [← htb]
  have hfr' : tb.isFreed = false := Obj.isFreed_of_fields htd
  have he2 : (h₁.push tb).get? e = some oe := Heap.get?_push_of_some _ he1
  have hY : Y h₁.objs.size := hy _ (by rw [hs.1]; exact Nat.le_refl _)
  have htc : tb.cls = .type "traceback" := by rw [← htb]
  have st : Stay Y e (frs (env :: outer)) s.heap ((h₁.push tb).update e (Obj.mapFields (·.setIfInBounds 1 (Value.ref h₁.objs.size)))) := by
    refine Stay.trans ?_ (stay_set 1 _ he2 hd (.inl rfl))
    refine ⟨fun b o g _ _ n => Heap.get?_push_of_some _ ((hs.2.1 b n).trans g), fun b o g _ => ?_, ?_⟩
    · obtain ⟨sl, g1⟩ := hs.2.2 b o g
      exact ⟨sl, Heap.get?_push_of_some _ g1⟩
    · rw [← hs.1]; cases h₁; simp [Heap.push]
  refine wpAny_setField he2 hd hsz (q _ st ⟨_, _, set_get 1 _ he2 hd, (Obj.cls_mapFields _ _).trans hc, (dict_mapF _ _).trans hdx, Obj.data_mapFields hd _, ⟨?_, ll.stay st fun b hb => (hl.mem hb).2⟩, h₁.objs.size, tb, _, by simp [hsz], hne, ⟨hY, htc⟩, ?_, htd, ?_⟩)
  · obtain ⟨c, h2, l⟩ := lk
    exact ⟨c, by rw [Array.getElem?_setIfInBounds_ne (by decide)]; exact h2, l⟩
  · rw [Heap.get?_update_other _ _ (Ne.symm hne)]; exact Heap.get?_push_size _ hfr'
  · first | (simp; done) | (rcases hpl with rfl | ⟨_, _, _, _, _, _, _, rfl⟩ <;> simp)
/-- the frame is noted -/
theorem note_ok (hfr : A.frames = some (env :: outer)) (hl : s.heap.FunFrames base (env :: outer)) (hf : env.frame = some L) (hy : ∀ b, s.heap.objs.size ≤ b → Y b) (x : Exc s.heap Y e cls dx ch fl) (hfl : fl = none ∨ fl = some .none)
    (q : ∀ h', Stay Y e (frs (env :: outer)) s.heap h' → Exc h' Y e cls dx ch (some (rawInt L)) → Q () { s with heap := h' }) : wpAny M A (noteFrame (.ref e) env) Q E s := by
  obtain ⟨oe, vs, he, hc, hdx, hd, ⟨lk, ll⟩, hh⟩ := x
  unfold noteFrame
  simp only [hf]
  rcases hfl with rfl | rfl
  · have h1 : vs[1]? = some .none := hh
    refine wpAny_bind (wpAny_field he hd h1 ?_)
    rw [if_neg (by decide)]
    exact entry_ok hfr hl hf hy he hc hdx hd (Array.getElem?_eq_some_iff.mp h1).1 lk ll q
  · obtain ⟨T, oT, ts, h1, hTe, hY, hT, hdT, h3⟩ := hh
    refine wpAny_bind (wpAny_field he hd h1 ?_)
    rw [if_pos (show (Value.ref T != Value.none) = true from by simp)]
    refine wpAny_bind (wpAny_field hT hdT h3 ?_)
    rw [if_neg (show ¬ ((Value.none == rawInt L) = true) from by simp [rawInt])]
    refine wpAny_bind (wpAny_setField hT hdT (Array.getElem?_eq_some_iff.mp h3).1 ?_)
    have st : Stay Y e (frs (env :: outer)) s.heap (s.heap.update T (Obj.mapFields (·.setIfInBounds 3 Value.none))) := stay_set 3 _ hT hdT (.inr hY)
    refine entry_ok (s := { s with heap := s.heap.update T (Obj.mapFields (·.setIfInBounds 3 Value.none)) }) hfr (st.funs hl) hf (fun b hb => hy b (Nat.le_trans st.size hb)) ((Heap.get?_update_other _ _ hTe).trans he) hc hdx hd (Array.getElem?_eq_some_iff.mp h1).1 lk (ll.stay st fun b hb => (hl.mem hb).2) fun h' t x' => q h' (st.trans t) x'
/-- it leaves a frame -/
theorem leave_ok (hfr : A.frames = some (env :: outer)) (hl : s.heap.FunFrames base (env :: outer)) (hf : env.frame = some L) (hy : ∀ b, s.heap.objs.size ≤ b → Y b) (x : Exc s.heap Y e cls dx ch fl) (hfl : fl = none ∨ fl = some .none)
    (q : ∀ h', Stay Y e (frs (env :: outer)) s.heap h' → Exc h' Y e cls dx ch (some .none) → Q () { s with heap := h' }) : wpAny M A (leaving env (.ref e)) Q E s := by
  unfold leaving
  refine wpAny_bind (note_ok hfr hl hf hy x hfl fun h₁ st x1 => ?_)
  exact land_ok (s := { s with heap := h₁ }) (fs := frs (env :: outer)) (fun b hb => ((st.funs hl).mem hb).2) x1 fun h₂ st2 x2 => q h₂ (st.trans st2) x2
end
end L2


end
section
set_option Elab.async false
set_option linter.all false
set_option maxRecDepth 100000
set_option maxHeartbeats 400000
namespace L2
open PySem PySem.Spec PyProof.Rows
theorem Exc.mono {h : Heap} {Y Y' : Addr → Prop} {e : Addr} {cls : Value} {dx : Option Addr} {ch : List (Addr × Obj)} {fl : Option Value} (x : Exc h Y e cls dx ch fl) (k : ∀ b, Y b → Y' b) : Exc h Y' e cls dx ch fl := by
  obtain ⟨oe, vs, he, hc, hdx, hd, ⟨lk, l1, l2⟩, hh⟩ := x
  refine ⟨oe, vs, he, hc, hdx, hd, ⟨lk, l1, fun p hp => let ⟨a, b, c, d⟩ := l2 p hp; ⟨a, b, c, k _ d⟩⟩, ?_⟩
  cases fl with
  | none => exact hh
  | some v => obtain ⟨T, oT, ts, h1, h2, h3, r⟩ := hh; exact ⟨T, oT, ts, h1, h2, ⟨k T h3.1, h3.2⟩, r⟩
/-- young and not tracked -/
def Yg (old : Heap) (H : Hp) (b : Addr) : Prop := old.get? b = none ∧ H b = none
/-- how an exception lies behind a call -/
def CX1 (P : Program) (w : World) : CXT := fun outer H s E e s' => ∃ ea cls dx ch H', e = .ref ea ∧ s'.os = s.os ∧ AllBare s'.gens ∧ Un (frs outer) [] H H' s.heap s'.heap ∧ HOk P w H' s'.heap ∧
  Exc s'.heap (Yg s.heap H') ea cls dx ch (some .none) ∧ s.heap.get? ea = none ∧ H' ea = none ∧ E cls dx H'
/-- what is thrown in the body reaches the wish -/
def Throws (X : Cx) (E : XK) : Prop := ∀ (pins : List (Addr × Obj)) (σ : St) (H : Hp) (s : Shared) (e : Addr) (cls : Value) (dx : Option Addr) (ch : List (Addr × Obj)) (fl : Option Value), Inv X pins σ H s → Exc s.heap (Yg X.s₀.heap H) e cls dx ch fl → (fl = none ∨ fl = some .none) →
  X.s₀.heap.get? e = none → H e = none → E cls dx H → X.xe (.ref e) s
section
variable {X : Cx} {E : XK} {pins : List (Addr × Obj)} {σ : St} {H : Hp} {s : Shared}
theorem Inv.young (I : Inv X pins σ H s) (hx : X.ex = []) {b : Addr} (h : s.heap.get? b = none) : X.s₀.heap.get? b = none := by
  cases q : X.s₀.heap.get? b with
  | none => rfl
  | some o =>
    obtain ⟨o', e⟩ := I.base.there b o q (by rw [hx]; simp)
    rw [h] at e; cases e
theorem frs_cons {env : Env} {outer : List Env} {L : Addr} (h : env.frame = some L) : frs (env :: outer) = L :: frs outer := by unfold frs; rw [List.filterMap_cons, h]
end
section
variable {P : Program} {w : World} {K : PySem.W.Frag} {mg : Str → Option Value} {base : Heap} {N : List Str} {qual : Str} {scope : Scope} {f : Addr} {cd : Value} {A : Around} {outer : List Env} {s : Shared} {H : Hp} {E : XK}
theorem throws0 : Throws (cxOf (CX1 P w) P w K mg base N qual scope f cd A outer s H E) E := by
  intro pins σ H' s' e cls dx ch fl I x hfl n1 n2 hE
  have n1 : s.heap.get? e = none := n1
  have fr : frs (envOfC qual scope s.heap.objs.size f cd :: outer) = s.heap.objs.size :: frs outer := frs_cons rfl
  have stk : s'.heap.FunFrames base (envOfC qual scope s.heap.objs.size f cd :: outer) := I.stack
  have sf : ∀ b ∈ frs (envOfC qual scope s.heap.objs.size f cd :: outer), H' b = none := I.stkFree
  have ib : Un (frs outer) [] H H' s.heap s'.heap := I.base
  show wpAny (model P w) _ (leaving _ (.ref e)) _ _ s'
  refine leave_ok (base := base) (Y := Yg s.heap H') (L := s.heap.objs.size) (fl := fl) I.ok.frames stk rfl (fun b hb => ⟨Heap.get?_none_of_le (Nat.le_trans I.sz hb), I.hok.fresh hb⟩) x hfl fun h' st x' => ?_
  have nf : ∀ b o, s.heap.get? b = some o → b ∉ frs outer → b ∉ frs (envOfC qual scope s.heap.objs.size f cd :: outer) := fun b o q hb hm => by
    rw [fr] at hm
    rcases List.mem_cons.mp hm with z | z
    · rw [z] at q; exact absurd (Heap.lt_size q) (Nat.lt_irrefl _)
    · exact hb z
  have ne : ∀ b o, s.heap.get? b = some o → b ≠ e := fun b o q z => by rw [z, n1] at q; cases q
  have ny : ∀ b o (o' : Obj), s.heap.get? b = some o → ¬ (Yg s.heap H' b ∧ o'.cls = .type "traceback") := fun b o o' q y => by rw [y.1.1] at q; cases q
  refine ⟨e, cls, dx, ch, H', rfl, I.os, I.bare, ⟨fun b o q n hb hx => ?_, fun b o q n hb hx => ?_, ib.free, fun b o q hx => ?_, ib.tups, ib.frzs, ib.tbls⟩, fun b u eb => ?_, x', n1, n2, hE⟩
  · exact st.keep b o (ib.keep b o q n hb hx) (ne b o q) (ny b o _ q) (nf b o q hb)
  · obtain ⟨sl, q1⟩ := ib.slot b o q n hb hx
    obtain ⟨_, o2, q2, hn⟩ := stk.mem (show b ∈ frs _ by rw [fr]; exact List.mem_cons_of_mem _ hb)
    rw [q1] at q2; cases q2
    obtain ⟨sl', q3⟩ := st.slot b _ q1 hn
    exact ⟨sl', q3⟩
  · obtain ⟨o', q1⟩ := ib.there b o q hx
    by_cases hn : ∀ vs, o'.data ≠ .fields vs
    · obtain ⟨sl, q2⟩ := st.slot b o' q1 hn
      exact ⟨_, q2⟩
    · refine ⟨o', st.keep b o' q1 (ne b o q) (ny b o _ q) fun hm => ?_⟩
      obtain ⟨_, o2, q2, hn2⟩ := stk.mem hm
      rw [q1] at q2; cases q2
      exact hn hn2
  · refine (I.hok b u eb).stay (fun c v hc q => ?_) (fun _ q => q) fun _ _ q => q
    have hc' : H' c ≠ none := by
      rcases hc with z | z
      · rw [z, eb]; simp
      · rw [z]; simp
    exact st.keep c v q (fun z => hc' (by rw [z]; exact n2)) (fun y => hc' y.1.2) fun hm => hc' (sf c hm)
end
theorem ObjOk.obj {P : Program} {w : World} {H : Hp} {h : Heap} {a : Addr} {o : HO} (x : ObjOk P w H h a o) : ∃ ob, h.get? a = some ob := by
  cases o with
  | lst xs => obtain ⟨_, _, _, _, e⟩ := x; exact ⟨_, e⟩
  | tup xs => obtain ⟨_, _, _, p⟩ := x; obtain ⟨o, e, _⟩ := p; exact ⟨_, e⟩
  | dK kvs => obtain ⟨_, _, _, _, o, _, _, e, _⟩ := x; exact ⟨_, e⟩
  | dT kvs => obtain ⟨_, _, _, _, o, _, _, e, _⟩ := x; exact ⟨_, e⟩
  | set S n => obtain ⟨o, _, _, _, e, _⟩ := x; exact ⟨_, e⟩
  | ins C dx fs => obtain ⟨_, _, _, e, _⟩ := x; exact ⟨_, e⟩
  | own y => exact x
  | xd fs => obtain ⟨_, ⟨_, _, _, e, _⟩, _⟩ := x; exact ⟨_, e⟩
  | rng lo hi => obtain ⟨_, _, _, e⟩ := x; exact ⟨_, e⟩
  | frz ob u => obtain ⟨e, _⟩ := x; exact ⟨_, e⟩
  | tbl ps => exact ⟨_, x⟩
  | met f y => exact ⟨_, x⟩
  | ext φ => obtain ⟨_, e, _⟩ := x; exact e
theorem HOk.none_of {P : Program} {w : World} {H : Hp} {h : Heap} {a : Addr} (x : HOk P w H h) (e : h.get? a = none) : H a = none := by
  cases q : H a with
  | none => rfl
  | some u => obtain ⟨o, e'⟩ := (x a u q).obj; rw [e] at e'; cases e'
/-- an own class of exceptions, its bases' row bm; behind the own ones bmB -/
structure ExcC (K : PySem.W.Frag) (C : Addr) (bm bmB : List Value) (newId : String) : Prop where
  ex : ∃ nm q N bs hdct sn sub ab col dd k0 k1 k2 k3 k5, K.lookup C = some (excClassObj nm q C N bs bm hdct sn sub ab col dd k0 k1 k2 k3 k5 newId) ∧ PySem.W.nsOkIn K N = true ∧ PySem.W.nsIn K N "__init__" = some none
  tail : PySem.W.tailIn K bmB bm = true
section
variable {X : Cx} {E : XK} {x : Str} {C : Addr} {bm bmB : List Value} {B newId initId : String} {np cpos pos : Pos}
/-- the reading of a raise: what is wanted of the exception -/
def tRaise (E : XK) (cls : Value) : TS := fun _ _ H => E cls none H
theorem ps_raise0 (T : Throws X E) (hex : X.ex = []) (hcalm : X.calm = true) (hg : Gl X x) (hm : X.mg x = some (.ref C)) (c : ExcC X.K C bm bmB newId) (FB : ExcBaseFacts B newId initId bmB) (hdb : (x == ("__debug__" : Str)) = false := by decide) :
    PS X (.Raise (some (.Call (.Name x np) [] [] cpos)) none pos) (tRaise E (.ref C)) := by
  intro pins s σ H D I h
  obtain ⟨nm, q, N, bs, hdct, sn, sub, ab, col, dd, k0, k1, k2, k3, k5, lk, ok, hi⟩ := c.ex
  have KX := I.kIn
  have TL : OwnTail s.heap bmB bm := PySem.W.tail_of_in KX c.tail
  refine wpAny_Raise_call_subT (C := C) (nm := nm) (q := q) (N := N) (bs := bs) (bm := bm) (hdct := hdct) (sn := sn) (sub := sub) (ab := ab) (col := col) (dd := dd) (k0 := k0) (k1 := k1) (k2 := k2) (k3 := k3) (k5 := k5) FB (mN := s.heap.nsMap N) (TL.hasType FB.hasBase) (I.ok.hd hcalm) rfl (PySem.W.nsMap_none_of_in KX ok hi) (ld_glob I hg hm ⟨rfl, ?_⟩ hdb)
  refine evalArgs_empty ⟨rfl, Nat.zero_le _, KX _ _ lk, .of_isNs (PySem.W.isNs_of_in KX ok), TL, fun h' e mk => ?_⟩
  have I2 : Inv X pins σ H { s with heap := h' } := I.kept (t' := s.toks) mk.keeps
  obtain ⟨t, he, _⟩ := mk.there
  exact T pins σ H _ e (.ref C) none [] none I2 ⟨_, _, he, rfl, rfl, rfl, ⟨⟨.none, rfl, rfl⟩, by simp, fun p hp => by cases hp⟩, rfl⟩ (.inl rfl) (I.young hex mk.new) (I.hok.none_of mk.new) h
end
end L2


end
section
set_option Elab.async false
set_option linter.all false
set_option maxRecDepth 100000
set_option maxHeartbeats 400000
namespace L2
open PySem PySem.Spec PyProof.Rows
/-- what was there ahead of the call: all of the entry, all that is pinned -/
structure Old (X : Cx) (pins : List (Addr × Obj)) (old : Heap) : Prop where
  ent : ∀ b, old.get? b = none → X.s₀.heap.get? b = none
  pin : ∀ p ∈ X.pn ++ pins, old.get? p.1 ≠ none
def X1P (X : Cx) (pins : List (Addr × Obj)) (σ : St) (E : XK) (ev : Value) (s' : Shared) : Prop :=
  ∃ ea cls dx ch H' old, ev = .ref ea ∧ Inv X pins σ H' s' ∧ Exc s'.heap (Yg old H') ea cls dx ch (some .none) ∧ Old X pins old ∧ (∀ b, s'.heap.objs.size ≤ b → old.get? b = none) ∧ old.get? ea = none ∧ H' ea = none ∧ E cls dx H'
abbrev TE1 := St → Hp → VK → XK → Prop
abbrev TS1 := Ends → St → Hp → XK → Prop
def PE1 (X : Cx) (e : Expr) (t : TE1) : Prop :=
  ∀ (pins : List (Addr × Obj)) (s : Shared) (σ : St) (H : Hp) (Q : VK) (E : XK), Inv X pins σ H s → t σ H Q E → wpAny (model X.prog X.w) X.A (eval e X.env) (EP X pins σ Q) (X1P X pins σ E) s
def PS1 (X : Cx) (st : Stmt) (t : TS1) : Prop :=
  ∀ (pins : List (Addr × Obj)) (s : Shared) (σ : St) (H : Hp) (D : Ends) (E : XK), Inv X pins σ H s → t D σ H E → wpAny (model X.prog X.w) X.A (exec st X.env) (SP X pins D) (X1P X pins σ E) s
section
variable {X : Cx} {E : XK} {e : Expr} {es : List Expr} {t : TA} {t1 : TE1} {x : Str} {p pos : Pos} {k j : Nat} {f : Addr} {fd : FuncData} {ps : List Str} {sp : Sp}
theorem X1P.thrown {pins : List (Addr × Obj)} {σ : St} {ev : Value} {s' : Shared} (T : Throws X E) (h : X1P X pins σ E ev s') : X.xe ev s' := by
  obtain ⟨ea, cls, dx, ch, H', old, rfl, I, y, o, _, n1, n2, hE⟩ := h
  exact T pins σ H' s' ea cls dx ch _ I (y.mono fun b z => ⟨o.ent b z.1, z.2⟩) (.inr rfl) (o.ent _ n1) n2 hE
theorem PE1.pe (h : PE1 X e t1) (T : Throws X E) : PE X e (fun σ H Q => t1 σ H Q E) := fun pins s σ H Q I q => wpAny_mono (h pins s σ H Q E I q) (fun _ _ z => z) fun _ _ z => z.thrown T
theorem Inv.old {pins : List (Addr × Obj)} {σ : St} {H : Hp} {s : Shared} (I : Inv X pins σ H s) (hex : X.ex = []) : Old X pins s.heap :=
  ⟨fun b h => I.young hex h, fun p hp h => by rw [(I.pin p hp).1] at h; cases h⟩
/-- the callee runs -/
theorem run_fn1 {pins : List (Addr × Obj)} {σ : St} {H : Hp} {s : Shared} {Q : VK} {us : List Value} {vs : List V} (F : FnOk X.prog X.w X.K X.mg X.base (CX1 X.prog X.w) k f fd ps sp) (hr : Room k X.A) (hb : Binds X.K fd ps []) (hex : X.ex = [])
    (I : Inv X pins σ H s) (r : Vals vs us) (h : sp vs H Q E) : wpAny (model X.prog X.w) X.A (call (.ref f) us) (EP X pins σ Q) (X1P X pins σ E) s := by
  have hl : (us ++ []).length = ps.length := by rw [List.append_nil, ← r.length]; exact F.len _ _ _ _ h
  have b := hb s us I.kIn hl
  rw [List.append_nil] at b
  refine wpAny_call (codeAny_mono (F.run X.A X.stack s H ⟨us, []⟩ us vs Q E hr I.env0 b r h) fun res s' hq => ?_)
  cases res with
  | error ev =>
    obtain ⟨ea, cls, dx, ch, H', rfl, os, bare, un, hok, y, n1, n2, hE⟩ := hq
    refine ⟨ea, cls, dx, ch, H', s.heap, rfl, I.call' (ch := []) os un hok bare (fun b z => absurd z (by simp)), y, I.old hex, fun b hb => ?_, n1, n2, hE⟩
    cases q : s.heap.get? b with
    | none => rfl
    | some u =>
      obtain ⟨u', q'⟩ := un.there b u q (by simp)
      exact absurd (Nat.lt_of_lt_of_le (Heap.lt_size q') hb) (Nat.lt_irrefl _)
  | ok fl =>
    cases fl with
    | ret u => exact I.after hq
    | next => exact False.elim hq
    | brk => exact False.elim hq
    | cont => exact False.elim hq
def tCall1 (sp : Sp) (t : TA) : TE1 := fun σ H Q E => t σ H fun vs H1 => sp vs H1 Q E
theorem pa_nox {pins : List (Addr × Obj)} {σ : St} {H : Hp} {s : Shared} {Q : List V → Hp → Prop} {W : Value → Shared → Prop} (ha : PA X.nox es t) (I : Inv X pins σ H s) (q : t σ H Q) : wpAny (model X.prog X.w) X.A (spliced (backTo pos (starEach es X.env))) (AP X pins σ Q) W s :=
  wpAny_mono (ha pos pins s σ H Q (I.wish _) q) (fun _ _ ⟨vs, H', I', r, z⟩ => ⟨vs, H', I'.unwish, r, z⟩) fun _ _ z => False.elim z
theorem pe1_call (F : FnOk X.prog X.w X.K X.mg X.base (CX1 X.prog X.w) k f fd ps sp) (hr : Room k X.A) (hg : Gl X x) (hm : X.mg x = some (.ref f)) (hk : PySem.W.keepIn X.K (.ref f) = true) (hb : Binds X.K fd ps []) (hex : X.ex = [])
    (ha : PA X.nox (e :: es) t) (hdb : (x == ("__debug__" : Str)) = false := by decide) (he : starEach (e :: es) X.env = (false, eval e X.env) :: starEach es X.env := by rfl) (hpl : (backTo pos (starEach es X.env)).any (·.1) = false := by rfl) :
    PE1 X (.Call (.Name x p) (e :: es) [] pos) (tCall1 sp t) := by
  intro pins s σ H Q E I h
  refine wpAny_Call_Name_kw (ld_glob I hg hm ?_ hdb)
  refine PySem.W.callWith_K (h₀ := X.base) I.ok.mod.kin hk (thn (pa_nox ha I h) fun us s1 ⟨vs, H1, I1, r, q⟩ => ⟨I1.kIn, ?_⟩) he hpl
  exact run_fn1 F hr hb hex I1 r q
theorem ps1_expr (h : PE1 X e t1) (hs : swapsWith e none pos.line X.env = pure false := by rfl) : PS1 X (.Expr e pos) (fun D σ H E => t1 σ H (fun _ H1 => D.nx σ H1) E) := fun pins s σ H D E I q =>
  wpAny_Expr_any (thn (h pins s σ H _ E I q) fun v s1 ⟨x, H1, I1, r1, q1⟩ => ⟨σ, H1, I1, q1⟩) I.quiet hs
end
section
variable {X : Cx} {pins : List (Addr × Obj)} {σ : St} {H : Hp} {s : Shared}
theorem ns_slot {h h' : Heap} {a : Addr} {m : Str → Option Value} (hn : h.Ns a m) (k : ∀ o, h.get? a = some o → (∀ vs, o.data ≠ .fields vs) → ∃ sl, h'.get? a = some { o with slots := sl }) : h'.Ns a m := by
  obtain ⟨o, es, ep, ho, hd, r⟩ := hn
  obtain ⟨sl, e⟩ := k o ho fun vs q => by rw [hd] at q; cases q
  exact ⟨_, es, ep, e, hd, r⟩
/-- the exception's own records and the frames' slots have changed -/
theorem Inv.stayed {old h' : Heap} {e : Addr} (I : Inv X pins σ H s) (hex : X.ex = []) (o : Old X pins old) (n1 : old.get? e = none) (n2 : H e = none) (st : Stay (Yg old H) e (frs X.stack) s.heap h') : Inv X pins σ H { s with heap := h' } := by
  have ne : ∀ b, X.s₀.heap.get? b ≠ none → b ≠ e := fun b q z => q (by rw [z]; exact o.ent _ n1)
  have ny : ∀ b (u : Obj), X.s₀.heap.get? b ≠ none → ¬ (Yg old H b ∧ u.cls = .type "traceback") := fun b _ q y => q (o.ent _ y.1.1)
  have sub : ∀ b, b ∈ frs X.stack → b = X.env.locals ∨ b ∈ X.fs := fun b hb => List.mem_cons.mp (I.stkSub b hb)
  have nl : ∀ b u, X.s₀.heap.get? b = some u → b ≠ X.env.locals := fun b u q => Nat.ne_of_lt (Nat.lt_of_lt_of_le (Heap.lt_size q) I.ok.above)
  have xn : ∀ b : Addr, b ∉ X.ex := fun b z => by rw [hex] at z; exact absurd z (by simp)
  have ck : ∀ c v, s.heap.IsCell c v → ({ s with heap := h' } : Shared).heap.IsCell c v := fun c v ⟨oc, hc, hd⟩ => by
    obtain ⟨sl, q⟩ := st.slot c oc hc fun vs z => by rw [hd] at z; cases z
    exact ⟨_, q, hd⟩
  refine ⟨I.ok, I.os, I.bare, ⟨fun b u q n hb hx => ?_, fun b u q n hb hx => ?_, I.base.free, fun b u q hx => ?_, I.base.tups, I.base.frzs, I.base.tbls⟩, ?_, fun y c q => ?_, I.free, I.freeC, fun p hp => ?_, fun b u eb => ?_, I.len⟩
  · exact st.keep b u (I.base.keep b u q n hb hx) (ne b (by rw [q]; simp)) (ny b _ (by rw [q]; simp)) fun hm => (sub b hm).elim (nl b u q) hb
  · obtain ⟨sl, q1⟩ := I.base.slot b u q n hb hx
    obtain ⟨_, o2, q2, hn⟩ := I.ok.funs.mem hb
    rw [q] at q2; cases q2
    obtain ⟨sl', q3⟩ := st.slot b _ q1 hn
    exact ⟨sl', q3⟩
  · obtain ⟨u', q1⟩ := I.base.there b u q hx
    by_cases hn : ∀ vs, u'.data ≠ .fields vs
    · obtain ⟨sl, q2⟩ := st.slot b u' q1 hn
      exact ⟨_, q2⟩
    · refine ⟨u', st.keep b u' q1 (ne b (by rw [q]; simp)) (ny b _ (by rw [q]; simp)) fun hm => ?_⟩
      obtain ⟨_, o2, q2, hn2⟩ := I.stack.mem hm
      rw [q1] at q2; cases q2
      exact hn hn2
  · obtain ⟨m, hn, hl⟩ := I.loc
    refine ⟨m, ns_slot hn fun u q n => st.slot _ u q n, fun i y v e1 e2 e3 => ?_⟩
    obtain ⟨u, r, l⟩ := hl i y v e1 e2 e3
    refine ⟨u, r, ?_⟩
    rcases l with l | ⟨k, c, ec, z⟩
    · exact .inl l
    · exact .inr ⟨k, c, ec, ck c _ z⟩
  · obtain ⟨v, z⟩ := I.cell y c q
    exact ⟨v, ck c v z⟩
  · obtain ⟨q, n, a, b, d⟩ := I.pin p hp
    have hq := o.pin p hp
    exact ⟨st.keep p.1 p.2 q (fun z => hq (by rw [z]; exact n1)) (fun y => hq y.1.1) fun hm => (sub p.1 hm).elim a b, n, a, b, d⟩
  · refine (I.hok b u eb).stay (fun c v hc q => ?_) (fun _ q => q) fun _ _ q => q
    have hc' : H c ≠ none := by
      rcases hc with z | z
      · rw [z, eb]; simp
      · rw [z]; simp
    exact st.keep c v q (fun z => hc' (by rw [z]; exact n2)) (fun y => hc' y.1.2) fun hm => hc' (I.stkFree c hm)
/-- within an except suite: the exception at ea is held; it and those behind it are pinned -/
abbrev Cx.held (X : Cx) (ea : Addr) (ps : List (Addr × Obj)) : Cx := { X with A := X.A.mark (some (.ref ea)), calm := false, pn := ps ++ X.pn }
theorem Inv.held {ea : Addr} {ps : List (Addr × Obj)} (I : Inv X pins σ H s) (h : ∀ p ∈ ps, s.heap.get? p.1 = some p.2 ∧ H p.1 = none ∧ p.1 ≠ X.env.locals ∧ p.1 ∉ X.fs ∧ ∀ v, p.2.data ≠ .cell v) : Inv (X.held ea ps) pins σ H s :=
  ⟨⟨I.ok.mod, I.ok.kind, I.ok.glob, I.ok.blt, I.ok.above, I.ok.inj, I.ok.has, I.ok.cab, (fun h => by cases h), I.ok.frames, I.ok.stk, I.ok.exf, I.ok.bs, I.ok.bsz, I.ok.noex, I.ok.exfs, I.ok.funs, I.ok.frf⟩, I.os, I.bare, I.base, I.loc, I.cell, I.free, I.freeC, fun p hp => by
    have hp : p ∈ (ps ++ X.pn) ++ pins := hp
    rw [List.append_assoc] at hp
    exact (List.mem_append.mp hp).elim (h p) (I.pin p), I.hok, I.len⟩
theorem Inv.unheld {ea : Addr} {ps : List (Addr × Obj)} (I : Inv (X.held ea ps) pins σ H s) (ok : X.Ok) : Inv X pins σ H s := ⟨ok, I.os, I.bare, I.base, I.loc, I.cell, I.free, I.freeC, fun p hp => I.pin p (by show p ∈ (ps ++ X.pn) ++ pins; rw [List.append_assoc]; exact List.mem_append_right _ hp), I.hok, I.len⟩
theorem Throws.held {E : XK} (T : Throws X E) (ok : X.Ok) (ea : Addr) (ps : List (Addr × Obj)) : Throws (X.held ea ps) E := fun pins σ H s e cls dx ch fl I y hf n1 n2 hE => T pins σ H s e cls dx ch fl (I.unheld ok) y hf n1 n2 hE
end
section
variable {X : Cx} {st b₀ : Stmt} {suite : List Stmt} {t1 : TS1} {ts : TS} {x : Str} {C : Addr} {bm bmB : List Value} {B newId initId : String} {np hpos pos : Pos}
end
end L2


end
section
set_option Elab.async false
set_option linter.all false
set_option maxRecDepth 100000
set_option maxHeartbeats 400000
namespace L2
open PySem PySem.Spec PyProof.Rows
section
variable {prog : Program} {w : World} {A : Around} {s : Shared} {R : Result → Shared → Prop} {value : Value}
end
section
variable {M : Model} {A : Around} {E : Value → Shared → Prop} {env : Env}
variable {nm q : Str} {C N : Addr} {bs bm : List Value} {hdct : Bool} {sn : List Str} {sub : List Value} {ab : Bool} {col : Option Bool} {dd : Option Addr} {k0 k1 k2 k3 k5 : Option Value} {newId : String}
end
section
variable {X : Cx} {E : XK} {x : Str} {C ea : Addr} {ps : List (Addr × Obj)} {bm bmB : List Value} {B newId initId : String} {np cpos kpos pos : Pos} {j : Nat}
end
end L2


end
section
set_option Elab.async false
set_option linter.all false
set_option maxRecDepth 100000
set_option maxHeartbeats 400000
namespace L2
open PySem PySem.Spec PyProof.Rows
/-- a function at f, with its promise -/
def FnV (P : Program) (w : World) (K : PySem.W.Frag) (mg : Str → Option Value) (base : Heap) (k : Nat) (f : Addr) (n : Nat) (sp : Sp) : Prop :=
  ∃ fd ps, FnOk P w K mg base (CX1 P w) k f fd ps sp ∧ Binds K fd ps [] ∧ PySem.W.keepIn K (.ref f) = true ∧ ps.length = n
theorem FnV.mono {P : Program} {w : World} {K : PySem.W.Frag} {mg : Str → Option Value} {base : Heap} {j k : Nat} {f : Addr} {n : Nat} {sp : Sp} (h : FnV P w K mg base j f n sp) (hj : j ≤ k) : FnV P w K mg base k f n sp := by
  obtain ⟨fd, ps, F, b, kp, l⟩ := h
  exact ⟨fd, ps, F.mono hj, b, kp, l⟩
/-- a method of the class at C, with its promise -/
def MeV (P : Program) (w : World) (K : PySem.W.Frag) (mg : Str → Option Value) (base : Heap) (k : Nat) (C : Addr) (m : Str) (sp : Sp) : Prop :=
  ∃ f fd ps, Meth K C m f ∧ FnOk P w K mg base (CX1 P w) k f fd ps sp ∧ Binds K fd ps []
section
variable {X : Cx} {C : Addr} {m x : Str} {k i : Nat} {sp : Sp} {ta : TE} {t : TA} {e o : Expr} {es : List Expr} {p pos apos : Pos} {pl : Sem Bool}
end
section
variable {P : Program} {w : World} {K : PySem.W.Frag} {mg : Str → Option Value} {base : Heap}
theorem Fun.ok1 {x qual : Str} {st : Stmt} {f : Addr} {fd : FuncData} {N ps : List Str} {k : Nat} {sp : Sp} (F : Fun K x qual st f fd) (S : FnScope N ps (defScope st)) (len : ∀ vs H Q E, sp vs H Q E → vs.length = ps.length)
    (hbody : ∀ (cdv : Value) (A : Around) (outer : List Env) (s : Shared) (H : Hp) (vs : List V) (Q : VK) (E : XK), Room k (A.deeper (envOfC qual (defScope st) s.heap.objs.size f cdv)) → sp vs H Q E →
      ∃ t, PSs (cxOf (CX1 P w) P w K mg base N qual (defScope st) f cdv A outer s H E) (defBody st) t ∧ t { nx := fun _ H' => Q .non H', rt := Q } (start N vs) H) : FnOk P w K mg base (CX1 P w) (k + 1) f fd ps sp := by
  obtain ⟨oc, od, kV, doc, pm, an, cdv, ct, osl, rfl, lk, hcd⟩ := F.ex
  exact fn_of lk hcd S len fun A outer s H vs Q E hr hsp => hbody cdv A outer s H vs Q E hr hsp
end
end L2


end
section
set_option Elab.async false
set_option linter.all false
set_option maxRecDepth 100000
set_option maxHeartbeats 400000
namespace L2
open PySem PySem.Spec PyProof.Rows
section
variable {X : Cx}
end
section
variable {P : Program} {w : World} {K : PySem.W.Frag} {mg : Str → Option Value} {base : Heap} {N : List Str} {qual : Str} {scope : Scope} {f : Addr} {cd : Value} {A : Around} {outer : List Env} {s : Shared} {H : Hp} {E : XK}
end
end L2


end
section
set_option Elab.async false
set_option linter.all false
set_option maxRecDepth 100000
set_option maxHeartbeats 400000
namespace L2
open PySem PySem.Spec PyProof.Rows
/-- a def that may raise -/
def Cal1 (P : Program) (w : World) (K : PySem.W.Frag) (mg : Str → Option Value) (base : Heap) (k : Nat) (x : Str) (ps : List Str) (sp : Sp) : Prop :=
  ∃ f fd, FnOk P w K mg base (CX1 P w) k f fd ps sp ∧ Binds K fd ps [] ∧ PySem.W.keepIn K (.ref f) = true ∧ mg x = some (.ref f)
section
variable {X : Cx} {e o : Expr} {es : List Expr} {t : TA} {ta : TE} {p pos apos : Pos} {j k : Nat} {x m : Str} {ps : List Str} {sp : Sp} {C : Addr} {E : XK} {pl : Sem Bool}
theorem pe1_cal (G : Cal1 X.prog X.w X.K X.mg X.base j x ps sp) (hr : Room k X.A) (hj : j ≤ k) (hg : Gl X x) (hex : X.ex = []) (ha : PA X.nox (e :: es) t) (hdb : (x == ("__debug__" : Str)) = false := by decide)
    (he : starEach (e :: es) X.env = (false, eval e X.env) :: starEach es X.env := by rfl) (hpl : (backTo pos (starEach es X.env)).any (·.1) = false := by rfl) : PE1 X (.Call (.Name x p) (e :: es) [] pos) (tCall1 sp t) := by
  obtain ⟨f, fd, F, b, kp, m⟩ := G
  exact pe1_call F (hr.mono hj) hg m kp b hex ha hdb he hpl
theorem MeV.mono {P : Program} {w : World} {K : PySem.W.Frag} {mg : Str → Option Value} {base : Heap} (G : MeV P w K mg base j C m sp) (hj : j ≤ k) : MeV P w K mg base k C m sp := by
  obtain ⟨f, fd, ps, a, F, b⟩ := G
  exact ⟨f, fd, ps, a, F.mono hj, b⟩
/-- a def's name as a value -/
theorem pe_gfn {f : Addr} (hm : X.mg x = some (.ref f)) (hg : Gl X x) (hd : (x == ("__debug__" : Str)) = false := by decide) : PE X (.Name x pos) (tC (.ref f)) := pe_glob hg hm rfl hd
end
end L2


end
section
set_option Elab.async false
set_option linter.all false
set_option maxRecDepth 100000
set_option maxHeartbeats 400000
namespace Tg
open PySem L2 Pl
def signB (c : Nat) : Bool := decide (32 ≤ c ∧ c ≤ 126 ∧ c ≠ 37)
def goodZ (z : Str) : Prop := z.length ≤ 10000000
def flatG : V → Prop
  | .non => True
  | .bl _ => True
  | .int _ => True
  | .str z => goodZ z
  | _ => False
/-- what a thing is, n tuples deep -/
def TT : Nat → Hp → V → Prop
  | 0, H, v => flatG v ∨ ∃ a, v = .ref a ∧ ((∃ xs, H a = some (.lst xs)) ∨ H a = some (.dK []) ∨ ∃ xs, H a = some (.tup xs) ∧ xs.length ≤ 100000)
  | n + 1, H, v => flatG v ∨ ∃ a, v = .ref a ∧ ((∃ xs, H a = some (.lst xs)) ∨ H a = some (.dK []) ∨ ∃ xs, H a = some (.tup xs) ∧ xs.length ≤ 100000 ∧ ∀ u ∈ xs, TT n H u)
theorem TT.mono : ∀ {n : Nat} {H H' : Hp} {v : V}, SameL H H' → TT n H v → TT n H' v
  | 0, H, H', v, s, h => by
    rcases h with h | ⟨a, e, h | h | ⟨xs, h, l⟩⟩
    · exact .inl h
    · obtain ⟨xs, h⟩ := h; exact .inr ⟨a, e, .inl (s.lst h)⟩
    · exact .inr ⟨a, e, .inr (.inl (s.dK h))⟩
    · exact .inr ⟨a, e, .inr (.inr ⟨xs, s.tup h, l⟩)⟩
  | n + 1, H, H', v, s, h => by
    rcases h with h | ⟨a, e, h | h | ⟨xs, h, l, p⟩⟩
    · exact .inl h
    · obtain ⟨xs, h⟩ := h; exact .inr ⟨a, e, .inl (s.lst h)⟩
    · exact .inr ⟨a, e, .inr (.inl (s.dK h))⟩
    · exact .inr ⟨a, e, .inr (.inr ⟨xs, s.tup h, l, fun u hu => TT.mono s (p u hu)⟩)⟩
end Tg


end
section
set_option Elab.async false
set_option linter.all false
set_option maxRecDepth 100000
set_option maxHeartbeats 400000
namespace L2
open PySem PySem.Spec PyProof.Rows
section
variable {X : Cx}
end
end L2
namespace L2
open PySem PySem.Spec PyProof.Rows
end L2


end
section
set_option Elab.async false
set_option linter.all false
set_option maxRecDepth 100000
set_option maxHeartbeats 400000
namespace L2
open PySem PySem.Spec PyProof.Rows
section
variable {X : Cx}
end
end L2


end
section
set_option Elab.async false
set_option linter.all false
set_option maxRecDepth 100000
set_option maxHeartbeats 400000
namespace L2
open PySem PySem.Spec PyProof.Rows
end L2


end
section
set_option Elab.async false
set_option linter.all false
set_option maxRecDepth 100000
set_option maxHeartbeats 4000000
namespace PySem
section
variable {prog : Program} {w : World} {A : Around} {E : Value → Shared → Prop} {h : Heap} {g : Array GenState} {d : Drawn} {t : Nat} {os : OsState}
variable {nm q : Str} {C N : Addr} {bs bm bmB : List Value} {hdct : Bool} {sn : List Str} {sub : List Value} {ab : Bool} {col : Option Bool} {dd : Option Addr} {k0 k1 k2 k3 k5 : Option Value} {B newId initId : String}
abbrev excRec (h : Heap) (C : Addr) : Obj := { cls := .ref C, data := .fields #[.ref h.objs.size, .none, .none, .none, .bool false, .none] }
abbrev excTup (rest : List Value) : Obj := { cls := .type "tuple", data := .seq rest.toArray }
end
end PySem


end
section
set_option Elab.async false
set_option linter.all false
set_option maxRecDepth 100000
set_option maxHeartbeats 1000000
namespace PySem.W
open PySem PySem.Spec PySem.Calls PyProof.Rows PySem.Builtin PySem.Builtin.ObjectAttr
abbrev bmV : List Value := [.type "ValueError", .type "Exception", .type "BaseException", .type "object"]
/-- an own class of exceptions straight under the own class CT, which is straight under ValueError -/
structure XCl (K : Frag) (C CT : Addr) : Prop where
  cl : ∃ nm q N bs sn sub ab col dd k0 k1 k2 k3 k5, K.lookup C = some (excClassObj nm q C N bs (.ref CT :: bmV) true sn sub ab col dd k0 k1 k2 k3 k5 "ValueError.__new__") ∧ nsOkIn K N = true
  tail : tailIn K bmV (.ref CT :: bmV) = true
  ga : findIn K (.ref C) "__getattribute__" = some (some (.builtin "BaseException.__getattribute__"))
  gt : findIn K (.ref C) "__getattr__" = some none
  sa : findIn K (.ref C) "__setattr__" = some (some (.builtin "object.__setattr__"))
  cc : findIn K (.ref C) "__class__" = some (some (.builtin "object.__class__"))
  cg : specialIn K (.builtin "object.__class__") "__get__" = some (some (.builtin "getset_descriptor.__get__"))
  ct : takesIn K (.builtin "object.__class__") = some true
section
variable {K : Frag} {C CT : Addr}
theorem XCl.cd (c : XCl K C CT) : ∃ cd, clsIn K C = some cd ∧ cd.mro = .ref C :: .ref CT :: bmV ∧ cd.hasDict = true := by
  obtain ⟨nm, q, N, bs, sn, sub, ab, col, dd, k0, k1, k2, k3, k5, lk, _⟩ := c.cl
  have e : clsIn K C = (match (excClassObj nm q C N bs (.ref CT :: bmV) true sn sub ab col dd k0 k1 k2 k3 k5 "ValueError.__new__") with | ⟨_, _, .cls cd, _⟩ => some cd | _ => none) := by unfold clsIn; rw [lk]
  exact ⟨_, e, rfl, rfl⟩
theorem XCl.has (c : XCl K C CT) : hasDictIn K C = true := by
  obtain ⟨cd, h, _, d⟩ := c.cd
  unfold hasDictIn; rw [h]; exact d
theorem XCl.mro (c : XCl K C CT) (T : Value) : mroIn K C T = some ((Value.ref C :: .ref CT :: bmV).contains T) := by
  obtain ⟨cd, h, m, _⟩ := c.cd
  unfold mroIn; rw [h, Option.bind_some, m]; rfl
theorem XCl.mroT (c : XCl K C CT) {T : String} (h : bmV.contains (.type T) = true) : mroIn K C (.type T) = some true := by
  rw [c.mro, List.contains_cons, List.contains_cons, h]; rfl
end
section
variable {prog : Program} {w : World} {A : Around} {E : Value → Shared → Prop} {s : Shared} {K : Frag} {x C CT : Addr} {ox : Obj} {od : Option Obj} {name : Str}
/-- the attribute is asked for by BaseException's own entry -/
theorem xget_open {tk : Tok} {fill expr : Bool} {Q : Value → Shared → Prop} (X : K.In s.heap) (I : InstAt s.heap x ox C od) (c : XCl K C CT)
    (h : wpAny (model prog w) A.in1 (Builtin.«object.__getattribute__» ⟨[.ref x, .str name tk], []⟩)
      (fun fin s' => match fin with | .done (.ret v) => wpAny (model prog w) A (handedOut v) Q E s' | _ => False) (fun _ _ => False) s) :
    wpAny (model prog w) A (getAttrBy (.ref x) (.str name tk) fill expr) Q E s := by
  have L0 := I.type (M := model prog w)
  have L1 := looks_findIn (M := model prog w) X c.ga
  have SL := PySem.F.attr_ValueError.ga
  unfold getAttrBy
  refine wpAny_holding (wpAny_bind (L0.here (wpAny_bind (L1.here ?_))))
  dsimp only
  rw [show (onTheHeap (Value.ref C) && Value.builtin "BaseException.__getattribute__" == Value.builtin "object.__getattribute__") = false from by rw [show (Value.builtin "BaseException.__getattribute__" == Value.builtin "object.__getattribute__") = false from by decide +kernel, Bool.and_false], if_neg (by decide)]
  unfold getAttrByItsOwn
  refine wpAny_bind ((looks_hook (mc := .ref C) X (r := none) (by show (if onTheHeap (.ref C) = true then findIn K (.ref C) "__getattr__" else some none) = some none; rw [if_pos (show onTheHeap (Value.ref C) = true from rfl)]; exact c.gt)).here (wpAny_bind (wpAny_attempt (wpAny_holding ?_))))
  unfold callGetattribute
  rw [show (expr && onTheHeap (Value.builtin "BaseException.__getattribute__")) = false from Bool.and_false _, if_neg (by decide)]
  unfold boundAndCalled
  rw [SL.bind]
  refine wpAny_bind (wpAny_pure ?_)
  show wpAny _ _ (call (.builtin "BaseException.__getattribute__") [.ref x, .str name tk]) _ _ _
  refine wpAny_call ?_
  refine codeAny_call_builtin SL.plain PySem.F.entry_bexc_ga ?_
  refine @check_slot (model prog w) _ _ s "BaseException.__getattribute__" "BaseException" "__getattribute__" (.ref x) [.str name tk] [] _ (by decide +kernel) (by decide +kernel) (I.type.andThen (looks_mroIn X (c.mroT (by decide)))) (PySem.F.args_bexc_ga _ _) ?_
  refine wpAny_mono h (fun fin s' z => ?_) fun _ _ z => z.elim
  rcases fin with (_ | _ | _ | _) | _ <;> first | exact z | exact z.elim
theorem xget_value {v : Value} {expr : Bool} {Q : Value → Shared → Prop} (X : K.In s.heap) (I : InstAt s.heap x ox C od) (c : XCl K C CT) (hf : findObj K C od name = some (.value v)) (hh : handedIn v = true) (h : Q v { s with toks := s.toks + 1 }) :
    wpAny (model prog w) A (getAttr (.ref x) name expr) Q E s := by
  unfold getAttr
  refine wpAny_bind (wpAny_mkText (xget_open (s := { s with toks := s.toks + 1 }) X I c ?_))
  have L0 := I.type (M := model prog w)
  have L1 := looks_find (M := model prog w) X I hf
  unfold Builtin.«object.__getattribute__»
  refine wpAny_bind (wpAny_pure (wpAny_bind (wpAny_pure (wpAny_bind (L0.here (s := { s with toks := s.toks + 1 }) (wpAny_bind (L1.here (s := { s with toks := s.toks + 1 }) ?_)))))))
  refine wpAny_pure ?_
  show wpAny _ _ (handedOut v) _ _ _
  rw [handedOut_of hh]; exact wpAny_pure h
theorem xget_class {Q : Option Value → Shared → Prop} (X : K.In s.heap) (I : InstAt s.heap x ox C od) (c : XCl K C CT) (h : Q (some (.ref C)) { s with toks := s.toks + 1 }) : wpAny (model prog w) A (getAttr? (.ref x) "__class__") Q E s := by
  have hf : findObj K C od "__class__" = some (.bind (.builtin "getset_descriptor.__get__") (.builtin "object.__class__")) := by
    obtain ⟨cd, hc, _⟩ := c.cd
    simp only [findObj, hc, Option.bind_some, c.cc, c.cg, c.ct]
  unfold getAttr? getAttrBy?
  refine wpAny_bind (wpAny_mkText (wpAny_bind (wpAny_attempt (xget_open (s := { s with toks := s.toks + 1 }) X I c ?_))))
  have L0 := I.type (M := model prog w)
  have L1 := looks_find (M := model prog w) X I hf
  unfold Builtin.«object.__getattribute__»
  refine wpAny_bind (wpAny_pure (wpAny_bind (wpAny_pure (wpAny_bind (L0.here (s := { s with toks := s.toks + 1 }) (wpAny_bind (L1.here (s := { s with toks := s.toks + 1 }) ?_)))))))
  show wpAny _ _ (holding [.builtin "object.__class__"] (call (.builtin "getset_descriptor.__get__") [.builtin "object.__class__", .ref x, .ref C]) >>= ret) _ _ _
  refine wpAny_bind (wpAny_holding (wpAny_call (class_get (s := { s with toks := s.toks + 1 }) (ox := ox) (od := od) X I (c.mroT (by decide)) ?_)))
  refine wpAny_pure ?_
  show wpAny _ _ (handedOut (.ref C)) _ _ _
  exact wpAny_pure (wpAny_pure h)
/-- what is asked of an exception by isinstance -/
theorem kitx_exc (c : XCl K C CT) : KitX K (.ref x) (.ref C) (fun h => InstAt h x ox C od) where
  ty := fun _ _ _ I => I.type
  it := fun _ _ X _ => by
    obtain ⟨cdD, hcD, _⟩ := c.cd
    unfold clsIn at hcD
    split at hcD
    · rename_i c' d' cd' sl' ho
      intro A' Q' E' s' k q
      unfold isType loadHead
      exact wpAny_bind (wpAny_loadPart (k _ _ (X _ _ ho)) (wpAny_pure q))
    · cases hcD
  ne := fun h tp dd its n sl X htp => by
    obtain ⟨cdD, hcD, _⟩ := c.cd
    refine Bool.eq_false_iff.mpr fun q => ?_
    have e : C = tp := Value.ref.inj (beq_iff_eq.mp q)
    subst e
    unfold clsIn at hcD
    split at hcD
    · rename_i c' d' cd' sl' ho
      have z := (X _ _ ho).symm.trans htp
      cases z
    · cases hcD
  ca := fun X I k => xget_class X I c k
/-- o.f = v on an exception: as far as its own dict -/
theorem xosa_open {R : Result → Shared → Prop} {tk : Tok} {v : Value} (X : K.In s.heap) (I : InstAt s.heap x ox C od) (c : XCl K C CT) (ht : findIn K (.ref C) name = some none)
    (h : ∀ b, wpAny (model prog w) A.in1 (storeInOwnDict (.ref x) (.ref C) (.str name tk) name v b)
      (fun fin s' => match fin with | .done f => R (.ok f) s' | .again c' => c'.quiet = true ∧ codeAny (model prog w) A c' R s') (fun e s' => R (.error e) s') s) :
    codeAny (model prog w) A (.call (.builtin "object.__setattr__") ⟨[.ref x, .str name tk, v], []⟩) R s := by
  have SF := PySem.F.store_object
  obtain ⟨cd, hc, ho, _⟩ := c.cd
  have sub : Looks (model prog w) s.heap (isInstance (.ref x) (.type "object")) true := I.type.andThen (looks_mroIn X (c.mroT (by decide)))
  refine codeAny_call_builtin SF.slot.plain SF.entry (@check_slot (model prog w) _ _ s "object.__setattr__" "object" "__setattr__" (.ref x) [.str name tk, v] [] _ SF.kind SF.split sub (SF.args (.ref x) (.str name tk) v) ?_)
  have hm : Looks (model prog w) s.heap (mroOf (.ref C)) cd.mro := (looks_clsIn X hc).andThen .now
  rw [osa_eq, refuse_eq]
  refine wpAny_bind (wpAny_bind (I.type.here (wpAny_bind (hm.here ?_))))
  rw [ho, refuseLoop_ref, refuseLoop_ref, PySem.F.store_ValueError.passes]
  refine wpAny_pure (wpAny_bind (I.type.here (wpAny_bind ((looks_findIn X ht).here (wpAny_bind (wpAny_pure (a := none) ?_))))))
  exact h _
/-- .. which it has -/
theorem xset_some {dx : Addr} {mA : Str → Option Value} {ns : List Str} {v : Value} {Q : Unit → Shared → Prop} (X : K.In s.heap) (c : XCl K C CT) (ht : findIn K (.ref C) name = some none) (hx : s.heap.get? x = some ox) (hcl : ox.cls = .ref C) (hn : notCls ox = true)
    (hd : ox.dict = some dx) (hns : s.heap.Ns1 dx mA) (hw : PySem.Within mA ns) (hsz : ns.length ≤ sizeLine)
    (h : ∀ h', h'.Ns1 dx (fun y => if y = name then some v else mA y) → Heap.SameBut dx s.heap h' → Q () { s with heap := h', toks := s.toks + 2 }) : wpAny (model prog w) A (setAttr (.ref x) name v) Q E s := by
  obtain ⟨o, es, ep, hod, r⟩ := id hns
  have J : InstAt s.heap x ox C (some o) := ⟨hx, hcl, hn, by rw [hd]; exact hod⟩
  refine set_plain X J c.sa (xosa_open (s := { s with toks := s.toks + 1 }) X J c ht fun b => ?_)
  obtain ⟨cd, hc, _, hd'⟩ := c.cd
  obtain ⟨oc, odi, oda, osl⟩ := ox
  dsimp only at hcl hd
  subst hcl hd
  refine wpAny_bind (wpAny_pure (wpAny_bind (wpAny_bind (wpAny_loadPart hx (wpAny_bind (Looks.here (s := { s with toks := s.toks + 1 }) (looks_clsIn X hc) ?_))))))
  rw [hd']
  refine wpAny_pure (a := some dx) (wpAny_bind (wpAny_pure (wpAny_bind ?_)))
  refine wpAny_nsSet1 (s := { s with toks := s.toks + 1 }) hns fun h' hn2 hs2 => ?_
  obtain ⟨oD, esD, epD, hoD, hdD, hcD⟩ := hn2.count (PySem.Within.cons name v hw)
  refine wpAny_bind (wpAny_lookBehind hoD (by rw [hdD]; exact pastItsLine_dict (Nat.le_trans hcD (by rw [List.length_cons]; omega))) ?_)
  exact wpAny_pure (h _ hn2 hs2)
/-- .. which is made -/
theorem xset_none {v : Value} {Q : Unit → Shared → Prop} (X : K.In s.heap) (c : XCl K C CT) (ht : findIn K (.ref C) name = some none) (hx : s.heap.get? x = some ox) (hcl : ox.cls = .ref C) (hn : notCls ox = true) (hfr : ox.isFreed = false)
    (hd : ox.dict = none) (h : ∀ h', h'.Ns1 s.heap.objs.size (fun y => if y = name then some v else none) → h'.get? x = some { ox with dict := some s.heap.objs.size } → (∀ b o, b ≠ x → s.heap.get? b = some o → h'.get? b = some o) → Q () { s with heap := h', toks := s.toks + 2 }) :
    wpAny (model prog w) A (setAttr (.ref x) name v) Q E s := by
  have J : InstAt s.heap x ox C none := ⟨hx, hcl, hn, by rw [hd]; trivial⟩
  refine set_plain X J c.sa (xosa_open (s := { s with toks := s.toks + 1 }) X J c ht fun b => ?_)
  obtain ⟨cd, hc, _, hd'⟩ := c.cd
  obtain ⟨oc, odi, oda, osl⟩ := ox
  dsimp only at hcl hd
  subst hcl hd
  refine wpAny_bind (wpAny_pure (wpAny_bind (wpAny_bind (wpAny_loadPart hx (wpAny_bind (Looks.here (s := { s with toks := s.toks + 1 }) (looks_clsIn X hc) ?_))))))
  rw [hd']
  have hx₁ : (s.heap.push { cls := .type "dict", data := .dict #[] }).get? x = some ⟨.ref C, none, oda, osl⟩ := Heap.get?_push_of_some _ hx
  have hxs : x ≠ s.heap.objs.size := Nat.ne_of_lt (Heap.lt_size hx)
  rw [if_neg (by decide)]
  dsimp only
  rw [if_neg (show ¬ ((!true || !typeHasDict (Value.ref C)) = true) by simp [typeHasDict])]
  have hgd : ((s.heap.push { cls := .type "dict", data := .dict #[] }).update x fun o => { cls := o.cls, dict := some s.heap.objs.size, data := o.data, slots := o.slots }).get? s.heap.objs.size = some { cls := .type "dict", data := .dict #[] } :=
    (Heap.get?_update_ne _ _ _ _ hxs.symm).trans (Heap.get?_push_at rfl rfl)
  have hnd : ((s.heap.push { cls := .type "dict", data := .dict #[] }).update x fun o => { cls := o.cls, dict := some s.heap.objs.size, data := o.data, slots := o.slots }).Ns s.heap.objs.size (fun _ => none) :=
    ⟨_, #[], _, hgd, rfl, fun e he => absurd he (by simp), fun _ => rfl⟩
  have hgx : ((s.heap.push { cls := .type "dict", data := .dict #[] }).update x fun o => { cls := o.cls, dict := some s.heap.objs.size, data := o.data, slots := o.slots }).get? x = some ⟨.ref C, some s.heap.objs.size, oda, osl⟩ := by
    refine Heap.get?_update_self _ hx₁ ?_
    cases oda <;> first | rfl | exact hfr
  have core : wpAny (model prog w) A.in1 (do let d ← alloc { cls := .type "dict", data := .dict #[] }; update x fun o => { cls := o.cls, dict := some d, data := o.data, slots := o.slots }; dictMade (Value.ref C) x d)
      (fun a s' => wpAny (model prog w) A.in1 (match a with | some d => storeInDict d (Value.str name s.toks) name v | none => noDictFor (Value.ref x) (Value.ref C) name b)
        (fun fin s' => match fin with | .done f => (match (Except.ok f : Result) with | .ok (.ret _) => Q () s' | .ok _ => False | .error e => E e s') | .again c' => c'.quiet = true ∧ codeAny (model prog w) A c' (fun r s' => match r with | .ok (.ret _) => Q () s' | .ok _ => False | .error e => E e s') s') (fun e s' => E e s') s')
      (fun e s' => E e s') { s with toks := s.toks + 1 } := by
    refine wpAny_bind (wpAny_alloc' ?_)
    refine wpAny_bind (wpAny_update' hx₁ ?_)
    refine wpAny_pure ?_
    show wpAny _ _ (storeInDict s.heap.objs.size (.str name s.toks) name v) _ _ _
    unfold storeInDict newKeyGuard
    refine wpAny_bind (wpAny_pure (wpAny_bind (wpAny_nsSet1 (Heap.Ns1.of_empty hnd) fun h' hn' hs => ?_)))
    obtain ⟨oD, esD, epD, hoD, hdD, hcD⟩ := hn'.count (Within.cons name v Within.nil)
    refine wpAny_bind (wpAny_lookBehind hoD (by rw [hdD]; exact pastItsLine_dict (Nat.le_trans hcD (by rw [List.length_cons, List.length_nil, sizeLine_eq]; omega))) ?_)
    refine wpAny_pure (h h' hn' ((hs.2 x hxs).trans hgx) fun b ob hbx hb => ?_)
    exact (hs.2 b (Nat.ne_of_lt (Heap.lt_size hb))).trans ((Heap.get?_update_ne _ _ _ _ hbx).trans (Heap.get?_push_of_some _ hb))
  cases oda with
  | cls c => exact absurd hn (by simp [notCls])
  | _ => exact core
end
end PySem.W


end
section
set_option Elab.async false
set_option linter.all false
set_option maxRecDepth 100000
set_option maxHeartbeats 1000000
namespace L2
open PySem PySem.Spec PyProof.Rows
/-- a new exception's record -/
abbrev newX (C : Addr) (dx : Option Addr) (t : Addr) : Obj := { cls := .ref C, dict := dx, data := .fields #[.ref t, .none, .none, .none, .bool false, .none] }
/-- a new exception -/
def xN (e C : Addr) (dx : Option Addr) : HO := .ext fun h => ∃ t, h.get? e = some (newX C dx t)
/-- a caught one -/
def xC (e C : Addr) (dx : Option Addr) : HO := .ext fun h => ∃ o vs, h.get? e = some o ∧ o.cls = .ref C ∧ o.dict = dx ∧ o.data = .fields vs
/-- its dict -/
def xD (d : Addr) (fs : List (Str × V)) : HO := .ext fun h => ∃ mA, h.Ns1 d mA ∧ (∀ f, RelO (fs.lookup f) (mA f)) ∧ PySem.Within mA (fs.map (·.1))
/-- a caught exception of the class C, with its fields -/
def XAt (H : Hp) (a C : Addr) (fs : List (Str × V)) : Prop := (H a = some (xC a C none) ∧ fs = []) ∨ ∃ d, H a = some (xC a C (some d)) ∧ H d = some (xD d fs)
theorem XAt.same {H H' : Hp} {a C : Addr} {fs : List (Str × V)} (x : XAt H a C fs) (s : Same H H') : XAt H' a C fs := by
  rcases x with ⟨h, e⟩ | ⟨d, h, e⟩
  · exact .inl ⟨s _ _ h, e⟩
  · exact .inr ⟨d, s _ _ h, s _ _ e⟩
section
variable {P : Program} {w : World} {H : Hp} {h : Heap} {e C : Addr} {dx : Option Addr} {fs : List (Str × V)}
theorem ok_xN {t : Addr} (q : h.get? e = some (newX C dx t)) : ObjOk P w H h e (xN e C dx) := ⟨⟨t, q⟩, ⟨_, q⟩, fun h1 h2 ⟨t, q⟩ k => ⟨t, k _ q⟩⟩
theorem ok_xC {o : Obj} {vs : Array Value} (q : h.get? e = some o) (a : o.cls = .ref C) (b : o.dict = dx) (c : o.data = .fields vs) : ObjOk P w H h e (xC e C dx) := ⟨⟨o, vs, q, a, b, c⟩, ⟨_, q⟩, fun h1 h2 ⟨o, vs, q, r⟩ k => ⟨o, vs, k _ q, r⟩⟩
theorem ok_xD {mA : Str → Option Value} (q : h.Ns1 e mA) (a : ∀ f, RelO (fs.lookup f) (mA f)) (b : PySem.Within mA (fs.map (·.1))) : ObjOk P w H h e (xD e fs) :=
  ⟨⟨mA, q, a, b⟩, let ⟨o, _, _, z, _⟩ := q; ⟨o, z⟩, fun h1 h2 ⟨mA, q, r⟩ k => ⟨mA, q.at k, r⟩⟩
end
section
variable {X : Cx} {pins : List (Addr × Obj)} {σ : St} {H : Hp} {s : Shared} {a C CT : Addr} {fs : List (Str × V)}
theorem Inv.exc (I : Inv X pins σ H s) (x : XAt H a C fs) : ∃ ox od, PySem.W.InstAt s.heap a ox C od ∧ ∀ f v, fs.lookup f = some v → ∃ o u, od = some o ∧ PySem.W.lookIn f o = some (some u) ∧ RelV v u := by
  rcases x with ⟨h, e⟩ | ⟨d, h, e⟩
  · obtain ⟨⟨o, vs, q, c, dd, dt⟩, _, _⟩ := (show ObjOk X.prog X.w H s.heap a (xC a C none) from I.hok a _ h)
    exact ⟨o, none, ⟨q, c, by unfold PySem.W.notCls; rw [dt], by rw [dd]; trivial⟩, fun f v l => by subst e; simp at l⟩
  · obtain ⟨⟨o, vs, q, c, dd, dt⟩, _, _⟩ := (show ObjOk X.prog X.w H s.heap a (xC a C (some d)) from I.hok a _ h)
    obtain ⟨⟨mA, hns, rel, wi⟩, _, _⟩ := (show ObjOk X.prog X.w H s.heap d (xD d fs) from I.hok d _ e)
    obtain ⟨od, hod, hl⟩ := lookIn_ns hns
    refine ⟨o, some od, ⟨q, c, by unfold PySem.W.notCls; rw [dt], by rw [dd]; exact hod⟩, fun f v l => ?_⟩
    obtain ⟨u, hu, ru⟩ := RelO.some_of (v := v) (o := mA f) (by rw [← l]; exact rel f)
    exact ⟨od, u, rfl, by rw [hl, hu], ru⟩
/-- e.f of a caught exception -/
def tXF (K : PySem.W.Frag) (CT : Addr) (ta : TE) (f : Str) : TE := fun σ H Q => ta σ H fun x H1 => ∃ a C fs v, x = .ref a ∧ XAt H1 a C fs ∧ PySem.W.XCl K C CT ∧ NoAttr K C f ∧ fs.lookup f = some v ∧ Q v H1
theorem pe_xfld {e : Expr} {f : Str} {pos : Pos} {ta : TE} (CT : Addr) (he : PE X e ta) (hb : attributeBase e f X.env (eval e X.env) = eval e X.env) : PE X (.Attribute e f pos) (tXF X.K CT ta f) := by
  intro pins s σ H Q I h
  refine attr_of hb (thn (he pins s σ H _ I h) fun u s1 ⟨x, H1, I1, rx, a, C, fs, v, ex, xa, c, n, l, q⟩ => ?_)
  subst ex
  obtain rfl : u = Value.ref a := rx
  obtain ⟨ox, od, J, g⟩ := I1.exc xa
  obtain ⟨o, u, rfl, hl, ru⟩ := g f v l
  exact PySem.W.xget_value I1.kIn J c (PySem.W.findObj_own c.has n rfl hl) (handed_of ru) ⟨v, H1, I1.tok _, ru, q⟩
/-- isinstance of a caught exception: one class -/
def rIsX (K : PySem.W.Frag) (CT : Addr) : List V → Hp → VK → Prop := fun xs H Q => ∃ a C fs c cv b, xs = [.ref a, c] ∧ clsV c = some cv ∧ XAt H a C fs ∧ PySem.W.XCl K C CT ∧ PySem.W.kitOne K (.ref C) cv = some b ∧ Q (.bl b) H
theorem call_isX (CT : Addr) : CallR X (.builtin "isinstance") (rIsX X.K CT) := by
  intro pins s σ H xs us Q I r h
  obtain ⟨a, C, fs, c, cv, b, rfl, hc, xa, xc, e, q⟩ := h
  obtain ⟨u, w', rfl, rx, rc⟩ := vals2 r
  have ec : w' = cv := by
    cases c <;> simp [clsV] at hc
    · subst hc; exact rc
    · subst hc; exact rc
  subst ec
  obtain rfl : u = Value.ref a := rx
  obtain ⟨ox, od, J, _⟩ := I.exc xa
  exact PySem.W.kia_one (PySem.W.kitx_exc xc) I.kIn J e (fun z => nomatch z) fun tk => ⟨.bl b, H, I.tok tk, rfl, q⟩
/-- .. a tuple of classes -/
def rIsXT (K : PySem.W.Frag) (CT : Addr) : List V → Hp → VK → Prop := fun xs H Q => ∃ (a C : Addr) (fs : List (Str × V)) (p : Addr) (cs : List Addr) (b : Bool), xs = [.ref a, .ref p] ∧ H p = some (.tup (cs.map V.ref)) ∧ XAt H a C fs ∧ PySem.W.XCl K C CT ∧ PySem.W.kitAny K (.ref C) (cs.map Value.ref) = some b ∧ Q (.bl b) H
theorem vals_refs : ∀ {cs : List Addr} {us : List Value}, Vals (cs.map V.ref) us → us = cs.map Value.ref
  | [], _, .nil => rfl
  | c :: cs, _, .cons h t => by rw [vals_refs t]; cases (show _ = Value.ref c from h); rfl
theorem call_isXT (CT : Addr) : CallR X (.builtin "isinstance") (rIsXT X.K CT) := by
  intro pins s σ H xs us Q I r h
  obtain ⟨a, C, fs, p, cs, b, rfl, hp, xa, xc, e, q⟩ := h
  obtain ⟨u, w', rfl, rx, rc⟩ := vals2 r
  obtain rfl : u = Value.ref a := rx
  obtain rfl : w' = Value.ref p := rc
  obtain ⟨ox, od, J, _⟩ := I.exc xa
  obtain ⟨_, its, ri, o, ho, hc, n, hd⟩ := (show ObjOk X.prog X.w H s.heap p (.tup (cs.map V.ref)) from I.hok p _ hp)
  rw [vals_refs ri] at hd
  obtain ⟨oc, dd, dt, sl⟩ := o
  dsimp only at hc hd
  subst hc hd
  exact PySem.W.kia_tup (PySem.W.kitx_exc xc) I.kIn J ho e (fun z => nomatch z) fun tk => ⟨.bl b, H, I.tok tk, rfl, q⟩
end
section
variable {X : Cx} {pins : List (Addr × Obj)} {σ : St} {H H' : Hp} {s : Shared} {d e : Addr} {o : HO}
theorem Inv.track (I : Inv X pins σ H s) (hn : H d = none) (y : X.s₀.heap.get? d = none) (nl : d ≠ X.env.locals) (nc : ∀ x c, X.env.cells.lookup x = some c → c ≠ d) (np : ∀ p ∈ X.pn ++ pins, p.1 ≠ d) (ok : ObjOk X.prog X.w (upd H d o) s.heap d o) :
    Inv X pins σ (upd H d o) s :=
  ⟨I.ok, I.os, I.bare, ⟨I.base.keep, I.base.slot, fun b u q n hx => by rw [upd_ne (fun z => by rw [z, y] at q; cases q)]; exact I.base.free b u q n hx, I.base.there, fun b xs q => by have z := I.base.tups b xs q; rw [upd_ne (ne_of_none z hn)]; exact z,
      fun b u xs q => by have z := I.base.frzs b u xs q; rw [upd_ne (ne_of_none z hn)]; exact z, fun b ps q => by obtain ⟨m, z⟩ := I.base.tbls b ps q; exact ⟨m, by rw [upd_ne (ne_of_none z hn)]; exact z⟩⟩,
    I.loc, I.cell, by rw [upd_ne (Ne.symm nl)]; exact I.free, fun x c q => by rw [upd_ne (nc x c q)]; exact I.freeC x c q, fun p hp => by obtain ⟨a, b, r⟩ := I.pin p hp; exact ⟨a, by rw [upd_ne (np p hp)]; exact b, r⟩,
    fun b u q => by
      by_cases hb : b = d
      · subst hb; rw [upd_same] at q; cases q; exact ok
      · rw [upd_ne hb] at q
        exact (I.hok b u q).stay (fun c v _ r => r) (fun c r => by rw [upd_ne (ne_of_none r hn)]; exact r) fun c xs r => by rw [upd_ne (ne_of_none r hn)]; exact r,
    I.len⟩
/-- what lies nowhere yet -/
theorem Inv.nowhere (I : Inv X pins σ H s) (hex : X.ex = []) (h : s.heap.get? d = none) : H d = none ∧ X.s₀.heap.get? d = none ∧ d ≠ X.env.locals ∧ (∀ x c, X.env.cells.lookup x = some c → c ≠ d) ∧ ∀ p ∈ X.pn ++ pins, p.1 ≠ d := by
  refine ⟨I.hok.none_of h, I.young hex h, fun z => ?_, fun x c q z => ?_, fun p hp z => ?_⟩
  · obtain ⟨m, ⟨o, es, ep, ho, _⟩, _⟩ := I.loc
    rw [z, ho] at h; cases h
  · obtain ⟨v, o, ho, _⟩ := I.cell x c q
    rw [z, h] at ho; cases ho
  · have := (I.pin p hp).1
    rw [z, h] at this; cases this
theorem Inv.off {φ : Heap → Prop} (I : Inv X pins σ H s) (he : H e = some (.ext φ)) (y : X.s₀.heap.get? e = none) (h3 : ∀ b, b ≠ e → H' b = H b) (hn : H' e = none) : Inv X pins σ H' s := by
  have ne : ∀ b, H b = none → b ≠ e := fun b q z => by rw [z, he] at q; cases q
  have nt : ∀ b u, H b = some u → (∀ ψ, u ≠ .ext ψ) → b ≠ e := fun b u q n z => by rw [z, he] at q; cases q; exact n _ rfl
  have tt : ∀ b xs, H b = some (.tup xs) → H' b = some (.tup xs) := fun b xs q => (h3 b (nt b _ q (fun _ z => by cases z))).trans q
  refine ⟨I.ok, I.os, I.bare, ⟨I.base.keep, I.base.slot, fun b u q n hx => ?_, I.base.there, fun b xs q => tt b xs (I.base.tups b xs q), fun b u xs q => ?_, fun b ps q => ?_⟩, I.loc, I.cell, (h3 _ (ne _ I.free)).trans I.free, fun x c q => (h3 _ (ne _ (I.freeC x c q))).trans (I.freeC x c q), fun p hp => ?_, fun b u q => ?_, I.len⟩
  · have z := I.base.free b u q n hx
    exact (h3 b (ne b z)).trans z
  · have z := I.base.frzs b u xs q
    exact (h3 b (nt b _ z (fun _ z => by cases z))).trans z
  · obtain ⟨m, z⟩ := I.base.tbls b ps q
    exact ⟨m, (h3 b (nt b _ z (fun _ z => by cases z))).trans z⟩
  · obtain ⟨a, b, r⟩ := I.pin p hp
    exact ⟨a, (h3 _ (ne _ b)).trans b, r⟩
  · have hb : b ≠ e := fun z => by rw [z, hn] at q; cases q
    rw [h3 b hb] at q
    exact (I.hok b u q).stay (fun c v _ r => r) (fun c r => (h3 c (nt c _ r (fun _ z => by cases z))).trans r) tt
/-- a name goes -/
theorem name_gone {M : Model} {A : Around} {E : Value → Shared → Prop} {i : Nat} {n : Str} {pos : Pos} {Q : Unit → Shared → Prop} (I : Inv X pins σ H s) (hN : X.N.Nodup) (hi : X.N[i]? = some n) (hk : X.env.kindOf n = some .local)
    (h : ∀ s', Inv X pins (σ.set i none) H s' → Q () s') : wpAny M A (do bindName X.env n .none; unbindBehindTheSuite X.env n pos) Q E s := by
  obtain ⟨m, hn, hl⟩ := id I.loc
  have hcls : (X.env.scope.kind == .class || (X.env.scope.kind == .module && X.env.locals != X.env.globals)) = false := by rw [I.ok.kind]; rfl
  have hiσ : i < σ.length := by rw [I.len]; exact (List.getElem?_eq_some_iff.mp hi).1
  refine wpAny_nameGoes_keeps hk hn hcls fun h' v hn' hs => h _ ?_
  have cne := I.cne
  refine ⟨I.ok, I.os, I.bare, ⟨fun b o e n hb hx => ?_, fun b o e n hb hx => ?_, I.base.free, fun b o e hx => ?_, I.base.tups, I.base.frzs, I.base.tbls⟩, ⟨_, hn', fun j y v' e1 e2 e3 => ?_⟩, fun y c e => ?_, I.free, I.freeC, fun p hp => ?_, fun b ob e => ?_, by simpa using I.len⟩
  · exact (hs.2 b (Nat.ne_of_lt (Nat.lt_of_lt_of_le (Heap.lt_size e) I.ok.above))).trans (I.base.keep b o e n hb hx)
  · obtain ⟨sl, e1⟩ := I.base.slot b o e n hb hx
    exact ⟨sl, (hs.2 b (Nat.ne_of_lt (Nat.lt_of_lt_of_le (Heap.lt_size e) I.ok.above))).trans e1⟩
  · obtain ⟨o', e1⟩ := I.base.there b o e hx
    exact ⟨o', (hs.2 b (Nat.ne_of_lt (Nat.lt_of_lt_of_le (Heap.lt_size e) I.ok.above))).trans e1⟩
  · by_cases hj : j = i
    · subst hj
      rw [List.getElem?_set_self hiσ] at e2
      cases e2
    · rw [List.getElem?_set_ne (Ne.symm hj)] at e2
      obtain ⟨u', r', q⟩ := hl j y v' e1 e2 e3
      refine ⟨u', r', ?_⟩
      rcases q with ⟨k, e⟩ | ⟨k, c, e, z⟩
      · refine .inl ⟨k, ?_⟩
        have : y ≠ n := fun e => hj (nodup_ix hN e1 (e ▸ hi))
        simp [this, e]
      · exact .inr ⟨k, c, e, z.sameBut hs (cne y c e)⟩
  · obtain ⟨w', z⟩ := I.cell y c e
    exact ⟨w', z.sameBut hs (cne y c e)⟩
  · obtain ⟨e, n, ne, nf, d⟩ := I.pin p hp
    exact ⟨(hs.2 p.1 ne).trans e, n, ne, nf, d⟩
  · refine (I.hok b ob e).stay (fun c w' hc q => (hs.2 c ?_).trans q) (fun _ q => q) fun _ _ q => q
    rintro rfl
    rcases hc with z | hc
    · rw [← z, I.free] at e; cases e
    · rw [I.free] at hc; cases hc
end
section
variable {X : Cx} {pins : List (Addr × Obj)} {σ : St} {H : Hp} {s : Shared} {a C CT : Addr} {f : Str}
/-- self.f = v of a new exception, the first field -/
theorem setX0 {A : Around} {E : Value → Shared → Prop} {y : V} {u : Value} {Q : Unit → Shared → Prop} (I : Inv X pins σ H s) (hex : X.ex = []) (e : H a = some (xN a C none)) (c : PySem.W.XCl X.K C CT) (n : NoAttr X.K C f) (ry : RelV y u)
    (h : ∀ d s', H d = none → d ≠ a → Inv X pins σ (upd (upd H a (xN a C (some d))) d (xD d [(f, y)])) s' → Q () s') : wpAny (model X.prog X.w) A (setAttr (.ref a) f u) Q E s := by
  obtain ⟨⟨t, q⟩, _, _⟩ := (show ObjOk X.prog X.w H s.heap a (xN a C none) from I.hok a _ e)
  refine PySem.W.xset_none I.kIn c n q rfl rfl rfl rfl fun h' hns hx hk => ?_
  obtain ⟨w1, w2, w3, w4, w5⟩ := I.nowhere hex (Heap.get?_none_of_le (Nat.le_refl s.heap.objs.size))
  have hne : s.heap.objs.size ≠ a := fun z => by rw [z, e] at w1; cases w1
  refine h s.heap.objs.size _ w1 hne ?_
  have I1 : Inv X pins σ (upd H a (xN a C (some s.heap.objs.size))) { s with heap := h', toks := s.toks + 2 } :=
    I.write (x := a) (e := a) (by rw [e]; exact True.intro) (.inl rfl) (fun b u hb z => hk b u hb z) ⟨_, hx⟩ (ok_xN (t := t) hx)
  refine I1.track (by rw [upd_ne hne]; exact w1) w2 w3 w4 w5 (ok_xD hns (fun g => ?_) fun g hg => ?_)
  · by_cases hg : g = f
    · have hb : (g == f) = true := beq_iff_eq.mpr hg
      simp only [List.lookup, hb, if_pos hg]; exact ry
    · have hb : (g == f) = false := beq_eq_false_iff_ne.mpr hg
      simp only [List.lookup, hb, if_neg hg]; trivial
  · by_cases z : g = f
    · rw [z]; simp
    · rw [if_neg z] at hg; exact absurd hg (by simp)
/-- .. one more -/
theorem setX1 {A : Around} {E : Value → Shared → Prop} {y : V} {u : Value} {Q : Unit → Shared → Prop} {d : Addr} {fs : List (Str × V)} (I : Inv X pins σ H s) (e : H a = some (xN a C (some d))) (ed : H d = some (xD d fs)) (c : PySem.W.XCl X.K C CT) (n : NoAttr X.K C f) (hl : fs.length < 1000) (ry : RelV y u)
    (h : ∀ s', Inv X pins σ (upd H d (xD d (putF f y fs))) s' → Q () s') : wpAny (model X.prog X.w) A (setAttr (.ref a) f u) Q E s := by
  obtain ⟨⟨t, q⟩, _, _⟩ := (show ObjOk X.prog X.w H s.heap a (xN a C (some d)) from I.hok a _ e)
  obtain ⟨⟨mA, hns, rel, wi⟩, _, _⟩ := (show ObjOk X.prog X.w H s.heap d (xD d fs) from I.hok d _ ed)
  refine PySem.W.xset_some I.kIn c n q rfl rfl rfl hns wi (by rw [List.length_map, sizeLine_eq]; omega) fun h' hn2 hs => h _ ?_
  refine I.write (x := d) (e := d) (by rw [ed]; exact True.intro) (.inl rfl) (fun b u hb z => (hs.2 b hb).trans z) (let ⟨o, _, _, z, _⟩ := hn2; ⟨o, z⟩) (ok_xD hn2 (fun g => ?_) fun g hg => ?_)
  · rw [lookup_putF]
    by_cases hg : g = f
    · rw [if_pos hg, if_pos hg]; exact ry
    · rw [if_neg hg, if_neg hg]; exact rel g
  · by_cases z : g = f
    · rw [z]; exact (keys_putF f y fs).1
    · rw [if_neg z] at hg; exact (keys_putF f y fs).2 g (wi g hg)
def sXF0 (K : PySem.W.Frag) (CT : Addr) (ta tv : TE) (f : Str) : TS := fun D σ H => tv σ H fun y H1 => ta σ H1 fun x H2 => ∃ a C, x = .ref a ∧ H2 a = some (xN a C none) ∧ PySem.W.XCl K C CT ∧ NoAttr K C f ∧
  ∀ d, H2 d = none → d ≠ a → D.nx σ (upd (upd H2 a (xN a C (some d))) d (xD d [(f, y)]))
def sXF1 (K : PySem.W.Frag) (CT : Addr) (ta tv : TE) (f : Str) : TS := fun D σ H => tv σ H fun y H1 => ta σ H1 fun x H2 => ∃ a C d fs, x = .ref a ∧ H2 a = some (xN a C (some d)) ∧ H2 d = some (xD d fs) ∧ PySem.W.XCl K C CT ∧ NoAttr K C f ∧ fs.length < 1000 ∧
  D.nx σ (upd H2 d (xD d (putF f y fs)))
variable {o value : Expr} {pos pos' : Pos} {ta tv : TE}
theorem ps_xf0 (CT : Addr) (hex : X.ex = []) (ha : PE X o ta) (hv : PE X value tv) (hs : swapsWith value (some (.Attribute o f pos')) pos.line X.env = pure false) : PS X (.Assign [.Attribute o f pos'] value pos) (sXF0 X.K CT ta tv f) := by
  intro pins s σ H D I h
  refine plainObj_wpAny_Assign_Attribute (thn (hv pins s σ H _ I h) fun u s1 ⟨y, H1, I1, ry, q⟩ => thn (ha pins s1 σ H1 _ I1 q) fun ov s2 ⟨x, H2, I2, rx, a, C, ex, ea, c, n, q2⟩ => ?_) hs
  subst ex
  obtain rfl : ov = Value.ref a := rx
  exact setX0 I2 hex ea c n ry fun d s3 w1 w2 I3 => ⟨σ, _, I3, q2 d w1 w2⟩
theorem ps_xf1 (CT : Addr) (ha : PE X o ta) (hv : PE X value tv) (hs : swapsWith value (some (.Attribute o f pos')) pos.line X.env = pure false) : PS X (.Assign [.Attribute o f pos'] value pos) (sXF1 X.K CT ta tv f) := by
  intro pins s σ H D I h
  refine plainObj_wpAny_Assign_Attribute (thn (hv pins s σ H _ I h) fun u s1 ⟨y, H1, I1, ry, q⟩ => thn (ha pins s1 σ H1 _ I1 q) fun ov s2 ⟨x, H2, I2, rx, a, C, d, fs, ex, ea, ed, c, n, l, q2⟩ => ?_) hs
  subst ex
  obtain rfl : ov = Value.ref a := rx
  exact setX1 I2 ea ed c n l ry fun s3 I3 => ⟨σ, _, I3, q2⟩
/-- TableError.__init__(self, ..) -/
structure XTop (K : PySem.W.Frag) (mg : Str → Option Value) (x : Str) (CT : Addr) : Prop where
  mg_ : mg x = some (.ref CT)
  cl : ExcC K CT PySem.W.bmV PySem.W.bmV "ValueError.__new__"
  sp : PySem.W.specialIn K (.ref CT) "__getattribute__" = some (some (.builtin "type.__getattribute__"))
  rd : PySem.W.readsIn K CT (.type "type") = true
  ini : PySem.W.findCls K (.ref CT) (.type "type") "__init__" = some (.val (.builtin "ValueError.__init__"))
def tBI (K : PySem.W.Frag) (CT : Addr) (t : TA) : TE := fun σ H Q => t σ H fun vs H1 => ∃ a C ws, vs = .ref a :: ws ∧ ws.length ≤ 1000 ∧ H1 a = some (xN a C none) ∧ PySem.W.XCl K C CT ∧ Q .non H1
end
end L2


end
section
set_option Elab.async false
set_option linter.all false
set_option maxRecDepth 100000
set_option maxHeartbeats 1000000
namespace PySem
section
variable {prog : Program} {w : World} {A : Around} {E : Value → Shared → Prop} {s : Shared} {K : W.Frag} {C CT e t : Addr} {dx : Option Addr}
/-- ValueError.__init__(e, ..) -/
theorem xinit_call {rest : List Value} {Q : Value → Shared → Prop} (X : K.In s.heap) (c : W.XCl K C CT) (he : s.heap.get? e = some { cls := .ref C, dict := dx, data := .fields #[.ref t, .none, .none, .none, .bool false, .none] }) (hl : rest.length ≤ sizeLine)
    (h : ∀ h' t', h'.get? e = some { cls := .ref C, dict := dx, data := .fields #[.ref t', .none, .none, .none, .bool false, .none] } → (∀ b o, b ≠ e → s.heap.get? b = some o → h'.get? b = some o) → Q .none { s with heap := h' }) :
    wpAny (model prog w) A (call (.builtin "ValueError.__init__") (.ref e :: rest)) Q E s := by
  obtain ⟨nm, q, N, bs, sn, sub, ab, col, dd, k0, k1, k2, k3, k5, lk, ok⟩ := c.cl
  have FB := F.excBase_ValueError
  have TL : OwnTail s.heap W.bmV (.ref CT :: W.bmV) := W.tail_of_in X c.tail
  have hC := X _ _ lk
  obtain ⟨hh, g, d, tk, os⟩ := s
  refine wpAny_call (codeAny_call_builtin FB.init.plain FB.initEntry (wpAny_check_init_subT FB TL hC he rfl ?_))
  wp_walk
  refine h _ hh.objs.size ?_ fun b o hb z => ?_
  · rw [Heap.get?_update_self _ (Heap.get?_push_of_some _ he) rfl]
    rfl
  · rw [Heap.get?_update_other _ _ (Ne.symm hb)]
    exact Heap.get?_push_of_some _ z
end
section
variable {prog : Program} {w : World} {A : Around} {E : Value → Shared → Prop} {h : Heap} {g : Array GenState} {d : Drawn} {t : Nat} {os : OsState} {K : W.Frag} {C CT : Addr}
/-- C(..): the record, then its __init__ -/
theorem made_X (X : K.In h) (c : W.XCl K C CT) {rest : List Value} {fI : Addr} {Q : Fin → Shared → Prop} (hf : W.findIn K (.ref C) "__init__" = some (some (.ref fI))) (hfn : W.isFn K (.ref fI) = true)
    (fin : ∀ h' e, Heap.MadeExcOf h h' e (.ref C) rest → wpAny (model prog w) A (call (.ref fI) (.ref e :: rest)) (fun r s' => r = .none ∧ Q (.done (.ret (.ref e))) s') E ⟨h', g, d, t, os⟩) (short : rest.length ≤ sizeLine) :
    wpAny (model prog w) A (Builtin.«type.__call__» ⟨.ref C :: rest, []⟩) Q E ⟨h, g, d, t, os⟩ := by
  obtain ⟨nm, q, N, bs, sn, sub, ab, col, dd, k0, k1, k2, k3, k5, lk, ok⟩ := c.cl
  have FB := F.excBase_ValueError
  have TL : OwnTail h W.bmV (.ref CT :: W.bmV) := W.tail_of_in X c.tail
  have cl := X _ _ lk
  repeat (first | (with_reducible refine wpAny_loadPart_at cl ?_) | (with_reducible refine wpAny_madeBy_exc cl ?_) | wp_step)
  refine codeAny_call_builtin_code (Code.quiet_builtin _ FB.quiet) (wpAny_check_new_subT FB TL cl ?_)
  refine codeAny_exc_new_subT FB TL cl ?_ short
  show wpAny _ _ _ _ _ _
  have kp : ∀ b o, h.get? b = some o → ((h.push (excTup rest)).push (excRec h C)).get? b = some o := fun b o e => Heap.get?_push_of_some _ (Heap.get?_push_of_some _ e)
  have X1 : K.In ((h.push (excTup rest)).push (excRec h C)) := X.keeps kp
  have cl1 : ((h.push (excTup rest)).push (excRec h C)).get? C = _ := kp _ _ cl
  have rec1 : ((h.push (excTup rest)).push (excRec h C)).get? (h.objs.size + 1) = some (excRec h C) := by heap_get
  have self : (Value.ref C :: .ref CT :: W.bmV).contains (.ref C) = true := by rw [List.contains_cons]; simp
  unfold isInstance
  repeat (first | (with_reducible refine wpAny_loadPart_at rec1 ?_) | (with_reducible refine wpAny_isSubtype_exc cl1 ?_; rw [self]) | wp_step)
  show wpAny _ _ (typeLookup (.ref C) _) _ _ _
  refine (W.looks_findIn (M := model prog w) X1 hf).at ?_
  refine wpAny_holding (wpAny_bind ((W.bind_fn (M := model prog w) X1 _ (beq_iff_eq.mp hfn)).at ?_))
  have mk : Heap.MadeExcOf h ((h.push (excTup rest)).push (excRec h C)) (h.objs.size + 1) (.ref C) rest :=
    ⟨kp, Heap.get?_none_of_le (Nat.le_succ _), h.objs.size, rec1, Heap.get?_none_of_le (Nat.le_refl _), Heap.get?_push_of_some _ (Heap.get?_push_at rfl rfl)⟩
  refine wpAny_bind (wpAny_mono (fin _ (h.objs.size + 1) mk) (fun r s' hr => ?_) fun _ _ z => z)
  obtain ⟨rfl, hQ⟩ := hr
  wp_walk
  exact hQ
theorem call_X (X : K.In h) (c : W.XCl K C CT) {rest : List Value} {fI : Addr} {Q : Value → Shared → Prop} (hf : W.findIn K (.ref C) "__init__" = some (some (.ref fI))) (hfn : W.isFn K (.ref fI) = true)
    (fin : ∀ h' e, Heap.MadeExcOf h h' e (.ref C) rest → wpAny (model prog w) (A.under (.builtin "type.__call__" ⟨.ref C :: rest, []⟩)) (call (.ref fI) (.ref e :: rest)) (fun r s' => r = .none ∧ Q (.ref e) s') E ⟨h', g, d, t, os⟩) (short : rest.length ≤ sizeLine) :
    wpAny (model prog w) A (call (.ref C) rest) Q E ⟨h, g, d, t, os⟩ := by
  obtain ⟨nm, q, N, bs, sn, sub, ab, col, dd, k0, k1, k2, k3, k5, lk, ok⟩ := c.cl
  have cl := X _ _ lk
  have l1 := tc_lookup
  have l2 := tc_bind (.ref C)
  have ty : (⟨h, g, d, t, os⟩ : Shared).TypeIs (.ref C) "type" := ⟨_, cl, rfl⟩
  refine wpAny_call (codeAny_of_tree ?_)
  show wpAny _ _ (callAny (.ref C) _) _ _ _
  repeat (any_goals (first | assumption | (with_reducible refine wpAny_loadPart_at cl ?_) | wp_step))
  refine ⟨rfl, ?_⟩
  refine codeAny_call_builtin_at (Code.quiet_builtin _ (by decide +kernel)) entry_typeCall (wpAny_check_type_call_sub cl (made_X X c hf hfn (fun h' e hm => ?_) short))
  exact fin h' e hm
end
section
variable {M : Model} {A : Around} {E : Value → Shared → Prop} {env : Env}
variable {nm q : Str} {C N : Addr} {bs bm : List Value} {hdct : Bool} {sn : List Str} {sub : List Value} {ab : Bool} {col : Option Bool} {dd : Option Addr} {k0 k1 k2 k3 k5 : Option Value} {newId : String}
/-- raise of what is made, whatever its record is -/
theorem raise_any {s : Shared} {x : Sem Value} {Q : Flow → Shared → Prop} (hbase : bm.contains (.type "BaseException") = true) (hh : A.handled = none)
    (h : wpAny M A x (fun v s₁ => ∃ e t dx, v = .ref e ∧ s₁.heap.get? C = some (excClassObj nm q C N bs bm hdct sn sub ab col dd k0 k1 k2 k3 k5 newId) ∧ s₁.heap.get? e = some { cls := .ref C, dict := dx, data := .fields #[.ref t, .none, .none, .none, .bool false, .none] } ∧ E (.ref e) s₁) E s) :
    wpAny M A (raiseStmt env (some x) none) Q E s := by
  have hcB : (Value.ref C :: bm).contains (.type "BaseException") = true := by rw [List.contains_cons, hbase, Bool.or_true]
  unfold raiseStmt
  refine wpAny_bind (wpAny_mono h (fun v s₁ h₁ => ?_) fun _ _ x => x)
  obtain ⟨e, t, dx, rfl, hC, he, hE⟩ := h₁
  obtain ⟨hp, g, d, tk, os⟩ := s₁
  repeat (first | with_reducible refine wpAny_loadPart_at he ?_ | with_reducible refine wpAny_loadPart_at hC ?_ | (with_reducible refine wpAny_isSubtype_exc hC ?_; rw [hcB]) | wp_step)
  exact wpAny_raiseNew_none hh hE
variable {nm' q' : Str} {CT N' : Addr} {bs' bm' : List Value} {hdct' : Bool} {sn' : List Str} {sub' : List Value} {ab' : Bool} {col' : Option Bool} {dd' : Option Addr} {j0 j1 j2 j3 j5 : Option Value} {newId' : String}
/-- except of a class above -/
theorem excMatches_up {h : Heap} {g : Array GenState} {d : Drawn} {t : Nat} {os : OsState} {e : Addr} {oe : Obj} {Q : Bool → Shared → Prop}
    (hC : h.get? C = some (excClassObj nm q C N bs bm hdct sn sub ab col dd k0 k1 k2 k3 k5 newId)) (hT : h.get? CT = some (excClassObj nm' q' CT N' bs' bm' hdct' sn' sub' ab' col' dd' j0 j1 j2 j3 j5 newId'))
    (he : h.get? e = some oe) (hcls : oe.cls = .ref C) (hbase : bm'.contains (.type "BaseException") = true) (hin : (Value.ref C :: bm).contains (.ref CT) = true)
    (hq : Q true ⟨h, g, d, t, os⟩) : wpAny M A (excMatches (.ref e) (.ref CT)) Q E ⟨h, g, d, t, os⟩ := by
  have hcB : (Value.ref CT :: bm').contains (.type "BaseException") = true := by rw [List.contains_cons, hbase, Bool.or_true]
  have f := tc_notTuple
  unfold excMatches
  repeat (first | (with_reducible refine wpAny_loadPart_at he ?_; rw [hcls]) | with_reducible refine wpAny_loadPart_at hT ?_ | (with_reducible refine wpAny_isSubtype_exc hT ?_; rw [hcB]) | (with_reducible refine wpAny_isSubtype_exc hC ?_; rw [hin]) | wp_step)
  exact hq
end
end PySem
namespace PySem.W
open PySem
def xFacts (K : Frag) (C : Addr) (fl : List Str) : Bool := findIn K (.ref C) "__getattribute__" == some (some (.builtin "BaseException.__getattribute__")) && (findIn K (.ref C) "__getattr__" == some none && (findIn K (.ref C) "__setattr__" == some (some (.builtin "object.__setattr__")) && (findIn K (.ref C) "__class__" == some (some (.builtin "object.__class__")) && fl.all fun f => findIn K (.ref C) f == some none)))
section
variable {K : Frag} {C CT : Addr} {fl : List Str}
theorem xFacts_of (h : xFacts K C fl = true) : findIn K (.ref C) "__getattribute__" = some (some (.builtin "BaseException.__getattribute__")) ∧ findIn K (.ref C) "__getattr__" = some none ∧ findIn K (.ref C) "__setattr__" = some (some (.builtin "object.__setattr__")) ∧
    findIn K (.ref C) "__class__" = some (some (.builtin "object.__class__")) ∧ ∀ f ∈ fl, findIn K (.ref C) f = some none := by
  unfold xFacts at h
  simp only [Bool.and_eq_true, beq_iff_eq, List.all_eq_true] at h
  exact h
theorem xFacts_no (h : xFacts K C fl = true) {f : Str} (hf : f ∈ fl) : L2.NoAttr K C f := (xFacts_of h).2.2.2.2 f hf
theorem XCl.of (cl : ∃ nm q N bs sn sub ab col dd k0 k1 k2 k3 k5, K.lookup C = some (excClassObj nm q C N bs (.ref CT :: bmV) true sn sub ab col dd k0 k1 k2 k3 k5 "ValueError.__new__") ∧ nsOkIn K N = true) (tail : tailIn K bmV (.ref CT :: bmV) = true)
    (h : xFacts K C fl = true) (cg : specialIn K (.builtin "object.__class__") "__get__" = some (some (.builtin "getset_descriptor.__get__"))) (ct : takesIn K (.builtin "object.__class__") = some true) : XCl K C CT :=
  let ⟨a, b, c, d, _⟩ := xFacts_of h; ⟨cl, tail, a, b, c, d, cg, ct⟩
def tabOk (K : Frag) (l : List Addr) : Bool := (List.range l.length).all fun i => (List.range l.length).all fun j => kitOne K (.ref (l.getD i 0)) (.ref (l.getD j 0)) == some (decide (i = j))
def tvOk (K : Frag) (l : List Addr) : Bool := (List.range l.length).all fun i => kitOne K (.ref (l.getD i 0)) (.type "ValueError") == some true
theorem xtab_of {l : List Addr} (h : tabOk K l = true) : ∀ i j, i < l.length → j < l.length → kitOne K (.ref (l.getD i 0)) (.ref (l.getD j 0)) = some (decide (i = j)) := by
  unfold tabOk at h
  simp only [List.all_eq_true, List.mem_range, beq_iff_eq] at h
  exact fun i j hi hj => h i hi j hj
theorem xtv_of {l : List Addr} (h : tvOk K l = true) : ∀ i, i < l.length → kitOne K (.ref (l.getD i 0)) (.type "ValueError") = some true := by
  unfold tvOk at h
  simp only [List.all_eq_true, List.mem_range, beq_iff_eq] at h
  exact h
/-- isinstance of a tuple of such classes -/
theorem any_of {n : Nat} {cs : Nat → Addr} (tab : ∀ i j, i < n → j < n → kitOne K (.ref (cs i)) (.ref (cs j)) = some (decide (i = j))) {i : Nat} (hi : i < n) : ∀ js : List Nat, (∀ j ∈ js, j < n) → kitAny K (.ref (cs i)) ((js.map cs).map Value.ref) = some (decide (i ∈ js))
  | [], _ => by simp [kitAny]
  | j :: js, h => by
    have ih := any_of tab hi js fun j hj => h j (List.mem_cons_of_mem _ hj)
    rw [List.map_cons, List.map_cons]
    unfold kitAny
    rw [tab i j hi (h j List.mem_cons_self), ih]
    by_cases e : i = j
    · simp [e]
    · simp [e]
end
end PySem.W
namespace L2
open PySem PySem.Spec PyProof.Rows
theorem bo_ValueError : bootBuiltins "ValueError" = some (.type "ValueError") := by decide +kernel
section
variable {X : Cx} {x : Str} {CT : Addr} {e : Expr} {es : List Expr} {t : TA} {p pos apos cpos np : Pos} {pl : Sem Bool}
theorem pe_binit (T : XTop X.K X.mg x CT) (hg : Gl X x) (ha : PA X (e :: es) t) (hdb : (x == ("__debug__" : Str)) = false := by decide)
    (he : starEach (e :: es) X.env = (false, eval e X.env) :: starEach es X.env := by rfl) (hpl : (backTo pos (starEach es X.env)).any (·.1) = false := by rfl)
    (ht : eval (.Call (.Attribute (.Name x p) "__init__" apos) (e :: es) [] pos) X.env = (do
      let ov ← eval (.Name x p) X.env
      standAt apos.atName
      let (f, first) ← holding [ov] (getMethod ov "__init__" pl)
      callWith pos f first (backTo pos (starEach (e :: es) X.env)) (backToKw pos (keywordEach [] X.env))) := by rfl) :
    PE X (.Call (.Attribute (.Name x p) "__init__" apos) (e :: es) [] pos) (tBI X.K CT t) := by
  intro pins s σ H Q I h
  refine PySem.W.methodCall_KW (pl := pl) (ld_glob I hg T.mg_ ?_ hdb) ht
  refine PySem.W.method_cls I.kIn T.sp (PySem.W.cls_value I.kIn T.rd T.ini (by decide +kernel) ?_)
  refine PyProof.Rows.callWith_builtin1 (thn (ha pos pins _ σ H _ (I.tok _) h) fun us s1 ⟨vs, H1, I1, r, a, C, ws, ev, hl, ea, c, q⟩ => ?_) he hpl
  subst ev
  cases r with
  | cons r0 r1 =>
    cases (show _ = Value.ref a from r0)
    obtain ⟨⟨t, g⟩, _, _⟩ := (show ObjOk X.prog X.w H1 s1.heap a (xN a C none) from I1.hok a _ ea)
    refine xinit_call I1.kIn c g (by rw [← r1.length, sizeLine_eq]; omega) fun h' t' g' k => ⟨.non, H1, ?_, rfl, q⟩
    have I2 := I1.write (h' := h') (t' := s1.toks) (x := a) (e := a) (o := xN a C none) (by rw [ea]; exact True.intro) (.inl rfl) (fun b u hb z => k b u hb z) ⟨_, g'⟩ (ok_xN (t := t') g')
    have eH : upd H1 a (xN a C none) = H1 := by
      funext b
      by_cases hb : b = a
      · rw [hb, upd_same]; exact ea.symm
      · rw [upd_ne hb]
    rw [eH] at I2
    exact I2
/-- what the __init__ of an own exception promises: it bears the fields fl -/
def sp_X (C : Addr) (fl : List Str) : Sp := fun vs H Q _ => ∃ e ws, vs = .ref e :: ws ∧ ws.length = fl.length ∧ H e = some (xN e C none) ∧ ∀ d, H d = none → d ≠ e → Q .non (upd (upd H e (xN e C (some d))) d (xD d (fl.zip ws)))
/-- a class of exceptions with an own __init__ -/
def MkX (P : Program) (w : World) (K : PySem.W.Frag) (mg : Str → Option Value) (base : Heap) (k : Nat) (x : Str) (C CT : Addr) (fl : List Str) : Prop :=
  ∃ f fd ps, FnOk P w K mg base CX0 k f fd ps (sp_X C fl) ∧ Binds K fd ps [] ∧ PySem.W.XCl K C CT ∧ PySem.W.findIn K (.ref C) "__init__" = some (some (.ref f)) ∧ PySem.W.isFn K (.ref f) = true ∧ PySem.W.keepIn K (.ref C) = true ∧ mg x = some (.ref C)
def tRaiseX (E : XK) (C : Addr) (fl : List Str) (t : TA) : TS := fun _ σ H => t σ H fun vs H1 => vs.length = fl.length ∧ vs.length ≤ 1000 ∧ ∀ d, H1 d = none → E (.ref C) (some d) (upd H1 d (xD d (fl.zip vs)))
variable {E : XK} {C : Addr} {fl : List Str} {j k : Nat}
theorem ps_raiseX (T : Throws X E) (hex : X.ex = []) (hcalm : X.calm = true) (hg : Gl X x) (G : MkX X.prog X.w X.K X.mg X.base j x C CT fl) (hr : Room k X.A) (hj : j + 1 ≤ k) (ha : PA X (e :: es) t) (hdb : (x == ("__debug__" : Str)) = false := by decide)
    (he : starEach (e :: es) X.env = (false, eval e X.env) :: starEach es X.env := by rfl) (hpl : (backTo cpos (starEach es X.env)).any (·.1) = false := by rfl) :
    PS X (.Raise (some (.Call (.Name x np) (e :: es) [] cpos)) none pos) (tRaiseX E C fl t) := by
  intro pins s σ H D I h
  obtain ⟨f, fd, ps, F, hb, c, hf, hfn, kp, hm⟩ := G
  obtain ⟨nm, q, N, bs, sn, sub, ab, col, dd, k0, k1, k2, k3, k5, lk, ok⟩ := id c.cl
  rw [arm_exec_Raise]
  refine wpAny_bind (wpAny_standAt (raise_any (C := C) (nm := nm) (q := q) (N := N) (bs := bs) (bm := .ref CT :: PySem.W.bmV) (hdct := true) (sn := sn) (sub := sub) (ab := ab) (col := col) (dd := dd) (k0 := k0) (k1 := k1) (k2 := k2) (k3 := k3) (k5 := k5) (newId := "ValueError.__new__") (by rw [List.contains_cons, PySem.F.excBase_ValueError.hasBase, Bool.or_true]) (I.ok.hd hcalm) ?_))
  refine wpAny_bind (wpAny_mono (wpAny_Call_ofName (ld_glob I hg hm ?_ hdb)) (fun v s₃ h₃ => wpAny_bind (wpAny_standAt (wpAny_pure h₃))) fun _ _ z => z)
  refine PySem.W.callWith_K (h₀ := X.base) I.ok.mod.kin kp (thn (ha cpos pins s σ H _ I h) fun us s1 ⟨vs, H1, I1, r, hl, hz, q⟩ => ⟨I1.kIn, ?_⟩) he hpl
  obtain ⟨hh, g, dr, tk, os⟩ := s1
  refine call_X I1.kIn c hf hfn (fun h' ea mk => ?_) (by rw [sizeLine_eq, List.nil_append, ← r.length]; omega)
  rw [List.nil_append] at mk ⊢
  have hC' := mk.there
  obtain ⟨tt, he', _⟩ := hC'
  obtain ⟨w1, w2, w3, w4, w5⟩ := I1.nowhere hex mk.new
  have I1' : Inv X pins σ H1 ⟨h', g, dr, tk, os⟩ := I1.kept (t' := tk) mk.keeps
  have I2 : Inv X pins σ (upd H1 ea (xN ea C none)) ⟨h', g, dr, tk, os⟩ := I1'.track w1 w2 w3 w4 w5 (ok_xN (t := tt) he')
  have hsp : sp_X C fl (.ref ea :: vs) (upd H1 ea (xN ea C none)) (fun v H2 => v = .non ∧ ∃ d, H1 d = none ∧ d ≠ ea ∧ H2 = upd (upd (upd H1 ea (xN ea C none)) ea (xN ea C (some d))) d (xD d (fl.zip vs))) E0 :=
    ⟨ea, vs, rfl, hl, upd_same, fun d hd hne => ⟨rfl, d, by rw [upd_ne hne] at hd; exact hd, hne, rfl⟩⟩
  have r2 : Vals (V.ref ea :: vs) (Value.ref ea :: us) := .cons rfl r
  have hlen : (Value.ref ea :: us ++ []).length = ps.length := by rw [List.append_nil, ← r2.length]; exact F.len _ _ _ _ hsp
  have b := hb ⟨h', g, dr, tk, os⟩ (Value.ref ea :: us) I2.kIn hlen
  rw [List.append_nil] at b
  refine wpAny_call (codeAny_mono (F.run _ X.stack _ _ ⟨Value.ref ea :: us, []⟩ (Value.ref ea :: us) _ _ E0 ((hr.mono hj).make C us []) (I2.env0.make C us []) b r2 hsp) fun res s' hq => ?_)
  cases res with
  | error ev => exact False.elim hq
  | ok fo =>
    cases fo with
    | next => exact False.elim hq
    | brk => exact False.elim hq
    | cont => exact False.elim hq
    | ret u =>
      obtain ⟨v, H3, I3, rv, ev, d, hd, hne, eH⟩ := I2.after hq
      subst ev
      subst eH
      have e3 : upd (upd (upd H1 ea (xN ea C none)) ea (xN ea C (some d))) d (xD d (fl.zip vs)) ea = some (xN ea C (some d)) := by rw [upd_ne (Ne.symm hne), upd_same]
      obtain ⟨⟨t3, g3⟩, _, _⟩ := (show ObjOk X.prog X.w _ s'.heap ea (xN ea C (some d)) from I3.hok ea _ e3)
      have e4 : upd H1 d (xD d (fl.zip vs)) ea = none := by rw [upd_ne (Ne.symm hne)]; exact w1
      have I4 : Inv X pins σ (upd H1 d (xD d (fl.zip vs))) s' := I3.off e3 w2 (fun y hy => by
        by_cases hyd : y = d
        · rw [hyd, upd_same, upd_same]
        · rw [upd_ne hyd, upd_ne hyd, upd_ne hy, upd_ne hy]) e4
      refine ⟨rv, ea, t3, some d, rfl, I3.kIn _ _ lk, g3, ?_⟩
      exact T pins σ _ s' ea (.ref C) (some d) [] none I4 ⟨_, _, g3, rfl, rfl, rfl, ⟨⟨.none, rfl, rfl⟩, by simp, fun p hp => by cases hp⟩, rfl⟩ (.inl rfl) w2 e4 (q d hd)
end
/-- the ends of a suite behind which the name i goes -/
def Ends.gone (D : Ends) (i : Nat) : Ends := { nx := fun σ H => D.nx (σ.set i none) H, rt := D.rt, bk := fun σ H => D.bk (σ.set i none) H, ct := fun σ H => D.ct (σ.set i none) H }
section
variable {X : Cx} {st b₀ : Stmt} {suite : List Stmt} {t1 : TS1} {ts : TS} {x n : Str} {CT : Addr} {np hpos pos : Pos} {i : Nat}
theorem ps_tryAs (h1 : PS1 X st t1) (hex : X.ex = []) (hst : X.stack = X.env :: X.outer) (hfr : X.env.frame = some X.env.locals) (hg : Gl X x) (hm : X.mg x = some (.ref CT)) (c : ExcC X.K CT PySem.W.bmV PySem.W.bmV "ValueError.__new__")
    (hN : X.N.Nodup) (hi : X.N[i]? = some n) (hk : X.env.scope.names.lookup n = some .local) (hs : ∀ ea, X.Ok → PSs (X.held ea []).nox (b₀ :: suite) ts) (hdb : (x == ("__debug__" : Str)) = false := by decide) :
    PS X (.Try [st] [.ExceptHandler (some (.Name x np)) (some n) (b₀ :: suite) hpos] [] [] pos)
      (fun D σ H => t1 D σ H fun cls dx H' => ∃ C, cls = .ref C ∧ PySem.W.XCl X.K C CT ∧ ∀ ea, H' ea = none → ts (D.gone i) (σ.set i (some (.ref ea))) (upd H' ea (xC ea C dx))) := by
  intro pins s σ H D I h
  refine wpAny_Try_except (wpAny_execs_cons (wpAny_mono (h1 pins s σ H D _ I h) (fun f s1 q => ?_) fun ev s1 q => ?_))
  · cases f with
    | next => exact wpAny_execs_nil (wpAny_execs_nil q)
    | ret v => exact q
    | brk => exact q
    | cont => exact q
  obtain ⟨ea, cls, dx, ch, H', old, rfl, I1, y, o, hsz, n1, n2, C, rfl, xc, hts⟩ := q
  have frm : X.A.frames = some (X.env :: X.outer) := by rw [← hst]; exact I1.ok.frames
  have stk : s1.heap.FunFrames X.base (X.env :: X.outer) := by rw [← hst]; exact I1.stack
  obtain ⟨nm, q, N, bs, hdct, sn, sub, ab, col, dd, k0, k1, k2, k3, k5, lk, ok, _⟩ := c.ex
  obtain ⟨nm', q', N', bs', sn', sub', ab', col', dd', j0, j1, j2, j3, j5, lk', ok'⟩ := xc.cl
  refine note_ok (base := X.base) frm stk hfr (fun b hb => ⟨hsz b hb, I1.hok.fresh hb⟩) y (.inr rfl) fun h2 st2 y2 => ?_
  refine land_ok (s := { s1 with heap := h2 }) (fs := frs (X.env :: X.outer)) (fun b hb => ((st2.funs stk).mem hb).2) y2 fun h3 st3 y3 => ?_
  have st := st2.trans st3
  rw [← hst] at st
  have I3 : Inv X pins σ H' { s1 with heap := h3 } := I1.stayed hex o n1 n2 st
  refine wpAny_handleBy_cons (codeAny_handlers_test (ld_glob (X := X.held ea []) (I3.held (ea := ea) (ps := []) fun p hp => by cases hp) hg hm ?_ hdb)) (by intro z; cases z)
  obtain ⟨oe, vs, he, hc, hdx, hd, _, hh⟩ := id y3
  refine excMatches_up (I3.kIn _ _ lk') (I3.kIn _ _ lk) he hc (by decide) (by simp) (codeAny_handlers_suite_as ?_)
  refine land_ok (s := { s1 with heap := h3 }) (fs := frs X.stack) (fun b hb => (I3.stack.mem hb).2) y3 fun h4 st4 y4 => ?_
  have I4 : Inv X pins σ H' { s1 with heap := h4 } := I3.stayed hex o n1 n2 st4
  obtain ⟨oe4, vs4, he4, hc4, hdx4, hd4, _, _⟩ := y4
  have nfr : ∀ b u va, h4.get? b = some u → u.data = .fields va → b ≠ X.env.locals := fun b u va q d => by
    have st4 : h4.FunFrames X.base (X.env :: X.outer) := by rw [← hst]; exact I4.stack
    have hno : b ∉ frs (X.env :: X.outer) := fun hm => by
      obtain ⟨_, o2, q2, hn2⟩ := st4.mem hm
      rw [q] at q2; cases q2
      exact hn2 va d
    rw [frs_cons hfr] at hno
    exact fun z => hno (by rw [z]; exact List.mem_cons_self)
  have hok4 := I4.hok
  have I5 : Inv X pins σ (upd H' ea (xC ea C dx)) { s1 with heap := h4 } := I4.track n2 (o.ent _ n1) (nfr _ _ _ he4 hd4) (fun x c q z => by
      obtain ⟨v, oc, ho, hcd⟩ := I4.cell x c q
      rw [z] at ho
      have ho : h4.get? ea = some oc := ho
      rw [he4] at ho; cases ho
      rw [hd4] at hcd; cases hcd) (fun p hp z => o.pin p hp (by rw [z]; exact n1)) (ok_xC he4 hc4 hdx4 hd4)
  have J5 : Inv (X.held ea []).nox pins σ (upd H' ea (xC ea C dx)) { s1 with heap := h4 } := (I5.held (ea := ea) (ps := []) fun p hp => by cases hp).wish _
  refine store_ok (X := (X.held ea []).nox) J5 hN hi (.inl hk) (v := .ref ea) rfl (fun s6 J6 => ?_) (.inr hk)
  refine wpAny_mono (hs ea I.ok pins s6 _ _ (D.gone i) J6 (hts ea n2)) (fun f s7 z => ?_) fun _ _ z => False.elim z
  show wpAny _ _ (do bindName X.env n .none; unbindBehindTheSuite X.env n hpos) _ _ _
  have back : ∀ {σ' : St} {H'' : Hp}, Inv (X.held ea []).nox pins σ' H'' s7 → Inv X pins σ' H'' s7 := fun J => (Inv.unwish J).unheld I.ok
  cases f with
  | next => obtain ⟨σ', H5, J, q⟩ := z; exact name_gone (back J) hN hi hk fun s8 J8 => ⟨_, H5, J8, q⟩
  | brk => obtain ⟨σ', H5, J, q⟩ := z; exact name_gone (back J) hN hi hk fun s8 J8 => ⟨_, H5, J8, q⟩
  | cont => obtain ⟨σ', H5, J, q⟩ := z; exact name_gone (back J) hN hi hk fun s8 J8 => ⟨_, H5, J8, q⟩
  | ret u => obtain ⟨v, σ', H5, J, r, q⟩ := z; exact name_gone (back J) hN hi hk fun s8 J8 => ⟨v, _, H5, J8, r, q⟩
end
end L2


end
section
set_option Elab.async false
set_option linter.all false
set_option maxRecDepth 100000
set_option maxHeartbeats 4000000
namespace My
open PySem L2 Pl Th
theorem cxOf_K {CX : CXT} {P : Program} {w : World} {K : PySem.W.Frag} {mg : Str → Option Value} {base : Heap} {N : List Str} {qual : Str} {scope : Scope} {f : Addr} {cd : Value} {A : Around} {outer : List Env} {s : Shared} {H : Hp} {E : XK} : (cxOf CX P w K mg base N qual scope f cd A outer s H E).K = K := rfl
theorem blk_K {X : Cx} {sc : Scope} {x : Str} {M : List Str} {cl : List (Str × Addr)} {C : Addr} {s : Shared} {H : Hp} {fp : List Addr} : (blk X sc x M cl C s H fp).K = X.K := rfl
local macro_rules | `(tactic| walk_at "rd") => `(tactic| simp (maxSteps := 1000000) only [cxOf_K, blk_K, tFor_rng1, tFor_rng2, tFor_list, tFor_tup, tFor_str, tLc_rng1, tLc_list, tLc_tup, tLc_str, tSeq, tNext, tSetLc, rIxL, rIxT, rIxS, rLtV, rIn, rEqL, rJoin, rCat, rSlL, rSlS, Int.reduceLT, Int.reduceLE, Int.reduceToNat, tIfS, tTest, tB, tNot, tAnd, tOr, tAndV, tOrV, tNotV, tOp, tUn, tVar, tC, tRet, tRetN, tAsg, gName, tDrop, tCB, tCall, tCons, tNil, tTup, tLst, rI, rI0, rU, rEq, rNe, scal, tBM, tBM0, rAppend, tChain, tSl, tPart, tNoPart, tFmtI, tFmtS, tJoinF, tParts, empty_add, tSortK, tSortKB, tIf, tFor_zip, gTup, gCons, gNil, rAll, tDNew, tLc_rng2, rEqN, tYes,  List.getElem?_cons_zero, List.getElem?_cons_succ, List.set_cons_zero, List.set_cons_succ, Option.some.injEq, V.int.injEq, V.bl.injEq, V.str.injEq, V.ref.injEq, exists_eq_left, exists_eq_left', exists_eq_right, exists_and_left, List.cons.injEq, and_true, true_and, List.append_nil, decide_eq_true_eq, Bool.not_eq_true', decide_eq_false_iff_not, Bool.not_true, Bool.not_false, if_true, if_false, Bool.true_eq_false, Bool.false_eq_true, reduceCtorEq, exists_const, exists_false, false_and, and_false, not_true_eq_false, not_false_eq_true, ite_true, ite_false])
local macro_rules | `(tactic| walk_at "side") => `(tactic| first | omega | decide | (unfold CDiv; omega) | (refine CMul.ok ?_; unfold CMul; omega) | (unfold CMul; omega) | (unfold CPow; omega) | (unfold CDiv; decide) | (unfold CPow; decide))
local macro_rules | `(tactic| walk_at "go") => `(tactic| (repeat refine And.intro (by walk_at "side") ?_))

def top (i : Nat) : Stmt := PySem.Challenge.pw_twigtable_k08_refusals.main.body.getD i (.Pass ⟨0, 0, 0, 0⟩)
def topM (i j : Nat) : Stmt := match top i with | .ClassDef _ _ _ body _ _ _ _ _ _ _ => body.getD j (.Pass ⟨0, 0, 0, 0⟩) | s => s
abbrev s_NotRising_init : Stmt := topM 9 0
theorem sc_NotRising_init : FnScope ["self", "key"] ["self", "key"] (defScope s_NotRising_init) := ⟨rfl, rfl, rfl, by decide +kernel, rfl, by decide +kernel, by decide +kernel⟩
abbrev s_NoRow_init : Stmt := topM 10 0
theorem sc_NoRow_init : FnScope ["self", "key"] ["self", "key"] (defScope s_NoRow_init) := ⟨rfl, rfl, rfl, by decide +kernel, rfl, by decide +kernel, by decide +kernel⟩
abbrev s_Unfit_init : Stmt := topM 11 0
theorem sc_Unfit_init : FnScope ["self", "key"] ["self", "key"] (defScope s_Unfit_init) := ⟨rfl, rfl, rfl, by decide +kernel, rfl, by decide +kernel, by decide +kernel⟩
abbrev s_NoColumn_init : Stmt := topM 12 0
theorem sc_NoColumn_init : FnScope ["self", "column"] ["self", "column"] (defScope s_NoColumn_init) := ⟨rfl, rfl, rfl, by decide +kernel, rfl, by decide +kernel, by decide +kernel⟩
abbrev s_ColumnThere_init : Stmt := topM 13 0
theorem sc_ColumnThere_init : FnScope ["self", "column"] ["self", "column"] (defScope s_ColumnThere_init) := ⟨rfl, rfl, rfl, by decide +kernel, rfl, by decide +kernel, by decide +kernel⟩
abbrev s_NoClash_init : Stmt := topM 14 0
theorem sc_NoClash_init : FnScope ["self", "key", "column"] ["self", "key", "column"] (defScope s_NoClash_init) := ⟨rfl, rfl, rfl, by decide +kernel, rfl, by decide +kernel, by decide +kernel⟩
abbrev s_NoPage_init : Stmt := topM 15 0
theorem sc_NoPage_init : FnScope ["self", "number"] ["self", "number"] (defScope s_NoPage_init) := ⟨rfl, rfl, rfl, by decide +kernel, rfl, by decide +kernel, by decide +kernel⟩
abbrev s_NoMake_init : Stmt := topM 16 0
theorem sc_NoMake_init : FnScope ["self", "number"] ["self", "number"] (defScope s_NoMake_init) := ⟨rfl, rfl, rfl, by decide +kernel, rfl, by decide +kernel, by decide +kernel⟩
abbrev s_NotBroken_init : Stmt := topM 17 0
theorem sc_NotBroken_init : FnScope ["self", "number"] ["self", "number"] (defScope s_NotBroken_init) := ⟨rfl, rfl, rfl, by decide +kernel, rfl, by decide +kernel, by decide +kernel⟩
abbrev s_NoName_init : Stmt := topM 18 0
theorem sc_NoName_init : FnScope ["self", "word"] ["self", "word"] (defScope s_NoName_init) := ⟨rfl, rfl, rfl, by decide +kernel, rfl, by decide +kernel, by decide +kernel⟩
abbrev s_InUse_init : Stmt := topM 19 0
theorem sc_InUse_init : FnScope ["self", "word"] ["self", "word"] (defScope s_InUse_init) := ⟨rfl, rfl, rfl, by decide +kernel, rfl, by decide +kernel, by decide +kernel⟩
abbrev s__law_cell_at : Stmt := top 21
theorem sc__law_cell_at : FnScope ["_law_script", "_law_k"] ["_law_script", "_law_k"] (defScope s__law_cell_at) := ⟨rfl, rfl, rfl, by decide +kernel, rfl, by decide +kernel, by decide +kernel⟩
abbrev s__law_mix : Stmt := top 22
theorem sc__law_mix : FnScope ["_law_cell", "_law_k", "_law_number"] ["_law_cell", "_law_k"] (defScope s__law_mix) := ⟨rfl, rfl, rfl, by decide +kernel, rfl, by decide +kernel, by decide +kernel⟩
abbrev s__law_raise_plain : Stmt := top 25
theorem sc__law_raise_plain : FnScope ["_law_k"] ["_law_k"] (defScope s__law_raise_plain) := ⟨rfl, rfl, rfl, by decide +kernel, rfl, by decide +kernel, by decide +kernel⟩
abbrev s__law_classes : Stmt := top 27
theorem sc__law_classes : FnScope ["_law_e", "_law_some"] ["_law_e"] (defScope s__law_classes) := ⟨rfl, rfl, rfl, by decide +kernel, rfl, by decide +kernel, by decide +kernel⟩
abbrev s__law_same : Stmt := top 28
theorem sc__law_same : FnScope ["_law_found", "_law_due"] ["_law_found", "_law_due"] (defScope s__law_same) := ⟨rfl, rfl, rfl, by decide +kernel, rfl, by decide +kernel, by decide +kernel⟩
abbrev s__law_letters : Stmt := top 23
theorem sc__law_letters : FnScope ["_law_cell", "_law_some"] ["_law_cell"] (defScope s__law_letters) := ⟨rfl, rfl, rfl, by decide +kernel, rfl, by decide +kernel, by decide +kernel⟩
abbrev s__law_tells : Stmt := top 29
theorem sc__law_tells : FnScope ["_law_e", "_law_key_here", "_law_column", "_law_number", "_law_word"] ["_law_e", "_law_key_here", "_law_column", "_law_number", "_law_word"] (defScope s__law_tells) := ⟨rfl, rfl, rfl, by decide +kernel, rfl, by decide +kernel, by decide +kernel⟩
abbrev s__law_key : Stmt := top 24
theorem sc__law_key : FnScope ["_law_cell"] ["_law_cell"] (defScope s__law_key) := ⟨rfl, rfl, rfl, by decide +kernel, rfl, by decide +kernel, by decide +kernel⟩
abbrev s__law_raise : Stmt := top 26
theorem sc__law_raise : FnScope ["_law_k", "_law_key_here", "_law_column", "_law_number", "_law_word"] ["_law_k", "_law_key_here", "_law_column", "_law_number", "_law_word"] (defScope s__law_raise) := ⟨rfl, rfl, rfl, by decide +kernel, rfl, by decide +kernel, by decide +kernel⟩
abbrev s__law_good : Stmt := top 30
theorem sc__law_good : FnScope ["_law_k", "_law_key_here", "_law_column", "_law_number", "_law_word", "_law_caught", "_law_e"] ["_law_k", "_law_key_here", "_law_column", "_law_number", "_law_word"] (defScope s__law_good) := ⟨rfl, rfl, rfl, by decide +kernel, rfl, by decide +kernel, by decide +kernel⟩
abbrev s_law : Stmt := top 31
theorem sc_law : FnScope ["_law_script", "_law_key_here", "_law_column", "_law_number", "_law_word", "_law_k"] ["_law_script"] (defScope s_law) := ⟨rfl, rfl, rfl, by decide +kernel, rfl, by decide +kernel, by decide +kernel⟩
structure Zs (mg : Str → Option Value) : Prop where
  ValueError : mg "ValueError" = none
  bool : mg "bool" = none
  int : mg "int" = none
  isinstance : mg "isinstance" = none
  len : mg "len" = none
  range : mg "range" = none
  str : mg "str" = none
structure Tx (K : PySem.W.Frag) (mg : Str → Option Value) (CT : Addr) (cs : Nat → Addr) : Prop where
  top : XTop K mg "TableError" CT
  mg_BadKey : mg "BadKey" = some (.ref (cs 0))
  x_BadKey : ExcC K (cs 0) (.ref CT :: PySem.W.bmV) PySem.W.bmV "ValueError.__new__"
  mg_BadValue : mg "BadValue" = some (.ref (cs 1))
  x_BadValue : ExcC K (cs 1) (.ref CT :: PySem.W.bmV) PySem.W.bmV "ValueError.__new__"
  mg_BadWord : mg "BadWord" = some (.ref (cs 2))
  x_BadWord : ExcC K (cs 2) (.ref CT :: PySem.W.bmV) PySem.W.bmV "ValueError.__new__"
  mg_BadElders : mg "BadElders" = some (.ref (cs 3))
  x_BadElders : ExcC K (cs 3) (.ref CT :: PySem.W.bmV) PySem.W.bmV "ValueError.__new__"
  mg_BadText : mg "BadText" = some (.ref (cs 4))
  x_BadText : ExcC K (cs 4) (.ref CT :: PySem.W.bmV) PySem.W.bmV "ValueError.__new__"
  mg_BadRow : mg "BadRow" = some (.ref (cs 5))
  x_BadRow : ExcC K (cs 5) (.ref CT :: PySem.W.bmV) PySem.W.bmV "ValueError.__new__"
  mg_Unsaved : mg "Unsaved" = some (.ref (cs 6))
  x_Unsaved : ExcC K (cs 6) (.ref CT :: PySem.W.bmV) PySem.W.bmV "ValueError.__new__"
  mg_NotRising : mg "NotRising" = some (.ref (cs 7))
  mg_NoRow : mg "NoRow" = some (.ref (cs 8))
  mg_Unfit : mg "Unfit" = some (.ref (cs 9))
  mg_NoColumn : mg "NoColumn" = some (.ref (cs 10))
  mg_ColumnThere : mg "ColumnThere" = some (.ref (cs 11))
  mg_NoClash : mg "NoClash" = some (.ref (cs 12))
  mg_NoPage : mg "NoPage" = some (.ref (cs 13))
  mg_NoMake : mg "NoMake" = some (.ref (cs 14))
  mg_NotBroken : mg "NotBroken" = some (.ref (cs 15))
  mg_NoName : mg "NoName" = some (.ref (cs 16))
  mg_InUse : mg "InUse" = some (.ref (cs 17))
  cl : ∀ i, i < 18 → PySem.W.XCl K (cs i) CT
  no : ∀ i, i < 18 → ∀ f ∈ (["key", "column", "number", "word"] : List Str), NoAttr K (cs i) f
  tab : ∀ i j, i < 18 → j < 18 → PySem.W.kitOne K (.ref (cs i)) (.ref (cs j)) = some (decide (i = j))
  tv : ∀ i, i < 18 → PySem.W.kitOne K (.ref (cs i)) (.type "ValueError") = some true
def bitsOk (n : Int) : Prop := Builtin.Int.intBits n ≤ 2 ^ 20
theorem bits_div' {n k : Int} (h : bitsOk n) : bitsOk (n / k) := Nat.le_trans (bits_div n k) h

def sp__law_mix (_ : PySem.W.Frag) : Sp := fun vs H Q _ => ∃ c k : Int, vs = [.int c, .int k] ∧ ∀ m, 0 ≤ m → m < 2147483629 → Q (.int m) H
seal PE PT PW PA PS PSs PI PG PIfs PGs PO in
theorem ok__law_mix {P : Program} {w : World} {K : PySem.W.Frag} {mg : Str → Option Value} {base : Heap} {CT : Addr} {cs : Nat → Addr} {f : Addr} {fd : FuncData} (Z : Zs mg) (T : Tx K mg CT cs) (F : Fun K "_law_mix" "_law_mix" s__law_mix f fd) : FnOk P w K mg base CX0 1 f fd ["_law_cell", "_law_k"] (sp__law_mix K) := by
  refine F.ok sc__law_mix (fun vs H Q E h => ?_) (fun cdv A outer s H vs Q E hr h => ?_)
  · obtain ⟨a, b, rfl, _⟩ := h; rfl
  obtain ⟨c, k, rfl, q⟩ := h
  refine ⟨_, (@pss_cons _ _ _ _ _ (ps_set (i := 2) sc__law_mix.nd rfl (Or.inl rfl) (pe_op op_mod (pe_op op_mulB (pe_op op_add (pe_op op_add (pe_op op_mod (pv 0) pe_int) (pe_op op_mulB pe_int (pv 1))) pe_int) pe_int) pe_int))
      (pss_one (ps_ret (pe_op op_mod (pe_op op_add (pe_op op_mulB (pv 2) (pv 2)) (pv 1)) pe_int)))), ?_⟩
  refine rd_start (σ := [some (.int c), some (.int k), none]) rfl ?_
  walk_at "rd"
  walk_at "go"
  exact q _ (Int.emod_nonneg _ (by decide)) (Int.emod_lt_of_pos _ (by decide))

section
variable {K : PySem.W.Frag}
theorem kit_int_tup : PySem.W.kitOne K (.type "int") (.type "tuple") = some false := by rfl
theorem kit_str_tup : PySem.W.kitOne K (.type "str") (.type "tuple") = some false := by rfl
theorem kit_non_tup : PySem.W.kitOne K (.type "NoneType") (.type "tuple") = some false := by rfl
theorem kit_bl_tup : PySem.W.kitOne K (.type "bool") (.type "tuple") = some false := by rfl
theorem kit_lst_tup : PySem.W.kitOne K (.type "list") (.type "tuple") = some false := by rfl
theorem kit_dct_tup : PySem.W.kitOne K (.type "dict") (.type "tuple") = some false := by rfl
theorem kit_tup_tup : PySem.W.kitOne K (.type "tuple") (.type "tuple") = some true := by rfl
theorem kit_tup_str : PySem.W.kitOne K (.type "tuple") (.type "str") = some false := by rfl
theorem kit_bl_str : PySem.W.kitOne K (.type "bool") (.type "str") = some false := by rfl
theorem kit_lst_str : PySem.W.kitOne K (.type "list") (.type "str") = some false := by rfl
theorem kit_dct_str : PySem.W.kitOne K (.type "dict") (.type "str") = some false := by rfl
theorem kit_tup_lst : PySem.W.kitOne K (.type "tuple") (.type "list") = some false := by rfl
theorem kit_lst_lst : PySem.W.kitOne K (.type "list") (.type "list") = some true := by rfl
theorem kit_non_bool : PySem.W.kitOne K (.type "NoneType") (.type "bool") = some false := by rfl
theorem kit_str_bool : PySem.W.kitOne K (.type "str") (.type "bool") = some false := by rfl
theorem kit_tup_bool : PySem.W.kitOne K (.type "tuple") (.type "bool") = some false := by rfl
theorem kit_lst_bool : PySem.W.kitOne K (.type "list") (.type "bool") = some false := by rfl
theorem kit_dct_bool : PySem.W.kitOne K (.type "dict") (.type "bool") = some false := by rfl
theorem kit_non_int : PySem.W.kitOne K (.type "NoneType") (.type "int") = some false := by rfl
theorem kit_tup_int : PySem.W.kitOne K (.type "tuple") (.type "int") = some false := by rfl
theorem kit_lst_int : PySem.W.kitOne K (.type "list") (.type "int") = some false := by rfl
theorem kit_dct_int : PySem.W.kitOne K (.type "dict") (.type "int") = some false := by rfl
end
theorem one_sz (v : V) : [v].length ≤ sizeLine := show 1 ≤ sizeLine by decide
theorem small_le {n : Nat} (h : n ≤ 1000) : n ≤ sizeLine := Nat.le_of_lt (small1000 h)
theorem at0 (x : V) (r : List V) : atI (x :: r) 0 = some x := atI_nat (j := 0) rfl
theorem at1 (x y : V) (r : List V) : atI (x :: y :: r) 1 = some y := atI_nat (j := 1) rfl
theorem mem_of_ix {P : V → Prop} {ys : List V} (py : ∀ (i : Nat) y, ys[i]? = some y → P y) : ∀ v ∈ ys, P v := fun v hv => by
  obtain ⟨i, hi, e⟩ := List.mem_iff_getElem.mp hv
  exact py i v (by rw [List.getElem?_eq_getElem hi, e])
/-- isinstance of a plain value, against tuple and bool -/
theorem isTup_plain {K : PySem.W.Frag} {H : Hp} {Q : VK} {v : V} (p : plainV v) (q : Q (.bl false) H) : rIsI K [v, .ty "tuple"] H Q := by
  cases v with
  | non => exact isI_of .non kit_non_tup q
  | int i => exact isI_of (.int i) kit_int_tup q
  | str z => exact isI_of (.str z) kit_str_tup q
  | _ => exact p.elim
theorem isBool_plain {K : PySem.W.Frag} {H : Hp} {Q : VK} {v : V} (p : plainV v) (q : Q (.bl false) H) : rIsI K [v, .ty "bool"] H Q := by
  cases v with
  | non => exact isI_of .non kit_non_bool q
  | int i => exact isI_of (.int i) kit_int_bool q
  | str z => exact isI_of (.str z) kit_str_bool q
  | _ => exact p.elim

theorem join_ones {ys : List V} (all : ∀ v ∈ ys, ∃ z : Str, v = .str z ∧ z.length = 1) : ∃ zs : List Str, ys = zs.map V.str ∧ (zs.map (·.length)).sum = zs.length ∧ (Txt.join (Str.ofString "") zs).length ≤ zs.length := by
  obtain ⟨zs, rfl⟩ := strs_of ys fun v hv => let ⟨z, e, _⟩ := all v hv; ⟨z, e⟩
  have one : (zs.map (·.length)).sum = zs.length := sum_ones zs fun z hz => by
    obtain ⟨z', e, h⟩ := all (.str z) (List.mem_map.mpr ⟨z, hz, rfl⟩)
    cases e; exact h
  have hj := join_len (Str.ofString "") zs
  have e0 : (Str.ofString "").length = 0 := rfl
  rw [one, e0] at hj
  exact ⟨zs, rfl, one, by omega⟩
theorem at_some {α : Type} {l : List α} {k : Int} (h0 : 0 ≤ k) (h1 : k < (l.length : Int)) : ∃ c, atI l k = some c := by
  have hk : k.toNat < l.length := by omega
  have ek : k = ((k.toNat : Nat) : Int) := by omega
  have h := atI_nat (xs := l) (j := k.toNat) (List.getElem?_eq_getElem hk)
  rw [← ek] at h
  exact ⟨_, h⟩
def sp__law_cell_at (K : PySem.W.Frag) : Sp := fun vs H Q _ => ∃ (a : Addr) (ns : List Int) (k : Nat), vs = [.ref a, .int k] ∧ SqL K H a (ns.map V.int) ∧ ns.length ≤ 63 ∧ (∀ n ∈ ns, bitsOk n) ∧ ∀ c, bitsOk c → Q (.int c) H
seal PE PT PW PA PS PSs PI PG PIfs PGs PO in
theorem ok__law_cell_at {P : Program} {w : World} {K : PySem.W.Frag} {mg : Str → Option Value} {base : Heap} {CT : Addr} {cs : Nat → Addr} {f : Addr} {fd : FuncData} (Z : Zs mg) (T : Tx K mg CT cs) (F : Fun K "_law_cell_at" "_law_cell_at" s__law_cell_at f fd) : FnOk P w K mg base CX0 1 f fd ["_law_script", "_law_k"] (sp__law_cell_at K) := by
  refine F.ok sc__law_cell_at (fun vs H Q E h => ?_) (fun cdv A outer s H vs Q E hr h => ?_)
  · obtain ⟨a, ns, k, rfl, _⟩ := h; rfl
  obtain ⟨a, ns, k, rfl, hS, hl, hb, q⟩ := h
  refine ⟨_, (@pss_cons _ _ _ _ _ (ps_if (pt_cmpR op_lt (pv 1) (pe_callB call_len_seq rfl (Z.len) bo_len (pa_c (pv 0) pa_nil)) (nomark _)) (pss_one (ps_ret (pe_ix ix_list (pv 0) (pv 1) (fun _ _ => rfl)))) pss_nil)
      (pss_one (ps_ret pe_int))), ?_⟩
  refine rd_start (σ := [some (.ref a), some (.int k)]) rfl ?_
  walk_at "rd"
  refine ⟨_, .inl hS, ite2 (fun h => ?_) fun _ => ?_⟩
  · rw [List.length_map] at h
    have hk : k < ns.length := by omega
    refine ⟨_, hS, .int ns[k], atI_nat (j := k) (by simp [hk]), q _ (hb _ (List.getElem_mem hk))⟩
  · exact q 0 (show Builtin.Int.intBits 0 ≤ 2 ^ 20 by decide +kernel)
theorem letters_len : (Str.ofString "abcdefghijklmnopqrstuvwxyz").cps.toList.length = 26 := by decide +kernel
def sp__law_letters (_ : PySem.W.Frag) : Sp := fun vs H Q _ => ∃ c : Int, vs = [.int c] ∧ ∀ z H', z.length ≤ 12 → Same H H' → Q (.str z) H'
seal PE PT PW PA PS PSs PI PG PIfs PGs PO in
theorem ok__law_letters {P : Program} {w : World} {K : PySem.W.Frag} {mg : Str → Option Value} {base : Heap} {CT : Addr} {cs : Nat → Addr} {f : Addr} {fd : FuncData} (Z : Zs mg) (T : Tx K mg CT cs) (G__law_mix : Cal P w K mg base 1 "_law_mix" ["_law_cell", "_law_k"] (sp__law_mix K)) (F : Fun K "_law_letters" "_law_letters" s__law_letters f fd) : FnOk P w K mg base CX0 2 f fd ["_law_cell"] (sp__law_letters K) := by
  refine F.ok sc__law_letters (fun vs H Q E h => ?_) (fun cdv A outer s H vs Q E hr h => ?_)
  · obtain ⟨c, rfl, _⟩ := h; rfl
  obtain ⟨c, rfl, q⟩ := h
  refine ⟨_, (@pss_cons _ _ _ _ _ (ps_set (i := 1) sc__law_letters.nd rfl (Or.inr rfl) pe_str)
      (pss_one (ps_ret (pe_bm PySem.F.plainAttrs_str PySem.F.slot_str_join PySem.F.type_str_join mt_join pe_str (pa_c (pe_lcomp ["_law_cell", "_law_some"] rfl (blkOk (N := ["_law_cell", "_law_some"]) (dsc := defScope s__law_letters) rfl rfl (by decide +kernel)) (pi_range1 rfl (Z.range) (pa_c (pe_op op_add pe_int (pe_op op_mod (pe_cal G__law_mix (k := 1) hr (by decide) rfl (pa_c (pv 0) (pa_c pe_int pa_nil))) pe_int)) pa_nil)) (fun _ _ _ _ _ => pif_nil) (fun _ _ _ _ _ => (pe_ix ix_str (pv 2) (pe_op op_mod (pe_cal G__law_mix (k := 1) hr (by decide) rfl (pa_c (pv 1) (pa_c (pv 0) pa_nil))) pe_int) (fun _ _ => rfl)))) pa_nil))))), ?_⟩
  refine rd_start (σ := [some (.int c), none]) rfl ?_
  have e0 : (Str.ofString "").length = 0 := rfl
  walk_at "rd"
  refine ⟨rfl, _, _, rfl, fun m h1 h2 => ?_⟩
  walk_at "rd"
  refine ⟨by omega, by omega, lcR_range (fun _ v => ∃ z : Str, v = .str z ∧ z.length = 1) (small_le (by omega)) (fun i H2 R hi s2 hR => ?_) fun D H2 ys hD s2 hy ly py => ?_⟩
  · walk_at "rd"
    refine ⟨_, _, rfl, fun m2 h1 h2 => ?_⟩
    obtain ⟨x, hx⟩ := at_some (l := (Str.ofString "abcdefghijklmnopqrstuvwxyz").cps.toList) (k := m2 % 26) (by omega) (by rw [letters_len]; omega)
    walk_at "rd"
    exact ⟨by decide, x, hx, hR _ _ ⟨_, rfl, rfl⟩ (Same.refl _)⟩
  · obtain ⟨zs, rfl, one, lj⟩ := join_ones (mem_of_ix py)
    rw [List.length_map] at ly
    exact ⟨D, rfl, zs, SqL.of hy, by rw [one, e0]; omega, q _ _ (by omega) s2⟩
/-- a number or a text -/
def kv (v : V) : Prop := (∃ i, v = .int i) ∨ ∃ z, v = .str z
theorem add_len (a b : Str) : (a ++ b).length = a.length + b.length := by
  show (a.cps ++ b.cps).size = _
  rw [Array.size_append]; rfl
def sp__law_key (_ : PySem.W.Frag) : Sp := fun vs H Q _ => ∃ c : Int, vs = [.int c] ∧ bitsOk c ∧ ∀ v H', kv v → Same H H' → Q v H'
seal PE PT PW PA PS PSs PI PG PIfs PGs PO in
theorem ok__law_key {P : Program} {w : World} {K : PySem.W.Frag} {mg : Str → Option Value} {base : Heap} {CT : Addr} {cs : Nat → Addr} {f : Addr} {fd : FuncData} (Z : Zs mg) (T : Tx K mg CT cs) (G__law_letters : Cal P w K mg base 2 "_law_letters" ["_law_cell"] (sp__law_letters K)) (F : Fun K "_law_key" "_law_key" s__law_key f fd) : FnOk P w K mg base CX0 3 f fd ["_law_cell"] (sp__law_key K) := by
  refine F.ok sc__law_key (fun vs H Q E h => ?_) (fun cdv A outer s H vs Q E hr h => ?_)
  · obtain ⟨c, rfl, _⟩ := h; rfl
  obtain ⟨c, rfl, hc, q⟩ := h
  refine ⟨_, (@pss_cons _ _ _ _ _ (ps_if (pt_cmpR op_eq (pe_op op_mod (pv 0) pe_int) pe_int (nomark _)) (pss_one (ps_ret (pe_op op_sub (pe_op op_mod (pe_op op_fdiv (pv 0) pe_int) (pe_op op_sub (pe_op op_mulB pe_int (pe_op op_pow pe_int pe_int)) pe_int)) (pe_op op_sub (pe_op op_pow pe_int pe_int) pe_int)))) pss_nil)
      (pss_one (ps_ret (pe_op op_add_str (pe_op op_add_str (pe_cal G__law_letters (k := 2) hr (by decide) rfl (pa_c (pe_op op_fdiv (pv 0) pe_int) pa_nil)) pe_str) (pe_cal G__law_letters (k := 2) hr (by decide) rfl (pa_c (pe_op op_fdiv (pv 0) pe_int) pa_nil)))))), ?_⟩
  refine rd_start (σ := [some (.int c)]) rfl ?_
  walk_at "rd"
  walk_at "go"
  refine ite2 (fun _ => ?_) fun _ => ?_
  · walk_at "go"
    exact q _ _ (.inl ⟨_, rfl⟩) (Same.refl _)
  · walk_at "go"
    refine ⟨_, rfl, fun z H1 lz s1 => ?_⟩
    walk_at "rd"
    have l2 : (Str.ofString " ~").length = 2 := by decide
    refine ⟨small_le (by omega), ?_⟩
    walk_at "go"
    refine ⟨_, rfl, fun z2 H2 lz2 s2 => ?_⟩
    walk_at "rd"
    exact ⟨small_le (by rw [add_len]; omega), q _ _ (.inr ⟨_, rfl⟩) (s1.trans s2)⟩
--@SPLIT
seal PE PT PW PA PS PSs PI PG PIfs PGs PO in
theorem ok_NotRising_init {P : Program} {w : World} {K : PySem.W.Frag} {mg : Str → Option Value} {base : Heap} {CT : Addr} {cs : Nat → Addr} {f : Addr} {fd : FuncData} (Z : Zs mg) (T : Tx K mg CT cs) (F : Fun K "__init__" "NotRising.__init__" s_NotRising_init f fd) : FnOk P w K mg base CX0 1 f fd ["self", "key"] (sp_X (cs 7) ["key"]) := by
  refine F.ok sc_NotRising_init (fun vs H Q E h => ?_) (fun cdv A outer s H vs Q E hr h => ?_)
  · obtain ⟨e, ws, rfl, hl, _⟩ := h; match ws, hl with | [_], _ => rfl
  obtain ⟨e, ws, rfl, hl, he, q⟩ := h
  match ws, hl with
  | [w0], _ =>
  refine ⟨_, (@pss_cons _ _ _ _ _ (ps_expr (pe_binit T.top rfl (pa_c (pv 0) (pa_c (pv 1) pa_nil))))
      (pss_one (ps_xf0 CT rfl (pv 0) (pv 1) rfl))), ?_⟩
  refine rd_start (σ := [some (.ref e), some w0]) rfl ?_
  walk_at "rd"
  simp only [tBI, sXF0, sXF1]
  walk_at "rd"
  exact ⟨e, cs 7, [w0], ⟨rfl, rfl⟩, by show 1 ≤ 1000; decide, he, T.cl 7 (by decide), cs 7, he, T.cl 7 (by decide), (T.no 7 (by decide) _ (by decide)), fun d hd hne => q d hd hne⟩
seal PE PT PW PA PS PSs PI PG PIfs PGs PO in
theorem ok_NoRow_init {P : Program} {w : World} {K : PySem.W.Frag} {mg : Str → Option Value} {base : Heap} {CT : Addr} {cs : Nat → Addr} {f : Addr} {fd : FuncData} (Z : Zs mg) (T : Tx K mg CT cs) (F : Fun K "__init__" "NoRow.__init__" s_NoRow_init f fd) : FnOk P w K mg base CX0 1 f fd ["self", "key"] (sp_X (cs 8) ["key"]) := by
  refine F.ok sc_NoRow_init (fun vs H Q E h => ?_) (fun cdv A outer s H vs Q E hr h => ?_)
  · obtain ⟨e, ws, rfl, hl, _⟩ := h; match ws, hl with | [_], _ => rfl
  obtain ⟨e, ws, rfl, hl, he, q⟩ := h
  match ws, hl with
  | [w0], _ =>
  refine ⟨_, (@pss_cons _ _ _ _ _ (ps_expr (pe_binit T.top rfl (pa_c (pv 0) (pa_c (pv 1) pa_nil))))
      (pss_one (ps_xf0 CT rfl (pv 0) (pv 1) rfl))), ?_⟩
  refine rd_start (σ := [some (.ref e), some w0]) rfl ?_
  walk_at "rd"
  simp only [tBI, sXF0, sXF1]
  walk_at "rd"
  exact ⟨e, cs 8, [w0], ⟨rfl, rfl⟩, by show 1 ≤ 1000; decide, he, T.cl 8 (by decide), cs 8, he, T.cl 8 (by decide), (T.no 8 (by decide) _ (by decide)), fun d hd hne => q d hd hne⟩
seal PE PT PW PA PS PSs PI PG PIfs PGs PO in
theorem ok_Unfit_init {P : Program} {w : World} {K : PySem.W.Frag} {mg : Str → Option Value} {base : Heap} {CT : Addr} {cs : Nat → Addr} {f : Addr} {fd : FuncData} (Z : Zs mg) (T : Tx K mg CT cs) (F : Fun K "__init__" "Unfit.__init__" s_Unfit_init f fd) : FnOk P w K mg base CX0 1 f fd ["self", "key"] (sp_X (cs 9) ["key"]) := by
  refine F.ok sc_Unfit_init (fun vs H Q E h => ?_) (fun cdv A outer s H vs Q E hr h => ?_)
  · obtain ⟨e, ws, rfl, hl, _⟩ := h; match ws, hl with | [_], _ => rfl
  obtain ⟨e, ws, rfl, hl, he, q⟩ := h
  match ws, hl with
  | [w0], _ =>
  refine ⟨_, (@pss_cons _ _ _ _ _ (ps_expr (pe_binit T.top rfl (pa_c (pv 0) (pa_c (pv 1) pa_nil))))
      (pss_one (ps_xf0 CT rfl (pv 0) (pv 1) rfl))), ?_⟩
  refine rd_start (σ := [some (.ref e), some w0]) rfl ?_
  walk_at "rd"
  simp only [tBI, sXF0, sXF1]
  walk_at "rd"
  exact ⟨e, cs 9, [w0], ⟨rfl, rfl⟩, by show 1 ≤ 1000; decide, he, T.cl 9 (by decide), cs 9, he, T.cl 9 (by decide), (T.no 9 (by decide) _ (by decide)), fun d hd hne => q d hd hne⟩
seal PE PT PW PA PS PSs PI PG PIfs PGs PO in
theorem ok_NoColumn_init {P : Program} {w : World} {K : PySem.W.Frag} {mg : Str → Option Value} {base : Heap} {CT : Addr} {cs : Nat → Addr} {f : Addr} {fd : FuncData} (Z : Zs mg) (T : Tx K mg CT cs) (F : Fun K "__init__" "NoColumn.__init__" s_NoColumn_init f fd) : FnOk P w K mg base CX0 1 f fd ["self", "column"] (sp_X (cs 10) ["column"]) := by
  refine F.ok sc_NoColumn_init (fun vs H Q E h => ?_) (fun cdv A outer s H vs Q E hr h => ?_)
  · obtain ⟨e, ws, rfl, hl, _⟩ := h; match ws, hl with | [_], _ => rfl
  obtain ⟨e, ws, rfl, hl, he, q⟩ := h
  match ws, hl with
  | [w0], _ =>
  refine ⟨_, (@pss_cons _ _ _ _ _ (ps_expr (pe_binit T.top rfl (pa_c (pv 0) (pa_c (pv 1) pa_nil))))
      (pss_one (ps_xf0 CT rfl (pv 0) (pv 1) rfl))), ?_⟩
  refine rd_start (σ := [some (.ref e), some w0]) rfl ?_
  walk_at "rd"
  simp only [tBI, sXF0, sXF1]
  walk_at "rd"
  exact ⟨e, cs 10, [w0], ⟨rfl, rfl⟩, by show 1 ≤ 1000; decide, he, T.cl 10 (by decide), cs 10, he, T.cl 10 (by decide), (T.no 10 (by decide) _ (by decide)), fun d hd hne => q d hd hne⟩
seal PE PT PW PA PS PSs PI PG PIfs PGs PO in
theorem ok_ColumnThere_init {P : Program} {w : World} {K : PySem.W.Frag} {mg : Str → Option Value} {base : Heap} {CT : Addr} {cs : Nat → Addr} {f : Addr} {fd : FuncData} (Z : Zs mg) (T : Tx K mg CT cs) (F : Fun K "__init__" "ColumnThere.__init__" s_ColumnThere_init f fd) : FnOk P w K mg base CX0 1 f fd ["self", "column"] (sp_X (cs 11) ["column"]) := by
  refine F.ok sc_ColumnThere_init (fun vs H Q E h => ?_) (fun cdv A outer s H vs Q E hr h => ?_)
  · obtain ⟨e, ws, rfl, hl, _⟩ := h; match ws, hl with | [_], _ => rfl
  obtain ⟨e, ws, rfl, hl, he, q⟩ := h
  match ws, hl with
  | [w0], _ =>
  refine ⟨_, (@pss_cons _ _ _ _ _ (ps_expr (pe_binit T.top rfl (pa_c (pv 0) (pa_c (pv 1) pa_nil))))
      (pss_one (ps_xf0 CT rfl (pv 0) (pv 1) rfl))), ?_⟩
  refine rd_start (σ := [some (.ref e), some w0]) rfl ?_
  walk_at "rd"
  simp only [tBI, sXF0, sXF1]
  walk_at "rd"
  exact ⟨e, cs 11, [w0], ⟨rfl, rfl⟩, by show 1 ≤ 1000; decide, he, T.cl 11 (by decide), cs 11, he, T.cl 11 (by decide), (T.no 11 (by decide) _ (by decide)), fun d hd hne => q d hd hne⟩
seal PE PT PW PA PS PSs PI PG PIfs PGs PO in
theorem ok_NoClash_init {P : Program} {w : World} {K : PySem.W.Frag} {mg : Str → Option Value} {base : Heap} {CT : Addr} {cs : Nat → Addr} {f : Addr} {fd : FuncData} (Z : Zs mg) (T : Tx K mg CT cs) (F : Fun K "__init__" "NoClash.__init__" s_NoClash_init f fd) : FnOk P w K mg base CX0 1 f fd ["self", "key", "column"] (sp_X (cs 12) ["key", "column"]) := by
  refine F.ok sc_NoClash_init (fun vs H Q E h => ?_) (fun cdv A outer s H vs Q E hr h => ?_)
  · obtain ⟨e, ws, rfl, hl, _⟩ := h; match ws, hl with | [_, _], _ => rfl
  obtain ⟨e, ws, rfl, hl, he, q⟩ := h
  match ws, hl with
  | [w0, w1], _ =>
  refine ⟨_, (@pss_cons _ _ _ _ _ (ps_expr (pe_binit T.top rfl (pa_c (pv 0) (pa_c (pv 1) (pa_c (pv 2) pa_nil)))))
      (@pss_cons _ _ _ _ _ (ps_xf0 CT rfl (pv 0) (pv 1) rfl)
      (pss_one (ps_xf1 CT (pv 0) (pv 2) rfl)))), ?_⟩
  refine rd_start (σ := [some (.ref e), some w0, some w1]) rfl ?_
  walk_at "rd"
  simp only [tBI, sXF0, sXF1]
  walk_at "rd"
  exact ⟨e, cs 12, [w0, w1], ⟨rfl, rfl⟩, by show 2 ≤ 1000; decide, he, T.cl 12 (by decide), cs 12, he, T.cl 12 (by decide), (T.no 12 (by decide) _ (by decide)), fun d hd hne => ⟨cs 12, d, by rw [upd_ne (Ne.symm hne), upd_same], [("key", w0)], upd_same, T.cl 12 (by decide), (T.no 12 (by decide) _ (by decide)), by show 1 < 1000; decide, by rw [upd_upd]; exact q d hd hne⟩⟩
seal PE PT PW PA PS PSs PI PG PIfs PGs PO in
theorem ok_NoPage_init {P : Program} {w : World} {K : PySem.W.Frag} {mg : Str → Option Value} {base : Heap} {CT : Addr} {cs : Nat → Addr} {f : Addr} {fd : FuncData} (Z : Zs mg) (T : Tx K mg CT cs) (F : Fun K "__init__" "NoPage.__init__" s_NoPage_init f fd) : FnOk P w K mg base CX0 1 f fd ["self", "number"] (sp_X (cs 13) ["number"]) := by
  refine F.ok sc_NoPage_init (fun vs H Q E h => ?_) (fun cdv A outer s H vs Q E hr h => ?_)
  · obtain ⟨e, ws, rfl, hl, _⟩ := h; match ws, hl with | [_], _ => rfl
  obtain ⟨e, ws, rfl, hl, he, q⟩ := h
  match ws, hl with
  | [w0], _ =>
  refine ⟨_, (@pss_cons _ _ _ _ _ (ps_expr (pe_binit T.top rfl (pa_c (pv 0) (pa_c (pv 1) pa_nil))))
      (pss_one (ps_xf0 CT rfl (pv 0) (pv 1) rfl))), ?_⟩
  refine rd_start (σ := [some (.ref e), some w0]) rfl ?_
  walk_at "rd"
  simp only [tBI, sXF0, sXF1]
  walk_at "rd"
  exact ⟨e, cs 13, [w0], ⟨rfl, rfl⟩, by show 1 ≤ 1000; decide, he, T.cl 13 (by decide), cs 13, he, T.cl 13 (by decide), (T.no 13 (by decide) _ (by decide)), fun d hd hne => q d hd hne⟩
seal PE PT PW PA PS PSs PI PG PIfs PGs PO in
theorem ok_NoMake_init {P : Program} {w : World} {K : PySem.W.Frag} {mg : Str → Option Value} {base : Heap} {CT : Addr} {cs : Nat → Addr} {f : Addr} {fd : FuncData} (Z : Zs mg) (T : Tx K mg CT cs) (F : Fun K "__init__" "NoMake.__init__" s_NoMake_init f fd) : FnOk P w K mg base CX0 1 f fd ["self", "number"] (sp_X (cs 14) ["number"]) := by
  refine F.ok sc_NoMake_init (fun vs H Q E h => ?_) (fun cdv A outer s H vs Q E hr h => ?_)
  · obtain ⟨e, ws, rfl, hl, _⟩ := h; match ws, hl with | [_], _ => rfl
  obtain ⟨e, ws, rfl, hl, he, q⟩ := h
  match ws, hl with
  | [w0], _ =>
  refine ⟨_, (@pss_cons _ _ _ _ _ (ps_expr (pe_binit T.top rfl (pa_c (pv 0) (pa_c (pv 1) pa_nil))))
      (pss_one (ps_xf0 CT rfl (pv 0) (pv 1) rfl))), ?_⟩
  refine rd_start (σ := [some (.ref e), some w0]) rfl ?_
  walk_at "rd"
  simp only [tBI, sXF0, sXF1]
  walk_at "rd"
  exact ⟨e, cs 14, [w0], ⟨rfl, rfl⟩, by show 1 ≤ 1000; decide, he, T.cl 14 (by decide), cs 14, he, T.cl 14 (by decide), (T.no 14 (by decide) _ (by decide)), fun d hd hne => q d hd hne⟩
seal PE PT PW PA PS PSs PI PG PIfs PGs PO in
theorem ok_NotBroken_init {P : Program} {w : World} {K : PySem.W.Frag} {mg : Str → Option Value} {base : Heap} {CT : Addr} {cs : Nat → Addr} {f : Addr} {fd : FuncData} (Z : Zs mg) (T : Tx K mg CT cs) (F : Fun K "__init__" "NotBroken.__init__" s_NotBroken_init f fd) : FnOk P w K mg base CX0 1 f fd ["self", "number"] (sp_X (cs 15) ["number"]) := by
  refine F.ok sc_NotBroken_init (fun vs H Q E h => ?_) (fun cdv A outer s H vs Q E hr h => ?_)
  · obtain ⟨e, ws, rfl, hl, _⟩ := h; match ws, hl with | [_], _ => rfl
  obtain ⟨e, ws, rfl, hl, he, q⟩ := h
  match ws, hl with
  | [w0], _ =>
  refine ⟨_, (@pss_cons _ _ _ _ _ (ps_expr (pe_binit T.top rfl (pa_c (pv 0) (pa_c (pv 1) pa_nil))))
      (pss_one (ps_xf0 CT rfl (pv 0) (pv 1) rfl))), ?_⟩
  refine rd_start (σ := [some (.ref e), some w0]) rfl ?_
  walk_at "rd"
  simp only [tBI, sXF0, sXF1]
  walk_at "rd"
  exact ⟨e, cs 15, [w0], ⟨rfl, rfl⟩, by show 1 ≤ 1000; decide, he, T.cl 15 (by decide), cs 15, he, T.cl 15 (by decide), (T.no 15 (by decide) _ (by decide)), fun d hd hne => q d hd hne⟩
seal PE PT PW PA PS PSs PI PG PIfs PGs PO in
theorem ok_NoName_init {P : Program} {w : World} {K : PySem.W.Frag} {mg : Str → Option Value} {base : Heap} {CT : Addr} {cs : Nat → Addr} {f : Addr} {fd : FuncData} (Z : Zs mg) (T : Tx K mg CT cs) (F : Fun K "__init__" "NoName.__init__" s_NoName_init f fd) : FnOk P w K mg base CX0 1 f fd ["self", "word"] (sp_X (cs 16) ["word"]) := by
  refine F.ok sc_NoName_init (fun vs H Q E h => ?_) (fun cdv A outer s H vs Q E hr h => ?_)
  · obtain ⟨e, ws, rfl, hl, _⟩ := h; match ws, hl with | [_], _ => rfl
  obtain ⟨e, ws, rfl, hl, he, q⟩ := h
  match ws, hl with
  | [w0], _ =>
  refine ⟨_, (@pss_cons _ _ _ _ _ (ps_expr (pe_binit T.top rfl (pa_c (pv 0) (pa_c (pv 1) pa_nil))))
      (pss_one (ps_xf0 CT rfl (pv 0) (pv 1) rfl))), ?_⟩
  refine rd_start (σ := [some (.ref e), some w0]) rfl ?_
  walk_at "rd"
  simp only [tBI, sXF0, sXF1]
  walk_at "rd"
  exact ⟨e, cs 16, [w0], ⟨rfl, rfl⟩, by show 1 ≤ 1000; decide, he, T.cl 16 (by decide), cs 16, he, T.cl 16 (by decide), (T.no 16 (by decide) _ (by decide)), fun d hd hne => q d hd hne⟩
seal PE PT PW PA PS PSs PI PG PIfs PGs PO in
theorem ok_InUse_init {P : Program} {w : World} {K : PySem.W.Frag} {mg : Str → Option Value} {base : Heap} {CT : Addr} {cs : Nat → Addr} {f : Addr} {fd : FuncData} (Z : Zs mg) (T : Tx K mg CT cs) (F : Fun K "__init__" "InUse.__init__" s_InUse_init f fd) : FnOk P w K mg base CX0 1 f fd ["self", "word"] (sp_X (cs 17) ["word"]) := by
  refine F.ok sc_InUse_init (fun vs H Q E h => ?_) (fun cdv A outer s H vs Q E hr h => ?_)
  · obtain ⟨e, ws, rfl, hl, _⟩ := h; match ws, hl with | [_], _ => rfl
  obtain ⟨e, ws, rfl, hl, he, q⟩ := h
  match ws, hl with
  | [w0], _ =>
  refine ⟨_, (@pss_cons _ _ _ _ _ (ps_expr (pe_binit T.top rfl (pa_c (pv 0) (pa_c (pv 1) pa_nil))))
      (pss_one (ps_xf0 CT rfl (pv 0) (pv 1) rfl))), ?_⟩
  refine rd_start (σ := [some (.ref e), some w0]) rfl ?_
  walk_at "rd"
  simp only [tBI, sXF0, sXF1]
  walk_at "rd"
  exact ⟨e, cs 17, [w0], ⟨rfl, rfl⟩, by show 1 ≤ 1000; decide, he, T.cl 17 (by decide), cs 17, he, T.cl 17 (by decide), (T.no 17 (by decide) _ (by decide)), fun d hd hne => q d hd hne⟩
--@SPLIT
def sp__law_raise_plain (_ : PySem.W.Frag) (cs : Nat → Addr) : Sp := fun vs H Q E => ∃ k : Nat, vs = [.int k] ∧ k < 7 ∧ E (.ref (cs k)) none H
seal PE PT PW PA PS PSs PI PG PIfs PGs PO in
theorem ok__law_raise_plain {P : Program} {w : World} {K : PySem.W.Frag} {mg : Str → Option Value} {base : Heap} {CT : Addr} {cs : Nat → Addr} {f : Addr} {fd : FuncData} (Z : Zs mg) (T : Tx K mg CT cs) (F : Fun K "_law_raise_plain" "_law_raise_plain" s__law_raise_plain f fd) : FnOk P w K mg base (CX1 P w) 1 f fd ["_law_k"] (sp__law_raise_plain K cs) := by
  refine F.ok1 sc__law_raise_plain (fun vs H Q E h => ?_) (fun cdv A outer s H vs Q E hr h => ?_)
  · obtain ⟨k, rfl, _⟩ := h; rfl
  obtain ⟨k, rfl, hk, q⟩ := h
  refine ⟨_, (@pss_cons _ _ _ _ _ (ps_if (pt_cmpR op_eq (pv 0) pe_int (nomark _)) (pss_one (ps_raise0 throws0 rfl rfl rfl T.mg_BadKey T.x_BadKey PySem.F.excBase_ValueError)) pss_nil)
      (@pss_cons _ _ _ _ _ (ps_if (pt_cmpR op_eq (pv 0) pe_int (nomark _)) (pss_one (ps_raise0 throws0 rfl rfl rfl T.mg_BadValue T.x_BadValue PySem.F.excBase_ValueError)) pss_nil)
      (@pss_cons _ _ _ _ _ (ps_if (pt_cmpR op_eq (pv 0) pe_int (nomark _)) (pss_one (ps_raise0 throws0 rfl rfl rfl T.mg_BadWord T.x_BadWord PySem.F.excBase_ValueError)) pss_nil)
      (@pss_cons _ _ _ _ _ (ps_if (pt_cmpR op_eq (pv 0) pe_int (nomark _)) (pss_one (ps_raise0 throws0 rfl rfl rfl T.mg_BadElders T.x_BadElders PySem.F.excBase_ValueError)) pss_nil)
      (@pss_cons _ _ _ _ _ (ps_if (pt_cmpR op_eq (pv 0) pe_int (nomark _)) (pss_one (ps_raise0 throws0 rfl rfl rfl T.mg_BadText T.x_BadText PySem.F.excBase_ValueError)) pss_nil)
      (@pss_cons _ _ _ _ _ (ps_if (pt_cmpR op_eq (pv 0) pe_int (nomark _)) (pss_one (ps_raise0 throws0 rfl rfl rfl T.mg_BadRow T.x_BadRow PySem.F.excBase_ValueError)) pss_nil)
      (pss_one (ps_raise0 throws0 rfl rfl rfl T.mg_Unsaved T.x_Unsaved PySem.F.excBase_ValueError)))))))), ?_⟩
  refine rd_start (σ := [some (.int k)]) rfl ?_
  walk_at "rd"
  refine ite2 (fun h0 => ?_) fun h0 => ?_
  · obtain rfl : k = 0 := by omega
    exact q
  refine ite2 (fun h1 => ?_) fun h1 => ?_
  · obtain rfl : k = 1 := by omega
    exact q
  refine ite2 (fun h2 => ?_) fun h2 => ?_
  · obtain rfl : k = 2 := by omega
    exact q
  refine ite2 (fun h3 => ?_) fun h3 => ?_
  · obtain rfl : k = 3 := by omega
    exact q
  refine ite2 (fun h4 => ?_) fun h4 => ?_
  · obtain rfl : k = 4 := by omega
    exact q
  refine ite2 (fun h5 => ?_) fun h5 => ?_
  · obtain rfl : k = 5 := by omega
    exact q
  obtain rfl : k = 6 := by omega
  exact q
def fieldsOf (k : Nat) (key col num word : V) : List (Str × V) :=
  if k < 7 then [] else if k < 10 then [("key", key)] else if k < 12 then [("column", col)] else if k = 12 then [("key", key), ("column", col)] else if k < 16 then [("number", num)] else [("word", word)]
def sp__law_raise (_ : PySem.W.Frag) (cs : Nat → Addr) : Sp := fun vs H Q E => ∃ (k : Nat) (key col num word : V), vs = [.int k, key, col, num, word] ∧ k < 18 ∧ (k < 7 → E (.ref (cs k)) none H) ∧
  (7 ≤ k → ∀ d, H d = none → E (.ref (cs k)) (some d) (upd H d (xD d (fieldsOf k key col num word))))
seal PE PT PW PA PS PSs PI PG PIfs PGs PO in
theorem ok__law_raise {P : Program} {w : World} {K : PySem.W.Frag} {mg : Str → Option Value} {base : Heap} {CT : Addr} {cs : Nat → Addr} {f : Addr} {fd : FuncData} (Z : Zs mg) (T : Tx K mg CT cs) (G__law_raise_plain : Cal1 P w K mg base 1 "_law_raise_plain" ["_law_k"] (sp__law_raise_plain K cs)) (K_InUse : MkX P w K mg base 1 "InUse" (cs 17) CT ["word"]) (K_NotRising : MkX P w K mg base 1 "NotRising" (cs 7) CT ["key"]) (K_NoRow : MkX P w K mg base 1 "NoRow" (cs 8) CT ["key"]) (K_Unfit : MkX P w K mg base 1 "Unfit" (cs 9) CT ["key"]) (K_NoColumn : MkX P w K mg base 1 "NoColumn" (cs 10) CT ["column"]) (K_ColumnThere : MkX P w K mg base 1 "ColumnThere" (cs 11) CT ["column"]) (K_NoClash : MkX P w K mg base 1 "NoClash" (cs 12) CT ["key", "column"]) (K_NoPage : MkX P w K mg base 1 "NoPage" (cs 13) CT ["number"]) (K_NoMake : MkX P w K mg base 1 "NoMake" (cs 14) CT ["number"]) (K_NotBroken : MkX P w K mg base 1 "NotBroken" (cs 15) CT ["number"]) (K_NoName : MkX P w K mg base 1 "NoName" (cs 16) CT ["word"]) (F : Fun K "_law_raise" "_law_raise" s__law_raise f fd) : FnOk P w K mg base (CX1 P w) 3 f fd ["_law_k", "_law_key_here", "_law_column", "_law_number", "_law_word"] (sp__law_raise K cs) := by
  refine F.ok1 sc__law_raise (fun vs H Q E h => ?_) (fun cdv A outer s H vs Q E hr h => ?_)
  · obtain ⟨k, _, _, _, _, rfl, _⟩ := h; rfl
  obtain ⟨k, key, col, num, word, rfl, hk, q0, q1⟩ := h
  refine ⟨_, (@pss_cons _ _ _ _ _ (ps_if (pt_cmpR op_lt (pv 0) pe_int (nomark _)) (pss_one (ps_expr (PE1.pe (pe1_cal G__law_raise_plain (k := 2) hr (by decide) rfl rfl (pa_c (pv 0) pa_nil)) throws0))) pss_nil)
      (@pss_cons _ _ _ _ _ (ps_if (pt_cmpR op_eq (pv 0) pe_int (nomark _)) (pss_one (ps_raiseX throws0 rfl rfl rfl K_NotRising (k := 2) hr (by decide) (pa_c (pv 1) pa_nil))) pss_nil)
      (@pss_cons _ _ _ _ _ (ps_if (pt_cmpR op_eq (pv 0) pe_int (nomark _)) (pss_one (ps_raiseX throws0 rfl rfl rfl K_NoRow (k := 2) hr (by decide) (pa_c (pv 1) pa_nil))) pss_nil)
      (@pss_cons _ _ _ _ _ (ps_if (pt_cmpR op_eq (pv 0) pe_int (nomark _)) (pss_one (ps_raiseX throws0 rfl rfl rfl K_Unfit (k := 2) hr (by decide) (pa_c (pv 1) pa_nil))) pss_nil)
      (@pss_cons _ _ _ _ _ (ps_if (pt_cmpR op_eq (pv 0) pe_int (nomark _)) (pss_one (ps_raiseX throws0 rfl rfl rfl K_NoColumn (k := 2) hr (by decide) (pa_c (pv 2) pa_nil))) pss_nil)
      (@pss_cons _ _ _ _ _ (ps_if (pt_cmpR op_eq (pv 0) pe_int (nomark _)) (pss_one (ps_raiseX throws0 rfl rfl rfl K_ColumnThere (k := 2) hr (by decide) (pa_c (pv 2) pa_nil))) pss_nil)
      (@pss_cons _ _ _ _ _ (ps_if (pt_cmpR op_eq (pv 0) pe_int (nomark _)) (pss_one (ps_raiseX throws0 rfl rfl rfl K_NoClash (k := 2) hr (by decide) (pa_c (pv 1) (pa_c (pv 2) pa_nil)))) pss_nil)
      (@pss_cons _ _ _ _ _ (ps_if (pt_cmpR op_eq (pv 0) pe_int (nomark _)) (pss_one (ps_raiseX throws0 rfl rfl rfl K_NoPage (k := 2) hr (by decide) (pa_c (pv 3) pa_nil))) pss_nil)
      (@pss_cons _ _ _ _ _ (ps_if (pt_cmpR op_eq (pv 0) pe_int (nomark _)) (pss_one (ps_raiseX throws0 rfl rfl rfl K_NoMake (k := 2) hr (by decide) (pa_c (pv 3) pa_nil))) pss_nil)
      (@pss_cons _ _ _ _ _ (ps_if (pt_cmpR op_eq (pv 0) pe_int (nomark _)) (pss_one (ps_raiseX throws0 rfl rfl rfl K_NotBroken (k := 2) hr (by decide) (pa_c (pv 3) pa_nil))) pss_nil)
      (@pss_cons _ _ _ _ _ (ps_if (pt_cmpR op_eq (pv 0) pe_int (nomark _)) (pss_one (ps_raiseX throws0 rfl rfl rfl K_NoName (k := 2) hr (by decide) (pa_c (pv 4) pa_nil))) pss_nil)
      (pss_one (ps_raiseX throws0 rfl rfl rfl K_InUse (k := 2) hr (by decide) (pa_c (pv 4) pa_nil)))))))))))))), ?_⟩
  refine rd_start (σ := [some (.int k), some key, some col, some num, some word]) rfl ?_
  walk_at "rd"
  refine ite2 (fun h => ⟨_, rfl, k, rfl, by omega, q0 (by omega)⟩) fun h => ?_
  refine ite2 (fun h7 => ?_) fun h7 => ?_
  · obtain rfl : k = 7 := by omega
    exact ⟨key, rfl, rfl, by show 1 ≤ 1000; decide, fun d hd => q1 (by decide) d hd⟩
  refine ite2 (fun h8 => ?_) fun h8 => ?_
  · obtain rfl : k = 8 := by omega
    exact ⟨key, rfl, rfl, by show 1 ≤ 1000; decide, fun d hd => q1 (by decide) d hd⟩
  refine ite2 (fun h9 => ?_) fun h9 => ?_
  · obtain rfl : k = 9 := by omega
    exact ⟨key, rfl, rfl, by show 1 ≤ 1000; decide, fun d hd => q1 (by decide) d hd⟩
  refine ite2 (fun h10 => ?_) fun h10 => ?_
  · obtain rfl : k = 10 := by omega
    exact ⟨col, rfl, rfl, by show 1 ≤ 1000; decide, fun d hd => q1 (by decide) d hd⟩
  refine ite2 (fun h11 => ?_) fun h11 => ?_
  · obtain rfl : k = 11 := by omega
    exact ⟨col, rfl, rfl, by show 1 ≤ 1000; decide, fun d hd => q1 (by decide) d hd⟩
  refine ite2 (fun h12 => ?_) fun h12 => ?_
  · obtain rfl : k = 12 := by omega
    exact ⟨key, rfl, col, rfl, rfl, by show 2 ≤ 1000; decide, fun d hd => q1 (by decide) d hd⟩
  refine ite2 (fun h13 => ?_) fun h13 => ?_
  · obtain rfl : k = 13 := by omega
    exact ⟨num, rfl, rfl, by show 1 ≤ 1000; decide, fun d hd => q1 (by decide) d hd⟩
  refine ite2 (fun h14 => ?_) fun h14 => ?_
  · obtain rfl : k = 14 := by omega
    exact ⟨num, rfl, rfl, by show 1 ≤ 1000; decide, fun d hd => q1 (by decide) d hd⟩
  refine ite2 (fun h15 => ?_) fun h15 => ?_
  · obtain rfl : k = 15 := by omega
    exact ⟨num, rfl, rfl, by show 1 ≤ 1000; decide, fun d hd => q1 (by decide) d hd⟩
  refine ite2 (fun h16 => ?_) fun h16 => ?_
  · obtain rfl : k = 16 := by omega
    exact ⟨word, rfl, rfl, by show 1 ≤ 1000; decide, fun d hd => q1 (by decide) d hd⟩
  obtain rfl : k = 17 := by omega
  exact ⟨word, rfl, rfl, by show 1 ≤ 1000; decide, fun d hd => q1 (by decide) d hd⟩
--@SPLIT
def bk (k j : Nat) : V := .bl (decide (k = j))
section
variable {K : PySem.W.Frag} {mg : Str → Option Value} {CT : Addr} {cs : Nat → Addr} {H : Hp} {ea p : Addr} {k : Nat} {fs : List (Str × V)} {Q : VK}
theorem isx (T : Tx K mg CT cs) (x : XAt H ea (cs k) fs) (hk : k < 18) {j : Nat} (hj : j < 18) (q : Q (bk k j) H) : rIsX K CT [.ref ea, .ref (cs j)] H Q := ⟨ea, cs k, fs, .ref (cs j), .ref (cs j), _, rfl, rfl, x, T.cl k hk, T.tab k j hk hj, q⟩
theorem isv (T : Tx K mg CT cs) (x : XAt H ea (cs k) fs) (hk : k < 18) (q : Q (.bl true) H) : rIsX K CT [.ref ea, .ty "ValueError"] H Q := ⟨ea, cs k, fs, .ty "ValueError", .type "ValueError", _, rfl, rfl, x, T.cl k hk, T.tv k hk, q⟩
theorem isxt (T : Tx K mg CT cs) (x : XAt H ea (cs k) fs) (hk : k < 18) (js : List Nat) (hj : ∀ j ∈ js, j < 18) (hp : H p = some (.tup ((js.map cs).map V.ref))) (q : Q (.bl (decide (k ∈ js))) H) : rIsXT K CT [.ref ea, .ref p] H Q :=
  ⟨ea, cs k, fs, p, js.map cs, _, rfl, hp, x, T.cl k hk, PySem.W.any_of T.tab hk js hj, q⟩
theorem xf {σ : St} {i : Nat} {f : Str} {v : V} (T : Tx K mg CT cs) (hs : σ[i]? = some (some (.ref ea))) (x : XAt H ea (cs k) fs) (hk : k < 18) (hf : f ∈ (["key", "column", "number", "word"] : List Str)) (l : fs.lookup f = some v) (q : Q v H) : tXF K CT (tVar i) f σ H Q :=
  ⟨_, hs, ea, cs k, fs, v, rfl, x, T.cl k hk, T.no k hk f hf, l, q⟩
end
/-- which of the eighteen -/
def which (k : Nat) : List V := (List.range 18).map (bk k)
def sp__law_classes (_ : PySem.W.Frag) (cs : Nat → Addr) : Sp := fun vs H Q _ => ∃ (ea : Addr) (k : Nat) (fs : List (Str × V)), vs = [.ref ea] ∧ k < 18 ∧ XAt H ea (cs k) fs ∧ ∀ p H', Same H H' → H' p = some (.lst (which k)) → Q (.ref p) H'
seal PE PT PW PA PS PSs PI PG PIfs PGs PO in
theorem ok__law_classes {P : Program} {w : World} {K : PySem.W.Frag} {mg : Str → Option Value} {base : Heap} {CT : Addr} {cs : Nat → Addr} {f : Addr} {fd : FuncData} (Z : Zs mg) (T : Tx K mg CT cs) (F : Fun K "_law_classes" "_law_classes" s__law_classes f fd) : FnOk P w K mg base CX0 1 f fd ["_law_e"] (sp__law_classes K cs) := by
  refine F.ok sc__law_classes (fun vs H Q E h => ?_) (fun cdv A outer s H vs Q E hr h => ?_)
  · obtain ⟨ea, k, fs, rfl, _⟩ := h; rfl
  obtain ⟨ea, k, fs, rfl, hk, x, q⟩ := h
  refine ⟨_, (@pss_cons _ _ _ _ _ (ps_set (i := 1) sc__law_classes.nd rfl (Or.inl rfl) (pe_lst (pa_c (pe_callB (call_isX CT) rfl (Z.isinstance) bo_isinstance (pa_c (pv 0) (pa_c (pe_gfn T.mg_BadKey rfl) pa_nil))) (pa_c (pe_callB (call_isX CT) rfl (Z.isinstance) bo_isinstance (pa_c (pv 0) (pa_c (pe_gfn T.mg_BadValue rfl) pa_nil))) (pa_c (pe_callB (call_isX CT) rfl (Z.isinstance) bo_isinstance (pa_c (pv 0) (pa_c (pe_gfn T.mg_BadWord rfl) pa_nil))) (pa_c (pe_callB (call_isX CT) rfl (Z.isinstance) bo_isinstance (pa_c (pv 0) (pa_c (pe_gfn T.mg_BadElders rfl) pa_nil))) pa_nil))))))
      (@pss_cons _ _ _ _ _ (ps_set (i := 1) sc__law_classes.nd rfl (Or.inl rfl) (pe_op op_cat (pv 1) (pe_lst (pa_c (pe_callB (call_isX CT) rfl (Z.isinstance) bo_isinstance (pa_c (pv 0) (pa_c (pe_gfn T.mg_BadText rfl) pa_nil))) (pa_c (pe_callB (call_isX CT) rfl (Z.isinstance) bo_isinstance (pa_c (pv 0) (pa_c (pe_gfn T.mg_BadRow rfl) pa_nil))) (pa_c (pe_callB (call_isX CT) rfl (Z.isinstance) bo_isinstance (pa_c (pv 0) (pa_c (pe_gfn T.mg_Unsaved rfl) pa_nil))) (pa_c (pe_callB (call_isX CT) rfl (Z.isinstance) bo_isinstance (pa_c (pv 0) (pa_c (pe_gfn T.mg_NotRising rfl) pa_nil))) pa_nil)))))))
      (@pss_cons _ _ _ _ _ (ps_set (i := 1) sc__law_classes.nd rfl (Or.inl rfl) (pe_op op_cat (pv 1) (pe_lst (pa_c (pe_callB (call_isX CT) rfl (Z.isinstance) bo_isinstance (pa_c (pv 0) (pa_c (pe_gfn T.mg_NoRow rfl) pa_nil))) (pa_c (pe_callB (call_isX CT) rfl (Z.isinstance) bo_isinstance (pa_c (pv 0) (pa_c (pe_gfn T.mg_Unfit rfl) pa_nil))) (pa_c (pe_callB (call_isX CT) rfl (Z.isinstance) bo_isinstance (pa_c (pv 0) (pa_c (pe_gfn T.mg_NoColumn rfl) pa_nil))) (pa_c (pe_callB (call_isX CT) rfl (Z.isinstance) bo_isinstance (pa_c (pv 0) (pa_c (pe_gfn T.mg_ColumnThere rfl) pa_nil))) pa_nil)))))))
      (@pss_cons _ _ _ _ _ (ps_set (i := 1) sc__law_classes.nd rfl (Or.inl rfl) (pe_op op_cat (pv 1) (pe_lst (pa_c (pe_callB (call_isX CT) rfl (Z.isinstance) bo_isinstance (pa_c (pv 0) (pa_c (pe_gfn T.mg_NoClash rfl) pa_nil))) (pa_c (pe_callB (call_isX CT) rfl (Z.isinstance) bo_isinstance (pa_c (pv 0) (pa_c (pe_gfn T.mg_NoPage rfl) pa_nil))) (pa_c (pe_callB (call_isX CT) rfl (Z.isinstance) bo_isinstance (pa_c (pv 0) (pa_c (pe_gfn T.mg_NoMake rfl) pa_nil))) (pa_c (pe_callB (call_isX CT) rfl (Z.isinstance) bo_isinstance (pa_c (pv 0) (pa_c (pe_gfn T.mg_NotBroken rfl) pa_nil))) pa_nil)))))))
      (pss_one (ps_ret (pe_op op_cat (pv 1) (pe_lst (pa_c (pe_callB (call_isX CT) rfl (Z.isinstance) bo_isinstance (pa_c (pv 0) (pa_c (pe_gfn T.mg_NoName rfl) pa_nil))) (pa_c (pe_callB (call_isX CT) rfl (Z.isinstance) bo_isinstance (pa_c (pv 0) (pa_c (pe_gfn T.mg_InUse rfl) pa_nil))) pa_nil)))))))))), ?_⟩
  refine rd_start (σ := [some (.ref ea), none]) rfl ?_
  walk_at "rd"
  refine isx T x hk (by decide) (isx T x hk (by decide) (isx T x hk (by decide) (isx T x hk (by decide) (⟨show 4 ≤ sizeLine by decide, fun p hp => ?_⟩))))
  have s0 : Same H (upd H p (.lst [bk k 0, bk k 1, bk k 2, bk k 3])) := same_upd hp _
  have g0 : upd H p (.lst [bk k 0, bk k 1, bk k 2, bk k 3]) p = some (.lst [bk k 0, bk k 1, bk k 2, bk k 3]) := upd_same
  generalize upd H p (.lst [bk k 0, bk k 1, bk k 2, bk k 3]) = H0 at s0 g0 ⊢
  have x1 := x.same s0
  refine isx T x1 hk (by decide) (isx T x1 hk (by decide) (isx T x1 hk (by decide) (isx T x1 hk (by decide) (⟨show 4 ≤ sizeLine by decide, fun y1 hy1 => ?_⟩))))
  have u1 : Same H0 (upd H0 y1 (.lst [bk k 4, bk k 5, bk k 6, bk k 7])) := same_upd hy1 _
  refine ⟨_, u1 _ _ g0, _, upd_same, show 4 + 4 ≤ sizeLine by decide, fun p1 hp1 => ?_⟩
  have v1 : Same (upd H0 y1 (.lst [bk k 4, bk k 5, bk k 6, bk k 7])) (upd (upd H0 y1 (.lst [bk k 4, bk k 5, bk k 6, bk k 7])) p1 (.lst ([bk k 0, bk k 1, bk k 2, bk k 3] ++ [bk k 4, bk k 5, bk k 6, bk k 7]))) := same_upd hp1 _
  have s1 := s0.trans (u1.trans v1)
  have g1 : upd (upd H0 y1 (.lst [bk k 4, bk k 5, bk k 6, bk k 7])) p1 (.lst ([bk k 0, bk k 1, bk k 2, bk k 3] ++ [bk k 4, bk k 5, bk k 6, bk k 7])) p1 = some (.lst [bk k 0, bk k 1, bk k 2, bk k 3, bk k 4, bk k 5, bk k 6, bk k 7]) := upd_same
  generalize upd (upd H0 y1 (.lst [bk k 4, bk k 5, bk k 6, bk k 7])) p1 (.lst ([bk k 0, bk k 1, bk k 2, bk k 3] ++ [bk k 4, bk k 5, bk k 6, bk k 7])) = H1 at s1 g1 ⊢
  clear u1 v1
  have x2 := x.same s1
  refine isx T x2 hk (by decide) (isx T x2 hk (by decide) (isx T x2 hk (by decide) (isx T x2 hk (by decide) (⟨show 4 ≤ sizeLine by decide, fun y2 hy2 => ?_⟩))))
  have u2 : Same H1 (upd H1 y2 (.lst [bk k 8, bk k 9, bk k 10, bk k 11])) := same_upd hy2 _
  refine ⟨_, u2 _ _ g1, _, upd_same, show 8 + 4 ≤ sizeLine by decide, fun p2 hp2 => ?_⟩
  have v2 : Same (upd H1 y2 (.lst [bk k 8, bk k 9, bk k 10, bk k 11])) (upd (upd H1 y2 (.lst [bk k 8, bk k 9, bk k 10, bk k 11])) p2 (.lst ([bk k 0, bk k 1, bk k 2, bk k 3, bk k 4, bk k 5, bk k 6, bk k 7] ++ [bk k 8, bk k 9, bk k 10, bk k 11]))) := same_upd hp2 _
  have s2 := s1.trans (u2.trans v2)
  have g2 : upd (upd H1 y2 (.lst [bk k 8, bk k 9, bk k 10, bk k 11])) p2 (.lst ([bk k 0, bk k 1, bk k 2, bk k 3, bk k 4, bk k 5, bk k 6, bk k 7] ++ [bk k 8, bk k 9, bk k 10, bk k 11])) p2 = some (.lst [bk k 0, bk k 1, bk k 2, bk k 3, bk k 4, bk k 5, bk k 6, bk k 7, bk k 8, bk k 9, bk k 10, bk k 11]) := upd_same
  generalize upd (upd H1 y2 (.lst [bk k 8, bk k 9, bk k 10, bk k 11])) p2 (.lst ([bk k 0, bk k 1, bk k 2, bk k 3, bk k 4, bk k 5, bk k 6, bk k 7] ++ [bk k 8, bk k 9, bk k 10, bk k 11])) = H2 at s2 g2 ⊢
  clear u2 v2
  have x3 := x.same s2
  refine isx T x3 hk (by decide) (isx T x3 hk (by decide) (isx T x3 hk (by decide) (isx T x3 hk (by decide) (⟨show 4 ≤ sizeLine by decide, fun y3 hy3 => ?_⟩))))
  have u3 : Same H2 (upd H2 y3 (.lst [bk k 12, bk k 13, bk k 14, bk k 15])) := same_upd hy3 _
  refine ⟨_, u3 _ _ g2, _, upd_same, show 12 + 4 ≤ sizeLine by decide, fun p3 hp3 => ?_⟩
  have v3 : Same (upd H2 y3 (.lst [bk k 12, bk k 13, bk k 14, bk k 15])) (upd (upd H2 y3 (.lst [bk k 12, bk k 13, bk k 14, bk k 15])) p3 (.lst ([bk k 0, bk k 1, bk k 2, bk k 3, bk k 4, bk k 5, bk k 6, bk k 7, bk k 8, bk k 9, bk k 10, bk k 11] ++ [bk k 12, bk k 13, bk k 14, bk k 15]))) := same_upd hp3 _
  have s3 := s2.trans (u3.trans v3)
  have g3 : upd (upd H2 y3 (.lst [bk k 12, bk k 13, bk k 14, bk k 15])) p3 (.lst ([bk k 0, bk k 1, bk k 2, bk k 3, bk k 4, bk k 5, bk k 6, bk k 7, bk k 8, bk k 9, bk k 10, bk k 11] ++ [bk k 12, bk k 13, bk k 14, bk k 15])) p3 = some (.lst [bk k 0, bk k 1, bk k 2, bk k 3, bk k 4, bk k 5, bk k 6, bk k 7, bk k 8, bk k 9, bk k 10, bk k 11, bk k 12, bk k 13, bk k 14, bk k 15]) := upd_same
  generalize upd (upd H2 y3 (.lst [bk k 12, bk k 13, bk k 14, bk k 15])) p3 (.lst ([bk k 0, bk k 1, bk k 2, bk k 3, bk k 4, bk k 5, bk k 6, bk k 7, bk k 8, bk k 9, bk k 10, bk k 11] ++ [bk k 12, bk k 13, bk k 14, bk k 15])) = H3 at s3 g3 ⊢
  clear u3 v3
  have x4 := x.same s3
  refine isx T x4 hk (by decide) (isx T x4 hk (by decide) (⟨show 2 ≤ sizeLine by decide, fun y4 hy4 => ?_⟩))
  have u4 : Same H3 (upd H3 y4 (.lst [bk k 16, bk k 17])) := same_upd hy4 _
  refine ⟨_, u4 _ _ g3, _, upd_same, show 16 + 2 ≤ sizeLine by decide, fun p4 hp4 => ?_⟩
  have v4 : Same (upd H3 y4 (.lst [bk k 16, bk k 17])) (upd (upd H3 y4 (.lst [bk k 16, bk k 17])) p4 (.lst ([bk k 0, bk k 1, bk k 2, bk k 3, bk k 4, bk k 5, bk k 6, bk k 7, bk k 8, bk k 9, bk k 10, bk k 11, bk k 12, bk k 13, bk k 14, bk k 15] ++ [bk k 16, bk k 17]))) := same_upd hp4 _
  have s4 := s3.trans (u4.trans v4)
  have g4 : upd (upd H3 y4 (.lst [bk k 16, bk k 17])) p4 (.lst ([bk k 0, bk k 1, bk k 2, bk k 3, bk k 4, bk k 5, bk k 6, bk k 7, bk k 8, bk k 9, bk k 10, bk k 11, bk k 12, bk k 13, bk k 14, bk k 15] ++ [bk k 16, bk k 17])) p4 = some (.lst [bk k 0, bk k 1, bk k 2, bk k 3, bk k 4, bk k 5, bk k 6, bk k 7, bk k 8, bk k 9, bk k 10, bk k 11, bk k 12, bk k 13, bk k 14, bk k 15, bk k 16, bk k 17]) := upd_same
  exact q _ _ s4 g4
--@SPLIT
theorem kit_int_str {K : PySem.W.Frag} : PySem.W.kitOne K (.type "int") (.type "str") = some false := by rfl
theorem kit_str_str {K : PySem.W.Frag} : PySem.W.kitOne K (.type "str") (.type "str") = some true := by rfl
theorem kit_int_int {K : PySem.W.Frag} : PySem.W.kitOne K (.type "int") (.type "int") = some true := by rfl
theorem kit_int_bool' {K : PySem.W.Frag} : PySem.W.kitOne K (.type "int") (.type "bool") = some false := by rfl
def sp__law_same (_ : PySem.W.Frag) : Sp := fun vs H Q _ => ∃ v, vs = [v, v] ∧ kv v ∧ Q (.bl true) H
seal PE PT PW PA PS PSs PI PG PIfs PGs PO in
theorem ok__law_same {P : Program} {w : World} {K : PySem.W.Frag} {mg : Str → Option Value} {base : Heap} {CT : Addr} {cs : Nat → Addr} {f : Addr} {fd : FuncData} (Z : Zs mg) (T : Tx K mg CT cs) (F : Fun K "_law_same" "_law_same" s__law_same f fd) : FnOk P w K mg base CX0 1 f fd ["_law_found", "_law_due"] (sp__law_same K) := by
  refine F.ok sc__law_same (fun vs H Q E h => ?_) (fun cdv A outer s H vs Q E hr h => ?_)
  · obtain ⟨v, rfl, _⟩ := h; rfl
  obtain ⟨v, rfl, hv, q⟩ := h
  refine ⟨_, (@pss_cons _ _ _ _ _ (ps_if (pt_val (pe_callB call_isinst rfl (Z.isinstance) bo_isinstance (pa_c (pv 1) (pa_c (pe_bltn rfl (Z.str) bo_str (v := .ty "str") rfl) pa_nil))) (fun _ => rfl)) (pss_one (ps_ret (pe_and (pe_callB call_isinst rfl (Z.isinstance) bo_isinstance (pa_c (pv 0) (pa_c (pe_bltn rfl (Z.str) bo_str (v := .ty "str") rfl) pa_nil))) (pe_one (pe_cmpR op_eq (pv 0) (pv 1) (nomark _)))))) pss_nil)
      (pss_one (ps_ret (pe_and (pe_callB call_isinst rfl (Z.isinstance) bo_isinstance (pa_c (pv 0) (pa_c (pe_bltn rfl (Z.int) bo_int (v := .ty "int") rfl) pa_nil))) (pe_and (pe_not (pe_callB call_isinst rfl (Z.isinstance) bo_isinstance (pa_c (pv 0) (pa_c (pe_bltn rfl (Z.bool) bo_bool (v := .ty "bool") rfl) pa_nil)))) (pe_one (pe_cmpR op_eq (pv 0) (pv 1) (nomark _)))))))), ?_⟩
  refine rd_start (σ := [some v, some v]) rfl ?_
  walk_at "rd"
  rcases hv with ⟨i, rfl⟩ | ⟨z, rfl⟩
  · refine isI_of (.int i) kit_int_str ⟨_, rfl, ?_⟩
    walk_at "rd"
    refine isI_of (.int i) kit_int_int ?_
    walk_at "rd"
    exact isI_of (.int i) kit_int_bool' ⟨false, rfl, by rw [if_pos rfl]; exact q⟩
  · refine isI_of (.str z) kit_str_str ⟨_, rfl, ?_⟩
    walk_at "rd"
    refine isI_of (.str z) kit_str_str ?_
    walk_at "rd"
    exact q
def sp__law_tells (_ : PySem.W.Frag) (cs : Nat → Addr) : Sp := fun vs H Q _ => ∃ (ea : Addr) (k : Nat) (key col num word : V), vs = [.ref ea, key, col, num, word] ∧ k < 18 ∧ kv key ∧ kv col ∧ kv num ∧ kv word ∧ XAt H ea (cs k) (fieldsOf k key col num word) ∧ ∀ H', Same H H' → Q (.bl true) H'
seal PE PT PW PA PS PSs PI PG PIfs PGs PO in
theorem ok__law_tells {P : Program} {w : World} {K : PySem.W.Frag} {mg : Str → Option Value} {base : Heap} {CT : Addr} {cs : Nat → Addr} {f : Addr} {fd : FuncData} (Z : Zs mg) (T : Tx K mg CT cs) (G__law_same : Cal P w K mg base 1 "_law_same" ["_law_found", "_law_due"] (sp__law_same K)) (F : Fun K "_law_tells" "_law_tells" s__law_tells f fd) : FnOk P w K mg base CX0 2 f fd ["_law_e", "_law_key_here", "_law_column", "_law_number", "_law_word"] (sp__law_tells K cs) := by
  refine F.ok sc__law_tells (fun vs H Q E h => ?_) (fun cdv A outer s H vs Q E hr h => ?_)
  · obtain ⟨ea, k, key, col, num, word, rfl, _⟩ := h; rfl
  obtain ⟨ea, k, key, col, num, word, rfl, hk, h1, h2, h3, h4, x, q⟩ := h
  refine ⟨_, (@pss_cons _ _ _ _ _ (ps_if (pt_val (pe_callB (call_isXT CT) rfl (Z.isinstance) bo_isinstance (pa_c (pv 0) (pa_c (pe_tup (pa_c (pe_gfn T.mg_NotRising rfl) (pa_c (pe_gfn T.mg_NoRow rfl) (pa_c (pe_gfn T.mg_Unfit rfl) pa_nil)))) pa_nil))) (fun _ => rfl)) (pss_one (ps_ret (pe_cal G__law_same (k := 1) hr (by decide) rfl (pa_c (pe_xfld CT (pv 0) rfl) (pa_c (pv 1) pa_nil))))) pss_nil)
      (@pss_cons _ _ _ _ _ (ps_if (pt_val (pe_callB (call_isXT CT) rfl (Z.isinstance) bo_isinstance (pa_c (pv 0) (pa_c (pe_tup (pa_c (pe_gfn T.mg_NoColumn rfl) (pa_c (pe_gfn T.mg_ColumnThere rfl) pa_nil))) pa_nil))) (fun _ => rfl)) (pss_one (ps_ret (pe_cal G__law_same (k := 1) hr (by decide) rfl (pa_c (pe_xfld CT (pv 0) rfl) (pa_c (pv 2) pa_nil))))) pss_nil)
      (@pss_cons _ _ _ _ _ (ps_if (pt_val (pe_callB (call_isX CT) rfl (Z.isinstance) bo_isinstance (pa_c (pv 0) (pa_c (pe_gfn T.mg_NoClash rfl) pa_nil))) (fun _ => rfl)) (pss_one (ps_ret (pe_and (pe_cal G__law_same (k := 1) hr (by decide) rfl (pa_c (pe_xfld CT (pv 0) rfl) (pa_c (pv 1) pa_nil))) (pe_one (pe_cal G__law_same (k := 1) hr (by decide) rfl (pa_c (pe_xfld CT (pv 0) rfl) (pa_c (pv 2) pa_nil))))))) pss_nil)
      (@pss_cons _ _ _ _ _ (ps_if (pt_val (pe_callB (call_isXT CT) rfl (Z.isinstance) bo_isinstance (pa_c (pv 0) (pa_c (pe_tup (pa_c (pe_gfn T.mg_NoPage rfl) (pa_c (pe_gfn T.mg_NoMake rfl) (pa_c (pe_gfn T.mg_NotBroken rfl) pa_nil)))) pa_nil))) (fun _ => rfl)) (pss_one (ps_ret (pe_cal G__law_same (k := 1) hr (by decide) rfl (pa_c (pe_xfld CT (pv 0) rfl) (pa_c (pv 3) pa_nil))))) pss_nil)
      (@pss_cons _ _ _ _ _ (ps_if (pt_val (pe_callB (call_isXT CT) rfl (Z.isinstance) bo_isinstance (pa_c (pv 0) (pa_c (pe_tup (pa_c (pe_gfn T.mg_NoName rfl) (pa_c (pe_gfn T.mg_InUse rfl) pa_nil))) pa_nil))) (fun _ => rfl)) (pss_one (ps_ret (pe_cal G__law_same (k := 1) hr (by decide) rfl (pa_c (pe_xfld CT (pv 0) rfl) (pa_c (pv 4) pa_nil))))) pss_nil)
      (pss_one (ps_ret pe_bl))))))), ?_⟩
  refine rd_start (σ := [some (.ref ea), some key, some col, some num, some word]) rfl ?_
  walk_at "rd"
  refine ⟨show 3 ≤ sizeLine by decide, fun p1 hp1 => ?_⟩
  have t1 : Same H (upd H p1 (.tup [V.ref (cs 7), V.ref (cs 8), V.ref (cs 9)])) := same_upd hp1 _
  have x1 := x.same t1
  refine isxt T x1 hk [7, 8, 9] (by decide) upd_same ⟨_, rfl, ite2 (fun c1 => ?_) fun c1 => ?_⟩
  · have c1 := of_decide_eq_true c1
    have e : fieldsOf k key col num word = [(Str.ofString "key", key)] := by
      simp only [List.mem_cons, List.not_mem_nil, or_false] at c1
      rcases c1 with rfl | rfl | rfl <;> rfl
    exact xf T rfl x1 hk (by decide) (by rw [e]; rfl) ⟨key, rfl, h1, q _ t1⟩
  have n1 : ¬ (k = 7 ∨ k = 8 ∨ k = 9) := fun z => c1 (decide_eq_true (by simpa using z))
  refine ⟨show 2 ≤ sizeLine by decide, fun p2 hp2 => ?_⟩
  have t2 := t1.trans (same_upd hp2 (.tup [V.ref (cs 10), V.ref (cs 11)]))
  have x2 := x.same t2
  refine isxt T x2 hk [10, 11] (by decide) upd_same ⟨_, rfl, ite2 (fun c2 => ?_) fun c2 => ?_⟩
  · have c2 := of_decide_eq_true c2
    have e : fieldsOf k key col num word = [(Str.ofString "column", col)] := by
      simp only [List.mem_cons, List.not_mem_nil, or_false] at c2
      rcases c2 with rfl | rfl <;> rfl
    exact xf T rfl x2 hk (by decide) (by rw [e]; rfl) ⟨col, rfl, h2, q _ t2⟩
  have n2 : ¬ (k = 10 ∨ k = 11) := fun z => c2 (decide_eq_true (by simpa using z))
  refine isx T x2 hk (by decide) ⟨_, rfl, ite2 (fun c3 => ?_) fun c3 => ?_⟩
  · obtain rfl := of_decide_eq_true c3
    refine xf T rfl x2 hk (by decide) rfl ⟨key, rfl, h1, true, rfl, ?_⟩
    rw [if_pos rfl]
    exact xf T rfl x2 hk (by decide) rfl ⟨col, rfl, h2, q _ t2⟩
  have n3 : ¬ k = 12 := fun z => c3 (decide_eq_true z)
  refine ⟨show 3 ≤ sizeLine by decide, fun p3 hp3 => ?_⟩
  have t3 := t2.trans (same_upd hp3 (.tup [V.ref (cs 13), V.ref (cs 14), V.ref (cs 15)]))
  have x3 := x.same t3
  refine isxt T x3 hk [13, 14, 15] (by decide) upd_same ⟨_, rfl, ite2 (fun c4 => ?_) fun c4 => ?_⟩
  · have c4 := of_decide_eq_true c4
    have e : fieldsOf k key col num word = [(Str.ofString "number", num)] := by
      simp only [List.mem_cons, List.not_mem_nil, or_false] at c4
      rcases c4 with rfl | rfl | rfl <;> rfl
    exact xf T rfl x3 hk (by decide) (by rw [e]; rfl) ⟨num, rfl, h3, q _ t3⟩
  have n4 : ¬ (k = 13 ∨ k = 14 ∨ k = 15) := fun z => c4 (decide_eq_true (by simpa using z))
  refine ⟨show 2 ≤ sizeLine by decide, fun p4 hp4 => ?_⟩
  have t4 := t3.trans (same_upd hp4 (.tup [V.ref (cs 16), V.ref (cs 17)]))
  have x4 := x.same t4
  refine isxt T x4 hk [16, 17] (by decide) upd_same ⟨_, rfl, ite2 (fun c5 => ?_) fun c5 => ?_⟩
  · have c5 := of_decide_eq_true c5
    have e : fieldsOf k key col num word = [(Str.ofString "word", word)] := by
      simp only [List.mem_cons, List.not_mem_nil, or_false] at c5
      rcases c5 with rfl | rfl <;> rfl
    exact xf T rfl x4 hk (by decide) (by rw [e]; rfl) ⟨word, rfl, h4, q _ t4⟩
  · exact q _ t4
theorem which_of {k : Nat} {ys : List V} (l : ys.length = 18) (py : ∀ (i : Nat) y, ys[i]? = some y → y = bk k i) : ys = which k := by
  refine List.ext_getElem (by rw [l]; rfl) fun i h1 h2 => ?_
  rw [py i _ (List.getElem?_eq_getElem h1)]
  simp [which]
theorem which_flat (k : Nat) : (which k).all flatV = true := by
  rw [List.all_eq_true]
  intro v hv
  obtain ⟨j, _, rfl⟩ := List.mem_map.mp hv
  rfl
theorem which_eq (k : Nat) : eqVs (which k) (which k) = true := eqVs_refl (which_flat k)
def sp__law_good (_ : PySem.W.Frag) : Sp := fun vs H Q _ => ∃ (k : Nat) (key col num word : V), vs = [.int k, key, col, num, word] ∧ k < 18 ∧ kv key ∧ kv col ∧ kv num ∧ kv word ∧ ∀ H', Same H H' → Q (.bl true) H'
seal PE PT PW PA PS PSs PI PG PIfs PGs PO in
theorem ok__law_good {P : Program} {w : World} {K : PySem.W.Frag} {mg : Str → Option Value} {base : Heap} {CT : Addr} {cs : Nat → Addr} {f : Addr} {fd : FuncData} (Z : Zs mg) (T : Tx K mg CT cs) (G__law_tells : Cal P w K mg base 2 "_law_tells" ["_law_e", "_law_key_here", "_law_column", "_law_number", "_law_word"] (sp__law_tells K cs)) (G__law_raise : Cal1 P w K mg base 3 "_law_raise" ["_law_k", "_law_key_here", "_law_column", "_law_number", "_law_word"] (sp__law_raise K cs)) (G__law_classes : Cal P w K mg base 1 "_law_classes" ["_law_e"] (sp__law_classes K cs)) (F : Fun K "_law_good" "_law_good" s__law_good f fd) : FnOk P w K mg base CX0 4 f fd ["_law_k", "_law_key_here", "_law_column", "_law_number", "_law_word"] (sp__law_good K) := by
  refine F.ok sc__law_good (fun vs H Q E h => ?_) (fun cdv A outer s H vs Q E hr h => ?_)
  · obtain ⟨k, key, col, num, word, rfl, _⟩ := h; rfl
  obtain ⟨k, key, col, num, word, rfl, hk, h1, h2, h3, h4, q⟩ := h
  refine ⟨_, (@pss_cons _ _ _ _ _ (ps_set (i := 5) sc__law_good.nd rfl (Or.inl rfl) pe_non)
      (@pss_cons _ _ _ _ _ (ps_tryAs (i := 6) (ps1_expr (pe1_cal G__law_raise (k := 3) hr (by decide) rfl rfl (pa_c (pv 0) (pa_c (pv 1) (pa_c (pv 2) (pa_c (pv 3) (pa_c (pv 4) pa_nil))))))) rfl rfl rfl rfl T.top.mg_ T.top.cl sc__law_good.nd rfl rfl (fun ea ok => (pss_one (ps_set (i := 5) sc__law_good.nd rfl (Or.inl rfl) (pv 6)))))
      (@pss_cons _ _ _ _ _ (ps_if (PW.pt (pw_or (pt_cmpR op_isN (pv 5) pe_non (nomark _)) (pw_or1 (pt_not (pt_val (pe_callB (call_isX CT) rfl (Z.isinstance) bo_isinstance (pa_c (pv 5) (pa_c (pe_bltn rfl (Z.ValueError) bo_ValueError (v := .ty "ValueError") rfl) pa_nil))) (fun _ => rfl)))))) (pss_one (ps_ret pe_bl)) pss_nil)
      (@pss_cons _ _ _ _ _ (ps_if (pt_cmpR (op_neL (hr.units0)) (pe_cal G__law_classes (k := 3) hr (by decide) rfl (pa_c (pv 5) pa_nil)) (pe_lcomp ["_law_k", "_law_key_here", "_law_column", "_law_number", "_law_word", "_law_caught", "_law_e"] rfl (blkOk (N := ["_law_k", "_law_key_here", "_law_column", "_law_number", "_law_word", "_law_caught", "_law_e"]) (dsc := defScope s__law_good) rfl rfl (by decide +kernel)) (pi_range1 rfl (Z.range) (pa_c pe_int pa_nil)) (fun _ _ _ _ _ => pif_nil) (fun _ _ _ _ _ => (pe_cmpR op_eq (pv 1) (pv 0) (nomark _)))) (nomark _)) (pss_one (ps_ret pe_bl)) pss_nil)
      (pss_one (ps_ret (pe_cal G__law_tells (k := 3) hr (by decide) rfl (pa_c (pv 5) (pa_c (pv 1) (pa_c (pv 2) (pa_c (pv 3) (pa_c (pv 4) pa_nil)))))))))))), ?_⟩
  refine rd_start (σ := [some (.int k), some key, some col, some num, some word, none, none]) rfl ?_
  walk_at "rd"
  simp only [tCall1, Ends.gone]
  walk_at "rd"
  refine ⟨k, key, col, num, word, rfl, hk, fun h7 => ⟨cs k, rfl, T.cl k hk, fun ea he => ?_⟩, fun h7 d hd => ⟨cs k, rfl, T.cl k hk, fun ea he => ?_⟩⟩
  · have sa : Same H (upd H ea (xC ea (cs k) none)) := same_upd he _
    have ef : fieldsOf k key col num word = [] := by unfold fieldsOf; rw [if_pos h7]
    have xa : XAt (upd H ea (xC ea (cs k) none)) ea (cs k) (fieldsOf k key col num word) := .inl ⟨upd_same, ef⟩
    generalize upd H ea (xC ea (cs k) none) = H1 at sa xa ⊢
    refine isv T xa hk ⟨true, rfl, ?_⟩
    rw [if_neg (by decide)]
    refine ⟨ea, k, _, rfl, hk, xa, fun p H2 s2 hp => ⟨by decide, by decide, lcR_range (fun i v => v = bk k i) (small_le (by decide)) (fun i H3 R hi s3 hR => ?_) fun D H3 ys hD s3 hy ly py => ?_⟩⟩
    · walk_at "rd"
      refine hR _ _ ?_ (Same.refl _)
      unfold bk
      congr 1
      apply decide_eq_decide.mpr
      omega
    · obtain rfl := which_of ly py
      refine ⟨p, rfl, D, rfl, _, SqL.of (s3 _ _ hp), _, SqL.of hy, which_flat k, which_flat k, ?_⟩
      rw [which_eq, if_neg (by decide)]
      exact ⟨ea, k, key, col, num, word, rfl, hk, h1, h2, h3, h4, xa.same (s2.trans s3), fun H' s' => q H' (sa.trans (s2.trans (s3.trans s')))⟩
  · have hne : d ≠ ea := fun z => by rw [z, upd_same] at he; cases he
    have sa : Same H (upd (upd H d (xD d (fieldsOf k key col num word))) ea (xC ea (cs k) (some d))) := (same_upd hd _).trans (same_upd he _)
    have xa : XAt (upd (upd H d (xD d (fieldsOf k key col num word))) ea (xC ea (cs k) (some d))) ea (cs k) (fieldsOf k key col num word) := .inr ⟨d, upd_same, by rw [upd_ne hne]; exact upd_same⟩
    generalize upd (upd H d (xD d (fieldsOf k key col num word))) ea (xC ea (cs k) (some d)) = H1 at sa xa ⊢
    refine isv T xa hk ⟨true, rfl, ?_⟩
    rw [if_neg (by decide)]
    refine ⟨ea, k, _, rfl, hk, xa, fun p H2 s2 hp => ⟨by decide, by decide, lcR_range (fun i v => v = bk k i) (small_le (by decide)) (fun i H3 R hi s3 hR => ?_) fun D H3 ys hD s3 hy ly py => ?_⟩⟩
    · walk_at "rd"
      refine hR _ _ ?_ (Same.refl _)
      unfold bk
      congr 1
      apply decide_eq_decide.mpr
      omega
    · obtain rfl := which_of ly py
      refine ⟨p, rfl, D, rfl, _, SqL.of (s3 _ _ hp), _, SqL.of hy, which_flat k, which_flat k, ?_⟩
      rw [which_eq, if_neg (by decide)]
      exact ⟨ea, k, key, col, num, word, rfl, hk, h1, h2, h3, h4, xa.same (s2.trans s3), fun H' s' => q H' (sa.trans (s2.trans (s3.trans s')))⟩
--@SPLIT
def sp_law (K : PySem.W.Frag) : Sp := fun vs H Q _ => ∃ (a : Addr) (ns : List Int), vs = [.ref a] ∧ SqL K H a (ns.map V.int) ∧ ns.length ≤ 63 ∧ (∀ i ∈ ns, Builtin.Int.intBits i ≤ 2 ^ 20) ∧ ∀ H', Q (.bl true) H'
seal PE PT PW PA PS PSs PI PG PIfs PGs PO in
theorem ok_law {P : Program} {w : World} {K : PySem.W.Frag} {mg : Str → Option Value} {base : Heap} {CT : Addr} {cs : Nat → Addr} {f : Addr} {fd : FuncData} (Z : Zs mg) (T : Tx K mg CT cs) (G__law_key : Cal P w K mg base 3 "_law_key" ["_law_cell"] (sp__law_key K)) (G__law_letters : Cal P w K mg base 2 "_law_letters" ["_law_cell"] (sp__law_letters K)) (G__law_cell_at : Cal P w K mg base 1 "_law_cell_at" ["_law_script", "_law_k"] (sp__law_cell_at K)) (G__law_good : Cal P w K mg base 4 "_law_good" ["_law_k", "_law_key_here", "_law_column", "_law_number", "_law_word"] (sp__law_good K)) (F : Fun K "law" "law" s_law f fd) : FnOk P w K mg base CX0 5 f fd ["_law_script"] (sp_law K) := by
  refine F.ok sc_law (fun vs H Q E h => ?_) (fun cdv A outer s H vs Q E hr h => ?_)
  · obtain ⟨a, ns, rfl, _⟩ := h; rfl
  obtain ⟨a, ns, rfl, hS, h63, hb, q⟩ := h
  refine ⟨_, (@pss_cons _ _ _ _ _ (ps_set (i := 1) sc_law.nd rfl (Or.inl rfl) (pe_cal G__law_key (k := 4) hr (by decide) rfl (pa_c (pe_cal G__law_cell_at (k := 4) hr (by decide) rfl (pa_c (pv 0) (pa_c pe_int pa_nil))) pa_nil)))
      (@pss_cons _ _ _ _ _ (ps_set (i := 2) sc_law.nd rfl (Or.inl rfl) (pe_cal G__law_letters (k := 4) hr (by decide) rfl (pa_c (pe_cal G__law_cell_at (k := 4) hr (by decide) rfl (pa_c (pv 0) (pa_c pe_int pa_nil))) pa_nil)))
      (@pss_cons _ _ _ _ _ (ps_set (i := 3) sc_law.nd rfl (Or.inl rfl) (pe_op op_mod (pe_cal G__law_cell_at (k := 4) hr (by decide) rfl (pa_c (pv 0) (pa_c pe_int pa_nil))) (pe_op op_pow pe_int pe_int)))
      (@pss_cons _ _ _ _ _ (ps_set (i := 4) sc_law.nd rfl (Or.inl rfl) (pe_cal G__law_letters (k := 4) hr (by decide) rfl (pa_c (pe_cal G__law_cell_at (k := 4) hr (by decide) rfl (pa_c (pv 0) (pa_c pe_int pa_nil))) pa_nil)))
      (@pss_cons _ _ _ _ _ (ps_for PassesOwn.never rfl (pi_range1 rfl (Z.range) (pa_c pe_int pa_nil)) (pg_name (i := 5) sc_law.nd rfl (Or.inl rfl)) (pss_one (ps_if (pt_not (pt_val (pe_cal G__law_good (k := 4) hr (by decide) rfl (pa_c (pv 5) (pa_c (pv 1) (pa_c (pv 2) (pa_c (pv 3) (pa_c (pv 4) pa_nil)))))) (fun _ => rfl))) (pss_one (ps_ret pe_bl)) pss_nil)))
      (pss_one (ps_ret pe_bl))))))), ?_⟩
  refine rd_start (σ := [some (.ref a), none, none, none, none, none]) rfl ?_
  walk_at "rd"
  refine ⟨a, ns, 0, rfl, hS, h63, hb, fun c0 b0 => ⟨_, rfl, b0, fun key H1 kk s1 => ?_⟩⟩
  walk_at "rd"
  refine ⟨a, ns, 1, rfl, s1.seq hS, h63, hb, fun c1 _ => ⟨_, rfl, fun col H2 _ s2 => ⟨a, ns, 2, rfl, (s1.trans s2).seq hS, h63, hb, fun c2 _ => ⟨by walk_at "side", c2, rfl, by decide, a, ns, 3, rfl, (s1.trans s2).seq hS, h63, hb, fun c3 _ => ⟨_, rfl, fun word H3 _ s3 => ⟨by decide, by decide, ?_⟩⟩⟩⟩⟩⟩
  refine foR_range (fun i σ' H' => ∃ x5, σ' = [some (.ref a), some key, some (.str col), some (.int (c2 % 10 ^ 29)), some (.str word), x5]) ⟨_, rfl⟩ ?_ ?_
  · rintro i σ' H' hi ⟨x5, rfl⟩
    walk_at "rd"
    rw [Int.zero_add]
    refine ⟨i, key, .str col, .int (c2 % 10 ^ 29), .str word, rfl, hi, kk, .inr ⟨_, rfl⟩, .inl ⟨_, rfl⟩, .inr ⟨_, rfl⟩, fun H4 _ => ⟨true, rfl, ?_⟩⟩
    rw [if_neg (by decide)]
    exact ⟨_, rfl⟩
  · rintro σ' H' ⟨x5, rfl⟩
    walk_at "rd"
    exact q _
theorem law_sp {K : PySem.W.Frag} {H : Hp} {a : Addr} {ns : List Int} (hl : ns.length ≤ 63) (hb : ∀ i ∈ ns, Builtin.Int.intBits i ≤ 2 ^ 20) (hS : SqL K H a (ns.map V.int)) : sp_law K [.ref a] H (fun v _ => v = .bl true) fun _ _ _ => False :=
  ⟨a, ns, rfl, hS, hl, hb, fun _ => rfl⟩
theorem all_mk {l : PySem.W.OpenLaw} {w : World} {K : PySem.W.Frag} {h : Heap} {mg : Str → Option Value} {fa : Addr} (X : K.In h) (G : h.Ns mainGlobals mg) (hfa : mg "law" = some (.ref fa))
    {CT : Addr} {thd : Bool} {ynm yq : Str} {yN : Addr} {ybs : List Value} {ysn : List Str} {ysub : List Value} {yab : Bool} {ycol : Option Bool} {ydd : Option Addr} {yk0 yk1 yk2 yk3 yk5 : Option Value}
    (t1 : PySem.W.nsIn K mainGlobals "TableError" = some (some (.ref CT))) (t2 : K.lookup CT = some (excClassObj ynm yq CT yN ybs PySem.W.bmV thd ysn ysub yab ycol ydd yk0 yk1 yk2 yk3 yk5 "ValueError.__new__")) (t3 : PySem.W.nsOkIn K yN = true) (t4 : PySem.W.nsIn K yN "__init__" = some none) (t5 : PySem.W.tailIn K PySem.W.bmV PySem.W.bmV = true)
    (t6 : PySem.W.specialIn K (.ref CT) "__getattribute__" = some (some (.builtin "type.__getattribute__"))) (t7 : PySem.W.readsIn K CT (.type "type") = true) (t8 : PySem.W.findCls K (.ref CT) (.type "type") "__init__" = some (.val (.builtin "ValueError.__init__")))
    (t9 : PySem.W.tailIn K PySem.W.bmV (.ref CT :: PySem.W.bmV) = true) (ta : PySem.W.specialIn K (.builtin "object.__class__") "__get__" = some (some (.builtin "getset_descriptor.__get__"))) (tb : PySem.W.takesIn K (.builtin "object.__class__") = some true)
    {C0 : Addr} {v0nm v0q : Str} {v0N : Addr} {v0bs : List Value} {v0sn : List Str} {v0sub : List Value} {v0ab : Bool} {v0col : Option Bool} {v0dd : Option Addr} {v0k0 v0k1 v0k2 v0k3 v0k5 : Option Value}
    (p0 : PySem.W.nsIn K mainGlobals "BadKey" = some (some (.ref C0))) (q0 : K.lookup C0 = some (excClassObj v0nm v0q C0 v0N v0bs (.ref CT :: PySem.W.bmV) true v0sn v0sub v0ab v0col v0dd v0k0 v0k1 v0k2 v0k3 v0k5 "ValueError.__new__")) (r0 : PySem.W.nsOkIn K v0N = true) (u0 : PySem.W.xFacts K C0 ["key", "column", "number", "word"] = true)
    (i0 : PySem.W.nsIn K v0N "__init__" = some none)
    {C1 : Addr} {v1nm v1q : Str} {v1N : Addr} {v1bs : List Value} {v1sn : List Str} {v1sub : List Value} {v1ab : Bool} {v1col : Option Bool} {v1dd : Option Addr} {v1k0 v1k1 v1k2 v1k3 v1k5 : Option Value}
    (p1 : PySem.W.nsIn K mainGlobals "BadValue" = some (some (.ref C1))) (q1 : K.lookup C1 = some (excClassObj v1nm v1q C1 v1N v1bs (.ref CT :: PySem.W.bmV) true v1sn v1sub v1ab v1col v1dd v1k0 v1k1 v1k2 v1k3 v1k5 "ValueError.__new__")) (r1 : PySem.W.nsOkIn K v1N = true) (u1 : PySem.W.xFacts K C1 ["key", "column", "number", "word"] = true)
    (i1 : PySem.W.nsIn K v1N "__init__" = some none)
    {C2 : Addr} {v2nm v2q : Str} {v2N : Addr} {v2bs : List Value} {v2sn : List Str} {v2sub : List Value} {v2ab : Bool} {v2col : Option Bool} {v2dd : Option Addr} {v2k0 v2k1 v2k2 v2k3 v2k5 : Option Value}
    (p2 : PySem.W.nsIn K mainGlobals "BadWord" = some (some (.ref C2))) (q2 : K.lookup C2 = some (excClassObj v2nm v2q C2 v2N v2bs (.ref CT :: PySem.W.bmV) true v2sn v2sub v2ab v2col v2dd v2k0 v2k1 v2k2 v2k3 v2k5 "ValueError.__new__")) (r2 : PySem.W.nsOkIn K v2N = true) (u2 : PySem.W.xFacts K C2 ["key", "column", "number", "word"] = true)
    (i2 : PySem.W.nsIn K v2N "__init__" = some none)
    {C3 : Addr} {v3nm v3q : Str} {v3N : Addr} {v3bs : List Value} {v3sn : List Str} {v3sub : List Value} {v3ab : Bool} {v3col : Option Bool} {v3dd : Option Addr} {v3k0 v3k1 v3k2 v3k3 v3k5 : Option Value}
    (p3 : PySem.W.nsIn K mainGlobals "BadElders" = some (some (.ref C3))) (q3 : K.lookup C3 = some (excClassObj v3nm v3q C3 v3N v3bs (.ref CT :: PySem.W.bmV) true v3sn v3sub v3ab v3col v3dd v3k0 v3k1 v3k2 v3k3 v3k5 "ValueError.__new__")) (r3 : PySem.W.nsOkIn K v3N = true) (u3 : PySem.W.xFacts K C3 ["key", "column", "number", "word"] = true)
    (i3 : PySem.W.nsIn K v3N "__init__" = some none)
    {C4 : Addr} {v4nm v4q : Str} {v4N : Addr} {v4bs : List Value} {v4sn : List Str} {v4sub : List Value} {v4ab : Bool} {v4col : Option Bool} {v4dd : Option Addr} {v4k0 v4k1 v4k2 v4k3 v4k5 : Option Value}
    (p4 : PySem.W.nsIn K mainGlobals "BadText" = some (some (.ref C4))) (q4 : K.lookup C4 = some (excClassObj v4nm v4q C4 v4N v4bs (.ref CT :: PySem.W.bmV) true v4sn v4sub v4ab v4col v4dd v4k0 v4k1 v4k2 v4k3 v4k5 "ValueError.__new__")) (r4 : PySem.W.nsOkIn K v4N = true) (u4 : PySem.W.xFacts K C4 ["key", "column", "number", "word"] = true)
    (i4 : PySem.W.nsIn K v4N "__init__" = some none)
    {C5 : Addr} {v5nm v5q : Str} {v5N : Addr} {v5bs : List Value} {v5sn : List Str} {v5sub : List Value} {v5ab : Bool} {v5col : Option Bool} {v5dd : Option Addr} {v5k0 v5k1 v5k2 v5k3 v5k5 : Option Value}
    (p5 : PySem.W.nsIn K mainGlobals "BadRow" = some (some (.ref C5))) (q5 : K.lookup C5 = some (excClassObj v5nm v5q C5 v5N v5bs (.ref CT :: PySem.W.bmV) true v5sn v5sub v5ab v5col v5dd v5k0 v5k1 v5k2 v5k3 v5k5 "ValueError.__new__")) (r5 : PySem.W.nsOkIn K v5N = true) (u5 : PySem.W.xFacts K C5 ["key", "column", "number", "word"] = true)
    (i5 : PySem.W.nsIn K v5N "__init__" = some none)
    {C6 : Addr} {v6nm v6q : Str} {v6N : Addr} {v6bs : List Value} {v6sn : List Str} {v6sub : List Value} {v6ab : Bool} {v6col : Option Bool} {v6dd : Option Addr} {v6k0 v6k1 v6k2 v6k3 v6k5 : Option Value}
    (p6 : PySem.W.nsIn K mainGlobals "Unsaved" = some (some (.ref C6))) (q6 : K.lookup C6 = some (excClassObj v6nm v6q C6 v6N v6bs (.ref CT :: PySem.W.bmV) true v6sn v6sub v6ab v6col v6dd v6k0 v6k1 v6k2 v6k3 v6k5 "ValueError.__new__")) (r6 : PySem.W.nsOkIn K v6N = true) (u6 : PySem.W.xFacts K C6 ["key", "column", "number", "word"] = true)
    (i6 : PySem.W.nsIn K v6N "__init__" = some none)
    {C7 : Addr} {v7nm v7q : Str} {v7N : Addr} {v7bs : List Value} {v7sn : List Str} {v7sub : List Value} {v7ab : Bool} {v7col : Option Bool} {v7dd : Option Addr} {v7k0 v7k1 v7k2 v7k3 v7k5 : Option Value}
    (p7 : PySem.W.nsIn K mainGlobals "NotRising" = some (some (.ref C7))) (q7 : K.lookup C7 = some (excClassObj v7nm v7q C7 v7N v7bs (.ref CT :: PySem.W.bmV) true v7sn v7sub v7ab v7col v7dd v7k0 v7k1 v7k2 v7k3 v7k5 "ValueError.__new__")) (r7 : PySem.W.nsOkIn K v7N = true) (u7 : PySem.W.xFacts K C7 ["key", "column", "number", "word"] = true)
    (o7 : PySem.W.keepIn K (.ref C7) = true)
    {C8 : Addr} {v8nm v8q : Str} {v8N : Addr} {v8bs : List Value} {v8sn : List Str} {v8sub : List Value} {v8ab : Bool} {v8col : Option Bool} {v8dd : Option Addr} {v8k0 v8k1 v8k2 v8k3 v8k5 : Option Value}
    (p8 : PySem.W.nsIn K mainGlobals "NoRow" = some (some (.ref C8))) (q8 : K.lookup C8 = some (excClassObj v8nm v8q C8 v8N v8bs (.ref CT :: PySem.W.bmV) true v8sn v8sub v8ab v8col v8dd v8k0 v8k1 v8k2 v8k3 v8k5 "ValueError.__new__")) (r8 : PySem.W.nsOkIn K v8N = true) (u8 : PySem.W.xFacts K C8 ["key", "column", "number", "word"] = true)
    (o8 : PySem.W.keepIn K (.ref C8) = true)
    {C9 : Addr} {v9nm v9q : Str} {v9N : Addr} {v9bs : List Value} {v9sn : List Str} {v9sub : List Value} {v9ab : Bool} {v9col : Option Bool} {v9dd : Option Addr} {v9k0 v9k1 v9k2 v9k3 v9k5 : Option Value}
    (p9 : PySem.W.nsIn K mainGlobals "Unfit" = some (some (.ref C9))) (q9 : K.lookup C9 = some (excClassObj v9nm v9q C9 v9N v9bs (.ref CT :: PySem.W.bmV) true v9sn v9sub v9ab v9col v9dd v9k0 v9k1 v9k2 v9k3 v9k5 "ValueError.__new__")) (r9 : PySem.W.nsOkIn K v9N = true) (u9 : PySem.W.xFacts K C9 ["key", "column", "number", "word"] = true)
    (o9 : PySem.W.keepIn K (.ref C9) = true)
    {C10 : Addr} {v10nm v10q : Str} {v10N : Addr} {v10bs : List Value} {v10sn : List Str} {v10sub : List Value} {v10ab : Bool} {v10col : Option Bool} {v10dd : Option Addr} {v10k0 v10k1 v10k2 v10k3 v10k5 : Option Value}
    (p10 : PySem.W.nsIn K mainGlobals "NoColumn" = some (some (.ref C10))) (q10 : K.lookup C10 = some (excClassObj v10nm v10q C10 v10N v10bs (.ref CT :: PySem.W.bmV) true v10sn v10sub v10ab v10col v10dd v10k0 v10k1 v10k2 v10k3 v10k5 "ValueError.__new__")) (r10 : PySem.W.nsOkIn K v10N = true) (u10 : PySem.W.xFacts K C10 ["key", "column", "number", "word"] = true)
    (o10 : PySem.W.keepIn K (.ref C10) = true)
    {C11 : Addr} {v11nm v11q : Str} {v11N : Addr} {v11bs : List Value} {v11sn : List Str} {v11sub : List Value} {v11ab : Bool} {v11col : Option Bool} {v11dd : Option Addr} {v11k0 v11k1 v11k2 v11k3 v11k5 : Option Value}
    (p11 : PySem.W.nsIn K mainGlobals "ColumnThere" = some (some (.ref C11))) (q11 : K.lookup C11 = some (excClassObj v11nm v11q C11 v11N v11bs (.ref CT :: PySem.W.bmV) true v11sn v11sub v11ab v11col v11dd v11k0 v11k1 v11k2 v11k3 v11k5 "ValueError.__new__")) (r11 : PySem.W.nsOkIn K v11N = true) (u11 : PySem.W.xFacts K C11 ["key", "column", "number", "word"] = true)
    (o11 : PySem.W.keepIn K (.ref C11) = true)
    {C12 : Addr} {v12nm v12q : Str} {v12N : Addr} {v12bs : List Value} {v12sn : List Str} {v12sub : List Value} {v12ab : Bool} {v12col : Option Bool} {v12dd : Option Addr} {v12k0 v12k1 v12k2 v12k3 v12k5 : Option Value}
    (p12 : PySem.W.nsIn K mainGlobals "NoClash" = some (some (.ref C12))) (q12 : K.lookup C12 = some (excClassObj v12nm v12q C12 v12N v12bs (.ref CT :: PySem.W.bmV) true v12sn v12sub v12ab v12col v12dd v12k0 v12k1 v12k2 v12k3 v12k5 "ValueError.__new__")) (r12 : PySem.W.nsOkIn K v12N = true) (u12 : PySem.W.xFacts K C12 ["key", "column", "number", "word"] = true)
    (o12 : PySem.W.keepIn K (.ref C12) = true)
    {C13 : Addr} {v13nm v13q : Str} {v13N : Addr} {v13bs : List Value} {v13sn : List Str} {v13sub : List Value} {v13ab : Bool} {v13col : Option Bool} {v13dd : Option Addr} {v13k0 v13k1 v13k2 v13k3 v13k5 : Option Value}
    (p13 : PySem.W.nsIn K mainGlobals "NoPage" = some (some (.ref C13))) (q13 : K.lookup C13 = some (excClassObj v13nm v13q C13 v13N v13bs (.ref CT :: PySem.W.bmV) true v13sn v13sub v13ab v13col v13dd v13k0 v13k1 v13k2 v13k3 v13k5 "ValueError.__new__")) (r13 : PySem.W.nsOkIn K v13N = true) (u13 : PySem.W.xFacts K C13 ["key", "column", "number", "word"] = true)
    (o13 : PySem.W.keepIn K (.ref C13) = true)
    {C14 : Addr} {v14nm v14q : Str} {v14N : Addr} {v14bs : List Value} {v14sn : List Str} {v14sub : List Value} {v14ab : Bool} {v14col : Option Bool} {v14dd : Option Addr} {v14k0 v14k1 v14k2 v14k3 v14k5 : Option Value}
    (p14 : PySem.W.nsIn K mainGlobals "NoMake" = some (some (.ref C14))) (q14 : K.lookup C14 = some (excClassObj v14nm v14q C14 v14N v14bs (.ref CT :: PySem.W.bmV) true v14sn v14sub v14ab v14col v14dd v14k0 v14k1 v14k2 v14k3 v14k5 "ValueError.__new__")) (r14 : PySem.W.nsOkIn K v14N = true) (u14 : PySem.W.xFacts K C14 ["key", "column", "number", "word"] = true)
    (o14 : PySem.W.keepIn K (.ref C14) = true)
    {C15 : Addr} {v15nm v15q : Str} {v15N : Addr} {v15bs : List Value} {v15sn : List Str} {v15sub : List Value} {v15ab : Bool} {v15col : Option Bool} {v15dd : Option Addr} {v15k0 v15k1 v15k2 v15k3 v15k5 : Option Value}
    (p15 : PySem.W.nsIn K mainGlobals "NotBroken" = some (some (.ref C15))) (q15 : K.lookup C15 = some (excClassObj v15nm v15q C15 v15N v15bs (.ref CT :: PySem.W.bmV) true v15sn v15sub v15ab v15col v15dd v15k0 v15k1 v15k2 v15k3 v15k5 "ValueError.__new__")) (r15 : PySem.W.nsOkIn K v15N = true) (u15 : PySem.W.xFacts K C15 ["key", "column", "number", "word"] = true)
    (o15 : PySem.W.keepIn K (.ref C15) = true)
    {C16 : Addr} {v16nm v16q : Str} {v16N : Addr} {v16bs : List Value} {v16sn : List Str} {v16sub : List Value} {v16ab : Bool} {v16col : Option Bool} {v16dd : Option Addr} {v16k0 v16k1 v16k2 v16k3 v16k5 : Option Value}
    (p16 : PySem.W.nsIn K mainGlobals "NoName" = some (some (.ref C16))) (q16 : K.lookup C16 = some (excClassObj v16nm v16q C16 v16N v16bs (.ref CT :: PySem.W.bmV) true v16sn v16sub v16ab v16col v16dd v16k0 v16k1 v16k2 v16k3 v16k5 "ValueError.__new__")) (r16 : PySem.W.nsOkIn K v16N = true) (u16 : PySem.W.xFacts K C16 ["key", "column", "number", "word"] = true)
    (o16 : PySem.W.keepIn K (.ref C16) = true)
    {C17 : Addr} {v17nm v17q : Str} {v17N : Addr} {v17bs : List Value} {v17sn : List Str} {v17sub : List Value} {v17ab : Bool} {v17col : Option Bool} {v17dd : Option Addr} {v17k0 v17k1 v17k2 v17k3 v17k5 : Option Value}
    (p17 : PySem.W.nsIn K mainGlobals "InUse" = some (some (.ref C17))) (q17 : K.lookup C17 = some (excClassObj v17nm v17q C17 v17N v17bs (.ref CT :: PySem.W.bmV) true v17sn v17sub v17ab v17col v17dd v17k0 v17k1 v17k2 v17k3 v17k5 "ValueError.__new__")) (r17 : PySem.W.nsOkIn K v17N = true) (u17 : PySem.W.xFacts K C17 ["key", "column", "number", "word"] = true)
    (o17 : PySem.W.keepIn K (.ref C17) = true)
    (tt : PySem.W.tabOk K [C0, C1, C2, C3, C4, C5, C6, C7, C8, C9, C10, C11, C12, C13, C14, C15, C16, C17] = true) (tu : PySem.W.tvOk K [C0, C1, C2, C3, C4, C5, C6, C7, C8, C9, C10, C11, C12, C13, C14, C15, C16, C17] = true)
    {f1 : Addr} {od1 an1 : Option Addr} {sl1 : Array (Option Value)} {oc1 kV1 dc1 pm1 cd1 ct1 : Value}
    (a1 : PySem.W.findIn K (.ref C7) "__init__" = some (some (.ref f1))) (j1 : PySem.W.isFn K (.ref f1) = true)
    (l1 : K.lookup f1 = some ⟨oc1, od1, .func (PySem.W.fnOf "__init__" "NotRising.__init__" (defArgs s_NotRising_init) (defBody s_NotRising_init) (defScope s_NotRising_init) .none kV1 dc1 pm1 an1 cd1 ct1), sl1⟩) (c1 : PySem.W.codeIn K cd1 "NotRising.__init__" = true) (k1 : PySem.W.keepIn K (.ref f1) = true)
    {f2 : Addr} {od2 an2 : Option Addr} {sl2 : Array (Option Value)} {oc2 kV2 dc2 pm2 cd2 ct2 : Value}
    (a2 : PySem.W.findIn K (.ref C8) "__init__" = some (some (.ref f2))) (j2 : PySem.W.isFn K (.ref f2) = true)
    (l2 : K.lookup f2 = some ⟨oc2, od2, .func (PySem.W.fnOf "__init__" "NoRow.__init__" (defArgs s_NoRow_init) (defBody s_NoRow_init) (defScope s_NoRow_init) .none kV2 dc2 pm2 an2 cd2 ct2), sl2⟩) (c2 : PySem.W.codeIn K cd2 "NoRow.__init__" = true) (k2 : PySem.W.keepIn K (.ref f2) = true)
    {f3 : Addr} {od3 an3 : Option Addr} {sl3 : Array (Option Value)} {oc3 kV3 dc3 pm3 cd3 ct3 : Value}
    (a3 : PySem.W.findIn K (.ref C9) "__init__" = some (some (.ref f3))) (j3 : PySem.W.isFn K (.ref f3) = true)
    (l3 : K.lookup f3 = some ⟨oc3, od3, .func (PySem.W.fnOf "__init__" "Unfit.__init__" (defArgs s_Unfit_init) (defBody s_Unfit_init) (defScope s_Unfit_init) .none kV3 dc3 pm3 an3 cd3 ct3), sl3⟩) (c3 : PySem.W.codeIn K cd3 "Unfit.__init__" = true) (k3 : PySem.W.keepIn K (.ref f3) = true)
    {f4 : Addr} {od4 an4 : Option Addr} {sl4 : Array (Option Value)} {oc4 kV4 dc4 pm4 cd4 ct4 : Value}
    (a4 : PySem.W.findIn K (.ref C10) "__init__" = some (some (.ref f4))) (j4 : PySem.W.isFn K (.ref f4) = true)
    (l4 : K.lookup f4 = some ⟨oc4, od4, .func (PySem.W.fnOf "__init__" "NoColumn.__init__" (defArgs s_NoColumn_init) (defBody s_NoColumn_init) (defScope s_NoColumn_init) .none kV4 dc4 pm4 an4 cd4 ct4), sl4⟩) (c4 : PySem.W.codeIn K cd4 "NoColumn.__init__" = true) (k4 : PySem.W.keepIn K (.ref f4) = true)
    {f5 : Addr} {od5 an5 : Option Addr} {sl5 : Array (Option Value)} {oc5 kV5 dc5 pm5 cd5 ct5 : Value}
    (a5 : PySem.W.findIn K (.ref C11) "__init__" = some (some (.ref f5))) (j5 : PySem.W.isFn K (.ref f5) = true)
    (l5 : K.lookup f5 = some ⟨oc5, od5, .func (PySem.W.fnOf "__init__" "ColumnThere.__init__" (defArgs s_ColumnThere_init) (defBody s_ColumnThere_init) (defScope s_ColumnThere_init) .none kV5 dc5 pm5 an5 cd5 ct5), sl5⟩) (c5 : PySem.W.codeIn K cd5 "ColumnThere.__init__" = true) (k5 : PySem.W.keepIn K (.ref f5) = true)
    {f6 : Addr} {od6 an6 : Option Addr} {sl6 : Array (Option Value)} {oc6 kV6 dc6 pm6 cd6 ct6 : Value}
    (a6 : PySem.W.findIn K (.ref C12) "__init__" = some (some (.ref f6))) (j6 : PySem.W.isFn K (.ref f6) = true)
    (l6 : K.lookup f6 = some ⟨oc6, od6, .func (PySem.W.fnOf "__init__" "NoClash.__init__" (defArgs s_NoClash_init) (defBody s_NoClash_init) (defScope s_NoClash_init) .none kV6 dc6 pm6 an6 cd6 ct6), sl6⟩) (c6 : PySem.W.codeIn K cd6 "NoClash.__init__" = true) (k6 : PySem.W.keepIn K (.ref f6) = true)
    {f7 : Addr} {od7 an7 : Option Addr} {sl7 : Array (Option Value)} {oc7 kV7 dc7 pm7 cd7 ct7 : Value}
    (a7 : PySem.W.findIn K (.ref C13) "__init__" = some (some (.ref f7))) (j7 : PySem.W.isFn K (.ref f7) = true)
    (l7 : K.lookup f7 = some ⟨oc7, od7, .func (PySem.W.fnOf "__init__" "NoPage.__init__" (defArgs s_NoPage_init) (defBody s_NoPage_init) (defScope s_NoPage_init) .none kV7 dc7 pm7 an7 cd7 ct7), sl7⟩) (c7 : PySem.W.codeIn K cd7 "NoPage.__init__" = true) (k7 : PySem.W.keepIn K (.ref f7) = true)
    {f8 : Addr} {od8 an8 : Option Addr} {sl8 : Array (Option Value)} {oc8 kV8 dc8 pm8 cd8 ct8 : Value}
    (a8 : PySem.W.findIn K (.ref C14) "__init__" = some (some (.ref f8))) (j8 : PySem.W.isFn K (.ref f8) = true)
    (l8 : K.lookup f8 = some ⟨oc8, od8, .func (PySem.W.fnOf "__init__" "NoMake.__init__" (defArgs s_NoMake_init) (defBody s_NoMake_init) (defScope s_NoMake_init) .none kV8 dc8 pm8 an8 cd8 ct8), sl8⟩) (c8 : PySem.W.codeIn K cd8 "NoMake.__init__" = true) (k8 : PySem.W.keepIn K (.ref f8) = true)
    {f9 : Addr} {od9 an9 : Option Addr} {sl9 : Array (Option Value)} {oc9 kV9 dc9 pm9 cd9 ct9 : Value}
    (a9 : PySem.W.findIn K (.ref C15) "__init__" = some (some (.ref f9))) (j9 : PySem.W.isFn K (.ref f9) = true)
    (l9 : K.lookup f9 = some ⟨oc9, od9, .func (PySem.W.fnOf "__init__" "NotBroken.__init__" (defArgs s_NotBroken_init) (defBody s_NotBroken_init) (defScope s_NotBroken_init) .none kV9 dc9 pm9 an9 cd9 ct9), sl9⟩) (c9 : PySem.W.codeIn K cd9 "NotBroken.__init__" = true) (k9 : PySem.W.keepIn K (.ref f9) = true)
    {f10 : Addr} {od10 an10 : Option Addr} {sl10 : Array (Option Value)} {oc10 kV10 dc10 pm10 cd10 ct10 : Value}
    (a10 : PySem.W.findIn K (.ref C16) "__init__" = some (some (.ref f10))) (j10 : PySem.W.isFn K (.ref f10) = true)
    (l10 : K.lookup f10 = some ⟨oc10, od10, .func (PySem.W.fnOf "__init__" "NoName.__init__" (defArgs s_NoName_init) (defBody s_NoName_init) (defScope s_NoName_init) .none kV10 dc10 pm10 an10 cd10 ct10), sl10⟩) (c10 : PySem.W.codeIn K cd10 "NoName.__init__" = true) (k10 : PySem.W.keepIn K (.ref f10) = true)
    {f11 : Addr} {od11 an11 : Option Addr} {sl11 : Array (Option Value)} {oc11 kV11 dc11 pm11 cd11 ct11 : Value}
    (a11 : PySem.W.findIn K (.ref C17) "__init__" = some (some (.ref f11))) (j11 : PySem.W.isFn K (.ref f11) = true)
    (l11 : K.lookup f11 = some ⟨oc11, od11, .func (PySem.W.fnOf "__init__" "InUse.__init__" (defArgs s_InUse_init) (defBody s_InUse_init) (defScope s_InUse_init) .none kV11 dc11 pm11 an11 cd11 ct11), sl11⟩) (c11 : PySem.W.codeIn K cd11 "InUse.__init__" = true) (k11 : PySem.W.keepIn K (.ref f11) = true)
    {f12 : Addr} {od12 an12 : Option Addr} {sl12 : Array (Option Value)} {oc12 kV12 dc12 pm12 cd12 ct12 : Value}
    (a12 : PySem.W.nsIn K mainGlobals "_law_cell_at" = some (some (.ref f12)))
    (l12 : K.lookup f12 = some ⟨oc12, od12, .func (PySem.W.fnOf "_law_cell_at" "_law_cell_at" (defArgs s__law_cell_at) (defBody s__law_cell_at) (defScope s__law_cell_at) .none kV12 dc12 pm12 an12 cd12 ct12), sl12⟩) (c12 : PySem.W.codeIn K cd12 "_law_cell_at" = true) (k12 : PySem.W.keepIn K (.ref f12) = true)
    {f13 : Addr} {od13 an13 : Option Addr} {sl13 : Array (Option Value)} {oc13 kV13 dc13 pm13 cd13 ct13 : Value}
    (a13 : PySem.W.nsIn K mainGlobals "_law_mix" = some (some (.ref f13)))
    (l13 : K.lookup f13 = some ⟨oc13, od13, .func (PySem.W.fnOf "_law_mix" "_law_mix" (defArgs s__law_mix) (defBody s__law_mix) (defScope s__law_mix) .none kV13 dc13 pm13 an13 cd13 ct13), sl13⟩) (c13 : PySem.W.codeIn K cd13 "_law_mix" = true) (k13 : PySem.W.keepIn K (.ref f13) = true)
    {f14 : Addr} {od14 an14 : Option Addr} {sl14 : Array (Option Value)} {oc14 kV14 dc14 pm14 cd14 ct14 : Value}
    (a14 : PySem.W.nsIn K mainGlobals "_law_raise_plain" = some (some (.ref f14)))
    (l14 : K.lookup f14 = some ⟨oc14, od14, .func (PySem.W.fnOf "_law_raise_plain" "_law_raise_plain" (defArgs s__law_raise_plain) (defBody s__law_raise_plain) (defScope s__law_raise_plain) .none kV14 dc14 pm14 an14 cd14 ct14), sl14⟩) (c14 : PySem.W.codeIn K cd14 "_law_raise_plain" = true) (k14 : PySem.W.keepIn K (.ref f14) = true)
    {f15 : Addr} {od15 an15 : Option Addr} {sl15 : Array (Option Value)} {oc15 kV15 dc15 pm15 cd15 ct15 : Value}
    (a15 : PySem.W.nsIn K mainGlobals "_law_classes" = some (some (.ref f15)))
    (l15 : K.lookup f15 = some ⟨oc15, od15, .func (PySem.W.fnOf "_law_classes" "_law_classes" (defArgs s__law_classes) (defBody s__law_classes) (defScope s__law_classes) .none kV15 dc15 pm15 an15 cd15 ct15), sl15⟩) (c15 : PySem.W.codeIn K cd15 "_law_classes" = true) (k15 : PySem.W.keepIn K (.ref f15) = true)
    {f16 : Addr} {od16 an16 : Option Addr} {sl16 : Array (Option Value)} {oc16 kV16 dc16 pm16 cd16 ct16 : Value}
    (a16 : PySem.W.nsIn K mainGlobals "_law_same" = some (some (.ref f16)))
    (l16 : K.lookup f16 = some ⟨oc16, od16, .func (PySem.W.fnOf "_law_same" "_law_same" (defArgs s__law_same) (defBody s__law_same) (defScope s__law_same) .none kV16 dc16 pm16 an16 cd16 ct16), sl16⟩) (c16 : PySem.W.codeIn K cd16 "_law_same" = true) (k16 : PySem.W.keepIn K (.ref f16) = true)
    {f17 : Addr} {od17 an17 : Option Addr} {sl17 : Array (Option Value)} {oc17 kV17 dc17 pm17 cd17 ct17 : Value}
    (a17 : PySem.W.nsIn K mainGlobals "_law_letters" = some (some (.ref f17)))
    (l17 : K.lookup f17 = some ⟨oc17, od17, .func (PySem.W.fnOf "_law_letters" "_law_letters" (defArgs s__law_letters) (defBody s__law_letters) (defScope s__law_letters) .none kV17 dc17 pm17 an17 cd17 ct17), sl17⟩) (c17 : PySem.W.codeIn K cd17 "_law_letters" = true) (k17 : PySem.W.keepIn K (.ref f17) = true)
    {f18 : Addr} {od18 an18 : Option Addr} {sl18 : Array (Option Value)} {oc18 kV18 dc18 pm18 cd18 ct18 : Value}
    (a18 : PySem.W.nsIn K mainGlobals "_law_tells" = some (some (.ref f18)))
    (l18 : K.lookup f18 = some ⟨oc18, od18, .func (PySem.W.fnOf "_law_tells" "_law_tells" (defArgs s__law_tells) (defBody s__law_tells) (defScope s__law_tells) .none kV18 dc18 pm18 an18 cd18 ct18), sl18⟩) (c18 : PySem.W.codeIn K cd18 "_law_tells" = true) (k18 : PySem.W.keepIn K (.ref f18) = true)
    {f19 : Addr} {od19 an19 : Option Addr} {sl19 : Array (Option Value)} {oc19 kV19 dc19 pm19 cd19 ct19 : Value}
    (a19 : PySem.W.nsIn K mainGlobals "_law_key" = some (some (.ref f19)))
    (l19 : K.lookup f19 = some ⟨oc19, od19, .func (PySem.W.fnOf "_law_key" "_law_key" (defArgs s__law_key) (defBody s__law_key) (defScope s__law_key) .none kV19 dc19 pm19 an19 cd19 ct19), sl19⟩) (c19 : PySem.W.codeIn K cd19 "_law_key" = true) (k19 : PySem.W.keepIn K (.ref f19) = true)
    {f20 : Addr} {od20 an20 : Option Addr} {sl20 : Array (Option Value)} {oc20 kV20 dc20 pm20 cd20 ct20 : Value}
    (a20 : PySem.W.nsIn K mainGlobals "_law_raise" = some (some (.ref f20)))
    (l20 : K.lookup f20 = some ⟨oc20, od20, .func (PySem.W.fnOf "_law_raise" "_law_raise" (defArgs s__law_raise) (defBody s__law_raise) (defScope s__law_raise) .none kV20 dc20 pm20 an20 cd20 ct20), sl20⟩) (c20 : PySem.W.codeIn K cd20 "_law_raise" = true) (k20 : PySem.W.keepIn K (.ref f20) = true)
    {f21 : Addr} {od21 an21 : Option Addr} {sl21 : Array (Option Value)} {oc21 kV21 dc21 pm21 cd21 ct21 : Value}
    (a21 : PySem.W.nsIn K mainGlobals "_law_good" = some (some (.ref f21)))
    (l21 : K.lookup f21 = some ⟨oc21, od21, .func (PySem.W.fnOf "_law_good" "_law_good" (defArgs s__law_good) (defBody s__law_good) (defScope s__law_good) .none kV21 dc21 pm21 an21 cd21 ct21), sl21⟩) (c21 : PySem.W.codeIn K cd21 "_law_good" = true) (k21 : PySem.W.keepIn K (.ref f21) = true)
    {f22 : Addr} {od22 an22 : Option Addr} {sl22 : Array (Option Value)} {oc22 kV22 dc22 pm22 cd22 ct22 : Value}
    (a22 : PySem.W.nsIn K mainGlobals "law" = some (some (.ref f22)))
    (l22 : K.lookup f22 = some ⟨oc22, od22, .func (PySem.W.fnOf "law" "law" (defArgs s_law) (defBody s_law) (defScope s_law) .none kV22 dc22 pm22 an22 cd22 ct22), sl22⟩) (c22 : PySem.W.codeIn K cd22 "law" = true) (k22 : PySem.W.keepIn K (.ref f22) = true)
    (z1 : PySem.W.nsIn K mainGlobals "ValueError" = some none)
    (z2 : PySem.W.nsIn K mainGlobals "bool" = some none)
    (z3 : PySem.W.nsIn K mainGlobals "int" = some none)
    (z4 : PySem.W.nsIn K mainGlobals "isinstance" = some none)
    (z5 : PySem.W.nsIn K mainGlobals "len" = some none)
    (z6 : PySem.W.nsIn K mainGlobals "range" = some none)
    (z7 : PySem.W.nsIn K mainGlobals "str" = some none)
    : ∃ fd : FuncData, (∀ (s : Shared) (v : Value), BindsTo s fd ⟨[v], []⟩ [("_law_script", v)]) ∧ ∀ base : Heap, K.In base → base.Ns mainGlobals mg → FnOk l.prog w K mg base CX0 5 fa fd ["_law_script"] (sp_law K) := by
  have e := hfa.symm.trans (PySem.W.mg_of X G a22)
  cases e
  have F1 := fun_mk (st := s_NotRising_init) l1 c1 k1
  have b1 := F1.binds (ps := ["self", "key"]) fun _ _ _ _ _ _ us hl => match us, hl with | [_, _], _ => rfl
  have F2 := fun_mk (st := s_NoRow_init) l2 c2 k2
  have b2 := F2.binds (ps := ["self", "key"]) fun _ _ _ _ _ _ us hl => match us, hl with | [_, _], _ => rfl
  have F3 := fun_mk (st := s_Unfit_init) l3 c3 k3
  have b3 := F3.binds (ps := ["self", "key"]) fun _ _ _ _ _ _ us hl => match us, hl with | [_, _], _ => rfl
  have F4 := fun_mk (st := s_NoColumn_init) l4 c4 k4
  have b4 := F4.binds (ps := ["self", "column"]) fun _ _ _ _ _ _ us hl => match us, hl with | [_, _], _ => rfl
  have F5 := fun_mk (st := s_ColumnThere_init) l5 c5 k5
  have b5 := F5.binds (ps := ["self", "column"]) fun _ _ _ _ _ _ us hl => match us, hl with | [_, _], _ => rfl
  have F6 := fun_mk (st := s_NoClash_init) l6 c6 k6
  have b6 := F6.binds (ps := ["self", "key", "column"]) fun _ _ _ _ _ _ us hl => match us, hl with | [_, _, _], _ => rfl
  have F7 := fun_mk (st := s_NoPage_init) l7 c7 k7
  have b7 := F7.binds (ps := ["self", "number"]) fun _ _ _ _ _ _ us hl => match us, hl with | [_, _], _ => rfl
  have F8 := fun_mk (st := s_NoMake_init) l8 c8 k8
  have b8 := F8.binds (ps := ["self", "number"]) fun _ _ _ _ _ _ us hl => match us, hl with | [_, _], _ => rfl
  have F9 := fun_mk (st := s_NotBroken_init) l9 c9 k9
  have b9 := F9.binds (ps := ["self", "number"]) fun _ _ _ _ _ _ us hl => match us, hl with | [_, _], _ => rfl
  have F10 := fun_mk (st := s_NoName_init) l10 c10 k10
  have b10 := F10.binds (ps := ["self", "word"]) fun _ _ _ _ _ _ us hl => match us, hl with | [_, _], _ => rfl
  have F11 := fun_mk (st := s_InUse_init) l11 c11 k11
  have b11 := F11.binds (ps := ["self", "word"]) fun _ _ _ _ _ _ us hl => match us, hl with | [_, _], _ => rfl
  have F12 := fun_mk (st := s__law_cell_at) l12 c12 k12
  have b12 := F12.binds (ps := ["_law_script", "_law_k"]) fun _ _ _ _ _ _ us hl => match us, hl with | [_, _], _ => rfl
  have F13 := fun_mk (st := s__law_mix) l13 c13 k13
  have b13 := F13.binds (ps := ["_law_cell", "_law_k"]) fun _ _ _ _ _ _ us hl => match us, hl with | [_, _], _ => rfl
  have F14 := fun_mk (st := s__law_raise_plain) l14 c14 k14
  have b14 := F14.binds (ps := ["_law_k"]) fun _ _ _ _ _ _ us hl => match us, hl with | [_], _ => rfl
  have F15 := fun_mk (st := s__law_classes) l15 c15 k15
  have b15 := F15.binds (ps := ["_law_e"]) fun _ _ _ _ _ _ us hl => match us, hl with | [_], _ => rfl
  have F16 := fun_mk (st := s__law_same) l16 c16 k16
  have b16 := F16.binds (ps := ["_law_found", "_law_due"]) fun _ _ _ _ _ _ us hl => match us, hl with | [_, _], _ => rfl
  have F17 := fun_mk (st := s__law_letters) l17 c17 k17
  have b17 := F17.binds (ps := ["_law_cell"]) fun _ _ _ _ _ _ us hl => match us, hl with | [_], _ => rfl
  have F18 := fun_mk (st := s__law_tells) l18 c18 k18
  have b18 := F18.binds (ps := ["_law_e", "_law_key_here", "_law_column", "_law_number", "_law_word"]) fun _ _ _ _ _ _ us hl => match us, hl with | [_, _, _, _, _], _ => rfl
  have F19 := fun_mk (st := s__law_key) l19 c19 k19
  have b19 := F19.binds (ps := ["_law_cell"]) fun _ _ _ _ _ _ us hl => match us, hl with | [_], _ => rfl
  have F20 := fun_mk (st := s__law_raise) l20 c20 k20
  have b20 := F20.binds (ps := ["_law_k", "_law_key_here", "_law_column", "_law_number", "_law_word"]) fun _ _ _ _ _ _ us hl => match us, hl with | [_, _, _, _, _], _ => rfl
  have F21 := fun_mk (st := s__law_good) l21 c21 k21
  have b21 := F21.binds (ps := ["_law_k", "_law_key_here", "_law_column", "_law_number", "_law_word"]) fun _ _ _ _ _ _ us hl => match us, hl with | [_, _, _, _, _], _ => rfl
  have F22 := fun_mk (st := s_law) l22 c22 k22
  have b22 := F22.binds (ps := ["_law_script"]) fun _ _ _ _ _ _ us hl => match us, hl with | [_], _ => rfl
  have Z : Zs mg := ⟨PySem.W.mg_none_of X G z1, PySem.W.mg_none_of X G z2, PySem.W.mg_none_of X G z3, PySem.W.mg_none_of X G z4, PySem.W.mg_none_of X G z5, PySem.W.mg_none_of X G z6, PySem.W.mg_none_of X G z7⟩
  have X0 : PySem.W.XCl K C0 CT := PySem.W.XCl.of ⟨v0nm, v0q, v0N, v0bs, v0sn, v0sub, v0ab, v0col, v0dd, v0k0, v0k1, v0k2, v0k3, v0k5, q0, r0⟩ t9 u0 ta tb
  have X1 : PySem.W.XCl K C1 CT := PySem.W.XCl.of ⟨v1nm, v1q, v1N, v1bs, v1sn, v1sub, v1ab, v1col, v1dd, v1k0, v1k1, v1k2, v1k3, v1k5, q1, r1⟩ t9 u1 ta tb
  have X2 : PySem.W.XCl K C2 CT := PySem.W.XCl.of ⟨v2nm, v2q, v2N, v2bs, v2sn, v2sub, v2ab, v2col, v2dd, v2k0, v2k1, v2k2, v2k3, v2k5, q2, r2⟩ t9 u2 ta tb
  have X3 : PySem.W.XCl K C3 CT := PySem.W.XCl.of ⟨v3nm, v3q, v3N, v3bs, v3sn, v3sub, v3ab, v3col, v3dd, v3k0, v3k1, v3k2, v3k3, v3k5, q3, r3⟩ t9 u3 ta tb
  have X4 : PySem.W.XCl K C4 CT := PySem.W.XCl.of ⟨v4nm, v4q, v4N, v4bs, v4sn, v4sub, v4ab, v4col, v4dd, v4k0, v4k1, v4k2, v4k3, v4k5, q4, r4⟩ t9 u4 ta tb
  have X5 : PySem.W.XCl K C5 CT := PySem.W.XCl.of ⟨v5nm, v5q, v5N, v5bs, v5sn, v5sub, v5ab, v5col, v5dd, v5k0, v5k1, v5k2, v5k3, v5k5, q5, r5⟩ t9 u5 ta tb
  have X6 : PySem.W.XCl K C6 CT := PySem.W.XCl.of ⟨v6nm, v6q, v6N, v6bs, v6sn, v6sub, v6ab, v6col, v6dd, v6k0, v6k1, v6k2, v6k3, v6k5, q6, r6⟩ t9 u6 ta tb
  have X7 : PySem.W.XCl K C7 CT := PySem.W.XCl.of ⟨v7nm, v7q, v7N, v7bs, v7sn, v7sub, v7ab, v7col, v7dd, v7k0, v7k1, v7k2, v7k3, v7k5, q7, r7⟩ t9 u7 ta tb
  have X8 : PySem.W.XCl K C8 CT := PySem.W.XCl.of ⟨v8nm, v8q, v8N, v8bs, v8sn, v8sub, v8ab, v8col, v8dd, v8k0, v8k1, v8k2, v8k3, v8k5, q8, r8⟩ t9 u8 ta tb
  have X9 : PySem.W.XCl K C9 CT := PySem.W.XCl.of ⟨v9nm, v9q, v9N, v9bs, v9sn, v9sub, v9ab, v9col, v9dd, v9k0, v9k1, v9k2, v9k3, v9k5, q9, r9⟩ t9 u9 ta tb
  have X10 : PySem.W.XCl K C10 CT := PySem.W.XCl.of ⟨v10nm, v10q, v10N, v10bs, v10sn, v10sub, v10ab, v10col, v10dd, v10k0, v10k1, v10k2, v10k3, v10k5, q10, r10⟩ t9 u10 ta tb
  have X11 : PySem.W.XCl K C11 CT := PySem.W.XCl.of ⟨v11nm, v11q, v11N, v11bs, v11sn, v11sub, v11ab, v11col, v11dd, v11k0, v11k1, v11k2, v11k3, v11k5, q11, r11⟩ t9 u11 ta tb
  have X12 : PySem.W.XCl K C12 CT := PySem.W.XCl.of ⟨v12nm, v12q, v12N, v12bs, v12sn, v12sub, v12ab, v12col, v12dd, v12k0, v12k1, v12k2, v12k3, v12k5, q12, r12⟩ t9 u12 ta tb
  have X13 : PySem.W.XCl K C13 CT := PySem.W.XCl.of ⟨v13nm, v13q, v13N, v13bs, v13sn, v13sub, v13ab, v13col, v13dd, v13k0, v13k1, v13k2, v13k3, v13k5, q13, r13⟩ t9 u13 ta tb
  have X14 : PySem.W.XCl K C14 CT := PySem.W.XCl.of ⟨v14nm, v14q, v14N, v14bs, v14sn, v14sub, v14ab, v14col, v14dd, v14k0, v14k1, v14k2, v14k3, v14k5, q14, r14⟩ t9 u14 ta tb
  have X15 : PySem.W.XCl K C15 CT := PySem.W.XCl.of ⟨v15nm, v15q, v15N, v15bs, v15sn, v15sub, v15ab, v15col, v15dd, v15k0, v15k1, v15k2, v15k3, v15k5, q15, r15⟩ t9 u15 ta tb
  have X16 : PySem.W.XCl K C16 CT := PySem.W.XCl.of ⟨v16nm, v16q, v16N, v16bs, v16sn, v16sub, v16ab, v16col, v16dd, v16k0, v16k1, v16k2, v16k3, v16k5, q16, r16⟩ t9 u16 ta tb
  have X17 : PySem.W.XCl K C17 CT := PySem.W.XCl.of ⟨v17nm, v17q, v17N, v17bs, v17sn, v17sub, v17ab, v17col, v17dd, v17k0, v17k1, v17k2, v17k3, v17k5, q17, r17⟩ t9 u17 ta tb
  have T : Tx K mg CT (fun i => [C0, C1, C2, C3, C4, C5, C6, C7, C8, C9, C10, C11, C12, C13, C14, C15, C16, C17].getD i 0) := ⟨⟨PySem.W.mg_of X G t1, ⟨⟨ynm, yq, yN, ybs, thd, ysn, ysub, yab, ycol, ydd, yk0, yk1, yk2, yk3, yk5, t2, t3, t4⟩, t5⟩, t6, t7, t8⟩,
    PySem.W.mg_of X G p0,
    ⟨⟨v0nm, v0q, v0N, v0bs, true, v0sn, v0sub, v0ab, v0col, v0dd, v0k0, v0k1, v0k2, v0k3, v0k5, q0, r0, i0⟩, t9⟩,
    PySem.W.mg_of X G p1,
    ⟨⟨v1nm, v1q, v1N, v1bs, true, v1sn, v1sub, v1ab, v1col, v1dd, v1k0, v1k1, v1k2, v1k3, v1k5, q1, r1, i1⟩, t9⟩,
    PySem.W.mg_of X G p2,
    ⟨⟨v2nm, v2q, v2N, v2bs, true, v2sn, v2sub, v2ab, v2col, v2dd, v2k0, v2k1, v2k2, v2k3, v2k5, q2, r2, i2⟩, t9⟩,
    PySem.W.mg_of X G p3,
    ⟨⟨v3nm, v3q, v3N, v3bs, true, v3sn, v3sub, v3ab, v3col, v3dd, v3k0, v3k1, v3k2, v3k3, v3k5, q3, r3, i3⟩, t9⟩,
    PySem.W.mg_of X G p4,
    ⟨⟨v4nm, v4q, v4N, v4bs, true, v4sn, v4sub, v4ab, v4col, v4dd, v4k0, v4k1, v4k2, v4k3, v4k5, q4, r4, i4⟩, t9⟩,
    PySem.W.mg_of X G p5,
    ⟨⟨v5nm, v5q, v5N, v5bs, true, v5sn, v5sub, v5ab, v5col, v5dd, v5k0, v5k1, v5k2, v5k3, v5k5, q5, r5, i5⟩, t9⟩,
    PySem.W.mg_of X G p6,
    ⟨⟨v6nm, v6q, v6N, v6bs, true, v6sn, v6sub, v6ab, v6col, v6dd, v6k0, v6k1, v6k2, v6k3, v6k5, q6, r6, i6⟩, t9⟩,
    PySem.W.mg_of X G p7,
    PySem.W.mg_of X G p8,
    PySem.W.mg_of X G p9,
    PySem.W.mg_of X G p10,
    PySem.W.mg_of X G p11,
    PySem.W.mg_of X G p12,
    PySem.W.mg_of X G p13,
    PySem.W.mg_of X G p14,
    PySem.W.mg_of X G p15,
    PySem.W.mg_of X G p16,
    PySem.W.mg_of X G p17,
    fun i hi => match i, hi with | 0, _ => X0 | 1, _ => X1 | 2, _ => X2 | 3, _ => X3 | 4, _ => X4 | 5, _ => X5 | 6, _ => X6 | 7, _ => X7 | 8, _ => X8 | 9, _ => X9 | 10, _ => X10 | 11, _ => X11 | 12, _ => X12 | 13, _ => X13 | 14, _ => X14 | 15, _ => X15 | 16, _ => X16 | 17, _ => X17 | m + 18, h => absurd h (by omega),
    fun i hi => match i, hi with | 0, _ => fun f hf => PySem.W.xFacts_no u0 hf | 1, _ => fun f hf => PySem.W.xFacts_no u1 hf | 2, _ => fun f hf => PySem.W.xFacts_no u2 hf | 3, _ => fun f hf => PySem.W.xFacts_no u3 hf | 4, _ => fun f hf => PySem.W.xFacts_no u4 hf | 5, _ => fun f hf => PySem.W.xFacts_no u5 hf | 6, _ => fun f hf => PySem.W.xFacts_no u6 hf | 7, _ => fun f hf => PySem.W.xFacts_no u7 hf | 8, _ => fun f hf => PySem.W.xFacts_no u8 hf | 9, _ => fun f hf => PySem.W.xFacts_no u9 hf | 10, _ => fun f hf => PySem.W.xFacts_no u10 hf | 11, _ => fun f hf => PySem.W.xFacts_no u11 hf | 12, _ => fun f hf => PySem.W.xFacts_no u12 hf | 13, _ => fun f hf => PySem.W.xFacts_no u13 hf | 14, _ => fun f hf => PySem.W.xFacts_no u14 hf | 15, _ => fun f hf => PySem.W.xFacts_no u15 hf | 16, _ => fun f hf => PySem.W.xFacts_no u16 hf | 17, _ => fun f hf => PySem.W.xFacts_no u17 hf | m + 18, h => absurd h (by omega),
    PySem.W.xtab_of tt,
    PySem.W.xtv_of tu⟩
  refine ⟨PySem.W.fnOf "law" "law" (defArgs s_law) (defBody s_law) (defScope s_law) .none kV22 dc22 pm22 an22 cd22 ct22, fun s v => .of_eq rfl, fun base _ _ => ?_⟩
  have K_NotRising : MkX l.prog w K mg base 1 "NotRising" C7 CT ["key"] := ⟨_, _, _, ok_NotRising_init Z T F1, b1, X7, a1, j1, o7, PySem.W.mg_of X G p7⟩
  have K_NoRow : MkX l.prog w K mg base 1 "NoRow" C8 CT ["key"] := ⟨_, _, _, ok_NoRow_init Z T F2, b2, X8, a2, j2, o8, PySem.W.mg_of X G p8⟩
  have K_Unfit : MkX l.prog w K mg base 1 "Unfit" C9 CT ["key"] := ⟨_, _, _, ok_Unfit_init Z T F3, b3, X9, a3, j3, o9, PySem.W.mg_of X G p9⟩
  have K_NoColumn : MkX l.prog w K mg base 1 "NoColumn" C10 CT ["column"] := ⟨_, _, _, ok_NoColumn_init Z T F4, b4, X10, a4, j4, o10, PySem.W.mg_of X G p10⟩
  have K_ColumnThere : MkX l.prog w K mg base 1 "ColumnThere" C11 CT ["column"] := ⟨_, _, _, ok_ColumnThere_init Z T F5, b5, X11, a5, j5, o11, PySem.W.mg_of X G p11⟩
  have K_NoClash : MkX l.prog w K mg base 1 "NoClash" C12 CT ["key", "column"] := ⟨_, _, _, ok_NoClash_init Z T F6, b6, X12, a6, j6, o12, PySem.W.mg_of X G p12⟩
  have K_NoPage : MkX l.prog w K mg base 1 "NoPage" C13 CT ["number"] := ⟨_, _, _, ok_NoPage_init Z T F7, b7, X13, a7, j7, o13, PySem.W.mg_of X G p13⟩
  have K_NoMake : MkX l.prog w K mg base 1 "NoMake" C14 CT ["number"] := ⟨_, _, _, ok_NoMake_init Z T F8, b8, X14, a8, j8, o14, PySem.W.mg_of X G p14⟩
  have K_NotBroken : MkX l.prog w K mg base 1 "NotBroken" C15 CT ["number"] := ⟨_, _, _, ok_NotBroken_init Z T F9, b9, X15, a9, j9, o15, PySem.W.mg_of X G p15⟩
  have K_NoName : MkX l.prog w K mg base 1 "NoName" C16 CT ["word"] := ⟨_, _, _, ok_NoName_init Z T F10, b10, X16, a10, j10, o16, PySem.W.mg_of X G p16⟩
  have K_InUse : MkX l.prog w K mg base 1 "InUse" C17 CT ["word"] := ⟨_, _, _, ok_InUse_init Z T F11, b11, X17, a11, j11, o17, PySem.W.mg_of X G p17⟩
  have C__law_cell_at : Cal l.prog w K mg base 1 "_law_cell_at" ["_law_script", "_law_k"] (sp__law_cell_at K) := ⟨_, _, ok__law_cell_at Z T  F12, b12, k12, PySem.W.mg_of X G a12⟩
  have C__law_mix : Cal l.prog w K mg base 1 "_law_mix" ["_law_cell", "_law_k"] (sp__law_mix K) := ⟨_, _, ok__law_mix Z T  F13, b13, k13, PySem.W.mg_of X G a13⟩
  have C__law_raise_plain : Cal1 l.prog w K mg base 1 "_law_raise_plain" ["_law_k"] (sp__law_raise_plain K (fun i => [C0, C1, C2, C3, C4, C5, C6, C7, C8, C9, C10, C11, C12, C13, C14, C15, C16, C17].getD i 0)) := ⟨_, _, ok__law_raise_plain Z T  F14, b14, k14, PySem.W.mg_of X G a14⟩
  have C__law_classes : Cal l.prog w K mg base 1 "_law_classes" ["_law_e"] (sp__law_classes K (fun i => [C0, C1, C2, C3, C4, C5, C6, C7, C8, C9, C10, C11, C12, C13, C14, C15, C16, C17].getD i 0)) := ⟨_, _, ok__law_classes Z T  F15, b15, k15, PySem.W.mg_of X G a15⟩
  have C__law_same : Cal l.prog w K mg base 1 "_law_same" ["_law_found", "_law_due"] (sp__law_same K) := ⟨_, _, ok__law_same Z T  F16, b16, k16, PySem.W.mg_of X G a16⟩
  have C__law_letters : Cal l.prog w K mg base 2 "_law_letters" ["_law_cell"] (sp__law_letters K) := ⟨_, _, ok__law_letters Z T C__law_mix F17, b17, k17, PySem.W.mg_of X G a17⟩
  have C__law_tells : Cal l.prog w K mg base 2 "_law_tells" ["_law_e", "_law_key_here", "_law_column", "_law_number", "_law_word"] (sp__law_tells K (fun i => [C0, C1, C2, C3, C4, C5, C6, C7, C8, C9, C10, C11, C12, C13, C14, C15, C16, C17].getD i 0)) := ⟨_, _, ok__law_tells Z T C__law_same F18, b18, k18, PySem.W.mg_of X G a18⟩
  have C__law_key : Cal l.prog w K mg base 3 "_law_key" ["_law_cell"] (sp__law_key K) := ⟨_, _, ok__law_key Z T C__law_letters F19, b19, k19, PySem.W.mg_of X G a19⟩
  have C__law_raise : Cal1 l.prog w K mg base 3 "_law_raise" ["_law_k", "_law_key_here", "_law_column", "_law_number", "_law_word"] (sp__law_raise K (fun i => [C0, C1, C2, C3, C4, C5, C6, C7, C8, C9, C10, C11, C12, C13, C14, C15, C16, C17].getD i 0)) := ⟨_, _, ok__law_raise Z T C__law_raise_plain K_InUse K_NotRising K_NoRow K_Unfit K_NoColumn K_ColumnThere K_NoClash K_NoPage K_NoMake K_NotBroken K_NoName F20, b20, k20, PySem.W.mg_of X G a20⟩
  have C__law_good : Cal l.prog w K mg base 4 "_law_good" ["_law_k", "_law_key_here", "_law_column", "_law_number", "_law_word"] (sp__law_good K) := ⟨_, _, ok__law_good Z T C__law_tells C__law_raise C__law_classes F21, b21, k21, PySem.W.mg_of X G a21⟩
  exact ok_law Z T C__law_key C__law_letters C__law_cell_at C__law_good F22
end My
def PySem.W.Fast.tw10863871347912277865 : Nat := 0
def PySem.W.Fast.tw11078752934524418459 : Nat := 0
def PySem.W.Fast.tw6423239616689917920 : Nat := 0
def PySem.W.Fast.tw1953606408339385619 : Nat := 0
def PySem.W.Fast.tw17202817227648013212 : Nat := 0
def PySem.W.Fast.tw10754636319100777747 : Nat := 0
def PySem.W.Fast.tw7266765414903302157 : Nat := 0
def PySem.W.Fast.tw14685384272290613791 : Nat := 0
def PySem.W.Fast.tw4215812950390589852 : Nat := 0
def PySem.W.Fast.tw7794905062781744173 : Nat := 0
def PySem.W.Fast.tw924187282497340634 : Nat := 0
def PySem.W.Fast.tw9898761433648839711 : Nat := 0
def PySem.W.Fast.tw3306270372784763969 : Nat := 0
def PySem.W.Fast.tw18270529289454997172 : Nat := 0
def PySem.W.Fast.tw10719027260324791470 : Nat := 0
def PySem.W.Fast.tw5236261256098097343 : Nat := 0
def PySem.W.Fast.tw1780855799868535769 : Nat := 0
def PySem.W.Fast.tw3646215462818259951 : Nat := 0
def PySem.W.Fast.tw15958632288477361377 : Nat := 0
def PySem.W.Fast.tw1522315528178166468 : Nat := 0
def PySem.W.Fast.tw10583776288400475936 : Nat := 0
def PySem.W.Fast.tw12757668154621536582 : Nat := 0
def PySem.W.Fast.tw16007060292226283054 : Nat := 0
def PySem.W.Fast.tw8999302880628209387 : Nat := 0
def PySem.W.Fast.tw8280069606948030475 : Nat := 0
def PySem.W.Fast.tw7861857783808588861 : Nat := 0
def PySem.W.Fast.tw18370994815956109870 : Nat := 0
def PySem.W.Fast.tw12770536766076078423 : Nat := 0
def PySem.W.Fast.tw8936520543681897202 : Nat := 0
def PySem.W.Fast.tw717021435335362909 : Nat := 0
def PySem.W.Fast.tw2837155311364434565 : Nat := 0
def PySem.W.Fast.tw10072602627130826061 : Nat := 0
def PySem.W.Fast.tw1462374002570387482 : Nat := 0
def PySem.W.Fast.tw13161766515662704638 : Nat := 0
def PySem.W.Fast.tw6101518850295863997 : Nat := 0
def PySem.W.Fast.tw7569620449966325476 : Nat := 0
def PySem.W.Fast.tw12467060514521883620 : Nat := 0
def PySem.W.Fast.tw1545527188918638535 : Nat := 0
def PySem.W.Fast.tw32993910049017857 : Nat := 0
def PySem.W.Fast.tw2605489231874891781 : Nat := 0
def PySem.W.Fast.tw8731789399132536481 : Nat := 0
def PySem.W.Fast.tw13733223152088827503 : Nat := 0
open PySem PySem.W PyProof.Rows
set_option maxRecDepth 100000 in
set_option maxHeartbeats 0 in
theorem PySem.Challenge.cw_twigtable_k08_refusals_holds : PySem.Challenge.rw_twigtable_k08_refusals.Holds := by
  w_on; o_law; k_head; (case hw => w_witness2)
  k_fill
  refine L2.walk_ofB (l := PySem.Challenge.rw_twigtable_k08_refusals) (n := 63) (k := 5) (x := "_law_script") (CX := fun _ => L2.CX0) (sp := My.sp_law) rfl (by decide) rfl ⟨rfl, by decide, by decide⟩ (fun w h Y => PySem.W.kIn_of Y) ?F ?S ?C
  case F =>
    intro w mg fa h KX G hmg
    refine' My.all_mk KX G hmg ?t1 ?t2 ?t3 ?t4 ?t5 ?t6 ?t7 ?t8 ?t9 ?ta ?tb ?p0 ?q0 ?r0 ?u0 ?i0 ?p1 ?q1 ?r1 ?u1 ?i1 ?p2 ?q2 ?r2 ?u2 ?i2 ?p3 ?q3 ?r3 ?u3 ?i3 ?p4 ?q4 ?r4 ?u4 ?i4 ?p5 ?q5 ?r5 ?u5 ?i5 ?p6 ?q6 ?r6 ?u6 ?i6 ?p7 ?q7 ?r7 ?u7 ?o7 ?p8 ?q8 ?r8 ?u8 ?o8 ?p9 ?q9 ?r9 ?u9 ?o9 ?p10 ?q10 ?r10 ?u10 ?o10 ?p11 ?q11 ?r11 ?u11 ?o11 ?p12 ?q12 ?r12 ?u12 ?o12 ?p13 ?q13 ?r13 ?u13 ?o13 ?p14 ?q14 ?r14 ?u14 ?o14 ?p15 ?q15 ?r15 ?u15 ?o15 ?p16 ?q16 ?r16 ?u16 ?o16 ?p17 ?q17 ?r17 ?u17 ?o17 ?tt ?tu ?a1 ?j1 ?l1 ?c1 ?k1 ?a2 ?j2 ?l2 ?c2 ?k2 ?a3 ?j3 ?l3 ?c3 ?k3 ?a4 ?j4 ?l4 ?c4 ?k4 ?a5 ?j5 ?l5 ?c5 ?k5 ?a6 ?j6 ?l6 ?c6 ?k6 ?a7 ?j7 ?l7 ?c7 ?k7 ?a8 ?j8 ?l8 ?c8 ?k8 ?a9 ?j9 ?l9 ?c9 ?k9 ?a10 ?j10 ?l10 ?c10 ?k10 ?a11 ?j11 ?l11 ?c11 ?k11 ?a12 ?l12 ?c12 ?k12 ?a13 ?l13 ?c13 ?k13 ?a14 ?l14 ?c14 ?k14 ?a15 ?l15 ?c15 ?k15 ?a16 ?l16 ?c16 ?k16 ?a17 ?l17 ?c17 ?k17 ?a18 ?l18 ?c18 ?k18 ?a19 ?l19 ?c19 ?k19 ?a20 ?l20 ?c20 ?k20 ?a21 ?l21 ?c21 ?k21 ?a22 ?l22 ?c22 ?k22 ?z1 ?z2 ?z3 ?z4 ?z5 ?z6 ?z7
    (case t1 => k_is)
    (case t2 => k_is)
    (case t3 => (first | rfl | kernel_rfl | decide +kernel))
    (case t4 => (first | rfl | kernel_rfl | decide +kernel))
    (case t5 => (first | rfl | kernel_rfl | decide +kernel))
    (case t6 => (first | rfl | kernel_rfl | decide +kernel))
    (case t7 => (first | rfl | kernel_rfl | decide +kernel))
    (case t8 => (first | rfl | kernel_rfl | decide +kernel))
    (case t9 => (first | rfl | kernel_rfl | decide +kernel))
    (case ta => (first | rfl | kernel_rfl | decide +kernel))
    (case tb => (first | rfl | kernel_rfl | decide +kernel))
    (case p0 => k_is)
    (case q0 => k_is)
    (case r0 => (first | rfl | kernel_rfl | decide +kernel))
    (case u0 => (first | rfl | kernel_rfl | decide +kernel))
    (case i0 => k_is)
    (case p1 => k_is)
    (case q1 => k_is)
    (case r1 => (first | rfl | kernel_rfl | decide +kernel))
    (case u1 => (first | rfl | kernel_rfl | decide +kernel))
    (case i1 => k_is)
    (case p2 => k_is)
    (case q2 => k_is)
    (case r2 => (first | rfl | kernel_rfl | decide +kernel))
    (case u2 => (first | rfl | kernel_rfl | decide +kernel))
    (case i2 => k_is)
    (case p3 => k_is)
    (case q3 => k_is)
    (case r3 => (first | rfl | kernel_rfl | decide +kernel))
    (case u3 => (first | rfl | kernel_rfl | decide +kernel))
    (case i3 => k_is)
    (case p4 => k_is)
    (case q4 => k_is)
    (case r4 => (first | rfl | kernel_rfl | decide +kernel))
    (case u4 => (first | rfl | kernel_rfl | decide +kernel))
    (case i4 => k_is)
    (case p5 => k_is)
    (case q5 => k_is)
    (case r5 => (first | rfl | kernel_rfl | decide +kernel))
    (case u5 => (first | rfl | kernel_rfl | decide +kernel))
    (case i5 => k_is)
    (case p6 => k_is)
    (case q6 => k_is)
    (case r6 => (first | rfl | kernel_rfl | decide +kernel))
    (case u6 => (first | rfl | kernel_rfl | decide +kernel))
    (case i6 => k_is)
    (case p7 => k_is)
    (case q7 => k_is)
    (case r7 => (first | rfl | kernel_rfl | decide +kernel))
    (case u7 => (first | rfl | kernel_rfl | decide +kernel))
    (case o7 => k_is)
    (case p8 => k_is)
    (case q8 => k_is)
    (case r8 => (first | rfl | kernel_rfl | decide +kernel))
    (case u8 => (first | rfl | kernel_rfl | decide +kernel))
    (case o8 => k_is)
    (case p9 => k_is)
    (case q9 => k_is)
    (case r9 => (first | rfl | kernel_rfl | decide +kernel))
    (case u9 => (first | rfl | kernel_rfl | decide +kernel))
    (case o9 => k_is)
    (case p10 => k_is)
    (case q10 => k_is)
    (case r10 => (first | rfl | kernel_rfl | decide +kernel))
    (case u10 => (first | rfl | kernel_rfl | decide +kernel))
    (case o10 => k_is)
    (case p11 => k_is)
    (case q11 => k_is)
    (case r11 => (first | rfl | kernel_rfl | decide +kernel))
    (case u11 => (first | rfl | kernel_rfl | decide +kernel))
    (case o11 => k_is)
    (case p12 => k_is)
    (case q12 => k_is)
    (case r12 => (first | rfl | kernel_rfl | decide +kernel))
    (case u12 => (first | rfl | kernel_rfl | decide +kernel))
    (case o12 => k_is)
    (case p13 => k_is)
    (case q13 => k_is)
    (case r13 => (first | rfl | kernel_rfl | decide +kernel))
    (case u13 => (first | rfl | kernel_rfl | decide +kernel))
    (case o13 => k_is)
    (case p14 => k_is)
    (case q14 => k_is)
    (case r14 => (first | rfl | kernel_rfl | decide +kernel))
    (case u14 => (first | rfl | kernel_rfl | decide +kernel))
    (case o14 => k_is)
    (case p15 => k_is)
    (case q15 => k_is)
    (case r15 => (first | rfl | kernel_rfl | decide +kernel))
    (case u15 => (first | rfl | kernel_rfl | decide +kernel))
    (case o15 => k_is)
    (case p16 => k_is)
    (case q16 => k_is)
    (case r16 => (first | rfl | kernel_rfl | decide +kernel))
    (case u16 => (first | rfl | kernel_rfl | decide +kernel))
    (case o16 => k_is)
    (case p17 => k_is)
    (case q17 => k_is)
    (case r17 => (first | rfl | kernel_rfl | decide +kernel))
    (case u17 => (first | rfl | kernel_rfl | decide +kernel))
    (case o17 => k_is)
    (case tt => (first | rfl | kernel_rfl | decide +kernel))
    (case tu => (first | rfl | kernel_rfl | decide +kernel))
    (case a1 => k_is)
    (case j1 => k_is)
    (case l1 => k_is)
    (case c1 => k_is)
    (case k1 => k_is)
    (case a2 => k_is)
    (case j2 => k_is)
    (case l2 => k_is)
    (case c2 => k_is)
    (case k2 => k_is)
    (case a3 => k_is)
    (case j3 => k_is)
    (case l3 => k_is)
    (case c3 => k_is)
    (case k3 => k_is)
    (case a4 => k_is)
    (case j4 => k_is)
    (case l4 => k_is)
    (case c4 => k_is)
    (case k4 => k_is)
    (case a5 => k_is)
    (case j5 => k_is)
    (case l5 => k_is)
    (case c5 => k_is)
    (case k5 => k_is)
    (case a6 => k_is)
    (case j6 => k_is)
    (case l6 => k_is)
    (case c6 => k_is)
    (case k6 => k_is)
    (case a7 => k_is)
    (case j7 => k_is)
    (case l7 => k_is)
    (case c7 => k_is)
    (case k7 => k_is)
    (case a8 => k_is)
    (case j8 => k_is)
    (case l8 => k_is)
    (case c8 => k_is)
    (case k8 => k_is)
    (case a9 => k_is)
    (case j9 => k_is)
    (case l9 => k_is)
    (case c9 => k_is)
    (case k9 => k_is)
    (case a10 => k_is)
    (case j10 => k_is)
    (case l10 => k_is)
    (case c10 => k_is)
    (case k10 => k_is)
    (case a11 => k_is)
    (case j11 => k_is)
    (case l11 => k_is)
    (case c11 => k_is)
    (case k11 => k_is)
    (case a12 => k_is)
    (case l12 => k_is)
    (case c12 => k_is)
    (case k12 => k_is)
    (case a13 => k_is)
    (case l13 => k_is)
    (case c13 => k_is)
    (case k13 => k_is)
    (case a14 => k_is)
    (case l14 => k_is)
    (case c14 => k_is)
    (case k14 => k_is)
    (case a15 => k_is)
    (case l15 => k_is)
    (case c15 => k_is)
    (case k15 => k_is)
    (case a16 => k_is)
    (case l16 => k_is)
    (case c16 => k_is)
    (case k16 => k_is)
    (case a17 => k_is)
    (case l17 => k_is)
    (case c17 => k_is)
    (case k17 => k_is)
    (case a18 => k_is)
    (case l18 => k_is)
    (case c18 => k_is)
    (case k18 => k_is)
    (case a19 => k_is)
    (case l19 => k_is)
    (case c19 => k_is)
    (case k19 => k_is)
    (case a20 => k_is)
    (case l20 => k_is)
    (case c20 => k_is)
    (case k20 => k_is)
    (case a21 => k_is)
    (case l21 => k_is)
    (case c21 => k_is)
    (case k21 => k_is)
    (case a22 => k_is)
    (case l22 => k_is)
    (case c22 => k_is)
    (case k22 => k_is)
    (case z1 => k_is)
    (case z2 => k_is)
    (case z3 => k_is)
    (case z4 => k_is)
    (case z5 => k_is)
    (case z6 => k_is)
    (case z7 => k_is)
  case S => exact fun w H a ns hl hb hO hS => My.law_sp hl hb hS
  case C => exact fun _ _ _ _ _ z => z


end
