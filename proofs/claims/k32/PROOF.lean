import PyProof.Rows.All
import Wide.All
import OpenK.AllK
import Wide.FinOn
import Lean
import PyProof.EqAt
import PyProof.EqKinds
import PyProof.TupleCall
import PyProof.NeKinds
import PyProof.StrOps2
import PySem.Challenge.RW_twigtable_k32_cells_told
set_option Elab.async false
set_option linter.all false
set_option maxRecDepth 100000
set_option maxHeartbeats 4000000
section
namespace L2
open PySem PySem.Spec PyProof.Rows
abbrev Key := Sum Int Str
def keyIs : Key -> Value -> Bool
  | .inl k, v => Value.isInt k v
  | .inr x, v => Value.isStrOf x v
def keyH (w : World) : Key -> Int
  | .inl k => hashInt k
  | .inr x => hashStr w x
theorem keyIs_shape : ∀ {k : Key} {v : Value}, keyIs k v = true -> (∃ i t, k = Sum.inl i /\ v = Value.int i t) \/ (∃ x t, k = Sum.inr x /\ v = Value.str x t)
  | .inl i, v, h => by
    obtain ⟨t, e⟩ := Value.isInt_shape (k := i) (v := v) h
    exact .inl ⟨i, t, rfl, e⟩
  | .inr x, v, h => by
    obtain ⟨t, e⟩ := Value.isStrOf_shape (x := x) (v := v) h
    exact .inr ⟨x, t, rfl, e⟩
theorem keyIs_int (i : Int) (t : Tok) : keyIs (.inl i) (.int i t) = true := by simp [keyIs, Value.isInt]
theorem keyIs_str (x : Str) (t : Tok) : keyIs (.inr x) (.str x t) = true := by simp [keyIs, Value.isStrOf]
theorem key_ll (a b : Int) : decide ((Sum.inl a : Key) = Sum.inl b) = (a == b) := by
  by_cases e : a = b
  . subst e; simp
  . have h : ¬ (Sum.inl a : Key) = Sum.inl b := fun q => e (Sum.inl.inj q)
    rw [decide_eq_false h]
    exact (beq_eq_false_iff_ne.mpr e).symm
theorem key_rr (a b : Str) : decide ((Sum.inr a : Key) = Sum.inr b) = decide (a = b) := by
  by_cases e : a = b
  . subst e; simp
  . have h : ¬ (Sum.inr a : Key) = Sum.inr b := fun q => e (Sum.inr.inj q)
    rw [decide_eq_false h, decide_eq_false e]
theorem key_lr (a : Int) (b : Str) : decide ((Sum.inl a : Key) = Sum.inr b) = false := decide_eq_false (fun q => nomatch q)
theorem key_rl (a : Str) (b : Int) : decide ((Sum.inr a : Key) = Sum.inl b) = false := decide_eq_false (fun q => nomatch q)
def mixKind (prog : Program) (w : World) : PySem.KeyKind prog w Key where
  is := keyIs
  hash := keyH w
  inj := fun v a b ha hb => by
    rcases keyIs_shape ha with ⟨i, t, rfl, rfl⟩ | ⟨x, t, rfl, rfl⟩
    . rcases keyIs_shape hb with ⟨j, u, rfl, e⟩ | ⟨y, u, rfl, e⟩
      . injection e with e1 _; rw [e1]
      . exact nomatch e
    . rcases keyIs_shape hb with ⟨j, u, rfl, e⟩ | ⟨y, u, rfl, e⟩
      . exact nomatch e
      . injection e with e1 _; rw [e1]
  byValue := fun k v h => by
    rcases keyIs_shape h with ⟨i, t, rfl, rfl⟩ | ⟨x, t, rfl, rfl⟩ <;> rfl
  pyHash := fun hv h => by
    rcases keyIs_shape hv with ⟨i, t, rfl, rfl⟩ | ⟨x, t, rfl, rfl⟩
    . exact wpAny_pyHash_int h
    . exact wpAny_pyHash_str h
  eqBool := fun hu hv h => by
    rcases keyIs_shape hu with ⟨i, t, rfl, rfl⟩ | ⟨x, t, rfl, rfl⟩
    . rcases keyIs_shape hv with ⟨j, u, rfl, rfl⟩ | ⟨y, u, rfl, rfl⟩
      . rw [key_ll] at h; exact wpAny_eqBool_int h
      . rw [key_lr] at h; exact SeqAt.EqAt.int_str i t y u _ _ _ _ h
    . rcases keyIs_shape hv with ⟨j, u, rfl, rfl⟩ | ⟨y, u, rfl, rfl⟩
      . rw [key_rl] at h; exact SeqAt.EqAt.str_int x t j u _ _ _ _ h
      . rw [key_rr] at h; exact wpAny_eqBool_str h
  «strs» := fun k x t v h => by
    rcases keyIs_shape h with ⟨i, u, rfl, e⟩ | ⟨y, u, rfl, e⟩
    . exact nomatch e
    . injection e with e1 _
      subst e1
      cases v <;> rfl
theorem mixKind_int (prog : Program) (w : World) (i : Int) (t : Tok) : (mixKind prog w).is (.inl i) (.int i t) = true := keyIs_int i t
theorem mixKind_str (prog : Program) (w : World) (x : Str) (t : Tok) : (mixKind prog w).is (.inr x) (.str x t) = true := keyIs_str x t
end L2
namespace L2
open PySem PySem.Spec PyProof.Rows
inductive V where
  | non | bl (b : Bool) | int (i : Int) | str (x : Str) | byt (b : Array UInt8) | flt (b : UInt64) | ref (a : Addr) | ty (n : String)
  deriving DecidableEq
def RelV : V -> Value -> Prop
  | .non, u => u = Value.none
  | .bl b, u => u = Value.bool b
  | .int i, u => ∃ t, u = Value.int i t
  | .str x, u => ∃ t, u = Value.str x t
  | .byt b, u => ∃ t, u = Value.bytes b t
  | .flt b, u => ∃ t, u = Value.float b t
  | .ref a, u => u = Value.ref a
  | .ty n, u => u = Value.type n
abbrev Vals : List V -> List Value -> Prop := Paired RelV
theorem Vals.length {xs : List V} {us : List Value} (r : Vals xs us) : xs.length = us.length := Paired.length r
theorem Vals.get : ∀ {xs : List V} {us : List Value} {i : Nat} {x : V}, Vals xs us -> xs[i]? = some x -> ∃ u, us[i]? = some u /\ RelV x u
  | _, _, _, _, .nil, e => by simp at e
  | _, _, 0, _, .cons r _, e => by simp at e; subst e; exact ⟨_, rfl, r⟩
  | _, _, i + 1, x, .cons _ t, e => by
    obtain ⟨u, h1, h2⟩ := Vals.get (i := i) (x := x) t (by simpa using e)
    exact ⟨u, by simpa using h1, h2⟩
theorem Vals.append : ∀ {xs ys : List V} {us ws : List Value}, Vals xs us -> Vals ys ws -> Vals (xs ++ ys) (us ++ ws)
  | _, _, _, _, .nil, s => s
  | _, _, _, _, .cons r t, s => .cons r (Vals.append t s)
theorem Vals.none_of : ∀ {xs : List V} {us : List Value} {i : Nat}, Vals xs us -> xs[i]? = none -> us[i]? = none := fun {xs us i} r e => by
  have h1 := r.length
  have h2 : xs.length <= i := List.getElem?_eq_none_iff.mp e
  exact List.getElem?_eq_none_iff.mpr (by omega)
def RelO : Option V -> Option Value -> Prop
  | some v, some u => RelV v u
  | none, none => True
  | _, _ => False
def KV {κ : Type} : List (κ × V) -> List (κ × Value) -> Prop := Paired fun (p : κ × V) (q : κ × Value) => p.1 = q.1 /\ RelV p.2 q.2
def kV : Key -> V
  | .inl i => .int i
  | .inr x => .str x
inductive HO where
  | lst (xs : List V)
  | tup (xs : List V)
  | dK (kvs : List (Key × V)) | dT (kvs : List (List Key × V))
  | set (S : Int -> Bool) (n : Nat)
  | ins (C dx : Addr) (fs : List (Str × V))
  | own (x : Addr)
  | xd (fs : List (Str × V))
  | met (f x : Addr)
  | rng (lo hi : Int)
  | frz (o : Obj) (u : HO)
  | tbl (ps : Array Value)
  | ext (φ : Heap -> Prop)
abbrev Hp := Addr -> Option HO
def upd (H : Hp) (a : Addr) (o : HO) : Hp := fun b => if b = a then some o else H b
theorem upd_same {H : Hp} {a : Addr} {o : HO} : upd H a o a = some o := by unfold upd; rw [if_pos rfl]
theorem upd_ne {H : Hp} {a b : Addr} {o : HO} (h : b ≠ a) : upd H a o b = H b := by unfold upd; rw [if_neg h]
theorem upd_upd {H : Hp} {a : Addr} {o u : HO} : upd (upd H a o) a u = upd H a u := by
  funext b; unfold upd; split <;> rfl
theorem ne_of {H : Hp} {a b : Addr} {o u : HO} (h : H a = some o) (h' : H b = some u) (d : o ≠ u) : a ≠ b := by
  intro e; subst e; rw [h] at h'; exact d (Option.some.inj h')
theorem ne_of_none {H : Hp} {a b : Addr} {o : HO} (h : H a = some o) (h' : H b = none) : a ≠ b := by
  intro e; subst e; rw [h] at h'; cases h'
section
variable (P : Program) (w : World)
def ObjOk (H : Hp) (h : Heap) (a : Addr) : HO -> Prop
  | .lst xs => xs.length <= sizeLine /\ ∃ (its : List Value) (n : Nat), Vals xs its /\ h.get? a = some { cls := .type "list", data := .seq its.toArray n }
  | .tup xs => (xs.length <= sizeLine /\ ∃ o, h.get? a = some o /\ o.dict = none) /\ ∃ its : List Value, Vals xs its /\ IsTup h a its.toArray
  | .dK kvs => kvs.length <= sizeLine /\ (a == sysModules) = false /\ ∃ vs, KV kvs vs /\ h.DictOf (mixKind P w) a vs
  | .dT kvs => kvs.length <= sizeLine /\ (a == sysModules) = false /\ ∃ xs : List (List Key × Addr × Value),
      Paired (fun (p : List Key × V) (q : List Key × Addr × Value) => p.1 = q.1 /\ H q.2.1 = some (.tup (p.1.map kV)) /\ RelV p.2 q.2.2) kvs xs /\
      ∃ o es ep, h.get? a = some o /\ o.ExactDict /\ o.data = .dict es ep /\ es.toList = xs.map (entryOfKey (tupleKind (mixKind P w))) /\ (xs.map (·.1)).Nodup
  | .set S n => h.SetOf (intKind P w) a S n
  | .ins C dx fs => H dx = some (.own a) /\ fs.length <= 1000 /\ dx ≠ a /\ h.get? a = some (PySem.W.instObj C dx) /\
      ∃ mA, h.Ns1 dx mA /\ (∀ f, RelO (fs.lookup f) (mA f)) /\ PySem.Within mA (fs.map (·.1))
  | .own _ => ∃ o, h.get? a = some o
  | .xd fs => ∃ mA, h.Ns1 a mA /\ ∀ f, RelO (fs.lookup f) (mA f)
  | .rng lo hi => ∃ t u v, h.get? a = some { cls := .type "range", data := .fields #[.int lo t, .int hi u, .int 1 v] }
  | .frz o u => h.get? a = some o /\ ObjOk H h a u
  | .tbl ps => h.get? a = some { cls := .none, data := .fields ps }
  | .met f x => h.get? a = some (PySem.W.methodObj (.ref f) (.ref x))
  | .ext φ => φ h /\ (∃ o, h.get? a = some o) /\ ∀ h1 h2 : Heap, φ h1 -> (∀ o, h1.get? a = some o -> h2.get? a = some o) -> φ h2
def HOk (H : Hp) (h : Heap) : Prop := ∀ a o, H a = some o -> ObjOk P w H h a o
end
section
variable {P : Program} {w : World} {H H' : Hp} {h h' : Heap} {a : Addr} {o : HO}
theorem ObjOk.lt (x : ObjOk P w H h a o) : a < h.objs.size := by
  cases o with
  | lst xs => obtain ⟨_, _, _, _, e⟩ := x; exact Heap.lt_size e
  | tup xs => obtain ⟨_, _, _, p⟩ := x; exact p.lt
  | dK kvs => obtain ⟨_, _, _, _, o, _, _, e, _⟩ := x; exact Heap.lt_size e
  | dT kvs => obtain ⟨_, _, _, _, o, _, _, e, _⟩ := x; exact Heap.lt_size e
  | set S n => obtain ⟨o, _, _, _, e, _⟩ := x; exact Heap.lt_size e
  | ins C dx fs => obtain ⟨_, _, _, e, _⟩ := x; exact Heap.lt_size e
  | own y => obtain ⟨_, e⟩ := x; exact Heap.lt_size e
  | xd fs => obtain ⟨_, ⟨_, _, _, e, _⟩, _⟩ := x; exact Heap.lt_size e
  | rng lo hi => obtain ⟨_, _, _, e⟩ := x; exact Heap.lt_size e
  | frz ob u => obtain ⟨e, _⟩ := x; exact Heap.lt_size e
  | tbl ps => exact Heap.lt_size (show h.get? a = some _ from x)
  | met f y => exact Heap.lt_size (show h.get? a = some _ from x)
  | ext φ => obtain ⟨_, ⟨_, e⟩, _⟩ := x; exact Heap.lt_size e
theorem Paired.mapP {α β : Type} {F G : α -> β -> Prop} : ∀ {l₁ : List α} {l₂ : List β}, Paired F l₁ l₂ -> (∀ a b, F a b -> G a b) -> Paired G l₁ l₂
  | _, _, .nil, _ => .nil
  | _, _, .cons r t, f => .cons (f _ _ r) (Paired.mapP t f)
theorem ObjOk.stay (x : ObjOk P w H h a o) (k : ∀ b u, (b = a \/ H b = some (.own a)) -> h.get? b = some u -> h'.get? b = some u)
    (ho : ∀ b, H b = some (.own a) -> H' b = some (.own a)) (ht : ∀ b xs, H b = some (.tup xs) -> H' b = some (.tup xs)) : ObjOk P w H' h' a o := by
  induction o with
  | lst xs => obtain ⟨z, its, n, r, e⟩ := x; exact ⟨z, its, n, r, k _ _ (.inl rfl) e⟩
  | tup xs => obtain ⟨⟨z, o1, e1, d1⟩, its, r, ob, e, c⟩ := x; exact ⟨⟨z, o1, k _ _ (.inl rfl) e1, d1⟩, its, r, ob, k _ _ (.inl rfl) e, c⟩
  | dK kvs => obtain ⟨z, y, vs, r, ob, es, ep, e, c⟩ := x; exact ⟨z, y, vs, r, ob, es, ep, k _ _ (.inl rfl) e, c⟩
  | dT kvs =>
    obtain ⟨z, y, xs, r, ob, es, ep, e, c⟩ := x
    exact ⟨z, y, xs, Paired.mapP r fun p q z => ⟨z.1, ht _ _ z.2.1, z.2.2⟩, ob, es, ep, k _ _ (.inl rfl) e, c⟩
  | set S n => obtain ⟨ob, es, ep, t, e, c⟩ := x; exact ⟨ob, es, ep, t, k _ _ (.inl rfl) e, c⟩
  | ins C dx fs =>
    obtain ⟨d, z, ne, e, mA, ⟨od, es, ep, e2, c⟩, r⟩ := x
    exact ⟨ho _ d, z, ne, k _ _ (.inl rfl) e, mA, ⟨od, es, ep, k _ _ (.inr d) e2, c⟩, r⟩
  | own y => obtain ⟨ob, e⟩ := x; exact ⟨ob, k _ _ (.inl rfl) e⟩
  | xd fs => obtain ⟨mA, ⟨od, es, ep, e, c⟩, r⟩ := x; exact ⟨mA, ⟨od, es, ep, k _ _ (.inl rfl) e, c⟩, r⟩
  | rng lo hi => obtain ⟨t, u, v, e⟩ := x; exact ⟨t, u, v, k _ _ (.inl rfl) e⟩
  | frz ob u ih => obtain ⟨e, q⟩ := x; exact ⟨k _ _ (.inl rfl) e, ih q⟩
  | tbl ps =>
    have e : h.get? a = some { cls := .none, data := .fields ps } := x
    show h'.get? a = some { cls := .none, data := .fields ps }
    exact k a _ (.inl rfl) e
  | met f y =>
    have e : h.get? a = some (PySem.W.methodObj (.ref f) (.ref y)) := x
    show h'.get? a = some (PySem.W.methodObj (.ref f) (.ref y))
    exact k a _ (.inl rfl) e
  | ext φ => obtain ⟨p, ⟨o, e⟩, st⟩ := x; exact ⟨st _ _ p fun o q => k _ _ (.inl rfl) q, ⟨o, k _ _ (.inl rfl) e⟩, st⟩
theorem HOk.lt (x : HOk P w H h) (e : H a = some o) : a < h.objs.size := (x a o e).lt
theorem HOk.fresh (x : HOk P w H h) (e : h.objs.size <= a) : H a = none := by
  cases q : H a with
  | none => rfl
  | some u => exact absurd (Nat.lt_of_lt_of_le (x.lt q) e) (Nat.lt_irrefl _)
theorem HOk.kept (x : HOk P w H h) (k : ∀ b u, h.get? b = some u -> h'.get? b = some u) : HOk P w H h' := fun a o e =>
  (x a o e).stay (fun b u _ q => k b u q) (fun _ q => q) fun _ _ q => q
theorem HOk.laid (x : HOk P w H h) (k : ∀ b u, h.get? b = some u -> h'.get? b = some u) (hp : h.objs.size <= a) (new : ObjOk P w (upd H a o) h' a o) : HOk P w (upd H a o) h' := fun b u e => by
  have hn := x.fresh hp
  by_cases hb : b = a
  . subst hb; rw [upd_same] at e; cases e; exact new
  . rw [upd_ne hb] at e
    exact (x b u e).stay (fun c v _ q => k c v q) (fun c q => by rw [upd_ne (ne_of_none q hn)]; exact q) fun c xs q => by rw [upd_ne (ne_of_none q hn)]; exact q
end
def Rd (H : Hp) (a : Addr) (u : HO) : Prop := H a = some u \/ ∃ o, H a = some (.frz o u)
theorem Rd.ok {P : Program} {w : World} {H : Hp} {h : Heap} {a : Addr} {u : HO} (r : Rd H a u) (x : HOk P w H h) : ObjOk P w H h a u := by
  rcases r with r | ⟨o, r⟩
  . exact x a u r
  . obtain ⟨_, q⟩ := x a _ r
    exact q
def Mut : Option HO -> Prop
  | some (.lst _) => True
  | some (.dK _) => True
  | some (.dT _) => True
  | some (.set _ _) => True
  | some (.ins _ _ _) => True
  | some (.ext _) => True
  | _ => False
section
variable {P : Program} {w : World} {H : Hp} {h h' : Heap} {x e : Addr} {o' : HO}
theorem HOk.write (ok : HOk P w H h) (mu : Mut (H x)) (he : e = x \/ H e = some (.own x)) (k : ∀ b u, b ≠ e -> h.get? b = some u -> h'.get? b = some u) (heo : ∃ u, h'.get? e = some u)
    (new : ObjOk P w (upd H x o') h' x o') : HOk P w (upd H x o') h' := fun b u q => by
  have nown : ∀ c y, H c = some (.own y) -> c ≠ x := fun c y r z => by subst z; rw [r] at mu; exact mu
  have ntup : ∀ c xs, H c = some (.tup xs) -> c ≠ x := fun c xs r z => by subst z; rw [r] at mu; exact mu
  by_cases hb : b = x
  . subst hb; rw [upd_same] at q; cases q; exact new
  . rw [upd_ne hb] at q
    by_cases hbe : b = e
    . have q' : H b = some (.own x) := by
        rcases he with z | z
        . exact absurd (hbe.trans z) hb
        . rw [hbe]; exact z
      rw [q] at q'; cases q'
      obtain ⟨v, hv⟩ := heo
      exact ⟨v, by rw [hbe]; exact hv⟩
    . refine (ok b u q).stay (fun c v hc r => k c v ?_ r) (fun c r => by rw [upd_ne (nown c b r)]; exact r) fun c xs r => by rw [upd_ne (ntup c xs r)]; exact r
      rcases hc with rfl | hc
      . exact hbe
      . rintro rfl
        rcases he with z | z
        . exact nown c b hc z
        . rw [hc] at z; cases z; exact hb rfl
end
structure Un (fs ex : List Addr) (H H' : Hp) (h h' : Heap) : Prop where
  keep : ∀ b o, h.get? b = some o -> H b = none -> b ∉ fs -> b ∉ ex -> h'.get? b = some o
  slot : ∀ b o, h.get? b = some o -> H b = none -> b ∈ fs -> b ∉ ex -> ∃ sl, h'.get? b = some { o with slots := sl }
  free : ∀ b o, h.get? b = some o -> H b = none -> b ∉ ex -> H' b = none
  there : ∀ b o, h.get? b = some o -> b ∉ ex -> ∃ o', h'.get? b = some o'
  tups : ∀ b xs, H b = some (.tup xs) -> H' b = some (.tup xs)
  frzs : ∀ b o u, H b = some (.frz o u) -> H' b = some (.frz o u)
  tbls : ∀ b ps, H b = some (.tbl ps) -> ∃ more, H' b = some (.tbl (ps ++ more))
section
variable {fs fs' ex ex' : List Addr} {H H1 H2 : Hp} {h h1 h2 h' : Heap} {a x e : Addr} {o : HO}
theorem Un.any (u : Un fs ex H H1 h h1) {b : Addr} {ob : Obj} (q : h.get? b = some ob) (n : H b = none) (hx : b ∉ ex) : ∃ sl, h1.get? b = some { ob with slots := sl } := by
  by_cases hb : b ∈ fs
  . exact u.slot b ob q n hb hx
  . exact ⟨ob.slots, u.keep b ob q n hb hx⟩
theorem Un.kept (k : ∀ b u, h.get? b = some u -> h'.get? b = some u) : Un fs ex H H h h' :=
  ⟨fun b ob q _ _ _ => k b ob q, fun b ob q _ _ _ => ⟨ob.slots, k b ob q⟩, fun _ _ _ n _ => n, fun b ob q _ => ⟨ob, k b ob q⟩, fun _ _ q => q, fun _ _ _ q => q, fun _ ps q => ⟨#[], by rw [q]; simp⟩⟩
theorem Un.refl : Un fs ex H H h h := Un.kept fun _ _ q => q
theorem Un.laid (k : ∀ b u, h.get? b = some u -> h'.get? b = some u) (hp : h.objs.size <= a) (hn : H a = none) : Un fs ex H (upd H a o) h h' where
  keep := fun b u q _ _ _ => k b u q
  slot := fun b u q _ _ _ => ⟨u.slots, k b u q⟩
  free := fun b u q n _ => by rw [upd_ne (Nat.ne_of_lt (Nat.lt_of_lt_of_le (Heap.lt_size q) hp))]; exact n
  there := fun b u q _ => ⟨u, k b u q⟩
  tups := fun b xs q => by rw [upd_ne (ne_of_none q hn)]; exact q
  frzs := fun b u xs q => by rw [upd_ne (ne_of_none q hn)]; exact q
  tbls := fun b ps q => ⟨#[], by rw [upd_ne (ne_of_none q hn), q]; simp⟩
theorem Un.write (mu : Mut (H x)) (he : e = x \/ H e = some (.own x)) (k : ∀ b u, b ≠ e -> h.get? b = some u -> h'.get? b = some u) (heo : ∃ u, h'.get? e = some u) : Un fs ex H (upd H x o) h h' := by
  have hx : ∀ b, H b = none -> b ≠ x := fun b n z => by subst z; rw [n] at mu; exact mu
  have hb : ∀ b, H b = none -> b ≠ e := fun b n z => by
    subst z
    rcases he with r | r
    . exact hx b n r
    . rw [n] at r; cases r
  have hm : ∀ b u, H b = some u -> ¬ Mut (some u) -> b ≠ x := fun b u q nm z => by subst z; rw [q] at mu; exact nm mu
  refine ⟨fun b u q n _ _ => k b u (hb b n) q, fun b u q n _ _ => ⟨u.slots, k b u (hb b n) q⟩, fun b u q n _ => by rw [upd_ne (hx b n)]; exact n, fun b u q _ => ?_,
    fun b xs q => by rw [upd_ne (hm b _ q fun z => z)]; exact q, fun b u xs q => by rw [upd_ne (hm b _ q fun z => z)]; exact q, fun b ps q => ⟨#[], by rw [upd_ne (hm b _ q fun z => z), q]; simp⟩⟩
  by_cases hbe : b = e
  . subst hbe; exact heo
  . exact ⟨u, k b u hbe q⟩
end
def trk (h : Heap) (H : Hp) : List Addr := (List.range h.objs.size).filter fun a => (H a).isSome
def hidT (h : Heap) (H : Hp) : Heap := PySem.W.hideAll h (trk h H)
theorem hidT_size (h : Heap) (H : Hp) : (hidT h H).objs.size = h.objs.size := PySem.W.hideAll_size _ _
theorem hidT_get {h : Heap} {H : Hp} {b : Addr} {o : Obj} (e : h.get? b = some o) (n : H b = none) : (hidT h H).get? b = some o :=
  PySem.W.hideAll_get _ e fun hm => by
    have q : (H b).isSome = true := (List.mem_filter.mp hm).2
    rw [n] at q; simp at q
theorem of_hidT {h : Heap} {H : Hp} {b : Addr} {o : Obj} (e : (hidT h H).get? b = some o) : h.get? b = some o /\ H b = none := by
  have e' : h.get? b = some o := PySem.W.of_hideAll (trk h H) e
  refine ⟨e', ?_⟩
  cases q : H b with
  | none => rfl
  | some x =>
    have hm : b ∈ trk h H := List.mem_filter.mpr ⟨List.mem_range.mpr (Heap.lt_size e'), by simp [q]⟩
    have z : (hidT h H).get? b = none := PySem.W.hideAll_none (trk h H) hm
    rw [z] at e; cases e
def allNews (g h : Heap) (L : Addr) : List (Addr × Obj) := (List.range h.objs.size).filterMap fun a => if a = L \/ (g.get? a).isSome = true then none else (h.get? a).map fun o => (a, o)
def rest (g h : Heap) (L d : Addr) : List (Addr × Obj) := (allNews g h L).filter fun p => decide (p.1 ≠ d)
end L2
namespace L2
open PySem PySem.Spec PyProof.Rows
structure Mod (K : PySem.W.Frag) (mg : Str -> Option Value) (base : Heap) : Prop where
  kin : K.In base
  glob : base.Ns mainGlobals mg
  blt : ∃ mb, base.Ns builtinsNs mb /\ ∀ x : Str, x ≠ "__name__" -> mb x = bootBuiltins x
  nolimit : base.NoLimit
structure Cx where
  prog : Program
  w : World
  K : PySem.W.Frag
  mg : Str -> Option Value
  base : Heap
  A : Around
  N : List Str
  s₀ : Shared
  H₀ : Hp
  env : Env
  outer : List Env
  stack : List Env
  ex : List Addr
  fn : Str -> Bool
  calm : Bool
  pn : List (Addr × Obj)
  xe : Value -> Shared -> Prop
def frs (l : List Env) : List Addr := l.filterMap (·.frame)
abbrev Cx.fs (X : Cx) : List Addr := frs X.outer
def Vis (sc : Scope) (x : Str) : Prop := sc.names.lookup x = some .local \/ sc.names.lookup x = some .cell \/ sc.names.lookup x = some .free
def Loc (sc : Scope) (x : Str) : Prop := sc.names.lookup x = some .local \/ sc.names.lookup x = some .cell
def Look (env : Env) (h : Heap) (m : Str -> Option Value) (x : Str) (u : Value) : Prop :=
  (env.kindOf x = some .local /\ m x = some u) \/ ((env.kindOf x = some .cell \/ env.kindOf x = some .free) /\ ∃ c, env.cells.lookup x = some c /\ h.IsCell c (some u))
structure Cx.Ok (X : Cx) : Prop where
  mod : Mod X.K X.mg X.base
  kind : X.env.scope.kind = .function
  glob : X.env.globals = mainGlobals
  blt : X.env.builtins = builtinsNs
  above : X.s₀.heap.objs.size <= X.env.locals
  inj : ∀ x y c, X.env.cells.lookup x = some c -> X.env.cells.lookup y = some c -> x = y
  has : ∀ x, (X.env.kindOf x = some .cell \/ X.env.kindOf x = some .free) -> ∃ c, X.env.cells.lookup x = some c
  cab : ∀ x c, X.fn x = true -> X.env.cells.lookup x = some c -> X.s₀.heap.objs.size <= c
  hd : X.calm = true -> X.A.handled = none
  frames : X.A.frames = some X.stack
  stk : X.stack = X.outer \/ (X.stack = X.env :: X.outer /\ X.env.frame = some X.env.locals)
  exf : ∀ b ∈ X.ex, b ≠ X.env.locals /\ ∀ x c, X.env.cells.lookup x = some c -> c ≠ b
  bs : ∀ b o, X.base.get? b = some o -> X.s₀.heap.get? b = some o /\ X.H₀ b = none
  bsz : X.base.objs.size <= X.s₀.heap.objs.size
  noex : ∀ b o, X.base.get? b = some o -> b ∉ X.ex
  exfs : ∀ b ∈ X.ex, b ∉ X.fs
  funs : X.s₀.heap.FunFrames X.base X.outer
  frf : ∀ b ∈ X.fs, X.H₀ b = none
structure Inv (X : Cx) (pins : List (Addr × Obj)) (σ : List (Option V)) (H : Hp) (s : Shared) : Prop where
  ok : X.Ok
  os : s.os = X.s₀.os
  bare : AllBare s.gens
  base : Un X.fs X.ex X.H₀ H X.s₀.heap s.heap
  loc : ∃ m, s.heap.Ns X.env.locals m /\ ∀ (i : Nat) (x : Str) (v : V), X.N[i]? = some x -> σ[i]? = some (some v) -> Vis X.env.scope x -> ∃ u, RelV v u /\ Look X.env s.heap m x u
  cell : ∀ x c, X.env.cells.lookup x = some c -> ∃ v, s.heap.IsCell c v
  free : H X.env.locals = none
  freeC : ∀ x c, X.env.cells.lookup x = some c -> H c = none
  pin : ∀ p ∈ X.pn ++ pins, s.heap.get? p.1 = some p.2 /\ H p.1 = none /\ p.1 ≠ X.env.locals /\ p.1 ∉ X.fs /\ ∀ v, p.2.data ≠ .cell v
  hok : HOk X.prog X.w H s.heap
  len : σ.length = X.N.length
section
variable {X : Cx} {pins : List (Addr × Obj)} {σ : List (Option V)} {H H' : Hp} {s : Shared} {h' : Heap}
theorem Cx.Ok.nofr (ok : X.Ok) {b : Addr} {o : Obj} (e : X.base.get? b = some o) : b ∉ X.fs := fun hb => by
  have := (ok.funs.mem hb).1
  rw [e] at this; cases this
theorem Inv.bs (I : Inv X pins σ H s) : ∀ b o, X.base.get? b = some o -> s.heap.get? b = some o /\ H b = none := fun b o e =>
  ⟨I.base.keep b o (I.ok.bs b o e).1 (I.ok.bs b o e).2 (I.ok.nofr e) (I.ok.noex b o e), I.base.free b o (I.ok.bs b o e).1 (I.ok.bs b o e).2 (I.ok.noex b o e)⟩
theorem Inv.bk (I : Inv X pins σ H s) : ∀ b o, X.base.get? b = some o -> s.heap.get? b = some o := fun b o e => (I.bs b o e).1
theorem Inv.mod (I : Inv X pins σ H s) : Mod X.K X.mg X.base := I.ok.mod
theorem Inv.kIn (I : Inv X pins σ H s) : X.K.In s.heap := I.ok.mod.kin.keeps I.bk
theorem Inv.lt (I : Inv X pins σ H s) : X.env.locals < s.heap.objs.size := let ⟨_, hn, _⟩ := I.loc; hn.lt
theorem Inv.sz (I : Inv X pins σ H s) : X.s₀.heap.objs.size <= s.heap.objs.size := Nat.le_trans I.ok.above (Nat.le_of_lt I.lt)
theorem Inv.nofs (I : Inv X pins σ H s) {a : Addr} (h : s.heap.objs.size <= a) : a ∉ X.fs := fun hb => by
  obtain ⟨_, o, ho, _⟩ := I.ok.funs.mem hb
  exact absurd (Nat.lt_of_lt_of_le (Heap.lt_size ho) (Nat.le_trans I.sz h)) (Nat.lt_irrefl _)
theorem Inv.cne (I : Inv X pins σ H s) : ∀ x c, X.env.cells.lookup x = some c -> c ≠ X.env.locals := fun x c e z => by
  obtain ⟨v, o, ho, hd⟩ := I.cell x c e
  obtain ⟨m, ⟨o', es, ep, ho', hd', _⟩, _⟩ := I.loc
  rw [z, ho'] at ho; cases ho; rw [hd'] at hd; cases hd
theorem Inv.funs (I : Inv X pins σ H s) : s.heap.FunFrames X.base X.outer := by
  have all : ∀ (l : List Env), (∀ b ∈ frs l, b ∈ X.fs) -> X.s₀.heap.FunFrames X.base l -> s.heap.FunFrames X.base l := by
    intro l
    induction l with
    | nil => intro _ _; trivial
    | cons env r ih =>
      intro hs hl
      obtain ⟨hk, ⟨L, o, hf, hn, ho, hd⟩, hr⟩ := hl
      have hL : L ∈ X.fs := hs L (by unfold frs; rw [List.filterMap_cons, hf]; exact List.mem_cons_self)
      obtain ⟨sl, e⟩ := I.base.slot L o ho (I.ok.frf L hL) hL fun z => I.ok.exfs L z hL
      exact ⟨hk, ⟨L, _, hf, hn, e, hd⟩, ih (fun b hb => hs b (by unfold frs; rw [List.filterMap_cons, hf]; exact List.mem_cons_of_mem _ hb)) hr⟩
  exact all X.outer (fun _ hb => hb) I.ok.funs
theorem Inv.stack (I : Inv X pins σ H s) : s.heap.FunFrames X.base X.stack := by
  rcases I.ok.stk with e | ⟨e, hf⟩
  . rw [e]; exact I.funs
  . rw [e]
    obtain ⟨m, hn, _⟩ := I.loc
    refine .cons (by rw [I.ok.kind]; decide) hf hn ?_ I.funs
    exact Heap.get?_none_of_le (Nat.le_trans I.ok.bsz I.ok.above)
theorem Inv.stkSub (I : Inv X pins σ H s) : ∀ b ∈ frs X.stack, b ∈ X.env.locals :: X.fs := fun b hb => by
  rcases I.ok.stk with e | ⟨e, hf⟩
  . rw [e] at hb; exact List.mem_cons_of_mem _ hb
  . rw [e] at hb
    unfold frs at hb
    rw [List.filterMap_cons, hf] at hb
    exact hb
theorem Inv.stkFree (I : Inv X pins σ H s) : ∀ b ∈ frs X.stack, H b = none := fun b hb => by
  rcases List.mem_cons.mp (I.stkSub b hb) with e | hb
  . rw [e]; exact I.free
  . obtain ⟨_, o, ho, _⟩ := I.ok.funs.mem hb
    exact I.base.free b o ho (I.ok.frf b hb) fun z => I.ok.exfs b z hb
theorem Inv.step {g' : Array GenState} {t' : Nat} {d' : Drawn} {ch : List Addr} (I : Inv X pins σ H s)
    (hch : ∀ b ∈ ch, (b ∈ X.ex \/ X.s₀.heap.objs.size <= b) /\ b ≠ X.env.locals /\ (∀ x c, X.env.cells.lookup x = some c -> c ≠ b) /\ ∀ p ∈ X.pn ++ pins, p.1 ≠ b)
    (keep : ∀ b o, b ≠ X.env.locals -> b ∉ X.fs -> b ∉ ch -> s.heap.get? b = some o -> H b = none -> h'.get? b = some o)
    (slot : ∀ b o, b ≠ X.env.locals -> b ∈ X.fs -> b ∉ ch -> s.heap.get? b = some o -> H b = none -> ∃ sl, h'.get? b = some { o with slots := sl }) (free : ∀ b o, b ∉ ch -> s.heap.get? b = some o -> H b = none -> H' b = none)
    (there : ∀ b o, b ∉ ch -> s.heap.get? b = some o -> ∃ o', h'.get? b = some o')
    (tups : ∀ b xs, H b = some (.tup xs) -> H' b = some (.tup xs)) (frzs : ∀ b o u, H b = some (.frz o u) -> H' b = some (.frz o u)) (tbls : ∀ b ps, H b = some (.tbl ps) -> ∃ more, H' b = some (.tbl (ps ++ more)))
    (ns : ∀ m, s.heap.Ns X.env.locals m -> h'.Ns X.env.locals m) (hok : HOk X.prog X.w H' h') (hg : AllBare g') :
    Inv X pins σ H' { s with heap := h', gens := g', drawn := d', toks := t' } := by
  have neL : ∀ b o, X.s₀.heap.get? b = some o -> b ≠ X.env.locals := fun b o e => Nat.ne_of_lt (Nat.lt_of_lt_of_le (Heap.lt_size e) I.ok.above)
  have neC : ∀ b o, X.s₀.heap.get? b = some o -> b ∉ X.ex -> b ∉ ch := fun b o e hx hb => by
    rcases (hch b hb).1 with z | z
    . exact hx z
    . exact absurd (Nat.lt_of_lt_of_le (Heap.lt_size e) z) (Nat.lt_irrefl _)
  have cellK : ∀ x c, X.env.cells.lookup x = some c -> ∀ v, s.heap.IsCell c v -> h'.IsCell c v := fun x c e v ⟨o, ho, hd⟩ => by
    have nch : c ∉ ch := fun z => (hch c z).2.2.1 x c e rfl
    by_cases hc : c ∈ X.fs
    . obtain ⟨sl, q⟩ := slot c o (I.cne x c e) hc nch ho (I.freeC x c e)
      exact ⟨_, q, hd⟩
    . exact ⟨o, keep c o (I.cne x c e) hc nch ho (I.freeC x c e), hd⟩
  refine ⟨I.ok, I.os, hg, ⟨fun b o e n hb hx => ?_, fun b o e n hb hx => ?_, fun b o e n hx => ?_, fun b o e hx => ?_, fun b xs e => tups b xs (I.base.tups b xs e), fun b o xs e => frzs b o xs (I.base.frzs b o xs e), fun b ps e => ?_⟩, ?_, fun x c e => ?_, ?_, fun x c e => ?_, fun p hp => ?_, hok, I.len⟩
  . exact keep b o (neL b o e) hb (neC b o e hx) (I.base.keep b o e n hb hx) (I.base.free b o e n hx)
  . obtain ⟨sl, e1⟩ := I.base.slot b o e n hb hx
    obtain ⟨sl', e2⟩ := slot b _ (neL b o e) hb (neC b o e hx) e1 (I.base.free b o e n hx)
    exact ⟨sl', e2⟩
  . obtain ⟨o', e1⟩ := I.base.there b o e hx
    exact free b o' (neC b o e hx) e1 (I.base.free b o e n hx)
  . obtain ⟨o', e1⟩ := I.base.there b o e hx
    exact there b o' (neC b o e hx) e1
  . obtain ⟨m1, e1⟩ := I.base.tbls b ps e
    obtain ⟨m2, e2⟩ := tbls b _ e1
    exact ⟨m1 ++ m2, by rw [e2, Array.append_assoc]⟩
  . obtain ⟨m, hn, hl⟩ := I.loc
    refine ⟨m, ns m hn, fun i x v e1 e2 e3 => ?_⟩
    obtain ⟨u, r, l⟩ := hl i x v e1 e2 e3
    refine ⟨u, r, ?_⟩
    rcases l with l | ⟨k, c, e, z⟩
    . exact .inl l
    . exact .inr ⟨k, c, e, cellK x c e _ z⟩
  . obtain ⟨v, z⟩ := I.cell x c e
    exact ⟨v, cellK x c e v z⟩
  . obtain ⟨m, ⟨o, _, _, ho, _⟩, _⟩ := I.loc
    exact free _ o (fun z => (hch _ z).2.1 rfl) ho I.free
  . obtain ⟨v, o, ho, hd⟩ := I.cell x c e
    exact free c o (fun z => (hch c z).2.2.1 x c e rfl) ho (I.freeC x c e)
  . obtain ⟨e, n, ne, nf, d⟩ := I.pin p hp
    have nch : p.1 ∉ ch := fun z => (hch p.1 z).2.2.2 p hp rfl
    exact ⟨keep p.1 p.2 ne nf nch e n, free p.1 p.2 nch e n, ne, nf, d⟩
theorem Inv.un {t' : Nat} (I : Inv X pins σ H s) (u : Un X.fs [] H H' s.heap h') (hok : HOk X.prog X.w H' h') : Inv X pins σ H' { s with heap := h', toks := t' } := by
  obtain ⟨m, ⟨o, es, ep, ho, r⟩, _⟩ := id I.loc
  obtain ⟨sl, hL⟩ := u.any ho I.free (by simp)
  exact I.step (g' := s.gens) (d' := s.drawn) (ch := []) (fun _ z => nomatch z) (fun b o _ hb _ e n => u.keep b o e n hb (by simp)) (fun b o _ hb _ e n => u.slot b o e n hb (by simp)) (fun b o _ e n => u.free b o e n (by simp)) (fun b o _ e => u.there b o e (by simp)) u.tups u.frzs u.tbls (fun m' hm => by
    obtain ⟨o', es', ep', ho', r'⟩ := hm
    rw [ho] at ho'; cases ho'
    exact ⟨_, es', ep', hL, r'⟩) hok I.bare
theorem Inv.call {g' : Array GenState} {t' : Nat} {d' : Drawn} {ch : List Addr} (I : Inv X pins σ H s) (u : Un (frs X.stack) ch H H' s.heap h') (hok : HOk X.prog X.w H' h') (hg : AllBare g')
    (hch : ∀ b ∈ ch, (b ∈ X.ex \/ X.s₀.heap.objs.size <= b) /\ b ≠ X.env.locals /\ (∀ x c, X.env.cells.lookup x = some c -> c ≠ b) /\ ∀ p ∈ X.pn ++ pins, p.1 ≠ b) :
    Inv X pins σ H' { s with heap := h', gens := g', drawn := d', toks := t' } := by
  obtain ⟨m, ⟨o, es, ep, ho, r⟩, _⟩ := id I.loc
  obtain ⟨sl, hL⟩ := u.any ho I.free fun z => (hch _ z).2.1 rfl
  exact I.step (ch := ch) hch (fun b o hL hb hc e n => u.keep b o e n (fun z => (List.mem_cons.mp (I.stkSub b z)).elim hL hb) hc) (fun b o _ _ hc e n => u.any e n hc) (fun b o hc e n => u.free b o e n hc) (fun b o hc e => u.there b o e hc) u.tups u.frzs u.tbls (fun m' hm => by
    obtain ⟨o', es', ep', ho', r'⟩ := hm
    rw [ho] at ho'; cases ho'
    exact ⟨_, es', ep', hL, r'⟩) hok hg
theorem Inv.turned {t' : Nat} {it : Addr} (I : Inv X pins σ H s) (k : ∀ b o, b ≠ it -> s.heap.get? b = some o -> h'.get? b = some o) (hn : H it = none) (hL : it ≠ X.env.locals)
    (h1 : it ∈ X.ex \/ X.s₀.heap.objs.size <= it) (h2 : ∀ x c, X.env.cells.lookup x = some c -> c ≠ it) (h3 : ∀ p ∈ X.pn ++ pins, p.1 ≠ it) : Inv X pins σ H { s with heap := h', toks := t' } := by
  have nit : ∀ b u, H b = some u -> b ≠ it := fun b u e z => by rw [z, hn] at e; cases e
  refine I.step (g' := s.gens) (d' := s.drawn) (ch := [it]) (fun b hb => ?_) (fun b o _ _ hc e _ => k b o (fun z => hc (by simp [z])) e) (fun b o _ _ hc e _ => ⟨o.slots, k b o (fun z => hc (by simp [z])) e⟩) (fun _ _ _ _ n => n)
    (fun b o hc e => ⟨o, k b o (fun z => hc (by simp [z])) e⟩) (fun _ _ e => e) (fun _ _ _ e => e) (fun b ps e => ⟨#[], by rw [e]; simp⟩) (fun m hm => ?_) (fun b u e => ?_) I.bare
  . have e : b = it := by simpa using hb
    subst e
    exact ⟨h1, hL, h2, h3⟩
  . obtain ⟨o, es, ep, ho, r⟩ := hm
    exact ⟨o, es, ep, k _ o (Ne.symm hL) ho, r⟩
  . refine (I.hok b u e).stay (fun c v hc q => k c v ?_ q) (fun _ q => q) fun _ _ q => q
    rcases hc with z | z
    . rw [z]; exact nit b u e
    . exact nit c _ z
theorem Inv.tok (I : Inv X pins σ H s) (t : Nat) : Inv X pins σ H { s with toks := t } := I.un (h' := s.heap) (t' := t) Un.refl I.hok
theorem Inv.kept {t' : Nat} (I : Inv X pins σ H s) (k : ∀ b u, s.heap.get? b = some u -> h'.get? b = some u) : Inv X pins σ H { s with heap := h', toks := t' } := I.un (Un.kept k) (I.hok.kept k)
theorem Inv.laid {a : Addr} {o : HO} {t' : Nat} (I : Inv X pins σ H s) (k : ∀ b u, s.heap.get? b = some u -> h'.get? b = some u) (hp : s.heap.objs.size <= a) (new : ObjOk X.prog X.w (upd H a o) h' a o) :
    Inv X pins σ (upd H a o) { s with heap := h', toks := t' } := I.un (Un.laid k hp (I.hok.fresh hp)) (I.hok.laid k hp new)
theorem Inv.write {x e : Addr} {o : HO} {t' : Nat} (I : Inv X pins σ H s) (mu : Mut (H x)) (he : e = x \/ H e = some (.own x)) (k : ∀ b u, b ≠ e -> s.heap.get? b = some u -> h'.get? b = some u) (heo : ∃ u, h'.get? e = some u)
    (new : ObjOk X.prog X.w (upd H x o) h' x o) : Inv X pins σ (upd H x o) { s with heap := h', toks := t' } := I.un (Un.write mu he k heo) (I.hok.write mu he k heo new)
theorem Inv.pins_of {pins' : List (Addr × Obj)} (I : Inv X pins σ H s) (h : ∀ p ∈ pins', s.heap.get? p.1 = some p.2 /\ H p.1 = none /\ p.1 ≠ X.env.locals /\ p.1 ∉ X.fs /\ ∀ v, p.2.data ≠ .cell v) : Inv X pins' σ H s :=
  ⟨I.ok, I.os, I.bare, I.base, I.loc, I.cell, I.free, I.freeC, fun p hp => (List.mem_append.mp hp).elim (fun z => I.pin p (List.mem_append_left _ z)) (h p), I.hok, I.len⟩
theorem nodup_ix {N : List Str} (hN : N.Nodup) {i j : Nat} {x : Str} (a : N[i]? = some x) (b : N[j]? = some x) : i = j := by
  obtain ⟨h1, e1⟩ := List.getElem?_eq_some_iff.mp a
  obtain ⟨h2, e2⟩ := List.getElem?_eq_some_iff.mp b
  exact (List.getElem_inj hN).mp (e1.trans e2.symm)
theorem store_ok2 {M : Model} {A : Around} {E : Value -> Shared -> Prop} {i : Nat} {x : Str} {v : V} {u : Value} {Q : Unit -> Shared -> Prop} (I : Inv X pins σ H s) (hN : X.N.Nodup) (hi : X.N[i]? = some x) (hx : Loc X.env.scope x) (r : RelV v u)
    (h : ∀ s', Inv X pins (σ.set i (some v)) H s' -> (∃ a, Heap.SameBut a s.heap s'.heap /\ (a = X.env.locals \/ X.env.cells.lookup x = some a)) -> Q () s') (hf : X.fn x = true \/ X.env.scope.names.lookup x = some .local := by first | exact .inl rfl | exact .inr rfl | assumption) : wpAny M A (storeName X.env x u) Q E s := by
  obtain ⟨m, hn, hl⟩ := id I.loc
  have hcls : (X.env.scope.kind == .class || (X.env.scope.kind == .module && X.env.locals != X.env.globals)) = false := by rw [I.ok.kind]; rfl
  have hiσ : i < σ.length := by rw [I.len]; exact (List.getElem?_eq_some_iff.mp hi).1
  have cne := I.cne
  have tracked : ∀ {a : Addr} {h' : Heap}, (∃ o, s.heap.get? a = some o /\ H a = none) -> Heap.SameBut a s.heap h' -> HOk X.prog X.w H h' := fun {a h'} ha hs b ob e => by
    obtain ⟨_, _, hfree⟩ := ha
    refine (I.hok b ob e).stay (fun c w' hc q => (hs.2 c ?_).trans q) (fun _ q => q) fun _ _ q => q
    rintro rfl
    rcases hc with rfl | hc
    . rw [hfree] at e; cases e
    . rw [hfree] at hc; cases hc
  rcases hx with hk | hk
  . refine wpAny_storeName_local hk hn (fun h' hn' hs => ?_) hcls
    obtain ⟨oL, _, _, hoL, _⟩ := id hn
    refine h _ ⟨I.ok, I.os, I.bare, ⟨fun b o e n hb hx => ?_, fun b o e n hb hx => ?_, I.base.free, fun b o e hx => ?_, I.base.tups, I.base.frzs, I.base.tbls⟩, ⟨_, hn', fun j y v' e1 e2 e3 => ?_⟩, fun y c e => ?_, I.free, I.freeC, fun p hp => ?_, tracked ⟨oL, hoL, I.free⟩ hs, by simpa using I.len⟩ ⟨_, hs, .inl rfl⟩
    . exact (hs.2 b (Nat.ne_of_lt (Nat.lt_of_lt_of_le (Heap.lt_size e) I.ok.above))).trans (I.base.keep b o e n hb hx)
    . obtain ⟨sl, e1⟩ := I.base.slot b o e n hb hx
      exact ⟨sl, (hs.2 b (Nat.ne_of_lt (Nat.lt_of_lt_of_le (Heap.lt_size e) I.ok.above))).trans e1⟩
    . obtain ⟨o', e1⟩ := I.base.there b o e hx
      exact ⟨o', (hs.2 b (Nat.ne_of_lt (Nat.lt_of_lt_of_le (Heap.lt_size e) I.ok.above))).trans e1⟩
    . by_cases hj : j = i
      . subst hj
        rw [hi] at e1; cases e1
        rw [List.getElem?_set_self hiσ] at e2
        cases e2
        exact ⟨u, r, .inl ⟨hk, by simp⟩⟩
      . rw [List.getElem?_set_ne (Ne.symm hj)] at e2
        obtain ⟨u', r', q⟩ := hl j y v' e1 e2 e3
        refine ⟨u', r', ?_⟩
        rcases q with ⟨k, e⟩ | ⟨k, c, e, z⟩
        . refine .inl ⟨k, ?_⟩
          have : y ≠ x := fun e => hj (nodup_ix hN e1 (e ▸ hi))
          simp [this, e]
        . exact .inr ⟨k, c, e, z.sameBut hs (cne y c e)⟩
    . obtain ⟨w', z⟩ := I.cell y c e
      exact ⟨w', z.sameBut hs (cne y c e)⟩
    . obtain ⟨e, n, ne, nf, d⟩ := I.pin p hp
      exact ⟨(hs.2 p.1 ne).trans e, n, ne, nf, d⟩
  . have hfn : X.fn x = true := by
      rcases hf with z | z
      . exact z
      . rw [z] at hk; cases hk
    obtain ⟨c, hc⟩ := I.ok.has x (.inl hk)
    obtain ⟨w', z⟩ := I.cell x c hc
    refine wpAny_storeName_cell I.ok.kind hk hc z (fun h' hc' hs => ?_)
    obtain ⟨oc, hoc, hocd⟩ := id z
    refine h { s with heap := h' } ⟨I.ok, I.os, I.bare, ⟨fun b o e n hb hx => ?_, fun b o e n hb hx => ?_, I.base.free, fun b o e hx => ?_, I.base.tups, I.base.frzs, I.base.tbls⟩, ⟨m, hn.sameBut hs (Ne.symm (cne x c hc)), fun j y v' e1 e2 e3 => ?_⟩, fun y c' e => ?_, I.free, I.freeC, fun p hp => ?_, tracked ⟨oc, hoc, I.freeC x c hc⟩ hs, by simpa using I.len⟩ ⟨c, hs, .inr hc⟩
    . exact (hs.2 b (Nat.ne_of_lt (Nat.lt_of_lt_of_le (Heap.lt_size e) (I.ok.cab x c hfn hc)))).trans (I.base.keep b o e n hb hx)
    . obtain ⟨sl, e1⟩ := I.base.slot b o e n hb hx
      exact ⟨sl, (hs.2 b (Nat.ne_of_lt (Nat.lt_of_lt_of_le (Heap.lt_size e) (I.ok.cab x c hfn hc)))).trans e1⟩
    . obtain ⟨o', e1⟩ := I.base.there b o e hx
      exact ⟨o', (hs.2 b (Nat.ne_of_lt (Nat.lt_of_lt_of_le (Heap.lt_size e) (I.ok.cab x c hfn hc)))).trans e1⟩
    . by_cases hj : j = i
      . subst hj
        rw [hi] at e1; cases e1
        rw [List.getElem?_set_self hiσ] at e2
        cases e2
        exact ⟨u, r, .inr ⟨.inl hk, c, hc, hc'⟩⟩
      . rw [List.getElem?_set_ne (Ne.symm hj)] at e2
        obtain ⟨u', r', q⟩ := hl j y v' e1 e2 e3
        refine ⟨u', r', ?_⟩
        rcases q with q | ⟨k, c', e, z'⟩
        . exact .inl q
        . refine .inr ⟨k, c', e, z'.sameBut hs ?_⟩
          rintro rfl
          exact hj (nodup_ix hN e1 (I.ok.inj _ _ _ e hc ▸ hi))
    . by_cases hcc : c' = c
      . subst hcc; exact ⟨_, hc'⟩
      . obtain ⟨w2, z2⟩ := I.cell y c' e
        exact ⟨w2, z2.sameBut hs hcc⟩
    . obtain ⟨e, n, ne, nf, d⟩ := I.pin p hp
      refine ⟨(hs.2 p.1 ?_).trans e, n, ne, nf, d⟩
      intro q
      rw [q, hoc] at e
      have q' : oc = p.2 := Option.some.inj e
      exact d w' (by rw [<- q']; exact hocd)
theorem store_ok {M : Model} {A : Around} {E : Value -> Shared -> Prop} {i : Nat} {x : Str} {v : V} {u : Value} {Q : Unit -> Shared -> Prop} (I : Inv X pins σ H s) (hN : X.N.Nodup) (hi : X.N[i]? = some x) (hx : Loc X.env.scope x) (r : RelV v u)
    (h : ∀ s', Inv X pins (σ.set i (some v)) H s' -> Q () s') (hf : X.fn x = true \/ X.env.scope.names.lookup x = some .local := by first | exact .inl rfl | exact .inr rfl | assumption) : wpAny M A (storeName X.env x u) Q E s :=
  store_ok2 I hN hi hx r (fun s' I' _ => h s' I') hf
theorem Inv.call' {s' : Shared} {ch : List Addr} (I : Inv X pins σ H s) (ho : s'.os = s.os) (u : Un (frs X.stack) ch H H' s.heap s'.heap) (hok : HOk X.prog X.w H' s'.heap) (hg : AllBare s'.gens)
    (hch : ∀ b ∈ ch, (b ∈ X.ex \/ X.s₀.heap.objs.size <= b) /\ b ≠ X.env.locals /\ (∀ x c, X.env.cells.lookup x = some c -> c ≠ b) /\ ∀ p ∈ X.pn ++ pins, p.1 ≠ b) : Inv X pins σ H' s' := by
  obtain ⟨h', g', d', t', o'⟩ := s'
  have e : o' = s.os := ho
  subst e
  exact I.call (g' := g') (t' := t') (d' := d') u hok hg hch
end
abbrev XK := Value -> Option Addr -> Hp -> Prop
abbrev St := List (Option V)
abbrev VK := V -> Hp -> Prop
abbrev TE := St -> Hp -> VK -> Prop
abbrev TT := St -> Hp -> (Bool -> Hp -> Prop) -> Prop
abbrev TA := St -> Hp -> (List V -> Hp -> Prop) -> Prop
structure Ends where
  nx : St -> Hp -> Prop
  rt : VK
  bk : St -> Hp -> Prop := fun _ _ => False
  ct : St -> Hp -> Prop := fun _ _ => False
abbrev TS := Ends -> St -> Hp -> Prop
def EP (X : Cx) (pins : List (Addr × Obj)) (σ : St) (Q : VK) (u : Value) (s' : Shared) : Prop := ∃ v H', Inv X pins σ H' s' /\ RelV v u /\ Q v H'
def TP (X : Cx) (pins : List (Addr × Obj)) (σ : St) (Q : Bool -> Hp -> Prop) (b : Bool) (s' : Shared) : Prop := ∃ H', Inv X pins σ H' s' /\ Q b H'
def AP (X : Cx) (pins : List (Addr × Obj)) (σ : St) (Q : List V -> Hp -> Prop) (us : List Value) (s' : Shared) : Prop := ∃ vs H', Inv X pins σ H' s' /\ Vals vs us /\ Q vs H'
def SP (X : Cx) (pins : List (Addr × Obj)) (D : Ends) (f : Flow) (s' : Shared) : Prop :=
  match f with
  | .next => ∃ σ' H', Inv X pins σ' H' s' /\ D.nx σ' H'
  | .brk => ∃ σ' H', Inv X pins σ' H' s' /\ D.bk σ' H'
  | .cont => ∃ σ' H', Inv X pins σ' H' s' /\ D.ct σ' H'
  | .ret u => ∃ v σ' H', Inv X pins σ' H' s' /\ RelV v u /\ D.rt v H'
def PE (X : Cx) (e : Expr) (t : TE) : Prop :=
  ∀ (pins : List (Addr × Obj)) (s : Shared) (σ : St) (H : Hp) (Q : VK), Inv X pins σ H s -> t σ H Q -> wpAny (model X.prog X.w) X.A (eval e X.env) (EP X pins σ Q) X.xe s
def PT (X : Cx) (e : Expr) (t : TT) : Prop :=
  ∀ (pins : List (Addr × Obj)) (s : Shared) (σ : St) (H : Hp) (Q : Bool -> Hp -> Prop), Inv X pins σ H s -> t σ H Q -> wpAny (model X.prog X.w) X.A (isTrue e X.env (eval e X.env)) (TP X pins σ Q) X.xe s
def PW (X : Cx) (e : Expr) (t : TT) : Prop :=
  ∀ (whole : Sem Value) (pins : List (Addr × Obj)) (s : Shared) (σ : St) (H : Hp) (Q : Bool -> Hp -> Prop), Inv X pins σ H s -> t σ H Q -> wpAny (model X.prog X.w) X.A (isTrue e X.env whole) (TP X pins σ Q) X.xe s
theorem PW.pt {X : Cx} {e : Expr} {t : TT} (h : PW X e t) : PT X e t := h _
def PA (X : Cx) (es : List Expr) (t : TA) : Prop :=
  ∀ (pos : Pos) (pins : List (Addr × Obj)) (s : Shared) (σ : St) (H : Hp) (Q : List V -> Hp -> Prop), Inv X pins σ H s -> t σ H Q -> wpAny (model X.prog X.w) X.A (spliced (backTo pos (starEach es X.env))) (AP X pins σ Q) X.xe s
def PS (X : Cx) (st : Stmt) (t : TS) : Prop :=
  ∀ (pins : List (Addr × Obj)) (s : Shared) (σ : St) (H : Hp) (D : Ends), Inv X pins σ H s -> t D σ H -> wpAny (model X.prog X.w) X.A (exec st X.env) (SP X pins D) X.xe s
def PSs (X : Cx) (st : List Stmt) (t : TS) : Prop :=
  ∀ (pins : List (Addr × Obj)) (s : Shared) (σ : St) (H : Hp) (D : Ends), Inv X pins σ H s -> t D σ H -> wpAny (model X.prog X.w) X.A (execs st X.env) (SP X pins D) X.xe s
theorem thn {α : Type} {t : Sem α} {Q Q' : α -> Shared -> Prop} {M : Model} {A : Around} {E : Value -> Shared -> Prop} {s : Shared} (h : wpAny M A t Q E s) (hQ : ∀ a s, Q a s -> Q' a s) : wpAny M A t Q' E s := wpAny_mono h hQ fun _ _ x => x
end L2
namespace L2
open PySem PySem.Spec PyProof.Rows
section
variable {X : Cx}
def tVar (i : Nat) : TE := fun σ H Q => ∃ v, σ[i]? = some (some v) /\ Q v H
def tC (v : V) : TE := fun _ H Q => Q v H
theorem pe_var {i : Nat} {x : Str} {pos : Pos} (hN : X.N[i]? = some x) (hv : Vis X.env.scope x) (hd : (x == ("__debug__" : Str)) = false := by decide) (hcd : (x == ("__classdict__" : Str)) = false := by decide) : PE X (.Name x pos) (tVar i) := by
  intro pins s σ H Q I h
  obtain ⟨v, e, h⟩ := h
  obtain ⟨m, hn, hl⟩ := I.loc
  obtain ⟨u, r, l⟩ := hl i x v hN e hv
  have fin : EP X pins σ Q u s := ⟨v, H, I, r, h⟩
  rcases l with ⟨hk, hm⟩ | ⟨hk, c, hc, hcell⟩
  . exact wpAny_Name (wpAny_loadName_local I.ok.kind hk hn hm fin) hd
  . rcases hk with hk | hk
    . exact wpAny_Name (wpAny_loadName_cell I.ok.kind hk hc hcell fin) hd
    . exact wpAny_Name (wpAny_loadName_free I.ok.kind hk hc hcell fin hcd) hd
theorem pe_int {i j pos} : PE X (.Constant (.int i) j pos) (tC (.int i)) := fun _ _ _ H _ I h => wpAny_Constant_int ⟨.int i, H, I.tok _, ⟨_, rfl⟩, h⟩
theorem pe_bl {b j pos} : PE X (.Constant (.bool b) j pos) (tC (.bl b)) := fun _ _ _ H _ I h => Constant_bool ⟨.bl b, H, I, rfl, h⟩
theorem pe_non {j pos} : PE X (.Constant .none j pos) (tC .non) := fun _ _ _ H _ I h => Constant_none ⟨.non, H, I, rfl, h⟩
theorem pe_str {x j pos} : PE X (.Constant (.str x) j pos) (tC (.str x)) := fun _ _ _ H _ I h => Calls.Constant_str ⟨.str x, H, I.tok _, ⟨_, rfl⟩, h⟩
def Gl (X : Cx) (x : Str) : Prop := X.env.kindOf x = some .globalImplicit
theorem ld_glob {E : Value -> Shared -> Prop} {pins : List (Addr × Obj)} {s : Shared} {σ : St} {H : Hp} {x : Str} {u : Value} {pos : Pos} {Q : Value -> Shared -> Prop} (I : Inv X pins σ H s) (hg : Gl X x) (hm : X.mg x = some u) (h : Q u s)
    (hd : (x == ("__debug__" : Str)) = false := by decide) : wpAny (model X.prog X.w) X.A (eval (.Name x pos) X.env) Q E s :=
  Calls.Name_function_global I.ok.kind hg (Calls.loadGlobal_global (by rw [I.ok.glob]; exact I.mod.glob.keeps I.bk) hm h) hd
theorem ld_blt {E : Value -> Shared -> Prop} {pins : List (Addr × Obj)} {s : Shared} {σ : St} {H : Hp} {x : Str} {u : Value} {pos : Pos} {Q : Value -> Shared -> Prop} (I : Inv X pins σ H s) (hg : Gl X x) (hm : X.mg x = none) (hv : bootBuiltins x = some u) (h : Q u s)
    (hn : x ≠ "__name__" := by decide) (hd : (x == ("__debug__" : Str)) = false := by decide) : wpAny (model X.prog X.w) X.A (eval (.Name x pos) X.env) Q E s := by
  obtain ⟨mb, h1, h2⟩ := I.mod.blt
  exact Calls.Name_function_global I.ok.kind hg (Calls.loadGlobal_builtin (by rw [I.ok.glob]; exact I.mod.glob.keeps I.bk) hm (by rw [I.ok.blt]; exact h1.keeps I.bk) ((h2 x hn).trans hv) h) hd
theorem pe_glob {x : Str} {v : V} {u : Value} {pos : Pos} (hg : Gl X x) (hm : X.mg x = some u) (r : RelV v u) (hd : (x == ("__debug__" : Str)) = false := by decide) : PE X (.Name x pos) (tC v) :=
  fun _ _ _ H _ I h => ld_glob I hg hm ⟨v, H, I, r, h⟩ hd
theorem pe_bltn {x : Str} {v : V} {u : Value} {pos : Pos} (hg : Gl X x) (hm : X.mg x = none) (hv : bootBuiltins x = some u) (r : RelV v u) (hn : x ≠ "__name__" := by decide) (hd : (x == ("__debug__" : Str)) = false := by decide) : PE X (.Name x pos) (tC v) :=
  fun _ _ _ H _ I h => ld_blt I hg hm hv ⟨v, H, I, r, h⟩ hn hd
variable {a b : Expr} {ta tb : TE} {pos : Pos}
def PC (X : Cx) (op : CmpOp) (a b : Expr) (t : TE) : Prop :=
  ∀ (pins : List (Addr × Obj)) (s : Shared) (σ : St) (H : Hp) (Q : VK), Inv X pins σ H s -> t σ H Q ->
    wpAny (model X.prog X.w) X.A (eval a X.env) (fun v s₁ => wpAny (model X.prog X.w) X.A (eval b X.env) (fun u s₂ => wpAny (model X.prog X.w) X.A (compareOp op v u) (EP X pins σ Q) X.xe s₂) X.xe s₁) X.xe s
def tB (t : TE) : TT := fun σ H Q => t σ H fun x H1 => ∃ c, x = .bl c /\ Q c H1
theorem pt_cmp {op : CmpOp} {t : TE} (h : PC X op a b t) (h1 : behindInMarks op b = false := by first | exact nobehind _ (by decide) (by decide) | rfl) : PT X (.Compare a [op] [b] pos) (tB t) := by
  intro pins s σ H Q I hw
  refine wpAny_isTrue_Compare1 (thn (h pins s σ H _ I hw) fun v s1 h1 => thn h1 fun u s2 h2 => thn h2 fun c s3 ⟨x, H1, I1, r1, q1⟩ => ?_) h1
  obtain ⟨d, rfl, q⟩ := q1
  cases r1
  exact wpAny_truthy_bool ⟨H1, I1, q⟩
theorem pt_val {e : Expr} {t : TE} (h : PE X e t) (he : ∀ whole, isTrue e X.env whole = (do let v <- whole; standAt e.pos; holding [v] (truthy v)) := by intro _; rfl) : PT X e (tB t) := by
  intro pins s σ H Q I hw
  refine isTrue_plain (thn (h pins s σ H _ I hw) fun v s1 ⟨x, H1, I1, r1, q1⟩ => ?_) (he _)
  obtain ⟨d, rfl, q⟩ := q1
  cases r1
  exact wpAny_truthy_bool ⟨H1, I1, q⟩
variable {tA tB' : TT} {rest : List Expr}
def tAnd (t u : TT) : TT := fun σ H Q => t σ H fun c H1 => if c = true then u σ H1 Q else Q false H1
def tOr (t u : TT) : TT := fun σ H Q => t σ H fun c H1 => if c = true then Q true H1 else u σ H1 Q
def tNot (t : TT) : TT := fun σ H Q => t σ H fun c H1 => Q (!c) H1
theorem pw_or1 (ha : PT X a tA) : PW X (.BoolOp .Or [a] pos) tA := by
  intro wh pins s σ H Q I h
  refine isTrue_or (thn (ha pins s σ H Q I h) fun c s1 e => ?_)
  cases c with
  | false => exact isTrue_or_nil e
  | true => exact e
theorem pw_or (ha : PT X a tA) (hb : PW X (.BoolOp .Or (b :: rest) pos) tB') : PW X (.BoolOp .Or (a :: b :: rest) pos) (tOr tA tB') := by
  intro wh pins s σ H Q I h
  refine isTrue_or (thn (ha pins s σ H _ I h) fun c s1 ⟨H1, I1, q1⟩ => ?_)
  cases c with
  | true => exact ⟨H1, I1, q1⟩
  | false => exact hb wh pins s1 σ H1 Q I1 q1
theorem pt_not (ha : PT X a tA) : PT X (.UnaryOp .Not a pos) (tNot tA) := by
  intro pins s σ H Q I h
  exact isTrue_not (ha pins s σ H (fun c H1 => Q (!c) H1) I h)
def tAndV (ta tb : TE) : TE := fun σ H Q => ta σ H fun x H1 => ∃ c, x = .bl c /\ if c = true then tb σ H1 Q else Q (.bl false) H1
def tOrV (ta tb : TE) : TE := fun σ H Q => ta σ H fun x H1 => ∃ c, x = .bl c /\ if c = true then Q (.bl true) H1 else tb σ H1 Q
def tNotV (ta : TE) : TE := fun σ H Q => ta σ H fun x H1 => ∃ c, x = .bl c /\ Q (.bl (!c)) H1
def tIf (t : TT) (ta tb : TE) : TE := fun σ H Q => t σ H fun c H1 => if c = true then ta σ H1 Q else tb σ H1 Q
theorem pe_ifExp {c : Expr} (hc : PT X c tA) (ha : PE X a ta) (hb : PE X b tb) : PE X (.IfExp c a b pos) (tIf tA ta tb) := by
  intro pins s σ H Q I h
  refine wpAny_IfExp (thn (hc pins s σ H _ I h) fun d s1 ⟨H1, I1, q1⟩ => ?_)
  cases d with
  | true => exact ha pins s1 σ H1 Q I1 q1
  | false => exact hb pins s1 σ H1 Q I1 q1
end
end L2
namespace L2
open PySem PySem.Spec PyProof.Rows
def SqL (K : PySem.W.Frag) (H : Hp) (a : Addr) (xs : List V) : Prop :=
  Rd H a (.lst xs) \/
    ∃ (o : Obj) (its : Array Value) (n : Nat), K.lookup a = some o /\ o.cls = .type "list" /\ o.dict = none /\ o.data = .seq its n /\ its.size <= sizeLine /\ Vals xs its.toList
def SqT (K : PySem.W.Frag) (H : Hp) (a : Addr) (xs : List V) : Prop :=
  Rd H a (.tup xs) \/
    ∃ (o : Obj) (its : Array Value) (n : Nat), K.lookup a = some o /\ o.cls = .type "tuple" /\ o.data = .seq its n /\ its.size <= sizeLine /\ Vals xs its.toList
def absV : Value -> Option V
  | .none => some .non
  | .bool b => some (.bl b)
  | .int i _ => some (.int i)
  | .str x _ => some (.str x)
  | .bytes b _ => some (.byt b)
  | .float b _ => some (.flt b)
  | .ref a => some (.ref a)
  | .type n => some (.ty n)
  | _ => none
theorem RelV.abs {x : V} {u : Value} (r : RelV x u) : absV u = some x := by
  cases x with
  | non => cases r; rfl
  | bl _ => cases r; rfl
  | int _ => obtain ⟨t, rfl⟩ := r; rfl
  | str _ => obtain ⟨t, rfl⟩ := r; rfl
  | byt _ => obtain ⟨t, rfl⟩ := r; rfl
  | flt _ => obtain ⟨t, rfl⟩ := r; rfl
  | ref _ => cases r; rfl
  | ty _ => cases r; rfl
theorem RelV.inj {x y : V} {u : Value} (r : RelV x u) (q : RelV y u) : x = y := Option.some.inj (r.abs.symm.trans q.abs)
theorem Vals.inj : ∀ {xs ys : List V} {us : List Value}, Vals xs us -> Vals ys us -> xs = ys
  | _, _, _, .nil, .nil => rfl
  | _, _, _, .cons r t, .cons r' t' => by rw [r.inj r', Vals.inj t t']
section
variable {X : Cx} {pins : List (Addr × Obj)} {σ : St} {H : Hp} {s : Shared} {a : Addr} {xs ys : List V}
theorem SqL.of {K : PySem.W.Frag} (h : H a = some (.lst xs)) : SqL K H a xs := .inl (.inl h)
theorem SqT.of {K : PySem.W.Frag} (h : H a = some (.tup xs)) : SqT K H a xs := .inl (.inl h)
theorem Inv.list (I : Inv X pins σ H s) (h : SqL X.K H a xs) : ∃ its : List Value, Vals xs its /\ PlainL s.heap a its.toArray /\ xs.length <= sizeLine := by
  rcases h with h | ⟨o, its, n, hk, hc, hd, hs, hz, r⟩
  . obtain ⟨z, its, n, r, e⟩ := h.ok I.hok
    exact ⟨its, r, ⟨_, n, e, rfl, rfl, rfl⟩, z⟩
  . refine ⟨its.toList, r, ⟨o, n, I.kIn a o hk, hc, hd, by simpa using hs⟩, ?_⟩
    have e := r.length
    simp only [Array.length_toList] at e
    omega
theorem Inv.tuple (I : Inv X pins σ H s) (h : SqT X.K H a xs) : ∃ its : List Value, Vals xs its /\ IsTup s.heap a its.toArray /\ xs.length <= sizeLine := by
  rcases h with h | ⟨o, its, n, hk, hc, hs, hz, r⟩
  . obtain ⟨⟨z, _⟩, its, r, p⟩ := h.ok I.hok
    exact ⟨its, r, p, z⟩
  . refine ⟨its.toList, r, ⟨o, I.kIn a o hk, hc, n, by simpa using hs⟩, ?_⟩
    have e := r.length
    simp only [Array.length_toList] at e
    omega
theorem Inv.list_inj (I : Inv X pins σ H s) (h : SqL X.K H a xs) (h' : SqL X.K H a ys) : xs = ys := by
  obtain ⟨its, r, ⟨o, n, e, _, _, d⟩, _⟩ := I.list h
  obtain ⟨its', r', ⟨o', n', e', _, _, d'⟩, _⟩ := I.list h'
  rw [e] at e'; cases e'
  rw [d] at d'
  injection d' with d1 _
  have : its = its' := by simpa using congrArg Array.toList d1
  subst this
  exact r.inj r'
theorem Inv.tuple_inj (I : Inv X pins σ H s) (h : SqT X.K H a xs) (h' : SqT X.K H a ys) : xs = ys := by
  obtain ⟨its, r, ⟨o, e, _, n, d⟩, _⟩ := I.tuple h
  obtain ⟨its', r', ⟨o', e', _, n', d'⟩, _⟩ := I.tuple h'
  rw [e] at e'; cases e'
  rw [d] at d'
  injection d' with d1 _
  have : its = its' := by simpa using congrArg Array.toList d1
  subst this
  exact r.inj r'
end
abbrev Cx.wish (X : Cx) (E : Value -> Shared -> Prop) : Cx := { X with xe := E }
abbrev Cx.nox (X : Cx) : Cx := X.wish fun _ _ => False
theorem Cx.Ok.wish {X : Cx} (ok : X.Ok) (E : Value -> Shared -> Prop) : (X.wish E).Ok :=
  ⟨ok.mod, ok.kind, ok.glob, ok.blt, ok.above, ok.inj, ok.has, ok.cab, ok.hd, ok.frames, ok.stk, ok.exf, ok.bs, ok.bsz, ok.noex, ok.exfs, ok.funs, ok.frf⟩
theorem Cx.Ok.unwish {X : Cx} {E : Value -> Shared -> Prop} (ok : (X.wish E).Ok) : X.Ok :=
  ⟨ok.mod, ok.kind, ok.glob, ok.blt, ok.above, ok.inj, ok.has, ok.cab, ok.hd, ok.frames, ok.stk, ok.exf, ok.bs, ok.bsz, ok.noex, ok.exfs, ok.funs, ok.frf⟩
section
variable {X : Cx} {pins : List (Addr × Obj)} {σ : St} {H : Hp} {s : Shared} {E : Value -> Shared -> Prop}
theorem Inv.wish (I : Inv X pins σ H s) (E : Value -> Shared -> Prop) : Inv (X.wish E) pins σ H s := ⟨I.ok.wish E, I.os, I.bare, I.base, I.loc, I.cell, I.free, I.freeC, I.pin, I.hok, I.len⟩
theorem Inv.unwish (I : Inv (X.wish E) pins σ H s) : Inv X pins σ H s := ⟨I.ok.unwish, I.os, I.bare, I.base, I.loc, I.cell, I.free, I.freeC, I.pin, I.hok, I.len⟩
theorem SP.unwish {D : Ends} {f : Flow} {s' : Shared} (h : SP (X.wish E) pins D f s') : SP X pins D f s' := by
  cases f with
  | next => obtain ⟨σ', H', I, q⟩ := h; exact ⟨σ', H', I.unwish, q⟩
  | brk => obtain ⟨σ', H', I, q⟩ := h; exact ⟨σ', H', I.unwish, q⟩
  | cont => obtain ⟨σ', H', I, q⟩ := h; exact ⟨σ', H', I.unwish, q⟩
  | ret u => obtain ⟨v, σ', H', I, r, q⟩ := h; exact ⟨v, σ', H', I.unwish, r, q⟩
theorem PSs.nox {st : List Stmt} {t : TS} (h : PSs X.nox st t) : PSs X st t := fun pins s σ H D I hw =>
  wpAny_mono (h pins s σ H D (I.wish _) hw) (fun _ _ q => q.unwish) fun _ _ z => False.elim z
end
section
variable {X : Cx} {st : Stmt} {rest : List Stmt} {t u : TS} {e : Expr} {te : TE} {pos : Pos}
def tNext : TS := fun D σ H => D.nx σ H
def tSeq (t u : TS) : TS := fun D σ H => t { D with nx := u D } σ H
theorem pss_nil : PSs X [] tNext := fun _ _ σ H _ I h => wpAny_execs_nil ⟨σ, H, I, h⟩
theorem pss_cons (h1 : PS X st t) (h2 : PSs X rest u) : PSs X (st :: rest) (tSeq t u) := by
  intro pins s σ H D I h
  refine wpAny_execs_cons (thn (h1 pins s σ H { D with nx := u D } I h) fun f s1 q => ?_)
  cases f with
  | next =>
    obtain ⟨σ', H', I', q⟩ := q
    exact h2 pins s1 σ' H' D I' q
  | ret v => exact q
  | brk => exact q
  | cont => exact q
theorem pss_one (h1 : PS X st t) : PSs X [st] t := by
  intro pins s σ H D I h
  refine wpAny_execs_cons (thn (h1 pins s σ H D I h) fun f s1 q => ?_)
  cases f with
  | next => exact wpAny_execs_nil q
  | ret v => exact q
  | brk => exact q
  | cont => exact q
theorem Inv.quiet {pins : List (Addr × Obj)} {σ : St} {H : Hp} {s : Shared} (I : Inv X pins σ H s) : interactive X.env = false := by simp [interactive, I.ok.kind]
def tDrop (te : TE) : TS := fun D σ H => te σ H fun _ H1 => D.nx σ H1
theorem ps_expr (he : PE X e te) (hs : swapsWith e none pos.line X.env = pure false := by rfl) : PS X (.Expr e pos) (tDrop te) := by
  intro pins s σ H D I h
  exact wpAny_Expr_any (thn (he pins s σ H _ I h) fun v s1 ⟨x, H1, I1, r1, q1⟩ => ⟨σ, H1, I1, q1⟩) I.quiet hs
def tRet (te : TE) : TS := fun D σ H => te σ H D.rt
theorem ps_ret (he : PE X e te) : PS X (.Return (some e) pos) (tRet te) := by
  intro pins s σ H D I h
  exact wpAny_Return_some (thn (he pins s σ H _ I h) fun v s1 ⟨x, H1, I1, r1, q1⟩ => ⟨x, σ, H1, I1, r1, q1⟩)
def tRetN : TS := fun D _ H => D.rt .non H
def tIfS (c : TT) (t u : TS) : TS := fun D σ H => c σ H fun b H1 => if b = true then t D σ H1 else u D σ H1
theorem ps_if {c : Expr} {a b : List Stmt} {tc : TT} (hc : PT X c tc) (ha : PSs X a t) (hb : PSs X b u) : PS X (.If c a b pos) (tIfS tc t u) := by
  intro pins s σ H D I h
  refine wpAny_If (thn (hc pins s σ H _ I h) fun d s1 ⟨H1, I1, q1⟩ => ?_)
  cases d with
  | true => exact ha pins s1 σ H1 D I1 q1
  | false => exact hb pins s1 σ H1 D I1 q1
end
abbrev TG := V -> St -> Hp -> (St -> Hp -> Prop) -> Prop
abbrev TGs := List V -> St -> Hp -> (St -> Hp -> Prop) -> Prop
def PG (X : Cx) (target : Expr) (t : TG) : Prop :=
  ∀ (pins : List (Addr × Obj)) (s : Shared) (σ : St) (H : Hp) (v : V) (u : Value) (Q : St -> Hp -> Prop), Inv X pins σ H s -> RelV v u -> t v σ H Q ->
    wpAny (model X.prog X.w) X.A (assign target X.env u) (fun _ s' => ∃ σ' H', Inv X pins σ' H' s' /\ Q σ' H') X.xe s
def PGs (X : Cx) (ts : List Expr) (t : TGs) : Prop :=
  ∀ (pins : List (Addr × Obj)) (s : Shared) (σ : St) (H : Hp) (vs : List V) (us : List Value) (Q : St -> Hp -> Prop), Inv X pins σ H s -> Vals vs us -> t vs σ H Q ->
    wpAny (model X.prog X.w) X.A (assignInOrder ((assignEach ts X.env).map (·.2)) us) (fun _ s' => ∃ σ' H', Inv X pins σ' H' s' /\ Q σ' H') X.xe s
section
variable {X : Cx} {pos : Pos}
def gName (i : Nat) : TG := fun v σ H Q => Q (σ.set i (some v)) H
theorem pg_name {i : Nat} {x : Str} (hN : X.N.Nodup) (hi : X.N[i]? = some x) (hx : Loc X.env.scope x) (hf : X.fn x = true \/ X.env.scope.names.lookup x = some .local := by first | exact .inl rfl | exact .inr rfl | assumption) : PG X (.Name x pos) (gName i) := by
  intro pins s σ H v u Q I r h
  exact wpAny_assign_Name (store_ok I hN hi hx r (fun s' I' => ⟨_, H, I', h⟩) hf)
def gNil : TGs := fun vs σ H Q => vs = [] /\ Q σ H
def gCons (t : TG) (u : TGs) : TGs := fun vs σ H Q => ∃ v r, vs = v :: r /\ t v σ H fun σ' H' => u r σ' H' Q
theorem pgs_nil : PGs X [] gNil := by
  intro pins s σ H vs us Q I r h
  obtain ⟨e, h⟩ := h
  subst e
  cases r
  exact assignInOrder_nil ⟨σ, H, I, h⟩
theorem pgs_cons {e : Expr} {es : List Expr} {t : TG} {u : TGs} (h1 : PG X e t) (h2 : PGs X es u)
    (hs : (assignEach (e :: es) X.env).map (·.2) = assign e X.env :: (assignEach es X.env).map (·.2) := by rfl) : PGs X (e :: es) (gCons t u) := by
  intro pins s σ H vs us Q I r h
  obtain ⟨v, vr, e1, h⟩ := h
  subst e1
  cases r with
  | cons r rr =>
    rw [hs]
    refine assignInOrder_cons (thn (h1 pins s σ H _ _ _ I r h) fun _ s1 ⟨σ1, H1, I1, q1⟩ => ?_)
    exact h2 pins s1 σ1 H1 _ _ Q I1 rr q1
def gTup (K : PySem.W.Frag) (n : Nat) (t : TGs) : TG := fun v σ H Q => ∃ a xs, v = .ref a /\ SqT K H a xs /\ xs.length = n /\ t xs σ H Q
theorem pg_tup {es : List Expr} {k : Nat} {t : TGs} {n : Nat} (hc : X.calm = true) (h : PGs X es t)
    (hn : (assignEach es X.env).length = n := by rfl) (hst : (assignEach es X.env).findIdx? (·.1) = none := by rfl) : PG X (.Tuple es k pos) (gTup X.K n t) := by
  intro pins s σ H v u Q I r hw
  obtain ⟨a, xs, e1, hq, hl, hw⟩ := hw
  subst e1
  cases r
  obtain ⟨its, rv, ht, hz⟩ := I.tuple hq
  refine assign_Tuple_tuple (I.ok.hd hc) ht (by simp [hn, <- hl, rv.length]) hst fun h' hx => ?_
  have I1 : Inv X pins σ H { s with heap := h' } := I.kept (t' := s.toks) fun b o e => hx b o (Nat.ne_of_lt (Heap.lt_size e)) e
  exact h pins _ σ H xs _ Q I1 (by simpa using rv) hw
def tAsg (te : TE) (g : TG) : TS := fun D σ H => te σ H fun x H1 => g x σ H1 D.nx
theorem ps_asg {tg e : Expr} {te : TE} {g : TG} (he : PE X e te) (hg : PG X tg g) (hs : swapsWithSole [tg] e pos.line X.env = pure false := by rfl) (hw : swappedStores [tg] e X.env = pure none := by rfl)
    (h1 : (assignEach [tg] X.env).map (·.2) = [assign tg X.env] := by rfl) : PS X (.Assign [tg] e pos) (tAsg te g) := by
  intro pins s σ H D I h
  refine wpAny_Assign_stores (thn (he pins s σ H _ I h) fun v s1 ⟨x, H1, I1, r1, q1⟩ => ?_) hs hw
  rw [h1]
  exact thn (hg pins s1 σ H1 x v _ I1 r1 q1) fun _ s2 q => q
theorem ps_set {i : Nat} {x : Str} {e : Expr} {te : TE} {pos' : Pos} (hN : X.N.Nodup) (hi : X.N[i]? = some x) (hx : Loc X.env.scope x) (he : PE X e te) (hs : swapsWith e (some (.Name x pos')) pos.line X.env = pure false := by rfl) (hf : X.fn x = true \/ X.env.scope.names.lookup x = some .local := by first | exact .inl rfl | exact .inr rfl | assumption) :
    PS X (.Assign [.Name x pos'] e pos) (tAsg te (gName i)) := by
  intro pins s σ H D I h
  refine wpAny_Assign_Name (thn (he pins s σ H _ I h) fun v s1 ⟨y, H1, I1, r1, q1⟩ => ?_) hs
  exact store_ok I1 hN hi hx r1 (fun s2 I2 => ⟨_, H1, I2, q1⟩) hf
end
section
variable {X : Cx} {pos : Pos}
end
structure It where
  go : Nat -> Hp -> Prop
  yld : Nat -> Hp -> V -> Hp -> Prop
  stop : Nat -> Hp -> Prop
def FpOk (X : Cx) (pins : List (Addr × Obj)) (H : Hp) (b : Addr) : Prop :=
  H b = none /\ b ≠ X.env.locals /\ b ∉ X.fs /\ (b ∈ X.ex \/ X.s₀.heap.objs.size <= b) /\ (∀ x c, X.env.cells.lookup x = some c -> c ≠ b) /\ ∀ p ∈ X.pn ++ pins, p.1 ≠ b
theorem Inv.fpOk {X : Cx} {pins : List (Addr × Obj)} {σ : St} {H H' : Hp} {s : Shared} {b : Addr} (I : Inv X pins σ H s) (hb : s.heap.objs.size <= b) (hn : H' b = none) : FpOk X pins H' b := by
  refine ⟨hn, Nat.ne_of_gt (Nat.lt_of_lt_of_le I.lt hb), I.nofs hb, .inr (Nat.le_trans I.sz hb), fun x c e z => ?_, fun p hp z => ?_⟩
  . obtain ⟨v, q⟩ := I.cell x c e
    exact absurd (Nat.lt_of_lt_of_le q.lt (by rw [z]; exact hb)) (Nat.lt_irrefl _)
  . exact absurd (Nat.lt_of_lt_of_le (Heap.lt_size (I.pin p hp).1) (by rw [z]; exact hb)) (Nat.lt_irrefl _)
structure Turn (P : Program) (w : World) (K : PySem.W.Frag) (tg : Expr) (J : It) (fp : List Addr) (it : Addr) (tn : Nat -> Heap -> Prop) : Prop where
  mem : it ∈ fp
  obj : ∀ i h, tn i h -> ∀ b ∈ fp, ∃ o, h.get? b = some o /\ ∀ v, o.data ≠ .cell v
  keep : ∀ i h h', tn i h -> (∀ b ∈ fp, ∀ o, h.get? b = some o -> h'.get? b = some o) -> tn i h'
  item : ∀ (X : Cx), X.prog = P -> X.w = w -> X.K = K -> X.calm = true -> ∀ (i : Nat) (pins : List (Addr × Obj)) (s : Shared) (σ : St) (H : Hp) (E : Value -> Shared -> Prop), Inv X pins σ H s -> (∀ b ∈ fp, FpOk X pins H b) -> tn i s.heap -> J.go i H ->
    wpAny (model P w) X.A (pyNext (.ref it)) (fun r s1 => ∃ u, r = some u /\
      wpAny (model P w) X.A (letOwnedTupleGo tg (.ref it) u) (fun _ s2 => ∃ x H', Inv X pins σ H' s2 /\ RelV x u /\ J.yld i H x H' /\ tn (i + 1) s2.heap /\ ∀ b ∈ fp, H' b = none) E s1) E s
  done : ∀ (X : Cx), X.prog = P -> X.w = w -> X.K = K -> X.calm = true -> ∀ (i : Nat) (pins : List (Addr × Obj)) (s : Shared) (σ : St) (H : Hp) (E : Value -> Shared -> Prop), Inv X pins σ H s -> (∀ b ∈ fp, FpOk X pins H b) -> tn i s.heap -> J.stop i H ->
    wpAny (model P w) X.A (pyNext (.ref it)) (fun r s1 => r = none /\ Inv X pins σ H s1) E s
  self : ∀ (A : Around) (i : Nat) (s : Shared) (Q : Value -> Shared -> Prop) (E : Value -> Shared -> Prop), tn i s.heap -> Q (.ref it) s -> wpAny (model P w) A (pyIter (.ref it)) Q E s
abbrev TI := St -> Hp -> (It -> Hp -> Prop) -> Prop
def PIE (X : Cx) (pins : List (Addr × Obj)) (σ : St) (tg : Expr) (R : It -> Hp -> Prop) (itv : Value) (s2 : Shared) : Prop :=
  ∃ (it : Addr) (fp : List Addr) (tn : Nat -> Heap -> Prop) (J : It) (H' : Hp), itv = .ref it /\ Inv X pins σ H' s2 /\ Turn X.prog X.w X.K tg J fp it tn /\ tn 0 s2.heap /\ (∀ b ∈ fp, FpOk X pins H' b) /\ R J H'
def PI (X : Cx) (tg iter : Expr) (wi : TI) : Prop :=
  ∀ (pins : List (Addr × Obj)) (s : Shared) (σ : St) (H : Hp) (R : It -> Hp -> Prop), Inv X pins σ H s -> wi σ H R ->
    wpAny (model X.prog X.w) X.A (eval iter X.env) (fun v s1 => wpAny (model X.prog X.w) X.A (pyIter v) (PIE X pins σ tg R) X.xe s1) X.xe s
theorem go_of {M : Model} {A : Around} {E : Value -> Shared -> Prop} {s : Shared} {tg : Expr} {it : Addr} {u : Value} {o : Obj} {n : String} {vs : Array Value} {Q : Unit -> Shared -> Prop} (ho : s.heap.get? it = some o) (hc : o.cls = .type n) (hd : o.data = .fields vs)
    (hn : ["enumerate", "zip", "dict_itemiterator", "dict_reverseitemiterator", "odict_iterator", "itertools.zip_longest", "itertools.pairwise"].contains n = false) (hQ : Q () s) : wpAny M A (letOwnedTupleGo tg (.ref it) u) Q E s := by
  unfold letOwnedTupleGo
  cases tg <;> first
    | exact wpAny_pure hQ
    | (cases u <;> first
        | exact wpAny_pure hQ
        | (refine wpAny_bind (wpAny_load ho ?_)
           rw [hc, hd]
           show wpAny M A (if (["enumerate", "zip", "dict_itemiterator", "dict_reverseitemiterator", "odict_iterator", "itertools.zip_longest", "itertools.pairwise"].contains n && vs[0]? == some (rawInt _)) = true then _ else _) Q E s
           rw [if_neg (by intro h; rw [hn, Bool.false_and] at h; cases h)]
           exact wpAny_pure hQ))
def Itl (K : PySem.W.Frag) (a : Addr) : It :=
  ⟨fun i H => ∃ xs x, SqL K H a xs /\ xs[i]? = some x, fun i H x H' => H' = H /\ ∀ xs, SqL K H a xs -> xs[i]? = some x, fun i H => ∃ xs, SqL K H a xs /\ xs.length <= i⟩
def Itt (K : PySem.W.Frag) (a : Addr) : It :=
  ⟨fun i H => ∃ xs x, SqT K H a xs /\ xs[i]? = some x, fun i H x H' => H' = H /\ ∀ xs, SqT K H a xs -> xs[i]? = some x, fun i H => ∃ xs, SqT K H a xs /\ xs.length <= i⟩
def Itr (lo : Int) (n : Nat) : It := ⟨fun i _ => i < n, fun i H x H' => H' = H /\ x = .int (lo + i), fun i _ => n <= i⟩
theorem turn_list {P : Program} {w : World} {K : PySem.W.Frag} {tg : Expr} (a it : Addr) : Turn P w K tg (Itl K a) [it] it (fun i h => h.IsListIter it a i) where
  mem := by simp
  obj := fun i h st b hb => by
    have e : b = it := by simpa using hb
    subst e
    obtain ⟨o, e, c, d⟩ := st
    exact ⟨o, e, fun v z => by rw [d] at z; cases z⟩
  keep := fun i h h' st k => st.at fun o e => k it (by simp) o e
  item := by
    intro X hP hw hK hc i pins s σ H E I hf st hg
    subst hP hw hK
    obtain ⟨xs, x, hq, hx⟩ := hg
    obtain ⟨its, rv, p, hz⟩ := I.list hq
    obtain ⟨u, hu, ru⟩ := rv.get hx
    obtain ⟨f0, f1, f2, f3, f4, f5⟩ := hf it (by simp)
    refine wpAny_pyNext_list_item st p.isList (x := u) (by simpa using hu) fun h' st' sb => ?_
    have I1 : Inv X pins σ H { s with heap := h' } := I.turned (t' := s.toks) (fun b o hb e => (sb.2 b hb).trans e) f0 f1 f3 f4 f5
    obtain ⟨o, e, c, d⟩ := id st'
    exact ⟨u, rfl, go_of (s := { s with heap := h' }) e c d (by decide) ⟨x, H, I1, ru, ⟨rfl, fun ys hy => by rw [I.list_inj hy hq]; exact hx⟩, st', fun b hb => (hf b hb).1⟩⟩
  done := by
    intro X hP hw hK hc i pins s σ H E I hf st hg
    subst hP hw hK
    obtain ⟨xs, hq, hx⟩ := hg
    obtain ⟨its, rv, p, hz⟩ := I.list hq
    obtain ⟨f0, f1, f2, f3, f4, f5⟩ := hf it (by simp)
    have hl := rv.length
    exact wpAny_pyNext_list_end (I.ok.hd hc) st p.isList (by simp; omega) fun h' eb => ⟨rfl, I.turned (t' := s.toks) (fun b o hb e => eb b o hb e) f0 f1 f3 f4 f5⟩
  self := fun _ _ _ _ _ st h => wpAny_pyIter_listiter st h
theorem turn_range {P : Program} {w : World} {K : PySem.W.Frag} {tg : Expr} (it : Addr) (lo : Int) (n : Nat) : Turn P w K tg (Itr lo n) [it] it (fun i h => IsRangeIter h it (lo + (i : Nat) * 1) ((n : Int) - (i : Nat)) 1) where
  mem := by simp
  obj := fun i h st b hb => by
    have e : b = it := by simpa using hb
    subst e
    exact ⟨_, st, fun v z => by
      have z' : Data.fields _ = Data.cell v := z
      cases z'⟩
  keep := fun i h h' st k => k it (by simp) _ st
  item := by
    intro X hP hw hK hc i pins s σ H E I hf st hg
    subst hP hw hK
    obtain ⟨f0, f1, f2, f3, f4, f5⟩ := hf it (by simp)
    have W := Walks.range (prog := X.prog) (w := X.w) (I.ok.hd hc) it lo 1 n
    refine W.item i s _ _ hg st fun v h' tk hv st' kk => ?_
    obtain ⟨t, rfl⟩ := hv
    have I1 : Inv X pins σ H { s with heap := h', toks := tk } := I.turned (fun b o hb e => kk b o (by simpa using hb) e) f0 f1 f3 f4 f5
    refine ⟨_, rfl, go_of (s := { s with heap := h', toks := tk }) (n := "range_iterator") st' rfl rfl (by decide) ⟨.int (lo + i), H, I1, ⟨t, ?_⟩, ⟨rfl, rfl⟩, st', fun b hb => (hf b hb).1⟩⟩
    rw [Int.mul_one]
  done := by
    intro X hP hw hK hc i pins s σ H E I hf st hg
    subst hP hw hK
    obtain ⟨f0, f1, f2, f3, f4, f5⟩ := hf it (by simp)
    exact wpAny_pyNext_range_end (I.ok.hd hc) st (by have : n <= i := hg; omega) fun h' eb => ⟨rfl, I.turned (t' := s.toks) (fun b o hb e => eb b o hb e) f0 f1 f3 f4 f5⟩
  self := fun _ _ _ _ _ st h => wpAny_pyIter_rangeiter st h
end L2
namespace L2
open PySem PySem.Spec PyProof.Rows
section
variable {X : Cx} {tg : Expr}
def iList (K : PySem.W.Frag) (tl : TE) : TI := fun σ H R => tl σ H fun x H1 => ∃ a, x = .ref a /\ (∃ xs, SqL K H1 a xs) /\ R (Itl K a) H1
def iTup (K : PySem.W.Frag) (tl : TE) : TI := fun σ H R => tl σ H fun x H1 => ∃ a, x = .ref a /\ (∃ xs, SqT K H1 a xs) /\ R (Itt K a) H1
theorem pi_list {l : Expr} {tl : TE} (hl : PE X l tl) : PI X tg l (iList X.K tl) := by
  intro pins s σ H R I h
  refine thn (hl pins s σ H _ I h) fun v s1 ⟨x, H1, I1, r1, q1⟩ => ?_
  obtain ⟨a, e, ⟨xs, hq⟩, q⟩ := q1
  subst e
  cases r1
  obtain ⟨its, rv, p, hz⟩ := I1.list hq
  refine wpAny_pyIter_list p.isList ?_
  refine ⟨s1.heap.objs.size, [s1.heap.objs.size], _, _, H1, rfl, I1.kept (t' := s1.toks) fun b o e => Heap.get?_push_of_some _ e, turn_list a _, ⟨_, Heap.get?_push_size _ rfl, rfl, rfl⟩, fun b hb => ?_, q⟩
  have e : b = s1.heap.objs.size := by simpa using hb
  subst e
  exact I1.fpOk (Nat.le_refl _) (I1.hok.fresh (Nat.le_refl _))
theorem range_it {pins : List (Addr × Obj)} {σ : St} {H : Hp} {s : Shared} {R : It -> Hp -> Prop} {E : Value -> Shared -> Prop} {lo hi : Int} {t u v : Tok} {tk : Nat} (I : Inv X pins σ H s) (h1 : -(2 ^ 62) <= lo) (h2 : lo < 2 ^ 62) (h3 : -(2 ^ 62) <= hi) (h4 : hi < 2 ^ 62)
    (q : R (Itr lo (hi - lo).toNat) H) : wpAny (model X.prog X.w) X.A (pyIter (.ref s.heap.objs.size)) (PIE X pins σ tg R) E { s with heap := s.heap.push { cls := .type "range", data := .fields #[.int lo t, .int hi u, .int 1 v] }, toks := tk } := by
  refine wpAny_pyIter_range (IsRange.new ..) (small_one h1 h2 h3 h4) ?_
  have I1 : Inv X pins σ H { s with heap := s.heap.push { cls := .type "range", data := .fields #[.int lo t, .int hi u, .int 1 v] }, toks := tk } := I.kept fun b o e => Heap.get?_push_of_some _ e
  refine ⟨(s.heap.push { cls := .type "range", data := .fields #[.int lo t, .int hi u, .int 1 v] }).objs.size, [(s.heap.push { cls := .type "range", data := .fields #[.int lo t, .int hi u, .int 1 v] }).objs.size], _, _, H, rfl,
    I1.kept (t' := tk) fun b o e => Heap.get?_push_of_some _ e, turn_range _ lo (hi - lo).toNat, ?_, fun b hb => ?_, q⟩
  . have e1 : lo + ((0 : Nat) : Int) * 1 = lo := by simp
    have e2 : (((hi - lo).toNat : Nat) : Int) - ((0 : Nat) : Int) = Builtin.Range.rangeSize lo hi 1 := by rw [rangeSize_one]; split <;> omega
    show IsRangeIter _ _ (lo + ((0 : Nat) : Int) * 1) ((((hi - lo).toNat : Nat) : Int) - ((0 : Nat) : Int)) 1
    rw [e1, e2]
    exact Heap.get?_push_size _ rfl
  . have e : b = (s.heap.push { cls := .type "range", data := .fields #[.int lo t, .int hi u, .int 1 v] }).objs.size := by simpa using hb
    subst e
    exact I1.fpOk (Nat.le_refl _) (I1.hok.fresh (Nat.le_refl _))
def iRng1 (ta : TA) : TI := fun σ H R => ta σ H fun vs H1 => ∃ j : Int, vs = [.int j] /\ -(2 ^ 62) <= j /\ j < 2 ^ 62 /\ R (Itr 0 j.toNat) H1
def iRng2 (ta : TA) : TI := fun σ H R => ta σ H fun vs H1 => ∃ i j : Int, vs = [.int i, .int j] /\ (-(2 ^ 62) <= i /\ i < 2 ^ 62 /\ -(2 ^ 62) <= j /\ j < 2 ^ 62) /\ R (Itr i (j - i).toNat) H1
theorem pi_range1 {a : Expr} {ta : TA} {p pos : Pos} (hg : Gl X "range") (hm : X.mg "range" = none) (ha : PA X [a] ta) (hs : starEach [a] X.env = [(false, eval a X.env)] := by rfl) : PI X tg (.Call (.Name "range" p) [a] [] pos) (iRng1 ta) := by
  intro pins s σ H R I h
  refine Call_ (ld_blt I hg hm boot_range (PyProof.Rows.callWith_type1 (thn (ha pos pins s σ H _ I h) fun us s1 ⟨vs, H1, I1, r1, q1⟩ => ?_) hs rfl))
  obtain ⟨j, e, q1, q2, q⟩ := q1
  subst e
  cases r1 with
  | cons r rr =>
    cases rr
    obtain ⟨t, rfl⟩ := r
    exact call_range_1 (range_it I1 (by omega) (by omega) q1 q2 (by simpa using q))
def tFor (wi : TI) (g : TG) (tb : TS) : TS := fun D σ H => wi σ H fun J H1 => ∃ W : Nat -> Nat -> St -> Hp -> Prop, (∃ m, W 0 m σ H1) /\ ∀ i m σ H, W i m σ H ->
  (J.stop i H /\ D.nx σ H) \/ (J.go i H /\ ∃ N : St -> Hp -> Prop, (∀ σ' H', N σ' H' -> ∃ m', m' < m /\ W (i + 1) m' σ' H') /\ ∀ x H', J.yld i H x H' -> g x σ H' fun σ2 H2 => tb { D with nx := N, ct := N, bk := D.nx } σ2 H2)
def pinsAt (fp : List Addr) (h : Heap) : List (Addr × Obj) := fp.filterMap fun b => (h.get? b).map fun o => (b, o)
theorem mem_pinsAt {fp : List Addr} {h : Heap} {b : Addr} {o : Obj} (hb : b ∈ fp) (e : h.get? b = some o) : (b, o) ∈ pinsAt fp h := List.mem_filterMap.mpr ⟨b, hb, by rw [e]; rfl⟩
theorem of_pinsAt {fp : List Addr} {h : Heap} {p : Addr × Obj} (hp : p ∈ pinsAt fp h) : p.1 ∈ fp /\ h.get? p.1 = some p.2 := by
  obtain ⟨b, hb, e⟩ := List.mem_filterMap.mp hp
  cases q : h.get? b with
  | none => rw [q] at e; cases e
  | some o =>
    rw [q] at e
    have e' : (b, o) = p := Option.some.inj e
    subst e'
    exact ⟨hb, q⟩
theorem Inv.pinned {pins : List (Addr × Obj)} {σ : St} {H : Hp} {s : Shared} {fp : List Addr} (I : Inv X pins σ H s) (hf : ∀ b ∈ fp, FpOk X pins H b) (ho : ∀ b ∈ fp, ∃ o, s.heap.get? b = some o /\ ∀ v, o.data ≠ .cell v) : Inv X (pins ++ pinsAt fp s.heap) σ H s :=
  I.pins_of fun p hp => (List.mem_append.mp hp).elim (fun z => I.pin p (List.mem_append_right _ z)) fun z => by
    obtain ⟨hb, e⟩ := of_pinsAt z
    obtain ⟨f0, f1, f2, _⟩ := hf p.1 hb
    obtain ⟨o, e', d⟩ := ho p.1 hb
    rw [e] at e'; cases e'
    exact ⟨e, f0, f1, f2, d⟩
theorem Inv.unpinned {pins pl : List (Addr × Obj)} {σ : St} {H : Hp} {s : Shared} (I : Inv X (pins ++ pl) σ H s) : Inv X pins σ H s := I.pins_of fun p hp => I.pin p (List.mem_append_right _ (List.mem_append_left _ hp))
theorem ps_for {iter : Expr} {body : List Stmt} {wi : TI} {g : TG} {tb : TS} {pos : Pos} (hp : PassesOwn (model X.prog X.w) X.A X.env X.xe) (hc : X.calm = true) (hi : PI X tg iter wi) (hg : PG X tg g) (hb : PSs X body tb)
    (hs : ∀ x, foldedSetIterable iter X.env x = pure x := by intro _; rfl) : PS X (.For tg iter body [] pos) (tFor wi g tb) := by
  intro pins s σ H D I h
  refine wpAny_For (thn (hi pins s σ H _ I h) fun v s1 h1 => thn h1 fun itv s2 h2 => ?_) hs
  obtain ⟨it, fp, tn, J, H2, e, I2, T, st2, f2, W, ⟨m0, w0⟩, turn⟩ := h2
  subst e
  have stat : ∀ {H' : Hp}, (∀ b ∈ fp, H' b = none) -> ∀ b ∈ fp, FpOk X pins H' b := fun hn b hb => ⟨hn b hb, (f2 b hb).2⟩
  refine codeAny_forLoop_any (fun n s' => ∃ i σ' H', Inv X pins σ' H' s' /\ tn i s'.heap /\ (∀ b ∈ fp, H' b = none) /\ W i n σ' H') ?_ m0 ⟨0, σ, H2, I2, st2, fun b hb => (f2 b hb).1, w0⟩
  rintro n s3 ⟨i, σ3, H3, I3, st3, fr3, w3⟩
  rcases turn i n σ3 H3 w3 with ⟨stop, qn⟩ | ⟨go, N, hN, step⟩
  . refine wpAny_passesOwn hp (thn (T.done X rfl rfl rfl hc i pins s3 σ3 H3 X.xe I3 (stat fr3) st3 stop) fun r s4 ⟨hr, I4⟩ => ?_)
    subst hr
    exact wpAny_execs_nil ⟨σ3, H3, I4, qn⟩
  . refine wpAny_passesOwn hp (thn (T.item X rfl rfl rfl hc i pins s3 σ3 H3 X.xe I3 (stat fr3) st3 go) fun r s4 ⟨u, hr, h4⟩ => ?_)
    subst hr
    refine wpAny_passesOwn hp (thn h4 fun _ s5 ⟨x, H5, I5, r5, y5, st5, fr5⟩ => ?_)
    have I5' := I5.pinned (stat fr5) (T.obj _ _ st5)
    refine wpAny_passesOwn hp (thn (hg _ s5 σ3 H5 x u _ I5' r5 (step x H5 y5)) fun _ s6 ⟨σ6, H6, I6, q6⟩ => ?_)
    refine wpAny_passesOwn hp (thn (hb _ s6 σ6 H6 _ I6 q6) fun f s7 q7 => ?_)
    have again : ∀ {σ7 : St} {H7 : Hp}, Inv X (pins ++ pinsAt fp s5.heap) σ7 H7 s7 -> N σ7 H7 -> ∃ m, m < n /\ ∃ i σ' H', Inv X pins σ' H' s7 /\ tn i s7.heap /\ (∀ b ∈ fp, H' b = none) /\ W i m σ' H' := fun {σ7 H7} I7 n7 => by
      obtain ⟨m', hm, w7⟩ := hN σ7 H7 n7
      refine ⟨m', hm, i + 1, σ7, H7, I7.unpinned, T.keep _ _ _ st5 fun b hb o e => (I7.pin (b, o) (List.mem_append_right _ (List.mem_append_right _ (mem_pinsAt hb e)))).1, fun b hb => ?_, w7⟩
      obtain ⟨o, e, d⟩ := T.obj _ _ st5 b hb
      exact (I7.pin (b, o) (List.mem_append_right _ (List.mem_append_right _ (mem_pinsAt hb e)))).2.1
    cases f with
    | next => obtain ⟨σ7, H7, I7, n7⟩ := q7; exact again I7 n7
    | cont => obtain ⟨σ7, H7, I7, n7⟩ := q7; exact again I7 n7
    | brk => obtain ⟨σ7, H7, I7, q7⟩ := q7; exact ⟨σ7, H7, I7.unpinned, q7⟩
    | ret v => obtain ⟨x7, σ7, H7, I7, r7, q7⟩ := q7; exact ⟨x7, σ7, H7, I7.unpinned, r7, q7⟩
end
theorem for_list {K : PySem.W.Frag} {a : Addr} {xs : List V} {g : TG} {tb : TS} {D : Ends} {σ : St} {H : Hp} (Pv : Nat -> St -> Hp -> Prop) (h0 : Pv 0 σ H) (hl : ∀ i σ H, i <= xs.length -> Pv i σ H -> SqL K H a xs)
    (hs : ∀ i x σ H, xs[i]? = some x -> Pv i σ H -> g x σ H fun σ2 H2 => tb { D with nx := Pv (i + 1), ct := Pv (i + 1), bk := D.nx } σ2 H2) (hd : ∀ σ H, Pv xs.length σ H -> D.nx σ H) :
    ∃ W : Nat -> Nat -> St -> Hp -> Prop, (∃ m, W 0 m σ H) /\ ∀ i m σ H, W i m σ H ->
      ((Itl K a).stop i H /\ D.nx σ H) \/ ((Itl K a).go i H /\ ∃ N : St -> Hp -> Prop, (∀ σ' H', N σ' H' -> ∃ m', m' < m /\ W (i + 1) m' σ' H') /\ ∀ x H', (Itl K a).yld i H x H' -> g x σ H' fun σ2 H2 => tb { D with nx := N, ct := N, bk := D.nx } σ2 H2) := by
  refine ⟨fun i m σ H => m = xs.length - i /\ i <= xs.length /\ Pv i σ H, ⟨xs.length, by simp, Nat.zero_le _, h0⟩, ?_⟩
  rintro i m σ H ⟨rfl, hi, p⟩
  have q := hl i σ H hi p
  by_cases hlt : i < xs.length
  . refine .inr ⟨⟨xs, xs[i], q, by simp [hlt]⟩, Pv (i + 1), fun σ' H' p' => ⟨xs.length - (i + 1), by omega, rfl, hlt, p'⟩, fun x H' y => ?_⟩
    obtain ⟨e, y⟩ := y
    subst e
    exact hs i x σ _ (y xs q) p
  . have e : i = xs.length := by omega
    subst e
    exact .inl ⟨⟨xs, q, Nat.le_refl _⟩, hd σ H p⟩
theorem for_range {lo : Int} {n : Nat} {g : TG} {tb : TS} {D : Ends} {σ : St} {H : Hp} (Pv : Nat -> St -> Hp -> Prop) (h0 : Pv 0 σ H)
    (hs : ∀ i σ H, i < n -> Pv i σ H -> g (.int (lo + i)) σ H fun σ2 H2 => tb { D with nx := Pv (i + 1), ct := Pv (i + 1), bk := D.nx } σ2 H2) (hd : ∀ σ H, Pv n σ H -> D.nx σ H) :
    ∃ W : Nat -> Nat -> St -> Hp -> Prop, (∃ m, W 0 m σ H) /\ ∀ i m σ H, W i m σ H ->
      ((Itr lo n).stop i H /\ D.nx σ H) \/ ((Itr lo n).go i H /\ ∃ N : St -> Hp -> Prop, (∀ σ' H', N σ' H' -> ∃ m', m' < m /\ W (i + 1) m' σ' H') /\ ∀ x H', (Itr lo n).yld i H x H' -> g x σ H' fun σ2 H2 => tb { D with nx := N, ct := N, bk := D.nx } σ2 H2) := by
  refine ⟨fun i m σ H => m = n - i /\ i <= n /\ Pv i σ H, ⟨n, by simp, Nat.zero_le _, h0⟩, ?_⟩
  rintro i m σ H ⟨rfl, hi, p⟩
  by_cases hlt : i < n
  . refine .inr ⟨hlt, Pv (i + 1), fun σ' H' p' => ⟨n - (i + 1), by omega, rfl, hlt, p'⟩, fun x H' y => ?_⟩
    obtain ⟨e, y⟩ := y
    subst e y
    exact hs i σ _ hlt p
  . have e : i = n := by omega
    subst e
    exact .inl ⟨Nat.le_refl _, hd σ H p⟩
end L2
namespace L2
open PySem PySem.Spec PyProof.Rows
abbrev R2 := V -> V -> Hp -> VK -> Prop
def OpR (X : Cx) (f : Value -> Value -> Sem Value) (r : R2) : Prop :=
  ∀ (pins : List (Addr × Obj)) (s : Shared) (σ : St) (H : Hp) (x y : V) (v u : Value) (Q : VK), Inv X pins σ H s -> RelV x v -> RelV y u -> r x y H Q ->
    wpAny (model X.prog X.w) X.A (f v u) (EP X pins σ Q) X.xe s
def UnR (X : Cx) (f : Value -> Sem Value) (r : V -> Hp -> VK -> Prop) : Prop :=
  ∀ (pins : List (Addr × Obj)) (s : Shared) (σ : St) (H : Hp) (x : V) (v : Value) (Q : VK), Inv X pins σ H s -> RelV x v -> r x H Q ->
    wpAny (model X.prog X.w) X.A (f v) (EP X pins σ Q) X.xe s
def CallR (X : Cx) (f : Value) (r : List V -> Hp -> VK -> Prop) : Prop :=
  ∀ (pins : List (Addr × Obj)) (s : Shared) (σ : St) (H : Hp) (xs : List V) (us : List Value) (Q : VK), Inv X pins σ H s -> Vals xs us -> r xs H Q ->
    wpAny (model X.prog X.w) X.A (call f us) (EP X pins σ Q) X.xe s
def TruR (X : Cx) (r : V -> Hp -> (Bool -> Hp -> Prop) -> Prop) : Prop :=
  ∀ (pins : List (Addr × Obj)) (s : Shared) (σ : St) (H : Hp) (x : V) (v : Value) (Q : Bool -> Hp -> Prop), Inv X pins σ H s -> RelV x v -> r x H Q ->
    wpAny (model X.prog X.w) X.A (truthy v) (TP X pins σ Q) X.xe s
def tOp (r : R2) (ta tb : TE) : TE := fun σ H Q => ta σ H fun x H1 => tb σ H1 fun y H2 => r x y H2 Q
def tUn (r : V -> Hp -> VK -> Prop) (ta : TE) : TE := fun σ H Q => ta σ H fun x H1 => r x H1 Q
def rI (C : Int -> Int -> Prop) (g : Int -> Int -> V) : R2 := fun x y H Q => ∃ i j, x = .int i /\ y = .int j /\ C i j /\ Q (g i j) H
def rI0 (g : Int -> Int -> V) : R2 := fun x y H Q => ∃ i j, x = .int i /\ y = .int j /\ Q (g i j) H
def rU (g : Int -> V) : V -> Hp -> VK -> Prop := fun x H Q => ∃ i, x = .int i /\ Q (g i) H
section
variable {X : Cx} {a b c : Expr} {ta tb tc : TE} {pos : Pos}
theorem binT (ha : PE X a ta) (hb : PE X b tb) {pins : List (Addr × Obj)} {s : Shared} {σ : St} {H : Hp} {R : V -> V -> Hp -> Prop} (I : Inv X pins σ H s)
    (h : ta σ H fun x H1 => tb σ H1 fun y H2 => R x y H2) {Q : Value -> Shared -> Prop} {f : Value -> Value -> Sem Value}
    (hf : ∀ v u s2 x y H2, Inv X pins σ H2 s2 -> RelV x v -> RelV y u -> R x y H2 -> wpAny (model X.prog X.w) X.A (f v u) Q X.xe s2) :
    wpAny (model X.prog X.w) X.A (eval a X.env) (fun v s₁ => wpAny (model X.prog X.w) X.A (eval b X.env) (fun u s₂ => wpAny (model X.prog X.w) X.A (f v u) Q X.xe s₂) X.xe s₁) X.xe s := by
  refine thn (ha pins s σ H _ I h) fun v s1 ⟨x, H1, I1, r1, q1⟩ => ?_
  refine thn (hb pins s1 σ H1 _ I1 q1) fun u s2 ⟨y, H2, I2, r2, q2⟩ => ?_
  exact hf v u s2 x y H2 I2 r1 r2 q2
theorem pe_op {op : Operator} {r : R2} (ho : OpR X (binaryOp op) r) (ha : PE X a ta) (hb : PE X b tb) : PE X (.BinOp a op b pos) (tOp r ta tb) := by
  intro pins s σ H Q I h
  exact wpAny_BinOp (binT ha hb I h fun v u s2 x y H2 I2 rx ry q => ho pins s2 σ H2 x y v u Q I2 rx ry q)
theorem pe_un {op : UnaryOp} {r : V -> Hp -> VK -> Prop} (ho : UnR X (unaryOp op) r) (ha : PE X a ta) : PE X (.UnaryOp op a pos) (tUn r ta) := by
  intro pins s σ H Q I h
  exact UnaryOp_ (thn (ha pins s σ H _ I h) fun v s1 ⟨x, H1, I1, r1, q1⟩ => ho pins s1 σ H1 x v Q I1 r1 q1)
theorem opI {f : Value -> Value -> Sem Value} {C : Int -> Int -> Prop} {g : Int -> Int -> Int}
    (rule : ∀ (i j : Int) (t u : Tok) (s : Shared) (Q : Value -> Shared -> Prop) (E : Value -> Shared -> Prop), C i j -> Q (.int (g i j) s.toks) { s with toks := s.toks + 1 } -> wpAny (model X.prog X.w) X.A (f (.int i t) (.int j u)) Q E s) :
    OpR X f (rI C fun i j => .int (g i j)) := by
  intro pins s σ H x y v u Q I rx ry h
  obtain ⟨i, j, rfl, rfl, hc, q⟩ := h
  obtain ⟨t, rfl⟩ := rx
  obtain ⟨t', rfl⟩ := ry
  exact rule i j t t' s _ _ hc ⟨.int (g i j), H, I.tok _, ⟨_, rfl⟩, q⟩
theorem opI0 {f : Value -> Value -> Sem Value} {g : Int -> Int -> Int}
    (rule : ∀ (i j : Int) (t u : Tok) (s : Shared) (Q : Value -> Shared -> Prop) (E : Value -> Shared -> Prop), Q (.int (g i j) s.toks) { s with toks := s.toks + 1 } -> wpAny (model X.prog X.w) X.A (f (.int i t) (.int j u)) Q E s) :
    OpR X f (rI0 fun i j => .int (g i j)) := by
  intro pins s σ H x y v u Q I rx ry h
  obtain ⟨i, j, rfl, rfl, q⟩ := h
  obtain ⟨t, rfl⟩ := rx
  obtain ⟨t', rfl⟩ := ry
  exact rule i j t t' s _ _ ⟨.int (g i j), H, I.tok _, ⟨_, rfl⟩, q⟩
theorem opB0 {f : Value -> Value -> Sem Value} {g : Int -> Int -> Bool}
    (rule : ∀ (i j : Int) (t u : Tok) (s : Shared) (Q : Value -> Shared -> Prop) (E : Value -> Shared -> Prop), Q (.bool (g i j)) s -> wpAny (model X.prog X.w) X.A (f (.int i t) (.int j u)) Q E s) :
    OpR X f (rI0 fun i j => .bl (g i j)) := by
  intro pins s σ H x y v u Q I rx ry h
  obtain ⟨i, j, rfl, rfl, q⟩ := h
  obtain ⟨t, rfl⟩ := rx
  obtain ⟨t', rfl⟩ := ry
  exact rule i j t t' s _ _ ⟨.bl (g i j), H, I, rfl, q⟩
def CDiv (i j : Int) : Prop := 0 < j /\ j < 1073741824
def CPow (i j : Int) : Prop := 0 <= j /\ j <= 1000000 /\ i.natAbs < 2 ^ 64
def CMul (i j : Int) : Prop := (-(2 ^ 64) < i /\ i < 2 ^ 64) \/ (-(2 ^ 64) < j /\ j < 2 ^ 64)
theorem CMul.ok {i j : Int} (h : CMul i j) : IntMulOk i j := by
  rcases h with ⟨h1, h2⟩ | ⟨h1, h2⟩
  . exact .of_left (intBits_le_64 h1 h2)
  . exact .of_right (intBits_le_64 h1 h2)
theorem op_add : OpR X (binaryOp .Add) (rI0 fun i j => .int (i + j)) := opI0 fun _ _ _ _ _ _ _ q => add_int q
theorem op_sub : OpR X (binaryOp .Sub) (rI0 fun i j => .int (i - j)) := opI0 fun _ _ _ _ _ _ _ q => sub_int q
theorem op_fdiv : OpR X (binaryOp .FloorDiv) (rI CDiv fun i j => .int (i / j)) := opI fun i j _ _ _ _ _ hc q => by
  have h1 : (0 : Int) < j := hc.1
  have h2 : j < 1073741824 := hc.2
  exact floordiv_int (by omega) (by rw [Int.fdiv_eq_ediv_of_nonneg i (by omega)]; exact q) (.inl (PyProof.noPylong_small (by omega)))
theorem op_mod : OpR X (binaryOp .Mod) (rI (fun _ j => 0 < j) fun i j => .int (i % j)) := opI fun i j _ _ _ _ _ hc q => by
  have h1 : (0 : Int) < j := hc
  exact mod_int' (by omega) (by rw [Int.fmod_eq_emod_of_nonneg i (by omega)]; exact q)
theorem op_pow : OpR X (binaryOp .Pow) (rI CPow fun i j => .int (i ^ j.toNat)) := opI fun _ _ _ _ _ _ _ hc q => pow_int_small hc.1 hc.2.1 hc.2.2 q
theorem unI {f : Value -> Sem Value} {g : Int -> Int}
    (rule : ∀ (i : Int) (t : Tok) (s : Shared) (Q : Value -> Shared -> Prop) (E : Value -> Shared -> Prop), Q (.int (g i) s.toks) { s with toks := s.toks + 1 } -> wpAny (model X.prog X.w) X.A (f (.int i t)) Q E s) :
    UnR X f (rU fun i => .int (g i)) := by
  intro pins s σ H x v Q I rx h
  obtain ⟨i, rfl, q⟩ := h
  obtain ⟨t, rfl⟩ := rx
  exact rule i t s _ _ ⟨.int (g i), H, I.tok _, ⟨_, rfl⟩, q⟩
theorem un_neg : UnR X (unaryOp .USub) (rU fun i => .int (-i)) := unI fun _ _ _ _ _ q => neg_int q
end
def scal : V -> V -> Bool
  | .non, .non => true | .non, .int _ => true | .int _, .non => true | .non, .bl _ => true | .bl _, .non => true | .non, .str _ => true | .str _, .non => true
  | .int _, .int _ => true | .bl _, .bl _ => true | .str _, .str _ => true | .byt _, .byt _ => true
  | .int _, .str _ => true | .str _, .int _ => true | .bl _, .str _ => true | .str _, .bl _ => true
  | _, _ => false
def rEq : R2 := fun x y H Q => scal x y = true /\ Q (.bl (decide (x = y))) H
def rNe : R2 := fun x y H Q => scal x y = true /\ Q (.bl (!decide (x = y))) H
theorem dec_int {i j : Int} : decide (V.int i = V.int j) = (i == j) := by
  rw [Bool.eq_iff_iff]
  simp
theorem dec_bl {i j : Bool} : decide (V.bl i = V.bl j) = (i == j) := by
  rw [Bool.eq_iff_iff]
  simp
theorem dec_str {i j : Str} : decide (V.str i = V.str j) = (i == j) := by
  rw [Bool.eq_iff_iff]
  simp
theorem dec_byt {i j : Array UInt8} : decide (V.byt i = V.byt j) = (i.toList == j.toList) := by
  rw [Bool.eq_iff_iff]
  cases i
  cases j
  simp
section
variable {X : Cx} {a b c : Expr} {ta tb tc : TE} {pos : Pos}
theorem fin_bl {pins : List (Addr × Obj)} {σ : St} {H : Hp} {s : Shared} {Q : VK} {k k' : Bool} (I : Inv X pins σ H s) (q : Q (.bl k) H) (e : k = k') : EP X pins σ Q (.bool k') s := by
  subst e
  exact ⟨.bl k, H, I, rfl, q⟩
theorem op_eq : OpR X (compareOp .Eq) rEq := by
  intro pins s σ H x y v u Q I rx ry h
  obtain ⟨hs, q⟩ := h
  cases x with
  | non =>
    cases rx
    cases y with
    | non => cases ry; exact PySem.EqNone.eq_none_none (fin_bl I q (by simp))
    | bl j => cases ry; exact PySem.EqNone.eq_none_bool (fin_bl I q (by simp))
    | int j => obtain ⟨t', rfl⟩ := ry; exact PySem.EqNone.eq_none_int (fin_bl I q (by simp))
    | str j => obtain ⟨t', rfl⟩ := ry; exact PySem.EqNone.eq_none_str (fin_bl I q (by simp))
    | _ => exact absurd (show false = true from hs) Bool.false_ne_true
  | bl i =>
    cases rx
    cases y with
    | non => cases ry; exact PySem.EqNone.eq_bool_none (fin_bl I q (by simp))
    | bl j => cases ry; exact eq_bool (fin_bl I q dec_bl)
    | str j => obtain ⟨t', rfl⟩ := ry; exact PySem.EqMixed.eq_bool_str (fin_bl I q (by simp))
    | _ => exact absurd (show false = true from hs) Bool.false_ne_true
  | int i =>
    obtain ⟨t, rfl⟩ := rx
    cases y with
    | non => cases ry; exact PySem.EqNone.eq_int_none (fin_bl I q (by simp))
    | int j => obtain ⟨t', rfl⟩ := ry; exact eq_int (fin_bl I q dec_int)
    | str j => obtain ⟨t', rfl⟩ := ry; exact PySem.EqMixed.eq_int_str (fin_bl I q (by simp))
    | _ => exact absurd (show false = true from hs) Bool.false_ne_true
  | str i =>
    obtain ⟨t, rfl⟩ := rx
    cases y with
    | non => cases ry; exact PySem.EqNone.eq_str_none (fin_bl I q (by simp))
    | bl j => cases ry; exact PySem.EqMixed.eq_str_bool (fin_bl I q (by simp))
    | int j => obtain ⟨t', rfl⟩ := ry; exact PySem.EqMixed.eq_str_int (fin_bl I q (by simp))
    | str j => obtain ⟨t', rfl⟩ := ry; exact eq_str (fin_bl I q dec_str)
    | _ => exact absurd (show false = true from hs) Bool.false_ne_true
  | byt i =>
    obtain ⟨t, rfl⟩ := rx
    cases y with
    | byt j => obtain ⟨t', rfl⟩ := ry; exact PySem.W.eq_bytes (fin_bl I q dec_byt)
    | _ => exact absurd (show false = true from hs) Bool.false_ne_true
  | _ => cases y <;> exact absurd (show false = true from hs) Bool.false_ne_true
theorem op_ne : OpR X (compareOp .NotEq) rNe := by
  intro pins s σ H x y v u Q I rx ry h
  obtain ⟨hs, q⟩ := h
  cases x with
  | non =>
    cases rx
    cases y with
    | non => cases ry; exact PySem.EqNone.ne_none_none (fin_bl I q (by simp))
    | bl j => cases ry; exact PySem.EqNone.ne_none_bool (fin_bl I q (by simp))
    | int j => obtain ⟨t', rfl⟩ := ry; exact PySem.EqNone.ne_none_int (fin_bl I q (by simp))
    | str j => obtain ⟨t', rfl⟩ := ry; exact PySem.EqNone.ne_none_str (fin_bl I q (by simp))
    | _ => exact absurd (show false = true from hs) Bool.false_ne_true
  | bl i =>
    cases rx
    cases y with
    | non => cases ry; exact PySem.EqNone.ne_bool_none (fin_bl I q (by simp))
    | bl j => cases ry; exact ne_bool (fin_bl I q (congrArg not dec_bl))
    | str j => obtain ⟨t', rfl⟩ := ry; exact PySem.EqMixed.ne_bool_str (fin_bl I q (by simp))
    | _ => exact absurd (show false = true from hs) Bool.false_ne_true
  | int i =>
    obtain ⟨t, rfl⟩ := rx
    cases y with
    | non => cases ry; exact PySem.EqNone.ne_int_none (fin_bl I q (by simp))
    | int j => obtain ⟨t', rfl⟩ := ry; exact ne_int (fin_bl I q (congrArg not dec_int))
    | str j => obtain ⟨t', rfl⟩ := ry; exact PySem.EqMixed.ne_int_str (fin_bl I q (by simp))
    | _ => exact absurd (show false = true from hs) Bool.false_ne_true
  | str i =>
    obtain ⟨t, rfl⟩ := rx
    cases y with
    | non => cases ry; exact PySem.EqNone.ne_str_none (fin_bl I q (by simp))
    | bl j => cases ry; exact PySem.EqMixed.ne_str_bool (fin_bl I q (by simp))
    | int j => obtain ⟨t', rfl⟩ := ry; exact PySem.EqMixed.ne_str_int (fin_bl I q (by simp))
    | str j => obtain ⟨t', rfl⟩ := ry; exact ne_str (fin_bl I q (congrArg not dec_str))
    | _ => exact absurd (show false = true from hs) Bool.false_ne_true
  | byt i =>
    obtain ⟨t, rfl⟩ := rx
    cases y with
    | byt j => obtain ⟨t', rfl⟩ := ry; exact PySem.W.ne_bytes (fin_bl I q (congrArg not dec_byt))
    | _ => exact absurd (show false = true from hs) Bool.false_ne_true
  | _ => cases y <;> exact absurd (show false = true from hs) Bool.false_ne_true
theorem op_lt : OpR X (compareOp .Lt) (rI0 fun i j => .bl (decide (i < j))) := opB0 fun _ _ _ _ _ _ _ q => lt_int q
theorem op_ge : OpR X (compareOp .GtE) (rI0 fun i j => .bl (decide (j <= i))) := opB0 fun _ _ _ _ _ _ _ q => ge_int q
theorem op_isN : OpR X (compareOp .Is) (fun x y H Q => y = .non /\ Q (.bl (decide (x = .non))) H) := by
  intro pins s σ H x y v u Q I rx ry h
  obtain ⟨rfl, q⟩ := h
  cases ry
  refine is_none_gen (fin_bl I q ?_)
  cases x <;> first
    | (cases rx; rfl)
    | (obtain ⟨t, rfl⟩ := rx; rfl)
theorem op_notN : OpR X (compareOp .IsNot) (fun x y H Q => y = .non /\ Q (.bl (!decide (x = .non))) H) := by
  intro pins s σ H x y v u Q I rx ry h
  obtain ⟨rfl, q⟩ := h
  cases ry
  refine isnot_none_gen (fin_bl I q ?_)
  cases x <;> first
    | (cases rx; rfl)
    | (obtain ⟨t, rfl⟩ := rx; rfl)
theorem nomark (b : Expr) {op : CmpOp} (h : op ≠ .In := by decide) (h2 : op ≠ .NotIn := by decide) : behindInMarks op b = false := by
  have e1 : (op == CmpOp.In) = false := by cases op <;> first | rfl | exact absurd rfl h
  have e2 : (op == CmpOp.NotIn) = false := by cases op <;> first | rfl | exact absurd rfl h2
  cases b <;> simp [behindInMarks, e1, e2]
theorem pe_cmpR {op : CmpOp} {r : R2} (ho : OpR X (compareOp op) r) (ha : PE X a ta) (hb : PE X b tb) (hm : behindInMarks op b = false) : PE X (.Compare a [op] [b] pos) (tOp r ta tb) := by
  intro pins s σ H Q I h
  exact wpAny_Compare1 (binT ha hb I h fun v u s2 x y H2 I2 rx ry q => ho pins s2 σ H2 x y v u Q I2 rx ry q) hm
def tTest (t : TE) : TT := fun σ H Q => t σ H fun x H' => ∃ k, x = .bl k /\ Q k H'
theorem pt_cmpR {op : CmpOp} {r : R2} (ho : OpR X (compareOp op) r) (ha : PE X a ta) (hb : PE X b tb) (hm : behindInMarks op b = false) : PT X (.Compare a [op] [b] pos) (tTest (tOp r ta tb)) := by
  intro pins s σ H Q I h
  refine wpAny_isTrue_Compare1 (thn (ha pins s σ H _ I h) fun v s1 ⟨x, H1, I1, r1, q1⟩ => thn (hb pins s1 σ H1 _ I1 q1) fun u s2 ⟨y, H2, I2, r2, q2⟩ =>
    thn (ho pins s2 σ H2 x y v u _ I2 r1 r2 q2) fun c s3 ⟨z, H3, I3, r3, k, e, q3⟩ => ?_) hm
  subst e
  cases r3
  exact wpAny_truthy_bool ⟨H3, I3, q3⟩
def tChain (r r' : R2) (ta tb tc : TE) : TE := fun σ H Q => ta σ H fun x H1 => tb σ H1 fun y H2 => r x y H2 fun z H3 => ∃ k, z = .bl k /\
  (if k = true then tc σ H3 fun w' H4 => r' y w' H4 Q else Q (.bl false) H3)
def TruV (K : PySem.W.Frag) (x : V) (H : Hp) (k : Bool) : Prop :=
  match x with
  | .non => k = false
  | .bl b => k = b
  | .int i => k = (i != 0)
  | .str y => y.length <= sizeLine /\ k = ((y.length : Int) != 0)
  | .byt y => y.size <= sizeLine /\ k = ((y.size : Int) != 0)
  | .ref p => (∃ xs, SqL K H p xs /\ k = !xs.isEmpty) \/ (∃ xs, SqT K H p xs /\ k = !xs.isEmpty) \/ ∃ kvs, H p = some (.dK kvs) /\ k = !kvs.isEmpty
  | _ => False
theorem isEmpty_kv {κ : Type} {kvs : List (κ × V)} {vs : List (κ × Value)} (r : KV kvs vs) : (!vs.isEmpty) = !kvs.isEmpty := by
  cases r <;> rfl
theorem isEmpty_of {xs : List V} {its : List Value} (r : Vals xs its) : (!its.toArray.isEmpty) = !xs.isEmpty := by
  cases r <;> simp
theorem line63 : (sizeLine : Nat) < 2 ^ 63 := by rw [sizeLine_eq]; decide
theorem tru_ok : TruR X (fun x H Q => ∃ k, TruV X.K x H k /\ Q k H) := by
  intro pins s σ H x v Q I rx h
  obtain ⟨k, e, q⟩ := h
  have hl := line63
  have hs : sizeLine = 16777216 := sizeLine_eq
  cases x with
  | non =>
    cases rx
    have e' : k = false := e
    subst e'
    exact truthy_none ⟨H, I, q⟩
  | bl b =>
    cases rx
    have e' : k = b := e
    subst e'
    exact wpAny_truthy_bool ⟨H, I, q⟩
  | int i =>
    obtain ⟨t, rfl⟩ := rx
    have e' : k = (i != 0) := e
    subst e'
    exact PySem.P.truthy_int ⟨H, I, q⟩
  | str y =>
    obtain ⟨t, rfl⟩ := rx
    obtain ⟨hy, e'⟩ : y.length <= sizeLine /\ k = ((y.length : Int) != 0) := e
    subst e'
    exact PySem.P.truthy_str (by omega) ⟨H, I.tok _, q⟩
  | byt y =>
    obtain ⟨t, rfl⟩ := rx
    obtain ⟨hy, e'⟩ : y.size <= sizeLine /\ k = ((y.size : Int) != 0) := e
    subst e'
    exact PySem.W.truthy_bytes (by omega) ⟨H, I.tok _, q⟩
  | ref p =>
    cases rx
    have e' : (∃ xs, SqL X.K H p xs /\ k = !xs.isEmpty) \/ (∃ xs, SqT X.K H p xs /\ k = !xs.isEmpty) \/ ∃ kvs, H p = some (.dK kvs) /\ k = !kvs.isEmpty := e
    rcases e' with ⟨xs, hx, e'⟩ | ⟨xs, hx, e'⟩ | ⟨kvs, hx, e'⟩
    . subst e'
      obtain ⟨its, r, pl, hz⟩ := I.list hx
      have hlen := r.length
      exact wpAny_truthy_list pl.isList (by simp only [List.size_toArray]; omega) ⟨H, I.tok _, by rw [isEmpty_of r]; exact q⟩
    . subst e'
      obtain ⟨its, r, pl, hz⟩ := I.tuple hx
      have hlen := r.length
      exact truthy_tuple pl (by simp only [List.size_toArray]; omega) ⟨H, I.tok _, by rw [isEmpty_of r]; exact q⟩
    . subst e'
      obtain ⟨hz, hS, vs, r, m⟩ : kvs.length <= sizeLine /\ (p == sysModules) = false /\ ∃ vs, KV kvs vs /\ s.heap.DictOf (mixKind X.prog X.w) p vs := I.hok p _ hx
      have hlen : kvs.length = vs.length := Paired.length r
      exact wpAny_truthy_dict hS m (by omega) ⟨H, I.tok _, by rw [isEmpty_kv r]; exact q⟩
  | _ => exact (show False from e).elim
theorem pt_truth (ha : PE X a ta) (he : ∀ whole, isTrue a X.env whole = (do let v <- whole; standAt a.pos; holding [v] (truthy v))) :
    PT X a (fun σ H Q => ta σ H fun x H' => ∃ k, TruV X.K x H' k /\ Q k H') := by
  intro pins s σ H Q I h
  exact isTrue_plain (thn (ha pins s σ H _ I h) fun v s1 ⟨x, H1, I1, r1, q1⟩ => tru_ok pins s1 σ H1 x v Q I1 r1 q1) (he _)
theorem op_add_str : OpR X (binaryOp .Add) (fun x y H Q => ∃ i j, x = .str i /\ y = .str j /\ i.length + j.length <= sizeLine /\ Q (.str (i ++ j)) H) := by
  intro pins s σ H x y v u Q I rx ry h
  obtain ⟨i, j, rfl, rfl, hz, q⟩ := h
  obtain ⟨t, rfl⟩ := rx
  obtain ⟨t', rfl⟩ := ry
  exact add_str (fun t' tk => ⟨.str (i ++ j), H, I.tok _, ⟨_, rfl⟩, q⟩) hz
theorem vals1 {x : V} {us : List Value} (r : Vals [x] us) : ∃ u, us = [u] /\ RelV x u := by
  cases r with
  | cons r1 r2 => cases r2; exact ⟨_, rfl, r1⟩
theorem vals2 {x y : V} {us : List Value} (r : Vals [x, y] us) : ∃ u w', us = [u, w'] /\ RelV x u /\ RelV y w' := by
  cases r with
  | cons r1 r2 =>
    cases r2 with
    | cons r3 r4 => cases r4; exact ⟨_, _, rfl, r1, r3⟩
end
end L2
namespace L2
open PySem PySem.Spec PyProof.Rows
structure ObjM (h : Heap) (x dx C : Addr) (mA : Str -> Option Value) : Prop where
  obj : h.get? x = some (PySem.W.instObj C dx)
  ns : h.Ns1 dx mA
  ne : dx ≠ x
theorem lookIn_ns {h : Heap} {dx : Addr} {mA : Str -> Option Value} (n : h.Ns1 dx mA) : ∃ od, h.get? dx = some od /\ ∀ name, PySem.W.lookIn name od = some (mA name) := by
  obtain ⟨o, es, ep, ho, hd, hk, _, hm⟩ := n
  refine ⟨o, ho, fun name => ?_⟩
  have e := hm name
  unfold nsFind findBy at e
  rw [<- Array.find?_toList] at e
  unfold PySem.W.lookIn
  rw [hd]
  dsimp only
  split
  . rename_i y q
    rw [q] at e
    exact congrArg some e
  . rename_i q
    rw [q] at e
    have a : es.toList.any (·.refKey) = false := by
      rw [List.any_eq_false]
      intro y hy
      obtain ⟨z, t, hkey⟩ := hk y (Array.mem_toList_iff.mp hy)
      simp [DictEntry.refKey, hkey]
    have a' : ¬ es.toList.any (·.refKey) = true := by rw [a]; exact Bool.false_ne_true
    rw [if_neg a']
    exact congrArg some e
theorem ObjM.look {h : Heap} {x dx C : Addr} {mA : Str -> Option Value} (I : ObjM h x dx C mA) : ∃ od, PySem.W.InstAt h x (PySem.W.instObj C dx) C (some od) /\ ∀ name, PySem.W.lookIn name od = some (mA name) :=
  let ⟨od, ho, hl⟩ := lookIn_ns I.ns
  ⟨od, ⟨I.obj, rfl, rfl, ho⟩, hl⟩
section
variable {prog : Program} {w : World} {A : Around} {E : Value -> Shared -> Prop} {s : Shared} {K : PySem.W.Frag} {x dx C f : Addr} {mA : Str -> Option Value} {name : Str} {v : Value}
theorem get_map {expr : Bool} {Q : Value -> Shared -> Prop} (X : K.In s.heap) (I : ObjM s.heap x dx C mA) (hg : PySem.W.plainGet K C name = true) (hh : PySem.W.hasDictIn K C = true)
    (ha : PySem.W.findIn K (.ref C) name = some none) (hv : mA name = some v) (hv' : PySem.W.handedIn v = true) (h : Q v { s with toks := s.toks + 1 }) :
    wpAny (model prog w) A (getAttr (.ref x) name expr) Q E s := by
  obtain ⟨od, J, hl⟩ := I.look
  exact PySem.W.get_value X J (PySem.W.plainGet_of hg).1 (PySem.W.findObj_own hh ha rfl (by rw [hl, hv])) hv' h
theorem get_meth {pl : Sem Bool} {Q : Value × List Value -> Shared -> Prop} (X : K.In s.heap) (I : ObjM s.heap x dx C mA) (hg : PySem.W.plainGet K C name = true)
    (hf : PySem.W.findIn K (.ref C) name = some (some (.ref f))) (ht : PySem.W.isFn K (.ref f) = true) (hv : mA name = none) (h : Q (.ref f, [.ref x]) s) :
    wpAny (model prog w) A (getMethod (.ref x) name pl) Q E s := by
  obtain ⟨od, J, hl⟩ := I.look
  exact PySem.W.method_fn X J (PySem.W.plainGet_of hg).1 (PySem.W.plainGet_of hg).2 hf (beq_iff_eq.mp ht) (by show (PySem.W.lookIn name od).map (·.isSome) = some false; rw [hl, hv]; rfl) h
theorem set_map {ns : List Str} {Q : Unit -> Shared -> Prop} (X : K.In s.heap) (I : ObjM s.heap x dx C mA)
    (hs : PySem.W.findIn K (.ref C) "__setattr__" = some (some (.builtin "object.__setattr__"))) (hp : PySem.W.plainOver K C = true) (ht : PySem.W.takerIn K C name = some none) (hh : PySem.W.hasDictIn K C = true)
    (hw : PySem.Within mA ns) (hsz : ns.length <= sizeLine)
    (h : ∀ h', ObjM h' x dx C (fun y => if y = name then some v else mA y) -> Heap.SameBut dx s.heap h' -> Q () { s with heap := h', toks := s.toks + 2 }) :
    wpAny (model prog w) A (setAttr (.ref x) name v) Q E s := by
  obtain ⟨od, J, hl⟩ := I.look
  refine PySem.W.set_plain X J hs (PySem.W.osa_open (s := { s with toks := s.toks + 1 }) (r := none) X J hp ht fun b => ?_)
  obtain ⟨cd, hc, hd'⟩ := PySem.W.any_some hh
  have hx : s.heap.get? x = some ⟨.ref C, some dx, .plain, #[]⟩ := I.obj
  refine wpAny_bind (wpAny_pure (wpAny_bind (wpAny_bind (wpAny_loadPart hx (wpAny_bind (PySem.W.Looks.here (s := { s with toks := s.toks + 1 }) (PySem.W.looks_clsIn X hc) ?_))))))
  rw [hd']
  refine wpAny_pure (a := some dx) (wpAny_bind (wpAny_pure (wpAny_bind ?_)))
  refine wpAny_nsSet1 (s := { s with toks := s.toks + 1 }) I.ns fun h' hn2 hs2 => ?_
  obtain ⟨oD, esD, epD, hoD, hdD, hcD⟩ := hn2.count (PySem.Within.cons name v hw)
  refine wpAny_bind (wpAny_lookBehind hoD (by rw [hdD]; exact pastItsLine_dict (Nat.le_trans hcD (by rw [List.length_cons]; omega))) ?_)
  exact wpAny_pure (h _ ⟨(hs2.2 _ (Ne.symm I.ne)).trans I.obj, hn2, I.ne⟩ hs2)
theorem make_map {R : Result -> Shared -> Prop} {vs : List Value} {kw : List (Str × Value)} (X : K.In s.heap) (hm : PySem.W.makesIn K C = true)
    (hi : PySem.W.findIn K (.ref C) "__init__" = some (some (.ref f))) (hf : PySem.W.typeIn K (.ref f) = some (.type "function"))
    (h : codeAny (model prog w) (A.under (.builtin "type.__call__" ⟨.ref C :: vs, kw⟩)) (.call (.ref f) ⟨.ref (s.heap.objs.size + 1) :: vs, kw⟩) (PySem.W.InitBack (s.heap.objs.size + 1) R)
      { s with heap := (s.heap.push PySem.W.emptyDict).push (PySem.W.instObj C s.heap.objs.size) }) :
    codeAny (model prog w) A (.call (.ref C) ⟨vs, kw⟩) R s := by
  obtain ⟨hh, g, d, t, os⟩ := s
  exact PySem.W.make_core (PySem.W.makes_of X hm) (PySem.W.looks_findIn X hi) (fun self => PySem.W.bind_fn X self hf) (.inl rfl) h
end
def putF (f : Str) (v : V) : List (Str × V) -> List (Str × V)
  | [] => [(f, v)]
  | (g, x) :: r => if g = f then (g, v) :: r else (g, x) :: putF f v r
theorem lookup_putF (f g : Str) (v : V) : ∀ fs : List (Str × V), (putF f v fs).lookup g = if g = f then some v else fs.lookup g
  | [] => by
    show List.lookup g [(f, v)] = _
    by_cases h : g = f
    . have hb : (g == f) = true := beq_iff_eq.mpr h
      simp only [List.lookup, hb, if_pos h]
    . have hb : (g == f) = false := beq_eq_false_iff_ne.mpr h
      simp only [List.lookup, hb, if_neg h]
  | (k, x) :: r => by
    have ih := lookup_putF f g v r
    rw [show putF f v ((k, x) :: r) = (if k = f then (k, v) :: r else (k, x) :: putF f v r) from rfl]
    by_cases hk : k = f
    . rw [if_pos hk]
      by_cases h : g = k
      . have hb : (g == k) = true := beq_iff_eq.mpr h
        simp only [List.lookup, hb, if_pos (h.trans hk)]
      . have hb : (g == k) = false := beq_eq_false_iff_ne.mpr h
        simp only [List.lookup, hb, if_neg (fun e : g = f => h (e.trans hk.symm))]
    . rw [if_neg hk]
      by_cases h : g = k
      . have hb : (g == k) = true := beq_iff_eq.mpr h
        simp only [List.lookup, hb, if_neg (fun e : g = f => hk (h.symm.trans e))]
      . have hb : (g == k) = false := beq_eq_false_iff_ne.mpr h
        simp only [List.lookup, hb]
        exact ih
theorem keys_putF (f : Str) (v : V) : ∀ fs : List (Str × V), f ∈ (putF f v fs).map (·.1) /\ ∀ g, g ∈ fs.map (·.1) -> g ∈ (putF f v fs).map (·.1)
  | [] => ⟨by simp [putF], fun g h => by simp at h⟩
  | (k, x) :: r => by
    obtain ⟨i1, i2⟩ := keys_putF f v r
    rw [show putF f v ((k, x) :: r) = (if k = f then (k, v) :: r else (k, x) :: putF f v r) from rfl]
    by_cases hk : k = f
    . rw [if_pos hk]
      subst hk
      exact ⟨by simp, fun g h => by simpa using h⟩
    . rw [if_neg hk]
      refine ⟨?_, fun g h => ?_⟩
      . rw [List.map_cons]
        exact List.mem_cons_of_mem _ i1
      . rw [List.map_cons] at h ⊢
        rcases List.mem_cons.mp h with e | e
        . exact List.mem_cons.mpr (.inl e)
        . exact List.mem_cons_of_mem _ (i2 g e)
theorem length_putF (f : Str) (v : V) : ∀ fs : List (Str × V), (putF f v fs).length <= fs.length + 1
  | [] => by simp [putF]
  | (k, x) :: r => by
    have ih := length_putF f v r
    rw [show putF f v ((k, x) :: r) = (if k = f then (k, v) :: r else (k, x) :: putF f v r) from rfl]
    by_cases hk : k = f
    . rw [if_pos hk, List.length_cons, List.length_cons]; omega
    . rw [if_neg hk, List.length_cons, List.length_cons]; omega
theorem RelO.some_of {v : V} {o : Option Value} (r : RelO (some v) o) : ∃ u, o = some u /\ RelV v u := by
  cases o with
  | none => exact (show False from r).elim
  | some u => exact ⟨u, rfl, r⟩
theorem RelO.none_of {o : Option Value} (r : RelO none o) : o = none := by
  cases o with
  | none => rfl
  | some u => exact (show False from r).elim
theorem handed_of {v : V} {u : Value} (r : RelV v u) : PySem.W.handedIn u = true := by
  cases v with
  | non => cases (show u = Value.none from r); rfl
  | bl b => cases (show u = Value.bool b from r); rfl
  | int i => obtain ⟨t, e⟩ := (show ∃ t, u = Value.int i t from r); cases e; rfl
  | str x => obtain ⟨t, e⟩ := (show ∃ t, u = Value.str x t from r); cases e; rfl
  | byt b => obtain ⟨t, e⟩ := (show ∃ t, u = Value.bytes b t from r); cases e; rfl
  | flt b => obtain ⟨t, e⟩ := (show ∃ t, u = Value.float b t from r); cases e; rfl
  | ref a => cases (show u = Value.ref a from r); rfl
  | ty n => cases (show u = Value.type n from r); rfl
section
variable {P : Program} {w : World} {H H' : Hp} {h h' : Heap} {a C dx : Addr} {fs fs' : List (Str × V)}
theorem ins_get (hok : HOk P w H h) (e : H a = some (.ins C dx fs)) : ∃ mA, ObjM h a dx C mA /\ (∀ f, RelO (fs.lookup f) (mA f)) /\ PySem.Within mA (fs.map (·.1)) /\ fs.length <= 1000 /\ H dx = some (.own a) := by
  obtain ⟨d, z, ne, ob, mA, n, r, q⟩ := (show ObjOk P w H h a (.ins C dx fs) from hok a _ e)
  exact ⟨mA, ⟨ob, n, ne⟩, r, q, z, d⟩
end
structure Cls (K : PySem.W.Frag) (C : Addr) : Prop where
  pg : PySem.W.plainGet K C Str.empty = true
  hd : PySem.W.hasDictIn K C = true
  po : PySem.W.plainOver K C = true
  sa : PySem.W.findIn K (.ref C) "__setattr__" = some (some (.builtin "object.__setattr__"))
theorem Cls.get {K : PySem.W.Frag} {C : Addr} (c : Cls K C) (f : Str) : PySem.W.plainGet K C f = true := c.pg
def NoAttr (K : PySem.W.Frag) (C : Addr) (f : Str) : Prop := PySem.W.findIn K (.ref C) f = some none
theorem NoAttr.taker {K : PySem.W.Frag} {C : Addr} {f : Str} (n : NoAttr K C f) : PySem.W.takerIn K C f = some none := by
  unfold PySem.W.takerIn
  rw [show PySem.W.findIn K (.ref C) f = some none from n]
  rfl
structure Meth (K : PySem.W.Frag) (C : Addr) (m : Str) (f : Addr) : Prop where
  at_ : PySem.W.findIn K (.ref C) m = some (some (.ref f))
  fn : PySem.W.isFn K (.ref f) = true
  kp : PySem.W.keepIn K (.ref f) = true
section
variable {X : Cx} {pins : List (Addr × Obj)} {σ : St} {H : Hp} {s : Shared} {a C dx : Addr} {fs : List (Str × V)} {f : Str} {v : V} {A : Around} {E : Value -> Shared -> Prop}
theorem getattr_ok {b : Bool} {Q : Value -> Shared -> Prop} (I : Inv X pins σ H s) (e : H a = some (.ins C dx fs)) (c : Cls X.K C) (n : NoAttr X.K C f) (l : fs.lookup f = some v)
    (h : ∀ u s', Inv X pins σ H s' -> RelV v u -> Q u s') : wpAny (model X.prog X.w) A (getAttr (.ref a) f b) Q E s := by
  obtain ⟨mA, O, r, _, _, _⟩ := ins_get I.hok e
  obtain ⟨u, hu, ru⟩ := RelO.some_of (v := v) (o := mA f) (by rw [<- l]; exact r f)
  exact get_map I.kIn O (c.get f) c.hd n hu (handed_of ru) (h u _ (I.tok _) ru)
theorem getmeth_ok {m : Str} {g : Addr} {pl : Sem Bool} {Q : Value × List Value -> Shared -> Prop} (I : Inv X pins σ H s) (e : H a = some (.ins C dx fs)) (c : Cls X.K C) (k : Meth X.K C m g) (l : fs.lookup m = none)
    (h : Q (.ref g, [.ref a]) s) : wpAny (model X.prog X.w) A (getMethod (.ref a) m pl) Q E s := by
  obtain ⟨mA, O, r, _, _, _⟩ := ins_get I.hok e
  have hn : mA m = none := RelO.none_of (by rw [<- l]; exact r m)
  exact get_meth I.kIn O (c.get m) k.at_ k.fn hn h
theorem setattr_ok {y : V} {u : Value} {Q : Unit -> Shared -> Prop} (I : Inv X pins σ H s) (e : H a = some (.ins C dx fs)) (c : Cls X.K C) (n : NoAttr X.K C f) (hl : fs.length < 1000) (ry : RelV y u)
    (h : ∀ s', Inv X pins σ (upd H a (.ins C dx (putF f y fs))) s' -> Q () s') : wpAny (model X.prog X.w) A (setAttr (.ref a) f u) Q E s := by
  obtain ⟨mA, O, r, wi, _, ho⟩ := ins_get I.hok e
  have hz : (fs.map (·.1)).length <= sizeLine := by rw [List.length_map, sizeLine_eq]; omega
  refine set_map I.kIn O c.sa c.po n.taker c.hd wi hz fun h' O' sb => h _ ?_
  have hd : ∃ o, h'.get? dx = some o := let ⟨o, _, _, e', _⟩ := O'.ns; ⟨o, e'⟩
  refine I.write (x := a) (e := dx) (by rw [e]; exact True.intro) (.inr ho) (fun b q hb z => (sb.2 b hb).trans z) hd ?_
  refine ⟨by rw [upd_ne O.ne]; exact ho, ?_, O.ne, O'.obj, _, O'.ns, fun g => ?_, fun g hg => ?_⟩
  . have := length_putF f y fs; omega
  . show RelO ((putF f y fs).lookup g) (if g = f then some u else mA g)
    rw [lookup_putF]
    by_cases q : g = f
    . rw [if_pos q, if_pos q]; exact ry
    . rw [if_neg q, if_neg q]; exact r g
  . by_cases q : g = f
    . rw [q]; exact (keys_putF f y fs).1
    . refine (keys_putF f y fs).2 g (wi g fun z => hg ?_)
      show (if g = f then some u else mA g) = none
      rw [if_neg q]; exact z
theorem Inv.made (I : Inv X pins σ H s) : Inv X pins σ (upd (upd H s.heap.objs.size (.own (s.heap.objs.size + 1))) (s.heap.objs.size + 1) (.ins C s.heap.objs.size []))
    { s with heap := (s.heap.push PySem.W.emptyDict).push (PySem.W.instObj C s.heap.objs.size) } := by
  have e1 : (s.heap.push PySem.W.emptyDict).get? s.heap.objs.size = some PySem.W.emptyDict := Heap.get?_push_size s.heap rfl
  have e2 : ((s.heap.push PySem.W.emptyDict).push (PySem.W.instObj C s.heap.objs.size)).get? (s.heap.objs.size + 1) = some (PySem.W.instObj C s.heap.objs.size) := by
    have := Heap.get?_push_size (s.heap.push PySem.W.emptyDict) (o := PySem.W.instObj C s.heap.objs.size) rfl
    rwa [Heap.size_push] at this
  have e3 : (s.heap.push PySem.W.emptyDict).Ns s.heap.objs.size (fun _ => none) := ⟨PySem.W.emptyDict, #[], _, e1, rfl, (fun e he => absurd he (by simp)), fun _ => rfl⟩
  have I1 := I.laid (a := s.heap.objs.size) (o := .own (s.heap.objs.size + 1)) (h' := s.heap.push PySem.W.emptyDict) (t' := s.toks) (fun b u q => Heap.get?_push_of_some _ q) (Nat.le_refl _) ⟨_, e1⟩
  refine I1.laid (a := s.heap.objs.size + 1) (o := .ins C s.heap.objs.size []) (t' := s.toks) (fun b u q => Heap.get?_push_of_some _ q) (Nat.le_of_eq (Heap.size_push _ _)) ?_
  have ne : s.heap.objs.size ≠ s.heap.objs.size + 1 := Nat.ne_of_lt (Nat.lt_succ_self _)
  refine ⟨by rw [upd_ne ne, upd_same], Nat.zero_le _, ne, e2, fun _ => none, (Heap.Ns1.of_empty e3).at fun o q => Heap.get?_push_of_some _ q, fun _ => True.intro, fun y hy => absurd rfl hy⟩
theorem attr_of {prog : Program} {w : World} {env : Env} {e : Expr} {f : Str} {pos : Pos} {s : Shared} {Q : Value -> Shared -> Prop} (hb : attributeBase e f env (eval e env) = eval e env)
    (h : wpAny (model prog w) A (eval e env) (fun o s₁ => wpAny (model prog w) A (getAttr o f true) Q E s₁) E s) : wpAny (model prog w) A (eval (.Attribute e f pos) env) Q E s :=
  Attribute_any_ h (by rw [arm_eval_Attribute, hb])
end
def tFld (K : PySem.W.Frag) (ta : TE) (f : Str) : TE := fun σ H Q => ta σ H fun x H1 => ∃ a C dx fs v, x = .ref a /\ H1 a = some (.ins C dx fs) /\ Cls K C /\ NoAttr K C f /\ fs.lookup f = some v /\ Q v H1
def sFld (K : PySem.W.Frag) (ta tv : TE) (f : Str) : TS := fun D σ H => tv σ H fun y H1 => ta σ H1 fun x H2 => ∃ a C dx fs, x = .ref a /\ H2 a = some (.ins C dx fs) /\ Cls K C /\ NoAttr K C f /\ fs.length < 1000 /\
  D.nx σ (upd H2 a (.ins C dx (putF f y fs)))
section
variable {X : Cx} {o e value : Expr} {f : Str} {pos pos' tpos : Pos} {ta tv : TE}
theorem pe_fld (he : PE X e ta) (hb : attributeBase e f X.env (eval e X.env) = eval e X.env) : PE X (.Attribute e f pos) (tFld X.K ta f) := by
  intro pins s σ H Q I h
  refine attr_of hb (thn (he pins s σ H _ I h) fun u s1 ⟨x, H1, I1, rx, a, C, dx, fs, v, ex, ea, c, n, l, q⟩ => ?_)
  subst ex
  obtain rfl : u = Value.ref a := rx
  exact getattr_ok I1 ea c n l fun u' s2 I2 ru => ⟨v, H1, I2, ru, q⟩
theorem ps_fld (ha : PE X o ta) (hv : PE X value tv) (hs : swapsWith value (some (.Attribute o f pos')) pos.line X.env = pure false) : PS X (.Assign [.Attribute o f pos'] value pos) (sFld X.K ta tv f) := by
  intro pins s σ H D I h
  refine plainObj_wpAny_Assign_Attribute (thn (hv pins s σ H _ I h) fun u s1 ⟨y, H1, I1, ry, q⟩ => thn (ha pins s1 σ H1 _ I1 q) fun ov s2 ⟨x, H2, I2, rx, a, C, dx, fs, ex, ea, c, n, l, q2⟩ => ?_) hs
  subst ex
  obtain rfl : ov = Value.ref a := rx
  exact setattr_ok I2 ea c n l ry fun s3 I3 => ⟨σ, _, I3, q2⟩
end
section
variable {X : Cx} {pins : List (Addr × Obj)} {σ : St} {H : Hp} {s : Shared} {A : Around} {E : Value -> Shared -> Prop} {Q : Value -> Shared -> Prop} {c : Value} {b : Bool}
inductive TyOf (K : PySem.W.Frag) (H : Hp) : V -> Value -> Prop where
  | non : TyOf K H .non (.type "NoneType")
  | bl (x : Bool) : TyOf K H (.bl x) (.type "bool")
  | int (i : Int) : TyOf K H (.int i) (.type "int")
  | str (x : Str) : TyOf K H (.str x) (.type "str")
  | flt (x : UInt64) : TyOf K H (.flt x) (.type "float")
  | lst {a : Addr} {xs : List V} (e : H a = some (.lst xs)) : TyOf K H (.ref a) (.type "list")
  | frz {a : Addr} {o : Obj} {xs : List V} (e : H a = some (.frz o (.lst xs))) : TyOf K H (.ref a) (.type "list")
  | tup {a : Addr} {xs : List V} (e : H a = some (.tup xs)) : TyOf K H (.ref a) (.type "tuple")
  | dK {a : Addr} {kvs : List (Key × V)} (e : H a = some (.dK kvs)) : TyOf K H (.ref a) (.type "dict")
  | dT {a : Addr} {kvs : List (List Key × V)} (e : H a = some (.dT kvs)) : TyOf K H (.ref a) (.type "dict")
  | ins {a C dx : Addr} {fs : List (Str × V)} (e : H a = some (.ins C dx fs)) (cl : Cls K C) (ha : PySem.W.findIn K (.ref C) "__class__" = some (some (.builtin "object.__class__")))
      (hn : PySem.W.specialIn K (.builtin "object.__class__") "__get__" = some (some (.builtin "getset_descriptor.__get__"))) (htk : PySem.W.takesIn K (.builtin "object.__class__") = some true)
      (hm : PySem.W.mroIn K C (.type "object") = some true) : TyOf K H (.ref a) (.ref C)
theorem isinst_ok {x : V} {u t : Value} (I : Inv X pins σ H s) (rx : RelV x u) (ty : TyOf X.K H x t) (e : PySem.W.kitOne X.K t c = some b) (h : ∀ tk, Q (.bool b) { s with toks := tk }) :
    wpAny (model X.prog X.w) A (call (.builtin "isinstance") [u, c]) Q E s := by
  cases ty with
  | non => cases (show u = Value.none from rx); exact PySem.W.kia_one PySem.W.kitx_none I.kIn True.intro e (fun z => nomatch z) h
  | bl y => cases (show u = Value.bool y from rx); exact PySem.W.kia_one PySem.W.kitx_bool I.kIn True.intro e (fun z => nomatch z) h
  | int i => obtain ⟨t, q⟩ := (show ∃ t, u = Value.int i t from rx); cases q; exact PySem.W.kia_one PySem.W.kitx_int I.kIn True.intro e (fun z => nomatch z) h
  | str y => obtain ⟨t, q⟩ := (show ∃ t, u = Value.str y t from rx); cases q; exact PySem.W.kia_one PySem.W.kitx_str I.kIn True.intro e (fun z => nomatch z) h
  | flt y => obtain ⟨t, q⟩ := (show ∃ t, u = Value.float y t from rx); cases q; exact PySem.W.kia_one PySem.W.kitx_float I.kIn True.intro e (fun z => nomatch z) h
  | @lst a xs ea =>
    cases (show u = Value.ref a from rx)
    obtain ⟨_, _, n, _, h1⟩ := (show ObjOk X.prog X.w H s.heap a (.lst xs) from I.hok a _ ea)
    exact PySem.W.kia_one PySem.W.kitx_list I.kIn ⟨_, h1, rfl⟩ e (fun z => nomatch z) h
  | @frz a ob xs ea =>
    cases (show u = Value.ref a from rx)
    obtain ⟨_, _, _, n, _, h1⟩ := (show ObjOk X.prog X.w H s.heap a (.frz ob (.lst xs)) from I.hok a _ ea)
    exact PySem.W.kia_one PySem.W.kitx_list I.kIn ⟨_, h1, rfl⟩ e (fun z => nomatch z) h
  | @tup a xs ea =>
    cases (show u = Value.ref a from rx)
    obtain ⟨_, _, _, p⟩ := (show ObjOk X.prog X.w H s.heap a (.tup xs) from I.hok a _ ea)
    obtain ⟨o, h1, h2, _⟩ := p
    exact PySem.W.kia_one PySem.W.kitx_tuple I.kIn ⟨o, h1, h2⟩ e (fun z => nomatch z) h
  | @dK a kvs ea =>
    cases (show u = Value.ref a from rx)
    obtain ⟨_, _, vs, _, p⟩ := (show ObjOk X.prog X.w H s.heap a (.dK kvs) from I.hok a _ ea)
    obtain ⟨o, es, ep, h1, h2, _⟩ := p
    exact PySem.W.kia_one PySem.W.kitx_dict I.kIn ⟨o, h1, h2.1⟩ e (fun z => nomatch z) h
  | @dT a kvs ea =>
    cases (show u = Value.ref a from rx)
    obtain ⟨_, _, xs, _, o, es, ep, h1, h2, _⟩ := (show ObjOk X.prog X.w H s.heap a (.dT kvs) from I.hok a _ ea)
    exact PySem.W.kia_one PySem.W.kitx_dict I.kIn ⟨o, h1, h2.1⟩ e (fun z => nomatch z) h
  | @ins a C dx fs ea cl ha hn htk hm =>
    cases (show u = Value.ref a from rx)
    obtain ⟨mA, O, _⟩ := ins_get I.hok ea
    obtain ⟨od, J, _⟩ := O.look
    exact PySem.W.kia_one (PySem.W.kitx_own (cl.get _) cl.hd ha hn htk hm) I.kIn J e (fun z => nomatch z) h
end
end L2
namespace L2
open PySem PySem.Spec PyProof.Rows
structure Room (k : Nat) (A : Around) : Prop where
  hd : A.handled = none
  dp : A.depth + 3 * k + 5 < recursionLimit
  un : A.units + 16 * k + 200 < cLine
theorem Room.mono {j k : Nat} {A : Around} (r : Room k A) (h : j <= k) : Room j A := ⟨r.hd, by have := r.dp; omega, by have := r.un; omega⟩
theorem Room.deeper {k : Nat} {A : Around} (r : Room (k + 1) A) (env : Env) : Room k (A.deeper env) :=
  ⟨r.hd, by have := r.dp; show A.depth + 1 + 3 * k + 5 < _; omega, by have := r.un; show A.units + 3 + 16 * k + 200 < _; omega⟩
theorem Room.in1 {k : Nat} {A : Around} (r : Room (k + 1) A) : Room k A.in1 :=
  ⟨r.hd, by have := r.dp; show A.depth + 3 * k + 5 < _; omega, by have := r.un; show A.units + 1 + 16 * k + 200 < _; omega⟩
theorem make_depth {A : Around} {C : Addr} {us : List Value} {kw : List (Str × Value)} : (A.under (.builtin "type.__call__" ⟨.ref C :: us, kw⟩)).depth = A.depth + 1 := by
  first | rfl | simp [Around.under, Code.weight, Code.isCreation, Code.isGuard, Code.isCaller, Code.frames, Code.isFrame, guardIds]
theorem make_units {A : Around} {C : Addr} {us : List Value} {kw : List (Str × Value)} : (A.under (.builtin "type.__call__" ⟨.ref C :: us, kw⟩)).units = A.units + 1 := by
  first | rfl | simp [Around.under, Code.cUnits, Code.frames, Code.isFrame]
theorem Room.make {k : Nat} {A : Around} (r : Room (k + 1) A) (C : Addr) (us : List Value) (kw : List (Str × Value)) : Room k (A.under (.builtin "type.__call__" ⟨.ref C :: us, kw⟩)) :=
  ⟨r.hd, by have := r.dp; rw [make_depth]; omega, by have := r.un; rw [make_units]; omega⟩
theorem Room.depth {k : Nat} {A : Around} (r : Room k A) : A.depth < recursionLimit := by have := r.dp; omega
theorem Room.units {k : Nat} {A : Around} (r : Room k A) : A.units + 64 < cLine := by have := r.un; omega
theorem Room.units0 {k : Nat} {A : Around} (r : Room k A) : A.units < cLine := by have := r.un; omega
def tNil : TA := fun _ H Q => Q [] H
def tCons (ta : TE) (tr : TA) : TA := fun σ H Q => ta σ H fun x H1 => tr σ H1 fun xs H2 => Q (x :: xs) H2
section
variable {X : Cx} {e : Expr} {es : List Expr} {te : TE} {t : TA} {pos : Pos}
theorem pa_nil : PA X [] tNil := fun _ _ _ _ H Q I h => Calls.spliced_nil ⟨[], H, I, .nil, h⟩
theorem pa_cons (ha : PE X e te) (hr : PA X es t) (hs : starEach (e :: es) X.env = (false, eval e X.env) :: starEach es X.env := by rfl) : PA X (e :: es) (tCons te t) := by
  intro pos pins s σ H Q I h
  rw [hs]
  show wpAny _ _ (spliced ((false, eval e X.env) :: backTo pos (starEach es X.env))) _ _ s
  refine Calls.spliced_cons (thn (ha pins s σ H _ I h) fun u s1 ⟨x, H1, I1, r1, q1⟩ => ?_)
  exact thn (hr pos pins s1 σ H1 _ I1 q1) fun us s2 ⟨xs, H2, I2, r2, q2⟩ => ⟨x :: xs, H2, I2, .cons r1 r2, q2⟩
def tTup (t : TA) : TE := fun σ H Q => t σ H fun xs H1 => xs.length <= sizeLine /\ ∀ p, H1 p = none -> Q (.ref p) (upd H1 p (.tup xs))
def tLst (t : TA) : TE := fun σ H Q => t σ H fun xs H1 => xs.length <= sizeLine /\ ∀ p, H1 p = none -> Q (.ref p) (upd H1 p (.lst xs))
theorem pe_tup {x1} (h : PA X es t) : PE X (.Tuple es x1 pos) (tTup t) := by
  intro pins s σ H Q I hq
  refine wpAny_Tuple_spliced (thn (h pos pins s σ H _ I hq) fun us s1 ⟨xs, H1, I1, r, z, q⟩ => ⟨by rw [<- r.length]; exact z, ?_⟩)
  have hf : H1 s1.heap.objs.size = none := I1.hok.fresh (Nat.le_refl _)
  refine ⟨.ref s1.heap.objs.size, upd H1 s1.heap.objs.size (.tup xs), I1.laid (t' := s1.toks) (fun b u e => Heap.get?_push_of_some _ e) (Nat.le_refl _) ?_, rfl, q _ hf⟩
  exact ⟨⟨z, _, Heap.get?_push_size _ rfl, rfl⟩, us, r, ⟨_, Heap.get?_push_size _ rfl, rfl, _, rfl⟩⟩
theorem pe_lst (h : PA X es t) : PE X (.List es pos) (tLst t) := by
  intro pins s σ H Q I hq
  refine wpAny_List_spliced (thn (h pos pins s σ H _ I hq) fun us s1 ⟨xs, H1, I1, r, z, q⟩ => ⟨by rw [<- r.length]; exact z, ?_⟩)
  have hf : H1 s1.heap.objs.size = none := I1.hok.fresh (Nat.le_refl _)
  refine ⟨.ref s1.heap.objs.size, upd H1 s1.heap.objs.size (.lst xs), I1.laid (t' := s1.toks) (fun b u e => Heap.get?_push_of_some _ e) (Nat.le_refl _) ?_, rfl, q _ hf⟩
  exact ⟨z, us, 0, r, Heap.get?_push_size _ rfl⟩
end
abbrev Sp := List V -> Hp -> VK -> XK -> Prop
abbrev CXT := List Env -> Hp -> Shared -> XK -> Value -> Shared -> Prop
structure Env0 (P : Program) (w : World) (K : PySem.W.Frag) (mg : Str -> Option Value) (base : Heap) (A : Around) (outer : List Env) (s : Shared) (H : Hp) : Prop where
  frames : A.frames = some outer
  mod : Mod K mg base
  bs : ∀ b o, base.get? b = some o -> s.heap.get? b = some o /\ H b = none
  bsz : base.objs.size <= s.heap.objs.size
  funs : s.heap.FunFrames base outer
  frf : ∀ b ∈ frs outer, H b = none
  hok : HOk P w H s.heap
  bare : AllBare s.gens
def CE (outer : List Env) (P : Program) (w : World) (H : Hp) (s : Shared) (Q : VK) (u : Value) (s' : Shared) : Prop :=
  ∃ v H', s'.os = s.os /\ AllBare s'.gens /\ Un (frs outer) [] H H' s.heap s'.heap /\ HOk P w H' s'.heap /\ RelV v u /\ Q v H'
def CR (CX : CXT) (outer : List Env) (P : Program) (w : World) (H : Hp) (s : Shared) (Q : VK) (E : XK) (r : Result) (s' : Shared) : Prop :=
  match r with
  | .ok (.ret u) => CE outer P w H s Q u s'
  | .ok _ => False
  | .error e => CX outer H s E e s'
structure FnOk (P : Program) (w : World) (K : PySem.W.Frag) (mg : Str -> Option Value) (base : Heap) (CX : CXT) (k : Nat) (f : Addr) (fd : FuncData) (ps : List Str) (sp : Sp) : Prop where
  len : ∀ vs H Q E, sp vs H Q E -> vs.length = ps.length
  run : ∀ (A : Around) (outer : List Env) (s : Shared) (H : Hp) (args : Args) (us : List Value) (vs : List V) (Q : VK) (E : XK), Room k A -> Env0 P w K mg base A outer s H -> BindsTo s fd args (ps.zip us) -> Vals vs us -> sp vs H Q E ->
    codeAny (model P w) A (.call (.ref f) args) (CR CX outer P w H s Q E) s
theorem FnOk.mono {P : Program} {w : World} {K : PySem.W.Frag} {mg : Str -> Option Value} {base : Heap} {CX : CXT} {j k : Nat} {f : Addr} {fd : FuncData} {ps : List Str} {sp : Sp} (F : FnOk P w K mg base CX j f fd ps sp) (h : j <= k) :
    FnOk P w K mg base CX k f fd ps sp := ⟨F.len, fun A outer s H args us vs Q E hr => F.run A outer s H args us vs Q E (hr.mono h)⟩
theorem Env0.make {P : Program} {w : World} {K : PySem.W.Frag} {mg : Str -> Option Value} {base : Heap} {A : Around} {outer : List Env} {s : Shared} {H : Hp} (e : Env0 P w K mg base A outer s H) (C : Addr) (us : List Value) (kw : List (Str × Value)) :
    Env0 P w K mg base (A.under (.builtin "type.__call__" ⟨.ref C :: us, kw⟩)) outer s H := ⟨by first | exact e.frames | (simpa [Around.under, Code.envs, Code.isFrame, pushEnvs] using e.frames), e.mod, e.bs, e.bsz, e.funs, e.frf, e.hok, e.bare⟩
section
variable {X : Cx} {pins : List (Addr × Obj)} {σ : St} {H : Hp} {s s' : Shared}
theorem Inv.env0 (I : Inv X pins σ H s) : Env0 X.prog X.w X.K X.mg X.base X.A X.stack s H :=
  ⟨I.ok.frames, I.ok.mod, I.bs, Nat.le_trans I.ok.bsz I.sz, I.stack, I.stkFree, I.hok, I.bare⟩
theorem Inv.after {Q : VK} {u : Value} (I : Inv X pins σ H s) (h : CE X.stack X.prog X.w H s Q u s') : EP X pins σ Q u s' := by
  obtain ⟨v, H', os, bare, un, hok, r, q⟩ := h
  obtain ⟨hh, g, d, t, os'⟩ := s'
  obtain rfl : os' = s.os := os
  exact ⟨v, H', I.call (h' := hh) (g' := g) (d' := d) (t' := t) (ch := []) un hok bare (fun b z => absurd z (by simp)), r, q⟩
end
def tCall (sp : Sp) (dvs : List V) (E : XK) (t : TA) : TE := fun σ H Q => t σ H fun vs H1 => sp (vs ++ dvs) H1 Q E
def tMake (C : Addr) (sp : Sp) (dvs : List V) (E : XK) (t : TA) : TE := fun σ H Q => t σ H fun vs H1 => ∀ x dx, H1 x = none -> H1 dx = none -> dx ≠ x ->
  sp (.ref x :: (vs ++ dvs)) (upd (upd H1 dx (.own x)) x (.ins C dx [])) (fun v H2 => v = .non /\ Q (.ref x) H2) E
def Binds (K : PySem.W.Frag) (fd : FuncData) (ps : List Str) (ds : List Value) : Prop :=
  ∀ (s : Shared) (us : List Value), K.In s.heap -> (us ++ ds).length = ps.length -> BindsTo s fd ⟨us, []⟩ (ps.zip (us ++ ds))
theorem Binds.all {K : PySem.W.Frag} {fd : FuncData} {ps : List Str} (h : ∀ us : List Value, us.length = ps.length -> bindArgs fd ⟨us, []⟩ = pure (ps.zip us)) : Binds K fd ps [] := fun s us _ hl => by
  rw [List.append_nil] at hl ⊢
  exact .of_eq (h us hl)
def Passes (CX : CXT) (X : Cx) (E : XK) : Prop := ∀ (pins : List (Addr × Obj)) (σ : St) (H : Hp) (s : Shared) (e : Value) (s' : Shared), Inv X pins σ H s -> CX X.stack H s E e s' -> X.xe e s'
section
variable {X : Cx} {CX : CXT} {k : Nat} {f C : Addr} {fd : FuncData} {ps : List Str} {sp : Sp} {dvs : List V} {ds : List Value} {E : XK} {x m : Str} {p pos apos : Pos} {e o : Expr} {es : List Expr} {ta : TE} {t : TA}
theorem run_fn {pins : List (Addr × Obj)} {σ : St} {H : Hp} {s : Shared} {Q : VK} {us : List Value} {vs : List V} (F : FnOk X.prog X.w X.K X.mg X.base CX k f fd ps sp) (hr : Room k X.A) (hb : Binds X.K fd ps ds) (hd : Vals dvs ds) (hx : Passes CX X E)
    (I : Inv X pins σ H s) (r : Vals vs us) (h : sp (vs ++ dvs) H Q E) : wpAny (model X.prog X.w) X.A (call (.ref f) us) (EP X pins σ Q) X.xe s := by
  have r2 : Vals (vs ++ dvs) (us ++ ds) := r.append hd
  have hl : (us ++ ds).length = ps.length := by rw [<- r2.length]; exact F.len _ _ _ _ h
  refine wpAny_call (codeAny_mono (F.run X.A X.stack s H ⟨us, []⟩ (us ++ ds) (vs ++ dvs) Q E hr I.env0 (hb s us I.kIn hl) r2 h) fun r s' hq => ?_)
  cases r with
  | error e => exact hx pins σ H s e s' I hq
  | ok fl =>
    cases fl with
    | ret u => exact I.after hq
    | next => exact False.elim hq
    | brk => exact False.elim hq
    | cont => exact False.elim hq
theorem pe_call (F : FnOk X.prog X.w X.K X.mg X.base CX k f fd ps sp) (hr : Room k X.A) (hg : Gl X x) (hm : X.mg x = some (.ref f)) (hk : PySem.W.keepIn X.K (.ref f) = true) (hb : Binds X.K fd ps ds) (hd : Vals dvs ds) (hx : Passes CX X E)
    (ha : PA X (e :: es) t) (hdb : (x == ("__debug__" : Str)) = false := by decide) (he : starEach (e :: es) X.env = (false, eval e X.env) :: starEach es X.env := by rfl) (hpl : (backTo pos (starEach es X.env)).any (·.1) = false := by rfl) :
    PE X (.Call (.Name x p) (e :: es) [] pos) (tCall sp dvs E t) := by
  intro pins s σ H Q I h
  refine wpAny_Call_Name_kw (ld_glob I hg hm ?_ hdb)
  refine PySem.W.callWith_K (h₀ := X.base) I.ok.mod.kin hk (thn (ha pos pins s σ H _ I h) fun us s1 ⟨vs, H1, I1, r, q⟩ => ⟨I1.kIn, ?_⟩) he hpl
  exact run_fn F hr hb hd hx I1 r q
structure Mk (K : PySem.W.Frag) (C f : Addr) : Prop where
  makes : PySem.W.makesIn K C = true
  init : PySem.W.findIn K (.ref C) "__init__" = some (some (.ref f))
  fn : PySem.W.isFn K (.ref f) = true
  kp : PySem.W.keepIn K (.ref C) = true
theorem run_make {pins : List (Addr × Obj)} {σ : St} {H : Hp} {s : Shared} {Q : VK} {us : List Value} {vs : List V} (M : Mk X.K C f) (F : FnOk X.prog X.w X.K X.mg X.base CX k f fd ps sp) (hr : Room (k + 1) X.A) (hb : Binds X.K fd ps ds) (hd : Vals dvs ds)
    (hx : Passes CX X E) (I : Inv X pins σ H s) (r : Vals vs us)
    (h : ∀ x dx, H x = none -> H dx = none -> dx ≠ x -> sp (.ref x :: (vs ++ dvs)) (upd (upd H dx (.own x)) x (.ins C dx [])) (fun v H2 => v = .non /\ Q (.ref x) H2) E) :
    wpAny (model X.prog X.w) X.A (call (.ref C) us) (EP X pins σ Q) X.xe s := by
  have hq := h (s.heap.objs.size + 1) s.heap.objs.size (I.hok.fresh (Nat.le_succ _)) (I.hok.fresh (Nat.le_refl _)) (Nat.ne_of_lt (Nat.lt_succ_self _))
  have I2 := Inv.made (C := C) I
  have r2 : Vals (V.ref (s.heap.objs.size + 1) :: (vs ++ dvs)) (Value.ref (s.heap.objs.size + 1) :: (us ++ ds)) := .cons rfl (r.append hd)
  have hl : (Value.ref (s.heap.objs.size + 1) :: us ++ ds).length = ps.length := by
    have e := r2.length
    rw [F.len _ _ _ _ hq] at e
    exact e.symm
  refine wpAny_call (make_map (f := f) I.kIn M.makes M.init (beq_iff_eq.mp M.fn) (codeAny_mono (F.run _ X.stack _ _ ⟨Value.ref (s.heap.objs.size + 1) :: us, []⟩ (Value.ref (s.heap.objs.size + 1) :: (us ++ ds)) _ _ E (hr.make C us [])
    (I2.env0.make C us []) (hb _ (Value.ref (s.heap.objs.size + 1) :: us) I2.kIn hl) r2 hq) fun r s' hq' => ?_))
  cases r with
  | error e => exact hx pins σ _ _ e s' I2 hq'
  | ok fl =>
    cases fl with
    | ret u =>
      obtain ⟨v, H', I3, rv, ev, q3⟩ := I2.after hq'
      subst ev
      exact ⟨rv, ⟨V.ref (s.heap.objs.size + 1), H', I3, rfl, q3⟩⟩
    | next => exact False.elim hq'
    | brk => exact False.elim hq'
    | cont => exact False.elim hq'
theorem pe_make (M : Mk X.K C f) (F : FnOk X.prog X.w X.K X.mg X.base CX k f fd ps sp) (hr : Room (k + 1) X.A) (hg : Gl X x) (hm : X.mg x = some (.ref C)) (hb : Binds X.K fd ps ds) (hd : Vals dvs ds) (hx : Passes CX X E)
    (ha : PA X (e :: es) t) (hdb : (x == ("__debug__" : Str)) = false := by decide) (he : starEach (e :: es) X.env = (false, eval e X.env) :: starEach es X.env := by rfl) (hpl : (backTo pos (starEach es X.env)).any (·.1) = false := by rfl) :
    PE X (.Call (.Name x p) (e :: es) [] pos) (tMake C sp dvs E t) := by
  intro pins s σ H Q I h
  refine wpAny_Call_Name_kw (ld_glob I hg hm ?_ hdb)
  refine PySem.W.callWith_K (h₀ := X.base) I.ok.mod.kin M.kp (thn (ha pos pins s σ H _ I h) fun us s1 ⟨vs, H1, I1, r, q⟩ => ⟨I1.kIn, ?_⟩) he hpl
  exact run_make M F hr hb hd hx I1 r q
end
def PK (X : Cx) (kws : List Keyword) (t : TA) : Prop :=
  ∀ (pos : Pos) (pins : List (Addr × Obj)) (s : Shared) (σ : St) (H : Hp) (Q : List V -> Hp -> Prop), Inv X pins σ H s -> t σ H Q -> wpAny (model X.prog X.w) X.A (evalAll ((backToKw pos (keywordEach kws X.env)).map (·.2))) (AP X pins σ Q) X.xe s
section
variable {X : Cx} {CX : CXT} {k : Nat} {f C : Addr} {fd : FuncData} {ps ks : List Str} {sp : Sp} {E : XK} {x m : Str} {p pos apos kpos : Pos} {e o : Expr} {es : List Expr} {kws : List Keyword} {te ta : TE} {t tk : TA} {nm : Option Str}
theorem pk_nil : PK X [] tNil := fun _ _ _ _ H Q I h => wpAny_evalAll_nil ⟨[], H, I, .nil, h⟩
theorem pk_cons (ha : PE X e te) (hr : PK X kws t) : PK X (⟨nm, e, kpos⟩ :: kws) (tCons te t) := by
  intro pos pins s σ H Q I h
  show wpAny _ _ (evalAll ((do let v <- eval e X.env; standAt pos; pure v) :: (backToKw pos (keywordEach kws X.env)).map (·.2))) _ _ s
  refine wpAny_evalAll_cons (wpAny_bind (thn (ha pins s σ H _ I h) fun u s1 ⟨x, H1, I1, r1, q1⟩ => wpAny_bind (wpAny_standAt (wpAny_pure ?_))))
  exact thn (hr pos pins s1 σ H1 _ I1 q1) fun us s2 ⟨xs, H2, I2, r2, q2⟩ => ⟨x :: xs, H2, I2, .cons r1 r2, q2⟩
variable {g : List Value -> List Value -> List Value} {gV : List V -> List V -> List V}
end
structure FnScope (N P : List Str) (sc : Scope) : Prop where
  kind : sc.kind = .function
  co : sc.isCoroutine = false
  gen : sc.isGenerator = false
  nd : N.Nodup
  pre : N.take P.length = P
  par : ∀ x ∈ P, sc.names.lookup x = some .local \/ sc.names.lookup x = some .cell
  nofree : ∀ y ∈ sc.names, y.2 ≠ .free
theorem bindL_out {kindOf : Str -> Option NameKind} {x : Str} : ∀ {binds : List (Str × Value)} {m : Str -> Option Value}, (∀ v, (x, v) ∉ binds) -> bindL kindOf binds m x = m x
  | [], _, _ => rfl
  | (n, v) :: r, m, h => by
    unfold bindL
    rw [bindL_out fun w hw => h w (List.mem_cons_of_mem _ hw)]
    split
    . have : x ≠ n := by rintro rfl; exact h v List.mem_cons_self
      simp [this]
    . rfl
theorem bindC_out {kindOf : Str -> Option NameKind} {x : Str} : ∀ {binds : List (Str × Value)} {m : Str -> Option Value}, (∀ v, (x, v) ∉ binds) -> bindC kindOf binds m x = m x
  | [], _, _ => rfl
  | (n, v) :: r, m, h => by
    unfold bindC
    rw [bindC_out fun w hw => h w (List.mem_cons_of_mem _ hw)]
    split
    . rfl
    . have : x ≠ n := by rintro rfl; exact h v List.mem_cons_self
      simp [this]
theorem bindL_get {kindOf : Str -> Option NameKind} {x : Str} {v : Value} : ∀ {P : List Str} {vs : List Value} {i : Nat} {m : Str -> Option Value}, P.Nodup -> P[i]? = some x -> vs[i]? = some v -> kindOf x = some .local ->
    bindL kindOf (P.zip vs) m x = some v
  | [], _, _, _, _, h, _, _ => by simp at h
  | _ :: _, [], _, _, _, _, h, _ => by simp at h
  | p :: P, w :: vs, 0, m, nd, h1, h2, hk => by
    simp at h1 h2; subst h1; subst h2
    show bindL kindOf ((p, w) :: P.zip vs) m p = _
    unfold bindL
    rw [bindL_out fun v hv => (List.nodup_cons.mp nd).1 (List.of_mem_zip hv).1, if_pos hk]
    simp
  | p :: P, w :: vs, i + 1, m, nd, h1, h2, hk => by
    show bindL kindOf ((p, w) :: P.zip vs) m x = _
    unfold bindL
    exact bindL_get (i := i) (List.nodup_cons.mp nd).2 (by simpa using h1) (by simpa using h2) hk
theorem bindC_get {kindOf : Str -> Option NameKind} {x : Str} {v : Value} : ∀ {P : List Str} {vs : List Value} {i : Nat} {m : Str -> Option Value}, P.Nodup -> P[i]? = some x -> vs[i]? = some v -> kindOf x ≠ some .local ->
    bindC kindOf (P.zip vs) m x = some v
  | [], _, _, _, _, h, _, _ => by simp at h
  | _ :: _, [], _, _, _, _, h, _ => by simp at h
  | p :: P, w :: vs, 0, m, nd, h1, h2, hk => by
    simp at h1 h2; subst h1; subst h2
    show bindC kindOf ((p, w) :: P.zip vs) m p = _
    unfold bindC
    rw [bindC_out fun v hv => (List.nodup_cons.mp nd).1 (List.of_mem_zip hv).1, if_neg hk]
    simp
  | p :: P, w :: vs, i + 1, m, nd, h1, h2, hk => by
    show bindC kindOf ((p, w) :: P.zip vs) m x = _
    unfold bindC
    exact bindC_get (i := i) (List.nodup_cons.mp nd).2 (by simpa using h1) (by simpa using h2) hk
def start (N : List Str) (vs : List V) : St := vs.map some ++ List.replicate (N.length - vs.length) none
def cxOf (CX : CXT) (P : Program) (w : World) (K : PySem.W.Frag) (mg : Str -> Option Value) (base : Heap) (N : List Str) (qual : Str) (scope : Scope) (f : Addr) (cd : Value) (A : Around) (outer : List Env) (s : Shared) (H : Hp) (E : XK) : Cx where
  prog := P
  w := w
  K := K
  mg := mg
  base := base
  A := A.deeper (envOfC qual scope s.heap.objs.size f cd)
  N := N
  s₀ := s
  H₀ := H
  env := envOfC qual scope s.heap.objs.size f cd
  outer := outer
  stack := envOfC qual scope s.heap.objs.size f cd :: outer
  ex := []
  calm := true
  fn := fun _ => true
  pn := []
  xe := fun e s' => wpAny (model P w) (A.deeper (envOfC qual scope s.heap.objs.size f cd)) (leaving (envOfC qual scope s.heap.objs.size f cd) e) (fun _ s'' => CX outer H s E e s'') (fun e' s'' => CX outer H s E e' s'') s'
theorem cell_has {sc : Scope} {n : Nat} {x : Str} (h : sc.names.lookup x = some .cell) : ∃ c, (cellsFrom n sc.names []).lookup x = some c := by
  have q := PySem.W.cellsFrom_some sc.names n [] (.inl h)
  exact Option.isSome_iff_exists.mp q
theorem inv_start {CX : CXT} {P : Program} {w : World} {K : PySem.W.Frag} {mg : Str -> Option Value} {base : Heap} {N ps : List Str} {qual : Str} {scope : Scope} {f : Addr} {cd : Value} {A : Around} {outer : List Env} {s s1 : Shared} {H : Hp} {E : XK} {us : List Value} {vs : List V}
    (S : FnScope N ps scope) (hd : A.handled = none) (e0 : Env0 P w K mg base A outer s H) (hl : vs.length = ps.length) (r : Vals vs us)
    (x : InCallC s s.heap.objs.size (bindL (envOfC qual scope s.heap.objs.size f cd).kindOf (ps.zip us) fun _ => none) (cellsFrom (s.heap.objs.size + 1) scope.names []) (bindC (envOfC qual scope s.heap.objs.size f cd).kindOf (ps.zip us) fun _ => none) s1) :
    Inv (cxOf CX P w K mg base N qual scope f cd A outer s H E) [] (start N vs) H s1 := by
  have hpl : ps.length <= N.length := by have := congrArg List.length S.pre; rw [List.length_take] at this; omega
  obtain ⟨h1, tk, rfl, hk⟩ := x.done
  have noA : ∀ b : Addr, b ∉ (cxOf CX P w K mg base N qual scope f cd A outer s H E).ex := fun b z => absurd (show b ∈ ([] : List Addr) from z) (by simp)
  refine ⟨⟨e0.mod, S.kind, rfl, rfl, Nat.le_refl _, fun y z c h1 h2 => ?_, fun y hy => ?_, fun y c _ h => ?_, fun _ => hd, Around.frames_deeper e0.frames, .inr ⟨rfl, rfl⟩, fun b z => absurd z (noA b), e0.bs, e0.bsz, fun b _ _ => noA b, fun b z => absurd z (noA b), e0.funs, e0.frf⟩,
    rfl, e0.bare, Un.kept hk, ⟨_, x.toInCall.ns, fun i y v h1 h2 h3 => ?_⟩, fun y c h => ⟨_, x.cell y c h⟩, e0.hok.fresh (Nat.le_refl _), fun y c h => ?_, fun p hp => absurd (show p ∈ ([] : List (Addr × Obj)) from hp) (by simp), e0.hok.kept hk, ?_⟩
  . exact name_of_addr x.apart (PySem.mem_of_lookup h1) (PySem.mem_of_lookup h2)
  . have hy : scope.names.lookup y = some .cell \/ scope.names.lookup y = some .free := hy
    rcases hy with hy | hy
    . exact cell_has hy
    . exact absurd rfl (S.nofree _ (PySem.mem_of_lookup hy))
  . exact Nat.le_of_lt (x.above y c (PySem.mem_of_lookup h))
  . have hi : i < vs.length := by
      unfold start at h2
      by_cases hi : i < vs.length
      . exact hi
      . rw [List.getElem?_append_right (by simpa using hi)] at h2
        rw [List.getElem?_replicate] at h2
        split at h2 <;> cases h2
    have ha : vs[i]? = some v := by
      unfold start at h2
      rw [List.getElem?_append_left (by simpa using hi), List.getElem?_map] at h2
      cases e : vs[i]? with
      | none => rw [e] at h2; cases h2
      | some a => rw [e] at h2; cases h2; rfl
    obtain ⟨u, hu, rv⟩ := r.get ha
    have hp : ps[i]? = some y := by
      rw [<- S.pre, List.getElem?_take_of_lt (by omega)]; exact h1
    have ndP : ps.Nodup := by rw [<- S.pre]; exact S.nd.sublist (List.take_sublist _ _)
    refine ⟨u, rv, ?_⟩
    rcases S.par y (List.mem_of_getElem? hp) with k | k
    . exact .inl ⟨k, bindL_get ndP hp hu k⟩
    . obtain ⟨c, e⟩ := cell_has (n := s.heap.objs.size + 1) k
      refine .inr ⟨.inl k, c, e, ?_⟩
      have q := x.cell y c e
      rw [bindC_get ndP hp hu (by show scope.names.lookup y ≠ _; rw [k]; decide)] at q
      exact q
  . exact e0.hok.fresh (Nat.le_of_lt (x.above y c (PySem.mem_of_lookup h)))
  . unfold start
    show _ = N.length
    rw [List.length_append, List.length_map, List.length_replicate]
    omega
theorem fn_of {CX : CXT} {P : Program} {w : World} {K : PySem.W.Frag} {mg : Str -> Option Value} {base : Heap} {k : Nat} {f : Addr} {name qual : Str} {params : Arguments} {body : List Stmt} {scope : Scope} {dV kV doc pm cdv ct oc : Value} {an od : Option Addr}
    {osl : Array (Option Value)} {N ps : List Str} {sp : Sp} (lk : K.lookup f = some ⟨oc, od, .func (PySem.W.fnOf name qual params body scope dV kV doc pm an cdv ct), osl⟩) (hcd : PySem.W.codeIn K cdv qual = true) (S : FnScope N ps scope)
    (len : ∀ vs H Q E, sp vs H Q E -> vs.length = ps.length)
    (hbody : ∀ (A : Around) (outer : List Env) (s : Shared) (H : Hp) (vs : List V) (Q : VK) (E : XK), Room k (A.deeper (envOfC qual scope s.heap.objs.size f cdv)) -> sp vs H Q E ->
      ∃ t, PSs (cxOf CX P w K mg base N qual scope f cdv A outer s H E) body t /\ t { nx := fun _ H' => Q .non H', rt := Q } (start N vs) H) :
    FnOk P w K mg base CX (k + 1) f (PySem.W.fnOf name qual params body scope dV kV doc pm an cdv ct) ps sp := by
  refine ⟨len, fun A outer s H args us vs Q E hr e0 hb r hsp => ?_⟩
  have hl := len _ _ _ _ hsp
  have KX : K.In s.heap := e0.mod.kin.keeps fun b o e => (e0.bs b o e).1
  have lim : s.heap.NoLimit := e0.mod.nolimit.keeps fun b o e => (e0.bs b o e).1
  have hkind : ∀ y ∈ ps.zip us, scope.names.lookup y.1 = some .local \/ (scope.names.lookup y.1 = some .cell /\ ((cellsFrom (s.heap.objs.size + 1) scope.names []).lookup y.1).isSome = true) := fun ⟨n, v⟩ hy => by
    rcases S.par n (List.of_mem_zip hy).1 with q | q
    . exact .inl q
    . exact .inr ⟨q, PySem.W.cellsFrom_some _ _ _ (.inl q)⟩
  refine codeAny_call_function hr.depth (KX _ _ lk) rfl S.co S.gen rfl (PySem.W.codeRec_of KX hcd) (hb _ _ _ _ ?_)
  refine wpAny_newFunctionEnv_cells S.kind hkind fun env he s1 x => ?_
  subst he
  refine ⟨lim.keeps x.toInCall.keep, codeAny_func ?_⟩
  obtain ⟨t, ht, hq⟩ := hbody A outer s H vs Q E (hr.deeper _) hsp
  have I : Inv (cxOf CX P w K mg base N qual scope f cdv A outer s H E) [] (start N vs) H s1 := inv_start S hr.hd e0 hl r x
  refine wpAny_mono (ht [] s1 (start N vs) H _ I hq) (fun fl s' hs => ?_) fun e s' hs => hs
  have fin : ∀ {σ' : St} {H' : Hp} {v : V} {u : Value}, Inv (cxOf CX P w K mg base N qual scope f cdv A outer s H E) [] σ' H' s' -> RelV v u -> Q v H' -> CE outer P w H s Q u s' :=
    fun {σ' H' v u} J rv q => ⟨v, H', J.os, J.bare, J.base, J.hok, rv, q⟩
  cases fl with
  | ret u =>
    obtain ⟨v, σ', H', J, rv, q⟩ := hs
    exact fin J rv q
  | next =>
    obtain ⟨σ', H', J, q⟩ := hs
    exact fin (v := V.non) (u := Value.none) J rfl q
  | brk =>
    obtain ⟨_, _, _, q⟩ := hs
    exact False.elim q
  | cont =>
    obtain ⟨_, _, _, q⟩ := hs
    exact False.elim q
end L2
namespace L2
open PySem PySem.Spec PyProof.Rows
section
variable {X : Cx} {x : Str} {p pos : Pos} {e : Expr} {es : List Expr} {t : TA} {id T : String} {r : List V -> Hp -> VK -> Prop}
def tCB (r : List V -> Hp -> VK -> Prop) (t : TA) : TE := fun σ H Q => t σ H fun vs H1 => r vs H1 Q
theorem pe_callB (hc : CallR X (.builtin id) r) (hg : Gl X x) (hm : X.mg x = none) (hv : bootBuiltins x = some (.builtin id)) (ha : PA X (e :: es) t) (hn : x ≠ "__name__" := by decide) (hdb : (x == ("__debug__" : Str)) = false := by decide)
    (he : starEach (e :: es) X.env = (false, eval e X.env) :: starEach es X.env := by rfl) (hpl : (backTo pos (starEach es X.env)).any (·.1) = false := by rfl) : PE X (.Call (.Name x p) (e :: es) [] pos) (tCB r t) := by
  intro pins s σ H Q I h
  refine wpAny_Call_Name_kw (ld_blt I hg hm hv ?_ hn hdb)
  exact PyProof.Rows.callWith_builtin1 (thn (ha pos pins s σ H _ I h) fun us s1 ⟨vs, H1, I1, r1, q1⟩ => hc pins s1 σ H1 vs us Q I1 r1 q1) he hpl
theorem pe_callTy (hc : CallR X (.type T) r) (hg : Gl X x) (hm : X.mg x = none) (hv : bootBuiltins x = some (.type T)) (ha : PA X (e :: es) t) (hn : x ≠ "__name__" := by decide) (hdb : (x == ("__debug__" : Str)) = false := by decide)
    (he : starEach (e :: es) X.env = (false, eval e X.env) :: starEach es X.env := by rfl) (hpl : (backTo pos (starEach es X.env)).any (·.1) = false := by rfl) : PE X (.Call (.Name x p) (e :: es) [] pos) (tCB r t) := by
  intro pins s σ H Q I h
  refine wpAny_Call_Name_kw (ld_blt I hg hm hv ?_ hn hdb)
  exact PyProof.Rows.callWith_type1 (thn (ha pos pins s σ H _ I h) fun us s1 ⟨vs, H1, I1, r1, q1⟩ => hc pins s1 σ H1 vs us Q I1 r1 q1) he hpl
end
end L2
namespace HT
open PySem PyProof.Rows
theorem eqAt_int (A : Around) (s : Shared) (a : Int) (t : Tok) (c : Int) (u : Tok) : ∃ e, SeqAt.EqAt A s (.int a t) (.int c u) e /\ (e = true ↔ a = c) :=
  ⟨(a == c), SeqAt.EqAt.int_int a t c u, by simp⟩
theorem rcLt_int (A : Around) (s : Shared) (a : Int) (t : Tok) (c : Int) (u : Tok) (prog : Program) (w : World) (E : Value -> Shared -> Prop) (Q : Value -> Shared -> Prop) (h : Q (.bool (decide (a < c))) s) :
    wpAny (model prog w) A (richCompare .Lt (.int a t) (.int c u)) Q E s :=
  (PyProof.Rows.lt_int h : wpAny (model prog w) A (compareOp .Lt (.int a t) (.int c u)) Q E s)
section
open PySem.SeqAt
open PySem.AutoSeq1 (wpAny_loadPart')
open PySem.MeetsSeq PySem.MeetsSeq2 PySem.MeetsSeq3
end
section
variable {prog : Program} {w : World} {A : Around} {E : Value -> Shared -> Prop} {s : Shared}
def sIx (n d : Nat) : Option Int -> Nat
  | none => d
  | some v => if v < 0 then (v + (n : Int)).toNat else min v.toNat n
end
end HT
namespace L2
open PySem PySem.Spec PyProof.Rows
abbrev TO := St -> Hp -> (Option Int -> Hp -> Prop) -> Prop
def PO (X : Cx) (e : Option Expr) (t : TO) : Prop :=
  ∀ (pins : List (Addr × Obj)) (s : Shared) (σ : St) (H : Hp) (Q : Option Int -> Hp -> Prop), Inv X pins σ H s -> t σ H Q ->
    wpAny (model X.prog X.w) X.A (evalPart e X.env) (fun u s' => ∃ o H', Inv X pins σ H' s' /\ IsPart u o /\ Q o H') X.xe s
def tNoPart : TO := fun _ H Q => Q none H
def tPart (t : TE) : TO := fun σ H Q => t σ H fun x H1 => ∃ i, x = .int i /\ Q (some i) H1
section
variable {X : Cx} {e : Expr} {te : TE} {lo hi : Option Expr} {tl th : TO} {pos p2 : Pos}
def tSl (r : V -> Option Int -> Option Int -> Hp -> VK -> Prop) (te : TE) (tl th : TO) : TE := fun σ H Q => te σ H fun x H1 => tl σ H1 fun l H2 => th σ H2 fun u H3 => r x l u H3 Q
def cutV (xs : List V) (lo hi : Option Int) : List V := (xs.drop (HT.sIx xs.length 0 lo)).take (HT.sIx xs.length xs.length hi - HT.sIx xs.length 0 lo)
end
end L2
namespace L2
open PySem PySem.Spec PyProof.Rows
def ixN (n : Nat) (i : Int) : Option Nat := if 0 <= i then (if i < n then some i.toNat else none) else if -(n : Int) <= i then some (i + n).toNat else none
def atI {α : Type} (xs : List α) (i : Int) : Option α := (ixN xs.length i).bind fun j => xs[j]?
theorem ixN_seq {n : Nat} {i : Int} {j : Nat} (h : ixN n i = some j) : seqIndex? i n = some j /\ j < n /\ -(n : Int) <= i /\ i < n := by
  unfold ixN at h
  by_cases h0 : 0 <= i
  . rw [if_pos h0] at h
    by_cases h1 : i < n
    . rw [if_pos h1] at h
      have e : i.toNat = j := Option.some.inj h
      exact ⟨by rw [seqIndex_of h0 h1, e], by omega, by omega, h1⟩
    . rw [if_neg h1] at h; cases h
  . rw [if_neg h0] at h
    by_cases h1 : -(n : Int) <= i
    . rw [if_pos h1] at h
      have e : (i + n).toNat = j := Option.some.inj h
      exact ⟨by rw [seqIndex_neg (by omega) h1, e], by omega, h1, by omega⟩
    . rw [if_neg h1] at h; cases h
theorem atI_get {α : Type} {xs : List α} {i : Int} {v : α} (h : atI xs i = some v) : ∃ j, seqIndex? i xs.length = some j /\ xs[j]? = some v /\ j < xs.length /\ -(xs.length : Int) <= i /\ i < xs.length := by
  unfold atI at h
  cases e : ixN xs.length i with
  | none => rw [e] at h; cases h
  | some j =>
    rw [e] at h
    obtain ⟨h1, h2, h3, h4⟩ := ixN_seq e
    exact ⟨j, h1, h, h2, h3, h4⟩
theorem atI_nat {α : Type} {xs : List α} {j : Nat} {v : α} (h : xs[j]? = some v) : atI xs (j : Int) = some v := by
  have hj : j < xs.length := (List.getElem?_eq_some_iff.mp h).1
  have e : ixN xs.length (j : Int) = some j := by
    unfold ixN
    rw [if_pos (by omega), if_pos (by omega)]; simp
  unfold atI; rw [e]; exact h
theorem atI_last {α : Type} (xs : List α) (v : α) : atI (xs ++ [v]) (-1) = some v := by
  have hl : (xs ++ [v]).length = xs.length + 1 := by simp
  have e : ixN (xs ++ [v]).length (-1) = some xs.length := by
    unfold ixN
    rw [hl, if_neg (by decide), if_pos (by omega)]
    congr 1
    omega
  unfold atI
  rw [e]
  show (xs ++ [v])[xs.length]? = some v
  simp
def PlainIx (b : Expr) : Prop := ∀ o i, subscripted b false o i = operate [o, i] (getItem o i)
def IxR (X : Cx) (r : R2) : Prop :=
  ∀ (value slice : Expr) (pins : List (Addr × Obj)) (s : Shared) (σ : St) (H : Hp) (x y : V) (v u : Value) (Q : VK), Inv X pins σ H s -> RelV x v -> RelV y u -> r x y H Q ->
    subscripted slice false v u = operate [v, u] (getItem v u) -> wpAny (model X.prog X.w) X.A (subscriptTail value slice v u) (EP X pins σ Q) X.xe s
def MtR (X : Cx) (id : String) (r : V -> List V -> Hp -> VK -> Prop) : Prop :=
  ∀ (pins : List (Addr × Obj)) (s : Shared) (σ : St) (H : Hp) (x : V) (xs : List V) (v : Value) (us : List Value) (Q : VK), Inv X pins σ H s -> RelV x v -> Vals xs us -> r x xs H Q ->
    wpAny (model X.prog X.w) X.A (call (.builtin id) (v :: us)) (EP X pins σ Q) X.xe s
section
variable {X : Cx} {a b : Expr} {ta tb : TE} {pos : Pos}
theorem pe_ix {r : R2} (hr : IxR X r) (ha : PE X a ta) (hb : PE X b tb) (hs : PlainIx b) : PE X (.Subscript a b pos) (tOp r ta tb) := by
  intro pins s σ H Q I h
  exact Subscript_ (binT ha hb I h fun v u s2 x y H2 I2 rx ry q => hr a b pins s2 σ H2 x y v u Q I2 rx ry q (hs _ _))
def rIxL (K : PySem.W.Frag) : R2 := fun x y H Q => ∃ p xs i v, x = .ref p /\ y = .int i /\ SqL K H p xs /\ atI xs i = some v /\ Q v H
def rIxT (K : PySem.W.Frag) : R2 := fun x y H Q => ∃ p xs i v, x = .ref p /\ y = .int i /\ SqT K H p xs /\ atI xs i = some v /\ Q v H
def rIxS : R2 := fun x y H Q => ∃ z i c, x = .str z /\ y = .int i /\ z.length <= sizeLine /\ atI z.cps.toList i = some c /\ Q (.str ⟨#[c]⟩) H
theorem ix_list : IxR X (rIxL X.K) := by
  intro value slice pins s σ H x y v u Q I rx ry h hs
  obtain ⟨p, xs, i, z, rfl, rfl, hq, he, q⟩ := h
  cases rx
  obtain ⟨t, rfl⟩ := ry
  obtain ⟨its, r, pl, hz⟩ := I.list hq
  obtain ⟨j, h1, h2, h3, h4, h5⟩ := atI_get he
  obtain ⟨w, ew, rw'⟩ := r.get h2
  have hl := r.length
  have hn := line63
  have fin : EP X pins σ Q w s := ⟨z, H, I, rw', q⟩
  by_cases h0 : 0 <= i
  . have hj : i.toNat = j := by
      rw [seqIndex_of h0 h5] at h1
      exact Option.some.inj h1
    exact item_listR pl.isList h0 (by omega) (by rw [hj]; simpa using ew) fin hs
  . have hj : (i + (its.toArray.size : Int)).toNat = j := by
      rw [seqIndex_neg (by omega) h4] at h1
      rw [List.size_toArray, <- hl]
      exact Option.some.inj h1
    exact subscriptTail_builtinR (x := w) pl.isList.typeIs slot_list_getitem.lookup
      (wpAny_getItem_list_neg (Q := fun r s' => r = w /\ EP X pins σ Q r s') pl.isList (by omega) (by rw [List.size_toArray] <;> omega) (by omega) (by rw [hj]; simpa using ew) ⟨rfl, fin⟩) hs
theorem ix_str : IxR X rIxS := by
  intro value slice pins s σ H x y v u Q I rx ry h hs
  obtain ⟨z, i, c, rfl, rfl, hz, he, q⟩ := h
  obtain ⟨t, rfl⟩ := rx
  obtain ⟨t', rfl⟩ := ry
  obtain ⟨j, h1, h2, h3, h4, h5⟩ := atI_get he
  have hl : z.cps.toList.length = z.length := by simp [Str.length]
  rw [hl] at h1 h4 h5
  have hn := line63
  exact tail_any (typeIs_str s z t) slot_str_getitem.lookup (getItem_str (c := c) (by
    have e1 : decide (i < -(2 ^ 63 : Int)) = false := decide_eq_false (by omega)
    have e2 : decide (i >= 2 ^ 63) = false := decide_eq_false (by omega)
    rw [e1, e2, Bool.or_false]) (by rw [h1]; simpa using h2) ⟨.str ⟨#[c]⟩, H, I.tok _, ⟨_, rfl⟩, q⟩) hs
def rSlL (K : PySem.W.Frag) : V -> Option Int -> Option Int -> Hp -> VK -> Prop := fun x lo hi H Q => ∃ a xs, x = .ref a /\ SqL K H a xs /\ ∀ p, H p = none -> Q (.ref p) (upd H p (.lst (cutV xs lo hi)))
def flatV : V -> Bool
  | .non => true
  | .bl _ => true
  | .int _ => true
  | .str _ => true
  | _ => false
def eqV : V -> V -> Bool
  | .non, .non => true
  | .bl a, .bl b => a == b
  | .bl a, .int b => (if a then 1 else 0) == b
  | .int a, .bl b => a == (if b then 1 else 0)
  | .int a, .int b => a == b
  | .str a, .str b => a == b
  | _, _ => false
theorem eqAt_V {A : Around} {s : Shared} {y x : V} {u v : Value} (ry : RelV y u) (rx : RelV x v) (fy : flatV y = true) (fx : flatV x = true) : SeqAt.EqAt A s u v (eqV y x) := by
  cases y with
  | non =>
    cases ry
    cases x with
    | non => cases rx; exact SeqAt.EqAt.same _
    | bl b => cases rx; exact SeqAt.EqAt.none_bool b
    | int b => obtain ⟨t, rfl⟩ := rx; exact SeqAt.EqAt.none_int b t
    | str b => obtain ⟨t, rfl⟩ := rx; exact SeqAt.EqAt.none_str b t
    | _ => exact absurd (show false = true from fx) Bool.false_ne_true
  | bl a =>
    cases ry
    cases x with
    | non => cases rx; exact SeqAt.EqAt.bool_none a
    | bl b => cases rx; exact SeqAt.EqAt.bool_bool a b
    | int b => obtain ⟨t, rfl⟩ := rx; exact SeqAt.EqAt.bool_int a b t
    | str b => obtain ⟨t, rfl⟩ := rx; exact SeqAt.EqAt.bool_str a b t
    | _ => exact absurd (show false = true from fx) Bool.false_ne_true
  | int a =>
    obtain ⟨t', rfl⟩ := ry
    cases x with
    | non => cases rx; exact SeqAt.EqAt.int_none a t'
    | bl b => cases rx; exact SeqAt.EqAt.int_bool a t' b
    | int b => obtain ⟨t, rfl⟩ := rx; exact SeqAt.EqAt.int_int a t' b t
    | str b => obtain ⟨t, rfl⟩ := rx; exact SeqAt.EqAt.int_str a t' b t
    | _ => exact absurd (show false = true from fx) Bool.false_ne_true
  | str a =>
    obtain ⟨t', rfl⟩ := ry
    cases x with
    | non => cases rx; exact SeqAt.EqAt.str_none a t'
    | bl b => cases rx; exact SeqAt.EqAt.str_bool a t' b
    | int b => obtain ⟨t, rfl⟩ := rx; exact SeqAt.EqAt.str_int a t' b t
    | str b => obtain ⟨t, rfl⟩ := rx; exact SeqAt.EqAt.str_str a t' b t
    | _ => exact absurd (show false = true from fx) Bool.false_ne_true
  | _ => exact absurd (show false = true from fy) Bool.false_ne_true
def inV (x : V) (xs : List V) : Bool := xs.any fun y => eqV y x
def rIn (K : PySem.W.Frag) (neg : Bool) : R2 := fun x y H Q => ∃ p xs, y = .ref p /\ (SqL K H p xs \/ SqT K H p xs) /\ flatV x = true /\ xs.all flatV = true /\ Q (.bl (if neg then !inV x xs else inV x xs)) H
theorem call_len_seq : CallR X (.builtin "len") (fun xs H Q => ∃ p ys, xs = [.ref p] /\ (SqL X.K H p ys \/ SqT X.K H p ys) /\ Q (.int ys.length) H) := by
  intro pins s σ H xs us Q I r h
  obtain ⟨p, ys, rfl, hq, q⟩ := h
  obtain ⟨u, rfl, rx⟩ := vals1 r
  cases rx
  have hn := line63
  rcases hq with hq | hq
  . obtain ⟨its, r', pl, hz⟩ := I.list hq
    have hlen := r'.length
    exact Calls.call_len_list pl.isList (by simp only [List.size_toArray] <;> omega) ⟨.int ys.length, H, I.tok _, ⟨s.toks + 1, by rw [List.size_toArray, hlen]⟩, q⟩
  . obtain ⟨its, r', pl, hz⟩ := I.tuple hq
    have hlen := r'.length
    exact len_tuple pl (by simp only [List.size_toArray] <;> omega) ⟨.int ys.length, H, I.tok _, ⟨s.toks + 1, by rw [List.size_toArray, hlen]⟩, q⟩
theorem call_tuple_of : CallR X (.type "tuple") (fun xs H Q => ∃ p ys, xs = [.ref p] /\ ((SqL X.K H p ys /\ ∀ l, H l = none -> Q (.ref l) (upd H l (.tup ys))) \/ (SqT X.K H p ys /\ Q (.ref p) H))) := by
  intro pins s σ H xs us Q I r h
  obtain ⟨p, ys, rfl, h⟩ := h
  obtain ⟨u, rfl, rx⟩ := vals1 r
  cases rx
  rcases h with ⟨hq, q⟩ | ⟨hq, q⟩
  . obtain ⟨its, r', pl, hz⟩ := I.list hq
    have hlen := r'.length
    refine call_tuple_list pl.isList (fun h' kp => ?_) (by simp only [List.size_toArray] <;> omega)
    have I1 : Inv X pins σ H { s with heap := h' } := I.kept (t' := s.toks) kp
    have I2 : Inv X pins σ (upd H h'.objs.size (.tup ys)) { s with heap := h'.push { cls := .type "tuple", data := .seq its.toArray } } :=
      I1.laid (t' := s.toks) (fun b o e => Heap.get?_push_of_some _ e) (Nat.le_refl _) (show ObjOk X.prog X.w _ _ _ (.tup ys) from ⟨⟨hz, _, Heap.get?_push_size _ rfl, rfl⟩, its, r', IsTup.new _ _⟩)
    exact ⟨.ref h'.objs.size, _, I2, rfl, q _ (I1.hok.fresh (Nat.le_refl _))⟩
  . obtain ⟨its, r', pl, hz⟩ := I.tuple hq
    exact call_tuple_same pl ⟨.ref p, H, I, rfl, q⟩
def tyV (K : PySem.W.Frag) (T : String) (x : V) (H : Hp) : Prop := match x with
  | .str _ => T = "str"
  | .int _ => T = "int"
  | .ref p => (T = "list" /\ ∃ xs, SqL K H p xs) \/ (T = "tuple" /\ ∃ o, K.lookup p = some o /\ o.cls = .type "tuple" /\ o.dict = none) \/
      (T = "dict" /\ ((∃ kvs, H p = some (.dK kvs)) \/ ∃ kvs, H p = some (.dT kvs))) \/ (T = "set" /\ ∃ S n, H p = some (.set S n))
  | _ => False
theorem tyV_is {pins : List (Addr × Obj)} {σ : St} {H : Hp} {s : Shared} {T : String} {x : V} {v : Value} (I : Inv X pins σ H s) (r : RelV x v) (ty : tyV X.K T x H) :
    s.TypeIs v T /\ ∀ a, v = .ref a -> ∃ ob, s.heap.get? a = some ob /\ ob.dict = none := by
  cases x with
  | str z =>
    obtain ⟨t, rfl⟩ := r
    cases (show T = "str" from ty)
    exact ⟨typeIs_str s z t, fun _ e => nomatch e⟩
  | int i =>
    obtain ⟨t, rfl⟩ := r
    cases (show T = "int" from ty)
    exact ⟨typeIs_int s i t, fun _ e => nomatch e⟩
  | ref p =>
    cases r
    rcases ty with ⟨rfl, xs, hq⟩ | ⟨rfl, o, hk, hc, hd⟩ | ⟨rfl, hk⟩ | ⟨rfl, S, n, hk⟩
    . obtain ⟨its, _, pl, _⟩ := I.list hq
      refine ⟨pl.isList.typeIs, fun a e => ?_⟩
      cases e
      obtain ⟨o, n, e, c, hd, _⟩ := pl
      exact ⟨o, e, hd⟩
    . refine ⟨⟨o, I.kIn p o hk, hc⟩, fun a e => ?_⟩
      cases e
      exact ⟨o, I.kIn _ o hk, hd⟩
    . have z : ∃ o, s.heap.get? p = some o /\ o.ExactDict := by
        rcases hk with ⟨kvs, hk⟩ | ⟨kvs, hk⟩
        . obtain ⟨_, _, _, _, o, _, _, e, ex, _⟩ := I.hok p _ hk
          exact ⟨o, e, ex⟩
        . obtain ⟨_, _, _, _, o, _, _, e, ex, _⟩ := I.hok p _ hk
          exact ⟨o, e, ex⟩
      obtain ⟨o, e, ex⟩ := z
      refine ⟨⟨o, e, ex.1⟩, fun a e2 => ?_⟩
      cases e2
      exact ⟨o, e, ex.2.1⟩
    . obtain ⟨o, _, _, _, e, ex, _⟩ := I.hok p _ hk
      refine ⟨⟨o, e, ex.1⟩, fun a e2 => ?_⟩
      cases e2
      exact ⟨o, e, ex.2.1⟩
  | _ => exact False.elim ty
def tBM0 (K : PySem.W.Frag) (T : String) (r : V -> List V -> Hp -> VK -> Prop) (to : TE) : TE := fun σ H Q => to σ H fun x H1 => tyV K T x H1 /\ r x [] H1 Q
def tBM (K : PySem.W.Frag) (T : String) (r : V -> List V -> Hp -> VK -> Prop) (to : TE) (t : TA) : TE := fun σ H Q => to σ H fun x H1 => tyV K T x H1 /\ t σ H1 fun xs H2 => r x xs H2 Q
variable {o e : Expr} {es : List Expr} {to : TE} {t : TA} {name : Str} {apos cpos : Pos} {T id : String} {r : V -> List V -> Hp -> VK -> Prop}
theorem pe_bm0 (pa : PlainAttrs T) (slot : Slot T name id) (hty : typeOf (.builtin id) = pure (.type "method_descriptor")) (hm : MtR X id r) (ho : PE X o to)
    (hbase : attributeBase o name X.env (eval o X.env) = eval o X.env := by rfl) (hline : (apos.endLine == cpos.line) = true := by rfl) : PE X (.Call (.Attribute o name apos) [] [] cpos) (tBM0 X.K T r to) := by
  intro pins s σ H Q I h
  refine wpAny_Call_method0_late hbase hline (thn (ho pins s σ H _ I h) fun v s1 ⟨x, H1, I1, r1, ty, q1⟩ => ?_)
  obtain ⟨h1, h2⟩ := tyV_is I1 r1 ty
  exact ⟨T, id, pa, slot, hty, h1, h2, Calls.callWith_builtin rfl (PySem.evalArgs_none (hm pins s1 σ H1 x [] v [] Q I1 r1 .nil q1))⟩
theorem pe_bm (pa : PlainAttrs T) (slot : Slot T name id) (hty : typeOf (.builtin id) = pure (.type "method_descriptor")) (hm : MtR X id r) (ho : PE X o to) (ha : PA X (e :: es) t)
    (hbase : attributeBase o name X.env (eval o X.env) = eval o X.env := by rfl)
    (hfew : ((backTo cpos (starEach (e :: es) X.env)).all (fun x => !x.1) && (backToKw cpos (keywordEach [] X.env)).all (fun x => x.1.isSome)
      && decide ((e :: es).length + ([] : List Keyword).length + (if ([] : List Keyword).isEmpty then 0 else 1) < 30)) = true := by rfl)
    (hline : (apos.endLine == cpos.line) = true := by rfl) (hs : starEach (e :: es) X.env = (false, eval e X.env) :: starEach es X.env := by rfl) (hplain : (backTo cpos (starEach es X.env)).any (·.1) = false := by rfl) :
    PE X (.Call (.Attribute o name apos) (e :: es) [] cpos) (tBM X.K T r to t) := by
  intro pins s σ H Q I h
  refine wpAny_Call_method_late hbase hfew hline rfl (thn (ho pins s σ H _ I h) fun v s1 ⟨x, H1, I1, r1, ty, q1⟩ => ?_)
  obtain ⟨h1, h2⟩ := tyV_is I1 r1 ty
  refine ⟨T, id, pa, slot, hty, h1, h2, ?_⟩
  have hA := ha cpos pins s1 σ H1 _ I1 q1
  rw [hs] at hA ⊢
  refine Calls.callWith_builtin (by show (false || (backTo cpos (starEach es X.env)).any (·.1)) = false; rw [hplain] <;> rfl) (Calls.evalArgs_plain ?_)
  exact thn hA fun us s2 ⟨vs, H2, I2, r2, q2⟩ => hm pins s2 σ H2 x vs v us Q I2 r1 r2 q2
end
end L2
namespace L2
open PySem PySem.Spec PyProof.Rows
def MtM (X : Cx) (id : String) (r : V -> List V -> Hp -> VK -> Prop) : Prop :=
  ∀ (pins : List (Addr × Obj)) (s : Shared) (σ : St) (H : Hp) (x : V) (xs : List V) (v : Value) (us : List Value) (Q : VK), Inv X pins σ H s -> RelV x v -> Vals xs us -> r x xs H Q ->
    wpAny (model X.prog X.w) X.A (call (.builtin id) (v :: us)) (EP X pins σ Q) X.xe s
theorem Vals.one : ∀ {x : V} {us : List Value}, Vals [x] us -> ∃ u, us = [u] /\ RelV x u
  | _, _, .cons r .nil => ⟨_, rfl, r⟩
theorem Vals.zero : ∀ {us : List Value}, Vals [] us -> us = []
  | _, .nil => rfl
section
variable {X : Cx} {pins : List (Addr × Obj)} {σ : St} {H : Hp} {s : Shared} {l b : Addr} {xs ys zs : List V}
theorem Inv.lset {its its' : List Value} {n : Nat} {f : Array Value -> Array Value} {t' : Nat} (I : Inv X pins σ H s) (hH : H l = some (.lst xs))
    (e : s.heap.get? l = some { cls := .type "list", data := .seq its.toArray n }) (hf : f its.toArray = its'.toArray) (hv : Vals ys its') (hz : ys.length <= sizeLine) :
    Inv X pins σ (upd H l (.lst ys)) { s with heap := s.heap.update l (Obj.mapSeq f), toks := t' } := by
  have q := PySem.IsL.update e f
  rw [hf] at q
  refine I.write (x := l) (e := l) (by rw [hH]; exact trivial) (.inl rfl) (fun b' u hb hu => (Heap.get?_update_other s.heap (Obj.mapSeq f) (Ne.symm hb)).trans hu) ⟨_, q⟩ ?_
  exact ⟨hz, its', _, hv, q⟩
theorem Inv.lnew {its : List Value} {t' : Nat} (I : Inv X pins σ H s) (hv : Vals ys its) (hz : ys.length <= sizeLine) :
    Inv X pins σ (upd H s.heap.objs.size (.lst ys)) { s with heap := s.heap.push { cls := .type "list", data := .seq its.toArray }, toks := t' } :=
  I.laid (fun _ _ q => Heap.get?_push_of_some _ q) (Nat.le_refl _) ⟨hz, its, 0, hv, Heap.get?_push_size _ rfl⟩
theorem Inv.fresh (I : Inv X pins σ H s) : H s.heap.objs.size = none := I.hok.fresh (Nat.le_refl _)
theorem Inv.lstM (I : Inv X pins σ H s) (hH : H l = some (.lst xs)) : xs.length <= sizeLine /\ ∃ (its : List Value) (n : Nat), Vals xs its /\ xs.length = its.length /\ s.heap.get? l = some { cls := .type "list", data := .seq its.toArray n } := by
  obtain ⟨z, its, n, r, e⟩ := I.hok l _ hH
  exact ⟨z, its, n, r, r.length, e⟩
end
section
variable {X : Cx}
def rAppend : V -> List V -> Hp -> VK -> Prop := fun x vs H Q => ∃ l xs y, x = .ref l /\ vs = [y] /\ H l = some (.lst xs) /\ xs.length < sizeLine /\ Q .non (upd H l (.lst (xs ++ [y])))
theorem mt_append : MtM X "list.append" rAppend := by
  intro pins s σ H x vs v us Q I rx rv h
  obtain ⟨l, xs, y, rfl, rfl, hH, hz, q⟩ := h
  cases rx
  obtain ⟨u, rfl, ru⟩ := rv.one
  obtain ⟨z, its, n, r, hl, e⟩ := I.lstM hH
  refine call_meets F.slot_list_append ⟨_, e, rfl⟩ F.entry_list_append (F.args_list_append_2 _ _) (PySem.list_append l its.toArray n u (by rw [List.size_toArray]; omega)) ⟨e, ?_⟩
  refine ⟨.non, _, I.lset (its' := its ++ [u]) hH e (by simp) (r.append (.cons ru .nil)) ?_, rfl, q⟩
  rw [List.length_append, List.length_singleton]
  omega
def rClear : V -> List V -> Hp -> VK -> Prop := fun x vs H Q => ∃ l xs, x = .ref l /\ vs = [] /\ H l = some (.lst xs) /\ Q .non (upd H l (.lst []))
theorem mt_clear : MtM X "list.clear" rClear := by
  intro pins s σ H x vs v us Q I rx rv h
  obtain ⟨l, xs, rfl, rfl, hH, q⟩ := h
  cases rx
  have hus := rv.zero
  subst hus
  obtain ⟨z, its, n, r, hl, e⟩ := I.lstM hH
  refine call_meets F.slot_list_clear ⟨_, e, rfl⟩ F.entry_list_clear (F.args_list_clear_1 _) (AutoSeq1.list_clear_list_0 l its.toArray n (by rw [List.size_toArray]; omega)) ⟨e, ?_⟩
  exact ⟨.non, _, I.lset (its' := []) (ys := []) hH e rfl .nil (Nat.zero_le _), rfl, q⟩
def rCat : R2 := fun x y H Q => ∃ l b xs zs, x = .ref l /\ y = .ref b /\ H l = some (.lst xs) /\ H b = some (.lst zs) /\ xs.length + zs.length <= sizeLine /\ ∀ p, H p = none -> Q (.ref p) (upd H p (.lst (xs ++ zs)))
theorem op_cat : OpR X (binaryOp .Add) rCat := by
  intro pins s σ H x y v u Q I rx ry h
  obtain ⟨l, b, xs, zs, rfl, rfl, hH, hB, hz, q⟩ := h
  cases rx
  cases ry
  obtain ⟨z, its, n, r, hl, e⟩ := I.lstM hH
  obtain ⟨z2, its2, n2, r2, hl2, e2⟩ := I.lstM hB
  refine PySem.P.add_list e e2 ?_ (by rw [List.size_toArray, List.size_toArray]; omega)
  have ea : its.toArray ++ its2.toArray = (its ++ its2).toArray := by simp
  rw [ea]
  exact ⟨.ref _, _, I.lnew (t' := s.toks) (r.append r2) (by rw [List.length_append]; omega), rfl, q _ I.fresh⟩
end
section
variable {prog : Program} {w : World} {A : Around} {E : Value -> Shared -> Prop} {s : Shared}
end
section
variable {X : Cx}
end
end L2
namespace Att
open PySem PySem.W PySem.Calls PyProof.Rows
theorem ints_of_wellAll {P : Params} {h : Heap} : ∀ (ns : List Int) (vs : List Value), WellAll P h vs (ns.map WData.int) -> IntsAre vs ns := by
  intro ns
  induction ns with
  | nil =>
    intro vs w
    rw [List.map_nil] at w
    cases w
    exact .nil
  | cons n ns ih =>
    intro vs w
    rw [List.map_cons] at w
    cases w with
    | cons a b =>
      cases a
      exact .cons _ _ (ih _ b)
theorem script_of {l : OpenLaw} {n : Nat} (hn : l.most = some n) {P : Params} {h : Heap} {args : List WData} {vals : List Value}
    (hpre : l.row.toRowW.claim.pre args = true) (hwl : WellAll P h vals args) :
    ∃ a vs ns, vals = [Value.ref a] /\ args = [WData.list (ns.map WData.int)] /\ h.get? a = some { cls := .type "list", data := .seq vs.toArray } /\ IntsAre vs ns /\ ns.length <= n := by
  have hsh : WShape.hasAll [] args [.list .int] = true := (pre_splitW hpre).1
  have hc : l.pre.holds [] { args := args } = true := (pre_splitW hpre).2
  obtain ⟨d, r, rfl, h1, h2⟩ := hasAllW_cons hsh
  obtain rfl := hasAllW_nil h2
  obtain ⟨xs, rfl, h3⟩ := hasW_list h1
  obtain ⟨ns, rfl⟩ := items_int h3
  have hlen : ns.length <= n := by
    unfold OpenLaw.pre at hc
    have h4 : (WTm.not (.lt (.lit (.int (n : Int))) (.len (.arg 0)))).holds [] { args := [.list (ns.map .int)] } = true := by
      have h4 := (holds_andW hc).1
      rw [hn] at h4
      exact h4
    have h5 := condW_of h4 (w_not (w_lt w_lit (w_len_list (w_arg rfl))))
    rw [List.length_map] at h5
    refine Nat.le_of_not_lt fun q => ?_
    have q' : (n : Int) < ((ns.length : Nat) : Int) := by omega
    first
      | (rw [decide_eq_true q'] at h5; exact absurd h5 (by decide))
      | (simp at h5; omega)
  cases hwl with
  | cons w1 w2 =>
    cases w2
    cases w1 with
    | list ho hall => exact ⟨_, _, ns, rfl, rfl, ho, ints_of_wellAll ns _ hall, hlen⟩
theorem post_true (l : OpenLaw) (args : List WData) : l.row.toRowW.claim.post args (.bool true) args = true :=
  postW_of (r := l.row.toRowW) (X := (true == true))
    (show WShape.has [] (.bool true) .bool = true by first | rfl | decide | simp [WShape.has, WShape.arms, WShape.armsAll])
    (show (WTm.eq .res (.lit (.bool true))).value [] { args := args, res := some (.bool true), after := args } = some (.bool (true == true)) from w_eq_bool (w_res rfl) w_lit) rfl
section
variable {prog : Program} {w : World} {A : Around} {E : Value -> Shared -> Prop} {s : Shared} {K : Frag}
end
end Att
namespace L2
open PySem PySem.Spec PyProof.Rows
theorem vals_ints : ∀ {vs : List Value} {ns : List Int}, IntsAre vs ns -> Vals (ns.map V.int) vs
  | _, _, .nil => .nil
  | _, _, .cons n t h => .cons ⟨t, rfl⟩ (vals_ints h)
def Only (H : Hp) : Prop := ∀ b, H b = none \/ ∃ o xs, H b = some (.frz o (.lst xs))
theorem law_call {P : Program} {w : World} {K : PySem.W.Frag} {mg mb : Str -> Option Value} {CX : CXT} {k : Nat} {fa a : Addr} {fd : FuncData} {x : Str} {sp : Sp} {s₁ : Shared} {vs : List Value} {ns : List Int}
    (KX : K.In s₁.heap) (hns : s₁.heap.Ns mainGlobals mg) (hb : s₁.heap.Ns builtinsNs mb) (hbb : ∀ x : Str, x ≠ "__name__" -> mb x = bootBuiltins x) (hlim : s₁.heap.NoLimit) (hg : s₁.gens = #[])
    (ha : s₁.heap.get? a = some { cls := .type "list", data := .seq vs.toArray }) (hi : IntsAre vs ns) (hl : ns.length <= sizeLine) (hr : Room k callerA)
    (F : ∀ base : Heap, K.In base -> base.Ns mainGlobals mg -> FnOk P w K mg base CX k fa fd [x] sp) (hbind : ∀ (s : Shared) (u : Value), BindsTo s fd ⟨[u], []⟩ [(x, u)])
    (hsp : ∀ H : Hp, Only H -> SqL K H a (ns.map V.int) -> sp [.ref a] H (fun v _ => v = .bl true) fun _ _ _ => False)
    (hCX : ∀ H e s', CX [] H s₁ (fun _ _ _ => False) e s' -> False) :
    codeAny (model P w) callerA (.call (.ref fa) ⟨[.ref a], []⟩) (fun r s' => r = .ok (.ret (.bool true)) /\ OldK s₁.heap s'.heap /\ s'.os = s₁.os /\ AllBare s'.gens) s₁ := by
  have rv := vals_ints hi
  have lenV := hi.length
  have core : ∀ H : Hp, Only H -> SqL K H a (ns.map V.int) -> HOk P w H s₁.heap -> (∀ b, H b ≠ none -> b = a) -> (H a ≠ none -> K.lookup a = none) ->
      codeAny (model P w) callerA (.call (.ref fa) ⟨[.ref a], []⟩) (fun r s' => r = .ok (.ret (.bool true)) /\ OldK s₁.heap s'.heap /\ s'.os = s₁.os /\ AllBare s'.gens) s₁ := by
    intro H hO hS hok hA hK
    have base_of : ∀ {b : Addr} {o : Obj}, s₁.heap.get? b = some o -> H b = none -> (hidT s₁.heap H).get? b = some o := fun e n => hidT_get e n
    have noA : ∀ {b : Addr} {o : Obj} {es : Array DictEntry} {ep : Nat}, s₁.heap.get? b = some o -> o.data = .dict es ep -> H b = none := fun {b o es ep} e d => by
      cases q : H b with
      | none => rfl
      | some u =>
        have e' : b = a := hA b (by rw [q]; simp)
        subst e'
        rw [ha] at e; cases e
        have d' : Data.seq vs.toArray _ = Data.dict es ep := d
        cases d'
    have nsK : ∀ {b : Addr} {m : Str -> Option Value}, s₁.heap.Ns b m -> (hidT s₁.heap H).Ns b m := fun {b m} ⟨o, es, ep, e, d, r⟩ => ⟨o, es, ep, base_of e (noA e d), d, r⟩
    have hKb : K.In (hidT s₁.heap H) := fun b o e => base_of (KX b o e) (by
      cases q : H b with
      | none => rfl
      | some u =>
        have e' : b = a := hA b (by rw [q]; simp)
        subst e'
        rw [hK (by rw [q]; simp)] at e; cases e)
    have hM : Mod K mg (hidT s₁.heap H) := ⟨hKb, nsK hns, ⟨mb, nsK hb, hbb⟩, let ⟨mc, h1, h2⟩ := hlim; ⟨mc, nsK h1, h2⟩⟩
    have e0 : Env0 P w K mg (hidT s₁.heap H) callerA [] s₁ H := ⟨rfl, hM, fun b o e => of_hidT e, Nat.le_of_eq (hidT_size _ _), trivial, fun b hb => absurd (show b ∈ ([] : List Addr) from hb) (by simp), hok, .of_eq hg⟩
    refine codeAny_mono ((F _ hKb (nsK hns)).run callerA [] s₁ H ⟨[.ref a], []⟩ [.ref a] [.ref a] _ _ hr e0 (hbind s₁ (.ref a)) (.cons rfl .nil) (hsp H hO hS)) fun r s' h => ?_
    cases r with
    | error e => exact (hCX H e s' h).elim
    | ok fl =>
      cases fl with
      | next => exact False.elim h
      | brk => exact False.elim h
      | cont => exact False.elim h
      | ret u =>
        obtain ⟨v, H', os, bare, un, hok', r', q⟩ := h
        have q' : v = .bl true := q
        subst q'
        obtain rfl : u = Value.bool true := r'
        refine ⟨rfl, OldK.of_keep fun b o e => ?_, os, bare⟩
        cases q : H b with
        | none => exact un.keep b o e q (by intro z; exact absurd (show b ∈ ([] : List Addr) from z) (by simp)) (by simp)
        | some u =>
          rcases hO b with z | ⟨ob, xs, z⟩
          . rw [q] at z; cases z
          . have z2 := un.frzs b ob _ z
            obtain ⟨e1, _⟩ := hok b _ z
            obtain ⟨e2, _⟩ := hok' b _ z2
            rw [e] at e1; cases e1
            exact e2
  cases hk : K.lookup a with
  | some o =>
    have e := KX a o hk
    rw [ha] at e
    cases e
    refine core (fun _ => none) (fun _ => .inl rfl) (.inr ⟨_, vs.toArray, _, hk, rfl, rfl, rfl, by rw [List.size_toArray, lenV]; exact hl, by simpa using rv⟩) (fun b u z => by have z' : (none : Option HO) = some u := z; cases z') (fun b z => absurd rfl z) fun z => absurd rfl z
  | none =>
    refine core (fun b => if b = a then some (.frz { cls := .type "list", data := .seq vs.toArray } (.lst (ns.map V.int))) else none) (fun b => ?_) (.inl (.inr ⟨{ cls := .type "list", data := .seq vs.toArray }, if_pos rfl⟩)) (fun b u z => ?_) (fun b z => ?_) fun _ => hk
    . by_cases hb : b = a
      . exact .inr ⟨_, _, if_pos hb⟩
      . exact .inl (if_neg hb)
    . by_cases hb : b = a
      . have z' := (if_pos hb).symm.trans z
        cases z'
        subst hb
        exact ⟨ha, by rw [List.length_map]; exact hl, vs, _, rv, ha⟩
      . have z' := (if_neg hb).symm.trans z
        cases z'
    . by_cases hb : b = a
      . exact hb
      . exact absurd (if_neg hb) z
end L2
namespace L2
open PySem PySem.Spec PyProof.Rows
end L2
namespace L2
open PySem PySem.Spec PyProof.Rows
def defArgs (s : Stmt) : Arguments := match s with
  | .FunctionDef _ a _ _ _ _ _ _ _ _ => a
  | _ => { posonlyargs := [], args := [], vararg := none, kwonlyargs := [], kw_defaults := [], kwarg := none, defaults := [] }
def defBody (s : Stmt) : List Stmt := match s with
  | .FunctionDef _ _ b _ _ _ _ _ _ _ => b
  | _ => []
def defScope (s : Stmt) : Scope := match s with
  | .FunctionDef _ _ _ _ _ _ sc _ _ _ => sc
  | _ => { kind := .function, names := [], isGenerator := false, isCoroutine := false }
abbrev CX0 : CXT := fun _ _ _ _ _ _ => False
abbrev E0 : XK := fun _ _ _ => False
theorem pass0 {X : Cx} : Passes CX0 X E0 := fun _ _ _ _ _ _ _ h => h.elim
structure Fun (K : PySem.W.Frag) (x qual : Str) (st : Stmt) (f : Addr) (fd : FuncData) : Prop where
  ex : ∃ (oc : Value) (od : Option Addr) (kV doc pm : Value) (an : Option Addr) (cdv ct : Value) (osl : Array (Option Value)),
    fd = PySem.W.fnOf x qual (defArgs st) (defBody st) (defScope st) .none kV doc pm an cdv ct /\ K.lookup f = some ⟨oc, od, .func fd, osl⟩ /\ PySem.W.codeIn K cdv qual = true
  kp : PySem.W.keepIn K (.ref f) = true
section
variable {P : Program} {w : World} {K : PySem.W.Frag} {mg : Str -> Option Value} {base : Heap}
theorem Fun.ok {x qual : Str} {st : Stmt} {f : Addr} {fd : FuncData} {N ps : List Str} {k : Nat} {sp : Sp} (F : Fun K x qual st f fd) (S : FnScope N ps (defScope st)) (len : ∀ vs H Q E, sp vs H Q E -> vs.length = ps.length)
    (hbody : ∀ (cdv : Value) (A : Around) (outer : List Env) (s : Shared) (H : Hp) (vs : List V) (Q : VK) (E : XK), Room k (A.deeper (envOfC qual (defScope st) s.heap.objs.size f cdv)) -> sp vs H Q E ->
      ∃ t, PSs (cxOf CX0 P w K mg base N qual (defScope st) f cdv A outer s H E).nox (defBody st) t /\ t { nx := fun _ H' => Q .non H', rt := Q } (start N vs) H) : FnOk P w K mg base CX0 (k + 1) f fd ps sp := by
  obtain ⟨oc, od, kV, doc, pm, an, cdv, ct, osl, rfl, lk, hcd⟩ := F.ex
  refine fn_of lk hcd S len fun A outer s H vs Q E hr hsp => ?_
  obtain ⟨t, h, q⟩ := hbody cdv A outer s H vs Q E hr hsp
  exact ⟨t, h.nox, q⟩
theorem Fun.binds {x qual : Str} {st : Stmt} {f : Addr} {fd : FuncData} {ps : List Str} (F : Fun K x qual st f fd)
    (h : ∀ (kV doc pm : Value) (an : Option Addr) (cdv ct : Value) (us : List Value), us.length = ps.length -> bindArgs (PySem.W.fnOf x qual (defArgs st) (defBody st) (defScope st) .none kV doc pm an cdv ct) ⟨us, []⟩ = pure (ps.zip us)) : Binds K fd ps [] := by
  obtain ⟨oc, od, kV, doc, pm, an, cdv, ct, osl, rfl, lk, hcd⟩ := F.ex
  exact .all (h kV doc pm an cdv ct)
theorem fun_mk {x qual : Str} {st : Stmt} {f : Addr} {oc : Value} {od an : Option Addr} {osl : Array (Option Value)} {kV doc pm cdv ct : Value} (l : K.lookup f = some ⟨oc, od, .func (PySem.W.fnOf x qual (defArgs st) (defBody st) (defScope st) .none kV doc pm an cdv ct), osl⟩)
    (c : PySem.W.codeIn K cdv qual = true) (k : PySem.W.keepIn K (.ref f) = true) : Fun K x qual st f (PySem.W.fnOf x qual (defArgs st) (defBody st) (defScope st) .none kV doc pm an cdv ct) := ⟨⟨oc, od, kV, doc, pm, an, cdv, ct, osl, rfl, l, c⟩, k⟩
end
theorem small1000 {n : Nat} (h : n <= 1000) : n < sizeLine := Nat.lt_of_le_of_lt h (by decide)
section
variable {X : Cx}
theorem pv (i : Nat) {x : Str} {pos : Pos} (hN : X.N[i]? = some x := by rfl) (hv : Vis X.env.scope x := by first | exact Or.inl rfl | exact Or.inr (Or.inl rfl) | exact Or.inr (Or.inr rfl)) (hd : (x == ("__debug__" : Str)) = false := by decide)
    (hcd : (x == ("__classdict__" : Str)) = false := by decide) : PE X (.Name x pos) (tVar i) := pe_var hN hv hd hcd
end
theorem ite2 {c A B : Prop} [Decidable c] (h1 : c -> A) (h2 : ¬ c -> B) : if c then A else B := by
  by_cases h : c
  . rw [if_pos h]
    exact h1 h
  . rw [if_neg h]
    exact h2 h
def Same (H H' : Hp) : Prop := ∀ b o, H b = some o -> H' b = some o
theorem Same.refl (H : Hp) : Same H H := fun _ _ h => h
theorem Same.trans {H H1 H2 : Hp} (a : Same H H1) (b : Same H1 H2) : Same H H2 := fun c o h => b c o (a c o h)
theorem Same.seq {K : PySem.W.Frag} {H H' : Hp} {a : Addr} {xs : List V} (e : Same H H') (h : SqL K H a xs) : SqL K H' a xs := by
  rcases h with (h | ⟨o, h⟩) | h
  . exact .inl (.inl (e _ _ h))
  . exact .inl (.inr ⟨o, e _ _ h⟩)
  . exact .inr h
end L2
end
section
namespace L2
open PySem PySem.Spec PyProof.Rows
end L2
namespace L2
open PySem PySem.Spec PyProof.Rows
section
variable (P : Program) (w : World)
end
section
variable {P : Program} {w : World} {H H' : Hp} {h h' : Heap} {a : Addr} {o : HO}
end
section
variable {P : Program} {w : World} {H : Hp} {h h' : Heap} {x e : Addr} {o' : HO}
end
section
variable {fs fs' ex ex' : List Addr} {H H1 H2 : Hp} {h h1 h2 h' : Heap} {a x e : Addr} {o : HO}
end
end L2
namespace L2
open PySem PySem.Spec PyProof.Rows
section
variable {X : Cx} {pins : List (Addr × Obj)} {σ : List (Option V)} {H H' : Hp} {s : Shared} {h' : Heap}
end
end L2
namespace L2
open PySem PySem.Spec PyProof.Rows
section
variable {X : Cx}
variable {a b : Expr} {ta tb : TE} {pos : Pos}
variable {tA tB' : TT} {rest : List Expr}
end
end L2
namespace L2
open PySem PySem.Spec PyProof.Rows
section
variable {X : Cx} {pins : List (Addr × Obj)} {σ : St} {H : Hp} {s : Shared} {a : Addr} {xs ys : List V}
end
section
variable {X : Cx} {pins : List (Addr × Obj)} {σ : St} {H : Hp} {s : Shared} {E : Value -> Shared -> Prop}
end
section
variable {X : Cx} {st : Stmt} {rest : List Stmt} {t u : TS} {e : Expr} {te : TE} {pos : Pos}
end
section
variable {X : Cx} {pos : Pos}
end
section
variable {X : Cx} {pos : Pos}
end
end L2
namespace L2
open PySem PySem.Spec PyProof.Rows
section
variable {X : Cx} {tg : Expr}
end
end L2
namespace L2
open PySem PySem.Spec PyProof.Rows
section
variable {X : Cx} {a b c : Expr} {ta tb tc : TE} {pos : Pos}
end
section
variable {X : Cx} {a b c : Expr} {ta tb tc : TE} {pos : Pos}
end
end L2
namespace L2
open PySem PySem.Spec PyProof.Rows
section
variable {prog : Program} {w : World} {A : Around} {E : Value -> Shared -> Prop} {s : Shared} {K : PySem.W.Frag} {x dx C f : Addr} {mA : Str -> Option Value} {name : Str} {v : Value}
end
section
variable {P : Program} {w : World} {H H' : Hp} {h h' : Heap} {a C dx : Addr} {fs fs' : List (Str × V)}
end
section
variable {X : Cx} {pins : List (Addr × Obj)} {σ : St} {H : Hp} {s : Shared} {a C dx : Addr} {fs : List (Str × V)} {f : Str} {v : V} {A : Around} {E : Value -> Shared -> Prop}
end
section
variable {X : Cx} {o e value : Expr} {f : Str} {pos pos' tpos : Pos} {ta tv : TE}
end
section
variable {X : Cx} {pins : List (Addr × Obj)} {σ : St} {H : Hp} {s : Shared} {A : Around} {E : Value -> Shared -> Prop} {Q : Value -> Shared -> Prop} {c : Value} {b : Bool}
end
end L2
namespace L2
open PySem PySem.Spec PyProof.Rows
section
variable {X : Cx} {e : Expr} {es : List Expr} {te : TE} {t : TA} {pos : Pos}
end
section
variable {X : Cx} {pins : List (Addr × Obj)} {σ : St} {H : Hp} {s s' : Shared}
end
section
variable {X : Cx} {CX : CXT} {k : Nat} {f C : Addr} {fd : FuncData} {ps : List Str} {sp : Sp} {dvs : List V} {ds : List Value} {E : XK} {x m : Str} {p pos apos : Pos} {e o : Expr} {es : List Expr} {ta : TE} {t : TA}
end
section
variable {X : Cx} {CX : CXT} {k : Nat} {f C : Addr} {fd : FuncData} {ps ks : List Str} {sp : Sp} {E : XK} {x m : Str} {p pos apos kpos : Pos} {e o : Expr} {es : List Expr} {kws : List Keyword} {te ta : TE} {t tk : TA} {nm : Option Str}
variable {g : List Value -> List Value -> List Value} {gV : List V -> List V -> List V}
end
end L2
namespace L2
open PySem PySem.Spec PyProof.Rows
section
variable {X : Cx} {x : Str} {p pos : Pos} {e : Expr} {es : List Expr} {t : TA} {id T : String} {r : List V -> Hp -> VK -> Prop}
end
end L2
namespace L2
open PySem PySem.Spec PyProof.Rows
section
variable {κ : Type} [DecidableEq κ]
def valV (kvs : List (κ × V)) (k : κ) : Option V := (kvs.find? fun kv => decide (kv.1 = k)).map (·.2)
def putK (kvs : List (κ × V)) (k : κ) (v : V) : List (κ × V) :=
  if (kvs.any fun kv => decide (kv.1 = k)) = true then kvs.map (fun kv => if kv.1 = k then (kv.1, v) else kv) else kvs ++ [(k, v)]
def dropK (kvs : List (κ × V)) (k : κ) : List (κ × V) := kvs.filter fun kv => decide (kv.1 ≠ k)
theorem valV_pos {p : κ × V} {r : List (κ × V)} {k : κ} (e : p.1 = k) : valV (p :: r) k = some p.2 := by simp [valV, List.find?_cons, e]
theorem valV_neg {p : κ × V} {r : List (κ × V)} {k : κ} (e : ¬ p.1 = k) : valV (p :: r) k = valV r k := by simp [valV, List.find?_cons, e]
theorem valV_any (k : κ) : ∀ kvs : List (κ × V), (kvs.any fun kv => decide (kv.1 = k)) = (valV kvs k).isSome
  | [] => rfl
  | p :: r => by
    rw [List.any_cons]
    by_cases e : p.1 = k
    . simp only [valV_pos e, decide_eq_true e, Bool.true_or, Option.isSome_some]
    . rw [valV_neg e, decide_eq_false e, Bool.false_or]; exact valV_any k r
theorem length_putK (kvs : List (κ × V)) (k : κ) (v : V) : (putK kvs k v).length <= kvs.length + 1 := by
  unfold putK
  split
  . rw [List.length_map]; omega
  . rw [List.length_append, List.length_cons, List.length_nil]; omega
theorem RelO.isSome_eq {o : Option V} {u : Option Value} (r : RelO o u) : o.isSome = u.isSome := by
  cases o with
  | none => cases u with
    | none => rfl
    | some _ => exact (show False from r).elim
  | some _ => cases u with
    | none => exact (show False from r).elim
    | some _ => rfl
theorem RelO.getD {o : Option V} {u : Option Value} {d : V} {d' : Value} (r : RelO o u) (rd : RelV d d') : RelV (o.getD d) (u.getD d') := by
  cases o with
  | none => cases u with
    | none => exact rd
    | some _ => exact (show False from r).elim
  | some _ => cases u with
    | none => exact (show False from r).elim
    | some _ => exact r
theorem KV.val {kvs : List (κ × V)} {vs : List (κ × Value)} (r : KV kvs vs) (k : κ) : RelO (valV kvs k) (valueAt vs k) := by
  unfold KV at r
  induction r with
  | nil => exact True.intro
  | @cons p q ps qs h t ih =>
    obtain ⟨h1, h2⟩ := h
    by_cases e : p.1 = k
    . have e' : q.1 = k := h1.symm.trans e
      have b : valueAt (q :: qs) k = some q.2 := by simp [valueAt, List.find?_cons, e']
      rw [valV_pos e, b]; exact h2
    . have e' : ¬ q.1 = k := fun z => e (h1.trans z)
      have b : valueAt (q :: qs) k = valueAt qs k := by simp [valueAt, List.find?_cons, e']
      rw [valV_neg e, b]; exact ih
theorem KV.any {kvs : List (κ × V)} {vs : List (κ × Value)} (r : KV kvs vs) (k : κ) : (kvs.any fun kv => decide (kv.1 = k)) = vs.any fun kv => decide (kv.1 = k) := by
  unfold KV at r
  induction r with
  | nil => rfl
  | cons h t ih => rw [List.any_cons, List.any_cons, ih, h.1]
theorem KV.repl {kvs : List (κ × V)} {vs : List (κ × Value)} (r : KV kvs vs) (k : κ) {y : V} {u : Value} (ry : RelV y u) :
    KV (kvs.map fun kv => if kv.1 = k then (kv.1, y) else kv) (vs.map fun kv => if kv.1 = k then (kv.1, u) else kv) := by
  unfold KV at r ⊢
  induction r with
  | nil => exact .nil
  | @cons p q ps qs h t ih =>
    rw [List.map_cons, List.map_cons]
    refine .cons ?_ ih
    obtain ⟨h1, h2⟩ := h
    by_cases e : p.1 = k
    . rw [if_pos e, if_pos (h1.symm.trans e)]; exact ⟨h1, ry⟩
    . rw [if_neg e, if_neg (fun z => e (h1.trans z))]; exact ⟨h1, h2⟩
theorem KV.put {kvs : List (κ × V)} {vs : List (κ × Value)} (r : KV kvs vs) (k : κ) {y : V} {u : Value} (ry : RelV y u) : KV (putK kvs k y) (stored vs k u) := by
  unfold putK stored
  rw [r.any k]
  by_cases e : (vs.any fun kv => decide (kv.1 = k)) = true
  . rw [if_pos e, if_pos e]; exact r.repl k ry
  . rw [if_neg e, if_neg e]; exact Paired.snoc r ⟨rfl, ry⟩
theorem KV.length {kvs : List (κ × V)} {vs : List (κ × Value)} (r : KV kvs vs) : kvs.length = vs.length := Paired.length r
end
theorem kV_is {P : Program} {w : World} {k : Key} {u : Value} (r : RelV (kV k) u) : (mixKind P w).is k u = true := by
  cases k with
  | inl i => obtain ⟨t, e⟩ := (show ∃ t, u = Value.int i t from r); subst e; exact mixKind_int P w i t
  | inr x => obtain ⟨t, e⟩ := (show ∃ t, u = Value.str x t from r); subst e; exact mixKind_str P w x t
theorem items_are {P : Program} {w : World} : ∀ {ks : List Key} {us : List Value}, Vals (ks.map kV) us -> ItemsAre (mixKind P w) ks us
  | [], _, r => by rw [List.map_nil] at r; cases r; exact .nil
  | k :: ks, _, r => by
    rw [List.map_cons] at r
    cases r with
    | cons h t => exact .cons (kV_is h) (items_are t)
abbrev KT (H : Hp) : List (List Key × V) -> List (List Key × Addr × Value) -> Prop := Paired fun p q => p.1 = q.1 /\ H q.2.1 = some (.tup (p.1.map kV)) /\ RelV p.2 q.2.2
theorem KT.val {H : Hp} {kvs : List (List Key × V)} {xs : List (List Key × Addr × Value)} (r : KT H kvs xs) (k : List Key) : RelO (valV kvs k) ((atKey xs k).map (·.2)) := by
  induction r with
  | nil => exact True.intro
  | @cons p q ps qs h t ih =>
    obtain ⟨h1, _, h2⟩ := h
    by_cases e : p.1 = k
    . have e' : q.1 = k := h1.symm.trans e
      have b : atKey (q :: qs) k = some q.2 := by simp [atKey, List.find?_cons, e']
      rw [valV_pos e, b]; exact h2
    . have e' : ¬ q.1 = k := fun z => e (h1.trans z)
      have b : atKey (q :: qs) k = atKey qs k := by simp [atKey, List.find?_cons, e']
      rw [valV_neg e, b]; exact ih
theorem KT.repl {H : Hp} {kvs : List (List Key × V)} {xs : List (List Key × Addr × Value)} (r : KT H kvs xs) (k : List Key) {y : V} {u : Value} (ry : RelV y u) :
    KT H (kvs.map fun kv => if kv.1 = k then (kv.1, y) else kv) (xs.map (putAt k u)) := by
  induction r with
  | nil => exact .nil
  | @cons p q ps qs h t ih =>
    rw [List.map_cons, List.map_cons]
    refine .cons ?_ ih
    obtain ⟨h1, h2, h3⟩ := h
    unfold putAt
    by_cases e : p.1 = k
    . rw [if_pos e, if_pos (h1.symm.trans e)]; exact ⟨h1, h2, ry⟩
    . rw [if_neg e, if_neg (fun z => e (h1.trans z))]; exact ⟨h1, h2, h3⟩
theorem KT.put {H : Hp} {kvs : List (List Key × V)} {xs : List (List Key × Addr × Value)} (r : KT H kvs xs) (k : List Key) {b : Addr} {y : V} {u : Value} (hb : H b = some (.tup (k.map kV))) (ry : RelV y u) :
    KT H (putK kvs k y) (storedH xs k b u) := by
  have e : (kvs.any fun kv => decide (kv.1 = k)) = (atKey xs k).isSome := by
    rw [valV_any, (r.val k).isSome_eq, Option.isSome_map]
  unfold putK storedH
  rw [e]
  by_cases q : (atKey xs k).isSome = true
  . rw [if_pos q, if_pos q]; exact r.repl k ry
  . rw [if_neg q, if_neg q]; exact Paired.snoc r ⟨rfl, hb, ry⟩
theorem KT.keeps {H H' : Hp} {kvs : List (List Key × V)} {xs : List (List Key × Addr × Value)} (r : KT H kvs xs) (ht : ∀ b ys, H b = some (.tup ys) -> H' b = some (.tup ys)) : KT H' kvs xs :=
  Paired.mapP r fun _ _ z => ⟨z.1, ht _ _ z.2.1, z.2.2⟩
section
variable {P : Program} {w : World} {H : Hp} {h : Heap} {a : Addr}
theorem rd_of {u : HO} (ok : HOk P w H h) (e : Rd H a u) : ObjOk P w H h a u := e.ok ok
theorem dk_rd {kvs : List (Key × V)} (ok : HOk P w H h) (e : Rd H a (.dK kvs)) : kvs.length <= sizeLine /\ (a == sysModules) = false /\ ∃ vs, KV kvs vs /\ h.DictOf (mixKind P w) a vs :=
  show ObjOk P w H h a (.dK kvs) from rd_of ok e
theorem dk_of {kvs : List (Key × V)} (ok : HOk P w H h) (e : H a = some (.dK kvs)) : kvs.length <= sizeLine /\ (a == sysModules) = false /\ ∃ vs, KV kvs vs /\ h.DictOf (mixKind P w) a vs := dk_rd ok (.inl e)
theorem key_of {ks : List Key} (ok : HOk P w H h) (e : H a = some (.tup (ks.map kV))) : (tupleKind (mixKind P w)).is h ks a := by
  obtain ⟨_, its, r, o, h1, h2, n, h3⟩ := (show ObjOk P w H h a (.tup (ks.map kV)) from ok a _ e)
  exact ⟨o, its.toArray, n, h1, h2, h3, by simpa using items_are r⟩
theorem dt_rd {kvs : List (List Key × V)} (ok : HOk P w H h) (e : Rd H a (.dT kvs)) : kvs.length <= sizeLine /\ (a == sysModules) = false /\
    ∃ xs, KT H kvs xs /\ h.DictOfH (tupleKind (mixKind P w)) a xs := by
  obtain ⟨z, y, xs, r, o, es, ep, h1, h2, h3, h4, h5⟩ := (show ObjOk P w H h a (.dT kvs) from rd_of ok e)
  refine ⟨z, y, xs, r, o, es, ep, h1, h2, h3, h4, fun x hx => ?_, h5⟩
  have all : ∀ {l : List (List Key × V)} {m : List (List Key × Addr × Value)}, KT H l m -> ∀ x ∈ m, (tupleKind (mixKind P w)).is h x.1 x.2.1 := by
    intro l m q
    induction q with
    | nil => intro x hx; exact nomatch hx
    | @cons p q ps qs hq t ih =>
      intro x hx
      rcases List.mem_cons.mp hx with e | hx
      . subst e
        exact key_of ok (by rw [<- hq.1]; exact hq.2.1)
      . exact ih x hx
  exact all r x hx
theorem dt_of {kvs : List (List Key × V)} (ok : HOk P w H h) (e : H a = some (.dT kvs)) : kvs.length <= sizeLine /\ (a == sysModules) = false /\
    ∃ xs, KT H kvs xs /\ h.DictOfH (tupleKind (mixKind P w)) a xs := dt_rd ok (.inl e)
end
def DGet (H : Hp) (a : Addr) (y : V) (r : Option V) : Prop :=
  (∃ kvs k, Rd H a (.dK kvs) /\ y = kV k /\ r = valV kvs k) \/ ∃ kvs k b, Rd H a (.dT kvs) /\ y = .ref b /\ H b = some (.tup (k.map kV)) /\ r = valV kvs k
def DPut (H : Hp) (a : Addr) (y v : V) (H' : Hp) : Prop :=
  (∃ kvs k, H a = some (.dK kvs) /\ y = kV k /\ kvs.length < sizeLine /\ H' = upd H a (.dK (putK kvs k v))) \/
  ∃ kvs k b, H a = some (.dT kvs) /\ y = .ref b /\ H b = some (.tup (k.map kV)) /\ kvs.length < sizeLine /\ H' = upd H a (.dT (putK kvs k v))
theorem DGet.k {H : Hp} {a : Addr} {kvs : List (Key × V)} {k : Key} (e : H a = some (.dK kvs)) : DGet H a (kV k) (valV kvs k) := .inl ⟨kvs, k, .inl e, rfl, rfl⟩
theorem DPut.k {H : Hp} {a : Addr} {kvs : List (Key × V)} {k : Key} {v : V} (e : H a = some (.dK kvs)) (hl : kvs.length < sizeLine) : DPut H a (kV k) v (upd H a (.dK (putK kvs k v))) := .inl ⟨kvs, k, e, rfl, hl, rfl⟩
section
variable {X : Cx} {pins : List (Addr × Obj)} {σ : St} {H : Hp} {s : Shared} {a : Addr} {y v : V} {u r : Value} {o : Option V} {A : Around} {E : Value -> Shared -> Prop}
theorem Inv.big (I : Inv X pins σ H s) : sysModules < s.heap.objs.size := by
  have h : mainGlobals < s.heap.objs.size := (I.mod.glob.keeps I.bk).lt
  exact Nat.lt_trans (by decide) h
theorem d_getItem {Q : Value -> Shared -> Prop} (hu : A.units + 1 < cLine) (I : Inv X pins σ H s) (g : DGet H a y (some v)) (ry : RelV y u) (h : ∀ w' s', Inv X pins σ H s' -> RelV v w' -> Q w' s') :
    wpAny (model X.prog X.w) A (getItem (.ref a) u) Q E s := by
  rcases g with ⟨kvs, k, e, ey, l⟩ | ⟨kvs, k, b, e, ey, eb, l⟩
  . subst ey
    obtain ⟨z, hd, vs, rel, dd⟩ := dk_rd I.hok e
    obtain ⟨w', hw, rw'⟩ := RelO.some_of (v := v) (o := valueAt vs k) (by rw [l]; exact rel.val k)
    exact wpAny_getItem_of (kV_is ry) dd.mapOf hw (h w' _ (I.tok _) rw')
  . subst ey
    cases (show u = Value.ref b from ry)
    obtain ⟨z, hd, xs, rel, dd⟩ := dt_rd I.hok e
    obtain ⟨w', hw, rw'⟩ := RelO.some_of (v := v) (o := (atKey xs k).map (·.2)) (by rw [l]; exact rel.val k)
    obtain ⟨p, hp, hp2⟩ := Option.map_eq_some_iff.mp hw
    refine wpAny_getItem_heap (tupleKind_room_in1 hu) (key_of I.hok eb) dd hp ?_
    rw [hp2]
    exact h w' _ (I.tok _) rw'
theorem d_in {Q : Value -> Shared -> Prop} (hu : A.units + 1 < cLine) (I : Inv X pins σ H s) (g : DGet H a y o) (ry : RelV y u) (h : ∀ s', Inv X pins σ H s' -> Q (.bool o.isSome) s') :
    wpAny (model X.prog X.w) A (compareOp .In u (.ref a)) Q E s := by
  rcases g with ⟨kvs, k, e, ey, l⟩ | ⟨kvs, k, b, e, ey, eb, l⟩
  . subst ey
    obtain ⟨z, hd, vs, rel, dd⟩ := dk_rd I.hok e
    refine wpAny_in_of (kV_is ry) hd dd.mapOf ?_
    rw [<- (rel.val k).isSome_eq, <- l]
    exact h _ (I.tok _)
  . subst ey
    cases (show u = Value.ref b from ry)
    obtain ⟨z, hd, xs, rel, dd⟩ := dt_rd I.hok e
    refine wpAny_in_heap (tupleKind_room_in1 hu) (key_of I.hok eb) hd dd ?_
    have q := (rel.val k).isSome_eq
    rw [Option.isSome_map] at q
    rw [<- q, <- l]
    exact h _ (I.tok _)
theorem d_write {h' : Heap} {t' : Nat} {ob : HO} (I : Inv X pins σ H s) (mu : Mut (H a)) (hs : Heap.SameBut a s.heap h') (he : ∃ q, h'.get? a = some q) (new : ObjOk X.prog X.w (upd H a ob) h' a ob) :
    Inv X pins σ (upd H a ob) { s with heap := h', toks := t' } :=
  I.write (x := a) (e := a) mu (.inl rfl) (fun b q hb z => (hs.2 b hb).trans z) he new
theorem dk_new {P : Program} {w : World} {H' : Hp} {h' : Heap} {kvs : List (Key × V)} {vs : List (Key × Value)} (z : kvs.length <= sizeLine) (hd : (a == sysModules) = false) (rel : KV kvs vs) (dd : h'.DictOf (mixKind P w) a vs) :
    ObjOk P w H' h' a (.dK kvs) := ⟨z, hd, vs, rel, dd⟩
theorem d_setItem {H' : Hp} {Q : Unit -> Shared -> Prop} (hu : A.units + 1 < cLine) (I : Inv X pins σ H s) (g : DPut H a y v H') (ry : RelV y u) (rv : RelV v r) (h : ∀ s', Inv X pins σ H' s' -> Q () s') :
    wpAny (model X.prog X.w) A (setItem (.ref a) u r) Q E s := by
  rcases g with ⟨kvs, k, e, ey, l, eH⟩ | ⟨kvs, k, b, e, ey, eb, l, eH⟩
  . subst ey eH
    obtain ⟨z, hd, vs, rel, dd⟩ := dk_of I.hok e
    have hz : vs.length <= sizeLine := by rw [<- rel.length]; exact z
    have hl : (putK kvs k v).length <= sizeLine := by have := length_putK kvs k v; omega
    refine wpAny_setItem_pairs (hsz := hz) (kV_is ry) dd fun h' dd' hs => h _ ?_
    have he : ∃ q, h'.get? a = some q := let ⟨q, _, _, hq, _⟩ := dd'; ⟨q, hq⟩
    exact d_write I (by rw [e]; exact True.intro) hs he (dk_new hl hd (rel.put k rv) dd')
  . subst ey eH
    cases (show u = Value.ref b from ry)
    obtain ⟨z, hd, xs, rel, dd⟩ := dt_of I.hok e
    have hz : xs.length <= sizeLine := by rw [<- Paired.length rel]; exact z
    have hl : (putK kvs k v).length <= sizeLine := by have := length_putK kvs k v; omega
    refine wpAny_setItem_heap (hsz := hz) (tupleKind_room_in1 hu) (key_of I.hok eb) dd fun h' dd' hs => h _ ?_
    obtain ⟨q, es, ep, hq, h2, h3, h4, _, h5⟩ := dd'
    refine d_write I (by rw [e]; exact True.intro) hs ⟨q, hq⟩ ⟨hl, hd, _, (rel.put k eb rv).keeps fun c ys ec => ?_, q, es, ep, hq, h2, h3, h4, h5⟩
    rw [upd_ne (ne_of ec e (fun z => nomatch z))]
    exact ec
end
section
variable {X : Cx} {pins : List (Addr × Obj)} {σ : St} {H : Hp} {s : Shared} {a : Addr} {kvs : List (Key × V)} {k : Key} {u : Value} {A : Around} {E : Value -> Shared -> Prop}
end
def NoSl (i : Expr) : Prop := ∀ ov iv, subscripted i false ov iv = operate [ov, iv] (getItem ov iv)
theorem subD_of {prog : Program} {w : World} {A : Around} {E : Value -> Shared -> Prop} {s : Shared} {env : Env} {value slice : Expr} {pos : Pos} {T id : String} {Q : Value -> Shared -> Prop}
    (hl : typeLookup (.type T) "__getitem__" = pure (some (.builtin id))) (hs : NoSl slice)
    (h : wpAny (model prog w) A (eval value env) (fun o s₁ => wpAny (model prog w) A (eval slice env) (fun i s₂ => s₂.TypeIs o T /\ wpAny (model prog w) A (getItem o i) Q E s₂) E s₁) E s) :
    wpAny (model prog w) A (eval (.Subscript value slice pos) env) Q E s := by
  refine Subscript_ (wpAny_mono h (fun o s₁ h₁ => wpAny_mono h₁ (fun i s₂ h₂ => ?_) fun _ _ x => x) fun _ _ x => x)
  obtain ⟨hT, h₂⟩ := h₂
  unfold subscriptTail
  refine wpAny_bind ?_
  rw [getitemInPython_of_ne hT.not_modules]
  refine wpAny_bind (wpAny_specialOf hT hl ?_)
  have fin : wpAny (model prog w) A (subscripted slice false o i) (fun r s₃ => wpAny (model prog w) A (letTemporaryGo value o r >>= fun _ => pure r) Q E s₃) E s₂ := by
    rw [hs o i]
    exact wpAny_operating (wpAny_mono h₂ (fun r s₃ h₃ => wpAny_bind (wpAny_letTemporaryGo (wpAny_pure h₃))) fun _ _ x => x)
  first
    | exact wpAny_pure (wpAny_bind fin)
    | exact wpAny_bind (wpAny_pure (wpAny_bind fin))
    | exact wpAny_bind fin
theorem dict_typeIs {X : Cx} {pins : List (Addr × Obj)} {σ : St} {H : Hp} {s : Shared} {a : Addr} {y : V} {o : Option V} (I : Inv X pins σ H s) (g : DGet H a y o) : s.TypeIs (.ref a) "dict" := by
  rcases g with ⟨kvs, k, e, _, _⟩ | ⟨kvs, k, b, e, _, _, _⟩
  . obtain ⟨_, _, vs, _, dd⟩ := dk_rd I.hok e
    exact dd.typeIs
  . obtain ⟨_, _, xs, _, dd⟩ := dt_rd I.hok e
    exact dd.typeIs
def tDGet (td ty : TE) : TE := fun σ H Q => td σ H fun x H1 => ty σ H1 fun y H2 => ∃ a v, x = .ref a /\ DGet H2 a y (some v) /\ Q v H2
def tDIn (ty td : TE) : TE := fun σ H Q => ty σ H fun y H1 => td σ H1 fun x H2 => ∃ a o, x = .ref a /\ DGet H2 a y o /\ Q (.bl o.isSome) H2
def tDNotIn (ty td : TE) : TE := fun σ H Q => ty σ H fun y H1 => td σ H1 fun x H2 => ∃ a o, x = .ref a /\ DGet H2 a y o /\ Q (.bl (!o.isSome)) H2
def sDPut (td ty tv : TE) : TS := fun D σ H => tv σ H fun v H1 => td σ H1 fun x H2 => ty σ H2 fun y H3 => ∃ a H4, x = .ref a /\ DPut H3 a y v H4 /\ D.nx σ H4
section
variable {X : Cx} {o i e value : Expr} {pos pos' tpos : Pos} {td ty tv : TE}
theorem pe_dget (hu : X.A.units + 1 < cLine) (ho : PE X o td) (hi : PE X i ty) (hs : NoSl i) : PE X (.Subscript o i pos) (tDGet td ty) := by
  intro pins s σ H Q I h
  refine subD_of PySem.F.slot_dict_getitem.lookup hs (thn (ho pins s σ H _ I h) fun u s1 ⟨x, H1, I1, rx, q1⟩ => thn (hi pins s1 σ H1 _ I1 q1) fun iv s2 ⟨y, H2, I2, ry, a, v, ex, g, q2⟩ => ?_)
  subst ex
  obtain rfl : u = Value.ref a := rx
  exact ⟨dict_typeIs I2 g, d_getItem hu I2 g ry fun w' s3 I3 rw' => ⟨v, H2, I3, rw', q2⟩⟩
theorem pc_din (hu : X.A.units + 1 < cLine) (hi : PE X i ty) (ho : PE X o td) : PC X .In i o (tDIn ty td) := by
  intro pins s σ H Q I h
  refine thn (hi pins s σ H _ I h) fun iv s1 ⟨y, H1, I1, ry, q1⟩ => thn (ho pins s1 σ H1 _ I1 q1) fun u s2 ⟨x, H2, I2, rx, a, ov, ex, g, q2⟩ => ?_
  subst ex
  obtain rfl : u = Value.ref a := rx
  exact d_in hu I2 g ry fun s3 I3 => ⟨.bl ov.isSome, H2, I3, rfl, q2⟩
theorem ps_dput (hu : X.A.units + 1 < cLine) (ho : PE X o td) (hi : PE X i ty) (hv : PE X value tv) (hs : swapsWith value (some (.Subscript o i pos')) pos.line X.env = pure false) :
    PS X (.Assign [.Subscript o i pos'] value pos) (sDPut td ty tv) := by
  intro pins s σ H D I h
  refine wpAny_Assign_Subscript (thn (hv pins s σ H _ I h) fun r s1 ⟨v, H1, I1, rv, q1⟩ => thn (ho pins s1 σ H1 _ I1 q1) fun u s2 ⟨x, H2, I2, rx, q2⟩ => thn (hi pins s2 σ H2 _ I2 q2) fun iv s3 ⟨y, H3, I3, ry, a, H4, ex, g, q3⟩ => ?_) hs
  subst ex
  obtain rfl : u = Value.ref a := rx
  exact d_setItem hu I3 g ry rv fun s4 I4 => ⟨σ, H4, I4, q3⟩
end
theorem dk_empty {P : Program} {w : World} {H : Hp} (h : Heap) (hb : sysModules < h.objs.size) : ObjOk P w H (h.push { cls := .type "dict", data := .dict #[] }) h.objs.size (.dK []) :=
  ⟨Nat.zero_le _, beq_eq_false_iff_ne.mpr (Ne.symm (Nat.ne_of_lt hb)), [], .nil, Heap.DictOf.new h⟩
def tDNewK : TE := fun _ H Q => ∀ p, H p = none -> Q (.ref p) (upd H p (.dK []))
section
variable {X : Cx} {pos : Pos}
theorem pe_dnewK : PE X (.Dict [] [] pos) tDNewK := fun pins s σ H Q I h =>
  wpAny_Dict_empty ⟨.ref s.heap.objs.size, _, I.laid (a := s.heap.objs.size) (o := .dK []) (t' := s.toks) (fun _ _ q => Heap.get?_push_of_some _ q) (Nat.le_refl _) (dk_empty s.heap I.big), rfl, h _ (I.hok.fresh (Nat.le_refl _))⟩
end
def mergeK (kvs more : List (Key × V)) : List (Key × V) := more.foldl (fun acc kv => putK acc kv.1 kv.2) kvs
theorem KV.merge : ∀ {more : List (Key × V)} {rs : List (Key × Value)} {kvs : List (Key × V)} {vs : List (Key × Value)}, KV more rs -> KV kvs vs -> KV (mergeK kvs more) (merged vs rs) := by
  intro more rs kvs vs r
  unfold KV at r
  induction r generalizing kvs vs with
  | nil => intro q; exact q
  | @cons p q ps qs h t ih =>
    intro r0
    have e : KV (putK kvs p.1 p.2) (stored vs q.1 q.2) := by
      have := r0.put p.1 h.2
      rw [<- h.1]; exact this
    exact ih e
theorem length_mergeK : ∀ (more kvs : List (Key × V)), (mergeK kvs more).length <= kvs.length + more.length
  | [], kvs => by show kvs.length <= kvs.length + 0; omega
  | p :: r, kvs => by
    have h1 := length_mergeK r (putK kvs p.1 p.2)
    have h2 := length_putK kvs p.1 p.2
    show (mergeK (putK kvs p.1 p.2) r).length <= _
    rw [List.length_cons]; omega
structure M1 (X : Cx) (o : Expr) (m : Str) (apos : Pos) (e : Expr) (cpos : Pos) : Prop where
  base : attributeBase o m X.env (eval o X.env) = eval o X.env
  few : ((backTo cpos (starEach [e] X.env)).all (fun x => !x.1) && (backToKw cpos (keywordEach [] X.env)).all (fun x => x.1.isSome)
    && decide (([e] : List Expr).length + ([] : List Keyword).length + (if ([] : List Keyword).isEmpty then 0 else 1) < 30)) = true
  line : (apos.endLine == cpos.line) = true
  trees : backTo cpos (starEach [e] X.env) = [(false, eval e X.env)]
def IsD (H : Hp) (a : Addr) : Prop := (∃ kvs, Rd H a (.dK kvs)) \/ ∃ kvs, Rd H a (.dT kvs)
theorem isD_at {X : Cx} {pins : List (Addr × Obj)} {σ : St} {H : Hp} {s : Shared} {a : Addr} (I : Inv X pins σ H s) (d : IsD H a) :
    s.TypeIs (.ref a) "dict" /\ (∀ b, Value.ref a = .ref b -> ∃ ob, s.heap.get? b = some ob /\ ob.dict = none) /\ (a == sysModules) = false := by
  rcases d with ⟨kvs, e⟩ | ⟨kvs, e⟩
  . obtain ⟨_, hd, vs, _, dd⟩ := dk_rd I.hok e
    refine ⟨dd.typeIs, fun b q => ?_, hd⟩
    cases q
    obtain ⟨ob, _, _, h1, h2, _⟩ := dd
    exact ⟨ob, h1, h2.2.1⟩
  . obtain ⟨_, hd, xs, _, dd⟩ := dt_rd I.hok e
    refine ⟨dd.typeIs, fun b q => ?_, hd⟩
    cases q
    obtain ⟨ob, _, _, h1, h2, _⟩ := dd
    exact ⟨ob, h1, h2.2.1⟩
section
variable {X : Cx} {pins : List (Addr × Obj)} {σ : St} {H : Hp} {s : Shared} {a : Addr} {y d : V} {u r : Value} {o : Option V} {A : Around} {E : Value -> Shared -> Prop}
theorem d_get1 {Q : Value -> Shared -> Prop} (hu : A.units + 1 < cLine) (I : Inv X pins σ H s) (g : DGet H a y o) (ry : RelV y u) (h : ∀ w' s', Inv X pins σ H s' -> RelV (o.getD .non) w' -> Q w' s') :
    wpAny (model X.prog X.w) A (call (.builtin "dict.get") [.ref a, u]) Q E s := by
  rcases g with ⟨kvs, k, e, ey, l⟩ | ⟨kvs, k, b, e, ey, eb, l⟩
  . subst ey
    obtain ⟨z, hd, vs, rel, dd⟩ := dk_rd I.hok e
    refine call_meetsIn PySem.F.slot_dict_get dd.typeIs PySem.F.entry_dict_get (PySem.F.args_dict_get_2 _ _) (meets_dict_get (mixKind X.prog X.w) a (kV_is ry) hd) ⟨_, dd.mapOf, h _ _ (I.tok _) ?_⟩
    rw [l]
    exact (rel.val k).getD rfl
  . subst ey
    cases (show u = Value.ref b from ry)
    obtain ⟨z, hd, xs, rel, dd⟩ := dt_rd I.hok e
    refine call_meetsIn PySem.F.slot_dict_get dd.typeIs PySem.F.entry_dict_get (PySem.F.args_dict_get_2 _ _) (meetsH_dict_get (tupleKind (mixKind X.prog X.w)) a b hd) ⟨tupleKind_room_in1 hu, k, xs, key_of I.hok eb, dd, h _ _ (I.tok _) ?_⟩
    rw [l]
    exact (rel.val k).getD rfl
end
def tDGet1 (td ty : TE) : TE := fun σ H Q => td σ H fun x H1 => ∃ a, x = .ref a /\ IsD H1 a /\ ty σ H1 fun y H2 => ∃ o, DGet H2 a y o /\ Q (o.getD .non) H2
def tDPop1 (td ty : TE) : TE := fun σ H Q => td σ H fun x H1 => ∃ a, x = .ref a /\ IsD H1 a /\ ty σ H1 fun y H2 => ∃ kvs k v, H2 a = some (.dK kvs) /\ y = kV k /\ valV kvs k = some v /\ Q v (upd H2 a (.dK (dropK kvs k)))
section
variable {X : Cx} {o e f : Expr} {apos cpos : Pos} {td ty tx : TE}
theorem pe_dget1 (hu : X.A.units + 1 < cLine) (ho : PE X o td) (he : PE X e ty) (m : M1 X o "get" apos e cpos) : PE X (.Call (.Attribute o "get" apos) [e] [] cpos) (tDGet1 td ty) := by
  intro pins s σ H Q I h
  refine wpAny_Call_method m.base m.few m.line PySem.F.plainAttrs_dict PySem.F.slot_dict_get PySem.F.type_dict_get (thn (ho pins s σ H _ I h) fun u s1 ⟨x, H1, I1, rx, a, ex, d, q1⟩ => ?_)
  subst ex
  obtain rfl : u = Value.ref a := rx
  obtain ⟨t1, t2, _⟩ := isD_at I1 d
  refine ⟨t1, t2, ?_⟩
  rw [m.trees]
  refine Calls.callWith_builtin rfl (Calls.evalArgs_plain (Calls.spliced_cons (thn (he pins s1 σ H1 _ I1 q1) fun iv s2 ⟨y, H2, I2, ry, ov, g, q2⟩ => Calls.spliced_nil ?_)))
  exact d_get1 hu I2 g ry fun w' s3 I3 rw' => ⟨_, H2, I3, rw', q2⟩
end
section
variable {X : Cx} {pins : List (Addr × Obj)} {σ : St} {H : Hp} {s : Shared} {a : Addr} {kvs : List (Key × V)} {A : Around} {E : Value -> Shared -> Prop}
end
section
variable {X : Cx} {pins : List (Addr × Obj)} {σ : St} {H : Hp} {s : Shared} {a : Addr} {y : V} {u : Value} {A : Around} {E : Value -> Shared -> Prop}
end
end L2
namespace Att
open PySem PySem.W PySem.Calls PyProof.Rows
section
variable {prog : Program} {w : World} {A : Around} {E : Value -> Shared -> Prop} {s : Shared} {K : Frag}
end
end Att
namespace L2
open PySem PySem.Spec PyProof.Rows
end L2
namespace L2
open PySem PySem.Spec PyProof.Rows
end L2
namespace L2
open PySem PySem.Spec PyProof.Rows
section
variable {P : Program} {w : World} {K : PySem.W.Frag} {mg : Str -> Option Value} {base : Heap}
end
section
variable {X : Cx}
end
section
variable {κ : Type} [DecidableEq κ]
end
end L2
end
section
namespace L2
open PySem PySem.Spec PyProof.Rows
theorem relabel_lookup (env : Env) : ∀ (l : List (Str × NameKind)) (x : Str),
    (l.map fun (n, k) => if (k == NameKind.free && env.scope.kind == .function && env.kindOf n == some .cell) then (n, NameKind.cell) else (n, k)).lookup x
      = (l.lookup x).map fun k => if (k == NameKind.free && env.scope.kind == .function && env.kindOf x == some .cell) then NameKind.cell else k
  | [], _ => rfl
  | (n, k) :: r, x => by
    have ih := relabel_lookup env r x
    show List.lookup x ((if (k == NameKind.free && env.scope.kind == .function && env.kindOf n == some .cell) = true then (n, NameKind.cell) else (n, k)) :: _) = _
    cases hx : x == n with
    | true =>
      have e : x = n := by simpa using hx
      subst e
      by_cases hc : (k == NameKind.free && env.scope.kind == .function && env.kindOf x == some .cell) = true
      . rw [if_pos hc]; simp only [List.lookup_cons, hx, Option.map_some, hc, if_true]
      . rw [if_neg hc]; simp only [List.lookup_cons, hx, Option.map_some, if_neg hc]
    | false =>
      by_cases hc : (k == NameKind.free && env.scope.kind == .function && env.kindOf n == some .cell) = true
      . rw [if_pos hc]; simp only [List.lookup_cons, hx]; exact ih
      . rw [if_neg hc]; simp only [List.lookup_cons, hx]; exact ih
theorem closure_go {env : Env} : ∀ (l : List (Str × NameKind)) (acc : List (Str × Addr)), (∀ y ∈ l, y.2 = .free -> ∃ c, env.cells.lookup y.1 = some c) -> (∀ y c, acc.lookup y = some c -> env.cells.lookup y = some c) ->
    ∃ cl, (forIn l acc fun x (cs : List (Str × Addr)) => (if (x.2 == NameKind.free) = true then (do let a <- cellOf env x.1; pure (ForInStep.yield ((x.1, a) :: cs))) else pure (ForInStep.yield cs) : Sem (ForInStep (List (Str × Addr))))) = pure cl /\ (∀ y c, cl.lookup y = some c -> env.cells.lookup y = some c) /\ (∀ y c, acc.lookup y = some c -> ∃ c', cl.lookup y = some c') /\
      ∀ y ∈ l, y.2 = .free -> ∃ c, cl.lookup y.1 = some c
  | [], acc, _, h2 => ⟨acc, rfl, h2, fun _ c h => ⟨c, h⟩, fun _ h => nomatch h⟩
  | (n, k) :: r, acc, h1, h2 => by
    by_cases hk : k = .free
    . subst hk
      obtain ⟨c, hc⟩ := h1 (n, .free) List.mem_cons_self rfl
      have h2' : ∀ y c', ((n, c) :: acc).lookup y = some c' -> env.cells.lookup y = some c' := fun y c' h => by
        rw [List.lookup_cons] at h
        cases hy : y == n with
        | true => rw [hy] at h; have e : y = n := by simpa using hy
                  subst e; cases h; exact hc
        | false => rw [hy] at h; exact h2 y c' h
      obtain ⟨cl, e, q1, q2, q3⟩ := closure_go r ((n, c) :: acc) (fun y hy => h1 y (List.mem_cons_of_mem _ hy)) h2'
      refine ⟨cl, ?_, q1, fun y c' h => ?_, fun y hy hf => ?_⟩
      . rw [List.forIn_cons]
        simp only [beq_self_eq_true, if_true]
        unfold cellOf
        rw [hc]
        exact e
      . cases hy : y == n with
        | true => exact q2 y c (by rw [List.lookup_cons, hy])
        | false => exact q2 y c' (by rw [List.lookup_cons, hy]; exact h)
      . rcases List.mem_cons.mp hy with e' | hy
        . subst e'
          exact q2 n c (by simp [List.lookup_cons])
        . exact q3 y hy hf
    . have hb : (k == NameKind.free) = false := by simpa using hk
      obtain ⟨cl, e, q1, q2, q3⟩ := closure_go r acc (fun y hy => h1 y (List.mem_cons_of_mem _ hy)) h2
      refine ⟨cl, ?_, q1, q2, fun y hy hf => ?_⟩
      . rw [List.forIn_cons]
        simp only [hb, Bool.false_eq_true, if_false]
        exact e
      . rcases List.mem_cons.mp hy with e' | hy
        . subst e'; exact absurd hf hk
        . exact q3 y hy hf
theorem closure_ok (env : Env) (sc : Scope) (h : ∀ y ∈ sc.names, y.2 = .free -> ∃ c, env.cells.lookup y.1 = some c) :
    ∃ cl, closureFor sc env = pure cl /\ (∀ y c, cl.lookup y = some c -> env.cells.lookup y = some c) /\ ∀ y ∈ sc.names, y.2 = .free -> ∃ c, cl.lookup y.1 = some c := by
  obtain ⟨cl, e, q1, _, q3⟩ := closure_go (env := env) sc.names [] h (fun y c z => by simp at z)
  refine ⟨cl, ?_, q1, q3⟩
  unfold closureFor
  rw [<- e]
  simp only [bind_pure]
def blk (X : Cx) (sc : Scope) (x : Str) (M : List Str) (cl : List (Str × Addr)) (C : Addr) (s : Shared) (H : Hp) (fp : List Addr) : Cx :=
  { X with N := x :: M, s₀ := s, H₀ := H, env := compEnvC sc cl C X.env, outer := X.stack, ex := fp, fn := fun _ => false, pn := [], xe := fun _ _ => False }
structure BlkOk (X : Cx) (sc : Scope) (x : Str) (M : List Str) : Prop where
  kind : sc.kind = .function
  nocell : ∀ y ∈ sc.names, y.2 ≠ .cell
  names : ∀ y ∈ sc.names, y.2 = .local -> sc.names.lookup y.1 = some .local
  own : sc.names.lookup x = some .local
  nd : (x :: M).Nodup
  len : M.length = X.N.length
  free : ∀ y ∈ sc.names, y.2 = .free -> X.env.kindOf y.1 = some .cell \/ X.env.kindOf y.1 = some .free
  same : ∀ (i : Nat) (y : Str), M[i]? = some y -> sc.names.lookup y = some .free -> X.N[i]? = some y
  noloc : ∀ y ∈ M, sc.names.lookup y ≠ some .local
section
variable {X : Cx}
theorem Inv.toBlk {pins : List (Addr × Obj)} {σ : St} {H : Hp} {s : Shared} {sc : Scope} {x : Str} {M : List Str} {cl : List (Str × Addr)} {fp : List Addr} {h₁ : Heap} {tk : Nat}
    (I : Inv X pins σ H s) (B : BlkOk X sc x M) (q1 : ∀ y c, cl.lookup y = some c -> X.env.cells.lookup y = some c) (q3 : ∀ y ∈ sc.names, y.2 = .free -> ∃ c, cl.lookup y.1 = some c)
    (fpk : ∀ b ∈ fp, FpOk X pins H b) (fpl : ∀ b ∈ fp, b < s.heap.objs.size) {m : Str -> Option Value} (hn : h₁.Ns s.heap.objs.size m) (keep : ∀ b o, s.heap.get? b = some o -> h₁.get? b = some o) :
    Inv (blk X sc x M cl s.heap.objs.size s H fp) [] (none :: σ) H { s with heap := h₁, toks := tk } := by
  have kindOf' : ∀ y, (blk X sc x M cl s.heap.objs.size s H fp).env.kindOf y = (sc.names.lookup y).map fun k => if (k == NameKind.free && X.env.scope.kind == .function && X.env.kindOf y == some .cell) then NameKind.cell else k := fun y => relabel_lookup X.env sc.names y
  have isfree : ∀ y, ((blk X sc x M cl s.heap.objs.size s H fp).env.kindOf y = some .cell \/ (blk X sc x M cl s.heap.objs.size s H fp).env.kindOf y = some .free) -> sc.names.lookup y = some .free := fun y hy => by
    rw [kindOf'] at hy
    cases e : sc.names.lookup y with
    | none => rw [e] at hy; simp at hy
    | some k =>
      rw [e] at hy
      by_cases hk : k = .free
      . rw [hk]
      . exfalso
        have hb : (k == NameKind.free) = false := by simpa using hk
        simp only [hb, Bool.false_and, Option.map_some, Bool.false_eq_true, if_false, Option.some.injEq] at hy
        rcases hy with z | z
        . exact B.nocell (y, k) (PySem.mem_of_lookup e) z
        . exact hk z
  have ncell : ∀ y c, X.env.cells.lookup y = some c -> c < s.heap.objs.size := fun y c e => by
    obtain ⟨v, o, ho, _⟩ := I.cell y c e
    exact Heap.lt_size ho
  have below : ∀ b ∈ fp, FpOk X pins H b := fpk
  refine ⟨⟨I.ok.mod, B.kind, I.ok.glob, I.ok.blt, Nat.le_refl _, fun y z c h1 h2 => I.ok.inj y z c (q1 y c h1) (q1 z c h2), fun y hy => q3 _ (PySem.mem_of_lookup (isfree y hy)) rfl, fun y c h _ => absurd (show false = true from h) Bool.false_ne_true, I.ok.hd, I.ok.frames, .inl rfl,
    fun b hb => ?_, I.bs, Nat.le_trans I.ok.bsz I.sz, fun b o e hb => ?_, fun b hb z => ?_, I.stack, I.stkFree⟩, rfl, I.bare, Un.kept keep, ⟨_, hn, fun i y v e1 e2 e3 => ?_⟩, fun y c h => ?_, I.hok.fresh (Nat.le_refl _), fun y c h => I.freeC y c (q1 y c h), fun p hp => absurd (show p ∈ ([] : List (Addr × Obj)) from hp) (by simp), I.hok.kept keep, ?_⟩
  . exact ⟨Nat.ne_of_lt (fpl b hb), fun y c h => (fpk b hb).2.2.2.2.1 y c (q1 y c h)⟩
  . rcases (fpk b hb).2.2.2.1 with z | z
    . exact I.ok.noex b o e z
    . exact absurd (Nat.lt_of_lt_of_le (Heap.lt_size e) (Nat.le_trans I.ok.bsz z)) (Nat.lt_irrefl _)
  . rcases List.mem_cons.mp (I.stkSub b z) with e | z
    . exact (fpk b hb).2.1 e
    . exact (fpk b hb).2.2.1 z
  . cases i with
    | zero => simp at e2
    | succ i =>
      have e1' : M[i]? = some y := e1
      have e2' : σ[i]? = some (some v) := e2
      have hy : sc.names.lookup y = some .free := by
        rcases e3 with z | z | z
        . exfalso
          have z' : (blk X sc x M cl s.heap.objs.size s H fp).env.kindOf y = some .local := z
          rw [kindOf'] at z'
          cases e : sc.names.lookup y with
          | none => rw [e] at z'; simp at z'
          | some k =>
            rw [e] at z'
            simp only [Option.map_some, Option.some.injEq] at z'
            split at z'
            . cases z'
            . subst z'
              exact B.noloc y (List.mem_of_getElem? e1') e
        . exact isfree y (.inl z)
        . exact isfree y (.inr z)
      have hk := B.free _ (PySem.mem_of_lookup hy) rfl
      obtain ⟨m0, hn0, hl⟩ := I.loc
      obtain ⟨u, r, l⟩ := hl i y v (B.same i y e1' hy) e2' (hk.elim (fun z => .inr (.inl z)) fun z => .inr (.inr z))
      refine ⟨u, r, .inr ⟨?_, ?_⟩⟩
      . rcases e3 with z | z | z
        . exfalso
          have z' : (blk X sc x M cl s.heap.objs.size s H fp).env.kindOf y = some .local := z
          rw [kindOf', hy] at z'
          simp only [Option.map_some, Option.some.injEq] at z'
          split at z' <;> cases z'
        . exact .inl z
        . exact .inr z
      . rcases l with ⟨k, _⟩ | ⟨_, c, e, hc⟩
        . rcases hk with z | z <;> (have z' : X.env.kindOf y = _ := z; rw [k] at z'; cases z')
        . obtain ⟨c', e'⟩ := q3 _ (PySem.mem_of_lookup hy) rfl
          have e'' := q1 y c' e'
          rw [e] at e''; cases e''
          obtain ⟨o, ho, hd⟩ := hc
          exact ⟨c, e', o, keep c o ho, hd⟩
  . obtain ⟨v, o, ho, hd⟩ := I.cell y c (q1 y c h)
    exact ⟨v, o, keep c o ho, hd⟩
  . show (none :: σ).length = (x :: M).length
    rw [List.length_cons, List.length_cons, I.len, B.len]
end
def PIfs (X : Cx) (ifs : List Expr) (t : TT) : Prop :=
  ∀ (pins : List (Addr × Obj)) (s : Shared) (σ : St) (H : Hp) (Q : Bool -> Hp -> Prop), Inv X pins σ H s -> t σ H Q ->
    wpAny (model X.prog X.w) X.A (forIn ifs true fun c r => if r = true then do let ok <- isTrue c X.env (eval c X.env); pure (ForInStep.yield ok) else pure (ForInStep.yield r)) (TP X pins σ Q) X.xe s
def tYes : TT := fun _ H Q => Q true H
theorem pif_one {X : Cx} {c : Expr} {t : TT} (h : PT X c t) : PIfs X [c] t := fun pins s σ H Q I q => wpAny_tests_one (h pins s σ H Q I q)
section
variable {prog : Program} {w : World} {A : Around} {E : Value -> Shared -> Prop} {R : Result -> Shared -> Prop} {s : Shared}
theorem compLoop_go {elt target iter : Expr} {ifs : List Expr} {scope : Scope} {pos : Pos} {it acc : Value} {env : Env} (I : Nat -> Shared -> Prop)
    (turn : ∀ n s, I n s -> wpAny (model prog w) A (pyNext it) (fun r s₁ => match r with
      | none => R (.ok .next) s₁
      | some v => wpAny (model prog w) A (letOwnedTupleGo target it v) (fun _ s₁ => wpAny (model prog w) A (assign target env v) (fun _ s₂ =>
          wpAny (model prog w) A (forIn ifs true fun c r => if r = true then do let ok <- isTrue c env (eval c env); pure (ForInStep.yield ok) else pure (ForInStep.yield r)) (fun ok s₃ =>
            if ok = true then wpAny (model prog w) A (eval elt env) (fun x s₄ =>
              wpAny (model prog w) A (call (.builtin "list.append") [acc, x]) (fun _ s₅ => ∃ m, m < n /\ I m s₅) (fun _ _ => False) s₄) (fun _ _ => False) s₃
            else ∃ m, m < n /\ I m s₃) (fun _ _ => False) s₂) (fun _ _ => False) s₁) (fun _ _ => False) s₁) (fun _ _ => False) s)
    (n : Nat) (h : I n s) :
    codeAny (model prog w) A (.compLoop (.ListComp elt [⟨target, iter, ifs, 0⟩] scope pos) 0 it acc env) R s := by
  refine codeAny_loop rfl I (fun n s hI => ?_) n h
  show wpAny _ A ((compTurn (.ListComp elt [⟨target, iter, ifs, 0⟩] scope pos) 0 it acc env).onRaise (fun x => do noteFrame x env; theTreesLotGoes x)) _ _ s
  refine wpAny_noted ?_
  rw [compTurn_list]
  refine wpAny_bind (wpAny_standAt (wpAny_bind (wpAny_mono (turn n s hI) (fun r s₁ h₁ => ?_) fun _ _ h' => h'.elim)))
  cases r with
  | none => exact wpAny_pure h₁
  | some v =>
    refine wpAny_bind (wpAny_mono h₁ (fun _ s₁ h₁ => ?_) fun _ _ h' => h'.elim)
    refine wpAny_bind (wpAny_mono h₁ (fun _ s₂ h₂ => wpAny_bind (wpAny_mono h₂ (fun ok s₃ h₃ => ?_) fun _ _ h' => h'.elim)) fun _ _ h' => h'.elim)
    cases ok with
    | false => exact wpAny_pure ⟨rfl, h₃⟩
    | true =>
      exact wpAny_bind (wpAny_bind (wpAny_mono h₃ (fun x s₄ h₄ => wpAny_bind (wpAny_mono h₄ (fun _ s₅ h₅ => wpAny_pure (wpAny_pure ⟨rfl, h₅⟩)) fun _ _ h' => h'.elim)) fun _ _ h' => h'.elim))
end
def tLc (wi : TI) (tt : TT) (te : TE) : TE := fun σ H Q => wi σ H fun J H1 => ∀ D, H1 D = none -> ∃ W : Nat -> Nat -> List V -> Hp -> Prop, (∃ m, W 0 m [] (upd H1 D (.lst []))) /\ ∀ i m ys H, W i m ys H ->
  H D = some (.lst ys) /\ ((J.stop i H /\ Q (.ref D) H) \/ (J.go i H /\ ys.length < sizeLine /\ ∀ x H', J.yld i H x H' -> tt (some x :: σ) H' fun b H2 => if b = true then te (some x :: σ) H2 fun v H3 =>
    H3 D = some (.lst ys) /\ ∃ m', m' < m /\ W (i + 1) m' (ys ++ [v]) (upd H3 D (.lst (ys ++ [v]))) else ∃ m', m' < m /\ W (i + 1) m' ys H2))
section
variable {X : Cx}
theorem lcomp_core {sc : Scope} {x : Str} {px pos : Pos} {iter elt : Expr} {ifs : List Expr} {M : List Str} {wi : TI} {tt : TT} {te : TE} {cl : List (Str × Addr)} {RR : Value -> Addr -> Result -> Shared -> Prop} {pins : List (Addr × Obj)} {s : Shared} {σ : St} {H : Hp} {Q : VK}
    (hc : X.calm = true) (B : BlkOk X sc x M) (hi : PI X (.Name x px) iter wi) (ht : ∀ C s H fp, PIfs (blk X sc x M cl C s H fp) ifs tt) (he : ∀ C s H fp, PE (blk X sc x M cl C s H fp) elt te)
    (q1 : ∀ y c, cl.lookup y = some c -> X.env.cells.lookup y = some c) (q3 : ∀ y ∈ sc.names, y.2 = .free -> ∃ c, cl.lookup y.1 = some c)
    (I : Inv X pins σ H s) (h : tLc wi tt te σ H Q)
    (hRR : ∀ (D C : Addr) (s' : Shared) (m : Str -> Option Value) (H' : Hp), Inv X pins σ H' s' -> s'.heap.Ns C m -> FpOk X pins H' C -> Q (.ref D) H' -> RR (.ref D) C (.ok .next) s') :
    wpAny (model X.prog X.w) X.A (eval iter X.env) (fun xv s₁ => wpAny (model X.prog X.w) X.A (pyIter xv) (fun it s₂ => wpAny (model X.prog X.w) X.A (newList []) (fun acc s₃ =>
      wpAny (model X.prog X.w) X.A (newFunctionEnv sc X.env.globals cl [] X.env.qual none .none (some X.env)) (fun cenv s₄ =>
        codeAny (model X.prog X.w) X.A (.compStart (.ListComp elt [⟨.Name x px, iter, ifs, 0⟩] sc pos) 0 it acc { cenv with scope := relabel sc X.env }) (RR acc cenv.locals) s₄) X.xe s₃) X.xe s₂) X.xe s₁) X.xe s := by
  refine thn (hi pins s σ H _ I h) fun v s1 h1 => thn h1 fun itv s2 h2 => ?_
  obtain ⟨it, fp, tn, J, H2, rfl, I2, T, st2, f2, q2⟩ := h2
  refine wpAny_newObj_type (wpAny_newFunctionEnv B.nocell (by intro y hy; simp at hy) (fun h₁ hns₁ hsb₁ => ?_) B.kind)
  dsimp only at hns₁ hsb₁ ⊢
  obtain ⟨W, ⟨m0, w0⟩, turn⟩ := q2 s2.heap.objs.size I2.fresh
  have I3 : Inv X pins σ (upd H2 s2.heap.objs.size (.lst [])) { s2 with heap := s2.heap.push { cls := .type "list", data := .seq ([] : List Value).toArray }, toks := s2.toks } := I2.lnew .nil (Nat.zero_le _)
  generalize hs3 : ({ s2 with heap := s2.heap.push { cls := .type "list", data := .seq ([] : List Value).toArray }, toks := s2.toks } : Shared) = s3 at I3
  have eh : s2.heap.push { cls := .type "list", dict := none, data := .seq ([] : List Value).toArray } = s3.heap := by rw [<- hs3]
  have fpl : ∀ b ∈ fp, b < s2.heap.objs.size := fun b hb => by
    obtain ⟨o, e, _⟩ := T.obj _ _ st2 b hb
    exact Heap.lt_size e
  have sz : s3.heap.objs.size = s2.heap.objs.size + 1 := by rw [<- eh, Heap.size_push]
  have fpl3 : ∀ b ∈ fp, b < s3.heap.objs.size := fun b hb => by rw [sz]; exact Nat.lt_succ_of_lt (fpl b hb)
  have fp3 : ∀ b ∈ fp, FpOk X pins (upd H2 s2.heap.objs.size (.lst [])) b := fun b hb => ⟨by rw [upd_ne (Nat.ne_of_lt (fpl b hb))]; exact (f2 b hb).1, (f2 b hb).2⟩
  rw [eh] at hns₁ hsb₁ ⊢
  have keep : ∀ b o, s3.heap.get? b = some o -> h₁.get? b = some o := fun b o e => hsb₁.extBut b o (Nat.ne_of_lt (Heap.lt_size e)) (Heap.get?_push_of_some _ e)
  have IB := I3.toBlk (tk := s2.toks + ([] : List (Str × Value)).length) B q1 q3 fp3 fpl3 hns₁ keep
  have st4 : tn 0 h₁ := T.keep _ _ _ st2 fun b hb o e => keep b o (by rw [<- eh]; exact Heap.get?_push_of_some _ e)
  have es : ({ s3 with heap := h₁, toks := s2.toks + ([] : List (Str × Value)).length } : Shared) = { s2 with heap := h₁, toks := s2.toks + ([] : List (Str × Value)).length } := by rw [<- hs3]
  rw [es] at IB
  have hx' : (blk X sc x M cl s3.heap.objs.size s3 (upd H2 s2.heap.objs.size (.lst [])) fp).env.scope.names.lookup x = some .local := lookup_relabel_local B.own
  have hg : PG (blk X sc x M cl s3.heap.objs.size s3 (upd H2 s2.heap.objs.size (.lst [])) fp) (.Name x px) (gName 0) := pg_name B.nd rfl (.inl hx') (.inr hx')
  have he' := he s3.heap.objs.size s3 (upd H2 s2.heap.objs.size (.lst [])) fp
  have ht' := ht s3.heap.objs.size s3 (upd H2 s2.heap.objs.size (.lst [])) fp
  have loop : ∀ s₄ : Shared, s₄ = { s2 with heap := h₁, toks := s2.toks + ([] : List (Str × Value)).length } ->
      codeAny (model X.prog X.w) X.A (.compLoop (.ListComp elt [⟨.Name x px, iter, ifs, 0⟩] sc pos) 0 (.ref it) (.ref s2.heap.objs.size) (compEnvC sc cl s3.heap.objs.size X.env)) (RR (.ref s2.heap.objs.size) s3.heap.objs.size) s₄ := by
    rintro s₄ rfl
    refine compLoop_go (fun n s' => ∃ i ys o H', Inv (blk X sc x M cl s3.heap.objs.size s3 (upd H2 s2.heap.objs.size (.lst [])) fp) [] (o :: σ) H' s' /\ tn i s'.heap /\ (∀ b ∈ fp, H' b = none) /\ W i n ys H') ?_ m0
      ⟨0, [], none, _, IB, st4, fun b hb => (fp3 b hb).1, w0⟩
    rintro n s' ⟨i, ys, o, H', I', st', fr', w'⟩
    have fpB : ∀ {H' : Hp} {pl : List (Addr × Obj)}, (∀ b ∈ fp, H' b = none) -> ∀ b ∈ fp, FpOk (blk X sc x M cl s3.heap.objs.size s3 (upd H2 s2.heap.objs.size (.lst [])) fp) [] H' b := fun {H' pl} hn b hb =>
      ⟨hn b hb, Nat.ne_of_lt (fpl3 b hb), fun z => I'.ok.exfs b hb z, .inl hb, fun y c hy => (fp3 b hb).2.2.2.2.1 y c (q1 y c hy), fun p hp => absurd (show p ∈ ([] : List (Addr × Obj)) from hp) (by simp)⟩
    obtain ⟨hD, ⟨stop, q⟩ | ⟨go, hlen, step⟩⟩ := turn i n ys H' w'
    . refine wpAny_mono (T.done (blk X sc x M cl s3.heap.objs.size s3 (upd H2 s2.heap.objs.size (.lst [])) fp) rfl rfl rfl hc i [] s' (o :: σ) H' (fun _ _ => False) I' (fpB (pl := []) fr') st' stop) (fun r s4 ⟨hr, I4⟩ => ?_) fun _ _ f => f.elim
      subst hr
      obtain ⟨m, hn, _⟩ := I4.loc
      refine hRR _ _ s4 m H' (I3.call' (ch := fp) I4.os I4.base I4.hok I4.bare fun b hb => ⟨(fp3 b hb).2.2.2.1, (fp3 b hb).2.1, (fp3 b hb).2.2.2.2.1, (fp3 b hb).2.2.2.2.2⟩) hn (I3.fpOk (Nat.le_refl _) I4.free) q
    . refine wpAny_mono (T.item (blk X sc x M cl s3.heap.objs.size s3 (upd H2 s2.heap.objs.size (.lst [])) fp) rfl rfl rfl hc i [] s' (o :: σ) H' (fun _ _ => False) I' (fpB (pl := []) fr') st' go) (fun r s4 ⟨u, hr, h4⟩ => ?_) fun _ _ f => f.elim
      subst hr
      refine wpAny_mono h4 (fun _ s5 ⟨y, H5, I5, r5, y5, st5, fr5⟩ => ?_) fun _ _ f => f.elim
      have I5' := I5.pinned (fpB (pl := []) fr5) (T.obj _ _ st5)
      refine wpAny_mono (hg _ s5 (o :: σ) H5 y u (fun σ' H' => σ' = some y :: σ /\ H' = H5) I5' r5 ⟨rfl, rfl⟩) (fun _ s6 ⟨σ6, H6, I6, e6, e6'⟩ => ?_) fun _ _ f => f.elim
      subst e6 e6'
      have again : ∀ {H7 : Hp} {s7 : Shared} {zs : List V} {m' : Nat}, Inv (blk X sc x M cl s3.heap.objs.size s3 (upd H2 s2.heap.objs.size (.lst [])) fp) ([] ++ pinsAt fp s5.heap) (some y :: σ) H7 s7 -> m' < n -> W (i + 1) m' zs H7 ->
          ∃ m, m < n /\ ∃ i ys o H', Inv (blk X sc x M cl s3.heap.objs.size s3 (upd H2 s2.heap.objs.size (.lst [])) fp) [] (o :: σ) H' s7 /\ tn i s7.heap /\ (∀ b ∈ fp, H' b = none) /\ W i m ys H' := fun {H7 s7 zs m'} I7 hm w7 => by
        refine ⟨m', hm, i + 1, zs, some y, H7, I7.unpinned, T.keep _ _ _ st5 fun b hb o e => (I7.pin (b, o) (List.mem_append_right _ (List.mem_append_right _ (mem_pinsAt hb e)))).1, fun b hb => ?_, w7⟩
        obtain ⟨o, e, d⟩ := T.obj _ _ st5 b hb
        exact (I7.pin (b, o) (List.mem_append_right _ (List.mem_append_right _ (mem_pinsAt hb e)))).2.1
      refine wpAny_mono (ht' _ s6 (some y :: σ) H6 _ I6 (step y H6 y5)) (fun b s7 ⟨H7, I7, q7⟩ => ?_) fun _ _ f => f.elim
      cases b with
      | false =>
        rw [if_neg Bool.false_ne_true] at q7 ⊢
        obtain ⟨m', hm, w7⟩ := q7
        exact again I7 hm w7
      | true =>
        rw [if_pos rfl] at q7 ⊢
        refine wpAny_mono (he' _ s7 (some y :: σ) H7 _ I7 q7) (fun u8 s8 ⟨v8, H8, I8, r8, hD8, m', hm, w8⟩ => ?_) fun _ _ f => f.elim
        refine wpAny_mono (mt_append (X := blk X sc x M cl s3.heap.objs.size s3 (upd H2 s2.heap.objs.size (.lst [])) fp) _ s8 (some y :: σ) H8 (.ref s2.heap.objs.size) [v8] (.ref s2.heap.objs.size) [u8] (fun _ H9 => H9 = upd H8 s2.heap.objs.size (.lst (ys ++ [v8]))) I8 rfl (.cons r8 .nil) ⟨_, ys, v8, rfl, rfl, hD8, hlen, rfl⟩) (fun _ s9 ⟨_, H9, I9, _, e9⟩ => ?_) fun _ _ f => f.elim
        subst e9
        exact again I9 hm w8
  exact codeAny_compStart_list (loop _ rfl) (T.self X.A 0 _ _ _ st4 (loop _ rfl))
theorem pe_lcomp {sc : Scope} {x : Str} {px pos : Pos} {iter elt : Expr} {ifs : List Expr} (M : List Str) {wi : TI} {tt : TT} {te : TE} (hc : X.calm = true) (B : BlkOk X sc x M) (hi : PI X (.Name x px) iter wi)
    (ht : ∀ cl C s H fp, PIfs (blk X sc x M cl C s H fp) ifs tt) (he : ∀ cl C s H fp, PE (blk X sc x M cl C s H fp) elt te) (hs : ∀ x, foldedSetIterable iter X.env x = pure x := by intro _; rfl) :
    PE X (.ListComp elt [⟨.Name x px, iter, ifs, 0⟩] sc pos) (tLc wi tt te) := by
  intro pins s σ H Q I h
  obtain ⟨cl, hcl, q1, q3⟩ := closure_ok X.env sc (fun y hy hf => I.ok.has y.1 (B.free y hy hf))
  rw [eval_ListComp]
  refine wpAny_comprehension_free (use := none) rfl hs hcl B.kind B.names (lcomp_core (RR := fun acc C => compPost (model X.prog X.w) X.A X.xe none (EP X pins σ Q) acc C) hc B hi (ht cl) (he cl) q1 q3 I h ?_)
  intro D C s' m H' I' hn fpC q
  exact ⟨m, hn, fun h' sb => ⟨.ref D, H', I'.turned (t' := s'.toks) (fun b o hb e => sb.extBut b o hb e) fpC.1 fpC.2.1 fpC.2.2.2.1 fpC.2.2.2.2.1 fpC.2.2.2.2.2, rfl, q⟩⟩
def tSetLc (j : Nat) (wi : TI) (tt : TT) (te : TE) : TS := fun D σ H => tLc wi tt te σ H fun v H' => D.nx (σ.set j (some v)) H'
end
end L2
end
section
namespace HT
open PySem PyProof.Rows L2
def lexV : List V -> List V -> Option Bool
  | [], [] => some false
  | [], _ :: _ => some true
  | _ :: _, [] => some false
  | .int i :: xs, .int j :: ys => if i = j then lexV xs ys else some (decide (i < j))
  | .str i :: xs, .str j :: ys => if i = j then lexV xs ys else some (decide (i.cps.toList < j.cps.toList))
  | _ :: _, _ :: _ => none
theorem lexV_nil_nil : lexV [] [] = some false := rfl
theorem lexV_nil_cons (y : V) (ys : List V) : lexV [] (y :: ys) = some true := rfl
theorem lexV_cons_nil (x : V) (xs : List V) : lexV (x :: xs) [] = some false := by cases x <;> rfl
theorem rcLt_str (A : Around) (s : Shared) (a : Str) (t : Tok) (c : Str) (u : Tok) (prog : Program) (w : World) (E : Value -> Shared -> Prop) (Q : Value -> Shared -> Prop) (h : Q (.bool (decide (a.cps.toList < c.cps.toList))) s) :
    wpAny (model prog w) A (richCompare .Lt (.str a t) (.str c u)) Q E s :=
  (lt_str h : wpAny (model prog w) A (compareOp .Lt (.str a t) (.str c u)) Q E s)
section
open PySem.SeqAt
open PySem.AutoSeq1 (wpAny_loadPart')
open PySem.MeetsSeq PySem.MeetsSeq2 PySem.MeetsSeq3
theorem tuple_lt_V (l b : Addr) (items items2 : Array Value) (n n2 : Nat) (dd dd2 : Option Addr) (sl sl2 : Array (Option Value)) (xs ys : List V) (hi : Vals xs items.toList) (hj : Vals ys items2.toList) (r : Bool) (hr : lexV xs ys = some r) :
    Meets (Builtin.«tuple.__lt__» ⟨[.ref l, .ref b], []⟩)
      (fun _ R s => s.heap.get? l = some { cls := .type "tuple", dict := dd, data := .seq items n, slots := sl } /\ s.heap.get? b = some { cls := .type "tuple", dict := dd2, data := .seq items2 n2, slots := sl2 } /\
        R (.ok (.ret (.bool r))) s) :=
  .of_wp fun prog w A R s h => by
    obtain ⟨hp, g, d, tk, os⟩ := s; obtain ⟨hl, hb, h⟩ := h
    have f2 := AutoSeq1.sub_tuple_tuple
    have z1 : items.size = xs.length := by rw [hi.length]; simp
    have z2 : items2.size = ys.length := by rw [hj.length]; simp
    wp_walk using wpAny_loadPart' hl, wpAny_loadPart' hb, wpAny_forIn_list _ (fun rest b s' => b.1 = none /\ s' = ⟨hp, g, d, tk, os⟩ /\ ∃ (vs ws : List Value) (xs' ys' : List V), rest = vs.zip ws /\
      Vals xs' vs /\ Vals ys' ws /\ xs'.length + items2.size = ys'.length + items.size /\ lexV xs' ys' = some r) _
    case turn =>
      rintro ⟨y, x⟩ rest b s' ⟨hb', rfl, vs, ws, xs', ys', hz, hvi, hwi, hlen, hR⟩
      cases hvi with
      | nil => rw [List.zip_nil_left] at hz; cases hz
      | cons ra hvi' =>
        cases hwi with
        | nil => rw [List.zip_nil_right] at hz; cases hz
        | cons rb hwi' =>
          rename_i a1 v1 l1 l2 a2 v2 l3 l4
          rw [List.zip_cons_cons] at hz
          injection hz with hyx hrest
          injection hyx with hy hx
          subst hy hx
          simp only [List.length_cons] at hlen
          cases a1 with
          | int i =>
            cases a2 with
            | int j =>
              obtain ⟨t, rfl⟩ := ra
              obtain ⟨u, rfl⟩ := rb
              simp only [lexV] at hR
              obtain ⟨e, he, hiff⟩ := eqAt_int A.in1 ⟨hp, g, d, tk, os⟩ i t j u
              refine wpAny_bind (he prog w _ _ ?_)
              cases e with
              | true =>
                rw [if_pos (hiff.mp rfl)] at hR
                wp_walk
                exact ⟨rfl, rfl, _, _, _, _, hrest, hvi', hwi', by omega, hR⟩
              | false =>
                rw [if_neg (fun q => absurd (hiff.mpr q) Bool.false_ne_true)] at hR
                cases hR
                have hri := rcLt_int A.in1 ⟨hp, g, d, tk, os⟩ i t j u prog w
                wp_walk using hri
                exact ⟨_, rfl, by simpa using h⟩
            | _ => simp [lexV] at hR
          | str i =>
            cases a2 with
            | str j =>
              obtain ⟨t, rfl⟩ := ra
              obtain ⟨u, rfl⟩ := rb
              simp only [lexV] at hR
              refine wpAny_bind (SeqAt.EqAt.str_str (A := A.in1) (s := ⟨hp, g, d, tk, os⟩) i t j u prog w _ _ ?_)
              cases e : (i == j) with
              | true =>
                rw [if_pos (by simpa using e)] at hR
                wp_walk
                exact ⟨rfl, rfl, _, _, _, _, hrest, hvi', hwi', by omega, hR⟩
              | false =>
                rw [if_neg (by simpa using e)] at hR
                cases hR
                have hri := rcLt_str A.in1 ⟨hp, g, d, tk, os⟩ i t j u prog w
                wp_walk using hri
                exact ⟨_, rfl, by simpa using h⟩
            | _ => simp [lexV] at hR
          | _ => cases a2 <;> simp [lexV] at hR
    case fin =>
      rintro ⟨b1, b2⟩ s' ⟨hb', rfl, vs, ws, xs', ys', hz, hvi, hwi, hlen, hR⟩
      simp only at hb'
      subst hb'
      have hv : r = decide (items.size < items2.size) := by
        cases hvi with
        | nil =>
          cases hwi with
          | nil =>
            simp only [List.length_nil] at hlen
            rw [lexV_nil_nil] at hR; cases hR
            exact (decide_eq_false (by omega)).symm
          | cons c hw =>
            simp only [List.length_nil, List.length_cons] at hlen
            rw [lexV_nil_cons] at hR; cases hR
            exact (decide_eq_true (by omega)).symm
        | cons a hv =>
          cases hwi with
          | nil =>
            simp only [List.length_nil, List.length_cons] at hlen
            rw [lexV_cons_nil] at hR; cases hR
            exact (decide_eq_false (by omega)).symm
          | cons c hw =>
            rw [List.zip_cons_cons] at hz
            cases hz
      rw [hv] at h
      wp_walk
      exact ⟨_, rfl, by simpa [Builtin.Tuple.tupleCompareSizes] using h⟩
    case h =>
      exact ⟨rfl, rfl, items.toList, items2.toList, xs, ys, rfl, hi, hj, by omega, hr⟩
end
section
variable {prog : Program} {w : World} {A : Around} {E : Value -> Shared -> Prop} {s : Shared}
theorem lt_tupV {l b : Addr} {items items2 : Array Value} {xs ys : List V} {r : Bool} {Q : Value -> Shared -> Prop} (hl : IsTup s.heap l items) (hb : IsTup s.heap b items2) (hi : Vals xs items.toList) (hj : Vals ys items2.toList) (hr : lexV xs ys = some r)
    (hu : A.units < cLine) (h : Q (.bool r) s) : wpAny (model prog w) A (compareOp .Lt (.ref l) (.ref b)) Q E s := by
  obtain ⟨⟨cls, dd, data, sl⟩, ho, hc, n, hd⟩ := id hl
  obtain ⟨⟨cls2, dd2, data2, sl2⟩, ho2, hc2, n2, hd2⟩ := id hb
  simp only at hc hd hc2 hd2
  subst hc hd hc2 hd2
  exact richCompare_meets_room (op := .Lt) ⟨_, ho, rfl⟩ ⟨_, ho2, rfl⟩ PySem.F.slot_tuple_lt PySem.F.entry_tuple_lt (PySem.F.args_tuple_lt_2 _ _) (tuple_lt_V l b items items2 n n2 dd dd2 sl sl2 xs ys hi hj r hr)
    ⟨ho, ho2, show Value.bool r ≠ Value.notImplemented /\ Q (.bool r) s from ⟨(fun x => nomatch x), h⟩⟩ hu
end
end HT
namespace L2
open PySem PySem.Spec PyProof.Rows
section
variable {X : Cx}
def clsV : V -> Option Value
  | .ty n => some (.type n)
  | .ref a => some (.ref a)
  | _ => none
def rIsI (K : PySem.W.Frag) : List V -> Hp -> VK -> Prop := fun xs H Q => ∃ x c t cv b, xs = [x, c] /\ clsV c = some cv /\ TyOf K H x t /\ PySem.W.kitOne K t cv = some b /\ Q (.bl b) H
theorem call_isinst : CallR X (.builtin "isinstance") (rIsI X.K) := by
  intro pins s σ H xs us Q I r h
  obtain ⟨x, c, t, cv, b, rfl, hc, ty, e, q⟩ := h
  obtain ⟨u, w', rfl, rx, rc⟩ := vals2 r
  have ec : w' = cv := by
    cases c <;> simp [clsV] at hc
    . subst hc; exact rc
    . subst hc; exact rc
  subst ec
  exact isinst_ok I rx ty e fun tk => ⟨.bl b, H, I.tok tk, rfl, q⟩
def rLtV (K : PySem.W.Frag) : R2 := fun x y H Q => ∃ a b xs ys r, x = .ref a /\ y = .ref b /\ SqT K H a xs /\ SqT K H b ys /\ HT.lexV xs ys = some r /\ Q (.bl r) H
theorem op_ltV (hu : X.A.units < cLine) : OpR X (compareOp .Lt) (rLtV X.K) := by
  intro pins s σ H x y v u Q I rx ry h
  obtain ⟨a, b, xs, ys, r, rfl, rfl, ha, hb, e, q⟩ := h
  cases rx
  cases ry
  obtain ⟨its, r1, p1, _⟩ := I.tuple ha
  obtain ⟨its2, r2, p2, _⟩ := I.tuple hb
  exact HT.lt_tupV p1 p2 (by simpa using r1) (by simpa using r2) e hu ⟨.bl r, H, I, rfl, q⟩
def Its (z : Str) : It := ⟨fun i _ => i < z.length, fun i H x H' => H' = H /\ ∃ c, z.cps[i]? = some c /\ x = .str ⟨#[c]⟩, fun i _ => z.length <= i⟩
end
end L2
namespace L2
open PySem PySem.Spec PyProof.Rows
section
variable {X : Cx}
def iStr (tl : TE) : TI := fun σ H R => tl σ H fun x H1 => ∃ z, x = .str z /\ R (Its z) H1
def rJoin (K : PySem.W.Frag) : V -> List V -> Hp -> VK -> Prop := fun x xs H Q => ∃ z l ys, x = .str z /\ xs = [.ref l] /\ SqL K H l (ys.map V.str) /\ (ys.map (·.length)).sum + ys.length * z.length <= 16777216 /\ Q (.str (Txt.join z ys)) H
def rSlS : V -> Option Int -> Option Int -> Hp -> VK -> Prop := fun x lo hi H Q => ∃ z, x = .str z /\ z.length <= sizeLine /\ Q (.str (Txt.slice z lo hi)) H
def eqVs (xs ys : List V) : Bool := (List.range (min xs.length ys.length)).all (fun i => eqV (xs.getD i .non) (ys.getD i .non)) && xs.length == ys.length
def rEqL (K : PySem.W.Frag) (neg : Bool) : R2 := fun x y H Q => ∃ a b xs ys, x = .ref a /\ y = .ref b /\ SqL K H a xs /\ SqL K H b ys /\ xs.all flatV = true /\ ys.all flatV = true /\ Q (.bl (if neg then !eqVs xs ys else eqVs xs ys)) H
theorem eqV_refl {x : V} (f : flatV x = true) : eqV x x = true := by cases x <;> simp [eqV, flatV] at *
end
end L2
end
section
namespace L2
open PySem PySem.Spec PyProof.Rows
theorem bo_len : bootBuiltins "len" = some (.builtin "len") := by decide +kernel
theorem bo_isinstance : bootBuiltins "isinstance" = some (.builtin "isinstance") := by decide +kernel
theorem bo_str : bootBuiltins "str" = some (.type "str") := by decide +kernel
theorem bo_list : bootBuiltins "list" = some (.type "list") := by decide +kernel
theorem bo_tuple : bootBuiltins "tuple" = some (.type "tuple") := by decide +kernel
def blkB (dsc sc : Scope) (x : Str) (N M : List Str) : Bool :=
  decide (sc.kind = .function) && sc.names.all (fun y => decide (y.2 ≠ .cell)) && sc.names.all (fun y => decide (y.2 = .local -> sc.names.lookup y.1 = some .local)) && decide (sc.names.lookup x = some .local) && decide ((x :: M).Nodup) &&
  decide (M.length = N.length) && sc.names.all (fun y => decide (y.2 = .free -> dsc.names.lookup y.1 = some .cell \/ dsc.names.lookup y.1 = some .free)) &&
  (List.range M.length).all (fun i => match M[i]? with | some y => decide (sc.names.lookup y = some .free -> N[i]? = some y) | none => true) && M.all (fun y => decide (sc.names.lookup y ≠ some .local))
theorem blkOk {X : Cx} {sc dsc : Scope} {x : Str} {N M : List Str} (hN : X.N = N) (hs : X.env.scope = dsc) (h : blkB dsc sc x N M = true) : BlkOk X sc x M := by
  unfold blkB at h
  simp only [Bool.and_eq_true, decide_eq_true_eq, List.all_eq_true] at h
  obtain ⟨⟨⟨⟨⟨⟨⟨⟨h1, h2⟩, h3⟩, h4⟩, h5⟩, h6⟩, h7⟩, h8⟩, h9⟩ := h
  refine ⟨h1, h2, h3, h4, h5, by rw [hN]; exact h6, fun y hy hf => ?_, fun i y hi hf => ?_, h9⟩
  . have := h7 y hy hf
    rw [<- hs] at this
    exact this
  . have hl : i < M.length := (List.getElem?_eq_some_iff.mp hi).1
    have := h8 i (List.mem_range.mpr hl)
    rw [hi] at this
    rw [hN]
    exact (decide_eq_true_eq.mp this) hf
def Cal (P : Program) (w : World) (K : PySem.W.Frag) (mg : Str -> Option Value) (base : Heap) (k : Nat) (x : Str) (ps : List Str) (sp : Sp) : Prop :=
  ∃ f fd, FnOk P w K mg base CX0 k f fd ps sp /\ Binds K fd ps [] /\ PySem.W.keepIn K (.ref f) = true /\ mg x = some (.ref f)
section
variable {X : Cx} {e : Expr} {es : List Expr} {t : TA} {p pos : Pos}
theorem pe_cal {j k : Nat} {x : Str} {ps : List Str} {sp : Sp} (G : Cal X.prog X.w X.K X.mg X.base j x ps sp) (hr : Room k X.A) (hj : j <= k) (hg : Gl X x) (ha : PA X (e :: es) t) (hdb : (x == ("__debug__" : Str)) = false := by decide)
    (he : starEach (e :: es) X.env = (false, eval e X.env) :: starEach es X.env := by rfl) (hpl : (backTo pos (starEach es X.env)).any (·.1) = false := by rfl) : PE X (.Call (.Name x p) (e :: es) [] pos) (tCall sp [] E0 t) := by
  obtain ⟨f, fd, F, b, kp, m⟩ := G
  exact pe_call F (hr.mono hj) hg m kp b .nil pass0 ha hdb he hpl
end
theorem isI_of {K : PySem.W.Frag} {H : Hp} {Q : VK} {x : V} {n : String} {t : Value} {b : Bool} (ty : TyOf K H x t) (e : PySem.W.kitOne K t (.type n) = some b) (q : Q (.bl b) H) : rIsI K [x, .ty n] H Q := ⟨x, .ty n, t, .type n, b, rfl, rfl, ty, e, q⟩
section
variable {K : PySem.W.Frag}
theorem kit_int_str : PySem.W.kitOne K (.type "int") (.type "str") = some false := by rfl
theorem kit_str_str : PySem.W.kitOne K (.type "str") (.type "str") = some true := by rfl
end
end L2
namespace L2
open PySem PySem.Spec PyProof.Rows
theorem rd_start {t : TS} {D : Ends} {σ σ' : St} {H : Hp} (e : σ' = σ) (h : t D σ H) : t D σ' H := by rw [e]; exact h
end L2
end
section
namespace Att
open PySem PySem.W PySem.Calls PyProof.Rows
theorem bits_all : ∀ (ns : List Int), WData.weightAll (ns.map WData.int) <= 2 ^ 20 -> ∀ n ∈ ns, Builtin.Int.intBits n <= 2 ^ 20
  | [], _, _, h => nomatch h
  | m :: ns, hw, n, h => by
    rw [List.map_cons] at hw
    have e : WData.weightAll (WData.int m :: ns.map WData.int) = WData.weight (.int m) + 1 + WData.weightAll (ns.map WData.int) := by simp only [WData.weightAll]
    rw [e] at hw
    rcases List.mem_cons.mp h with rfl | h
    . have : WData.weight (.int n) <= 2 ^ 20 := by omega
      simpa only [WData.weight, Builtin.Int.intBits] using this
    . exact bits_all ns (by omega) n h
theorem attach_callB {l : OpenLaw} {n : Nat} {q : Program} {loose : List Str} {XP : (Str -> Option Value) -> Heap -> Prop} {YP : World -> Heap -> Prop} {d : DefRec}
    (hn : l.most = some n) (hdf : d.params.defaults = [])
    (call : ∀ (w : World) (s₀ s₁ : Shared) (mg mb : Str -> Option Value) (fa : Addr) (o : Obj) (pm cd doc : Value) (a : Addr) (vs : List Value) (ns : List Int),
      Ground q loose [] XP w s₀ mg mb s₁.heap -> YP w s₁.heap ->
      s₁.heap.get? fa = some o -> o.data = .func (docDef d.name d.params d.body d.scope pm cd doc) -> s₁.heap.CodeRec cd d.name -> mg d.name = some (.ref fa) ->
      s₁.heap.get? a = some { cls := .type "list", data := .seq vs.toArray } -> IntsAre vs ns -> ns.length <= n -> (∀ i ∈ ns, Builtin.Int.intBits i <= 2 ^ 20) -> s₁.gens = #[] ->
      codeAny (model l.prog w) callerA (.call (.ref fa) ⟨[.ref a], []⟩) (fun r s' => r = .ok (.ret (.bool true)) /\ OldK s₁.heap s'.heap /\ s'.os = s₁.os /\ AllBare s'.gens) s₁) :
    WalkO q loose XP YP l.row.toRowW d [] (fun f vs => PySem.call f vs) := by
  intro w s₀ s₁ mg mb G Y fa o pm cd doc dV kV ho hd hcd hD hmg hg args vals as hpre hlay hrd hwl hlo
  obtain rfl : dV = .none := Dflts.none hD hdf
  obtain rfl : kV = .none := Dflts.noKw hD
  obtain ⟨a, vs, ns, rfl, rfl, hobj, hints, hlen⟩ := script_of hn hpre hwl
  have hb : ∀ i ∈ ns, Builtin.Int.intBits i <= 2 ^ 20 := by
    have h1 : WData.layable (.list (ns.map WData.int)) = true := by
      have := hlay
      unfold WData.layableAll at this
      exact List.all_eq_true.mp this _ List.mem_cons_self
    have h2 : WData.weight (.list (ns.map WData.int)) <= 2 ^ 20 := of_decide_eq_true (Bool.and_eq_true_iff.mp h1).2
    exact bits_all ns (by simpa only [WData.weight] using h2)
  refine enter_call (codeAny_mono (call w s₀ s₁ mg mb fa o pm cd doc a vs ns G Y ho (fd_plain hd) hcd hmg hobj hints hlen hb hg) fun r s' hq => ?_)
  obtain ⟨rfl, h2, h3, h4⟩ := hq
  exact ⟨.inl ⟨.bool true, .bool true, [], rfl, fun _ => rfl, .bool true, post_true l _, fun _ => ⟨List.Pairwise.nil, fun _ hm => (nomatch hm)⟩⟩, h2, h3, h4⟩
end Att
namespace L2
open PySem PySem.Spec PyProof.Rows
theorem walk_ofB {l : PySem.W.OpenLaw} {n k : Nat} {q : Program} {loose : List Str} {XP : (Str -> Option Value) -> Heap -> Prop} {YP : World -> Heap -> Prop} {d : DefRec} {K : Params -> PySem.W.Frag} {CX : World -> CXT} {sp : PySem.W.Frag -> Sp} {x : Str}
    (hn : l.most = some n) (hn2 : n <= sizeLine) (hdf : d.params.defaults = []) (hr : Room k callerA)
    (hY : ∀ (w : World) (h : Heap), YP w h -> (K w.params).In h)
    (F : ∀ (w : World) (mg : Str -> Option Value) (fa : Addr) (h : Heap), (K w.params).In h -> h.Ns mainGlobals mg -> mg d.name = some (.ref fa) ->
      ∃ fd : FuncData, (∀ (s : Shared) (u : Value), BindsTo s fd ⟨[u], []⟩ [(x, u)]) /\
        ∀ base : Heap, (K w.params).In base -> base.Ns mainGlobals mg -> FnOk l.prog w (K w.params) mg base (CX w) k fa fd [x] (sp (K w.params)))
    (hsp : ∀ (K : PySem.W.Frag) (H : Hp) (a : Addr) (ns : List Int), ns.length <= n -> (∀ i ∈ ns, Builtin.Int.intBits i <= 2 ^ 20) -> Only H -> SqL K H a (ns.map V.int) -> sp K [.ref a] H (fun v _ => v = .bl true) fun _ _ _ => False)
    (hCX : ∀ (w : World) (H : Hp) (s : Shared) (e : Value) (s' : Shared), CX w [] H s (fun _ _ _ => False) e s' -> False) :
    PySem.W.WalkO q loose XP YP l.row.toRowW d [] (fun f vs => PySem.call f vs) := by
  refine Att.attach_callB hn hdf fun w s₀ s₁ mg mb fa o pm cd doc a vs ns G Y ho hd hcd hmg hobj hints hlen hb hg => ?_
  have KX := hY w _ Y
  obtain ⟨fd, hbd, hF⟩ := F w mg fa _ KX G.T.g hmg
  exact law_call KX G.T.g G.T.b G.T.builtins G.T.nolimit hg hobj hints (Nat.le_trans hlen hn2) hr hF hbd (fun H hO hS => hsp _ H a ns hlen hb hO hS) fun H e s' => hCX w H s₁ e s'
section
variable {X : Cx}
theorem op_mulB : OpR X (binaryOp .Mult) (rI IntMulOk fun i j => .int (i * j)) := opI fun _ _ _ _ _ _ _ hc q => mul_int q hc
end
end L2
end
section
namespace L2
open PySem PySem.Spec PyProof.Rows
section
variable {X : Cx}
end
theorem same_upd {H : Hp} {p : Addr} (h : H p = none) (o : HO) : Same H (upd H p o) := fun b u q => by rw [upd_ne (ne_of_none q h)]; exact q
theorem Same.updL {H H' : Hp} {p : Addr} (s : Same H H') (h : H p = none) (o : HO) : Same H (upd H' p o) := fun b u q => by rw [upd_ne (ne_of_none q h)]; exact s b u q
theorem Same.seqT {K : PySem.W.Frag} {H H' : Hp} {a : Addr} {xs : List V} (e : Same H H') (h : SqT K H a xs) : SqT K H' a xs := by
  rcases h with (h | ⟨o, h⟩) | h
  . exact .inl (.inl (e _ _ h))
  . exact .inl (.inr ⟨o, e _ _ h⟩)
  . exact .inr h
end L2
namespace L2
open PySem PySem.Spec PyProof.Rows
def FoR (J : It) (g : TG) (tb : TS) (D : Ends) (σ : St) (H1 : Hp) : Prop := ∃ W : Nat -> Nat -> St -> Hp -> Prop, (∃ m, W 0 m σ H1) /\ ∀ i m σ H, W i m σ H ->
  (J.stop i H /\ D.nx σ H) \/ (J.go i H /\ ∃ N : St -> Hp -> Prop, (∀ σ' H', N σ' H' -> ∃ m', m' < m /\ W (i + 1) m' σ' H') /\ ∀ x H', J.yld i H x H' -> g x σ H' fun σ2 H2 => tb { D with nx := N, ct := N, bk := D.nx } σ2 H2)
def LcR (J : It) (tt : TT) (te : TE) (σ : St) (Q : VK) (H1 : Hp) : Prop := ∀ D, H1 D = none -> ∃ W : Nat -> Nat -> List V -> Hp -> Prop, (∃ m, W 0 m [] (upd H1 D (.lst []))) /\ ∀ i m ys H, W i m ys H ->
  H D = some (.lst ys) /\ ((J.stop i H /\ Q (.ref D) H) \/ (J.go i H /\ ys.length < sizeLine /\ ∀ x H', J.yld i H x H' -> tt (some x :: σ) H' fun b H2 => if b = true then te (some x :: σ) H2 fun v H3 =>
    H3 D = some (.lst ys) /\ ∃ m', m' < m /\ W (i + 1) m' (ys ++ [v]) (upd H3 D (.lst (ys ++ [v]))) else ∃ m', m' < m /\ W (i + 1) m' ys H2))
theorem tFor_rng1 {ta : TA} {g : TG} {tb : TS} {D : Ends} {σ : St} {H : Hp} : tFor (iRng1 ta) g tb D σ H = ta σ H fun vs H1 => ∃ j : Int, vs = [.int j] /\ -(2 ^ 62) <= j /\ j < 2 ^ 62 /\ FoR (Itr 0 j.toNat) g tb D σ H1 := rfl
theorem tFor_rng2 {ta : TA} {g : TG} {tb : TS} {D : Ends} {σ : St} {H : Hp} : tFor (iRng2 ta) g tb D σ H = ta σ H fun vs H1 => ∃ i j : Int, vs = [.int i, .int j] /\ (-(2 ^ 62) <= i /\ i < 2 ^ 62 /\ -(2 ^ 62) <= j /\ j < 2 ^ 62) /\ FoR (Itr i (j - i).toNat) g tb D σ H1 := rfl
theorem tFor_list {K : PySem.W.Frag} {tl : TE} {g : TG} {tb : TS} {D : Ends} {σ : St} {H : Hp} : tFor (iList K tl) g tb D σ H = tl σ H fun x H1 => ∃ a, x = .ref a /\ (∃ xs, SqL K H1 a xs) /\ FoR (Itl K a) g tb D σ H1 := rfl
theorem tFor_tup {K : PySem.W.Frag} {tl : TE} {g : TG} {tb : TS} {D : Ends} {σ : St} {H : Hp} : tFor (iTup K tl) g tb D σ H = tl σ H fun x H1 => ∃ a, x = .ref a /\ (∃ xs, SqT K H1 a xs) /\ FoR (Itt K a) g tb D σ H1 := rfl
theorem tFor_str {tl : TE} {g : TG} {tb : TS} {D : Ends} {σ : St} {H : Hp} : tFor (iStr tl) g tb D σ H = tl σ H fun x H1 => ∃ z, x = .str z /\ FoR (Its z) g tb D σ H1 := rfl
theorem tLc_rng1 {ta : TA} {tt : TT} {te : TE} {σ : St} {H : Hp} {Q : VK} : tLc (iRng1 ta) tt te σ H Q = ta σ H fun vs H1 => ∃ j : Int, vs = [.int j] /\ -(2 ^ 62) <= j /\ j < 2 ^ 62 /\ LcR (Itr 0 j.toNat) tt te σ Q H1 := rfl
theorem tLc_list {K : PySem.W.Frag} {tl : TE} {tt : TT} {te : TE} {σ : St} {H : Hp} {Q : VK} : tLc (iList K tl) tt te σ H Q = tl σ H fun x H1 => ∃ a, x = .ref a /\ (∃ xs, SqL K H1 a xs) /\ LcR (Itl K a) tt te σ Q H1 := rfl
theorem tLc_tup {K : PySem.W.Frag} {tl : TE} {tt : TT} {te : TE} {σ : St} {H : Hp} {Q : VK} : tLc (iTup K tl) tt te σ H Q = tl σ H fun x H1 => ∃ a, x = .ref a /\ (∃ xs, SqT K H1 a xs) /\ LcR (Itt K a) tt te σ Q H1 := rfl
theorem tLc_str {tl : TE} {tt : TT} {te : TE} {σ : St} {H : Hp} {Q : VK} : tLc (iStr tl) tt te σ H Q = tl σ H fun x H1 => ∃ z, x = .str z /\ LcR (Its z) tt te σ Q H1 := rfl
theorem foR_range {lo : Int} {n : Nat} {g : TG} {tb : TS} {D : Ends} {σ : St} {H : Hp} (Pv : Nat -> St -> Hp -> Prop) (h0 : Pv 0 σ H)
    (hs : ∀ i σ H, i < n -> Pv i σ H -> g (.int (lo + i)) σ H fun σ2 H2 => tb { D with nx := Pv (i + 1), ct := Pv (i + 1), bk := D.nx } σ2 H2) (hd : ∀ σ H, Pv n σ H -> D.nx σ H) : FoR (Itr lo n) g tb D σ H := for_range Pv h0 hs hd
theorem foR_list {K : PySem.W.Frag} {a : Addr} (xs : List V) {g : TG} {tb : TS} {D : Ends} {σ : St} {H : Hp} (Pv : Nat -> St -> Hp -> Prop) (h0 : Pv 0 σ H) (hl : ∀ i σ H, i <= xs.length -> Pv i σ H -> SqL K H a xs)
    (hs : ∀ i x σ H, xs[i]? = some x -> Pv i σ H -> g x σ H fun σ2 H2 => tb { D with nx := Pv (i + 1), ct := Pv (i + 1), bk := D.nx } σ2 H2) (hd : ∀ σ H, Pv xs.length σ H -> D.nx σ H) : FoR (Itl K a) g tb D σ H := for_list Pv h0 hl hs hd
end L2
end
section
namespace SortT
open PySem PySem.W PyProof.Rows
def K (r : Nat -> Nat) (p : Array Nat) (i : Nat) : Nat := r (p.getD i 0)
structure Ok (n : Nat) (p : Array Nat) : Prop where
  size : p.size = n
  perm : p.Perm (List.range n).toArray
theorem Ok.lt {n : Nat} {p : Array Nat} (h : Ok n p) (hn : 0 < n) (i : Nat) : p.getD i 0 < n := by
  rw [Array.getD_eq_getD_getElem?]
  cases e : p[i]? with
  | none => exact hn
  | some x =>
    have hx : x ∈ p := Array.mem_of_getElem? e
    have := (h.perm.mem_iff (a := x)).mp hx
    simpa using this
def Up (r : Nat -> Nat) (p : Array Nat) (m : Nat) : Prop := ∀ i j, i <= j -> j < m -> K r p i <= K r p j
variable {n : Nat} {r : Nat -> Nat}
end SortT
end
section
namespace SortB
open PySem PySem.W PyProof.Rows
def gallop' : Bool -> Keyed -> Array Keyed -> Nat -> Nat -> Nat -> StateT SortSt Sem (Option Nat) := sortPriv% PySem.Builtin.gallop
def mergeLo' : Array Keyed -> Array Keyed -> StateT SortSt Sem (Array Keyed) := sortPriv% PySem.Builtin.mergeLo
def mergeHi' : Array Keyed -> Array Keyed -> StateT SortSt Sem (Array Keyed) := sortPriv% PySem.Builtin.mergeHi
def K (rk : Keyed -> Nat) (a : Array Keyed) (i : Nat) : Nat := match a[i]? with | some p => rk p | none => 0
theorem K_get {rk : Keyed -> Nat} {a : Array Keyed} {i : Nat} (h : i < a.size) : K rk a i = rk a[i] := by unfold K; rw [getElem?_pos a i h]
theorem K_of {rk : Keyed -> Nat} {a b : Array Keyed} {i j : Nat} (h : a[i]? = b[j]?) : K rk a i = K rk b j := by unfold K; rw [h]
section
variable {prog : Program} {w : World} {A : Around} {E : Value -> Shared -> Prop} {s : Shared} {κ : SortKind} {rk : Keyed -> Nat} {S : Keyed -> Prop}
def LtOk (prog : Program) (w : World) (A : Around) (E : Value -> Shared -> Prop) (s : Shared) (κ : SortKind) (rk : Keyed -> Nat) (S : Keyed -> Prop) : Prop :=
  ∀ x y (st : SortSt) (Q : Option Bool -> SortSt -> Prop), kindOf st = κ -> S x -> S y -> Q (some (decide (rk x < rk y))) st -> wpS (model prog w) A E s (lt' x y) Q st
theorem wpS_elem {a : Array Keyed} {i : Nat} {st : SortSt} {Q : Keyed -> SortSt -> Prop} (hi : i < a.size) (h : Q a[i] st) : wpS (model prog w) A E s (elem' a i) Q st := by
  rw [elem'_eq, getElem?_pos a i hi]; exact wpS_pure h
theorem wpS_at (L : LtOk prog w A E s κ rk S) {st : SortSt} {i j : Nat} {Q : Option Bool -> SortSt -> Prop} (hk : kindOf st = κ) (hS : ∀ x ∈ arrOf st, S x) (hi : i < (arrOf st).size) (hj : j < (arrOf st).size)
    (h : Q (some (decide (K rk (arrOf st) i < K rk (arrOf st) j))) st) : wpS (model prog w) A E s (ltAt' i j) Q st := by
  rw [ltAt'_eq]
  refine wpS_bind (wpS_get (wpS_bind (wpS_elem hi (wpS_bind (wpS_elem hj ?_)))))
  rw [K_get hi, K_get hj] at h
  exact L _ _ st Q hk (hS _ (Array.getElem_mem hi)) (hS _ (Array.getElem_mem hj)) h
def bey (rk : Keyed -> Nat) (left : Bool) (key : Keyed) (arr : Array Keyed) (bs i : Nat) : Bool := if left = true then decide (K rk arr (bs + i) < rk key) else !decide (rk key < K rk arr (bs + i))
theorem byd_ok (L : LtOk prog w A E s κ rk S) {st : SortSt} {left : Bool} {key : Keyed} {arr : Array Keyed} {bs i : Nat} {Q : Option Bool -> SortSt -> Prop} (hk : kindOf st = κ) (hS : ∀ x ∈ arr, S x) (hkey : S key) (hi : bs + i < arr.size)
    (h : Q (some (bey rk left key arr bs i)) st) : wpS (model prog w) A E s (elem' arr (bs + i) >>= fun x => if left = true then lt' x key else (lt' key x >>= fun r => pure (Option.map (fun b => !b) r))) Q st := by
  refine wpS_bind (wpS_elem hi ?_)
  have hx := hS _ (Array.getElem_mem hi)
  unfold bey at h
  rw [K_get hi] at h
  cases left with
  | true =>
    simp only [if_true] at h ⊢
    exact L _ _ st Q hk hx hkey h
  | false =>
    simp only [Bool.false_eq_true, if_false] at h ⊢
    exact wpS_bind (L _ _ st _ hk hkey hx (wpS_pure h))
theorem gallop_ok (L : LtOk prog w A E s κ rk S) {st : SortSt} {left : Bool} {key : Keyed} {arr : Array Keyed} {bs n hint : Nat} {Q : Option Nat -> SortSt -> Prop} (hk : kindOf st = κ) (hS : ∀ x ∈ arr, S x) (hkey : S key) (hb : bs + n <= arr.size) (hh : hint < n)
    (mono : ∀ i j, i <= j -> j < n -> bey rk left key arr bs j = true -> bey rk left key arr bs i = true)
    (h : ∀ k, k <= n -> (∀ i, i < k -> bey rk left key arr bs i = true) -> (∀ i, k <= i -> i < n -> bey rk left key arr bs i = false) -> Q (some k) st) : wpS (model prog w) A E s (gallop' left key arr bs n hint) Q st := by
  have monf : ∀ i j, i <= j -> j < n -> bey rk left key arr bs i = false -> bey rk left key arr bs j = false := fun i j hij hj e => by
    cases q : bey rk left key arr bs j with
    | false => rfl
    | true => rw [mono i j hij hj q] at e; cases e
  refine wpS_bind (byd_ok L hk hS hkey (by omega) ?_)
  dsimp only
  cases e0 : bey rk left key arr bs hint with
  | true =>
    rw [if_pos rfl]
    refine wpS_bind (wpS_mono (wpS_forRange (I := fun x c st' => st' = st /\ ∃ l o, c = (none, l, o) /\ l < o /\ x < o /\ l + 1 <= n - hint /\ bey rk left key arr bs (hint + l) = true)
      (Q := fun c st' => st' = st /\ ∃ l o, c = (none, l, o) /\ l < o /\ l + 1 <= n - hint /\ bey rk left key arr bs (hint + l) = true /\ (o < n - hint -> bey rk left key arr bs (hint + o) = false)) ?step ?fin ⟨rfl, 0, 1, rfl, by omega, by omega, by omega, e0⟩) ?post)
    case step =>
      rintro x c st' _ hx ⟨rfl, l, o, rfl, h1, h2, h3, h4⟩
      dsimp only
      by_cases hge : o >= n - hint
      . rw [if_pos hge]
        exact wpS_pure ⟨rfl, l, o, rfl, h1, h3, h4, fun z => absurd z (by omega)⟩
      . rw [if_neg hge]
        refine wpS_bind (byd_ok L hk hS hkey (by omega) ?_)
        cases e1 : bey rk left key arr bs (hint + o) with
        | true => exact wpS_pure ⟨rfl, o, 2 * o + 1, rfl, by omega, by omega, by omega, e1⟩
        | false => exact wpS_pure ⟨rfl, l, o, rfl, h1, h3, h4, fun _ => e1⟩
    case fin =>
      rintro c st' ⟨rfl, l, o, rfl, h1, h2, h3, h4⟩
      exact ⟨rfl, l, o, rfl, h1, h3, h4, fun z => absurd z (by omega)⟩
    case post =>
      rintro c st'' ⟨rfl, l, o, rfl, h1, h3, h4, h5⟩
      have a1 : ∀ i, i < hint + l + 1 -> bey rk left key arr bs i = true := fun i hi => mono i (hint + l) (by omega) (by omega) h4
      have a2 : ∀ i, hint + min o (n - hint) <= i -> i < n -> bey rk left key arr bs i = false := fun i hi hn => monf (hint + o) i (by omega) hn (h5 (by omega))
      have a3 : hint + l + 1 <= hint + min o (n - hint) := by omega
      have a4 : hint + min o (n - hint) <= n := by omega
      dsimp only
      generalize hint + l + 1 = lo at a1 a2 a3 a4 ⊢
      generalize hint + min o (n - hint) = hi at a1 a2 a3 a4 ⊢
      refine wpS_bind (wpS_mono (wpS_forRange (I := fun x c st' => st' = st'' /\ ∃ lo hi, c = (none, lo, hi) /\ lo <= hi /\ hi <= n /\ hi - lo <= n - x /\ (∀ i, i < lo -> bey rk left key arr bs i = true) /\ ∀ i, hi <= i -> i < n -> bey rk left key arr bs i = false)
        (Q := fun c st' => st' = st'' /\ ∃ hi, c = (none, hi, hi) /\ hi <= n /\ (∀ i, i < hi -> bey rk left key arr bs i = true) /\ ∀ i, hi <= i -> i < n -> bey rk left key arr bs i = false) ?_ ?_ ⟨rfl, lo, hi, rfl, a3, a4, by omega, a1, a2⟩) ?_)
      . rintro x c st' _ hx ⟨rfl, lo, hi, rfl, b1, b2, b3, b4, b5⟩
        dsimp only
        by_cases hge : lo >= hi
        . rw [if_pos hge]
          have : lo = hi := by omega
          subst this
          exact wpS_pure ⟨rfl, lo, rfl, b2, b4, b5⟩
        . rw [if_neg hge]
          refine wpS_bind (byd_ok L hk hS hkey (by omega) ?_)
          cases e1 : bey rk left key arr bs (lo + (hi - lo) / 2) with
          | true => exact wpS_pure ⟨rfl, _, hi, rfl, by omega, b2, by omega, fun i hi' => mono i _ (by omega) (by omega) e1, b5⟩
          | false => exact wpS_pure ⟨rfl, lo, _, rfl, by omega, by omega, by omega, b4, fun i h1 h2 => monf _ i h1 h2 e1⟩
      . rintro c st' ⟨rfl, lo, hi, rfl, b1, b2, b3, b4, b5⟩
        have : lo = hi := by omega
        subst this
        exact ⟨rfl, lo, rfl, b2, b4, b5⟩
      . rintro c st' ⟨rfl, hi, rfl, b2, b4, b5⟩
        exact wpS_pure (h hi b2 b4 b5)
  | false =>
    rw [if_neg (by simp)]
    refine wpS_bind (wpS_mono (wpS_forRange (I := fun x c st' => st' = st /\ ∃ l o, c = (none, l, o) /\ l < o /\ x < o /\ l <= hint /\ bey rk left key arr bs (hint - l) = false)
      (Q := fun c st' => st' = st /\ ∃ l o, c = (none, l, o) /\ l < o /\ l <= hint /\ bey rk left key arr bs (hint - l) = false /\ (o < hint + 1 -> bey rk left key arr bs (hint - o) = true)) ?step ?fin ⟨rfl, 0, 1, rfl, by omega, by omega, by omega, e0⟩) ?post)
    case step =>
      rintro x c st' _ hx ⟨rfl, l, o, rfl, h1, h2, h3, h4⟩
      dsimp only
      by_cases hge : o >= hint + 1
      . rw [if_pos hge]
        exact wpS_pure ⟨rfl, l, o, rfl, h1, h3, h4, fun z => absurd z (by omega)⟩
      . rw [if_neg hge]
        refine wpS_bind (byd_ok L hk hS hkey (by omega) ?_)
        cases e1 : bey rk left key arr bs (hint - o) with
        | true => exact wpS_pure ⟨rfl, l, o, rfl, h1, h3, h4, fun _ => e1⟩
        | false => exact wpS_pure ⟨rfl, o, 2 * o + 1, rfl, by omega, by omega, by omega, e1⟩
    case fin =>
      rintro c st' ⟨rfl, l, o, rfl, h1, h2, h3, h4⟩
      exact ⟨rfl, l, o, rfl, h1, h3, h4, fun z => absurd z (by omega)⟩
    case post =>
      rintro c st'' ⟨rfl, l, o, rfl, h1, h3, h4, h5⟩
      have a1 : ∀ i, i < hint + 1 - min o (hint + 1) -> bey rk left key arr bs i = true := fun i hi => mono i (hint - o) (by omega) (by omega) (h5 (by omega))
      have a2 : ∀ i, hint - l <= i -> i < n -> bey rk left key arr bs i = false := fun i hi hn => monf (hint - l) i hi hn h4
      have a3 : hint + 1 - min o (hint + 1) <= hint - l := by omega
      have a4 : hint - l <= n := by omega
      dsimp only
      generalize hint + 1 - min o (hint + 1) = lo at a1 a2 a3 a4 ⊢
      generalize hint - l = hi at a1 a2 a3 a4 ⊢
      refine wpS_bind (wpS_mono (wpS_forRange (I := fun x c st' => st' = st'' /\ ∃ lo hi, c = (none, lo, hi) /\ lo <= hi /\ hi <= n /\ hi - lo <= n - x /\ (∀ i, i < lo -> bey rk left key arr bs i = true) /\ ∀ i, hi <= i -> i < n -> bey rk left key arr bs i = false)
        (Q := fun c st' => st' = st'' /\ ∃ hi, c = (none, hi, hi) /\ hi <= n /\ (∀ i, i < hi -> bey rk left key arr bs i = true) /\ ∀ i, hi <= i -> i < n -> bey rk left key arr bs i = false) ?_ ?_ ⟨rfl, lo, hi, rfl, a3, a4, by omega, a1, a2⟩) ?_)
      . rintro x c st' _ hx ⟨rfl, lo, hi, rfl, b1, b2, b3, b4, b5⟩
        dsimp only
        by_cases hge : lo >= hi
        . rw [if_pos hge]
          have : lo = hi := by omega
          subst this
          exact wpS_pure ⟨rfl, lo, rfl, b2, b4, b5⟩
        . rw [if_neg hge]
          refine wpS_bind (byd_ok L hk hS hkey (by omega) ?_)
          cases e1 : bey rk left key arr bs (lo + (hi - lo) / 2) with
          | true => exact wpS_pure ⟨rfl, _, hi, rfl, by omega, b2, by omega, fun i hi' => mono i _ (by omega) (by omega) e1, b5⟩
          | false => exact wpS_pure ⟨rfl, lo, _, rfl, by omega, by omega, by omega, b4, fun i h1 h2 => monf _ i h1 h2 e1⟩
      . rintro c st' ⟨rfl, lo, hi, rfl, b1, b2, b3, b4, b5⟩
        have : lo = hi := by omega
        subst this
        exact ⟨rfl, lo, rfl, b2, b4, b5⟩
      . rintro c st' ⟨rfl, hi, rfl, b2, b4, b5⟩
        exact wpS_pure (h hi b2 b4 b5)
end
end SortB
end
section
namespace SortB
open PySem PySem.W PyProof.Rows
abbrev Rs (rk : Keyed -> Nat) (l : List Keyed) : Prop := l.Pairwise fun x y => rk x <= rk y
structure Mg (rk : Keyed -> Nat) (la lb out : List Keyed) (ia ib : Nat) : Prop where
  perm : out.Perm (la.take ia ++ lb.take ib)
  pw : Rs rk out
  ra : ∀ x ∈ out, ∀ y ∈ la.drop ia, rk x <= rk y
  rb : ∀ x ∈ out, ∀ y ∈ lb.drop ib, rk x <= rk y
section
variable {rk : Keyed -> Nat} {la lb out : List Keyed} {ia ib k : Nat}
theorem drop_split (l : List Keyed) (i k : Nat) : l.drop i = (l.drop i).take k ++ l.drop (i + k) := by
  rw [<- List.drop_drop, List.take_append_drop]
theorem Mg.takeA (m : Mg rk la lb out ia ib) (pa : Rs rk la) (k : Nat) (h : ∀ x ∈ (la.drop ia).take k, ∀ y ∈ lb.drop ib, rk x <= rk y) : Mg rk la lb (out ++ (la.drop ia).take k) (ia + k) ib := by
  have pd : Rs rk (la.drop ia) := pa.sublist (List.drop_sublist _ _)
  have ps := drop_split la ia k
  refine ⟨?_, ?_, ?_, ?_⟩
  . have e : la.take (ia + k) = la.take ia ++ (la.drop ia).take k := by rw [List.take_add]
    rw [e]
    refine (m.perm.append_right _).trans ?_
    rw [List.append_assoc, List.append_assoc]
    exact (List.perm_append_comm).append_left _
  . refine List.pairwise_append.mpr ⟨m.pw, pd.sublist (List.take_sublist _ _), fun x hx y hy => m.ra x hx y (List.mem_of_mem_take hy)⟩
  . intro x hx y hy
    rcases List.mem_append.mp hx with hx | hx
    . exact m.ra x hx y (by rw [ps]; exact List.mem_append_right _ hy)
    . rw [ps] at pd
      exact (List.pairwise_append.mp pd).2.2 x hx y hy
  . intro x hx y hy
    rcases List.mem_append.mp hx with hx | hx
    . exact m.rb x hx y hy
    . exact h x hx y hy
theorem Mg.swap (m : Mg rk la lb out ia ib) : Mg rk lb la out ib ia := ⟨m.perm.trans List.perm_append_comm, m.pw, m.rb, m.ra⟩
theorem Mg.takeB (m : Mg rk la lb out ia ib) (pb : Rs rk lb) (k : Nat) (h : ∀ x ∈ (lb.drop ib).take k, ∀ y ∈ la.drop ia, rk x <= rk y) : Mg rk la lb (out ++ (lb.drop ib).take k) ia (ib + k) := (m.swap.takeA pb k h).swap
theorem Mg.done (m : Mg rk la lb out ia ib) (pa : Rs rk la) (pb : Rs rk lb) (h : ∀ x ∈ la.drop ia, ∀ y ∈ lb.drop ib, rk x <= rk y) : (out ++ la.drop ia ++ lb.drop ib).Perm (la ++ lb) /\ Rs rk (out ++ la.drop ia ++ lb.drop ib) := by
  have e1 : (la.drop ia).take la.length = la.drop ia := List.take_of_length_le (by rw [List.length_drop]; omega)
  have e2 : (lb.drop ib).take lb.length = lb.drop ib := List.take_of_length_le (by rw [List.length_drop]; omega)
  have m1 := m.takeA pa la.length (by rw [e1]; exact h)
  rw [e1] at m1
  have z : la.drop (ia + la.length) = [] := List.drop_eq_nil_of_le (by omega)
  have m2 := m1.takeB pb lb.length (by rw [z]; intro _ _ _ q; cases q)
  rw [e2] at m2
  refine ⟨?_, m2.pw⟩
  have := m2.perm
  rwa [List.take_of_length_le (by omega), List.take_of_length_le (by omega)] at this
theorem Mg.doneB (m : Mg rk la lb out ia ib) (pa : Rs rk la) (pb : Rs rk lb) (h : ∀ x ∈ lb.drop ib, ∀ y ∈ la.drop ia, rk x <= rk y) : (out ++ lb.drop ib ++ la.drop ia).Perm (la ++ lb) /\ Rs rk (out ++ lb.drop ib ++ la.drop ia) := by
  obtain ⟨a, b⟩ := m.swap.done pb pa h
  exact ⟨a.trans List.perm_append_comm, b⟩
end
section
variable {rk : Keyed -> Nat} {a : Array Keyed} {i j k n : Nat} {x : Keyed}
theorem ext_all (a : Array Keyed) (i : Nat) : (a.extract i a.size).toList = a.toList.drop i := by
  rw [Array.toList_extract, List.extract_eq_take_drop]
  exact List.take_of_length_le (by simp)
theorem ext_some (a : Array Keyed) (i j : Nat) : (a.extract i j).toList = (a.toList.drop i).take (j - i) := by
  rw [Array.toList_extract, List.extract_eq_take_drop]
theorem take_one (h : i < a.size) : (a.toList.drop i).take 1 = [a[i]] := by
  rw [List.drop_eq_getElem_cons (by simpa using h)]
  simp
theorem mem_dt (h : x ∈ (a.toList.drop i).take k) : ∃ j, j < k /\ i + j < a.size /\ rk x = K rk a (i + j) := by
  obtain ⟨j, hj, e⟩ := List.getElem_of_mem h
  have h1 : j < k /\ i + j < a.size := by
    rw [List.length_take, List.length_drop, Array.length_toList] at hj
    omega
  refine ⟨j, h1.1, h1.2, ?_⟩
  rw [K_get h1.2, <- e]
  simp
theorem mem_d (h : x ∈ a.toList.drop i) : ∃ j, i <= j /\ j < a.size /\ rk x = K rk a j := by
  obtain ⟨j, hj, e⟩ := List.getElem_of_mem h
  have h1 : i + j < a.size := by
    rw [List.length_drop, Array.length_toList] at hj
    omega
  refine ⟨i + j, by omega, h1, ?_⟩
  rw [K_get h1, <- e]
  simp
theorem Rs.le (h : Rs rk a.toList) (hij : i <= j) (hj : j < a.size) : K rk a i <= K rk a j := by
  by_cases e : i = j
  . rw [e]; exact Nat.le_refl _
  . rw [K_get (show i < a.size by omega), K_get hj]
    have := List.pairwise_iff_getElem.mp h i j (by simp; omega) (by simp; omega) (by omega)
    simpa using this
end
abbrev setG (st : SortSt) (g : Nat) : SortSt := SortSt.mk' (kindOf st) (arrOf st) (pendingOf st) g (failedOf st)
section
variable {prog : Program} {w : World} {A : Around} {E : Value -> Shared -> Prop} {s : Shared} {κ : SortKind} {rk : Keyed -> Nat} {S : Keyed -> Prop}
theorem galR (L : LtOk prog w A E s κ rk S) {st : SortSt} {key : Keyed} {arr : Array Keyed} {bs n hint : Nat} {Q : Option Nat -> SortSt -> Prop} (hk : kindOf st = κ) (hS : ∀ x ∈ arr, S x) (hkey : S key) (hb : bs + n <= arr.size) (hh : hint < n)
    (up : ∀ i j, bs <= i -> i <= j -> j < bs + n -> K rk arr i <= K rk arr j)
    (h : ∀ k, k <= n -> (∀ i, i < k -> K rk arr (bs + i) <= rk key) -> (∀ i, k <= i -> i < n -> rk key < K rk arr (bs + i)) -> Q (some k) st) : wpS (model prog w) A E s (gallop' false key arr bs n hint) Q st := by
  have e : ∀ i, bey rk false key arr bs i = !decide (rk key < K rk arr (bs + i)) := fun i => by unfold bey; rw [if_neg (by simp)]
  refine gallop_ok L hk hS hkey hb hh (fun i j hij hj => ?_) fun k hk1 h1 h2 => h k hk1 (fun i hi => ?_) fun i hi hn => ?_
  . rw [e, e]
    have := up (bs + i) (bs + j) (by omega) (by omega) (by omega)
    simp only [Bool.not_eq_true', decide_eq_false_iff_not]
    omega
  . have := h1 i hi
    rw [e] at this
    simp only [Bool.not_eq_true', decide_eq_false_iff_not] at this
    omega
  . have := h2 i hi hn
    rw [e] at this
    simpa using this
theorem galL (L : LtOk prog w A E s κ rk S) {st : SortSt} {key : Keyed} {arr : Array Keyed} {bs n hint : Nat} {Q : Option Nat -> SortSt -> Prop} (hk : kindOf st = κ) (hS : ∀ x ∈ arr, S x) (hkey : S key) (hb : bs + n <= arr.size) (hh : hint < n)
    (up : ∀ i j, bs <= i -> i <= j -> j < bs + n -> K rk arr i <= K rk arr j)
    (h : ∀ k, k <= n -> (∀ i, i < k -> K rk arr (bs + i) < rk key) -> (∀ i, k <= i -> i < n -> rk key <= K rk arr (bs + i)) -> Q (some k) st) : wpS (model prog w) A E s (gallop' true key arr bs n hint) Q st := by
  have e : ∀ i, bey rk true key arr bs i = decide (K rk arr (bs + i) < rk key) := fun i => by unfold bey; rw [if_pos rfl]
  refine gallop_ok L hk hS hkey hb hh (fun i j hij hj => ?_) fun k hk1 h1 h2 => h k hk1 (fun i hi => ?_) fun i hi hn => ?_
  . rw [e, e]
    have := up (bs + i) (bs + j) (by omega) (by omega) (by omega)
    simp only [decide_eq_true_eq]
    omega
  . have := h1 i hi
    rw [e] at this
    simpa using this
  . have := h2 i hi hn
    rw [e] at this
    simpa using this
theorem mergeLo_ok (L : LtOk prog w A E s κ rk S) {st : SortSt} {a b : Array Keyed} {Q : Array Keyed -> SortSt -> Prop} (hk : kindOf st = κ) (hSa : ∀ x ∈ a, S x) (hSb : ∀ x ∈ b, S x) (na : 0 < a.size) (nb : 0 < b.size) (pa : Rs rk a.toList) (pb : Rs rk b.toList)
    (h0 : K rk b 0 <= K rk a 0) (hl : ∀ i, i < b.size -> K rk b i < K rk a (a.size - 1)) (h : ∀ out g, out.toList.Perm (a.toList ++ b.toList) -> Rs rk out.toList -> Q out (setG st g)) : wpS (model prog w) A E s (mergeLo' a b) Q st := by
  have ua : ∀ i j, i <= j -> j < a.size -> K rk a i <= K rk a j := fun i j h1 h2 => pa.le h1 h2
  have ub : ∀ i j, i <= j -> j < b.size -> K rk b i <= K rk b j := fun i j h1 h2 => pb.le h1 h2
  have m0 : Mg rk a.toList b.toList (#[b[0]] : Array Keyed).toList 0 1 := by
    have e1 : b.toList.take 1 = [b[0]] := by have := take_one nb; simpa using this
    refine ⟨by rw [e1]; simp, by simp, fun x hx y hy => ?_, fun x hx y hy => ?_⟩
    . obtain ⟨j, _, hj, e⟩ := mem_d (rk := rk) hy
      have : x = b[0] := by simpa using hx
      rw [this, e, <- K_get (rk := rk) nb]
      exact Nat.le_trans h0 (ua 0 j (by omega) hj)
    . obtain ⟨j, _, hj, e⟩ := mem_d (rk := rk) hy
      have : x = b[0] := by simpa using hx
      rw [this, e, <- K_get (rk := rk) nb]
      exact ub 0 j (by omega) hj
  have done : ∀ (out : Array Keyed) (ia ib : Nat), Mg rk a.toList b.toList out.toList ia ib -> ib = b.size -> (out ++ a.extract ia a.size ++ b.extract ib b.size).toList.Perm (a.toList ++ b.toList) /\ Rs rk (out ++ a.extract ia a.size ++ b.extract ib b.size).toList := fun out ia ib m e => by
    rw [Array.toList_append, Array.toList_append, ext_all, ext_all]
    exact m.done pa pb fun x _ y hy => by
      obtain ⟨j, h1, h2, _⟩ := mem_d (rk := rk) hy
      omega
  have lastA : ∀ (out : Array Keyed) (ia ib : Nat), Mg rk a.toList b.toList out.toList ia ib -> ia + 1 = a.size -> (out ++ b.extract ib b.size ++ a.extract ia a.size).toList.Perm (a.toList ++ b.toList) /\ Rs rk (out ++ b.extract ib b.size ++ a.extract ia a.size).toList := fun out ia ib m e => by
    rw [Array.toList_append, Array.toList_append, ext_all, ext_all]
    exact m.doneB pa pb fun x hx y hy => by
      obtain ⟨j, h1, h2, e1⟩ := mem_d (rk := rk) hx
      obtain ⟨i, h3, h4, e2⟩ := mem_d (rk := rk) hy
      have : i = a.size - 1 := by omega
      rw [e1, e2, this]
      exact Nat.le_of_lt (hl j h2)
  have pushA : ∀ (out : Array Keyed) (ia ib : Nat) (hi : ia < a.size), Mg rk a.toList b.toList out.toList ia ib -> (ib < b.size -> K rk a ia <= K rk b ib) -> Mg rk a.toList b.toList (out.push a[ia]).toList (ia + 1) ib := fun out ia ib hi m hle => by
    have := m.takeA pa 1 fun x hx y hy => by
      obtain ⟨j, h1, h2, e1⟩ := mem_dt (rk := rk) hx
      obtain ⟨i, h3, h4, e2⟩ := mem_d (rk := rk) hy
      have : j = 0 := by omega
      subst this
      rw [e1, e2]
      exact Nat.le_trans (hle (by omega)) (ub ib i h3 h4)
    rwa [take_one hi, <- Array.toList_push] at this
  have pushB : ∀ (out : Array Keyed) (ia ib : Nat) (hi : ib < b.size), Mg rk a.toList b.toList out.toList ia ib -> (ia < a.size -> K rk b ib <= K rk a ia) -> Mg rk a.toList b.toList (out.push b[ib]).toList ia (ib + 1) := fun out ia ib hi m hle => by
    have := m.takeB pb 1 fun x hx y hy => by
      obtain ⟨j, h1, h2, e1⟩ := mem_dt (rk := rk) hx
      obtain ⟨i, h3, h4, e2⟩ := mem_d (rk := rk) hy
      have : j = 0 := by omega
      subst this
      rw [e1, e2]
      exact Nat.le_trans (hle (by omega)) (ua ia i h3 h4)
    rwa [take_one hi, <- Array.toList_push] at this
  refine wpS_bind (wpS_lift (wpAny_rule ⟨rfl, ?_⟩))
  refine wpS_bind (wpS_elem nb ?_)
  dsimp only
  by_cases hb1 : 1 = b.size
  . rw [if_pos (by simpa using hb1)]
    obtain ⟨p, r⟩ := done _ 0 1 m0 hb1
    exact wpS_pure (h _ (gallopOf st) p r)
  rw [if_neg (by simpa using hb1)]
  by_cases ha1 : 0 + 1 = a.size
  . rw [if_pos (by simpa using ha1)]
    obtain ⟨p, r⟩ := lastA _ 0 1 m0 ha1
    exact wpS_pure (h _ (gallopOf st) p r)
  rw [if_neg (by simpa using ha1)]
  refine wpS_bind (wpS_get (wpS_bind (wpS_mono (wpS_forRange
    (I := fun x c st' => ∃ out ia ib g g', c = (none, out, ia, ib, g) /\ st' = setG st g' /\ Mg rk a.toList b.toList (out : Array Keyed).toList ia ib /\ ia + 1 < a.size /\ ib < b.size /\ x <= ia + ib)
    (Q := fun c st' => ∃ r g' z, c = (some r, z) /\ st' = setG st g' /\ (r : Array Keyed).toList.Perm (a.toList ++ b.toList) /\ Rs rk r.toList) ?step ?fin ⟨_, 0, 1, _, gallopOf st, rfl, rfl, m0, by omega, by omega, by omega⟩) ?post)))
  case post =>
    rintro c st' ⟨r, g', z, rfl, rfl, p, q⟩
    exact wpS_pure (h r g' p q)
  case fin =>
    rintro c st' ⟨out, ia, ib, g, g', rfl, rfl, m, h1, h2, h3⟩
    omega
  case step =>
    rintro x c st' _ hx ⟨out, ia, ib, g, g', rfl, rfl, m, h1, h2, h3⟩
    dsimp only
    refine wpS_bind (wpS_mono (wpS_forRange
      (I := fun y c st' => st' = setG st g' /\ ∃ out ja jb ac bc, c = (none, out, ja, jb, ac, bc) /\ Mg rk a.toList b.toList (out : Array Keyed).toList ja jb /\ ja + 1 < a.size /\ jb < b.size /\ y + (ia + ib) <= ja + jb)
      (Q := fun c st' => st' = setG st g' /\ ((∃ out ja jb ac bc, c = (none, out, ja, jb, ac, bc) /\ Mg rk a.toList b.toList (out : Array Keyed).toList ja jb /\ ja + 1 < a.size /\ jb < b.size /\ ia + ib <= ja + jb) \/ ∃ r z, c = (some r, z) /\ (r : Array Keyed).toList.Perm (a.toList ++ b.toList) /\ Rs rk r.toList)) ?istep ?ifin ⟨rfl, out, ia, ib, 0, 0, rfl, m, h1, h2, by omega⟩) ?ipost)
    case ifin =>
      rintro c st' ⟨rfl, out, ja, jb, ac, bc, rfl, m, h4, h5, h6⟩
      omega
    case istep =>
      rintro y c st' _ hy ⟨rfl, out, ja, jb, ac, bc, rfl, m, h4, h5, h6⟩
      dsimp only
      refine wpS_bind (wpS_elem h5 (wpS_bind (wpS_elem (show ja < a.size by omega) (wpS_bind (L _ _ _ _ hk (hSb _ (Array.getElem_mem h5)) (hSa _ (Array.getElem_mem _)) ?_)))))
      by_cases hw : rk b[jb] < rk a[ja]
      . have m1 := pushB out ja jb h5 m fun _ => by rw [K_get h5, K_get (show ja < a.size by omega)]; exact Nat.le_of_lt hw
        simp only [hw, decide_true, if_true]
        refine wpS_bind (wpS_elem h5 ?_)
        by_cases he : jb + 1 = b.size
        . rw [if_pos (by simpa using he)]
          exact wpS_pure ⟨rfl, .inr ⟨_, _, rfl, done _ ja (jb + 1) m1 he⟩⟩
        . rw [if_neg (by simpa using he)]
          by_cases hc : bc + 1 >= g
          . rw [if_pos hc]
            exact wpS_pure ⟨rfl, .inl ⟨_, _, _, _, _, rfl, m1, h4, by omega, by omega⟩⟩
          . rw [if_neg hc]
            exact wpS_pure ⟨rfl, _, _, _, _, _, rfl, m1, h4, by omega, by omega⟩
      . have m1 := pushA out ja jb (by omega) m fun _ => by rw [K_get h5, K_get (show ja < a.size by omega)]; omega
        simp only [hw, decide_false, Bool.false_eq_true, if_false]
        refine wpS_bind (wpS_elem (show ja < a.size by omega) ?_)
        by_cases he : ja + 1 + 1 = a.size
        . rw [if_pos (by simpa using he)]
          exact wpS_pure ⟨rfl, .inr ⟨_, _, rfl, lastA _ (ja + 1) jb m1 he⟩⟩
        . rw [if_neg (by simpa using he)]
          by_cases hc : ac + 1 >= g
          . rw [if_pos hc]
            exact wpS_pure ⟨rfl, .inl ⟨_, _, _, _, _, rfl, m1, by omega, h5, by omega⟩⟩
          . rw [if_neg hc]
            exact wpS_pure ⟨rfl, _, _, _, _, _, rfl, m1, by omega, h5, by omega⟩
    case ipost =>
      rintro c st' ⟨rfl, ⟨out, ja, jb, ac, bc, rfl, m, h4, h5, h6⟩ | ⟨r, z, rfl, p, q⟩⟩
      . dsimp only
        refine wpS_bind (wpS_lift (wpAny_rule ⟨rfl, ?_⟩))
        refine wpS_bind (wpS_mono (wpS_forRange
          (I := fun y c st' => ∃ out ka kb g g' ac bc, c = (none, out, ka, kb, g, ac, bc) /\ st' = setG st g' /\ Mg rk a.toList b.toList (out : Array Keyed).toList ka kb /\ ka + 1 < a.size /\ kb < b.size /\ y + (ja + jb) <= ka + kb)
          (Q := fun c st' => (∃ out ka kb g g' ac bc, c = (none, out, ka, kb, g, ac, bc) /\ st' = setG st g' /\ Mg rk a.toList b.toList (out : Array Keyed).toList ka kb /\ ka + 1 < a.size /\ kb < b.size /\ ja + jb + 1 <= ka + kb) \/ ∃ r z g', c = (some r, z) /\ st' = setG st g' /\ (r : Array Keyed).toList.Perm (a.toList ++ b.toList) /\ Rs rk r.toList) ?jstep ?jfin ⟨out, ja, jb, _, g', ac, bc, rfl, rfl, m, h4, h5, by omega⟩) ?jpost)
        case jfin =>
          rintro c st' ⟨out, ka, kb, g, g', ac, bc, rfl, rfl, m, h7, h8, h9⟩
          omega
        case jpost =>
          rintro c st' (⟨out, ka, kb, g, g', ac, bc, rfl, rfl, m, h7, h8, h9⟩ | ⟨r, z, g', rfl, rfl, p, q⟩)
          . dsimp only
            refine wpS_bind (wpS_modify (wpS_pure ⟨out, ka, kb, _, g + 1, rfl, rfl, m, h7, h8, by omega⟩))
          . exact wpS_pure ⟨r, g', _, rfl, rfl, p, q⟩
        case jstep =>
          rintro y c st' _ hy ⟨out, ka, kb, g, g', ac, bc, rfl, rfl, m, h7, h8, h9⟩
          dsimp only
          by_cases hg : g > 1
          . rw [if_pos hg]
            generalize g - 1 = g1
            refine wpS_bind (wpS_modify ?_)
            refine wpS_bind (wpS_elem h8 (wpS_bind (galR L hk hSa (hSb _ (Array.getElem_mem h8)) (by omega) (by omega) (fun i j h1 h2 h3 => ua i j h2 (by omega)) fun k hkn q1 q2 => ?_)))
            dsimp only
            rw [<- K_get (rk := rk) h8] at q1 q2
            have hlt : ka + k < a.size := by
              by_cases hz : ka + k < a.size
              . exact hz
              . have z1 := q1 (a.size - 1 - ka) (by omega)
                rw [show ka + (a.size - 1 - ka) = a.size - 1 by omega] at z1
                have z2 := hl kb h8
                omega
            have m1 : Mg rk a.toList b.toList (out ++ a.extract ka (ka + k)).toList (ka + k) kb := by
              rw [Array.toList_append, ext_some, show ka + k - ka = k by omega]
              refine m.takeA pa k fun x hx y hy => ?_
              obtain ⟨j, hj1, hj2, e1⟩ := mem_dt (rk := rk) hx
              obtain ⟨i, hi1, hi2, e2⟩ := mem_d (rk := rk) hy
              rw [e1, e2]
              exact Nat.le_trans (q1 j hj1) (ub kb i hi1 hi2)
            have q3 : K rk b kb <= K rk a (ka + k) := Nat.le_of_lt (q2 k (Nat.le_refl _) (by omega))
            have q4 : k = 0 -> out ++ a.extract ka (ka + k) = out := fun e => by
              subst e; rw [Nat.add_zero, Array.extract_empty_of_stop_le_start (Nat.le_refl _)]; simp
            by_cases hk0 : k > 0
            . rw [if_pos hk0]
              by_cases he : ka + k + 1 = a.size
              . rw [if_pos (by simpa using he)]
                obtain ⟨p, r⟩ := lastA _ (ka + k) kb m1 he
                exact wpS_pure (.inr ⟨_, _, _, rfl, rfl, p, r⟩)
              rw [if_neg (by simpa using he), if_neg (by simp; omega)]
              have h10 : ka + k + 1 < a.size := by omega
              have h11 : ka <= ka + k := by omega
              generalize out ++ a.extract ka (ka + k) = out1 at m1 ⊢
              generalize ka + k = ka1 at m1 q3 h10 h11 ⊢
              clear q4 m
              refine wpS_bind (wpS_elem h8 ?_)
              have m2 := pushB out1 ka1 kb h8 m1 fun _ => q3
              by_cases he2 : kb + 1 = b.size
              . rw [if_pos (by simpa using he2)]
                obtain ⟨p, r⟩ := done _ ka1 (kb + 1) m2 he2
                exact wpS_pure (.inr ⟨_, _, _, rfl, rfl, p, r⟩)
              rw [if_neg (by simpa using he2)]
              have ha1 : ka1 < a.size := by omega
              refine wpS_bind (wpS_elem ha1 (wpS_bind (galL L hk hSb (hSa _ (Array.getElem_mem ha1)) (by omega) (by omega) (fun i j h1 h2 h3 => ub i j h2 (by omega)) fun k2 hkn2 q5 q6 => ?_)))
              dsimp only
              rw [<- K_get (rk := rk) ha1] at q5 q6
              have m3 : Mg rk a.toList b.toList (out1.push b[kb] ++ b.extract (kb + 1) (kb + 1 + k2)).toList ka1 (kb + 1 + k2) := by
                rw [Array.toList_append, ext_some, show kb + 1 + k2 - (kb + 1) = k2 by omega]
                refine m2.takeB pb k2 fun x hx y hy => ?_
                obtain ⟨j, hj1, hj2, e1⟩ := mem_dt (rk := rk) hx
                obtain ⟨i, hi1, hi2, e2⟩ := mem_d (rk := rk) hy
                rw [e1, e2]
                exact Nat.le_trans (Nat.le_of_lt (q5 j hj1)) (ua ka1 i hi1 hi2)
              have q7 : kb + 1 + k2 < b.size -> K rk a ka1 <= K rk b (kb + 1 + k2) := fun hz => q6 k2 (Nat.le_refl _) (by omega)
              have q8 : k2 = 0 -> out1.push b[kb] ++ b.extract (kb + 1) (kb + 1 + k2) = out1.push b[kb] := fun e => by
                subst e; rw [Nat.add_zero, Array.extract_empty_of_stop_le_start (Nat.le_refl _)]; simp
              by_cases hk2 : k2 > 0
              . rw [if_pos hk2]
                by_cases he3 : kb + 1 + k2 = b.size
                . rw [if_pos (by simpa using he3)]
                  obtain ⟨p, r⟩ := done _ ka1 (kb + 1 + k2) m3 he3
                  exact wpS_pure (.inr ⟨_, _, _, rfl, rfl, p, r⟩)
                rw [if_neg (by simpa using he3)]
                refine wpS_bind (wpS_elem ha1 ?_)
                have m4 := pushA _ ka1 _ ha1 m3 q7
                by_cases he4 : ka1 + 1 + 1 = a.size
                . rw [if_pos (by simpa using he4)]
                  obtain ⟨p, r⟩ := lastA _ (ka1 + 1) _ m4 he4
                  exact wpS_pure (.inr ⟨_, _, _, rfl, rfl, p, r⟩)
                rw [if_neg (by simpa using he4)]
                split
                . exact wpS_pure (.inl ⟨_, _, _, _, _, _, _, rfl, rfl, m4, by omega, by omega, by omega⟩)
                . exact wpS_pure ⟨_, _, _, _, _, _, _, rfl, rfl, m4, by omega, by omega, by omega⟩
              . rw [if_neg hk2]
                have hkz2 : k2 = 0 := by omega
                rw [q8 hkz2, hkz2, Nat.add_zero] at m3
                rw [hkz2, Nat.add_zero] at q7
                refine wpS_bind (wpS_elem ha1 ?_)
                have m4 := pushA _ ka1 _ ha1 m3 q7
                by_cases he4 : ka1 + 1 + 1 = a.size
                . rw [if_pos (by simpa using he4)]
                  obtain ⟨p, r⟩ := lastA _ (ka1 + 1) _ m4 he4
                  exact wpS_pure (.inr ⟨_, _, _, rfl, rfl, p, r⟩)
                rw [if_neg (by simpa using he4)]
                split
                . exact wpS_pure (.inl ⟨_, _, _, _, _, _, _, rfl, rfl, m4, by omega, by omega, by omega⟩)
                . exact wpS_pure ⟨_, _, _, _, _, _, _, rfl, rfl, m4, by omega, by omega, by omega⟩
            . rw [if_neg hk0]
              have hkz : k = 0 := by omega
              rw [q4 hkz, hkz, Nat.add_zero] at m1
              rw [hkz, Nat.add_zero] at q3
              have h10 : ka + 1 < a.size := by omega
              have h11 : ka <= ka := Nat.le_refl _
              clear q4 m
              generalize hout1 : out = out1 at m1 ⊢
              generalize hka1 : ka = ka1 at m1 q3 h10 ⊢
              replace h11 : ka <= ka1 := by omega
              refine wpS_bind (wpS_elem h8 ?_)
              have m2 := pushB out1 ka1 kb h8 m1 fun _ => q3
              by_cases he2 : kb + 1 = b.size
              . rw [if_pos (by simpa using he2)]
                obtain ⟨p, r⟩ := done _ ka1 (kb + 1) m2 he2
                exact wpS_pure (.inr ⟨_, _, _, rfl, rfl, p, r⟩)
              rw [if_neg (by simpa using he2)]
              have ha1 : ka1 < a.size := by omega
              refine wpS_bind (wpS_elem ha1 (wpS_bind (galL L hk hSb (hSa _ (Array.getElem_mem ha1)) (by omega) (by omega) (fun i j h1 h2 h3 => ub i j h2 (by omega)) fun k2 hkn2 q5 q6 => ?_)))
              dsimp only
              rw [<- K_get (rk := rk) ha1] at q5 q6
              have m3 : Mg rk a.toList b.toList (out1.push b[kb] ++ b.extract (kb + 1) (kb + 1 + k2)).toList ka1 (kb + 1 + k2) := by
                rw [Array.toList_append, ext_some, show kb + 1 + k2 - (kb + 1) = k2 by omega]
                refine m2.takeB pb k2 fun x hx y hy => ?_
                obtain ⟨j, hj1, hj2, e1⟩ := mem_dt (rk := rk) hx
                obtain ⟨i, hi1, hi2, e2⟩ := mem_d (rk := rk) hy
                rw [e1, e2]
                exact Nat.le_trans (Nat.le_of_lt (q5 j hj1)) (ua ka1 i hi1 hi2)
              have q7 : kb + 1 + k2 < b.size -> K rk a ka1 <= K rk b (kb + 1 + k2) := fun hz => q6 k2 (Nat.le_refl _) (by omega)
              have q8 : k2 = 0 -> out1.push b[kb] ++ b.extract (kb + 1) (kb + 1 + k2) = out1.push b[kb] := fun e => by
                subst e; rw [Nat.add_zero, Array.extract_empty_of_stop_le_start (Nat.le_refl _)]; simp
              by_cases hk2 : k2 > 0
              . rw [if_pos hk2]
                by_cases he3 : kb + 1 + k2 = b.size
                . rw [if_pos (by simpa using he3)]
                  obtain ⟨p, r⟩ := done _ ka1 (kb + 1 + k2) m3 he3
                  exact wpS_pure (.inr ⟨_, _, _, rfl, rfl, p, r⟩)
                rw [if_neg (by simpa using he3)]
                refine wpS_bind (wpS_elem ha1 ?_)
                have m4 := pushA _ ka1 _ ha1 m3 q7
                by_cases he4 : ka1 + 1 + 1 = a.size
                . rw [if_pos (by simpa using he4)]
                  obtain ⟨p, r⟩ := lastA _ (ka1 + 1) _ m4 he4
                  exact wpS_pure (.inr ⟨_, _, _, rfl, rfl, p, r⟩)
                rw [if_neg (by simpa using he4)]
                split
                . exact wpS_pure (.inl ⟨_, _, _, _, _, _, _, rfl, rfl, m4, by omega, by omega, by omega⟩)
                . exact wpS_pure ⟨_, _, _, _, _, _, _, rfl, rfl, m4, by omega, by omega, by omega⟩
              . rw [if_neg hk2]
                have hkz2 : k2 = 0 := by omega
                rw [q8 hkz2, hkz2, Nat.add_zero] at m3
                rw [hkz2, Nat.add_zero] at q7
                refine wpS_bind (wpS_elem ha1 ?_)
                have m4 := pushA _ ka1 _ ha1 m3 q7
                by_cases he4 : ka1 + 1 + 1 = a.size
                . rw [if_pos (by simpa using he4)]
                  obtain ⟨p, r⟩ := lastA _ (ka1 + 1) _ m4 he4
                  exact wpS_pure (.inr ⟨_, _, _, rfl, rfl, p, r⟩)
                rw [if_neg (by simpa using he4)]
                split
                . exact wpS_pure (.inl ⟨_, _, _, _, _, _, _, rfl, rfl, m4, by omega, by omega, by omega⟩)
                . exact wpS_pure ⟨_, _, _, _, _, _, _, rfl, rfl, m4, by omega, by omega, by omega⟩
          . rw [if_neg hg]
            generalize g = g1
            refine wpS_bind (wpS_modify ?_)
            refine wpS_bind (wpS_elem h8 (wpS_bind (galR L hk hSa (hSb _ (Array.getElem_mem h8)) (by omega) (by omega) (fun i j h1 h2 h3 => ua i j h2 (by omega)) fun k hkn q1 q2 => ?_)))
            dsimp only
            rw [<- K_get (rk := rk) h8] at q1 q2
            have hlt : ka + k < a.size := by
              by_cases hz : ka + k < a.size
              . exact hz
              . have z1 := q1 (a.size - 1 - ka) (by omega)
                rw [show ka + (a.size - 1 - ka) = a.size - 1 by omega] at z1
                have z2 := hl kb h8
                omega
            have m1 : Mg rk a.toList b.toList (out ++ a.extract ka (ka + k)).toList (ka + k) kb := by
              rw [Array.toList_append, ext_some, show ka + k - ka = k by omega]
              refine m.takeA pa k fun x hx y hy => ?_
              obtain ⟨j, hj1, hj2, e1⟩ := mem_dt (rk := rk) hx
              obtain ⟨i, hi1, hi2, e2⟩ := mem_d (rk := rk) hy
              rw [e1, e2]
              exact Nat.le_trans (q1 j hj1) (ub kb i hi1 hi2)
            have q3 : K rk b kb <= K rk a (ka + k) := Nat.le_of_lt (q2 k (Nat.le_refl _) (by omega))
            have q4 : k = 0 -> out ++ a.extract ka (ka + k) = out := fun e => by
              subst e; rw [Nat.add_zero, Array.extract_empty_of_stop_le_start (Nat.le_refl _)]; simp
            by_cases hk0 : k > 0
            . rw [if_pos hk0]
              by_cases he : ka + k + 1 = a.size
              . rw [if_pos (by simpa using he)]
                obtain ⟨p, r⟩ := lastA _ (ka + k) kb m1 he
                exact wpS_pure (.inr ⟨_, _, _, rfl, rfl, p, r⟩)
              rw [if_neg (by simpa using he), if_neg (by simp; omega)]
              have h10 : ka + k + 1 < a.size := by omega
              have h11 : ka <= ka + k := by omega
              generalize out ++ a.extract ka (ka + k) = out1 at m1 ⊢
              generalize ka + k = ka1 at m1 q3 h10 h11 ⊢
              clear q4 m
              refine wpS_bind (wpS_elem h8 ?_)
              have m2 := pushB out1 ka1 kb h8 m1 fun _ => q3
              by_cases he2 : kb + 1 = b.size
              . rw [if_pos (by simpa using he2)]
                obtain ⟨p, r⟩ := done _ ka1 (kb + 1) m2 he2
                exact wpS_pure (.inr ⟨_, _, _, rfl, rfl, p, r⟩)
              rw [if_neg (by simpa using he2)]
              have ha1 : ka1 < a.size := by omega
              refine wpS_bind (wpS_elem ha1 (wpS_bind (galL L hk hSb (hSa _ (Array.getElem_mem ha1)) (by omega) (by omega) (fun i j h1 h2 h3 => ub i j h2 (by omega)) fun k2 hkn2 q5 q6 => ?_)))
              dsimp only
              rw [<- K_get (rk := rk) ha1] at q5 q6
              have m3 : Mg rk a.toList b.toList (out1.push b[kb] ++ b.extract (kb + 1) (kb + 1 + k2)).toList ka1 (kb + 1 + k2) := by
                rw [Array.toList_append, ext_some, show kb + 1 + k2 - (kb + 1) = k2 by omega]
                refine m2.takeB pb k2 fun x hx y hy => ?_
                obtain ⟨j, hj1, hj2, e1⟩ := mem_dt (rk := rk) hx
                obtain ⟨i, hi1, hi2, e2⟩ := mem_d (rk := rk) hy
                rw [e1, e2]
                exact Nat.le_trans (Nat.le_of_lt (q5 j hj1)) (ua ka1 i hi1 hi2)
              have q7 : kb + 1 + k2 < b.size -> K rk a ka1 <= K rk b (kb + 1 + k2) := fun hz => q6 k2 (Nat.le_refl _) (by omega)
              have q8 : k2 = 0 -> out1.push b[kb] ++ b.extract (kb + 1) (kb + 1 + k2) = out1.push b[kb] := fun e => by
                subst e; rw [Nat.add_zero, Array.extract_empty_of_stop_le_start (Nat.le_refl _)]; simp
              by_cases hk2 : k2 > 0
              . rw [if_pos hk2]
                by_cases he3 : kb + 1 + k2 = b.size
                . rw [if_pos (by simpa using he3)]
                  obtain ⟨p, r⟩ := done _ ka1 (kb + 1 + k2) m3 he3
                  exact wpS_pure (.inr ⟨_, _, _, rfl, rfl, p, r⟩)
                rw [if_neg (by simpa using he3)]
                refine wpS_bind (wpS_elem ha1 ?_)
                have m4 := pushA _ ka1 _ ha1 m3 q7
                by_cases he4 : ka1 + 1 + 1 = a.size
                . rw [if_pos (by simpa using he4)]
                  obtain ⟨p, r⟩ := lastA _ (ka1 + 1) _ m4 he4
                  exact wpS_pure (.inr ⟨_, _, _, rfl, rfl, p, r⟩)
                rw [if_neg (by simpa using he4)]
                split
                . exact wpS_pure (.inl ⟨_, _, _, _, _, _, _, rfl, rfl, m4, by omega, by omega, by omega⟩)
                . exact wpS_pure ⟨_, _, _, _, _, _, _, rfl, rfl, m4, by omega, by omega, by omega⟩
              . rw [if_neg hk2]
                have hkz2 : k2 = 0 := by omega
                rw [q8 hkz2, hkz2, Nat.add_zero] at m3
                rw [hkz2, Nat.add_zero] at q7
                refine wpS_bind (wpS_elem ha1 ?_)
                have m4 := pushA _ ka1 _ ha1 m3 q7
                by_cases he4 : ka1 + 1 + 1 = a.size
                . rw [if_pos (by simpa using he4)]
                  obtain ⟨p, r⟩ := lastA _ (ka1 + 1) _ m4 he4
                  exact wpS_pure (.inr ⟨_, _, _, rfl, rfl, p, r⟩)
                rw [if_neg (by simpa using he4)]
                split
                . exact wpS_pure (.inl ⟨_, _, _, _, _, _, _, rfl, rfl, m4, by omega, by omega, by omega⟩)
                . exact wpS_pure ⟨_, _, _, _, _, _, _, rfl, rfl, m4, by omega, by omega, by omega⟩
            . rw [if_neg hk0]
              have hkz : k = 0 := by omega
              rw [q4 hkz, hkz, Nat.add_zero] at m1
              rw [hkz, Nat.add_zero] at q3
              have h10 : ka + 1 < a.size := by omega
              have h11 : ka <= ka := Nat.le_refl _
              clear q4 m
              generalize hout1 : out = out1 at m1 ⊢
              generalize hka1 : ka = ka1 at m1 q3 h10 ⊢
              replace h11 : ka <= ka1 := by omega
              refine wpS_bind (wpS_elem h8 ?_)
              have m2 := pushB out1 ka1 kb h8 m1 fun _ => q3
              by_cases he2 : kb + 1 = b.size
              . rw [if_pos (by simpa using he2)]
                obtain ⟨p, r⟩ := done _ ka1 (kb + 1) m2 he2
                exact wpS_pure (.inr ⟨_, _, _, rfl, rfl, p, r⟩)
              rw [if_neg (by simpa using he2)]
              have ha1 : ka1 < a.size := by omega
              refine wpS_bind (wpS_elem ha1 (wpS_bind (galL L hk hSb (hSa _ (Array.getElem_mem ha1)) (by omega) (by omega) (fun i j h1 h2 h3 => ub i j h2 (by omega)) fun k2 hkn2 q5 q6 => ?_)))
              dsimp only
              rw [<- K_get (rk := rk) ha1] at q5 q6
              have m3 : Mg rk a.toList b.toList (out1.push b[kb] ++ b.extract (kb + 1) (kb + 1 + k2)).toList ka1 (kb + 1 + k2) := by
                rw [Array.toList_append, ext_some, show kb + 1 + k2 - (kb + 1) = k2 by omega]
                refine m2.takeB pb k2 fun x hx y hy => ?_
                obtain ⟨j, hj1, hj2, e1⟩ := mem_dt (rk := rk) hx
                obtain ⟨i, hi1, hi2, e2⟩ := mem_d (rk := rk) hy
                rw [e1, e2]
                exact Nat.le_trans (Nat.le_of_lt (q5 j hj1)) (ua ka1 i hi1 hi2)
              have q7 : kb + 1 + k2 < b.size -> K rk a ka1 <= K rk b (kb + 1 + k2) := fun hz => q6 k2 (Nat.le_refl _) (by omega)
              have q8 : k2 = 0 -> out1.push b[kb] ++ b.extract (kb + 1) (kb + 1 + k2) = out1.push b[kb] := fun e => by
                subst e; rw [Nat.add_zero, Array.extract_empty_of_stop_le_start (Nat.le_refl _)]; simp
              by_cases hk2 : k2 > 0
              . rw [if_pos hk2]
                by_cases he3 : kb + 1 + k2 = b.size
                . rw [if_pos (by simpa using he3)]
                  obtain ⟨p, r⟩ := done _ ka1 (kb + 1 + k2) m3 he3
                  exact wpS_pure (.inr ⟨_, _, _, rfl, rfl, p, r⟩)
                rw [if_neg (by simpa using he3)]
                refine wpS_bind (wpS_elem ha1 ?_)
                have m4 := pushA _ ka1 _ ha1 m3 q7
                by_cases he4 : ka1 + 1 + 1 = a.size
                . rw [if_pos (by simpa using he4)]
                  obtain ⟨p, r⟩ := lastA _ (ka1 + 1) _ m4 he4
                  exact wpS_pure (.inr ⟨_, _, _, rfl, rfl, p, r⟩)
                rw [if_neg (by simpa using he4)]
                split
                . exact wpS_pure (.inl ⟨_, _, _, _, _, _, _, rfl, rfl, m4, by omega, by omega, by omega⟩)
                . exact wpS_pure ⟨_, _, _, _, _, _, _, rfl, rfl, m4, by omega, by omega, by omega⟩
              . rw [if_neg hk2]
                have hkz2 : k2 = 0 := by omega
                rw [q8 hkz2, hkz2, Nat.add_zero] at m3
                rw [hkz2, Nat.add_zero] at q7
                refine wpS_bind (wpS_elem ha1 ?_)
                have m4 := pushA _ ka1 _ ha1 m3 q7
                by_cases he4 : ka1 + 1 + 1 = a.size
                . rw [if_pos (by simpa using he4)]
                  obtain ⟨p, r⟩ := lastA _ (ka1 + 1) _ m4 he4
                  exact wpS_pure (.inr ⟨_, _, _, rfl, rfl, p, r⟩)
                rw [if_neg (by simpa using he4)]
                split
                . exact wpS_pure (.inl ⟨_, _, _, _, _, _, _, rfl, rfl, m4, by omega, by omega, by omega⟩)
                . exact wpS_pure ⟨_, _, _, _, _, _, _, rfl, rfl, m4, by omega, by omega, by omega⟩
      . exact wpS_pure ⟨r, g', _, rfl, rfl, p, q⟩
end
end SortB
end
section
namespace SortB
open PySem PySem.W PyProof.Rows
structure Mh (rk : Keyed -> Nat) (la lb R : List Keyed) (na nb : Nat) : Prop where
  perm : R.Perm (la.drop na ++ lb.drop nb)
  pw : Rs rk R
  ra : ∀ x ∈ la.take na, ∀ y ∈ R, rk x <= rk y
  rb : ∀ x ∈ lb.take nb, ∀ y ∈ R, rk x <= rk y
section
variable {rk : Keyed -> Nat} {la lb R : List Keyed} {na nb k : Nat}
theorem Mh.swap (m : Mh rk la lb R na nb) : Mh rk lb la R nb na := ⟨m.perm.trans List.perm_append_comm, m.pw, m.rb, m.ra⟩
theorem drop_mid {l : List Keyed} {k n : Nat} (h : k <= n) : l.drop k = (l.drop k).take (n - k) ++ l.drop n := by
  have e : l.drop n = (l.drop k).drop (n - k) := by rw [List.drop_drop]; congr 1; omega
  rw [e, List.take_append_drop]
theorem take_mid {l : List Keyed} {k n : Nat} (h : k <= n) : l.take n = l.take k ++ (l.drop k).take (n - k) := by
  have e : n = k + (n - k) := by omega
  rw [e, List.take_add]
  congr 2
  omega
theorem Mh.takeA (m : Mh rk la lb R na nb) (pa : Rs rk la) (k : Nat) (hk : k <= na) (h : ∀ x ∈ lb.take nb, ∀ y ∈ (la.drop k).take (na - k), rk x <= rk y) : Mh rk la lb ((la.drop k).take (na - k) ++ R) k nb := by
  have pt : Rs rk (la.take na) := pa.sublist (List.take_sublist _ _)
  have ps := take_mid (l := la) hk
  rw [ps] at pt
  obtain ⟨_, p2, p3⟩ := List.pairwise_append.mp pt
  have sub : ∀ y ∈ (la.drop k).take (na - k), y ∈ la.take na := fun y hy => by rw [ps]; exact List.mem_append_right _ hy
  refine ⟨?_, ?_, ?_, ?_⟩
  . refine (m.perm.append_left _).trans (List.Perm.of_eq ?_)
    rw [<- List.append_assoc, <- drop_mid hk]
  . exact List.pairwise_append.mpr ⟨p2, m.pw, fun x hx y hy => m.ra x (sub x hx) y hy⟩
  . intro x hx y hy
    rcases List.mem_append.mp hy with hy | hy
    . exact p3 x hx y hy
    . exact m.ra x (by rw [ps]; exact List.mem_append_left _ hx) y hy
  . intro x hx y hy
    rcases List.mem_append.mp hy with hy | hy
    . exact h x hx y hy
    . exact m.rb x hx y hy
theorem Mh.takeB (m : Mh rk la lb R na nb) (pb : Rs rk lb) (k : Nat) (hk : k <= nb) (h : ∀ x ∈ la.take na, ∀ y ∈ (lb.drop k).take (nb - k), rk x <= rk y) : Mh rk la lb ((lb.drop k).take (nb - k) ++ R) na k := (m.swap.takeA pb k hk h).swap
theorem Mh.doneB (m : Mh rk la lb R na nb) (pa : Rs rk la) (pb : Rs rk lb) (h : ∀ x ∈ lb.take nb, ∀ y ∈ la.take na, rk x <= rk y) : (lb.take nb ++ la.take na ++ R).Perm (la ++ lb) /\ Rs rk (lb.take nb ++ la.take na ++ R) := by
  have m1 := m.takeA pa 0 (Nat.zero_le _) (by simpa using h)
  have m2 := m1.takeB pb 0 (Nat.zero_le _) (by simp)
  have e : ((lb.drop 0).take (nb - 0) ++ ((la.drop 0).take (na - 0) ++ R)) = lb.take nb ++ la.take na ++ R := by simp
  rw [e] at m2
  exact ⟨by simpa using m2.perm, m2.pw⟩
theorem Mh.done (m : Mh rk la lb R na nb) (pa : Rs rk la) (pb : Rs rk lb) (h : ∀ x ∈ la.take na, ∀ y ∈ lb.take nb, rk x <= rk y) : (la.take na ++ lb.take nb ++ R).Perm (la ++ lb) /\ Rs rk (la.take na ++ lb.take nb ++ R) := by
  obtain ⟨a, b⟩ := m.swap.doneB pb pa h
  exact ⟨a.trans List.perm_append_comm, b⟩
end
section
variable {rk : Keyed -> Nat} {a : Array Keyed} {i j k n : Nat} {x : Keyed}
theorem ext_pre (a : Array Keyed) (n : Nat) : (a.extract 0 n).toList = a.toList.take n := by rw [ext_some]; simp
theorem mem_t (h : x ∈ a.toList.take n) : ∃ j, j < n /\ j < a.size /\ rk x = K rk a j := by
  obtain ⟨j, h1, h2, e⟩ := mem_dt (rk := rk) (i := 0) (a := a) (k := n) (by simpa using h)
  exact ⟨j, h1, by omega, by rw [e]; congr 1; omega⟩
end
section
variable {prog : Program} {w : World} {A : Around} {E : Value -> Shared -> Prop} {s : Shared} {κ : SortKind} {rk : Keyed -> Nat} {S : Keyed -> Prop}
theorem mergeHi_ok (L : LtOk prog w A E s κ rk S) {st : SortSt} {a b : Array Keyed} {Q : Array Keyed -> SortSt -> Prop} (hk : kindOf st = κ) (hSa : ∀ x ∈ a, S x) (hSb : ∀ x ∈ b, S x) (na : 0 < a.size) (nb : 0 < b.size) (pa : Rs rk a.toList) (pb : Rs rk b.toList)
    (h0 : K rk b 0 < K rk a 0) (hl : ∀ i, i < b.size -> K rk b i < K rk a (a.size - 1)) (h : ∀ out g, out.toList.Perm (a.toList ++ b.toList) -> Rs rk out.toList -> Q out (setG st g)) : wpS (model prog w) A E s (mergeHi' a b) Q st := by
  have ua : ∀ i j, i <= j -> j < a.size -> K rk a i <= K rk a j := fun i j h1 h2 => pa.le h1 h2
  have ub : ∀ i j, i <= j -> j < b.size -> K rk b i <= K rk b j := fun i j h1 h2 => pb.le h1 h2
  have nl : a.size - 1 < a.size := by omega
  have m0 : Mh rk a.toList b.toList (#[a[a.size - 1]] : Array Keyed).toList.reverse (a.size - 1) b.size := by
    have e1 : a.toList.drop (a.size - 1) = [a[a.size - 1]] := by
      have := take_one nl
      rwa [List.take_of_length_le (by simp; omega)] at this
    refine ⟨by rw [e1]; simp, by simp, fun x hx y hy => ?_, fun x hx y hy => ?_⟩
    . obtain ⟨j, _, hj, e⟩ := mem_t (rk := rk) hx
      have : y = a[a.size - 1] := by simpa using hy
      rw [this, e, <- K_get (rk := rk) nl]
      exact ua j _ (by omega) (by omega)
    . obtain ⟨j, _, hj, e⟩ := mem_t (rk := rk) hx
      have : y = a[a.size - 1] := by simpa using hy
      rw [this, e, <- K_get (rk := rk) nl]
      exact Nat.le_of_lt (hl j hj)
  have done : ∀ (out : Array Keyed) (ia ib : Nat), Mh rk a.toList b.toList out.toList.reverse ia ib -> ia = 0 -> (a.extract 0 ia ++ b.extract 0 ib ++ out.reverse).toList.Perm (a.toList ++ b.toList) /\ Rs rk (a.extract 0 ia ++ b.extract 0 ib ++ out.reverse).toList := fun out ia ib m e => by
    rw [Array.toList_append, Array.toList_append, ext_pre, ext_pre, Array.toList_reverse]
    exact m.done pa pb fun x hx y _ => by
      obtain ⟨j, h1, h2, _⟩ := mem_t (rk := rk) hx
      omega
  have lastB : ∀ (out : Array Keyed) (ia ib : Nat), Mh rk a.toList b.toList out.toList.reverse ia ib -> ib = 1 -> (b.extract 0 ib ++ a.extract 0 ia ++ out.reverse).toList.Perm (a.toList ++ b.toList) /\ Rs rk (b.extract 0 ib ++ a.extract 0 ia ++ out.reverse).toList := fun out ia ib m e => by
    rw [Array.toList_append, Array.toList_append, ext_pre, ext_pre, Array.toList_reverse]
    exact m.doneB pa pb fun x hx y hy => by
      obtain ⟨j, h1, h2, e1⟩ := mem_t (rk := rk) hx
      obtain ⟨i, h3, h4, e2⟩ := mem_t (rk := rk) hy
      have : j = 0 := by omega
      rw [e1, e2, this]
      exact Nat.le_trans (Nat.le_of_lt h0) (ua 0 i (by omega) h4)
  have pushA : ∀ (out : Array Keyed) (ia ib : Nat) (hi : ia < a.size), Mh rk a.toList b.toList out.toList.reverse (ia + 1) ib -> ib <= b.size -> (0 < ib -> K rk b (ib - 1) <= K rk a ia) -> Mh rk a.toList b.toList (out.push a[ia]).toList.reverse ia ib := fun out ia ib hi m hib hle => by
    have := m.takeA pa ia (by omega) fun x hx y hy => by
      obtain ⟨j, h1, h2, e1⟩ := mem_t (rk := rk) hx
      obtain ⟨i, h3, h4, e2⟩ := mem_dt (rk := rk) hy
      have : i = 0 := by omega
      subst this
      rw [e1, e2]
      exact Nat.le_trans (ub j (ib - 1) (by omega) (by omega)) (hle (by omega))
    rw [show ia + 1 - ia = 1 by omega, take_one hi] at this
    rw [Array.toList_push, List.reverse_append]
    exact this
  replace pushA : ∀ (out : Array Keyed) (ia ib : Nat) (hi : ia - 1 < a.size), 0 < ia -> Mh rk a.toList b.toList out.toList.reverse ia ib -> ib <= b.size -> (0 < ib -> K rk b (ib - 1) <= K rk a (ia - 1)) -> Mh rk a.toList b.toList (out.push a[ia - 1]).toList.reverse (ia - 1) ib := fun out ia ib hi h0 m h1 h2 => pushA out (ia - 1) ib hi (by rw [Nat.sub_add_cancel h0]; exact m) h1 h2
  have pushB : ∀ (out : Array Keyed) (ia ib : Nat) (hi : ib < b.size), Mh rk a.toList b.toList out.toList.reverse ia (ib + 1) -> ia <= a.size -> (0 < ia -> K rk a (ia - 1) <= K rk b ib) -> Mh rk a.toList b.toList (out.push b[ib]).toList.reverse ia ib := fun out ia ib hi m hia hle => by
    have := m.takeB pb ib (by omega) fun x hx y hy => by
      obtain ⟨j, h1, h2, e1⟩ := mem_t (rk := rk) hx
      obtain ⟨i, h3, h4, e2⟩ := mem_dt (rk := rk) hy
      have : i = 0 := by omega
      subst this
      rw [e1, e2]
      exact Nat.le_trans (ua j (ia - 1) (by omega) (by omega)) (hle (by omega))
    rw [show ib + 1 - ib = 1 by omega, take_one hi] at this
    rw [Array.toList_push, List.reverse_append]
    exact this
  replace pushB : ∀ (out : Array Keyed) (ia ib : Nat) (hi : ib - 1 < b.size), 0 < ib -> Mh rk a.toList b.toList out.toList.reverse ia ib -> ia <= a.size -> (0 < ia -> K rk a (ia - 1) <= K rk b (ib - 1)) -> Mh rk a.toList b.toList (out.push b[ib - 1]).toList.reverse ia (ib - 1) := fun out ia ib hi h0 m h1 h2 => pushB out ia (ib - 1) hi (by rw [Nat.sub_add_cancel h0]; exact m) h1 h2
  refine wpS_bind (wpS_lift (wpAny_rule ⟨rfl, ?_⟩))
  refine wpS_bind (wpS_elem nl ?_)
  dsimp only
  by_cases ha1 : a.size - 1 = 0
  . rw [if_pos (by simpa using ha1)]
    obtain ⟨p, r⟩ := done _ _ b.size m0 ha1
    exact wpS_pure (h _ (gallopOf st) p r)
  rw [if_neg (by simpa using ha1)]
  by_cases hb1 : b.size = 1
  . rw [if_pos (by simpa using hb1)]
    obtain ⟨p, r⟩ := lastB _ (a.size - 1) b.size m0 hb1
    exact wpS_pure (h _ (gallopOf st) p r)
  rw [if_neg (by simpa using hb1)]
  refine wpS_bind (wpS_get (wpS_bind (wpS_mono (wpS_forRange
    (I := fun x c st' => ∃ ia ib out g g', c = (none, ia, ib, out, g) /\ st' = setG st g' /\ Mh rk a.toList b.toList (out : Array Keyed).toList.reverse ia ib /\ 0 < ia /\ ia < a.size /\ 1 < ib /\ ib <= b.size /\ x + (ia + ib) <= a.size + b.size)
    (Q := fun c st' => ∃ r g' z, c = (some r, z) /\ st' = setG st g' /\ (r : Array Keyed).toList.Perm (a.toList ++ b.toList) /\ Rs rk r.toList) ?step ?fin ⟨_, _, _, _, gallopOf st, rfl, rfl, m0, by omega, by omega, by omega, by omega, by omega⟩) ?post)))
  case post =>
    rintro c st' ⟨r, g', z, rfl, rfl, p, q⟩
    exact wpS_pure (h r g' p q)
  case fin =>
    rintro c st' ⟨ia, ib, out, g, g', rfl, rfl, m, h1, h2, h3, h4, h5⟩
    omega
  case step =>
    rintro x c st' _ hx ⟨ia, ib, out, g, g', rfl, rfl, m, h1, h2, h3, h3', h3x⟩
    dsimp only
    refine wpS_bind (wpS_mono (wpS_forRange
      (I := fun y c st' => st' = setG st g' /\ ∃ ja jb out ac bc, c = (none, ja, jb, out, ac, bc) /\ Mh rk a.toList b.toList (out : Array Keyed).toList.reverse ja jb /\ 0 < ja /\ ja < a.size /\ 1 < jb /\ jb <= b.size /\ y + (ja + jb) <= ia + ib)
      (Q := fun c st' => st' = setG st g' /\ ((∃ ja jb out ac bc, c = (none, ja, jb, out, ac, bc) /\ Mh rk a.toList b.toList (out : Array Keyed).toList.reverse ja jb /\ 0 < ja /\ ja < a.size /\ 1 < jb /\ jb <= b.size /\ ja + jb <= ia + ib) \/ ∃ r z, c = (some r, z) /\ (r : Array Keyed).toList.Perm (a.toList ++ b.toList) /\ Rs rk r.toList)) ?istep ?ifin ⟨rfl, ia, ib, out, 0, 0, rfl, m, h1, h2, h3, h3', by omega⟩) ?ipost)
    case ifin =>
      rintro c st' ⟨rfl, ja, jb, out, ac, bc, rfl, m, h4, h5, h6, h6', h6x⟩
      omega
    case istep =>
      rintro y c st' _ hy ⟨rfl, ja, jb, out, ac, bc, rfl, m, h4, h5, h6, h6', h6x⟩
      dsimp only
      have ja1 : ja - 1 < a.size := by omega
      have jb1 : jb - 1 < b.size := by omega
      refine wpS_bind (wpS_elem jb1 (wpS_bind (wpS_elem ja1 (wpS_bind (L _ _ _ _ hk (hSb _ (Array.getElem_mem jb1)) (hSa _ (Array.getElem_mem ja1)) ?_)))))
      by_cases hw : rk b[jb - 1] < rk a[ja - 1]
      . have m1 := pushA out ja jb ja1 h4 m h6' fun _ => by rw [K_get jb1, K_get ja1]; exact Nat.le_of_lt hw
        simp only [hw, decide_true, if_true]
        refine wpS_bind (wpS_elem ja1 ?_)
        by_cases he : ja - 1 = 0
        . rw [if_pos (by simpa using he)]
          exact wpS_pure ⟨rfl, .inr ⟨_, _, rfl, done _ (ja - 1) jb m1 he⟩⟩
        . rw [if_neg (by simpa using he)]
          by_cases hc : ac + 1 >= g
          . rw [if_pos hc]
            exact wpS_pure ⟨rfl, .inl ⟨_, _, _, _, _, rfl, m1, by omega, by omega, h6, h6', by omega⟩⟩
          . rw [if_neg hc]
            exact wpS_pure ⟨rfl, _, _, _, _, _, rfl, m1, by omega, by omega, h6, h6', by omega⟩
      . have m1 := pushB out ja jb jb1 (by omega) m (by omega) fun _ => by rw [K_get jb1, K_get ja1]; omega
        simp only [hw, decide_false, Bool.false_eq_true, if_false]
        refine wpS_bind (wpS_elem jb1 ?_)
        by_cases he : jb - 1 = 1
        . rw [if_pos (by simpa using he)]
          exact wpS_pure ⟨rfl, .inr ⟨_, _, rfl, lastB _ ja (jb - 1) m1 he⟩⟩
        . rw [if_neg (by simpa using he)]
          by_cases hc : bc + 1 >= g
          . rw [if_pos hc]
            exact wpS_pure ⟨rfl, .inl ⟨_, _, _, _, _, rfl, m1, h4, h5, by omega, by omega, by omega⟩⟩
          . rw [if_neg hc]
            exact wpS_pure ⟨rfl, _, _, _, _, _, rfl, m1, h4, h5, by omega, by omega, by omega⟩
    case ipost =>
      rintro c st' ⟨rfl, ⟨ja, jb, out, ac, bc, rfl, m, h4, h5, h6, h6', h6x⟩ | ⟨r, z, rfl, p, q⟩⟩
      . dsimp only
        refine wpS_bind (wpS_lift (wpAny_rule ⟨rfl, ?_⟩))
        refine wpS_bind (wpS_mono (wpS_forRange
          (I := fun y c st' => ∃ ka kb out g g' ac bc, c = (none, ka, kb, out, g, ac, bc) /\ st' = setG st g' /\ Mh rk a.toList b.toList (out : Array Keyed).toList.reverse ka kb /\ 0 < ka /\ ka < a.size /\ 1 < kb /\ kb <= b.size /\ y + (ka + kb) <= ja + jb)
          (Q := fun c st' => (∃ ka kb out g g' ac bc, c = (none, ka, kb, out, g, ac, bc) /\ st' = setG st g' /\ Mh rk a.toList b.toList (out : Array Keyed).toList.reverse ka kb /\ 0 < ka /\ ka < a.size /\ 1 < kb /\ kb <= b.size /\ ka + kb + 1 <= ja + jb) \/ ∃ r z g', c = (some r, z) /\ st' = setG st g' /\ (r : Array Keyed).toList.Perm (a.toList ++ b.toList) /\ Rs rk r.toList) ?jstep ?jfin ⟨ja, jb, out, _, g', ac, bc, rfl, rfl, m, h4, h5, h6, h6', by omega⟩) ?jpost)
        case jfin =>
          rintro c st' ⟨ka, kb, out, g, g', ac, bc, rfl, rfl, m, h7, h8, h9, h9', h9x⟩
          omega
        case jpost =>
          rintro c st' (⟨ka, kb, out, g, g', ac, bc, rfl, rfl, m, h7, h8, h9, h9', h9x⟩ | ⟨r, z, g', rfl, rfl, p, q⟩)
          . dsimp only
            refine wpS_bind (wpS_modify (wpS_pure ⟨ka, kb, out, _, g + 1, rfl, rfl, m, h7, h8, h9, h9', by omega⟩))
          . exact wpS_pure ⟨r, g', _, rfl, rfl, p, q⟩
        case jstep =>
          rintro y c st' _ hy ⟨ka, kb, out, g, g', ac, bc, rfl, rfl, m, h7, h8, h9, h9', h9x⟩
          have kb1 : kb - 1 < b.size := by omega
          dsimp only
          by_cases hg : g > 1
          . rw [if_pos hg]
            generalize g - 1 = g1
            refine wpS_bind (wpS_modify ?_)
            refine wpS_bind (wpS_elem kb1 (wpS_bind (galR L hk hSa (hSb _ (Array.getElem_mem kb1)) (by omega) (by omega) (fun i j h1 h2 h3 => ua i j h2 (by omega)) fun at1 hkn q1 q2 => ?_)))
            dsimp only
            rw [<- K_get (rk := rk) kb1] at q1 q2
            simp only [Nat.zero_add] at q1 q2
            have m1 : Mh rk a.toList b.toList (out ++ (a.extract at1 ka).reverse).toList.reverse at1 kb := by
              rw [Array.toList_append, List.reverse_append, Array.toList_reverse, List.reverse_reverse, ext_some]
              refine m.takeA pa at1 hkn fun x hx y hy => ?_
              obtain ⟨j, hj1, hj2, e1⟩ := mem_t (rk := rk) hx
              obtain ⟨i, hi1, hi2, e2⟩ := mem_dt (rk := rk) hy
              rw [e1, e2]
              exact Nat.le_trans (ub j (kb - 1) (by omega) kb1) (Nat.le_of_lt (q2 (at1 + i) (by omega) (by omega)))
            have q3 : 0 < at1 -> K rk a (at1 - 1) <= K rk b (kb - 1) := fun hz => q1 (at1 - 1) (by omega)
            have q4 : ¬ ka - at1 > 0 -> out ++ (a.extract at1 ka).reverse = out /\ at1 = ka := fun e => by
              have : at1 = ka := by omega
              subst this
              refine ⟨?_, rfl⟩
              rw [Array.extract_empty_of_stop_le_start (Nat.le_refl _)]; simp
            by_cases hk0 : ka - at1 > 0
            . rw [if_pos hk0]
              by_cases he : at1 = 0
              . rw [if_pos (by simpa using he)]
                obtain ⟨p, r⟩ := done _ at1 kb m1 he
                exact wpS_pure (.inr ⟨_, _, _, rfl, rfl, p, r⟩)
              rw [if_neg (by simpa using he)]
              have h10 : 0 < at1 := by omega
              have h11 : at1 <= ka := hkn
              generalize out ++ (a.extract at1 ka).reverse = out1 at m1 ⊢
              clear q4 m
              refine wpS_bind (wpS_elem kb1 ?_)
              have m2 := pushB out1 at1 kb kb1 (by omega) m1 (by omega) q3
              by_cases he2 : kb - 1 = 1
              . rw [if_pos (by simpa using he2)]
                obtain ⟨p, r⟩ := lastB _ at1 (kb - 1) m2 he2
                exact wpS_pure (.inr ⟨_, _, _, rfl, rfl, p, r⟩)
              rw [if_neg (by simpa using he2)]
              have ha1 : at1 - 1 < a.size := by omega
              refine wpS_bind (wpS_elem ha1 (wpS_bind (galL L hk hSb (hSa _ (Array.getElem_mem ha1)) (by omega) (by omega) (fun i j h1 h2 h3 => ub i j h2 (by omega)) fun at2 hkn2 q5 q6 => ?_)))
              dsimp only
              rw [<- K_get (rk := rk) ha1] at q5 q6
              simp only [Nat.zero_add] at q5 q6
              have hat2 : 1 <= at2 := by
                by_cases hz : 1 <= at2
                . exact hz
                . have z1 := q6 0 (by omega) (by omega)
                  have z2 := ua 0 (at1 - 1) (by omega) ha1
                  omega
              have m3 : Mh rk a.toList b.toList (out1.push b[kb - 1] ++ (b.extract at2 (kb - 1)).reverse).toList.reverse at1 at2 := by
                rw [Array.toList_append, List.reverse_append, Array.toList_reverse, List.reverse_reverse, ext_some]
                refine m2.takeB pb at2 hkn2 fun x hx y hy => ?_
                obtain ⟨j, hj1, hj2, e1⟩ := mem_t (rk := rk) hx
                obtain ⟨i, hi1, hi2, e2⟩ := mem_dt (rk := rk) hy
                rw [e1, e2]
                exact Nat.le_trans (ua j (at1 - 1) (by omega) ha1) (q6 (at2 + i) (by omega) (by omega))
              have q7 : 0 < at2 -> K rk b (at2 - 1) <= K rk a (at1 - 1) := fun hz => Nat.le_of_lt (q5 (at2 - 1) (by omega))
              have q8 : ¬ kb - 1 - at2 > 0 -> out1.push b[kb - 1] ++ (b.extract at2 (kb - 1)).reverse = out1.push b[kb - 1] /\ at2 = kb - 1 := fun e => by
                have : at2 = kb - 1 := by omega
                subst this
                refine ⟨?_, rfl⟩
                rw [Array.extract_empty_of_stop_le_start (Nat.le_refl _)]; simp
              by_cases hk2 : kb - 1 - at2 > 0
              . rw [if_pos hk2]
                by_cases he3 : at2 = 1
                . rw [if_pos (by simpa using he3)]
                  obtain ⟨p, r⟩ := lastB _ at1 at2 m3 he3
                  exact wpS_pure (.inr ⟨_, _, _, rfl, rfl, p, r⟩)
                rw [if_neg (by simpa using he3), if_neg (by simp; omega)]
                refine wpS_bind (wpS_elem ha1 ?_)
                have m4 := pushA _ at1 _ ha1 h10 m3 (by omega) q7
                by_cases he4 : at1 - 1 = 0
                . rw [if_pos (by simpa using he4)]
                  obtain ⟨p, r⟩ := done _ (at1 - 1) _ m4 he4
                  exact wpS_pure (.inr ⟨_, _, _, rfl, rfl, p, r⟩)
                rw [if_neg (by simpa using he4)]
                split
                . exact wpS_pure (.inl ⟨_, _, _, _, _, _, _, rfl, rfl, m4, by omega, by omega, by omega, by omega, by omega⟩)
                . exact wpS_pure ⟨_, _, _, _, _, _, _, rfl, rfl, m4, by omega, by omega, by omega, by omega, by omega⟩
              . rw [if_neg hk2]
                obtain ⟨z3, z4⟩ := q8 hk2
                rw [z3] at m3
                rw [z4] at m3 q7
                refine wpS_bind (wpS_elem ha1 ?_)
                have m4 := pushA _ at1 _ ha1 h10 m3 (by omega) fun _ => q7 (by omega)
                by_cases he4 : at1 - 1 = 0
                . rw [if_pos (by simpa using he4)]
                  obtain ⟨p, r⟩ := done _ (at1 - 1) _ m4 he4
                  exact wpS_pure (.inr ⟨_, _, _, rfl, rfl, p, r⟩)
                rw [if_neg (by simpa using he4)]
                split
                . exact wpS_pure (.inl ⟨_, _, _, _, _, _, _, rfl, rfl, m4, by omega, by omega, by omega, by omega, by omega⟩)
                . exact wpS_pure ⟨_, _, _, _, _, _, _, rfl, rfl, m4, by omega, by omega, by omega, by omega, by omega⟩
            . rw [if_neg hk0]
              obtain ⟨z1, z2⟩ := q4 hk0
              rw [z1] at m1
              subst z2
              have h10 : 0 < at1 := h7
              have h11 : at1 <= at1 := Nat.le_refl _
              clear q4 m z1
              generalize out = out1 at m1 ⊢
              refine wpS_bind (wpS_elem kb1 ?_)
              have m2 := pushB out1 at1 kb kb1 (by omega) m1 (by omega) q3
              by_cases he2 : kb - 1 = 1
              . rw [if_pos (by simpa using he2)]
                obtain ⟨p, r⟩ := lastB _ at1 (kb - 1) m2 he2
                exact wpS_pure (.inr ⟨_, _, _, rfl, rfl, p, r⟩)
              rw [if_neg (by simpa using he2)]
              have ha1 : at1 - 1 < a.size := by omega
              refine wpS_bind (wpS_elem ha1 (wpS_bind (galL L hk hSb (hSa _ (Array.getElem_mem ha1)) (by omega) (by omega) (fun i j h1 h2 h3 => ub i j h2 (by omega)) fun at2 hkn2 q5 q6 => ?_)))
              dsimp only
              rw [<- K_get (rk := rk) ha1] at q5 q6
              simp only [Nat.zero_add] at q5 q6
              have hat2 : 1 <= at2 := by
                by_cases hz : 1 <= at2
                . exact hz
                . have z1 := q6 0 (by omega) (by omega)
                  have z2 := ua 0 (at1 - 1) (by omega) ha1
                  omega
              have m3 : Mh rk a.toList b.toList (out1.push b[kb - 1] ++ (b.extract at2 (kb - 1)).reverse).toList.reverse at1 at2 := by
                rw [Array.toList_append, List.reverse_append, Array.toList_reverse, List.reverse_reverse, ext_some]
                refine m2.takeB pb at2 hkn2 fun x hx y hy => ?_
                obtain ⟨j, hj1, hj2, e1⟩ := mem_t (rk := rk) hx
                obtain ⟨i, hi1, hi2, e2⟩ := mem_dt (rk := rk) hy
                rw [e1, e2]
                exact Nat.le_trans (ua j (at1 - 1) (by omega) ha1) (q6 (at2 + i) (by omega) (by omega))
              have q7 : 0 < at2 -> K rk b (at2 - 1) <= K rk a (at1 - 1) := fun hz => Nat.le_of_lt (q5 (at2 - 1) (by omega))
              have q8 : ¬ kb - 1 - at2 > 0 -> out1.push b[kb - 1] ++ (b.extract at2 (kb - 1)).reverse = out1.push b[kb - 1] /\ at2 = kb - 1 := fun e => by
                have : at2 = kb - 1 := by omega
                subst this
                refine ⟨?_, rfl⟩
                rw [Array.extract_empty_of_stop_le_start (Nat.le_refl _)]; simp
              by_cases hk2 : kb - 1 - at2 > 0
              . rw [if_pos hk2]
                by_cases he3 : at2 = 1
                . rw [if_pos (by simpa using he3)]
                  obtain ⟨p, r⟩ := lastB _ at1 at2 m3 he3
                  exact wpS_pure (.inr ⟨_, _, _, rfl, rfl, p, r⟩)
                rw [if_neg (by simpa using he3), if_neg (by simp; omega)]
                refine wpS_bind (wpS_elem ha1 ?_)
                have m4 := pushA _ at1 _ ha1 h10 m3 (by omega) q7
                by_cases he4 : at1 - 1 = 0
                . rw [if_pos (by simpa using he4)]
                  obtain ⟨p, r⟩ := done _ (at1 - 1) _ m4 he4
                  exact wpS_pure (.inr ⟨_, _, _, rfl, rfl, p, r⟩)
                rw [if_neg (by simpa using he4)]
                split
                . exact wpS_pure (.inl ⟨_, _, _, _, _, _, _, rfl, rfl, m4, by omega, by omega, by omega, by omega, by omega⟩)
                . exact wpS_pure ⟨_, _, _, _, _, _, _, rfl, rfl, m4, by omega, by omega, by omega, by omega, by omega⟩
              . rw [if_neg hk2]
                obtain ⟨z3, z4⟩ := q8 hk2
                rw [z3] at m3
                rw [z4] at m3 q7
                refine wpS_bind (wpS_elem ha1 ?_)
                have m4 := pushA _ at1 _ ha1 h10 m3 (by omega) fun _ => q7 (by omega)
                by_cases he4 : at1 - 1 = 0
                . rw [if_pos (by simpa using he4)]
                  obtain ⟨p, r⟩ := done _ (at1 - 1) _ m4 he4
                  exact wpS_pure (.inr ⟨_, _, _, rfl, rfl, p, r⟩)
                rw [if_neg (by simpa using he4)]
                split
                . exact wpS_pure (.inl ⟨_, _, _, _, _, _, _, rfl, rfl, m4, by omega, by omega, by omega, by omega, by omega⟩)
                . exact wpS_pure ⟨_, _, _, _, _, _, _, rfl, rfl, m4, by omega, by omega, by omega, by omega, by omega⟩
          . rw [if_neg hg]
            generalize g = g1
            refine wpS_bind (wpS_modify ?_)
            refine wpS_bind (wpS_elem kb1 (wpS_bind (galR L hk hSa (hSb _ (Array.getElem_mem kb1)) (by omega) (by omega) (fun i j h1 h2 h3 => ua i j h2 (by omega)) fun at1 hkn q1 q2 => ?_)))
            dsimp only
            rw [<- K_get (rk := rk) kb1] at q1 q2
            simp only [Nat.zero_add] at q1 q2
            have m1 : Mh rk a.toList b.toList (out ++ (a.extract at1 ka).reverse).toList.reverse at1 kb := by
              rw [Array.toList_append, List.reverse_append, Array.toList_reverse, List.reverse_reverse, ext_some]
              refine m.takeA pa at1 hkn fun x hx y hy => ?_
              obtain ⟨j, hj1, hj2, e1⟩ := mem_t (rk := rk) hx
              obtain ⟨i, hi1, hi2, e2⟩ := mem_dt (rk := rk) hy
              rw [e1, e2]
              exact Nat.le_trans (ub j (kb - 1) (by omega) kb1) (Nat.le_of_lt (q2 (at1 + i) (by omega) (by omega)))
            have q3 : 0 < at1 -> K rk a (at1 - 1) <= K rk b (kb - 1) := fun hz => q1 (at1 - 1) (by omega)
            have q4 : ¬ ka - at1 > 0 -> out ++ (a.extract at1 ka).reverse = out /\ at1 = ka := fun e => by
              have : at1 = ka := by omega
              subst this
              refine ⟨?_, rfl⟩
              rw [Array.extract_empty_of_stop_le_start (Nat.le_refl _)]; simp
            by_cases hk0 : ka - at1 > 0
            . rw [if_pos hk0]
              by_cases he : at1 = 0
              . rw [if_pos (by simpa using he)]
                obtain ⟨p, r⟩ := done _ at1 kb m1 he
                exact wpS_pure (.inr ⟨_, _, _, rfl, rfl, p, r⟩)
              rw [if_neg (by simpa using he)]
              have h10 : 0 < at1 := by omega
              have h11 : at1 <= ka := hkn
              generalize out ++ (a.extract at1 ka).reverse = out1 at m1 ⊢
              clear q4 m
              refine wpS_bind (wpS_elem kb1 ?_)
              have m2 := pushB out1 at1 kb kb1 (by omega) m1 (by omega) q3
              by_cases he2 : kb - 1 = 1
              . rw [if_pos (by simpa using he2)]
                obtain ⟨p, r⟩ := lastB _ at1 (kb - 1) m2 he2
                exact wpS_pure (.inr ⟨_, _, _, rfl, rfl, p, r⟩)
              rw [if_neg (by simpa using he2)]
              have ha1 : at1 - 1 < a.size := by omega
              refine wpS_bind (wpS_elem ha1 (wpS_bind (galL L hk hSb (hSa _ (Array.getElem_mem ha1)) (by omega) (by omega) (fun i j h1 h2 h3 => ub i j h2 (by omega)) fun at2 hkn2 q5 q6 => ?_)))
              dsimp only
              rw [<- K_get (rk := rk) ha1] at q5 q6
              simp only [Nat.zero_add] at q5 q6
              have hat2 : 1 <= at2 := by
                by_cases hz : 1 <= at2
                . exact hz
                . have z1 := q6 0 (by omega) (by omega)
                  have z2 := ua 0 (at1 - 1) (by omega) ha1
                  omega
              have m3 : Mh rk a.toList b.toList (out1.push b[kb - 1] ++ (b.extract at2 (kb - 1)).reverse).toList.reverse at1 at2 := by
                rw [Array.toList_append, List.reverse_append, Array.toList_reverse, List.reverse_reverse, ext_some]
                refine m2.takeB pb at2 hkn2 fun x hx y hy => ?_
                obtain ⟨j, hj1, hj2, e1⟩ := mem_t (rk := rk) hx
                obtain ⟨i, hi1, hi2, e2⟩ := mem_dt (rk := rk) hy
                rw [e1, e2]
                exact Nat.le_trans (ua j (at1 - 1) (by omega) ha1) (q6 (at2 + i) (by omega) (by omega))
              have q7 : 0 < at2 -> K rk b (at2 - 1) <= K rk a (at1 - 1) := fun hz => Nat.le_of_lt (q5 (at2 - 1) (by omega))
              have q8 : ¬ kb - 1 - at2 > 0 -> out1.push b[kb - 1] ++ (b.extract at2 (kb - 1)).reverse = out1.push b[kb - 1] /\ at2 = kb - 1 := fun e => by
                have : at2 = kb - 1 := by omega
                subst this
                refine ⟨?_, rfl⟩
                rw [Array.extract_empty_of_stop_le_start (Nat.le_refl _)]; simp
              by_cases hk2 : kb - 1 - at2 > 0
              . rw [if_pos hk2]
                by_cases he3 : at2 = 1
                . rw [if_pos (by simpa using he3)]
                  obtain ⟨p, r⟩ := lastB _ at1 at2 m3 he3
                  exact wpS_pure (.inr ⟨_, _, _, rfl, rfl, p, r⟩)
                rw [if_neg (by simpa using he3), if_neg (by simp; omega)]
                refine wpS_bind (wpS_elem ha1 ?_)
                have m4 := pushA _ at1 _ ha1 h10 m3 (by omega) q7
                by_cases he4 : at1 - 1 = 0
                . rw [if_pos (by simpa using he4)]
                  obtain ⟨p, r⟩ := done _ (at1 - 1) _ m4 he4
                  exact wpS_pure (.inr ⟨_, _, _, rfl, rfl, p, r⟩)
                rw [if_neg (by simpa using he4)]
                split
                . exact wpS_pure (.inl ⟨_, _, _, _, _, _, _, rfl, rfl, m4, by omega, by omega, by omega, by omega, by omega⟩)
                . exact wpS_pure ⟨_, _, _, _, _, _, _, rfl, rfl, m4, by omega, by omega, by omega, by omega, by omega⟩
              . rw [if_neg hk2]
                obtain ⟨z3, z4⟩ := q8 hk2
                rw [z3] at m3
                rw [z4] at m3 q7
                refine wpS_bind (wpS_elem ha1 ?_)
                have m4 := pushA _ at1 _ ha1 h10 m3 (by omega) fun _ => q7 (by omega)
                by_cases he4 : at1 - 1 = 0
                . rw [if_pos (by simpa using he4)]
                  obtain ⟨p, r⟩ := done _ (at1 - 1) _ m4 he4
                  exact wpS_pure (.inr ⟨_, _, _, rfl, rfl, p, r⟩)
                rw [if_neg (by simpa using he4)]
                split
                . exact wpS_pure (.inl ⟨_, _, _, _, _, _, _, rfl, rfl, m4, by omega, by omega, by omega, by omega, by omega⟩)
                . exact wpS_pure ⟨_, _, _, _, _, _, _, rfl, rfl, m4, by omega, by omega, by omega, by omega, by omega⟩
            . rw [if_neg hk0]
              obtain ⟨z1, z2⟩ := q4 hk0
              rw [z1] at m1
              subst z2
              have h10 : 0 < at1 := h7
              have h11 : at1 <= at1 := Nat.le_refl _
              clear q4 m z1
              generalize out = out1 at m1 ⊢
              refine wpS_bind (wpS_elem kb1 ?_)
              have m2 := pushB out1 at1 kb kb1 (by omega) m1 (by omega) q3
              by_cases he2 : kb - 1 = 1
              . rw [if_pos (by simpa using he2)]
                obtain ⟨p, r⟩ := lastB _ at1 (kb - 1) m2 he2
                exact wpS_pure (.inr ⟨_, _, _, rfl, rfl, p, r⟩)
              rw [if_neg (by simpa using he2)]
              have ha1 : at1 - 1 < a.size := by omega
              refine wpS_bind (wpS_elem ha1 (wpS_bind (galL L hk hSb (hSa _ (Array.getElem_mem ha1)) (by omega) (by omega) (fun i j h1 h2 h3 => ub i j h2 (by omega)) fun at2 hkn2 q5 q6 => ?_)))
              dsimp only
              rw [<- K_get (rk := rk) ha1] at q5 q6
              simp only [Nat.zero_add] at q5 q6
              have hat2 : 1 <= at2 := by
                by_cases hz : 1 <= at2
                . exact hz
                . have z1 := q6 0 (by omega) (by omega)
                  have z2 := ua 0 (at1 - 1) (by omega) ha1
                  omega
              have m3 : Mh rk a.toList b.toList (out1.push b[kb - 1] ++ (b.extract at2 (kb - 1)).reverse).toList.reverse at1 at2 := by
                rw [Array.toList_append, List.reverse_append, Array.toList_reverse, List.reverse_reverse, ext_some]
                refine m2.takeB pb at2 hkn2 fun x hx y hy => ?_
                obtain ⟨j, hj1, hj2, e1⟩ := mem_t (rk := rk) hx
                obtain ⟨i, hi1, hi2, e2⟩ := mem_dt (rk := rk) hy
                rw [e1, e2]
                exact Nat.le_trans (ua j (at1 - 1) (by omega) ha1) (q6 (at2 + i) (by omega) (by omega))
              have q7 : 0 < at2 -> K rk b (at2 - 1) <= K rk a (at1 - 1) := fun hz => Nat.le_of_lt (q5 (at2 - 1) (by omega))
              have q8 : ¬ kb - 1 - at2 > 0 -> out1.push b[kb - 1] ++ (b.extract at2 (kb - 1)).reverse = out1.push b[kb - 1] /\ at2 = kb - 1 := fun e => by
                have : at2 = kb - 1 := by omega
                subst this
                refine ⟨?_, rfl⟩
                rw [Array.extract_empty_of_stop_le_start (Nat.le_refl _)]; simp
              by_cases hk2 : kb - 1 - at2 > 0
              . rw [if_pos hk2]
                by_cases he3 : at2 = 1
                . rw [if_pos (by simpa using he3)]
                  obtain ⟨p, r⟩ := lastB _ at1 at2 m3 he3
                  exact wpS_pure (.inr ⟨_, _, _, rfl, rfl, p, r⟩)
                rw [if_neg (by simpa using he3), if_neg (by simp; omega)]
                refine wpS_bind (wpS_elem ha1 ?_)
                have m4 := pushA _ at1 _ ha1 h10 m3 (by omega) q7
                by_cases he4 : at1 - 1 = 0
                . rw [if_pos (by simpa using he4)]
                  obtain ⟨p, r⟩ := done _ (at1 - 1) _ m4 he4
                  exact wpS_pure (.inr ⟨_, _, _, rfl, rfl, p, r⟩)
                rw [if_neg (by simpa using he4)]
                split
                . exact wpS_pure (.inl ⟨_, _, _, _, _, _, _, rfl, rfl, m4, by omega, by omega, by omega, by omega, by omega⟩)
                . exact wpS_pure ⟨_, _, _, _, _, _, _, rfl, rfl, m4, by omega, by omega, by omega, by omega, by omega⟩
              . rw [if_neg hk2]
                obtain ⟨z3, z4⟩ := q8 hk2
                rw [z3] at m3
                rw [z4] at m3 q7
                refine wpS_bind (wpS_elem ha1 ?_)
                have m4 := pushA _ at1 _ ha1 h10 m3 (by omega) fun _ => q7 (by omega)
                by_cases he4 : at1 - 1 = 0
                . rw [if_pos (by simpa using he4)]
                  obtain ⟨p, r⟩ := done _ (at1 - 1) _ m4 he4
                  exact wpS_pure (.inr ⟨_, _, _, rfl, rfl, p, r⟩)
                rw [if_neg (by simpa using he4)]
                split
                . exact wpS_pure (.inl ⟨_, _, _, _, _, _, _, rfl, rfl, m4, by omega, by omega, by omega, by omega, by omega⟩)
                . exact wpS_pure ⟨_, _, _, _, _, _, _, rfl, rfl, m4, by omega, by omega, by omega, by omega, by omega⟩
      . exact wpS_pure ⟨r, g', _, rfl, rfl, p, q⟩
end
end SortB
end
section
namespace SortB
open PySem PySem.W PyProof.Rows
def Up (rk : Keyed -> Nat) (a : Array Keyed) (lo hi : Nat) : Prop := ∀ i j, lo <= i -> i <= j -> j < hi -> K rk a i <= K rk a j
structure Ch (rk : Keyed -> Nat) (lo hi : Nat) (a b : Array Keyed) : Prop where
  perm : b.Perm a
  out : ∀ j, j < lo \/ hi <= j -> K rk b j = K rk a j
section
variable {rk : Keyed -> Nat} {a b c : Array Keyed} {lo hi lo' hi' i j k n : Nat}
theorem Ch.refl : Ch rk lo hi a a := ⟨Array.Perm.refl _, fun _ _ => rfl⟩
theorem Ch.size (h : Ch rk lo hi a b) : b.size = a.size := h.perm.size_eq
theorem Ch.trans (h : Ch rk lo hi a b) (h' : Ch rk lo hi b c) : Ch rk lo hi a c := ⟨h'.perm.trans h.perm, fun j hj => (h'.out j hj).trans (h.out j hj)⟩
theorem Ch.mono (h : Ch rk lo hi a b) (h1 : lo' <= lo) (h2 : hi <= hi') : Ch rk lo' hi' a b := ⟨h.perm, fun j hj => h.out j (by omega)⟩
theorem Ch.all {S : Keyed -> Prop} (h : Ch rk lo hi a b) (hS : ∀ x ∈ a, S x) : ∀ x ∈ b, S x := fun x hx => hS x (h.perm.mem_iff.mp hx)
theorem K_rev (hj : j <= a.size) (k : Nat) : K rk (mirror a i j ((j - i) / 2)) k = if i <= k /\ k < j then K rk a (i + j - 1 - k) else K rk a k := by
  have e := getElem?_mirror_all (i := i) hj k
  split at e
  . rename_i h; rw [if_pos h]; exact K_of e
  . rename_i h; rw [if_neg h]; exact K_of e
theorem K_bub {src d : Nat} (hs : src < a.size) (hd : d <= src) (k : Nat) : K rk (bubble a src d) k = if k = src - d then K rk a src else if src - d < k /\ k <= src then K rk a (k - 1) else K rk a k := by
  have e := getElem?_bubble hs d hd k
  by_cases h1 : k = src - d
  . rw [if_pos h1] at e ⊢; exact K_of e
  . rw [if_neg h1] at e ⊢
    by_cases h2 : src - d < k /\ k <= src
    . rw [if_pos h2] at e ⊢; exact K_of e
    . rw [if_neg h2] at e ⊢; exact K_of e
theorem Ch.rev (hj : j <= a.size) (h1 : lo <= i) (h2 : j <= hi) : Ch rk lo hi a (mirror a i j ((j - i) / 2)) :=
  ⟨mirror_perm _ _ _ _, fun k hk => by rw [K_rev hj, if_neg (by omega)]⟩
theorem Ch.bub {src d : Nat} (hs : src < a.size) (hd : d <= src) (h1 : lo <= src - d) (h2 : src < hi) : Ch rk lo hi a (bubble a src d) :=
  ⟨bubble_perm _ _ _, fun k hk => by rw [K_bub hs hd, if_neg (by omega), if_neg (by omega)]⟩
theorem Up.ext (u : Up rk a lo hi) (h : ∀ i, lo <= i -> i < hi -> K rk b i = K rk a i) : Up rk b lo hi := fun i j h1 h2 h3 => by
  rw [h i h1 (by omega), h j (by omega) h3]; exact u i j h1 h2 h3
theorem Up.rs (u : Up rk a lo hi) (hh : hi <= a.size) : Rs rk (a.extract lo hi).toList := by
  refine List.pairwise_iff_getElem.mpr ?_
  intro i j hi' hj' hij
  simp only [Array.length_toList, Array.size_extract] at hi' hj'
  have := u (lo + i) (lo + j) (by omega) (by omega) (by omega)
  rw [K_get (by omega), K_get (by omega)] at this
  simpa using this
theorem K_ext (h : lo + i < hi) (hh : hi <= a.size) : K rk (a.extract lo hi) i = K rk a (lo + i) := by
  have e : i < (a.extract lo hi).size := by rw [Array.size_extract]; omega
  rw [K_get e, K_get (by omega)]
  simp
theorem mem_ext {x : Keyed} (h : x ∈ a.extract lo hi) : x ∈ a := by
  have := Array.mem_toList_iff.mpr h
  rw [ext_some] at this
  exact Array.mem_toList_iff.mp (List.mem_of_mem_drop (List.mem_of_mem_take this))
theorem put_get (m : List Keyed) : ∀ (a : Array Keyed) (sa n : Nat), sa + n + m.length <= a.size -> ∀ i : Nat, ((m.zipIdx n).foldl (fun a (x : Keyed × Nat) => a.setIfInBounds (sa + x.2) x.1) a)[i]? = if sa + n <= i /\ i < sa + n + m.length then m[i - (sa + n)]? else a[i]? := by
  induction m with
  | nil => intro a sa n _ i; rw [if_neg (by simp)]; simp
  | cons x m ih =>
    intro a sa n hs i
    rw [List.length_cons] at hs ⊢
    rw [List.zipIdx_cons, List.foldl_cons, ih (a.setIfInBounds (sa + n) x) sa (n + 1) (by simp; omega)]
    by_cases h1 : i = sa + n
    . subst h1
      rw [if_neg (by omega), if_pos (by omega)]
      simp [show sa + n < a.size by omega]
    . by_cases h2 : sa + n <= i /\ i < sa + n + (m.length + 1)
      . rw [if_pos h2, if_pos (by omega), show i - (sa + n) = (i - (sa + (n + 1))) + 1 by omega, List.getElem?_cons_succ]
      . rw [if_neg h2, if_neg (by omega), Array.getElem?_setIfInBounds_ne (by omega)]
theorem put_list (m : List Keyed) (a : Array Keyed) (sa : Nat) (h : sa + m.length <= a.size) : (m.zipIdx.foldl (fun a (x : Keyed × Nat) => a.setIfInBounds (sa + x.2) x.1) a).toList = a.toList.take sa ++ m ++ a.toList.drop (sa + m.length) := by
  apply List.ext_getElem?
  intro i
  have e := put_get m a sa 0 (by omega) i
  rw [Array.getElem?_toList, e]
  simp only [Nat.add_zero]
  rw [List.append_assoc]
  by_cases h1 : i < sa
  . rw [if_neg (by omega), List.getElem?_append_left (by simp; omega), List.getElem?_take_of_lt h1]; simp
  . rw [List.getElem?_append_right (by simp; omega)]
    have e2 : (a.toList.take sa).length = sa := by simp; omega
    rw [e2]
    by_cases h2 : i < sa + m.length
    . rw [if_pos (by omega), List.getElem?_append_left (by omega)]
    . rw [if_neg (by omega), List.getElem?_append_right (by omega), List.getElem?_drop, Array.getElem?_toList]
      congr 1; omega
end
section
variable {prog : Program} {w : World} {A : Around} {E : Value -> Shared -> Prop} {s : Shared} {κ : SortKind} {rk : Keyed -> Nat} {S : Keyed -> Prop}
theorem wpS_set {M : Model} {σ : Type} {v st : σ} {Q : PUnit -> σ -> Prop} (h : Q ⟨⟩ v) : wpS M A E s (set v : StateT σ Sem PUnit) Q st := by
  unfold wpS; rw [StateT.run_set]; exact wpAny_pure ⟨rfl, h⟩
theorem mergeAt_ok (L : LtOk prog w A E s κ rk S) {st : SortSt} {i sa na p nb q : Nat} {Q : Bool -> SortSt -> Prop} (hk : kindOf st = κ) (hf : failedOf st = none) (hS : ∀ x ∈ arrOf st, S x) (hp1 : (pendingOf st)[i]? = some (sa, na, p)) (hp2 : (pendingOf st)[i + 1]? = some (sa + na, nb, q))
    (na0 : 0 < na) (nb0 : 0 < nb) (hsz : sa + na + nb <= (arrOf st).size) (uA : Up rk (arrOf st) sa (sa + na)) (uB : Up rk (arrOf st) (sa + na) (sa + na + nb))
    (h : ∀ a' g, Ch rk sa (sa + na + nb) (arrOf st) a' -> Up rk a' sa (sa + na + nb) -> Q true (SortSt.mk' κ a' (((pendingOf st).setIfInBounds i (sa, na + nb, p)).eraseIdxIfInBounds (i + 1)) g none)) : wpS (model prog w) A E s (mergeAt' i) Q st := by
  rcases st with ⟨kd, a, pd0, g0, f0⟩
  change kd = κ at hk
  change f0 = none at hf
  change ∀ x ∈ a, S x at hS
  change pd0[i]? = some (sa, na, p) at hp1
  change pd0[i + 1]? = some (sa + na, nb, q) at hp2
  change sa + na + nb <= a.size at hsz
  change Up rk a sa (sa + na) at uA
  change Up rk a (sa + na) (sa + na + nb) at uB
  change ∀ a' g, Ch rk sa (sa + na + nb) a a' -> Up rk a' sa (sa + na + nb) -> Q true (SortSt.mk' κ a' ((pd0.setIfInBounds i (sa, na + nb, p)).eraseIdxIfInBounds (i + 1)) g none) at h
  subst hk hf
  refine wpS_bind (wpS_get ?_)
  have e1 : (pd0[i]?, pd0[i + 1]?) = (some (sa, na, p), some (sa + na, nb, q)) := by rw [hp1, hp2]
  dsimp only
  rw [e1]
  dsimp only
  generalize (pd0.setIfInBounds i (sa, na + nb, p)).eraseIdxIfInBounds (i + 1) = pd at h ⊢
  have sb1 : sa + na < a.size := by omega
  have kk : ∀ (x : Array Keyed) (pd : Array (Nat × Nat × Nat)) (g : Nat) (f : Option Value), kindOf (SortSt.mk' kd x pd g f) = kd := fun _ _ _ _ => rfl
  refine wpS_bind (wpS_set (wpS_bind (wpS_elem sb1 (wpS_bind (galR L (kk _ _ _ _) hS (hS _ (Array.getElem_mem sb1)) (by omega) na0 (fun i j h1 h2 h3 => uA i j h1 h2 h3) fun k hkn q1 q2 => ?_)))))
  rw [<- K_get (rk := rk) sb1] at q1 q2
  dsimp only
  by_cases hn : na - k = 0
  . rw [if_pos (by simpa using hn)]
    refine wpS_pure (h a _ Ch.refl fun i j h1 h2 h3 => ?_)
    by_cases hj : j < sa + na
    . exact uA i j h1 h2 hj
    . by_cases hi : i < sa + na
      . have z := q1 (i - sa) (by omega)
        rw [show sa + (i - sa) = i by omega] at z
        exact Nat.le_trans z (uB (sa + na) j (Nat.le_refl _) (by omega) h3)
      . exact uB i j (by omega) h2 h3
  rw [if_neg (by simpa using hn)]
  have la1 : sa + k + (na - k) - 1 < a.size := by omega
  refine wpS_bind (wpS_elem la1 (wpS_bind (galL L (kk _ _ _ _) hS (hS _ (Array.getElem_mem la1)) (by omega) (by omega) (fun i j h1 h2 h3 => uB i j h1 h2 h3) fun nb' hkn' q3 q4 => ?_)))
  rw [<- K_get (rk := rk) la1, show sa + k + (na - k) - 1 = sa + na - 1 by omega] at q3 q4
  dsimp only
  by_cases hn' : nb' = 0
  . rw [if_pos (by simpa using hn')]
    refine wpS_pure (h a _ Ch.refl fun i j h1 h2 h3 => ?_)
    by_cases hj : j < sa + na
    . exact uA i j h1 h2 hj
    . by_cases hi : i < sa + na
      . have z := q4 (j - (sa + na)) (by omega) (by omega)
        rw [show sa + na + (j - (sa + na)) = j by omega] at z
        exact Nat.le_trans (uA i (sa + na - 1) h1 (by omega) (by omega)) z
      . exact uB i j (by omega) h2 h3
  rw [if_neg (by simpa using hn')]
  have xs : (a.extract (sa + k) (sa + na)).size = na - k := by rw [Array.size_extract]; omega
  have ys : (a.extract (sa + na) (sa + na + nb')).size = nb' := by rw [Array.size_extract]; omega
  have px : Rs rk (a.extract (sa + k) (sa + na)).toList := Up.rs (fun i j h1 h2 h3 => uA i j (by omega) h2 h3) (by omega)
  have py : Rs rk (a.extract (sa + na) (sa + na + nb')).toList := Up.rs (fun i j h1 h2 h3 => uB i j h1 h2 (by omega)) (by omega)
  have sx : ∀ x ∈ a.extract (sa + k) (sa + na), S x := fun x hx => hS x (mem_ext hx)
  have sy : ∀ x ∈ a.extract (sa + na) (sa + na + nb'), S x := fun x hx => hS x (mem_ext hx)
  have h0 : K rk (a.extract (sa + na) (sa + na + nb')) 0 < K rk (a.extract (sa + k) (sa + na)) 0 := by
    rw [K_ext (by omega) (by omega), K_ext (by omega) (by omega)]
    exact q2 k (Nat.le_refl _) (by omega)
  have hl : ∀ i, i < (a.extract (sa + na) (sa + na + nb')).size -> K rk (a.extract (sa + na) (sa + na + nb')) i < K rk (a.extract (sa + k) (sa + na)) ((a.extract (sa + k) (sa + na)).size - 1) := fun i hi => by
    rw [ys] at hi
    rw [xs, K_ext (by omega) (by omega), K_ext (by omega) (by omega), show sa + k + (na - k - 1) = sa + na - 1 by omega]
    exact q3 i hi
  have fin : ∀ (m : Array Keyed) (g : Nat), m.toList.Perm ((a.extract (sa + k) (sa + na)).toList ++ (a.extract (sa + na) (sa + na + nb')).toList) -> Rs rk m.toList ->
      Q true (SortSt.mk' kd (m.toList.zipIdx.foldl (fun a (x : Keyed × Nat) => a.setIfInBounds (sa + k + x.2) x.1) a) pd g none) := fun m g pm rm => by
    have ml : m.toList.length = na - k + nb' := by rw [pm.length_eq, List.length_append, Array.length_toList, Array.length_toList, xs, ys]
    have gl := put_list m.toList a (sa + k) (by omega)
    have gg := put_get m.toList a (sa + k) 0 (by omega)
    simp only [Nat.add_zero] at gg
    generalize hb : m.toList.zipIdx.foldl (fun a (x : Keyed × Nat) => a.setIfInBounds (sa + k + x.2) x.1) a = b at gl gg ⊢
    have out : ∀ j, j < sa + k \/ sa + na + nb' <= j -> K rk b j = K rk a j := fun j hj => K_of (by rw [gg j, if_neg (by omega)])
    have ins : ∀ j, sa + k <= j -> j < sa + na + nb' -> K rk b j = K rk m (j - (sa + k)) := fun j h1 h2 => K_of (by rw [gg j, if_pos (by omega), Array.getElem?_toList])
    have bnd : ∀ j, sa + k <= j -> j < sa + na + nb' -> K rk a (sa + na) <= K rk b j /\ K rk b j <= K rk a (sa + na - 1) := fun j h1 h2 => by
      have hm : j - (sa + k) < m.size := by rw [<- Array.length_toList, ml]; omega
      rw [ins j h1 h2, K_get hm]
      have hin := pm.mem_iff.mp (Array.mem_toList_iff.mpr (Array.getElem_mem hm))
      rcases List.mem_append.mp hin with hx | hx
      . obtain ⟨t, ht, e⟩ := List.getElem_of_mem hx
        rw [Array.length_toList, xs] at ht
        have e' : rk m[j - (sa + k)] = K rk a (sa + k + t) := by
          rw [<- e, K_get (by omega)]; simp
        rw [e']
        exact ⟨Nat.le_of_lt (by have := q2 (k + t) (by omega) (by omega); rwa [<- Nat.add_assoc] at this), uA _ _ (by omega) (by omega) (by omega)⟩
      . obtain ⟨t, ht, e⟩ := List.getElem_of_mem hx
        rw [Array.length_toList, ys] at ht
        have e' : rk m[j - (sa + k)] = K rk a (sa + na + t) := by
          rw [<- e, K_get (by omega)]; simp
        rw [e']
        exact ⟨uB _ _ (by omega) (by omega) (by omega), Nat.le_of_lt (q3 t ht)⟩
    refine h b g ⟨Array.perm_iff_toList_perm.mpr ?_, fun j hj => out j (by omega)⟩ fun i j h1 h2 h3 => ?_
    . rw [gl, ml]
      have ea : a.toList = a.toList.take (sa + k) ++ ((a.extract (sa + k) (sa + na)).toList ++ (a.extract (sa + na) (sa + na + nb')).toList) ++ a.toList.drop (sa + k + (na - k + nb')) := by
        rw [ext_some, ext_some, List.append_assoc, List.append_assoc]
        rw [show sa + na + nb' - (sa + na) = nb' by omega, show sa + k + (na - k + nb') = sa + na + nb' by omega, <- drop_split a.toList (sa + na) nb', <- drop_mid (show sa + k <= sa + na by omega), List.take_append_drop]
      exact ((pm.append_left _).append_right _).trans (List.Perm.of_eq ea.symm)
    . by_cases ci : i < sa + k
      . rw [out i (by omega)]
        have z := q1 (i - sa) (by omega)
        rw [show sa + (i - sa) = i by omega] at z
        by_cases cj : j < sa + k
        . rw [out j (by omega)]; exact uA i j h1 h2 (by omega)
        . by_cases cj2 : j < sa + na + nb'
          . exact Nat.le_trans z (bnd j (by omega) cj2).1
          . rw [out j (by omega)]
            exact Nat.le_trans z (uB _ _ (by omega) (by omega) h3)
      . by_cases ci2 : i < sa + na + nb'
        . by_cases cj2 : j < sa + na + nb'
          . rw [ins i (by omega) ci2, ins j (by omega) cj2]
            exact rm.le (by omega) (by rw [<- Array.length_toList, ml]; omega)
          . rw [out j (by omega)]
            have z := q4 (j - (sa + na)) (by omega) (by omega)
            rw [show sa + na + (j - (sa + na)) = j by omega] at z
            exact Nat.le_trans (bnd i (by omega) ci2).2 z
        . rw [out i (by omega), out j (by omega)]
          exact uB i j (by omega) h2 h3
  split
  . refine wpS_bind (mergeLo_ok L (kk _ _ _ _) sx sy (by omega) (by omega) px py (Nat.le_of_lt h0) hl fun m g pm rm => ?_)
    exact wpS_bind (wpS_modify (wpS_bind (wpS_get (wpS_pure (fin m g pm rm)))))
  . refine wpS_bind (mergeHi_ok L (kk _ _ _ _) sx sy (by omega) (by omega) px py h0 hl fun m g pm rm => ?_)
    exact wpS_bind (wpS_modify (wpS_bind (wpS_get (wpS_pure (fin m g pm rm)))))
end
end SortB
end
section
namespace SortB
open PySem PySem.W PyProof.Rows
section
variable {prog : Program} {w : World} {A : Around} {E : Value -> Shared -> Prop} {s : Shared} {κ : SortKind} {rk : Keyed -> Nat} {S : Keyed -> Prop}
abbrev mk (κ : SortKind) (a : Array Keyed) (pd : Array (Nat × Nat × Nat)) (g : Nat) : SortSt := SortSt.mk' κ a pd g none
theorem ltat (L : LtOk prog w A E s κ rk S) {a : Array Keyed} {pd : Array (Nat × Nat × Nat)} {g i j : Nat} {Q : Option Bool -> SortSt -> Prop} (hS : ∀ x ∈ a, S x) (hi : i < a.size) (hj : j < a.size)
    (h : Q (some (decide (K rk a i < K rk a j))) (mk κ a pd g)) : wpS (model prog w) A E s (ltAt' i j) Q (mk κ a pd g) := wpS_at L rfl hS hi hj h
theorem rev_ok {a : Array Keyed} {pd : Array (Nat × Nat × Nat)} {g i j : Nat} {Q : Unit -> SortSt -> Prop} (h : Q () (mk κ (mirror a i j ((j - i) / 2)) pd g)) : wpS (model prog w) A E s (reverseSlice' i j) Q (mk κ a pd g) := wpS_modify h
def Dn (rk : Keyed -> Nat) (a : Array Keyed) (lo hi : Nat) : Prop := ∀ i j, lo <= i -> i <= j -> j < hi -> K rk a j <= K rk a i
theorem Up.step {a : Array Keyed} {lo n : Nat} (u : Up rk a lo (lo + n)) (hn : 1 <= n) (h : ¬ K rk a (lo + n) < K rk a (lo + n - 1)) : Up rk a lo (lo + (n + 1)) := fun i j h1 h2 h3 => by
  by_cases hj : j < lo + n
  . exact u i j h1 h2 hj
  . have : j = lo + n := by omega
    subst this
    by_cases hi : i = lo + n
    . rw [hi]; exact Nat.le_refl _
    . have := u i (lo + n - 1) h1 (by omega) (by omega); omega
theorem Dn.step {a : Array Keyed} {lo n : Nat} (u : Dn rk a lo (lo + n)) (hn : 1 <= n) (h : K rk a (lo + n) <= K rk a (lo + n - 1)) : Dn rk a lo (lo + (n + 1)) := fun i j h1 h2 h3 => by
  by_cases hj : j < lo + n
  . exact u i j h1 h2 hj
  . have : j = lo + n := by omega
    subst this
    by_cases hi : i = lo + n
    . rw [hi]; exact Nat.le_refl _
    . have := u i (lo + n - 1) h1 (by omega) (by omega); omega
theorem rev_same {a : Array Keyed} {i j : Nat} (hj : j <= a.size) (e : ∀ k, i <= k -> k < j -> K rk a k = K rk a (j - 1)) (k : Nat) : K rk (mirror a i j ((j - i) / 2)) k = K rk a k := by
  rw [K_rev hj]
  by_cases h : i <= k /\ k < j
  . rw [if_pos h, e _ (by omega) (by omega), e k h.1 h.2]
  . rw [if_neg h]
theorem countRun_ok (L : LtOk prog w A E s κ rk S) {a : Array Keyed} {pd : Array (Nat × Nat × Nat)} {g lo nrem : Nat} {Q : Option Nat -> SortSt -> Prop} (hS : ∀ x ∈ a, S x) (h1 : 1 <= nrem) (hsz : lo + nrem <= a.size)
    (h : ∀ m b, 1 <= m -> m <= nrem -> Ch rk lo (lo + nrem) a b -> Up rk b lo (lo + m) -> Q (some m) (mk κ b pd g)) : wpS (model prog w) A E s (countRun' lo nrem) Q (mk κ a pd g) := by
  have ll : lo + 1 - 1 = lo := by omega
  refine wpS_bind (wpS_mono (wpS_forRange (I := fun x c st' => st' = mk κ a pd g /\ c = (none, x) /\ Up rk a lo (lo + x))
    (Q := fun c st' => st' = mk κ a pd g /\ ∃ n, c = (none, n) /\ 1 <= n /\ n <= nrem /\ Up rk a lo (lo + n) /\ (n = nrem \/ K rk a (lo + n) < K rk a (lo + n - 1))) ?step ?fin ⟨rfl, rfl, fun i j h1 h2 h3 => by rw [show i = j by omega]; exact Nat.le_refl _⟩) ?post)
  case step =>
    rintro x c st' hx1 hx2 ⟨rfl, rfl, u⟩
    dsimp only
    refine wpS_bind (ltat L hS (by omega) (by omega) ?_)
    by_cases hw : K rk a (lo + x) < K rk a (lo + x - 1)
    . simp only [hw, decide_true, if_true]
      exact wpS_pure ⟨rfl, x, rfl, hx1, by omega, u, .inr hw⟩
    . simp only [hw, decide_false, Bool.false_eq_true, if_false]
      exact wpS_pure ⟨rfl, rfl, u.step hx1 hw⟩
  case fin =>
    rintro c st' ⟨rfl, rfl, u⟩
    have e : max 1 nrem = nrem := by omega
    exact ⟨rfl, _, rfl, by omega, by omega, u, .inl e⟩
  case post =>
    rintro c st' ⟨rfl, n, rfl, hn1, hn2, u, hor⟩
    dsimp only
    by_cases hnn : n = nrem
    . rw [if_pos (by simpa using hnn)]
      exact wpS_pure (h n a hn1 hn2 Ch.refl u)
    rw [if_neg (by simpa using hnn)]
    have hlt := hor.resolve_left hnn
    suffices D : ∀ b : Array Keyed, Ch rk lo (lo + nrem) a b -> Dn rk b lo (lo + (n + 1)) -> wpS (model prog w) A E s _ Q (mk κ b pd g) by
      by_cases hg : n > 1
      . rw [if_pos hg]
        refine wpS_bind (ltat L hS (by omega) (by omega) ?_)
        by_cases hr : K rk a lo < K rk a (lo + n - 1)
        . simp only [hr, decide_true, if_true]
          exact wpS_pure (h n a hn1 hn2 Ch.refl u)
        . simp only [hr, decide_false, Bool.false_eq_true, if_false]
          have eq : ∀ k, lo <= k -> k < lo + n -> K rk a k = K rk a (lo + n - 1) := fun k h1 h2 => by
            have a1 := u lo k (Nat.le_refl _) h1 h2
            have a2 := u k (lo + n - 1) h1 (by omega) (by omega)
            omega
          have rs := rev_same (rk := rk) (a := a) (i := lo) (j := lo + n) (by omega) eq
          refine wpS_bind (rev_ok (D _ (Ch.rev (by omega) (Nat.le_refl _) (by omega)) ?_))
          refine Dn.step (fun i j h1 h2 h3 => ?_) hn1 ?_
          . rw [rs, rs, eq i h1 (by omega), eq j (by omega) h3]; exact Nat.le_refl _
          . rw [rs, rs]; exact Nat.le_of_lt hlt
      . rw [if_neg hg]
        have : n = 1 := by omega
        subst this
        exact D a Ch.refl (Dn.step (fun i j h1 h2 h3 => by rw [show i = j by omega]; exact Nat.le_refl _) (Nat.le_refl _) (Nat.le_of_lt hlt))
    intro b cb db
    refine wpS_bind (wpS_lift (wpAny_rule ⟨rfl, ?_⟩))
    refine wpS_bind (wpS_mono (wpS_forRange (I := fun x c st' => ∃ b' q, c = (none, x, q) /\ st' = mk κ b' pd g /\ Ch rk lo (lo + nrem) a b' /\ Dn rk b' lo (lo + x) /\ q + 1 <= x /\ ∀ i, lo + x - (q + 1) <= i -> i < lo + x -> K rk b' i = K rk b' (lo + x - 1))
      (Q := fun c st' => ∃ b' n' q, c = (none, n', q) /\ st' = mk κ b' pd g /\ n' <= nrem /\ Ch rk lo (lo + nrem) a b' /\ Dn rk b' lo (lo + n') /\ q + 1 <= n' /\ ∀ i, lo + n' - (q + 1) <= i -> i < lo + n' -> K rk b' i = K rk b' (lo + n' - 1)) ?dstep ?dfin ⟨b, 0, rfl, rfl, cb, db, by omega, fun i h1 h2 => by congr 1; omega⟩) ?dpost)
    case dfin =>
      rintro c st' ⟨b', q, rfl, rfl, cb, db, hq, he⟩
      exact ⟨b', _, q, rfl, rfl, by omega, cb, db, hq, he⟩
    case dstep =>
      rintro x c st' hx1 hx2 ⟨b', q, rfl, rfl, cb, db, hq, he⟩
      dsimp only
      have bs := cb.size
      have hS' := cb.all hS
      refine wpS_bind (ltat L hS' (by omega) (by omega) ?_)
      by_cases hw : K rk b' (lo + x) < K rk b' (lo + x - 1)
      . simp only [hw, decide_true, if_true]
        have one : ∀ (y : Array Keyed) i, lo + (x + 1) - (0 + 1) <= i -> i < lo + (x + 1) -> K rk y i = K rk y (lo + (x + 1) - 1) := fun y i h1 h2 => by congr 1; omega
        by_cases hq0 : q > 0
        . rw [if_pos hq0]
          have rs := rev_same (rk := rk) (a := b') (i := lo + x - (q + 1)) (j := lo + x) (by omega) he
          refine wpS_bind (rev_ok (wpS_pure ⟨_, 0, rfl, rfl, cb.trans (Ch.rev (by omega) (by omega) (by omega)), ?_, by omega, one _⟩))
          refine Dn.step (fun i j h1 h2 h3 => ?_) (by omega) ?_
          . rw [rs, rs]; exact db i j h1 h2 h3
          . rw [rs, rs]; exact Nat.le_of_lt hw
        . rw [if_neg hq0]
          exact wpS_pure ⟨b', 0, rfl, rfl, cb, db.step (by omega) (Nat.le_of_lt hw), by omega, one _⟩
      . simp only [hw, decide_false, Bool.false_eq_true, if_false]
        refine wpS_bind (ltat L hS' (by omega) (by omega) ?_)
        by_cases hv : K rk b' (lo + x - 1) < K rk b' (lo + x)
        . simp only [hv, decide_true, if_true]
          exact wpS_pure ⟨b', x, q, rfl, rfl, by omega, cb, db, hq, he⟩
        . simp only [hv, decide_false, Bool.false_eq_true, if_false]
          have e2 : K rk b' (lo + x) = K rk b' (lo + x - 1) := by omega
          refine wpS_pure ⟨b', q + 1, rfl, rfl, cb, db.step (by omega) (by omega), by omega, fun i h1 h2 => ?_⟩
          rw [show lo + (x + 1) - 1 = lo + x by omega]
          by_cases hi : i = lo + x
          . rw [hi]
          . rw [e2]; exact he i (by omega) (by omega)
    case dpost =>
      rintro c st' ⟨b', n', q, rfl, rfl, hn', cb, db, hq, he⟩
      dsimp only
      have bs := cb.size
      suffices T : ∀ c : Array Keyed, Ch rk lo (lo + nrem) a c -> Dn rk c lo (lo + n') -> wpS (model prog w) A E s _ Q (mk κ c pd g) by
        by_cases hq0 : q > 0
        . rw [if_pos hq0]
          have rs := rev_same (rk := rk) (a := b') (i := lo + n' - (q + 1)) (j := lo + n') (by omega) he
          refine wpS_bind (rev_ok (T _ (cb.trans (Ch.rev (by omega) (by omega) (by omega))) fun i j h1 h2 h3 => ?_))
          rw [rs, rs]; exact db i j h1 h2 h3
        . rw [if_neg hq0]
          exact T b' cb db
      intro c cc dc
      have cs := cc.size
      refine wpS_bind (rev_ok ?_)
      have ce : Ch rk lo (lo + nrem) a (mirror c lo (lo + n') ((lo + n' - lo) / 2)) := cc.trans (Ch.rev (by omega) (Nat.le_refl _) (by omega))
      have ue : Up rk (mirror c lo (lo + n') ((lo + n' - lo) / 2)) lo (lo + n') := fun i j h1 h2 h3 => by
        rw [K_rev (by omega), K_rev (by omega), if_pos (by omega), if_pos (by omega)]
        exact dc _ _ (by omega) (by omega) (by omega)
      generalize mirror c lo (lo + n') ((lo + n' - lo) / 2) = e at ce ue ⊢
      have es := ce.size
      refine wpS_bind (wpS_mono (wpS_forRange (I := fun x c st' => st' = mk κ e pd g /\ c = (none, x) /\ Up rk e lo (lo + x))
        (Q := fun c st' => st' = mk κ e pd g /\ ∃ n, c = (none, n) /\ 1 <= n /\ n <= nrem /\ Up rk e lo (lo + n)) ?estep ?efin ⟨rfl, rfl, ue⟩) ?epost)
      case estep =>
        rintro x c st' hx1 hx2 ⟨rfl, rfl, u⟩
        dsimp only
        refine wpS_bind (ltat L (ce.all hS) (by omega) (by omega) ?_)
        by_cases hw : K rk e (lo + x) < K rk e (lo + x - 1)
        . simp only [hw, decide_true, if_true]
          exact wpS_pure ⟨rfl, x, rfl, by omega, by omega, u⟩
        . simp only [hw, decide_false, Bool.false_eq_true, if_false]
          exact wpS_pure ⟨rfl, rfl, u.step (by omega) hw⟩
      case efin =>
        rintro c st' ⟨rfl, rfl, u⟩
        exact ⟨rfl, _, rfl, by omega, by omega, u⟩
      case epost =>
        rintro c st' ⟨rfl, m, rfl, hm1, hm2, u⟩
        exact wpS_pure (h m e hm1 hm2 ce u)
theorem binarySort_ok (L : LtOk prog w A E s κ rk S) {a : Array Keyed} {pd : Array (Nat × Nat × Nat)} {g lo n ok : Nat} {Q : Bool -> SortSt -> Prop} (hS : ∀ x ∈ a, S x) (hsz : lo + n <= a.size) (hok : 1 <= ok) (hn : ok <= n) (u : Up rk a lo (lo + ok))
    (h : ∀ b, Ch rk lo (lo + n) a b -> Up rk b lo (lo + n) -> Q true (mk κ b pd g)) : wpS (model prog w) A E s (binarySort' lo n ok) Q (mk κ a pd g) := by
  refine wpS_bind (wpS_mono (wpS_forRange (I := fun x c st' => c = (none, ()) /\ ∃ b, st' = mk κ b pd g /\ Ch rk lo (lo + n) a b /\ Up rk b lo (lo + x)) (Q := fun c st' => c = (none, ()) /\ ∃ b, st' = mk κ b pd g /\ Ch rk lo (lo + n) a b /\ Up rk b lo (lo + n)) ?step ?fin ⟨rfl, a, rfl, Ch.refl, by rw [show max ok 1 = ok by omega]; exact u⟩) ?post)
  case fin =>
    rintro c st' ⟨rfl, b, rfl, cb, ub⟩
    rw [show max (max ok 1) n = n by omega] at ub
    exact ⟨rfl, b, rfl, cb, ub⟩
  case post =>
    rintro c st' ⟨rfl, b, rfl, cb, ub⟩
    exact wpS_pure (h b cb ub)
  case step =>
    rintro k c st' hk1 hk2 ⟨rfl, b, rfl, cb, ub⟩
    have bs := cb.size
    dsimp only
    refine wpS_bind (wpS_mono (wpS_forRange (I := fun x c st' => st' = mk κ b pd g /\ ∃ l r, c = (none, l, r) /\ l <= r /\ r <= k /\ r - l <= k - x /\ (∀ i, lo <= i -> i < lo + l -> K rk b i <= K rk b (lo + k)) /\ ∀ i, lo + r <= i -> i < lo + k -> K rk b (lo + k) < K rk b i)
      (Q := fun c st' => st' = mk κ b pd g /\ ∃ l r, c = (none, l, r) /\ l <= k /\ (∀ i, lo <= i -> i < lo + l -> K rk b i <= K rk b (lo + k)) /\ ∀ i, lo + l <= i -> i < lo + k -> K rk b (lo + k) < K rk b i) ?istep ?ifin ⟨rfl, 0, k, rfl, by omega, by omega, by omega, fun i h1 h2 => by omega, fun i h1 h2 => by omega⟩) ?ipost)
    case ifin =>
      rintro c st' ⟨rfl, l, r, rfl, h1, h2, h3, h4, h5⟩
      have : l = r := by omega
      subst this
      exact ⟨rfl, l, l, rfl, h2, h4, h5⟩
    case istep =>
      rintro x c st' _ hx ⟨rfl, l, r, rfl, h1, h2, h3, h4, h5⟩
      dsimp only
      by_cases hge : l >= r
      . rw [if_pos hge]
        have : l = r := by omega
        subst this
        exact wpS_pure ⟨rfl, l, l, rfl, h2, h4, h5⟩
      . rw [if_neg hge]
        refine wpS_bind (ltat L (cb.all hS) (by omega) (by omega) ?_)
        by_cases hw : K rk b (lo + k) < K rk b (lo + (l + r) / 2)
        . simp only [hw, decide_true, if_true]
          exact wpS_pure ⟨rfl, l, _, rfl, by omega, by omega, by omega, h4, fun i a1 a2 => Nat.lt_of_lt_of_le hw (ub _ i (by omega) a1 a2)⟩
        . simp only [hw, decide_false, Bool.false_eq_true, if_false]
          exact wpS_pure ⟨rfl, _, r, rfl, by omega, by omega, by omega, fun i a1 a2 => Nat.le_trans (ub i (lo + (l + r) / 2) a1 (by omega) (by omega)) (Nat.not_lt.mp hw), h5⟩
    case ipost =>
      rintro c st' ⟨rfl, l, r, rfl, h1, h4, h5⟩
      have e : lo + k - (lo + k - (lo + l)) = lo + l := by omega
      refine wpS_bind (wpS_modify (wpS_pure ⟨rfl, bubble b (lo + k) (lo + k - (lo + l)), rfl, cb.trans (Ch.bub (by omega) (by omega) (by omega) (by omega)), fun i j a1 a2 a3 => ?_⟩))
      rw [K_bub (by omega) (by omega), K_bub (by omega) (by omega), e]
      by_cases i1 : i = lo + l
      . rw [if_pos i1]
        by_cases j1 : j = lo + l
        . rw [if_pos j1]; exact Nat.le_refl _
        . rw [if_neg j1, if_pos (by omega)]
          exact Nat.le_of_lt (h5 _ (by omega) (by omega))
      . rw [if_neg i1]
        by_cases i2 : lo + l < i /\ i <= lo + k
        . rw [if_pos i2, if_neg (by omega), if_pos (by omega)]
          exact ub _ _ (by omega) (by omega) (by omega)
        . rw [if_neg i2]
          by_cases j1 : j = lo + l
          . rw [if_pos j1]; exact h4 i a1 (by omega)
          . rw [if_neg j1]
            by_cases j2 : lo + l < j /\ j <= lo + k
            . rw [if_pos j2]; exact ub _ _ (by omega) (by omega) (by omega)
            . rw [if_neg j2]; exact ub _ _ (by omega) (by omega) (by omega)
end
end SortB
end
section
namespace SortB
open PySem PySem.W PyProof.Rows
def Cov (rk : Keyed -> Nat) (a : Array Keyed) : List (Nat × Nat × Nat) -> Nat -> Nat -> Prop
  | [], lo, hi => lo = hi
  | (s, n, _) :: r, lo, hi => s = lo /\ 0 < n /\ Up rk a lo (lo + n) /\ Cov rk a r (lo + n) hi
section
variable {rk : Keyed -> Nat} {a b : Array Keyed} {l r : List (Nat × Nat × Nat)} {lo hi mid : Nat}
theorem Cov.le : ∀ {l : List (Nat × Nat × Nat)} {lo hi : Nat}, Cov rk a l lo hi -> lo + l.length <= hi
  | [], lo, hi, h => by have : lo = hi := h; simp; omega
  | (s, n, p) :: r, lo, hi, h => by
    obtain ⟨_, h1, _, h2⟩ := h
    have := Cov.le h2
    rw [List.length_cons]; omega
theorem Cov.app : ∀ {l : List (Nat × Nat × Nat)} {lo : Nat}, Cov rk a (l ++ r) lo hi ↔ ∃ mid, Cov rk a l lo mid /\ Cov rk a r mid hi
  | [], lo => ⟨fun h => ⟨lo, rfl, h⟩, fun ⟨m, e, h⟩ => by have : lo = m := e; subst this; exact h⟩
  | (s, n, p) :: l, lo => by
    show (s = lo /\ 0 < n /\ Up rk a lo (lo + n) /\ Cov rk a (l ++ r) (lo + n) hi) ↔ ∃ mid, (s = lo /\ 0 < n /\ Up rk a lo (lo + n) /\ Cov rk a l (lo + n) mid) /\ Cov rk a r mid hi
    rw [Cov.app]
    exact ⟨fun ⟨a1, a2, a3, m, a4, a5⟩ => ⟨m, ⟨a1, a2, a3, a4⟩, a5⟩, fun ⟨m, ⟨a1, a2, a3, a4⟩, a5⟩ => ⟨a1, a2, a3, m, a4, a5⟩⟩
theorem Cov.ext : ∀ {l : List (Nat × Nat × Nat)} {lo : Nat}, Cov rk a l lo hi -> (∀ j, lo <= j -> j < hi -> K rk b j = K rk a j) -> Cov rk b l lo hi
  | [], _, h, _ => h
  | (s, n, p) :: l, lo, h, e => by
    obtain ⟨a1, a2, a3, a4⟩ := h
    have := Cov.le a4
    exact ⟨a1, a2, a3.ext fun i h1 h2 => e i h1 (by omega), a4.ext fun j h1 h2 => e j (by omega) h2⟩
theorem Cov.pow : ∀ {l l' : List (Nat × Nat × Nat)} {lo : Nat}, l.map (fun x => (x.1, x.2.1)) = l'.map (fun x => (x.1, x.2.1)) -> Cov rk a l lo hi -> Cov rk a l' lo hi
  | [], [], _, _, h => h
  | [], _ :: _, _, e, _ => by simp at e
  | _ :: _, [], _, e, _ => by simp at e
  | (s, n, p) :: l, (s', n', p') :: l', lo, e, h => by
    simp only [List.map_cons, List.cons.injEq, Prod.mk.injEq] at e
    obtain ⟨⟨rfl, rfl⟩, e⟩ := e
    obtain ⟨a1, a2, a3, a4⟩ := h
    exact ⟨a1, a2, a3, Cov.pow e a4⟩
theorem split2 {l : List (Nat × Nat × Nat)} {i : Nat} (h : i + 1 < l.length) : l = l.take i ++ l[i] :: l[i + 1] :: l.drop (i + 2) := by
  have e1 : l.drop i = l[i] :: l.drop (i + 1) := List.drop_eq_getElem_cons (by omega)
  have e2 : l.drop (i + 1) = l[i + 1] :: l.drop (i + 1 + 1) := List.drop_eq_getElem_cons h
  rw [<- e2, <- e1, List.take_append_drop]
theorem fuse {pd : Array (Nat × Nat × Nat)} {i : Nat} {v : Nat × Nat × Nat} (h : i + 1 < pd.size) : ((pd.setIfInBounds i v).eraseIdxIfInBounds (i + 1)).toList = pd.toList.take i ++ v :: pd.toList.drop (i + 2) := by
  have hs : i + 1 < (pd.setIfInBounds i v).size := by simpa using h
  rw [Array.eraseIdxIfInBounds_eq, dif_pos hs, Array.toList_eraseIdx, Array.toList_setIfInBounds, List.eraseIdx_eq_take_drop_succ]
  rw [List.set_eq_take_append_cons_drop, if_pos (by simp; omega)]
  have e1 : (pd.toList.take i).length = i := by simp; omega
  rw [List.take_append, List.drop_append, e1, List.take_of_length_le (by omega), List.drop_of_length_le (by omega : (pd.toList.take i).length <= i + 1 + 1)]
  rw [show i + 1 - i = 1 by omega, show i + 1 + 1 - i = 2 by omega]
  simp
end
section
variable {prog : Program} {w : World} {A : Around} {E : Value -> Shared -> Prop} {s : Shared} {κ : SortKind} {rk : Keyed -> Nat} {S : Keyed -> Prop}
theorem merge_step (L : LtOk prog w A E s κ rk S) {b : Array Keyed} {pd : Array (Nat × Nat × Nat)} {g i hi : Nat} {Q : Bool -> SortSt -> Prop} (hS : ∀ x ∈ b, S x) (hsz : hi <= b.size) (cv : Cov rk b pd.toList 0 hi) (hi1 : i + 1 < pd.size)
    (h : ∀ c pd' g', Ch rk 0 hi b c -> Cov rk c pd'.toList 0 hi -> pd'.size + 1 = pd.size -> Q true (mk κ c pd' g')) : wpS (model prog w) A E s (mergeAt' i) Q (mk κ b pd g) := by
  have hl : i + 1 < pd.toList.length := by simpa using hi1
  have sp := split2 hl
  rw [sp] at cv
  obtain ⟨mid, c1, c2⟩ := Cov.app.mp cv
  have g1 : pd[i]? = some pd.toList[i] := by simp [show i < pd.size by omega]
  have g2 : pd[i + 1]? = some pd.toList[i + 1] := by simp [hi1]
  generalize pd.toList[i] = u at c2 g1 sp
  generalize pd.toList[i + 1] = v at c2 g2 sp
  obtain ⟨sa, na, p⟩ := u
  obtain ⟨sb, nb, q⟩ := v
  obtain ⟨rfl, n1, u1, rfl, n2, u2, c3⟩ := c2
  have le3 := c3.le
  refine mergeAt_ok L rfl rfl hS g1 g2 n1 n2 (by show sa + na + nb <= b.size; omega) u1 u2 fun c g' ch up => h c _ g' (ch.mono (Nat.zero_le _) (by omega)) ?_ ?_
  . show Cov rk c ((pd.setIfInBounds i (sa, na + nb, p)).eraseIdxIfInBounds (i + 1)).toList 0 hi
    rw [fuse hi1]
    have le1 := c1.le
    refine Cov.app.mpr ⟨sa, c1.ext fun j h1 h2 => ch.out j (by omega), rfl, by omega, ?_, ?_⟩
    . rw [<- Nat.add_assoc]; exact up
    . rw [<- Nat.add_assoc]; exact c3.ext fun j h1 h2 => ch.out j (by omega)
  . show ((pd.setIfInBounds i (sa, na + nb, p)).eraseIdxIfInBounds (i + 1)).size + 1 = pd.size
    rw [<- Array.length_toList, fuse hi1]
    simp
    omega
theorem sortRuns_ok (L : LtOk prog w A E s κ rk S) {a : Array Keyed} {g : Nat} {Q : Unit -> SortSt -> Prop} (hS : ∀ x ∈ a, S x) (h2 : 2 <= a.size)
    (h : ∀ b pd g, b.Perm a -> Up rk b 0 a.size -> Q () (mk κ b pd g)) : wpS (model prog w) A E s sortRuns' Q (mk κ a #[] g) := by
  have pend : ∀ b pd g, pendingOf (mk κ b pd g) = pd := fun _ _ _ => rfl
  rw [sortRuns'_eq]
  refine wpS_bind (wpS_get ?_)
  dsimp only
  rw [show arrOf (mk κ a #[] g) = a from rfl]
  generalize minRun' a.size a.size 0 = mr
  refine wpS_bind (wpS_mono (wpS_forRange (I := fun x c st' => ∃ lo b pd g, c = (none, lo) /\ st' = mk κ b pd g /\ b.Perm a /\ lo <= a.size /\ x <= lo /\ Cov rk b pd.toList 0 lo)
    (Q := fun c st' => ∃ b pd g, c = (none, a.size) /\ st' = mk κ b pd g /\ b.Perm a /\ Cov rk b pd.toList 0 a.size) ?step ?fin ⟨0, a, #[], g, rfl, rfl, Array.Perm.refl _, by omega, by omega, rfl⟩) ?post)
  case fin =>
    rintro c st' ⟨lo, b, pd, g, rfl, rfl, pb, h1, h3, cv⟩
    have : lo = a.size := by omega
    subst this
    exact ⟨b, pd, g, rfl, rfl, pb, cv⟩
  case post =>
    rintro c st' ⟨b, pd, g, rfl, rfl, pb, cv⟩
    dsimp only
    have hlen : pd.size <= a.size := by have := cv.le; simpa using this
    refine wpS_bind (wpS_mono (wpS_forRange (I := fun x c st' => c = (none, ()) /\ ∃ b pd g, st' = mk κ b pd g /\ b.Perm a /\ Cov rk b pd.toList 0 a.size /\ pd.size + x <= a.size) (Q := fun c st' => c = (none, ()) /\ ∃ b pd g, st' = mk κ b pd g /\ b.Perm a /\ Cov rk b pd.toList 0 a.size /\ pd.size <= 1) ?lstep ?lfin ⟨rfl, b, pd, g, rfl, pb, cv, hlen⟩) ?lpost)
    case lfin =>
      rintro c st' ⟨rfl, b, pd, g, rfl, pb, cv, hx⟩
      exact ⟨rfl, b, pd, g, rfl, pb, cv, by omega⟩
    case lpost =>
      rintro c st' ⟨rfl, b, pd, g, rfl, pb, cv, hx⟩
      refine wpS_pure (h b pd g pb ?_)
      have hx' : pd.toList.length <= 1 := by simpa using hx
      match hpd : pd.toList, hx', cv with
      | [], _, cv => have : 0 = a.size := cv; omega
      | [(s0, n0, p0)], _, cv =>
        obtain ⟨e1, _, u, e2⟩ := cv
        have e2 : 0 + n0 = a.size := e2
        rw [<- e2]; exact u
      | _ :: _ :: _, hx', _ => simp at hx'
    case lstep =>
      rintro x c st' _ hx ⟨rfl, b, pd, g, rfl, pb, cv, hx2⟩
      refine wpS_bind (wpS_get ?_)
      rw [pend]
      by_cases hs : pd.size <= 1
      . rw [if_pos hs]
        exact wpS_pure ⟨rfl, b, pd, g, rfl, pb, cv, hs⟩
      rw [if_neg hs]
      refine wpS_bind (merge_step L (fun x hx => hS x (pb.mem_iff.mp hx)) (by rw [pb.size_eq]; exact Nat.le_refl _) cv ?_ fun c pd' g' ch cv' hsz => ?_)
      . have hif : ∀ (c : Bool) (i : Nat), (if c = true then i - 1 else i) <= i := fun c i => by cases c <;> simp
        exact Nat.lt_of_le_of_lt (Nat.add_le_add_right (hif _ _) 1) (by omega)
      . exact wpS_pure ⟨rfl, c, pd', g', rfl, ch.perm.trans pb, cv', by omega⟩
  case step =>
    rintro x c st' _ hx ⟨lo, b, pd, g, rfl, rfl, pb, h1, h3, cv⟩
    dsimp only
    by_cases hge : lo >= a.size
    . rw [if_pos hge]
      have : lo = a.size := by omega
      subst this
      exact wpS_pure ⟨b, pd, g, rfl, rfl, pb, cv⟩
    rw [if_neg hge]
    have bsz := pb.size_eq
    suffices T : ∀ (n : Nat) (b : Array Keyed), 1 <= n -> lo + n <= a.size -> b.Perm a -> Cov rk b pd.toList 0 lo -> Up rk b lo (lo + n) -> wpS (model prog w) A E s _ _ (mk κ b pd g) by
      refine wpS_bind (countRun_ok L (fun x hx => hS x (pb.mem_iff.mp hx)) (by omega) (by omega) fun found b1 f1 f2 ch1 up1 => ?_)
      dsimp only
      have pb1 : b1.Perm a := ch1.perm.trans pb
      have cv1 : Cov rk b1 pd.toList 0 lo := cv.ext fun j _ h => ch1.out j (by omega)
      by_cases hm : ¬ found < mr
      . rw [if_neg hm]
        exact T found b1 f1 (by omega) pb1 cv1 up1
      . have hm : found < mr := by omega
        rw [if_pos hm]
        refine wpS_bind (wpS_lift (wpAny_rule ⟨rfl, ?_⟩))
        have bsz1 := pb1.size_eq
        refine wpS_bind (binarySort_ok L (fun x hx => hS x (pb1.mem_iff.mp hx)) (by omega) f1 (by omega) up1 fun b2 ch2 up2 => ?_)
        rw [if_neg (by simp)]
        exact T _ b2 (by omega) (by omega) (ch2.perm.trans pb1) (cv1.ext fun j _ h => ch2.out j (by omega)) up2
    clear cv pb bsz
    intro n b hn1 hn2 pb cv up
    have bsz := pb.size_eq
    refine wpS_bind (wpS_get ?_)
    rw [pend]
    cases hb : pd.back? with
    | none =>
      dsimp only
      refine wpS_bind (wpS_modify (wpS_pure ⟨lo + n, b, pd.push (lo, n, 0), g, rfl, rfl, pb, hn2, by omega, ?_⟩))
      rw [Array.toList_push]
      exact Cov.app.mpr ⟨lo, cv, rfl, hn1, up, rfl⟩
    | some q =>
      obtain ⟨s1, n1, p1⟩ := q
      dsimp only
      generalize power' a.size (2 * s1 + n1) (2 * s1 + n1 + n1 + n) a.size = pw
      refine wpS_bind (wpS_mono (wpS_forRange (I := fun y c st' => c = (none, ()) /\ ∃ b pd g, st' = mk κ b pd g /\ b.Perm a /\ Cov rk b pd.toList 0 lo /\ Up rk b lo (lo + n)) (Q := fun c st' => c = (none, ()) /\ ∃ b pd g, st' = mk κ b pd g /\ b.Perm a /\ Cov rk b pd.toList 0 lo /\ Up rk b lo (lo + n)) ?mstep (fun _ _ z => z) ⟨rfl, b, pd, g, rfl, pb, cv, up⟩) ?mpost)
      case mstep =>
        rintro y c st' _ _ ⟨rfl, b, pd, g, rfl, pb, cv, up⟩
        refine wpS_bind (wpS_get ?_)
        rw [pend]
        have bsz := pb.size_eq
        by_cases hs : pd.size > 1
        . rw [if_pos hs]
          cases hq : pd[pd.size - 2]? with
          | none => exact wpS_pure ⟨rfl, b, pd, g, rfl, pb, cv, up⟩
          | some q =>
            obtain ⟨s2, n2, p2⟩ := q
            dsimp only
            by_cases ho : p2 <= pw
            . rw [if_pos ho]
              exact wpS_pure ⟨rfl, b, pd, g, rfl, pb, cv, up⟩
            . rw [if_neg ho]
              refine wpS_bind (merge_step L (fun x hx => hS x (pb.mem_iff.mp hx)) (by omega) cv (by omega) fun c pd' g' ch cv' hsz => ?_)
              rw [if_neg (by simp)]
              exact wpS_pure ⟨rfl, c, pd', g', rfl, ch.perm.trans pb, cv', up.ext fun i h1 h2 => ch.out i (by omega)⟩
        . rw [if_neg hs]
          exact wpS_pure ⟨rfl, b, pd, g, rfl, pb, cv, up⟩
      case mpost =>
        rintro c st' ⟨rfl, b, pd, g, rfl, pb, cv, up⟩
        dsimp only
        refine wpS_bind (wpS_modify (wpS_bind (wpS_modify (wpS_pure ⟨lo + n, b, _, g, rfl, rfl, pb, hn2, by omega, ?_⟩))))
        show Cov rk b ((pd.modify (pd.size - 1) fun x => (x.1, x.2.1, pw)).push (lo, n, 0)).toList 0 (lo + n)
        rw [Array.toList_push]
        refine Cov.app.mpr ⟨lo, Cov.pow ?_ cv, rfl, hn1, up, rfl⟩
        rw [Array.toList_modify]
        apply List.ext_getElem?
        intro i
        rw [List.getElem?_map, List.getElem?_map, List.getElem?_modify]
        cases pd.toList[i]? with
        | none => rfl
        | some v => simp only [Option.map_some]; split <;> rfl
end
end SortB
end
section
namespace SortB
open PySem PySem.W PyProof.Rows
theorem perm_lift {α β : Type} {f : α -> β} {l' m : List β} (p : l'.Perm m) : ∀ l : List α, m = l.map f -> ∃ q : List α, q.Perm l /\ l' = q.map f := by
  induction p with
  | nil => intro l e; exact ⟨[], by rw [List.map_eq_nil_iff.mp e.symm], rfl⟩
  | cons x p ih =>
    intro l e
    cases l with
    | nil => simp at e
    | cons a l =>
      simp only [List.map_cons, List.cons.injEq] at e
      obtain ⟨q, hq, rfl⟩ := ih l e.2
      exact ⟨a :: q, hq.cons a, by rw [List.map_cons, e.1]⟩
  | swap x y l0 =>
    intro l e
    match l, e with
    | a :: b :: l, e =>
      simp only [List.map_cons, List.cons.injEq] at e
      exact ⟨b :: a :: l, List.Perm.swap a b l, by rw [List.map_cons, List.map_cons, e.1, e.2.1, e.2.2]⟩
  | trans p1 p2 ih1 ih2 =>
    intro l e
    obtain ⟨q2, h2, e2⟩ := ih2 l e
    obtain ⟨q1, h1, e1⟩ := ih1 q2 e2
    exact ⟨q1, h1.trans h2, e1⟩
open Classical in
noncomputable def rkOf (it : Nat -> Keyed) (n : Nat) (r : Nat -> Nat) (x : Keyed) : Nat := if h : ∃ i, i < n /\ it i = x then r h.choose else 0
theorem rkOf_at {it : Nat -> Keyed} {n : Nat} {r : Nat -> Nat} (hw : ∀ i j, i < n -> j < n -> it i = it j -> r i = r j) {i : Nat} (hi : i < n) : rkOf it n r (it i) = r i := by
  unfold rkOf
  have h : ∃ j, j < n /\ it j = it i := ⟨i, hi, rfl⟩
  rw [dif_pos h]
  exact hw _ _ h.choose_spec.1 hi h.choose_spec.2
section
variable {prog : Program} {w : World} {A : Around} {E : Value -> Shared -> Prop} {s : Shared} {κ : SortKind} {ks vs : List Value} {r : Nat -> Nat}
theorem big_run (hl : ks.length = vs.length) (h2 : 2 <= vs.length) (hc : ∀ i j (C : Bool -> Shared -> Prop), i < vs.length -> j < vs.length -> C (decide (r i < r j)) s -> kas_ask prog w A κ ks i j C s)
    (hw : ∀ i j, i < vs.length -> j < vs.length -> ks.getD i Value.none = ks.getD j Value.none -> r i = r j) :
    wpAny (model prog w) A (sortRuns'.run (SortSt.mk' κ (ks.toArray.zip vs.toArray) #[] 7 none)) (fun x s' => ∃ p : Array Nat, arrOf x.2 = p.map (kas_item (ks.toArray.zip vs.toArray)) /\ failedOf x.2 = none /\ s' = s /\ SortT.Ok vs.length p /\ SortT.Up r p vs.length) E s := by
  have it : ∀ i, kas_item (ks.toArray.zip vs.toArray) i = (ks.getD i Value.none, vs.getD i Value.none) := kat_item hl
  have sz : (ks.toArray.zip vs.toArray).size = vs.length := by simp [hl]
  have rng := kas_range (ks.toArray.zip vs.toArray)
  rw [sz] at rng
  have al : (ks.toArray.zip vs.toArray).toList = (List.range vs.length).map (kas_item (ks.toArray.zip vs.toArray)) := by
    have := congrArg Array.toList rng
    rw [Array.toList_map] at this
    exact this.symm
  have hw' : ∀ i j, i < vs.length -> j < vs.length -> kas_item (ks.toArray.zip vs.toArray) i = kas_item (ks.toArray.zip vs.toArray) j -> r i = r j := fun i j hi hj e => by
    rw [it, it] at e
    exact hw i j hi hj (Prod.mk.inj e).1
  have L : LtOk prog w A E s κ (rkOf (kas_item (ks.toArray.zip vs.toArray)) vs.length r) (fun x => ∃ i, i < vs.length /\ kas_item (ks.toArray.zip vs.toArray) i = x) := by
    rintro x y st Q hk ⟨i, hi, rfl⟩ ⟨j, hj, rfl⟩ hq
    rw [rkOf_at hw' hi, rkOf_at hw' hj] at hq
    rw [lt'_eq]
    refine wpS_bind (wpS_get ?_)
    rw [hk, it, it]
    have := hc i j (fun b s' => s' = s /\ b = decide (r i < r j)) hi hj ⟨rfl, rfl⟩
    unfold kas_ask at this
    refine wpS_bind (wpS_lift (wpAny_attempt (wpAny_mono this (fun b s' hb => ?_) fun _ _ z => z.elim)))
    obtain ⟨e1, e2⟩ := hb
    subst e1 e2
    exact ⟨rfl, wpS_pure hq⟩
  have run := sortRuns_ok L (a := ks.toArray.zip vs.toArray) (g := 7) (Q := fun _ st' => ∃ p : Array Nat, arrOf st' = p.map (kas_item (ks.toArray.zip vs.toArray)) /\ failedOf st' = none /\ SortT.Ok vs.length p /\ SortT.Up r p vs.length) (fun x hx => ?_) (by omega) fun b pd g pb up => ?_
  . unfold wpS at run
    refine wpAny_mono run (fun x s' hx => ?_) fun _ _ z => z
    obtain ⟨e, p, a1, a2, a3, a4⟩ := hx
    exact ⟨p, a1, a2, e, a3, a4⟩
  . have := Array.mem_toList_iff.mpr hx
    rw [al] at this
    obtain ⟨i, hi, e⟩ := List.mem_map.mp this
    exact ⟨i, List.mem_range.mp hi, e⟩
  . have pl := Array.perm_iff_toList_perm.mp pb
    obtain ⟨q, hq, eq⟩ := perm_lift pl _ al
    have ql : q.length = vs.length := by rw [hq.length_eq, List.length_range]
    have hb : b = q.toArray.map (kas_item (ks.toArray.zip vs.toArray)) := by
      apply Array.toList_inj.mp
      rw [Array.toList_map, eq]
    refine ⟨q.toArray, hb, rfl, ⟨by rw [List.size_toArray, ql], Array.perm_iff_toList_perm.mpr (by simpa using hq)⟩, fun i j hij hj => ?_⟩
    have hu := up i j (Nat.zero_le _) hij (by omega)
    have kk : ∀ i, i < vs.length -> K (rkOf (kas_item (ks.toArray.zip vs.toArray)) vs.length r) b i = SortT.K r q.toArray i := fun i hi => by
      have hi' : i < q.length := by omega
      have hib : i < b.size := by rw [hb]; simp; omega
      rw [K_get hib]
      have e1 : b[i] = kas_item (ks.toArray.zip vs.toArray) q[i] := by simp [hb]
      have e2 : q[i] < vs.length := List.mem_range.mp (hq.mem_iff.mp (List.getElem_mem hi'))
      rw [e1, rkOf_at hw' e2]
      unfold SortT.K
      simp [Array.getD, hi']
    rw [kk i (by omega), kk j hj] at hu
    exact hu
end
end SortB
end
section
namespace L2
open PySem PySem.Spec PyProof.Rows PySem.W
theorem katLex_V {prog : Program} {w : World} {A : Around} {s : Shared} {Q : Bool -> Shared -> Prop} {b : Bool} {r : Bool} (q : Q r s) : ∀ (xs ys : List V) (us ws : List Value) (i : Nat) (fin : Bool), Vals xs us -> Vals ys ws -> HT.lexV xs ys = some r ->
    fin = decide (xs.length < ys.length) -> (b = true -> i = 0 -> ∀ x ∈ xs.head?, ∃ n, x = V.int n) -> KatLex prog w A b fin Q (us.zip ws) i s := by
  intro xs
  induction xs with
  | nil =>
    intro ys us ws i fin rx ry hl hf hb
    cases rx
    cases ry with
    | nil => rw [HT.lexV_nil_nil] at hl; cases hl; rw [hf]; exact kat_nil q
    | cons c d => rw [HT.lexV_nil_cons] at hl; cases hl; rw [hf]; exact kat_nil (by simpa using q)
  | cons x xs ih =>
    intro ys us ws i fin rx ry hl hf hb
    cases rx with
    | cons r1 rt =>
      rename_i u us
      cases ry with
      | nil => rw [HT.lexV_cons_nil] at hl; cases hl; rw [hf]; exact kat_nil (by simpa using q)
      | cons r2 rt2 =>
        rename_i y w2 ys ws
        rw [List.zip_cons_cons]
        have hf' : fin = decide (xs.length < ys.length) := by rw [hf]; simp
        cases x with
        | int m =>
          cases y with
          | int n =>
            obtain ⟨t, rfl⟩ := r1
            obtain ⟨t2, rfl⟩ := r2
            simp only [HT.lexV] at hl
            refine kat_cons (wpAny_eqBool_int ?_)
            by_cases e : m = n
            . rw [if_pos e] at hl
              rw [show (m == n) = true by simpa using e]
              exact kat_yes (ih ys _ _ (i + 1) fin rt rt2 hl hf' fun _ z => absurd z (by omega))
            . rw [if_neg e] at hl
              cases hl
              rw [show (m == n) = false by simpa using e]
              refine kat_no ?_
              cases eb : (b && i == 0) with
              | true => exact oneLt_int q
              | false => exact kat_one _ _ (lt_int (show PySem.W.BoolBack Q (.bool _) s from q))
          | _ => simp [HT.lexV] at hl
        | str m =>
          cases y with
          | str n =>
            obtain ⟨t, rfl⟩ := r1
            obtain ⟨t2, rfl⟩ := r2
            simp only [HT.lexV] at hl
            refine kat_cons (PyProof.Rows.eqBool_str ?_)
            by_cases e : m = n
            . rw [if_pos e] at hl
              rw [show (m == n) = true by simpa using e]
              exact kat_yes (ih ys _ _ (i + 1) fin rt rt2 hl hf' fun _ z => absurd z (by omega))
            . rw [if_neg e] at hl
              cases hl
              rw [show (m == n) = false by simpa using e]
              refine kat_no ?_
              cases eb : (b && i == 0) with
              | true =>
                rw [Bool.and_eq_true] at eb
                obtain ⟨n', z⟩ := hb eb.1 (by simpa using eb.2) _ rfl
                cases z
              | false => exact kat_one _ _ (lt_str (show PySem.W.BoolBack Q (.bool _) s from q))
          | _ => simp [HT.lexV] at hl
        | _ => cases y <;> simp [HT.lexV] at hl
theorem Inv.adopt {X : Cx} {pins : List (Addr × Obj)} {σ : St} {H : Hp} {s : Shared} {h' : Heap} {D : Addr} {o : HO} {t' : Nat} (I : Inv X pins σ H s) (f : FpOk X pins H D) (k : ∀ b u, b ≠ D -> s.heap.get? b = some u -> h'.get? b = some u)
    (new : ObjOk X.prog X.w (upd H D o) h' D o) : Inv X pins σ (upd H D o) { s with heap := h', toks := t' } := by
  obtain ⟨f0, f1, f2, f3, f4, f5⟩ := f
  have nit : ∀ b u, H b = some u -> b ≠ D := fun b u e z => by rw [z, f0] at e; cases e
  refine I.step (g' := s.gens) (d' := s.drawn) (ch := [D]) (fun b hb => ?_) (fun b o _ _ hc e _ => k b o (fun z => hc (by simp [z])) e) (fun b o _ _ hc e _ => ⟨o.slots, k b o (fun z => hc (by simp [z])) e⟩) (fun b _ hc _ n => by rw [upd_ne (fun z => hc (by simp [z]))]; exact n)
    (fun b o hc e => ⟨o, k b o (fun z => hc (by simp [z])) e⟩) (fun b _ e => by rw [upd_ne (nit _ _ e)]; exact e) (fun b _ _ e => by rw [upd_ne (nit _ _ e)]; exact e) (fun b ps e => ⟨#[], by rw [upd_ne (nit _ _ e), e]; simp⟩) (fun m hm => ?_) (fun b u e => ?_) I.bare
  . have e : b = D := by simpa using hb
    subst e
    exact ⟨f3, f1, f4, f5⟩
  . obtain ⟨o, es, ep, ho, r⟩ := hm
    exact ⟨o, es, ep, k _ o (Ne.symm f1) ho, r⟩
  . by_cases hb : b = D
    . subst hb; rw [upd_same] at e; cases e; exact new
    . rw [upd_ne hb] at e
      refine (I.hok b u e).stay (fun c v hc q => k c v ?_ q) (fun c q => by rw [upd_ne (nit _ _ q)]; exact q) fun c xs q => by rw [upd_ne (nit _ _ q)]; exact q
      rcases hc with z | z
      . rw [z]; exact hb
      . exact nit c _ z
theorem Vals.getD : ∀ {xs : List V} {us : List Value}, Vals xs us -> ∀ i, RelV (xs.getD i .non) (us.getD i Value.none) := fun {xs us} r i => by
  cases e : xs[i]? with
  | none =>
    have e2 := r.none_of e
    rw [List.getD_eq_getElem?_getD, List.getD_eq_getElem?_getD, e, e2]
    rfl
  | some x =>
    obtain ⟨u, e2, ru⟩ := r.get e
    rw [List.getD_eq_getElem?_getD, List.getD_eq_getElem?_getD, e, e2]
    exact ru
theorem Vals.pick {xs : List V} {us : List Value} (r : Vals xs us) : ∀ l : List Nat, Vals (l.map fun i => xs.getD i .non) (l.map fun i => us.getD i Value.none)
  | [] => .nil
  | i :: l => .cons (r.getD i) (r.pick l)
theorem countP_lt {α : Type} {p q : α -> Bool} : ∀ {l : List α} {a : α}, (∀ x ∈ l, p x = true -> q x = true) -> a ∈ l -> q a = true -> p a = false -> l.countP p < l.countP q
  | x :: l, a, h, hm, hq, hp => by
    have mono : l.countP p <= l.countP q := List.countP_mono_left fun y hy => h y (List.mem_cons_of_mem _ hy)
    rw [List.countP_cons, List.countP_cons]
    rcases List.mem_cons.mp hm with e | e
    . subst e
      rw [hq, hp]
      simp only [Bool.false_eq_true, if_false, if_true]
      omega
    . have ih := countP_lt (fun y hy => h y (List.mem_cons_of_mem _ hy)) e hq hp
      have hx := h x List.mem_cons_self
      cases hpx : p x with
      | false => simp only [Bool.false_eq_true, if_false]; split <;> omega
      | true => rw [hx hpx]; simp only [if_true]; omega
structure Swo {α : Type} (xs : List α) (lt : α -> α -> Bool) : Prop where
  irr : ∀ a ∈ xs, lt a a = false
  tr : ∀ a ∈ xs, ∀ b ∈ xs, ∀ c ∈ xs, lt a b = true -> lt b c = true -> lt a c = true
  neg : ∀ a ∈ xs, ∀ b ∈ xs, ∀ c ∈ xs, lt a c = true -> lt a b = true \/ lt b c = true
theorem Swo.rank {α : Type} {xs : List α} {lt : α -> α -> Bool} (w : Swo xs lt) {a b : α} (ha : a ∈ xs) (hb : b ∈ xs) : decide (xs.countP (lt · a) < xs.countP (lt · b)) = lt a b := by
  cases e : lt a b with
  | true => exact decide_eq_true (countP_lt (fun x hx h => w.tr x hx a ha b hb h e) ha e (w.irr a ha))
  | false =>
    refine decide_eq_false fun h => ?_
    have : xs.countP (lt · b) <= xs.countP (lt · a) := List.countP_mono_left fun x hx h => (w.neg x hx a ha b hb h).elim id fun z => by rw [e] at z; cases z
    omega
theorem getD_mem {α : Type} {xs : List α} {i : Nat} {d : α} (h : i < xs.length) : xs.getD i d ∈ xs := by
  rw [List.getD_eq_getElem?_getD, List.getElem?_eq_getElem h]
  exact List.getElem_mem h
theorem picks_perm {α : Type} {xs : List α} {d : α} {p : Array Nat} (h : SortT.Ok xs.length p) : (p.toList.map fun i => xs.getD i d).Perm xs := by
  have h1 : p.toList.Perm (List.range xs.length) := by
    have := Array.perm_iff_toList_perm.mp h.perm
    simpa using this
  have h2 := h1.map (fun i => xs.getD i d)
  have h3 : (List.range xs.length).map (fun i => xs.getD i d) = xs := by
    apply List.ext_getElem
    . simp
    . intro i h1 h2
      simp [h2]
  rw [h3] at h2
  exact h2
theorem picks_up {xs : List V} {lt : V -> V -> Bool} (w : Swo xs lt) {p : Array Nat} (h : SortT.Ok xs.length p) (hn : 0 < xs.length) (u : SortT.Up (fun i => xs.countP (lt · (xs.getD i .non))) p xs.length) :
    (p.toList.map fun i => xs.getD i V.non).Pairwise fun a b => lt b a = false := by
  rw [List.pairwise_iff_getElem]
  intro i j hi hj hij
  have hi' : i < p.size := by simpa using hi
  have hj' : j < p.size := by simpa using hj
  have hjn : j < xs.length := by rw [<- h.size]; exact hj'
  have := u i j (by omega) hjn
  unfold SortT.K at this
  have gi : p.getD i 0 = p[i] := by simp [Array.getD, hi']
  have gj : p.getD j 0 = p[j] := by simp [Array.getD, hj']
  have li := h.lt hn i
  have lj := h.lt hn j
  rw [gi] at this li
  rw [gj] at this lj
  have e1 : (p.toList.map fun i => xs.getD i V.non)[i] = xs.getD p[i] .non := by simp
  have e2 : (p.toList.map fun i => xs.getD i V.non)[j] = xs.getD p[j] .non := by simp
  rw [e1, e2, <- w.rank (getD_mem lj) (getD_mem li)]
  dsimp only at this
  exact decide_eq_false (by omega)
end L2
end
section
namespace L2
open PySem PySem.Spec PyProof.Rows PySem.W
section
variable {X : Cx} {pins : List (Addr × Obj)} {σ : St} {H : Hp} {s : Shared} {k : Nat} {f : Addr} {fd : FuncData} {p0 : Str} {sp : Sp} {A : Around} {E : Value -> Shared -> Prop}
structure KeyF (K : PySem.W.Frag) (sp : Sp) (H : Hp) (xs : List V) (rk : V -> List V) (lt : V -> V -> Bool) : Prop where
  hd : ∀ v ∈ xs, ∃ n r, rk v = .int n :: r
  key : ∀ v ∈ xs, ∀ H2, Same H H2 -> ∀ R : VK, (∀ p H3, Same H2 H3 -> SqT K H3 p (rk v) -> R (.ref p) H3) -> sp [v] H2 R E0
  lex : ∀ v ∈ xs, ∀ u ∈ xs, HT.lexV (rk v) (rk u) = some (lt v u)
  swo : Swo xs lt
def KeysAt (K : PySem.W.Frag) (H : Hp) (rk : V -> List V) (xs : List V) (ks : List Value) : Prop :=
  ∃ ps : List Addr, ks = ps.map Value.ref /\ ∀ (j : Nat) p v, ps[j]? = some p -> xs[j]? = some v -> SqT K H p (rk v)
theorem key_call (F : FnOk X.prog X.w X.K X.mg X.base CX0 k f fd [p0] sp) (hb : Binds X.K fd [p0] []) (hr : Room k A) (hfr : A.frames = some X.stack) (I : Inv X pins σ H s) {v : V} {u : Value} (r : RelV v u) {R : VK} (h : sp [v] H R E0) :
    wpAny (model X.prog X.w) A (call (.ref f) [u]) (EP X pins σ R) (fun _ _ => False) s := by
  have e0 := I.env0
  refine wpAny_call (codeAny_mono (F.run A X.stack s H ⟨[u], []⟩ [u] [v] R E0 hr ⟨hfr, e0.mod, e0.bs, e0.bsz, e0.funs, e0.frf, e0.hok, e0.bare⟩ (hb s [u] I.kIn rfl) (.cons r .nil) h) fun r s' hq => ?_)
  cases r with
  | error e => exact hq
  | ok fl =>
    cases fl with
    | ret u => exact I.after hq
    | next => exact False.elim hq
    | brk => exact False.elim hq
    | cont => exact False.elim hq
theorem sort_tail {D kS : Addr} {e e1 : Nat} {ks : List Value} {out : List Value} {ys : List V} {st : SortSt} {P : PySem.Fin -> Shared -> Prop} (I : Inv X (pins ++ [(D, seqObj "list" #[] e1)]) σ H s) (fD : FpOk X pins H D) (fK : FpOk X (pins ++ [(D, seqObj "list" #[] e1)]) H kS)
    (hk : s.heap.get? kS = some (seqObj "list" ks.toArray e)) (hkl : ks.length < 1000) (hout : (arrOf st).map (·.2) = List.toArray out) (hf : failedOf st = none) (rv : Vals ys out) (hl : ys.length < 1000)
    (h : ∀ s', Inv X pins σ (upd H D (.lst ys)) s' -> P (.done (.ret .none)) s') : wpAny (model X.prog X.w) A (ksk_tail D false e1 (.ref kS) st) P E s := by
  have hD := (I.pin (D, seqObj "list" #[] e1) (List.mem_append_right _ (List.mem_append_right _ (by simp)))).1
  have hDk : D ≠ kS := fK.2.2.2.2.2 (D, seqObj "list" #[] e1) (List.mem_append_right _ (List.mem_append_right _ (by simp)))
  have s1 := Heap.SameBut.update s.heap kS (Obj.mapSeq fun _ => (#[] : Array Value))
  have I1 : Inv X (pins ++ [(D, seqObj "list" #[] e1)]) σ H { s with heap := s.heap.update kS (Obj.mapSeq fun _ => (#[] : Array Value)) } :=
    I.turned (t' := s.toks) (fun b o hb q => (s1.2 b hb).trans q) fK.1 fK.2.1 fK.2.2.2.1 fK.2.2.2.2.1 fK.2.2.2.2.2
  have hD1 := (I1.pin (D, seqObj "list" #[] e1) (List.mem_append_right _ (List.mem_append_right _ (by simp)))).1
  have s2 := Heap.SameBut.update (s.heap.update kS (Obj.mapSeq fun _ => (#[] : Array Value))) D (Obj.mapSeq fun _ => List.toArray out)
  obtain ⟨c2, hc2⟩ : ∃ c2, ((s.heap.update kS (Obj.mapSeq fun _ => (#[] : Array Value))).update D (Obj.mapSeq fun _ => List.toArray out)).get? D = some (seqObj "list" (List.toArray out) c2) := ⟨_, get?_update_seq hD1 fun _ => List.toArray out⟩
  have ho : out.length < 1000 := by rw [<- rv.length]; exact hl
  unfold ksk_tail
  try dsimp only
  rw [hout]
  simp only [Bool.false_eq_true, if_false]
  refine wpAny_bind (listUpdate_at hk rfl ?_ (by rw [List.size_toArray]; exact Nat.le_of_lt (small1000 (by omega))) (Nat.zero_le _))
  refine wpAny_bind (wpAny_letGo ?_)
  refine wpAny_bind (seqEpoch_at hD1 rfl ?_)
  refine wpAny_bind (listUpdate_at hD1 rfl ?_ (Nat.zero_le _) (by rw [List.size_toArray]; exact Nat.le_succ_of_le (Nat.le_of_lt (small1000 (by omega)))))
  rw [hf]
  simp only [bne_self_eq_false, Bool.false_eq_true, if_false]
  refine wpAny_pure (h _ ?_)
  exact (I1.unpinned).adopt (t' := s.toks) fD (fun b u hb q => (s2.2 b hb).trans q) ⟨Nat.le_of_lt (small1000 (by omega)), out, c2, rv, hc2⟩
theorem keys_tups {rk : V -> List V} {xs : List V} : ∀ {ks : List Value}, (I : Inv X pins σ H s) -> (∀ v ∈ xs, ∃ n r, rk v = .int n :: r) -> ks.length = xs.length -> KeysAt X.K H rk xs ks ->
    ∃ fs, KatTups s.heap ks fs /\ fs.length = ks.length /\ ∀ g ∈ fs, ∃ n t, g = Value.int n t := by
  induction xs with
  | nil =>
    intro ks I hd hl hk
    match ks, hl with
    | [], _ => exact ⟨[], KatTups.nil, rfl, fun _ h => nomatch h⟩
  | cons x xs ih =>
    intro ks I hd hl hk
    obtain ⟨ps, rfl, hp⟩ := hk
    match ps, hl, hp with
    | p :: ps, hl, hp =>
      rw [List.map_cons, List.length_cons, List.length_cons] at hl
      obtain ⟨fs, h1, h2, h3⟩ := ih (ks := ps.map Value.ref) I (fun v hv => hd v (List.mem_cons_of_mem _ hv)) (by omega) ⟨ps, rfl, fun j p' v e1 e2 => hp (j + 1) p' v (by simpa using e1) (by simpa using e2)⟩
      have ht := hp 0 p x rfl rfl
      obtain ⟨its, r, ⟨ob, e, c, n, d⟩, _⟩ := I.tuple ht
      obtain ⟨m, rs, em⟩ := hd x List.mem_cons_self
      rw [em] at r
      cases r with
      | cons ra rt =>
        obtain ⟨t, rfl⟩ := ra
        exact ⟨Value.int m t :: fs, KatTups.cons e c d (by simp) h1, by simp [h2], fun g hg => (List.mem_cons.mp hg).elim (fun z => ⟨m, t, z⟩) (h3 g)⟩
theorem sort_ask {rk : V -> List V} {lt : V -> V -> Bool} {xs : List V} {ks : List Value} (I : Inv X pins σ H s) (hK : KeyF X.K sp H xs rk lt) (hl : ks.length = xs.length) (hk : KeysAt X.K H rk xs ks) {i j : Nat} (hi : i < xs.length) (hj : j < xs.length)
    {C : Bool -> Shared -> Prop} (h : C (lt (xs.getD i .non) (xs.getD j .non)) s) : kas_ask X.prog X.w A (tuples' true) ks i j C s := by
  obtain ⟨ps, rfl, hp⟩ := hk
  rw [List.length_map] at hl
  have gi : (ps.map Value.ref).getD i Value.none = Value.ref (ps[i]'(by omega)) := by simp [show i < ps.length by omega]
  have gj : (ps.map Value.ref).getD j Value.none = Value.ref (ps[j]'(by omega)) := by simp [show j < ps.length by omega]
  have xi : xs.getD i V.non = xs[i] := by simp [hi]
  have xj : xs.getD j V.non = xs[j] := by simp [hj]
  unfold kas_ask
  rw [gi, gj]
  rw [xi, xj] at h
  obtain ⟨its, r, ⟨ob, e, c, n, d⟩, _⟩ := I.tuple (hp i _ xs[i] (List.getElem?_eq_getElem (by omega)) (List.getElem?_eq_getElem hi))
  obtain ⟨its2, r2, ⟨ob2, e2, c2, n2, d2⟩, _⟩ := I.tuple (hp j _ xs[j] (List.getElem?_eq_getElem (by omega)) (List.getElem?_eq_getElem hj))
  refine kat_lt e d e2 d2 (katLex_V (b := true) h _ _ _ _ 0 _ (by simpa using r) (by simpa using r2) (hK.lex _ (List.getElem_mem hi) _ (List.getElem_mem hj)) ?_ fun _ _ x hx => ?_)
  . rw [List.size_toArray, List.size_toArray, r.length, r2.length]
  . obtain ⟨m, rs, em⟩ := hK.hd xs[i] (List.getElem_mem hi)
    rw [em] at hx
    exact ⟨m, (Option.some.inj hx).symm⟩
theorem pw_small {α : Type} {R : α -> α -> Prop} : ∀ {xs : List α}, xs.length < 2 -> xs.Pairwise R
  | [], _ => List.Pairwise.nil
  | [a], _ => List.pairwise_singleton _ _
theorem sort_end {D kS : Addr} {e e1 : Nat} {ks : List Value} {vs : List Value} {xs : List V} {rk : V -> List V} {lt : V -> V -> Bool} {P : PySem.Fin -> Shared -> Prop} (I : Inv X (pins ++ [(D, seqObj "list" #[] e1)]) σ H s) (fD : FpOk X pins H D) (fK : FpOk X (pins ++ [(D, seqObj "list" #[] e1)]) H kS)
    (hk : s.heap.get? kS = some (seqObj "list" ks.toArray e)) (h64 : xs.length < 1000) (hl : ks.length = xs.length) (hK : KeyF X.K sp H xs rk lt) (hks : KeysAt X.K H rk xs ks) (rv : Vals xs vs)
    (h : ∀ ys s', Inv X pins σ (upd H D (.lst ys)) s' -> ys.Perm xs -> ys.Pairwise (fun a b => lt b a = false) -> P (.done (.ret .none)) s') : wpAny (model X.prog X.w) A (ksk_end D false vs.toArray e1 (.ref kS) ks.toArray) P E s := by
  have hlv := rv.length
  unfold ksk_end
  simp only [Bool.false_eq_true, if_false]
  by_cases h2 : vs.toArray.size < 2
  . rw [if_pos h2, if_pos h2]
    refine wpAny_bind (wpAny_pure ?_)
    rw [StateT.run_pure]
    refine wpAny_bind (wpAny_pure ?_)
    try dsimp only
    refine sort_tail (st := SortSt.mk' general' (ks.toArray.zip vs.toArray) #[] 7 none) I fD fK hk (by omega) (out := vs) ?_ rfl rv (by omega) fun s' I' => h xs s' I' (List.Perm.refl _) ?_
    . apply Array.toList_inj.mp
      show (Array.map (·.2) (ks.toArray.zip vs.toArray)).toList = _
      rw [Array.toList_map, ksk_zip]
      show List.map (·.2) (ks.zip vs) = vs
      exact List.map_snd_zip (by omega)
    . rw [List.size_toArray] at h2
      exact pw_small (by omega)
  . rw [if_neg h2, if_neg h2]
    rw [List.size_toArray] at h2
    obtain ⟨fs, t1, t2, t3⟩ := keys_tups I hK.hd hl hks
    refine wpAny_bind (kat_kind (T := .type "int") t1 (by omega) (fun v hv => ?_) (by decide) ?_)
    . obtain ⟨n, t, rfl⟩ := t3 v hv
      exact Looks.of_pure rfl
    have et : (Value.type "int" != Value.type "tuple") = true := by decide
    rw [et]
    have hn : 0 < xs.length := by omega
    have run := SortB.big_run (prog := X.prog) (w := X.w) (A := A) (E := E) (κ := tuples' true) (ks := ks) (vs := vs) (s := s) (r := fun i => xs.countP (lt · (xs.getD i .non))) (by omega) (by omega)
      (fun i j C hi hj hC => by
        rw [<- hlv] at hi hj
        rw [hK.swo.rank (getD_mem hi) (getD_mem hj)] at hC
        exact sort_ask I hK hl hks hi hj hC)
      (fun i j hi hj e => by
        rw [<- hlv] at hi hj
        obtain ⟨ps, rfl, hp⟩ := hks
        rw [List.length_map] at hl
        have gi : (ps.map Value.ref).getD i Value.none = Value.ref (ps[i]'(by omega)) := by simp [show i < ps.length by omega]
        have gj : (ps.map Value.ref).getD j Value.none = Value.ref (ps[j]'(by omega)) := by simp [show j < ps.length by omega]
        rw [gi, gj] at e
        have ti := hp i _ xs[i] (List.getElem?_eq_getElem (by omega)) (List.getElem?_eq_getElem hi)
        have tj := hp j _ xs[j] (List.getElem?_eq_getElem (by omega)) (List.getElem?_eq_getElem hj)
        rw [Value.ref.inj e] at ti
        have same := I.tuple_inj ti tj
        have xi : xs.getD i V.non = xs[i] := by simp [hi]
        have xj : xs.getD j V.non = xs[j] := by simp [hj]
        have mi := List.getElem_mem hi
        have mj := List.getElem_mem hj
        have l1 : lt xs[i] xs[j] = false := by
          have a1 := hK.lex _ mi _ mj
          rw [same, hK.lex _ mj _ mj, hK.swo.irr _ mj] at a1
          exact (Option.some.inj a1).symm
        have l2 : lt xs[j] xs[i] = false := by
          have a1 := hK.lex _ mj _ mi
          rw [same, hK.lex _ mj _ mj, hK.swo.irr _ mj] at a1
          exact (Option.some.inj a1).symm
        have r1 := hK.swo.rank mi mj
        have r2 := hK.swo.rank mj mi
        rw [l1] at r1
        rw [l2] at r2
        have r1 := of_decide_eq_false r1
        have r2 := of_decide_eq_false r2
        show xs.countP (lt · (xs.getD i .non)) = xs.countP (lt · (xs.getD j .non))
        rw [xi, xj]
        omega)
    rw [<- hlv] at run
    refine wpAny_bind (wpAny_mono run ?_ fun _ _ x => x)
    rintro ⟨⟨⟩, st'⟩ s' ⟨p, har, hf, es, ok, up⟩
    subst es
    have hout := kat_snds (by omega) har
    exact sort_tail I fD fK hk (by omega) hout hf (rv.pick p.toList) (by rw [List.length_map, Array.length_toList, ok.size]; omega) fun s' I' => h _ s' I' (picks_perm ok) (picks_up hK.swo ok hn up)
theorem sort_rest {D kS : Addr} {e1 : Nat} {vs : List Value} {xs : List V} {rk : V -> List V} {lt : V -> V -> Bool} {P : PySem.Fin -> Shared -> Prop} (F : FnOk X.prog X.w X.K X.mg X.base CX0 k f fd [p0] sp) (hb : Binds X.K fd [p0] []) (hr : Room k A) (hfr : A.frames = some X.stack)
    (I : Inv X (pins ++ [(D, seqObj "list" #[] e1)]) σ H s) (fD : FpOk X pins H D) (fK : FpOk X (pins ++ [(D, seqObj "list" #[] e1)]) H kS)
    (hk : s.heap.get? kS = some (seqObj "list" #[] 0)) (h64 : xs.length < 1000) (hK : KeyF X.K sp H xs rk lt) (rv : Vals xs vs)
    (h : ∀ H' ys s', Same H H' -> Inv X pins σ (upd H' D (.lst ys)) s' -> H' D = none -> ys.Perm xs -> ys.Pairwise (fun a b => lt b a = false) -> P (.done (.ret .none)) s') : wpAny (model X.prog X.w) A (ksk_rest D (.ref f) false vs.toArray e1 (.ref kS)) P E s := by
  have hlv := rv.length
  unfold ksk_rest
  refine wpAny_bind (wpAny_rule ?_)
  first
    | rw [List.forIn_toArray]
    | (rw [<- Array.forIn_toList]; simp only [List.toList_toArray])
    | rw [<- Array.forIn_toList]
  refine wpAny_bind (ksk_fold (fun i s' => ∃ (H' : Hp) (ks : List Value) (e : Nat), Inv X (pins ++ [(D, seqObj "list" #[] e1)]) σ H' s' /\ Same H H' /\ H' kS = none /\ s'.heap.get? kS = some (seqObj "list" ks.toArray e) /\ ks.length = i /\ KeysAt X.K H' rk xs ks)
    vs 0 s ⟨H, [], 0, I, Same.refl _, fK.1, hk, rfl, [], rfl, fun j p v e1 _ => by simp at e1⟩ (fun j x s' hx hJ => ?_) fun s' hJ => ?_)
  . rw [Nat.zero_add] at hJ
    obtain ⟨H', ks, e, I', sm, hn, hk', hl, ps, rfl, hp⟩ := hJ
    rw [List.length_map] at hl
    have hj : j < xs.length := by rw [hlv]; exact (List.getElem?_eq_some_iff.mp hx).1
    obtain ⟨u, hu, ru⟩ := rv.get (List.getElem?_eq_getElem hj)
    rw [hx] at hu
    cases hu
    have I2 : Inv X ((pins ++ [(D, seqObj "list" #[] e1)]) ++ [(kS, seqObj "list" (ps.map Value.ref).toArray e)]) σ H' s' := I'.pins_of fun p hp => (List.mem_append.mp hp).elim (fun z => I'.pin p (List.mem_append_right _ z)) fun z => by
      have z : p = (kS, seqObj "list" (ps.map Value.ref).toArray e) := by simpa using z
      subst z
      exact ⟨hk', hn, fK.2.1, fK.2.2.1, fun v q => by cases q⟩
    refine wpAny_bind (wpAny_attempt (wpAny_mono (key_call F hb hr hfr I2 ru (hK.key xs[j] (List.getElem_mem hj) H' sm (fun v H3 => ∃ p, v = .ref p /\ Same H' H3 /\ SqT X.K H3 p (rk xs[j])) fun p H3 s3 t3 => ⟨p, rfl, s3, t3⟩)) (fun u s'' hu => ?_) fun _ _ hF => hF.elim))
    obtain ⟨v, H3, I3, r3, p, rfl, s3, t3⟩ := hu
    cases r3
    have hk3 := (I3.pin (kS, seqObj "list" (ps.map Value.ref).toArray e) (List.mem_append_right _ (List.mem_append_right _ (by simp))))
    have s1 := Heap.SameBut.update s''.heap kS (Obj.mapSeq (·.push (Value.ref p)))
    have ea : (List.toArray (ps.map Value.ref)).push (Value.ref p) = List.toArray ((ps ++ [p]).map Value.ref) := by simp
    obtain ⟨c2, hc2⟩ : ∃ c2, (s''.heap.update kS (Obj.mapSeq (·.push (Value.ref p)))).get? kS = some (seqObj "list" (List.toArray ((ps ++ [p]).map Value.ref)) c2) := ⟨_, by rw [<- ea]; exact get?_update_seq hk3.1 (·.push (Value.ref p))⟩
    try dsimp only
    refine wpAny_bind (listUpdate_at hk3.1 rfl ?_ (by rw [List.size_toArray, List.length_map]; exact Nat.le_of_lt (small1000 (by omega))) (by rw [Array.size_push, List.size_toArray, List.length_map]; exact Nat.succ_le_succ (Nat.le_of_lt (small1000 (by omega)))))
    refine wpAny_pure ⟨rfl, H3, _, c2, I3.unpinned.turned (t' := s''.toks) (fun b o hb q => (s1.2 b hb).trans q) hk3.2.1 fK.2.1 fK.2.2.2.1 fK.2.2.2.2.1 fK.2.2.2.2.2, sm.trans s3, hk3.2.1, hc2, by rw [List.length_map, List.length_append, hl]; simp, ps ++ [p], rfl, fun i q v e1 e2 => ?_⟩
    by_cases hi : i < ps.length
    . rw [List.getElem?_append_left hi] at e1
      exact s3.seqT (hp i q v e1 e2)
    . rw [List.getElem?_append_right (by omega)] at e1
      have hz : i - ps.length = 0 := by
        cases q' : i - ps.length with
        | zero => rfl
        | succ m => rw [q'] at e1; simp at e1
      rw [hz] at e1
      have : i = j := by omega
      subst this
      rw [List.getElem?_eq_getElem hj] at e2
      simp at e1
      cases e1
      cases e2
      exact t3
  . rw [Nat.zero_add] at hJ
    obtain ⟨H', ks, e, I', sm, hn, hk', hl, hks⟩ := hJ
    refine wpAny_bind (listItems_at hk' rfl ?_)
    have hD0 := (I'.pin (D, seqObj "list" #[] e1) (List.mem_append_right _ (List.mem_append_right _ (by simp)))).2.1
    exact sort_end I' ⟨hD0, fD.2⟩ ⟨hn, fK.2⟩ hk' h64 (by omega) ⟨hK.hd, fun v hv H2 s2 => hK.key v hv H2 (sm.trans s2), hK.lex, hK.swo⟩ hks rv fun ys s'' I'' p1 p2 => h H' ys s'' sm I'' hD0 p1 p2
end
end L2
end
section
namespace L2
open PySem PySem.Spec PyProof.Rows PySem.W
theorem bo_sorted : bootBuiltins "sorted" = some (.builtin "sorted") := by decide +kernel
theorem copied (h : Heap) (vs : List Value) : ((h.push (seqObj "list" #[] 0)).update h.objs.size (Obj.mapSeq (· ++ vs.toArray))).objs.size = h.objs.size + 1 /\
    ∀ b o, h.get? b = some o -> ((h.push (seqObj "list" #[] 0)).update h.objs.size (Obj.mapSeq (· ++ vs.toArray))).get? b = some o := by
  constructor
  . simp only [Heap.size_update, size_push']
  . intro b o q
    have nb : b ≠ h.objs.size := Nat.ne_of_lt (Heap.lt_size q)
    exact ((Heap.SameBut.update (h.push (seqObj "list" #[] 0)) h.objs.size _).2 b nb).trans (Heap.get?_push_of_some _ q)
section
variable {X : Cx} {pins : List (Addr × Obj)} {σ : St} {H : Hp} {s : Shared} {k : Nat} {f : Addr} {fd : FuncData} {p0 : Str} {sp : Sp}
theorem sorted_run {l : Addr} {xs : List V} {rk : V -> List V} {lt : V -> V -> Bool} {Q : VK} (F : FnOk X.prog X.w X.K X.mg X.base CX0 k f fd [p0] sp) (hb : Binds X.K fd [p0] []) (hr : Room (k + 2) X.A)
    (I : Inv X pins σ H s) (hl : SqL X.K H l xs) (h64 : xs.length < 1000) (hK : KeyF X.K sp H xs rk lt)
    (h : ∀ D H' ys, Same H H' -> H D = none -> H' D = some (.lst ys) -> ys.Perm xs -> ys.Pairwise (fun a b => lt b a = false) -> Q (.ref D) H') :
    wpAny (model X.prog X.w) X.A (call (.builtin "sorted") [.ref l] [(Str.ofString "key", .ref f)]) (EP X pins σ Q) X.xe s := by
  obtain ⟨vs, rv, pl, hz⟩ := I.list hl
  have hlv := rv.length
  have hvz : vs.length <= sizeLine := by rw [<- hlv]; exact hz
  refine call_function_entry_kw kind_sorted plain_sorted entry_sorted (ksk_s1 _ _) ?_
  unfold Builtin.«sorted»
  refine wpAny_bind (m := checkCount "sorted" 1 1 _) (wpAny_pure ?_)
  refine wpAny_bind (collect_list pl.isList ?_ hvz)
  refine wpAny_bind (wpAny_newList ?_ hvz)
  obtain ⟨hsz, kept1⟩ := copied s.heap vs
  have hoL := Heap.get?_push_size ((s.heap.push (seqObj "list" #[] 0)).update s.heap.objs.size (Obj.mapSeq (· ++ vs.toArray))) (o := seqObj "list" vs.toArray 0) rfl
  rw [hsz] at hoL
  have keep := fun b o q => Heap.get?_push_of_some (seqObj "list" vs.toArray 0) (kept1 b o q)
  have I1 : Inv X pins σ H { s with heap := ((s.heap.push (seqObj "list" #[] 0)).update s.heap.objs.size (Obj.mapSeq (· ++ vs.toArray))).push (seqObj "list" vs.toArray 0) } := I.kept (t' := s.toks) keep
  have fD : FpOk X pins H (s.heap.objs.size + 1) := I.fpOk (Nat.le_succ _) (I.hok.fresh (Nat.le_succ _))
  show wpAny _ _ _ _ _ { s with heap := ((s.heap.push (seqObj "list" #[] 0)).update s.heap.objs.size (Obj.mapSeq (· ++ vs.toArray))).push (seqObj "list" vs.toArray 0) }
  rw [hsz]
  generalize ((s.heap.push (seqObj "list" #[] 0)).update s.heap.objs.size (Obj.mapSeq (· ++ vs.toArray))).push (seqObj "list" vs.toArray 0) = h1 at hoL I1
  generalize s.heap.objs.size + 1 = D at hoL fD
  refine wpAny_bind (wpAny_holding (wpAny_call_entry_kw slot_list_sort ⟨_, hoL, rfl⟩ entry_list_sort ?body (ksk_l1 _ _)))
  case body =>
    rw [ksk_t1]
    unfold ksk_tree
    have s1 := Heap.SameBut.update h1 D (Obj.mapSeq fun _ => (#[] : Array Value))
    obtain ⟨e1, ho1⟩ : ∃ e1, (h1.update D (Obj.mapSeq fun _ => (#[] : Array Value))).get? D = some (seqObj "list" #[] e1) := ⟨_, get?_update_seq hoL fun _ => #[]⟩
    have I2 : Inv X pins σ H { s with heap := h1.update D (Obj.mapSeq fun _ => (#[] : Array Value)) } := I1.turned (t' := s.toks) (fun b o hb q => (s1.2 b hb).trans q) fD.1 fD.2.1 fD.2.2.2.1 fD.2.2.2.2.1 fD.2.2.2.2.2
    have I3 : Inv X (pins ++ [(D, seqObj "list" #[] e1)]) σ H { s with heap := h1.update D (Obj.mapSeq fun _ => (#[] : Array Value)) } := I2.pins_of fun p hp => (List.mem_append.mp hp).elim (fun z => I2.pin p (List.mem_append_right _ z)) fun z => by
      have z : p = (D, seqObj "list" #[] e1) := by simpa using z
      subst z
      exact ⟨ho1, fD.1, fD.2.1, fD.2.2.1, fun v q => by cases q⟩
    have I4 : Inv X (pins ++ [(D, seqObj "list" #[] e1)]) σ H { s with heap := (h1.update D (Obj.mapSeq fun _ => (#[] : Array Value))).push (seqObj "tuple" vs.toArray 0) } := I3.kept (t' := s.toks) fun b u q => Heap.get?_push_of_some _ q
    have fK : FpOk X (pins ++ [(D, seqObj "list" #[] e1)]) H ((h1.update D (Obj.mapSeq fun _ => (#[] : Array Value))).push (seqObj "tuple" vs.toArray 0)).objs.size := I4.fpOk (Nat.le_refl _) (I4.hok.fresh (Nat.le_refl _))
    have I5 : Inv X (pins ++ [(D, seqObj "list" #[] e1)]) σ H { s with heap := ((h1.update D (Obj.mapSeq fun _ => (#[] : Array Value))).push (seqObj "tuple" vs.toArray 0)).push (seqObj "list" #[] 0) } := I4.kept (t' := s.toks) fun b u q => Heap.get?_push_of_some _ q
    refine wpAny_bind (listItems_at hoL rfl ?_)
    refine wpAny_bind (listUpdate_at hoL rfl ?_ (by rw [List.size_toArray]; exact hvz) (Nat.zero_le _))
    refine wpAny_bind (seqEpoch_at ho1 rfl ?_)
    refine wpAny_bind (wpAny_newTuple ?_ (by show vs.length <= _; exact hvz))
    refine wpAny_bind (wpAny_newList ?_ (Nat.zero_le _))
    refine wpAny_holding ?_
    refine sort_rest (s := { s with heap := ((h1.update D (Obj.mapSeq fun _ => (#[] : Array Value))).push (seqObj "tuple" vs.toArray 0)).push (seqObj "list" #[] 0) }) F hb hr.in1.in1 I.ok.frames I5 fD fK (Heap.get?_push_size _ rfl) h64 hK rv fun H' ys s' sm I' hD p1 p2 => ?_
    exact ⟨_, rfl, wpAny_pure ⟨_, rfl, .ref D, _, I', rfl, h D _ ys (sm.updL fD.1 _) fD.1 upd_same p1 p2⟩⟩
def tSortK (K : PySem.W.Frag) (sp : Sp) (te : TE) : TE := fun σ H Q => te σ H fun x H1 => ∃ a xs rk lt, x = .ref a /\ SqL K H1 a xs /\ xs.length < 64 /\ KeyF K sp H1 xs rk lt /\
  ∀ D H' ys, Same H1 H' -> H1 D = none -> H' D = some (.lst ys) -> ys.Perm xs -> ys.Pairwise (fun a b => lt b a = false) -> Q (.ref D) H'
theorem pe_sortedK {j : Nat} {fx : Str} {e : Expr} {te : TE} {p kp kpos pos : Pos} (G : Cal X.prog X.w X.K X.mg X.base j fx [p0] sp) (hr : Room k X.A) (hj : j + 2 <= k) (hs : Gl X "sorted") (hm : X.mg "sorted" = none) (hf : Gl X fx) (he : PE X e te)
    (hdb : (fx == ("__debug__" : Str)) = false := by decide) (hst : starEach [e] X.env = [(false, eval e X.env)] := by rfl) :
    PE X (.Call (.Name "sorted" p) [e] [⟨some "key", .Name fx kp, kpos⟩] pos) (tSortK X.K sp te) := by
  obtain ⟨f, fd, F, b, kpt, m⟩ := G
  intro pins s σ H Q I h
  refine wpAny_Call_Name_kw (ld_blt I hs hm bo_sorted ?_)
  refine callWith_kw (thn (pa_cons he pa_nil hst pos pins s σ H (fun vs H1 => ∃ x, vs = [x] /\ ∃ a xs rk lt, x = .ref a /\ SqL X.K H1 a xs /\ xs.length < 64 /\ KeyF X.K sp H1 xs rk lt /\
    ∀ D H' ys, Same H1 H' -> H1 D = none -> H' D = some (.lst ys) -> ys.Perm xs -> ys.Pairwise (fun a b => lt b a = false) -> Q (.ref D) H') I ?_) fun us s1 ⟨vs, H1, I1, r1, x, ex, a, xs, rk, lt, ea, hl, h64, hK, q⟩ => ?_) (by rw [hst]; rfl) (by rw [hst]; rfl)
  . show te σ H _
    exact (show (te σ H fun x H1 => _) from h) |> fun z => by
      refine (?_ : te σ H _)
      have := z
      simpa only [tNil, exists_eq_left', List.cons.injEq, and_true] using this
  . subst ex ea
    obtain ⟨u, rfl, ru⟩ := vals1 r1
    obtain rfl : u = Value.ref a := ru
    refine thn (pk_cons (nm := some "key") (pe_glob hf m (v := .ref f) rfl hdb) pk_nil pos pins s1 σ H1 (fun zs H2 => zs = [.ref f] /\ H2 = H1) I1 ⟨rfl, rfl⟩) fun ws s2 ⟨zs, H2, I2, rz, ez, eH⟩ => ?_
    subst ez eH
    obtain ⟨u2, rfl, ru2⟩ := vals1 rz
    obtain rfl : u2 = Value.ref f := ru2
    exact sorted_run F b (hr.mono hj) I2 hl (by omega) hK q
def tSortKB (K : PySem.W.Frag) (sp : Sp) (te : TE) : TE := fun σ H Q => te σ H fun x H1 => ∃ a xs rk lt, x = .ref a /\ SqL K H1 a xs /\ xs.length < 1000 /\ KeyF K sp H1 xs rk lt /\
  ∀ D H' ys, Same H1 H' -> H1 D = none -> H' D = some (.lst ys) -> ys.Perm xs -> ys.Pairwise (fun a b => lt b a = false) -> Q (.ref D) H'
end
end L2
end
section
namespace L2
open PySem PySem.Spec PyProof.Rows
section
variable {X : Cx} {e : Expr} {es : List Expr} {te : TE} {pos : Pos}
def tFmtI (te : TE) : TE := fun σ H Q => te σ H fun x H1 => ∃ i : Int, x = .int i /\ i.natAbs.log2 < 1920 /\ Q (.str (toString i)) H1
def tFmtS (te : TE) : TE := fun σ H Q => te σ H fun x H1 => ∃ z : Str, x = .str z /\ z.length <= sizeLine /\ Q (.str z) H1
def tParts : List TE -> Str -> TE
  | [], acc => fun _ H Q => acc.length <= sizeLine /\ Q (.str acc) H
  | t :: ts, acc => fun σ H Q => t σ H fun x H1 => ∃ z : Str, x = .str z /\ (acc ++ z).length <= sizeLine /\ tParts ts (acc ++ z) σ H1 Q
def tJoinF (ts : List TE) : TE := tParts ts Str.empty
end
theorem empty_add (z : Str) : Str.empty ++ z = z := by
  apply PyProof.Rows.ext_toList
  rw [PySem.W.KT.app_list]; rfl
end L2
end
section
namespace Pl
open PySem L2
def plainV : V -> Prop
  | .non => True
  | .int i => -(10 ^ 30) < i /\ i < 10 ^ 30
  | .str z => z.length <= 40
  | _ => False
def rk : V -> List V
  | .non => [.int 0, .int 0]
  | .str z => [.int 2, .str z]
  | v => [.int 1, v]
def ltV (a b : V) : Bool := (HT.lexV (rk a) (rk b)).getD false
theorem lex_rk {a b : V} (ha : plainV a) (hb : plainV b) : HT.lexV (rk a) (rk b) = some (ltV a b) := by
  unfold ltV
  cases a <;> first | exact ha.elim | skip
  all_goals (cases b <;> first | exact hb.elim | skip)
  all_goals (simp only [rk, HT.lexV]; repeat' (first | rfl | split))
theorem lt_nn : ltV .non .non = false := rfl
theorem lt_ni (i : Int) : ltV .non (.int i) = true := rfl
theorem lt_ns (z : Str) : ltV .non (.str z) = true := rfl
theorem lt_in (i : Int) : ltV (.int i) .non = false := rfl
theorem lt_sn (z : Str) : ltV (.str z) .non = false := rfl
theorem lt_is (i : Int) (z : Str) : ltV (.int i) (.str z) = true := rfl
theorem lt_si (i : Int) (z : Str) : ltV (.str z) (.int i) = false := rfl
theorem lt_ii (i j : Int) : ltV (.int i) (.int j) = decide (i < j) := by
  unfold ltV
  simp only [rk, HT.lexV, if_true]
  by_cases e : i = j
  . rw [if_pos e]; subst e; simp
  . rw [if_neg e]; rfl
theorem lt_ss (x y : Str) : ltV (.str x) (.str y) = decide (x.cps.toList < y.cps.toList) := by
  unfold ltV
  simp only [rk, HT.lexV, if_true]
  by_cases e : x = y
  . rw [if_pos e]; subst e
    have : ¬ (x.cps.toList < x.cps.toList) := List.lt_irrefl _
    simp [this]
  . rw [if_neg e]; rfl
theorem irr {a : V} (ha : plainV a) : ltV a a = false := by
  cases a <;> first | exact ha.elim | skip
  . rfl
  . rw [lt_ii]; simp
  . rw [lt_ss]; exact decide_eq_false (List.lt_irrefl _)
theorem tr {a b c : V} (ha : plainV a) (hb : plainV b) (hc : plainV c) (h1 : ltV a b = true) (h2 : ltV b c = true) : ltV a c = true := by
  cases a <;> first | exact ha.elim | skip
  all_goals (cases b <;> first | exact hb.elim | skip)
  all_goals (cases c <;> first | exact hc.elim | skip)
  all_goals first | rfl | (exfalso; rw [lt_nn] at h1; cases h1; done) | (exfalso; rw [lt_in] at h1; cases h1; done) | (exfalso; rw [lt_sn] at h1; cases h1; done) | (exfalso; rw [lt_si] at h1; cases h1; done) | (exfalso; rw [lt_nn] at h2; cases h2; done) | (exfalso; rw [lt_in] at h2; cases h2; done) | (exfalso; rw [lt_sn] at h2; cases h2; done) | (exfalso; rw [lt_si] at h2; cases h2; done) | skip
  . rw [lt_ii, decide_eq_true_eq] at *; omega
  . rw [lt_ss, decide_eq_true_eq] at *; exact List.lt_trans h1 h2
theorem tri {a b : V} (ha : plainV a) (hb : plainV b) (h1 : ltV a b = false) (h2 : ltV b a = false) : a = b := by
  cases a <;> first | exact ha.elim | skip
  all_goals (cases b <;> first | exact hb.elim | skip)
  all_goals first | rfl | (exfalso; rw [lt_ni] at h1; cases h1; done) | (exfalso; rw [lt_ns] at h1; cases h1; done) | (exfalso; rw [lt_is] at h1; cases h1; done) | (exfalso; rw [lt_ni] at h2; cases h2; done) | (exfalso; rw [lt_ns] at h2; cases h2; done) | (exfalso; rw [lt_is] at h2; cases h2; done) | skip
  . rw [lt_ii, decide_eq_false_iff_not] at *
    congr 1; omega
  . rw [lt_ss, decide_eq_false_iff_not] at *
    congr 1
    exact PyProof.Rows.ext_toList (List.le_antisymm (List.not_lt.mp h2) (List.not_lt.mp h1))
theorem neg {a b c : V} (ha : plainV a) (hb : plainV b) (hc : plainV c) (h : ltV a c = true) : ltV a b = true \/ ltV b c = true := by
  cases e : ltV a b with
  | true => exact .inl rfl
  | false =>
    cases e2 : ltV b a with
    | true => exact .inr (tr hb ha hc e2 h)
    | false => rw [tri ha hb e e2] at h; exact .inr h
theorem swo {xs : List V} (h : ∀ v ∈ xs, plainV v) : Swo xs ltV := ⟨fun a ha => irr (h a ha), fun a ha b hb c hc => tr (h a ha) (h b hb) (h c hc), fun a ha b hb c hc => neg (h a ha) (h b hb) (h c hc)⟩
theorem asym {a b : V} (ha : plainV a) (hb : plainV b) (h : ltV a b = true) : ltV b a = false := by
  cases e : ltV b a with
  | false => rfl
  | true => have := tr ha hb ha h e; rw [irr ha] at this; cases this
theorem rk_hd (v : V) : ∃ n r, rk v = .int n :: r := by cases v <;> exact ⟨_, _, rfl⟩
structure Rise (xs ys : List V) : Prop where
  up : ys.Pairwise fun a b => ltV a b = true
  mem : ∀ v, v ∈ ys ↔ v ∈ xs
theorem Rise.uniq : ∀ {ys zs : List V}, (∀ v ∈ ys, plainV v) -> ys.Pairwise (fun a b => ltV a b = true) -> zs.Pairwise (fun a b => ltV a b = true) -> (∀ v, v ∈ ys ↔ v ∈ zs) -> ys = zs
  | [], [], _, _, _, _ => rfl
  | [], z :: zs, _, _, _, h => absurd ((h z).mpr List.mem_cons_self) (by simp)
  | y :: ys, [], _, _, _, h => absurd ((h y).mp List.mem_cons_self) (by simp)
  | y :: ys, z :: zs, p, uy, uz, h => by
    have pz : ∀ v ∈ z :: zs, plainV v := fun v hv => p v ((h v).mpr hv)
    have hy := (List.pairwise_cons.mp uy).1
    have hz := (List.pairwise_cons.mp uz).1
    have e : y = z := by
      rcases List.mem_cons.mp ((h y).mp List.mem_cons_self) with e | e
      . exact e
      . rcases List.mem_cons.mp ((h z).mpr List.mem_cons_self) with e' | e'
        . exact e'.symm
        . have := asym (pz z List.mem_cons_self) (p y List.mem_cons_self) (hz y e)
          rw [hy z e'] at this; cases this
    subst e
    congr 1
    refine Rise.uniq (fun v hv => p v (List.mem_cons_of_mem _ hv)) (List.pairwise_cons.mp uy).2 (List.pairwise_cons.mp uz).2 fun v => ⟨fun hv => ?_, fun hv => ?_⟩
    . rcases List.mem_cons.mp ((h v).mp (List.mem_cons_of_mem _ hv)) with e | e
      . subst e; have := hy v hv; rw [irr (p v List.mem_cons_self)] at this; cases this
      . exact e
    . rcases List.mem_cons.mp ((h v).mpr (List.mem_cons_of_mem _ hv)) with e | e
      . subst e; have := hz v hv; rw [irr (p v List.mem_cons_self)] at this; cases this
      . exact e
structure Grow (ys : List V) (i : Nat) (fs : List V) : Prop where
  up : fs.Pairwise fun a b => ltV a b = true
  mem : ∀ v, v ∈ fs ↔ v ∈ ys.take i
  last : ∀ v, fs.getLast? = some v -> ∃ k, k < i /\ ys[k]? = some v
  len : fs.length <= i
theorem Grow.start (ys : List V) : Grow ys 0 [] := ⟨List.Pairwise.nil, fun v => by simp, fun v h => by simp at h, Nat.zero_le _⟩
theorem take_succ_mem {ys : List V} {i : Nat} {x v : V} (hx : ys[i]? = some x) : v ∈ ys.take (i + 1) ↔ v ∈ ys.take i \/ v = x := by
  rw [List.take_succ, hx]; simp
theorem Grow.put {ys fs : List V} {i : Nat} {x : V} (g : Grow ys i fs) (p : ∀ v ∈ ys, plainV v) (so : ys.Pairwise fun a b => ltV b a = false) (hx : ys[i]? = some x) (h : ∀ l, fs.getLast? = some l -> ltV l x = true) : Grow ys (i + 1) (fs ++ [x]) := by
  have px := p x (List.mem_of_getElem? hx)
  refine ⟨List.pairwise_append.mpr ⟨g.up, List.pairwise_singleton _ _, fun a ha b hb => ?_⟩, fun v => ?_, fun v hv => ?_, by have := g.len; rw [List.length_append, List.length_singleton]; omega⟩
  . have e : b = x := by simpa using hb
    subst e
    obtain ⟨l, hl⟩ : ∃ l, fs.getLast? = some l := by
      cases q : fs.getLast? with
      | none => rw [List.getLast?_eq_none_iff] at q; rw [q] at ha; cases ha
      | some l => exact ⟨l, rfl⟩
    have pl : plainV l := p l (List.mem_of_mem_take ((g.mem l).mp (List.mem_of_getLast? hl)))
    have pa : plainV a := p a (List.mem_of_mem_take ((g.mem a).mp ha))
    obtain ⟨fs', rfl⟩ := List.getLast?_eq_some_iff.mp hl
    rcases List.mem_append.mp ha with h' | h'
    . exact tr pa pl px ((List.pairwise_append.mp g.up).2.2 a h' l (by simp)) (h l hl)
    . have e : a = l := by simpa using h'
      subst e; exact h a hl
  . rw [take_succ_mem hx, List.mem_append, g.mem v]; simp
  . rw [List.getLast?_append] at hv
    simp at hv
    subst hv
    exact ⟨i, Nat.lt_succ_self _, hx⟩
theorem Grow.skip {ys fs : List V} {i : Nat} {x l : V} (g : Grow ys i fs) (p : ∀ v ∈ ys, plainV v) (so : ys.Pairwise fun a b => ltV b a = false) (hx : ys[i]? = some x) (hl : fs.getLast? = some l) (h : ltV l x = false) : Grow ys (i + 1) fs := by
  have px := p x (List.mem_of_getElem? hx)
  have pl : plainV l := p l (List.mem_of_mem_take ((g.mem l).mp (List.mem_of_getLast? hl)))
  have hxl : ltV x l = false := by
    obtain ⟨k, hk, e⟩ := g.last l hl
    obtain ⟨k1, e1⟩ := List.getElem?_eq_some_iff.mp e
    obtain ⟨i1, e2⟩ := List.getElem?_eq_some_iff.mp hx
    have := (List.pairwise_iff_getElem.mp so) k i k1 i1 hk
    rw [e1, e2] at this
    exact this
  have e : l = x := tri pl px h hxl
  refine ⟨g.up, fun v => ?_, fun v hv => ?_, Nat.le_succ_of_le g.len⟩
  . rw [take_succ_mem hx, g.mem v]
    constructor
    . exact fun h => .inl h
    . rintro (h | h)
      . exact h
      . rw [h, <- e]; exact (g.mem l).mp (List.mem_of_getLast? hl)
  . obtain ⟨k, hk, e⟩ := g.last v hv
    exact ⟨k, by omega, e⟩
theorem Grow.rise {xs ys fs : List V} (g : Grow ys ys.length fs) (hp : ys.Perm xs) : Rise xs fs := ⟨g.up, fun v => by rw [g.mem v, List.take_length]; exact hp.mem_iff⟩
end Pl
end
section
namespace L2
open PySem PySem.Spec PyProof.Rows
def SameT (H H' : Hp) : Prop := ∀ b xs, H b = some (.tup xs) -> H' b = some (.tup xs)
theorem Same.t {H H' : Hp} (s : Same H H') : SameT H H' := fun b xs e => s b _ e
theorem SameT.trans {H H1 H2 : Hp} (a : SameT H H1) (b : SameT H1 H2) : SameT H H2 := fun c xs e => b c xs (a c xs e)
theorem sameT_lst {H : Hp} {D : Addr} {ys zs : List V} (h : H D = some (.lst ys)) : SameT H (upd H D (.lst zs)) := fun b xs e => by
  rw [upd_ne (ne_of e h (by intro z; cases z))]; exact e
end L2
end
section
namespace L2
open PySem PySem.Spec PyProof.Rows
def noStar : Expr -> Bool
  | .Starred _ _ => false
  | _ => true
theorem star_cons {e : Expr} {es : List Expr} {env : Env} (h : noStar e = true) : starEach (e :: es) env = (false, eval e env) :: starEach es env := by
  cases e <;> first | rfl | (exact absurd h Bool.false_ne_true)
theorem pa_c {X : Cx} {e : Expr} {es : List Expr} {te : TE} {t : TA} (ha : PE X e te) (hr : PA X es t) (hn : noStar e = true := by rfl) : PA X (e :: es) (tCons te t) := pa_cons ha hr (star_cons hn)
end L2
end
section
namespace L2
open PySem PySem.Spec PyProof.Rows
section
variable {prog : Program} {w : World} {A : Around} {E : Value -> Shared -> Prop} {s : Shared}
variable {z TI TO i1 i2 : Addr} {fp1 fp2 : List Addr} {n1 n2 i : Nat} {P1 P2 : Nat -> Value -> Prop} {S1 S2 : Nat -> Heap -> Prop}
end
end L2
end
section
namespace L2
open PySem PySem.Spec PyProof.Rows
def SqB (tup : Bool) (H : Hp) (a : Addr) (xs : List V) : Prop := H a = some (if tup then .tup xs else .lst xs)
def ItZ (ta tb : Bool) (a b : Addr) : It :=
  ⟨fun i H => ∃ xs ys x y, SqB ta H a xs /\ SqB tb H b ys /\ xs[i]? = some x /\ ys[i]? = some y,
   fun i H v H' => ∃ T x y, H T = none /\ v = .ref T /\ H' = upd H T (.tup [x, y]) /\ (∀ xs, SqB ta H a xs -> xs[i]? = some x) /\ ∀ ys, SqB tb H b ys -> ys[i]? = some y,
   fun i H => ∃ xs, SqB ta H a xs /\ xs.length = i⟩
section
variable {prog : Program} {w : World} {A : Around} {E : Value -> Shared -> Prop} {s : Shared}
end
section
variable {X : Cx} {ea eb : Expr} {ua ub : TE} {p pos tpos : Pos} {elts : List Expr} {kk : Nat}
def iZip (ta tb : Bool) (ua ub : TE) : TI := fun σ H R => ua σ H fun x H1 => ub σ H1 fun y H2 => ∃ a b xs ys, x = .ref a /\ y = .ref b /\ SqB ta H2 a xs /\ SqB tb H2 b ys /\ R (ItZ ta tb a b) H2
theorem tFor_zip {ta tb : Bool} {g : TG} {t : TS} {D : Ends} {σ : St} {H : Hp} : tFor (iZip ta tb ua ub) g t D σ H = ua σ H fun x H1 => ub σ H1 fun y H2 => ∃ a b xs ys, x = .ref a /\ y = .ref b /\ SqB ta H2 a xs /\ SqB tb H2 b ys /\ FoR (ItZ ta tb a b) g t D σ H2 := rfl
end
end L2
end
section
namespace L2
open PySem PySem.Spec PyProof.Rows
section
variable {X : Cx}
end
end L2
end
section
namespace L2
open PySem PySem.Spec PyProof.Rows
section
variable {X : Cx}
def rAll (K : PySem.W.Frag) : List V -> Hp -> VK -> Prop := fun xs H Q => ∃ (a : Addr) (bs : List Bool), xs = [.ref a] /\ SqL K H a (bs.map V.bl) /\ Q (.bl (bs.all id)) H
def tDNew : TE := fun _ H Q => ∀ p, H p = none -> Q (.ref p) (upd H p (.dK []))
def rEqN (K : PySem.W.Frag) : R2 := fun x y H Q => ∃ a b xs ys, x = .ref a /\ y = .ref b /\ SqL K H a xs /\ SqL K H b ys /\ ((xs.length ≠ ys.length /\ Q (.bl false) H) \/ (xs.all flatV = true /\ ys.all flatV = true /\ Q (.bl (eqVs xs ys)) H))
theorem tLc_rng2 {ta : TA} {tt : TT} {te : TE} {σ : St} {H : Hp} {Q : VK} : tLc (iRng2 ta) tt te σ H Q = ta σ H fun vs H1 => ∃ i j : Int, vs = [.int i, .int j] /\ (-(2 ^ 62) <= i /\ i < 2 ^ 62 /\ -(2 ^ 62) <= j /\ j < 2 ^ 62) /\ LcR (Itr i (j - i).toNat) tt te σ Q H1 := rfl
end
end L2
end
section
namespace L2
open PySem PySem.Spec PyProof.Rows
end L2
namespace Th
open PySem L2 Pl
def signB (c : Nat) : Bool := decide (32 <= c /\ c <= 126 /\ c ≠ 37)
def goodZ (z : Str) : Prop := z.length <= 60 /\ ∀ c ∈ z.cps.toList, signB c = true \/ c = 9 \/ c = 10
def flatG : V -> Prop
  | .non => True
  | .bl _ => True
  | .int _ => True
  | .str z => goodZ z
  | _ => False
def TT : Nat -> Hp -> V -> Prop
  | 0, H, v => flatG v \/ ∃ a, v = .ref a /\ ((∃ xs, H a = some (.lst xs)) \/ H a = some (.dK []) \/ ∃ xs, H a = some (.tup xs) /\ xs.length <= 60)
  | n + 1, H, v => flatG v \/ ∃ a, v = .ref a /\ ((∃ xs, H a = some (.lst xs)) \/ H a = some (.dK []) \/ ∃ xs, H a = some (.tup xs) /\ xs.length <= 60 /\ ∀ u ∈ xs, TT n H u)
end Th
end
section
namespace L2
open PySem PySem.Spec PyProof.Rows
def HeadIs (h : Heap) (Y : Addr -> Prop) (e : Addr) (vs : Array Value) : Option Value -> Prop
  | none => vs[1]? = some .none
  | some v => ∃ T oT ts, vs[1]? = some (.ref T) /\ T ≠ e /\ (Y T /\ oT.cls = .type "traceback") /\ h.get? T = some oT /\ oT.data = .fields ts /\ ts[3]? = some v
def Links : List (Addr × Obj) -> Value -> Prop
  | [], c => c = .none
  | p :: r, c => c = .ref p.1 /\ ∃ va c', p.2.data = .fields va /\ va[2]? = some c' /\ Links r c'
def Lie (h : Heap) (Y : Addr -> Prop) (e : Addr) (ch : List (Addr × Obj)) : Prop := (e :: ch.map (·.1)).Nodup /\ ∀ p ∈ ch, h.get? p.1 = some p.2 /\ p.2.cls ≠ .type "traceback" /\ (∃ va, p.2.data = .fields va) /\ Y p.1
def Exc (h : Heap) (Y : Addr -> Prop) (e : Addr) (cls : Value) (dx : Option Addr) (ch : List (Addr × Obj)) (fl : Option Value) : Prop :=
  ∃ oe vs, h.get? e = some oe /\ oe.cls = cls /\ oe.dict = dx /\ oe.data = .fields vs /\ ((∃ c, vs[2]? = some c /\ Links ch c) /\ Lie h Y e ch) /\ HeadIs h Y e vs fl
section
variable {M : Model} {A : Around} {E : Value -> Shared -> Prop} {s : Shared} {Y : Addr -> Prop} {base : Heap} {env : Env} {outer : List Env} {L e : Addr} {cls : Value} {dx : Option Addr} {ch : List (Addr × Obj)} {fl : Option Value} {Q : Unit -> Shared -> Prop}
end
end L2
end
section
namespace L2
open PySem PySem.Spec PyProof.Rows
theorem Exc.mono {h : Heap} {Y Y' : Addr -> Prop} {e : Addr} {cls : Value} {dx : Option Addr} {ch : List (Addr × Obj)} {fl : Option Value} (x : Exc h Y e cls dx ch fl) (k : ∀ b, Y b -> Y' b) : Exc h Y' e cls dx ch fl := by
  obtain ⟨oe, vs, he, hc, hdx, hd, ⟨lk, l1, l2⟩, hh⟩ := x
  refine ⟨oe, vs, he, hc, hdx, hd, ⟨lk, l1, fun p hp => let ⟨a, b, c, d⟩ := l2 p hp; ⟨a, b, c, k _ d⟩⟩, ?_⟩
  cases fl with
  | none => exact hh
  | some v => obtain ⟨T, oT, ts, h1, h2, h3, r⟩ := hh; exact ⟨T, oT, ts, h1, h2, ⟨k T h3.1, h3.2⟩, r⟩
def Yg (old : Heap) (H : Hp) (b : Addr) : Prop := old.get? b = none /\ H b = none
def CX1 (P : Program) (w : World) : CXT := fun outer H s E e s' => ∃ ea cls dx ch H', e = .ref ea /\ s'.os = s.os /\ AllBare s'.gens /\ Un (frs outer) [] H H' s.heap s'.heap /\ HOk P w H' s'.heap /\
  Exc s'.heap (Yg s.heap H') ea cls dx ch (some .none) /\ s.heap.get? ea = none /\ H' ea = none /\ E cls dx H'
def Throws (X : Cx) (E : XK) : Prop := ∀ (pins : List (Addr × Obj)) (σ : St) (H : Hp) (s : Shared) (e : Addr) (cls : Value) (dx : Option Addr) (ch : List (Addr × Obj)) (fl : Option Value), Inv X pins σ H s -> Exc s.heap (Yg X.s₀.heap H) e cls dx ch fl -> (fl = none \/ fl = some .none) ->
  X.s₀.heap.get? e = none -> H e = none -> E cls dx H -> X.xe (.ref e) s
section
variable {X : Cx} {E : XK} {pins : List (Addr × Obj)} {σ : St} {H : Hp} {s : Shared}
theorem Inv.young (I : Inv X pins σ H s) (hx : X.ex = []) {b : Addr} (h : s.heap.get? b = none) : X.s₀.heap.get? b = none := by
  cases q : X.s₀.heap.get? b with
  | none => rfl
  | some o =>
    obtain ⟨o', e⟩ := I.base.there b o q (by rw [hx]; simp)
    rw [h] at e; cases e
end
section
variable {P : Program} {w : World} {K : PySem.W.Frag} {mg : Str -> Option Value} {base : Heap} {N : List Str} {qual : Str} {scope : Scope} {f : Addr} {cd : Value} {A : Around} {outer : List Env} {s : Shared} {H : Hp} {E : XK}
theorem own1 : PassesOwn (model P w) (cxOf (CX1 P w) P w K mg base N qual scope f cd A outer s H E).A (cxOf (CX1 P w) P w K mg base N qual scope f cd A outer s H E).env (cxOf (CX1 P w) P w K mg base N qual scope f cd A outer s H E).xe := PassesOwn.leaving (Q₁ := fun e s'' => CX1 P w outer H s E e s'')
end
section
variable {X : Cx} {E : XK} {x : Str} {C : Addr} {bm bmB : List Value} {B newId initId : String} {np cpos pos : Pos}
end
end L2
end
section
namespace L2
open PySem PySem.Spec PyProof.Rows
structure Old (X : Cx) (pins : List (Addr × Obj)) (old : Heap) : Prop where
  ent : ∀ b, old.get? b = none -> X.s₀.heap.get? b = none
  pin : ∀ p ∈ X.pn ++ pins, old.get? p.1 ≠ none
def X1P (X : Cx) (pins : List (Addr × Obj)) (σ : St) (E : XK) (ev : Value) (s' : Shared) : Prop :=
  ∃ ea cls dx ch H' old, ev = .ref ea /\ Inv X pins σ H' s' /\ Exc s'.heap (Yg old H') ea cls dx ch (some .none) /\ Old X pins old /\ (∀ b, s'.heap.objs.size <= b -> old.get? b = none) /\ old.get? ea = none /\ H' ea = none /\ E cls dx H'
abbrev TE1 := St -> Hp -> VK -> XK -> Prop
abbrev TS1 := Ends -> St -> Hp -> XK -> Prop
def PE1 (X : Cx) (e : Expr) (t : TE1) : Prop :=
  ∀ (pins : List (Addr × Obj)) (s : Shared) (σ : St) (H : Hp) (Q : VK) (E : XK), Inv X pins σ H s -> t σ H Q E -> wpAny (model X.prog X.w) X.A (eval e X.env) (EP X pins σ Q) (X1P X pins σ E) s
section
variable {X : Cx} {E : XK} {e : Expr} {es : List Expr} {t : TA} {t1 : TE1} {x : Str} {p pos : Pos} {k j : Nat} {f : Addr} {fd : FuncData} {ps : List Str} {sp : Sp}
theorem X1P.thrown {pins : List (Addr × Obj)} {σ : St} {ev : Value} {s' : Shared} (T : Throws X E) (h : X1P X pins σ E ev s') : X.xe ev s' := by
  obtain ⟨ea, cls, dx, ch, H', old, rfl, I, y, o, _, n1, n2, hE⟩ := h
  exact T pins σ H' s' ea cls dx ch _ I (y.mono fun b z => ⟨o.ent b z.1, z.2⟩) (.inr rfl) (o.ent _ n1) n2 hE
theorem PE1.pe (h : PE1 X e t1) (T : Throws X E) : PE X e (fun σ H Q => t1 σ H Q E) := fun pins s σ H Q I q => wpAny_mono (h pins s σ H Q E I q) (fun _ _ z => z) fun _ _ z => z.thrown T
theorem Inv.old {pins : List (Addr × Obj)} {σ : St} {H : Hp} {s : Shared} (I : Inv X pins σ H s) (hex : X.ex = []) : Old X pins s.heap :=
  ⟨fun b h => I.young hex h, fun p hp h => by rw [(I.pin p hp).1] at h; cases h⟩
theorem run_fn1 {pins : List (Addr × Obj)} {σ : St} {H : Hp} {s : Shared} {Q : VK} {us : List Value} {vs : List V} (F : FnOk X.prog X.w X.K X.mg X.base (CX1 X.prog X.w) k f fd ps sp) (hr : Room k X.A) (hb : Binds X.K fd ps []) (hex : X.ex = [])
    (I : Inv X pins σ H s) (r : Vals vs us) (h : sp vs H Q E) : wpAny (model X.prog X.w) X.A (call (.ref f) us) (EP X pins σ Q) (X1P X pins σ E) s := by
  have hl : (us ++ []).length = ps.length := by rw [List.append_nil, <- r.length]; exact F.len _ _ _ _ h
  have b := hb s us I.kIn hl
  rw [List.append_nil] at b
  refine wpAny_call (codeAny_mono (F.run X.A X.stack s H ⟨us, []⟩ us vs Q E hr I.env0 b r h) fun res s' hq => ?_)
  cases res with
  | error ev =>
    obtain ⟨ea, cls, dx, ch, H', rfl, os, bare, un, hok, y, n1, n2, hE⟩ := hq
    refine ⟨ea, cls, dx, ch, H', s.heap, rfl, I.call' (ch := []) os un hok bare (fun b z => absurd z (by simp)), y, I.old hex, fun b hb => ?_, n1, n2, hE⟩
    cases q : s.heap.get? b with
    | none => rfl
    | some u =>
      obtain ⟨u', q'⟩ := un.there b u q (by simp)
      exact absurd (Nat.lt_of_lt_of_le (Heap.lt_size q') hb) (Nat.lt_irrefl _)
  | ok fl =>
    cases fl with
    | ret u => exact I.after hq
    | next => exact False.elim hq
    | brk => exact False.elim hq
    | cont => exact False.elim hq
end
section
variable {X : Cx} {pins : List (Addr × Obj)} {σ : St} {H : Hp} {s : Shared}
end
section
variable {X : Cx} {st b₀ : Stmt} {suite : List Stmt} {t1 : TS1} {ts : TS} {x : Str} {C : Addr} {bm bmB : List Value} {B newId initId : String} {np hpos pos : Pos}
end
end L2
end
section
namespace L2
open PySem PySem.Spec PyProof.Rows
section
variable {prog : Program} {w : World} {A : Around} {s : Shared} {R : Result -> Shared -> Prop} {value : Value}
end
section
variable {M : Model} {A : Around} {E : Value -> Shared -> Prop} {env : Env}
variable {nm q : Str} {C N : Addr} {bs bm : List Value} {hdct : Bool} {sn : List Str} {sub : List Value} {ab : Bool} {col : Option Bool} {dd : Option Addr} {k0 k1 k2 k3 k5 : Option Value} {newId : String}
end
section
variable {X : Cx} {E : XK} {x : Str} {C ea : Addr} {ps : List (Addr × Obj)} {bm bmB : List Value} {B newId initId : String} {np cpos kpos pos : Pos} {j : Nat}
end
end L2
end
section
namespace L2
open PySem PySem.Spec PyProof.Rows
def MeV (P : Program) (w : World) (K : PySem.W.Frag) (mg : Str -> Option Value) (base : Heap) (k : Nat) (C : Addr) (m : Str) (sp : Sp) : Prop :=
  ∃ f fd ps, Meth K C m f /\ FnOk P w K mg base (CX1 P w) k f fd ps sp /\ Binds K fd ps []
section
variable {X : Cx} {C : Addr} {m x : Str} {k i : Nat} {sp : Sp} {ta : TE} {t : TA} {e o : Expr} {es : List Expr} {p pos apos : Pos} {pl : Sem Bool}
theorem pe_noxW {pins : List (Addr × Obj)} {σ : St} {H : Hp} {s : Shared} {Q : VK} {W : Value -> Shared -> Prop} (h : PE X.nox e ta) (I : Inv X pins σ H s) (q : ta σ H Q) : wpAny (model X.prog X.w) X.A (eval e X.env) (EP X pins σ Q) W s :=
  wpAny_mono (h pins s σ H Q (I.wish _) q) (fun _ _ ⟨v, H', I', r, z⟩ => ⟨v, H', I'.unwish, r, z⟩) fun _ _ z => False.elim z
end
section
variable {P : Program} {w : World} {K : PySem.W.Frag} {mg : Str -> Option Value} {base : Heap}
theorem Fun.ok1 {x qual : Str} {st : Stmt} {f : Addr} {fd : FuncData} {N ps : List Str} {k : Nat} {sp : Sp} (F : Fun K x qual st f fd) (S : FnScope N ps (defScope st)) (len : ∀ vs H Q E, sp vs H Q E -> vs.length = ps.length)
    (hbody : ∀ (cdv : Value) (A : Around) (outer : List Env) (s : Shared) (H : Hp) (vs : List V) (Q : VK) (E : XK), Room k (A.deeper (envOfC qual (defScope st) s.heap.objs.size f cdv)) -> sp vs H Q E ->
      ∃ t, PSs (cxOf (CX1 P w) P w K mg base N qual (defScope st) f cdv A outer s H E) (defBody st) t /\ t { nx := fun _ H' => Q .non H', rt := Q } (start N vs) H) : FnOk P w K mg base (CX1 P w) (k + 1) f fd ps sp := by
  obtain ⟨oc, od, kV, doc, pm, an, cdv, ct, osl, rfl, lk, hcd⟩ := F.ex
  exact fn_of lk hcd S len fun A outer s H vs Q E hr hsp => hbody cdv A outer s H vs Q E hr hsp
end
end L2
end
section
namespace L2
open PySem PySem.Spec PyProof.Rows
section
variable {X : Cx}
theorem throwsN : Throws X E0 := fun _ _ _ _ _ _ _ _ _ _ _ _ _ _ h => h.elim
end
section
variable {P : Program} {w : World} {K : PySem.W.Frag} {mg : Str -> Option Value} {base : Heap} {N : List Str} {qual : Str} {scope : Scope} {f : Addr} {cd : Value} {A : Around} {outer : List Env} {s : Shared} {H : Hp} {E : XK}
end
end L2
end
section
namespace L2
open PySem PySem.Spec PyProof.Rows
def MkV (P : Program) (w : World) (K : PySem.W.Frag) (mg : Str -> Option Value) (base : Heap) (k : Nat) (x : Str) (C : Addr) (sp : Sp) : Prop :=
  ∃ f fd ps, Mk K C f /\ FnOk P w K mg base CX0 k f fd ps sp /\ Binds K fd ps [] /\ mg x = some (.ref C)
section
variable {X : Cx} {e o : Expr} {es : List Expr} {t : TA} {ta : TE} {p pos apos : Pos} {j k : Nat} {x m : Str} {ps : List Str} {sp : Sp} {C : Addr} {E : XK} {pl : Sem Bool}
theorem MeV.mono {P : Program} {w : World} {K : PySem.W.Frag} {mg : Str -> Option Value} {base : Heap} (G : MeV P w K mg base j C m sp) (hj : j <= k) : MeV P w K mg base k C m sp := by
  obtain ⟨f, fd, ps, a, F, b⟩ := G
  exact ⟨f, fd, ps, a, F.mono hj, b⟩
theorem pe_mk (G : MkV X.prog X.w X.K X.mg X.base j x C sp) (hr : Room k X.A) (hj : j + 1 <= k) (hg : Gl X x) (ha : PA X (e :: es) t) (hdb : (x == ("__debug__" : Str)) = false := by decide)
    (he : starEach (e :: es) X.env = (false, eval e X.env) :: starEach es X.env := by rfl) (hpl : (backTo pos (starEach es X.env)).any (·.1) = false := by rfl) : PE X (.Call (.Name x p) (e :: es) [] pos) (tMake C sp [] E0 t) := by
  obtain ⟨f, fd, ps, M, F, b, hm⟩ := G
  exact pe_make M F (hr.mono hj) hg hm b .nil pass0 ha hdb he hpl
theorem pe_gfn {f : Addr} (hm : X.mg x = some (.ref f)) (hg : Gl X x) (hd : (x == ("__debug__" : Str)) = false := by decide) : PE X (.Name x pos) (tC (.ref f)) := pe_glob hg hm rfl hd
end
end L2
end
section
namespace Tg
open PySem L2 Pl
def signB (c : Nat) : Bool := decide (32 <= c /\ c <= 126 /\ c ≠ 37)
def goodZ (z : Str) : Prop := z.length <= 10000000
def flatG : V -> Prop
  | .non => True
  | .bl _ => True
  | .int _ => True
  | .str z => goodZ z
  | _ => False
def TT : Nat -> Hp -> V -> Prop
  | 0, H, v => flatG v \/ ∃ a, v = .ref a /\ ((∃ xs, H a = some (.lst xs)) \/ H a = some (.dK []) \/ ∃ xs, H a = some (.tup xs) /\ xs.length <= 100000)
  | n + 1, H, v => flatG v \/ ∃ a, v = .ref a /\ ((∃ xs, H a = some (.lst xs)) \/ H a = some (.dK []) \/ ∃ xs, H a = some (.tup xs) /\ xs.length <= 100000 /\ ∀ u ∈ xs, TT n H u)
end Tg
end
section
namespace L2
open PySem PySem.Spec PyProof.Rows
section
variable {X : Cx}
end
end L2
namespace L2
open PySem PySem.Spec PyProof.Rows
end L2
end
section
namespace L2
open PySem PySem.Spec PyProof.Rows
section
variable {X : Cx}
end
end L2
end
section
namespace L2
open PySem PySem.Spec PyProof.Rows
end L2
end
section
namespace PySem
section
variable {prog : Program} {w : World} {A : Around} {E : Value -> Shared -> Prop} {h : Heap} {g : Array GenState} {d : Drawn} {t : Nat} {os : OsState}
variable {nm q : Str} {C N : Addr} {bs bm bmB : List Value} {hdct : Bool} {sn : List Str} {sub : List Value} {ab : Bool} {col : Option Bool} {dd : Option Addr} {k0 k1 k2 k3 k5 : Option Value} {B newId initId : String}
end
end PySem
end
section
namespace PySem.W
open PySem PySem.Spec PySem.Calls PyProof.Rows PySem.Builtin PySem.Builtin.ObjectAttr
section
variable {K : Frag} {C CT : Addr}
end
section
variable {prog : Program} {w : World} {A : Around} {E : Value -> Shared -> Prop} {s : Shared} {K : Frag} {x C CT : Addr} {ox : Obj} {od : Option Obj} {name : Str}
end
end PySem.W
end
section
namespace L2
open PySem PySem.Spec PyProof.Rows
section
variable {P : Program} {w : World} {H : Hp} {h : Heap} {e C : Addr} {dx : Option Addr} {fs : List (Str × V)}
end
section
variable {X : Cx} {pins : List (Addr × Obj)} {σ : St} {H : Hp} {s : Shared} {a C CT : Addr} {fs : List (Str × V)}
end
section
variable {X : Cx} {pins : List (Addr × Obj)} {σ : St} {H H' : Hp} {s : Shared} {d e : Addr} {o : HO}
end
section
variable {X : Cx} {pins : List (Addr × Obj)} {σ : St} {H : Hp} {s : Shared} {a C CT : Addr} {f : Str}
variable {o value : Expr} {pos pos' : Pos} {ta tv : TE}
end
end L2
end
section
namespace PySem
section
variable {prog : Program} {w : World} {A : Around} {E : Value -> Shared -> Prop} {s : Shared} {K : W.Frag} {C CT e t : Addr} {dx : Option Addr}
end
section
variable {prog : Program} {w : World} {A : Around} {E : Value -> Shared -> Prop} {h : Heap} {g : Array GenState} {d : Drawn} {t : Nat} {os : OsState} {K : W.Frag} {C CT : Addr}
end
section
variable {M : Model} {A : Around} {E : Value -> Shared -> Prop} {env : Env}
variable {nm q : Str} {C N : Addr} {bs bm : List Value} {hdct : Bool} {sn : List Str} {sub : List Value} {ab : Bool} {col : Option Bool} {dd : Option Addr} {k0 k1 k2 k3 k5 : Option Value} {newId : String}
variable {nm' q' : Str} {CT N' : Addr} {bs' bm' : List Value} {hdct' : Bool} {sn' : List Str} {sub' : List Value} {ab' : Bool} {col' : Option Bool} {dd' : Option Addr} {j0 j1 j2 j3 j5 : Option Value} {newId' : String}
end
end PySem
namespace PySem.W
open PySem
section
variable {K : Frag} {C CT : Addr} {fl : List Str}
end
end PySem.W
namespace L2
open PySem PySem.Spec PyProof.Rows
section
variable {X : Cx} {x : Str} {CT : Addr} {e : Expr} {es : List Expr} {t : TA} {p pos apos cpos np : Pos} {pl : Sem Bool}
variable {E : XK} {C : Addr} {fl : List Str} {j k : Nat}
end
section
variable {X : Cx} {st b₀ : Stmt} {suite : List Stmt} {t1 : TS1} {ts : TS} {x n : Str} {CT : Addr} {np hpos pos : Pos} {i : Nat}
end
end L2
end
section
namespace L2
open PySem PySem.Spec PyProof.Rows
inductive Dt where
  | v (x : V)
  | t (xs : List Dt)
  | l (xs : List Dt)
instance : Inhabited Dt := ⟨.v .non⟩
mutual
def eqD : Dt -> Dt -> Bool
  | .v x, .v y => eqV x y
  | .t xs, .t ys => eqDs xs ys
  | .l xs, .l ys => eqDs xs ys
  | _, _ => false
def eqDs : List Dt -> List Dt -> Bool
  | [], [] => true
  | x :: xs, y :: ys => eqD x y && eqDs xs ys
  | _, _ => false
end
inductive Rep (K : PySem.W.Frag) (H : Hp) : Nat -> Dt -> V -> Prop where
  | v {n : Nat} {x : V} (f : flatV x = true) : Rep K H n (.v x) x
  | t {n : Nat} {a : Addr} {ds : List Dt} {xs : List V} (h : SqT K H a xs) (e : ds.length = xs.length) (r : ∀ (i : Nat) d x, ds[i]? = some d -> xs[i]? = some x -> Rep K H n d x) : Rep K H (n + 1) (.t ds) (.ref a)
  | l {n : Nat} {a : Addr} {ds : List Dt} {xs : List V} (h : SqL K H a xs) (e : ds.length = xs.length) (r : ∀ (i : Nat) d x, ds[i]? = some d -> xs[i]? = some x -> Rep K H n d x) : Rep K H (n + 1) (.l ds) (.ref a)
theorem all_range_succ (n : Nat) (p : Nat -> Bool) : (List.range (n + 1)).all p = (p 0 && (List.range n).all fun i => p (i + 1)) := by
  rw [List.range_succ_eq_map, List.all_cons, List.all_map]; rfl
theorem eqDs_eq : ∀ xs ys : List Dt, eqDs xs ys = ((List.range (min xs.length ys.length)).all (fun i => eqD (xs.getD i default) (ys.getD i default)) && (xs.length == ys.length))
  | [], [] => by simp [eqDs]
  | [], y :: ys => by simp [eqDs]
  | x :: xs, [] => by simp [eqDs]
  | x :: xs, y :: ys => by
    rw [eqDs, eqDs_eq xs ys, List.length_cons, List.length_cons, Nat.succ_min_succ, all_range_succ]
    simp only [List.getD_cons_zero, List.getD_cons_succ, Bool.and_assoc]
    have : (xs.length + 1 == ys.length + 1) = (xs.length == ys.length) := by rw [Bool.eq_iff_iff, beq_iff_eq, beq_iff_eq]; omega
    rw [this]
theorem eqDs_len {xs ys : List Dt} (h : xs.length = ys.length) : eqDs xs ys = (List.range xs.length).all (fun i => eqD (xs.getD i default) (ys.getD i default)) := by
  rw [eqDs_eq, <- h, Nat.min_self, beq_self_eq_true, Bool.and_true]
theorem eqDs_ne {xs ys : List Dt} (h : xs.length ≠ ys.length) : eqDs xs ys = false := by
  rw [eqDs_eq, beq_eq_false_iff_ne.mpr h, Bool.and_false]
section
variable {K : PySem.W.Frag} {H H' : Hp} {n m : Nat} {d d' : Dt} {x : V}
theorem Rep.mono (r : Rep K H n d x) : ∀ {m : Nat}, n <= m -> Rep K H m d x := by
  induction r with
  | v f => exact fun _ => .v f
  | t h e _ ih =>
    intro m hm
    obtain ⟨k, rfl⟩ : ∃ k, m = k + 1 := ⟨m - 1, by omega⟩
    exact .t h e fun i d x a b => ih i d x a b (by omega)
  | l h e _ ih =>
    intro m hm
    obtain ⟨k, rfl⟩ : ∃ k, m = k + 1 := ⟨m - 1, by omega⟩
    exact .l h e fun i d x a b => ih i d x a b (by omega)
theorem Rep.same (r : Rep K H n d x) (s : Same H H') : Rep K H' n d x := by
  induction r with
  | v f => exact .v f
  | t h e _ ih => exact .t (Same.seqT s h) e ih
  | l h e _ ih => exact .l (Same.seq s h) e ih
theorem Rep.self (r : Rep K H n d x) : eqD d d = true := by
  induction r with
  | v f => unfold eqD; exact eqV_refl f
  | t h e _ ih =>
    unfold eqD
    rw [eqDs_len rfl, List.all_eq_true]
    intro i hi
    rename_i ds xs _
    have hi := List.mem_range.mp hi
    have h1 : ds[i]? = some ds[i] := List.getElem?_eq_getElem hi
    have h2 : xs[i]? = some (xs[i]'(by omega)) := List.getElem?_eq_getElem (by omega)
    have := ih i _ _ h1 h2
    rwa [show ds.getD i default = ds[i] by simp [List.getD, h1]]
  | l h e _ ih =>
    unfold eqD
    rw [eqDs_len rfl, List.all_eq_true]
    intro i hi
    rename_i ds xs _
    have hi := List.mem_range.mp hi
    have h1 : ds[i]? = some ds[i] := List.getElem?_eq_getElem hi
    have h2 : xs[i]? = some (xs[i]'(by omega)) := List.getElem?_eq_getElem (by omega)
    have := ih i _ _ h1 h2
    rwa [show ds.getD i default = ds[i] by simp [List.getD, h1]]
end
section
variable {X : Cx} {pins : List (Addr × Obj)} {σ : St} {H : Hp} {s : Shared}
theorem Inv.tup_not_list {a : Addr} {xs ys : List V} (I : Inv X pins σ H s) (h : SqT X.K H a xs) (h' : SqL X.K H a ys) : False := by
  obtain ⟨its, r, ⟨o, e, c, _⟩, _⟩ := I.tuple h
  obtain ⟨its', r', ⟨o', n', e', c', _⟩, _⟩ := I.list h'
  rw [e] at e'; cases e'
  rw [c] at c'; exact absurd (Value.type.inj c') (by decide)
theorem Rep.det (I : Inv X pins σ H s) : ∀ {n m : Nat} {d d' : Dt} {x y : V}, Rep X.K H n d x -> Rep X.K H m d' y -> x = y -> d = d' := by
  intro n m d d' x y r
  induction r generalizing m d' y with
  | v f =>
    intro r' e
    subst e
    cases r' with
    | v _ => rfl
    | t _ _ _ => exact absurd f (by simp [flatV])
    | l _ _ _ => exact absurd f (by simp [flatV])
  | t h e _ ih =>
    intro r' ee
    cases r' with
    | v f => subst ee; exact absurd f (by simp [flatV])
    | t h' e' r2 =>
      cases ee
      have := I.tuple_inj h h'
      subst this
      congr 1
      refine List.ext_getElem (by omega) fun i h1 h2 => ?_
      exact ih i _ _ (List.getElem?_eq_getElem h1) (List.getElem?_eq_getElem (show i < _ by omega)) (r2 i _ _ (List.getElem?_eq_getElem h2) (List.getElem?_eq_getElem (by omega))) rfl
    | l h' _ _ => cases ee; exact (I.tup_not_list h h').elim
  | l h e _ ih =>
    intro r' ee
    cases r' with
    | v f => subst ee; exact absurd f (by simp [flatV])
    | l h' e' r2 =>
      cases ee
      have := I.list_inj h h'
      subst this
      congr 1
      refine List.ext_getElem (by omega) fun i h1 h2 => ?_
      exact ih i _ _ (List.getElem?_eq_getElem h1) (List.getElem?_eq_getElem (show i < _ by omega)) (r2 i _ _ (List.getElem?_eq_getElem h2) (List.getElem?_eq_getElem (by omega))) rfl
    | t h' _ _ => cases ee; exact (I.tup_not_list h' h).elim
theorem getD_of {α : Type} {xs : List α} {i : Nat} {x d : α} (h : xs[i]? = some x) : xs.getD i d = x := by simp [List.getD, h]
theorem ne_units {A : Around} {n : Nat} (h : A.units + (n + 1) < cLine) : A.in1.units + n < cLine := by show A.units + 1 + n < cLine; omega
theorem Rep.eqAt (I : Inv X pins σ H s) : ∀ (n : Nat) {A : Around} {d d' : Dt} {x y : V} {u v : Value}, A.units + n < cLine -> Rep X.K H n d x -> Rep X.K H n d' y -> RelV x u -> RelV y v -> SeqAt.EqAt A s u v (eqD d d') := by
  intro n
  induction n with
  | zero =>
    intro A d d' x y u v hu r r' rx ry
    cases r with
    | v f =>
      cases r' with
      | v f' => unfold eqD; exact eqAt_V rx ry f f'
  | succ n ih =>
    intro A d d' x y u v hu r r' rx ry
    have hu0 : A.units < cLine := by omega
    have elems : ∀ {ds es : List Dt} {xs ys : List V} {us vs : List Value}, ds.length = xs.length -> es.length = ys.length -> (∀ (i : Nat) d x, ds[i]? = some d -> xs[i]? = some x -> Rep X.K H n d x) -> (∀ (i : Nat) d x, es[i]? = some d -> ys[i]? = some x -> Rep X.K H n d x) ->
        Vals xs us -> Vals ys vs -> ∀ j (h1 : j < us.toArray.size) (h2 : j < vs.toArray.size), SeqAt.EqAt A.in1 s us.toArray[j] vs.toArray[j] (eqD (ds.getD j default) (es.getD j default)) := by
      intro ds es xs ys us vs l1 l2 r1 r2 w1 w2 j h1 h2
      have m1 := w1.length
      have m2 := w2.length
      have j1 : j < xs.length := by have : j < us.length := by simpa using h1
                                    omega
      have j2 : j < ys.length := by have : j < vs.length := by simpa using h2
                                    omega
      have g1 : ds[j]? = some (ds[j]'(by omega)) := List.getElem?_eq_getElem _
      have g2 : es[j]? = some (es[j]'(by omega)) := List.getElem?_eq_getElem _
      have x1 : xs[j]? = some xs[j] := List.getElem?_eq_getElem _
      have x2 : ys[j]? = some ys[j] := List.getElem?_eq_getElem _
      obtain ⟨u1, e1, q1⟩ := w1.get x1
      obtain ⟨u2, e2, q2⟩ := w2.get x2
      rw [getD_of g1, getD_of g2]
      have k1 : us.toArray[j] = u1 := by
        have : us[j]? = some us[j] := List.getElem?_eq_getElem _
        rw [this] at e1; simpa using e1
      have k2 : vs.toArray[j] = u2 := by
        have : vs[j]? = some vs[j] := List.getElem?_eq_getElem _
        rw [this] at e2; simpa using e2
      rw [k1, k2]
      exact ih (ne_units hu) (r1 j _ _ g1 x1) (r2 j _ _ g2 x2) q1 q2
    cases r with
    | v f =>
      cases r' with
      | v f' => unfold eqD; exact eqAt_V rx ry f f'
      | t h e _ =>
        cases ry
        obtain ⟨its, _, p, _⟩ := I.tuple h
        unfold eqD
        cases x <;> first | (exact (Bool.false_ne_true f).elim) | skip
        . cases (show u = Value.none from rx); exact .none_tuple p hu0
        . cases (show u = Value.bool _ from rx); exact .bool_tuple _ p hu0
        . obtain ⟨t, rfl⟩ := rx; exact .int_tuple _ _ p hu0
        . obtain ⟨t, rfl⟩ := rx; exact .str_tuple _ _ p hu0
      | l h e _ =>
        cases ry
        obtain ⟨its, _, p, _⟩ := I.list h
        unfold eqD
        cases x <;> first | (exact (Bool.false_ne_true f).elim) | skip
        . cases (show u = Value.none from rx); exact .none_list p.isList hu0
        . cases (show u = Value.bool _ from rx); exact .bool_list _ p.isList hu0
        . obtain ⟨t, rfl⟩ := rx; exact .int_list _ _ p.isList hu0
        . obtain ⟨t, rfl⟩ := rx; exact .str_list _ _ p.isList hu0
    | t h e r1 =>
      rename_i a ds xs
      cases rx
      obtain ⟨its, w1, p, _⟩ := I.tuple h
      cases r' with
      | v f' =>
        unfold eqD
        cases y <;> first | (exact (Bool.false_ne_true f').elim) | skip
        . cases (show v = Value.none from ry); exact .tuple_none p hu0
        . cases (show v = Value.bool _ from ry); exact .tuple_bool _ p hu0
        . obtain ⟨t, rfl⟩ := ry; exact .tuple_int _ _ p hu0
        . obtain ⟨t, rfl⟩ := ry; exact .tuple_str _ _ p hu0
      | t h' e' r2 =>
        rename_i b es ys
        cases ry
        obtain ⟨its', w2, p', _⟩ := I.tuple h'
        by_cases ab : a = b
        . subst ab
          have z := Rep.det I (.t h e r1) (.t h' e' r2) rfl
          rw [<- z, Rep.self (.t h e r1)]; exact .same _
        . have q := SeqAt.RcAt.tuples (A := A) (e := fun i => eqD (ds.getD i default) (es.getD i default)) p p' hu0 (elems e e' r1 r2 w1 w2)
          have sz : its.toArray.size = ds.length := by rw [List.size_toArray, <- w1.length, e]
          have sz' : its'.toArray.size = es.length := by rw [List.size_toArray, <- w2.length, e']
          rw [sz, sz', <- eqDs_eq] at q
          unfold eqD
          exact .of_refs ab q
      | l h' _ _ =>
        cases ry
        obtain ⟨its', w2, p', _⟩ := I.list h'
        unfold eqD
        exact .tuple_list p p'.isList hu0
    | l h e r1 =>
      rename_i a ds xs
      cases rx
      obtain ⟨its, w1, p, _⟩ := I.list h
      cases r' with
      | v f' =>
        unfold eqD
        cases y <;> first | (exact (Bool.false_ne_true f').elim) | skip
        . cases (show v = Value.none from ry); exact .list_none p.isList hu0
        . cases (show v = Value.bool _ from ry); exact .list_bool _ p.isList hu0
        . obtain ⟨t, rfl⟩ := ry; exact .list_int _ _ p.isList hu0
        . obtain ⟨t, rfl⟩ := ry; exact .list_str _ _ p.isList hu0
      | l h' e' r2 =>
        rename_i b es ys
        cases ry
        obtain ⟨its', w2, p', _⟩ := I.list h'
        by_cases ab : a = b
        . subst ab
          have z := Rep.det I (.l h e r1) (.l h' e' r2) rfl
          rw [<- z, Rep.self (.l h e r1)]; exact .same _
        . have sz : its.toArray.size = ds.length := by rw [List.size_toArray, <- w1.length, e]
          have sz' : its'.toArray.size = es.length := by rw [List.size_toArray, <- w2.length, e']
          unfold eqD
          by_cases hl : ds.length = es.length
          . have q := SeqAt.RcAt.lists (A := A) (e := fun i => eqD (ds.getD i default) (es.getD i default)) p.isList p'.isList (by omega) hu0 (elems e e' r1 r2 w1 w2)
            rw [sz, <- eqDs_len hl] at q
            exact .of_refs ab q
          . rw [eqDs_ne hl]
            exact .of_refs ab (SeqAt.RcAt.lists_lengths p.isList p'.isList (by rw [sz, sz']; exact bne_iff_ne.mpr hl) hu0)
      | t h' _ _ =>
        cases ry
        obtain ⟨its', w2, p', _⟩ := I.tuple h'
        unfold eqD
        exact .list_tuple p.isList p' hu0
theorem Rep.elems (I : Inv X pins σ H s) {n : Nat} {A : Around} (hu : A.units + (n + 1) < cLine) {ds es : List Dt} {xs ys : List V} {us vs : List Value} (l1 : ds.length = xs.length) (l2 : es.length = ys.length)
    (r1 : ∀ (i : Nat) d x, ds[i]? = some d -> xs[i]? = some x -> Rep X.K H n d x) (r2 : ∀ (i : Nat) d x, es[i]? = some d -> ys[i]? = some x -> Rep X.K H n d x) (w1 : Vals xs us) (w2 : Vals ys vs) (j : Nat) (h1 : j < us.toArray.size) (h2 : j < vs.toArray.size) :
    SeqAt.EqAt A.in1 s us.toArray[j] vs.toArray[j] (eqD (ds.getD j default) (es.getD j default)) := by
  have m1 := w1.length
  have m2 := w2.length
  have j1 : j < xs.length := by have : j < us.length := by simpa using h1
                                omega
  have j2 : j < ys.length := by have : j < vs.length := by simpa using h2
                                omega
  have g1 : ds[j]? = some (ds[j]'(by omega)) := List.getElem?_eq_getElem _
  have g2 : es[j]? = some (es[j]'(by omega)) := List.getElem?_eq_getElem _
  have x1 : xs[j]? = some xs[j] := List.getElem?_eq_getElem _
  have x2 : ys[j]? = some ys[j] := List.getElem?_eq_getElem _
  obtain ⟨u1, e1, q1⟩ := w1.get x1
  obtain ⟨u2, e2, q2⟩ := w2.get x2
  rw [getD_of g1, getD_of g2]
  have k1 : us.toArray[j] = u1 := by
    have : us[j]? = some us[j] := List.getElem?_eq_getElem _
    rw [this] at e1; simpa using e1
  have k2 : vs.toArray[j] = u2 := by
    have : vs[j]? = some vs[j] := List.getElem?_eq_getElem _
    rw [this] at e2; simpa using e2
  rw [k1, k2]
  exact Rep.eqAt I n (ne_units hu) (r1 j _ _ g1 x1) (r2 j _ _ g2 x2) q1 q2
theorem Rep.rcNeAt (I : Inv X pins σ H s) {n : Nat} {A : Around} {d d' : Dt} {x y : V} {u v : Value} (hu : A.units + n < cLine) (r : Rep X.K H n d x) (r' : Rep X.K H n d' y) (rx : RelV x u) (ry : RelV y v) : SeqAt.RcNeAt A s u v (!eqD d d') := by
  have hu0 : A.units < cLine := by omega
  cases r with
  | v f =>
    cases r' with
    | v f' =>
      unfold eqD
      cases x <;> first | (exact (Bool.false_ne_true f).elim) | skip
      all_goals (cases y <;> first | (exact (Bool.false_ne_true f').elim) | skip)
      . cases (show u = Value.none from rx)
        cases (show v = Value.none from ry)
        exact SeqAt.RcNeAt.none_none
      . cases (show u = Value.none from rx)
        cases (show v = Value.bool _ from ry)
        exact SeqAt.RcNeAt.none_bool _
      . cases (show u = Value.none from rx)
        obtain ⟨tv, rfl⟩ := ry
        exact SeqAt.RcNeAt.none_int _ _
      . cases (show u = Value.none from rx)
        obtain ⟨tv, rfl⟩ := ry
        exact SeqAt.RcNeAt.none_str _ _
      . cases (show u = Value.bool _ from rx)
        cases (show v = Value.none from ry)
        exact SeqAt.RcNeAt.bool_none _
      . cases (show u = Value.bool _ from rx)
        cases (show v = Value.bool _ from ry)
        exact SeqAt.RcNeAt.bool_bool _ _
      . cases (show u = Value.bool _ from rx)
        obtain ⟨tv, rfl⟩ := ry
        exact SeqAt.RcNeAt.bool_int _ _ _
      . cases (show u = Value.bool _ from rx)
        obtain ⟨tv, rfl⟩ := ry
        exact SeqAt.RcNeAt.bool_str _ _ _
      . obtain ⟨tu, rfl⟩ := rx
        cases (show v = Value.none from ry)
        exact SeqAt.RcNeAt.int_none _ _
      . obtain ⟨tu, rfl⟩ := rx
        cases (show v = Value.bool _ from ry)
        exact SeqAt.RcNeAt.int_bool _ _ _
      . obtain ⟨tu, rfl⟩ := rx
        obtain ⟨tv, rfl⟩ := ry
        exact SeqAt.RcNeAt.int_int _ _ _ _
      . obtain ⟨tu, rfl⟩ := rx
        obtain ⟨tv, rfl⟩ := ry
        exact SeqAt.RcNeAt.int_str _ _ _ _
      . obtain ⟨tu, rfl⟩ := rx
        cases (show v = Value.none from ry)
        exact SeqAt.RcNeAt.str_none _ _
      . obtain ⟨tu, rfl⟩ := rx
        cases (show v = Value.bool _ from ry)
        exact SeqAt.RcNeAt.str_bool _ _ _
      . obtain ⟨tu, rfl⟩ := rx
        obtain ⟨tv, rfl⟩ := ry
        exact SeqAt.RcNeAt.str_int _ _ _ _
      . obtain ⟨tu, rfl⟩ := rx
        obtain ⟨tv, rfl⟩ := ry
        exact SeqAt.RcNeAt.str_str _ _ _ _
    | t h e _ =>
      cases ry
      obtain ⟨its, _, p, _⟩ := I.tuple h
      unfold eqD
      cases x <;> first | (exact (Bool.false_ne_true f).elim) | skip
      . cases (show u = Value.none from rx)
        exact SeqAt.RcNeAt.none_tuple p hu0
      . cases (show u = Value.bool _ from rx)
        exact SeqAt.RcNeAt.bool_tuple _ p hu0
      . obtain ⟨tu, rfl⟩ := rx
        exact SeqAt.RcNeAt.int_tuple _ _ p hu0
      . obtain ⟨tu, rfl⟩ := rx
        exact SeqAt.RcNeAt.str_tuple _ _ p hu0
    | l h e _ =>
      cases ry
      obtain ⟨its, _, p, _⟩ := I.list h
      unfold eqD
      cases x <;> first | (exact (Bool.false_ne_true f).elim) | skip
      . cases (show u = Value.none from rx)
        exact SeqAt.RcNeAt.none_list p.isList hu0
      . cases (show u = Value.bool _ from rx)
        exact SeqAt.RcNeAt.bool_list _ p.isList hu0
      . obtain ⟨tu, rfl⟩ := rx
        exact SeqAt.RcNeAt.int_list _ _ p.isList hu0
      . obtain ⟨tu, rfl⟩ := rx
        exact SeqAt.RcNeAt.str_list _ _ p.isList hu0
  | t h e r1 =>
    rename_i n a ds xs
    cases rx
    obtain ⟨its, w1, p, _⟩ := I.tuple h
    cases r' with
    | v f' =>
      unfold eqD
      cases y <;> first | (exact (Bool.false_ne_true f').elim) | skip
      . cases (show v = Value.none from ry)
        exact SeqAt.RcNeAt.tuple_none p hu0
      . cases (show v = Value.bool _ from ry)
        exact SeqAt.RcNeAt.tuple_bool _ p hu0
      . obtain ⟨tv, rfl⟩ := ry
        exact SeqAt.RcNeAt.tuple_int _ _ p hu0
      . obtain ⟨tv, rfl⟩ := ry
        exact SeqAt.RcNeAt.tuple_str _ _ p hu0
    | t h' e' r2 =>
      rename_i b es ys
      cases ry
      obtain ⟨its', w2, p', _⟩ := I.tuple h'
      have q := SeqAt.RcNeAt.tuples (A := A) (e := fun i => eqD (ds.getD i default) (es.getD i default)) p p' hu0 (Rep.elems I hu e e' r1 r2 w1 w2)
      have sz : its.toArray.size = ds.length := by rw [List.size_toArray, <- w1.length, e]
      have sz' : its'.toArray.size = es.length := by rw [List.size_toArray, <- w2.length, e']
      rw [sz, sz', <- eqDs_eq] at q
      unfold eqD
      exact q
    | l h' _ _ =>
      cases ry
      obtain ⟨its', w2, p', _⟩ := I.list h'
      unfold eqD
      exact SeqAt.RcNeAt.tuple_list p p'.isList hu0
  | l h e r1 =>
    rename_i n a ds xs
    cases rx
    obtain ⟨its, w1, p, _⟩ := I.list h
    cases r' with
    | v f' =>
      unfold eqD
      cases y <;> first | (exact (Bool.false_ne_true f').elim) | skip
      . cases (show v = Value.none from ry)
        exact SeqAt.RcNeAt.list_none p.isList hu0
      . cases (show v = Value.bool _ from ry)
        exact SeqAt.RcNeAt.list_bool _ p.isList hu0
      . obtain ⟨tv, rfl⟩ := ry
        exact SeqAt.RcNeAt.list_int _ _ p.isList hu0
      . obtain ⟨tv, rfl⟩ := ry
        exact SeqAt.RcNeAt.list_str _ _ p.isList hu0
    | l h' e' r2 =>
      rename_i b es ys
      cases ry
      obtain ⟨its', w2, p', _⟩ := I.list h'
      have sz : its.toArray.size = ds.length := by rw [List.size_toArray, <- w1.length, e]
      have sz' : its'.toArray.size = es.length := by rw [List.size_toArray, <- w2.length, e']
      unfold eqD
      by_cases hl : ds.length = es.length
      . have q := SeqAt.RcNeAt.lists (A := A) (e := fun i => eqD (ds.getD i default) (es.getD i default)) p.isList p'.isList (by omega) hu0 (Rep.elems I hu e e' r1 r2 w1 w2)
        rw [sz, <- eqDs_len hl] at q
        exact q
      . rw [eqDs_ne hl]
        exact SeqAt.RcNeAt.lists_lengths p.isList p'.isList (by rw [sz, sz']; exact bne_iff_ne.mpr hl) hu0
    | t h' _ _ =>
      cases ry
      obtain ⟨its', w2, p', _⟩ := I.tuple h'
      unfold eqD
      exact SeqAt.RcNeAt.list_tuple p.isList p' hu0
def rD (K : PySem.W.Frag) (neg : Bool) : R2 := fun x y H Q => ∃ n d d', n <= 60 /\ Rep K H n d x /\ Rep K H n d' y /\ Q (.bl (if neg then !eqD d d' else eqD d d')) H
theorem op_neD (hu : X.A.units + 64 < cLine) : OpR X (compareOp .NotEq) (rD X.K true) := by
  intro pins s σ H x y v u Q I rx ry h
  obtain ⟨n, d, d', hn, r, r', q⟩ := h
  exact Rep.rcNeAt I (A := X.A) (by omega) r r' rx ry X.prog X.w X.xe _ ⟨.bl _, H, I, rfl, q⟩
end
end L2
end
section
namespace L2
open PySem PySem.Spec PyProof.Rows PySem.W
section
variable {X : Cx} {pins : List (Addr × Obj)} {σ : St} {H : Hp} {s : Shared} {A : Around} {E : Value -> Shared -> Prop}
end
end L2
end
section
namespace L2
open PySem PySem.Spec PyProof.Rows
theorem relKey {k : Key} {u : Value} (h : keyIs k u = true) : RelV (kV k) u := by
  rcases keyIs_shape h with ⟨i, t, rfl, rfl⟩ | ⟨x, t, rfl, rfl⟩
  . exact ⟨t, rfl⟩
  . exact ⟨t, rfl⟩
def NF (X : Cx) (d : Addr) : Prop := ∀ o u, X.H₀ d ≠ some (.frz o u)
section
variable {X : Cx} {pins : List (Addr × Obj)} {σ : St} {H : Hp} {s : Shared} {d : Addr} {kvs : List (Key × V)}
end
def Itd (d : Addr) (ob : Obj) (kvs : List (Key × V)) : It :=
  ⟨fun i H => H d = some (.frz ob (.dK kvs)) /\ i < kvs.length, fun i H x H' => H' = H /\ ∃ k v, kvs[i]? = some (k, v) /\ x = kV k, fun i H => H d = some (.frz ob (.dK kvs)) /\ kvs.length <= i⟩
theorem KV.get {kvs : List (Key × V)} {vs : List (Key × Value)} (r : KV kvs vs) {i : Nat} {k : Key} {v : V} (h : kvs[i]? = some (k, v)) : ∃ u, vs[i]? = some (k, u) /\ RelV v u := by
  induction r generalizing i with
  | nil => simp at h
  | cons a b ih =>
    cases i with
    | zero =>
      simp only [List.getElem?_cons_zero, Option.some.injEq] at h ⊢
      subst h
      rename_i q _ _
      obtain ⟨k', u⟩ := q
      exact ⟨u, by rw [show k = k' from a.1], a.2⟩
    | succ j =>
      simp only [List.getElem?_cons_succ] at h ⊢
      exact ih h
theorem KV.len {kvs : List (Key × V)} {vs : List (Key × Value)} (r : KV kvs vs) : kvs.length = vs.length := Paired.length r
def iDict (X : Cx) (tl : TE) : TI := fun σ H R => tl σ H fun x H1 => ∃ d kvs, x = .ref d /\ H1 d = some (.dK kvs) /\ ∀ ob, NF X d -> R (Itd d ob kvs) (upd H1 d (.frz ob (.dK kvs)))
section
variable {X : Cx}
def Ends.thawed (X : Cx) (D : Ends) : Ends := { D with nx := fun σ H => ∃ d ob kvs, NF X d /\ H d = some (.frz ob (.dK kvs)) /\ D.nx σ (upd H d (.dK kvs)), rt := fun v H => ∃ d ob kvs, NF X d /\ H d = some (.frz ob (.dK kvs)) /\ D.rt v (upd H d (.dK kvs)) }
def sThaw (X : Cx) (t : TS) : TS := fun D σ H => t (D.thawed X) σ H
def tThaw (X : Cx) (te : TE) : TE := fun σ H Q => te σ H fun v H1 => ∃ d ob kvs, NF X d /\ H1 d = some (.frz ob (.dK kvs)) /\ Q v (upd H1 d (.dK kvs))
theorem tFor_dict {tl : TE} {g : TG} {tb : TS} {D : Ends} {σ : St} {H : Hp} : tFor (iDict X tl) g tb D σ H = tl σ H fun x H1 => ∃ d kvs, x = .ref d /\ H1 d = some (.dK kvs) /\ ∀ ob, NF X d -> FoR (Itd d ob kvs) g tb D σ (upd H1 d (.frz ob (.dK kvs))) := rfl
theorem tLc_dict {tl : TE} {tt : TT} {te : TE} {σ : St} {H : Hp} {Q : VK} : tLc (iDict X tl) tt te σ H Q = tl σ H fun x H1 => ∃ d kvs, x = .ref d /\ H1 d = some (.dK kvs) /\ ∀ ob, NF X d -> LcR (Itd d ob kvs) tt te σ Q (upd H1 d (.frz ob (.dK kvs))) := rfl
end
end L2
end
section
namespace L2
open PySem PySem.Spec PyProof.Rows
theorem Room.u1 {k : Nat} {A : Around} (r : Room k A) : A.units + 1 < cLine := by have := r.units; omega
def SqE (b : Bool) (K : PySem.W.Frag) (H : Hp) (a : Addr) (xs : List V) : Prop := if b = true then SqT K H a xs else SqL K H a xs
def ItE (b : Bool) (K : PySem.W.Frag) (a : Addr) : It := if b = true then Itt K a else Itl K a
def iSeq (K : PySem.W.Frag) (tl : TE) : TI := fun σ H R => tl σ H fun x H1 => ∃ a b, x = .ref a /\ (∃ xs, SqE b K H1 a xs) /\ R (ItE b K a) H1
section
variable {X : Cx} {tg : Expr}
end
theorem tFor_seq {K : PySem.W.Frag} {tl : TE} {g : TG} {tb : TS} {D : Ends} {σ : St} {H : Hp} : tFor (iSeq K tl) g tb D σ H = tl σ H fun x H1 => ∃ a b, x = .ref a /\ (∃ xs, SqE b K H1 a xs) /\ FoR (ItE b K a) g tb D σ H1 := rfl
end L2
end
section
namespace PySem.W
open PySem
def clsFacts (K : Frag) (C : Addr) (fl : List Str) : Bool := plainGet K C Str.empty && (hasDictIn K C && (plainOver K C && (findIn K (.ref C) "__setattr__" == some (some (.builtin "object.__setattr__")) && (findIn K (.ref C) "__class__" == some (some (.builtin "object.__class__")) && (mroIn K C (.type "object") == some true && fl.all fun f => findIn K (.ref C) f == some none)))))
theorem clsFacts_of {K : Frag} {C : Addr} {fl : List Str} (h : clsFacts K C fl = true) : L2.Cls K C /\ findIn K (.ref C) "__class__" = some (some (.builtin "object.__class__")) /\ mroIn K C (.type "object") = some true /\ ∀ f ∈ fl, L2.NoAttr K C f := by
  unfold clsFacts at h
  simp only [Bool.and_eq_true, beq_iff_eq, List.all_eq_true] at h
  obtain ⟨a, b, c, d, e, f, g⟩ := h
  exact ⟨⟨a, b, c, d⟩, e, f, g⟩
def mtxOk (K : Frag) (l : List Addr) (m : Nat -> Nat -> Bool) : Bool := (List.range l.length).all fun i => (List.range l.length).all fun j => kitOne K (.ref (l.getD i 0)) (.ref (l.getD j 0)) == some (m i j)
theorem mtx_of {K : Frag} {l : List Addr} {m : Nat -> Nat -> Bool} (h : mtxOk K l m = true) : ∀ i j, i < l.length -> j < l.length -> kitOne K (.ref (l.getD i 0)) (.ref (l.getD j 0)) = some (m i j) := by
  unfold mtxOk at h
  simp only [List.all_eq_true, List.mem_range, beq_iff_eq] at h
  exact fun i j hi hj => h i hi j hj
end PySem.W
namespace L2
open PySem PySem.Spec PyProof.Rows
structure ObC (K : PySem.W.Frag) (C : Addr) (fl : List Str) : Prop where
  cl : Cls K C
  cc : PySem.W.findIn K (.ref C) "__class__" = some (some (.builtin "object.__class__"))
  mo : PySem.W.mroIn K C (.type "object") = some true
  no : ∀ f ∈ fl, NoAttr K C f
  cg : PySem.W.specialIn K (.builtin "object.__class__") "__get__" = some (some (.builtin "getset_descriptor.__get__"))
  ct : PySem.W.takesIn K (.builtin "object.__class__") = some true
theorem ObC.of {K : PySem.W.Frag} {C : Addr} {fl : List Str} (h : PySem.W.clsFacts K C fl = true) (cg : PySem.W.specialIn K (.builtin "object.__class__") "__get__" = some (some (.builtin "getset_descriptor.__get__"))) (ct : PySem.W.takesIn K (.builtin "object.__class__") = some true) : ObC K C fl :=
  let ⟨a, b, c, d⟩ := PySem.W.clsFacts_of h; ⟨a, b, c, d, cg, ct⟩
theorem ObC.ty {K : PySem.W.Frag} {H : Hp} {C a dx : Addr} {fl : List Str} {fs : List (Str × V)} (c : ObC K C fl) (e : H a = some (.ins C dx fs)) : TyOf K H (.ref a) (.ref C) := .ins e c.cl c.cc c.cg c.ct c.mo
def tMethV (P : Program) (w : World) (K : PySem.W.Frag) (mg : Str -> Option Value) (base : Heap) (k : Nat) (m : Str) (ta : TE) (t : TA) : TE1 := fun σ H Q E => ta σ H fun x H1 => ∃ a C dx fs sp, x = .ref a /\ H1 a = some (.ins C dx fs) /\ fs.lookup m = none /\ Cls K C /\ MeV P w K mg base k C m sp /\ t σ H1 fun vs H2 => sp (x :: vs) H2 Q E
section
variable {X : Cx} {m : Str} {k : Nat} {ta : TE} {t : TA} {e o : Expr} {es : List Expr} {pos apos : Pos} {pl : Sem Bool}
theorem pe1_methV0 (he : PE X.nox o ta) (hr : Room k X.A) (hex : X.ex = [])
    (ht : eval (.Call (.Attribute o m apos) [] [] pos) X.env = (do
      let ov <- eval o X.env
      standAt apos.atName
      let (f, first) <- holding [ov] (getMethod ov m pl)
      callWith pos f first (backTo pos (starEach [] X.env)) (backToKw pos (keywordEach [] X.env))) := by rfl) :
    PE1 X (.Call (.Attribute o m apos) [] [] pos) (tMethV X.prog X.w X.K X.mg X.base k m ta tNil) := by
  intro pins s σ H Q E I h
  refine PySem.W.methodCall_KW (pl := pl) (thn (pe_noxW he I h) fun u s1 ⟨y, H1, I1, rx, a, C, dx, fs, sp, ex, ea, l, c, G, q⟩ => ?_) ht
  obtain ⟨f, fd, ps, hm, F, hb⟩ := G
  subst ex
  obtain rfl : u = Value.ref a := rx
  refine getmeth_ok I1 ea c hm l ?_
  exact PySem.W.callWith_K0 (first := [.ref a]) I1.kIn hm.kp (run_fn1 (us := [.ref a]) (vs := [.ref a]) F hr hb hex I1 (.cons rfl .nil) q)
end
end L2
end
section
namespace L2
open PySem PySem.Spec PyProof.Rows
inductive Fz (H : Hp) : Nat -> V -> Prop where
  | v {n : Nat} {x : V} (f : flatV x = true) : Fz H n x
  | t {n : Nat} {a : Addr} {xs : List V} (h : H a = some (.tup xs)) (r : ∀ x ∈ xs, Fz H n x) : Fz H (n + 1) (.ref a)
theorem Fz.sameT {H H' : Hp} {n : Nat} {x : V} (r : Fz H n x) (s : SameT H H') : Fz H' n x := by
  induction r with
  | v f => exact .v f
  | t h _ ih => exact .t (s _ _ h) ih
theorem Fz.same {H H' : Hp} {n : Nat} {x : V} (r : Fz H n x) (s : Same H H') : Fz H' n x := r.sameT s.t
theorem repsOf {K : PySem.W.Frag} {H : Hp} {n : Nat} : ∀ {xs : List V}, (∀ x ∈ xs, ∃ d, Rep K H n d x) -> ∃ ds : List Dt, ds.length = xs.length /\ ∀ (i : Nat) d x, ds[i]? = some d -> xs[i]? = some x -> Rep K H n d x
  | [], _ => ⟨[], rfl, fun i d x h => by simp at h⟩
  | x :: xs, h => by
    obtain ⟨d, hd⟩ := h x List.mem_cons_self
    obtain ⟨ds, l, r⟩ := repsOf (xs := xs) fun y hy => h y (List.mem_cons_of_mem _ hy)
    refine ⟨d :: ds, by simp [l], fun i d' x' e1 e2 => ?_⟩
    cases i with
    | zero => simp at e1 e2; subst e1 e2; exact hd
    | succ i => simp at e1 e2; exact r i d' x' e1 e2
theorem Fz.rep {K : PySem.W.Frag} {H : Hp} {n : Nat} {x : V} (r : Fz H n x) : ∃ d, Rep K H n d x := by
  induction r with
  | v f => exact ⟨_, .v f⟩
  | t h _ ih =>
    obtain ⟨ds, l, q⟩ := repsOf (K := K) ih
    exact ⟨.t ds, .t (SqT.of h) l q⟩
theorem Fz.pair {H : Hp} {n : Nat} {a : Addr} {x y : V} (h : H a = some (.tup [x, y])) (hx : Fz H n x) (hy : Fz H n y) : Fz H (n + 1) (.ref a) := .t h fun z hz => by
  rcases List.mem_cons.mp hz with e | hz
  . rw [e]; exact hx
  . rw [List.mem_singleton.mp hz]; exact hy
theorem two_ok {x y : V} : [x, y].length <= sizeLine := show 2 <= sizeLine by decide
theorem rd_fld {K : PySem.W.Frag} {C a dx : Addr} {fl : List Str} {f : Str} {fs : List (Str × V)} {v : V} {i : Nat} {σ : St} {H : Hp} {Q : VK} (c : ObC K C fl) (hf : f ∈ fl) (hs : σ[i]? = some (some (.ref a))) (ha : H a = some (.ins C dx fs)) (hv : fs.lookup f = some v) (q : Q v H) : tFld K (tVar i) f σ H Q :=
  ⟨_, hs, a, C, dx, fs, v, rfl, ha, c.cl, c.no f hf, hv, q⟩
theorem rd_set {K : PySem.W.Frag} {C a dx : Addr} {fl : List Str} {f : Str} {fs : List (Str × V)} {i : Nat} {σ : St} {H H1 : Hp} {tv : TE} {D : Ends} {y : V} (c : ObC K C fl) (hf : f ∈ fl) (hs : σ[i]? = some (some (.ref a))) (hv : ∀ Q : VK, Q y H1 -> tv σ H Q) (ha : H1 a = some (.ins C dx fs)) (l : fs.length < 1000) (q : D.nx σ (upd H1 a (.ins C dx (putF f y fs)))) : sFld K (tVar i) tv f D σ H :=
  hv _ ⟨_, hs, a, C, dx, fs, rfl, ha, c.cl, c.no f hf, l, q⟩
section
variable {P : Program} {w : World} {K : PySem.W.Frag} {mg : Str -> Option Value} {base : Heap} {k i : Nat} {C D a dx : Addr} {m : Str} {sp : Sp} {fs : List (Str × V)} {fl : List Str} {σ : St} {H : Hp} {Q : VK} {E : XK} {t : TA} {b : Bool}
theorem rd_methV0 (hs : σ[i]? = some (some (.ref a))) (ha : H a = some (.ins C dx fs)) (l : fs.lookup m = none) (c : Cls K C) (M : MeV P w K mg base k C m sp) (q : sp [.ref a] H Q E) : tMethV P w K mg base k m (tVar i) tNil σ H Q E := ⟨_, hs, a, C, dx, fs, sp, rfl, ha, l, c, M, q⟩
theorem isO_of (c : ObC K C fl) (ha : H a = some (.ins C dx fs)) (e : PySem.W.kitOne K (.ref C) (.ref D) = some b) (q : Q (.bl b) H) : rIsI K [.ref a, .ref D] H Q := ⟨.ref a, .ref D, .ref C, .ref D, b, rfl, rfl, c.ty ha, e, q⟩
theorem rD_same {n : Nat} {d : Dt} {x y : V} {neg : Bool} (hn : n <= 60) (rx : Rep K H n d x) (ry : Rep K H n d y) (q : Q (.bl (!neg)) H) : rD K neg x y H Q := ⟨n, d, d, hn, rx, ry, by
  rw [Rep.self rx]
  cases neg <;> exact q⟩
end
theorem same_mk {H H' : Hp} {x dx : Addr} {o u : HO} (hx : H x = none) (hdx : H dx = none) (s : Same (upd (upd H dx u) x o) H') : Same H H' := fun b v hb => s _ _ (by rw [upd_ne (ne_of_none hb hx), upd_ne (ne_of_none hb hdx)]; exact hb)
theorem same_updN {H H' : Hp} {d : Addr} {o : HO} (s : Same H H') (n : H d = none) : Same H (upd H' d o) := fun b u hb => by
  rw [upd_ne (ne_of_none hb n)]; exact s b u hb
end L2
end
section
namespace L2
open PySem PySem.Spec PyProof.Rows
def Itd1 (lo : Int) (n : Nat) : It := ⟨fun i _ => i < n, fun i H x H' => H' = H /\ x = .int (lo - i), fun i _ => n <= i⟩
section
variable {X : Cx} {tg : Expr}
def iRngD (ta : TA) : TI := fun σ H R => ta σ H fun vs H1 => ∃ i j : Int, vs = [.int i, .int j, .int (-1)] /\ (-(2 ^ 62) <= i /\ i < 2 ^ 62 /\ -(2 ^ 62) <= j /\ j < 2 ^ 62) /\ R (Itd1 i (i - j).toNat) H1
end
theorem tFor_rngD {ta : TA} {g : TG} {tb : TS} {D : Ends} {σ : St} {H : Hp} : tFor (iRngD ta) g tb D σ H = ta σ H fun vs H1 => ∃ i j : Int, vs = [.int i, .int j, .int (-1)] /\ (-(2 ^ 62) <= i /\ i < 2 ^ 62 /\ -(2 ^ 62) <= j /\ j < 2 ^ 62) /\ FoR (Itd1 i (i - j).toNat) g tb D σ H1 := rfl
end L2
end
section
namespace L2
open PySem PySem.Spec PyProof.Rows PySem.W
section
variable {X : Cx} {pins : List (Addr × Obj)} {σ : St} {H : Hp} {s : Shared} {A : Around} {E : Value -> Shared -> Prop}
end
section
variable {prog : Program} {w : World} {A : Around} {E : Value -> Shared -> Prop} {s : Shared} {T : String} {r d : Addr} {n : Nat} {P : Nat -> Value -> Prop} {OK : Heap -> Prop}
end
theorem vals_at : ∀ {xs : List V} {us : List Value}, xs.length = us.length -> (∀ (i : Nat) x u, xs[i]? = some x -> us[i]? = some u -> RelV x u) -> Vals xs us
  | [], [], _, _ => .nil
  | x :: xs, u :: us, l, h => .cons (h 0 x u rfl rfl) (vals_at (by simpa using l) fun i x u a b => h (i + 1) x u (by simpa using a) (by simpa using b))
  | [], u :: us, l, _ => by simp at l
  | x :: xs, [], l, _ => by simp at l
theorem keys_vals {kvs : List (Key × V)} {vs : List (Key × Value)} {acc : Array Value} {prog : Program} {w : World} (rv : KV kvs vs) (h : ItemsOf (fun i v => ∃ k x, vs[i]? = some (k, x) /\ (mixKind prog w).is k v = true) acc vs.length) : Vals (kvs.map fun p => kV p.1) acc.toList := by
  refine vals_at (by have e1 := h.1; have e2 := rv.len; have e3 : acc.toList.length = acc.size := Array.length_toList; rw [List.length_map]; omega) fun i x u hx hu => ?_
  rw [List.getElem?_map] at hx
  obtain ⟨⟨k, v⟩, hkv, rfl⟩ := Option.map_eq_some_iff.mp hx
  obtain ⟨u', hu', _⟩ := rv.get hkv
  obtain ⟨k', x', e, hk⟩ := h.2 i u (by rw [<- Array.getElem?_toList]; exact hu)
  rw [hu'] at e
  cases e
  exact relKey hk
end L2
end
section
namespace L2
open PySem PySem.Spec PyProof.Rows PySem.W
section
variable {prog : Program} {w : World} {A : Around} {E : Value -> Shared -> Prop} {s : Shared}
end
def onceK {K : Type} [DecidableEq K] (ks : List K) : List K := ks.foldl (fun acc k => if k ∈ acc then acc else acc ++ [k]) []
section
variable {prog : Program} {w : World} {K : Type} [DecidableEq K] {knd : KeyKind prog w K} {A : Around} {E : Value -> Shared -> Prop} {s : Shared}
end
end L2
end
section
namespace L2
open PySem PySem.Spec PyProof.Rows PySem.W
theorem key_rel {k : Key} {u : Value} (h : RelV (kV k) u) : keyIs k u = true /\ u.scannable = true := by
  cases k with
  | inl n => obtain ⟨t, rfl⟩ := h; exact ⟨by simp [keyIs, Value.isInt], rfl⟩
  | inr z => obtain ⟨t, rfl⟩ := h; exact ⟨by simp [keyIs, Value.isStrOf], rfl⟩
def tSetK (K : PySem.W.Frag) (te : TE) (Q : List Key -> Hp -> Prop) : St -> Hp -> Prop := fun σ H => te σ H fun x H1 => ∃ l ks, x = .ref l /\ SqL K H1 l (ks.map kV) /\ ks.length < 4000 /\ Q ks H1
section
variable {X : Cx} {e : Expr} {te : TE} {p pos p2 pos2 : Pos} {pins : List (Addr × Obj)} {σ : St} {H : Hp} {s : Shared}
def tLenSet (K : PySem.W.Frag) (te : TE) : TE := fun σ H Q => tSetK K te (fun ks H1 => Q (.int (onceK ks).length) H1) σ H
end
end L2
end
section
namespace L2
open PySem PySem.Spec PyProof.Rows PySem.W
section
variable {X : Cx}
def rExtendE (K : PySem.W.Frag) : V -> List V -> Hp -> VK -> Prop := fun x vs H Q => ∃ l b xs zs, x = .ref l /\ vs = [.ref b] /\ H l = some (.lst xs) /\ (SqL K H b zs \/ SqT K H b zs) /\ xs.length + zs.length <= sizeLine /\ Q .non (upd H l (.lst (xs ++ zs)))
end
end L2
end
section
namespace L2
open PySem PySem.Spec PyProof.Rows PySem.W
section
variable {X : Cx} {c : Expr} {a b : Stmt} {tc : TT} {ta tb : TS1} {pos : Pos}
end
end L2
end
section
namespace L2
open PySem PySem.Spec PyProof.Rows
section
variable {X : Cx} {st b₀ : Stmt} {suite : List Stmt} {t1 : TS1} {ts : TS} {x n : Str} {D₀ CT : Addr} {np hpos pos : Pos} {i : Nat}
end
section
variable {X : Cx} {ea : Addr} {qs : List (Addr × Obj)}
end
end L2
end
section
namespace PySem.W
open PySem
def clI (K : Frag) (C f : Addr) : Bool := (match findCls K (.ref C) (.type "type") "__init__" with | some (.val v) => v == .ref f | _ => false) && (specialIn K (.ref C) "__getattribute__" == some (some (.builtin "type.__getattribute__")) && readsIn K C (.type "type"))
end PySem.W
namespace L2
open PySem PySem.Spec PyProof.Rows
structure ClI (K : PySem.W.Frag) (C f : Addr) : Prop where
  sp : PySem.W.specialIn K (.ref C) "__getattribute__" = some (some (.builtin "type.__getattribute__"))
  rd : PySem.W.readsIn K C (.type "type") = true
  ini : PySem.W.findCls K (.ref C) (.type "type") "__init__" = some (.val (.ref f))
theorem ClI.of {K : PySem.W.Frag} {C f : Addr} (h : PySem.W.clI K C f = true) : ClI K C f := by
  unfold PySem.W.clI at h
  rw [Bool.and_eq_true, Bool.and_eq_true] at h
  obtain ⟨a, b, c⟩ := h
  refine ⟨beq_iff_eq.mp b, c, ?_⟩
  split at a
  . rename_i v e
    rw [e, beq_iff_eq.mp a]
  . exact (Bool.false_ne_true a).elim
def BaI (P : Program) (w : World) (K : PySem.W.Frag) (mg : Str -> Option Value) (base : Heap) (k : Nat) (x : Str) (sp : Sp) : Prop :=
  ∃ C f fd ps, mg x = some (.ref C) /\ ClI K C f /\ PySem.W.keepIn K (.ref f) = true /\ FnOk P w K mg base CX0 k f fd ps sp /\ Binds K fd ps []
section
variable {X : Cx} {x : Str} {sp : Sp} {e : Expr} {es : List Expr} {t : TA} {p pos apos : Pos} {pl : Sem Bool} {j k : Nat}
theorem pe_bainit (G : BaI X.prog X.w X.K X.mg X.base j x sp) (hr : Room k X.A) (hj : j <= k) (hg : Gl X x) (ha : PA X (e :: es) t) (hdb : (x == ("__debug__" : Str)) = false := by decide)
    (he : starEach (e :: es) X.env = (false, eval e X.env) :: starEach es X.env := by rfl) (hpl : (backTo pos (starEach es X.env)).any (·.1) = false := by rfl)
    (ht : eval (.Call (.Attribute (.Name x p) "__init__" apos) (e :: es) [] pos) X.env = (do
      let ov <- eval (.Name x p) X.env
      standAt apos.atName
      let (f, first) <- holding [ov] (getMethod ov "__init__" pl)
      callWith pos f first (backTo pos (starEach (e :: es) X.env)) (backToKw pos (keywordEach [] X.env))) := by rfl) :
    PE X (.Call (.Attribute (.Name x p) "__init__" apos) (e :: es) [] pos) (tCall sp [] E0 t) := by
  obtain ⟨C, f, fd, ps, hm, T, kp, F, b⟩ := G
  intro pins s σ H Q I h
  refine PySem.W.methodCall_KW (pl := pl) (ld_glob I hg hm ?_ hdb) ht
  refine PySem.W.method_cls I.kIn T.sp (PySem.W.cls_value I.kIn T.rd T.ini rfl ?_)
  refine PySem.W.callWith_K (first := []) (h₀ := X.base) I.ok.mod.kin kp (thn (ha pos pins _ σ H _ (I.tok _) h) fun us s1 ⟨vs, H1, I1, r, q⟩ => ⟨I1.kIn, ?_⟩) he hpl
  rw [List.nil_append]
  exact run_fn F (hr.mono hj) b .nil pass0 I1 r q
end
end L2
end
section
namespace L2
open PySem PySem.Spec PyProof.Rows
noncomputable instance : DecidableEq Dt := fun a b => Classical.propDecidable (a = b)
section
variable {prog : Program} {w : World} {E : Value -> Shared -> Prop}
end
section
variable {prog : Program} {w : World} {E : Value -> Shared -> Prop}
end
end L2
end
section
namespace PySem
section
variable {prog : Program} {w : World} {K : Type} [DecidableEq K] {knd : HeapKind prog w K} {A : Around} {E : Value -> Shared -> Prop} {s : Shared}
end
end PySem
namespace L2
open PySem PySem.Spec PyProof.Rows
abbrev NX := List (Dt × Addr × V)
section
variable {X : Cx} {pins : List (Addr × Obj)} {σ : St} {H : Hp} {s : Shared} {a b : Addr} {xs : NX} {d : Dt}
variable {A : Around} {E : Value -> Shared -> Prop}
end
section
variable {X : Cx} {o i e value : Expr} {pos pos' apos cpos : Pos} {td ty tv : TE}
end
end L2
end
section
namespace L2
open PySem PySem.Spec PyProof.Rows
section
variable {H H' : Hp} {K : PySem.W.Frag}
end
section
variable {S : List Addr} {H H' H1 H2 : Hp}
end
end L2
namespace L2
open PySem PySem.Spec PyProof.Rows
section
variable {α β : Type} [DecidableEq β]
end
end L2
end
section
namespace L2
open PySem PySem.Spec PyProof.Rows
section
variable {X : Cx}
end
section
variable {X : Cx} {m : Str} {k : Nat} {ta : TE1} {t : TA} {e o : Expr} {es : List Expr} {pos apos : Pos} {pl : Sem Bool}
end
end L2
end
section
open L2
namespace Tr
section
variable (lv : V -> Nat)
variable {lv} {l : Int} {es : List Dt} {parts : List (List Dt)}
end
section
variable {tbl tbl' : List (Int × Dt)} {l : Int} {parts : List (List Dt)} {hs : List Dt}
end
section
variable {lv : V -> Nat} {tbl tbl' : List (Int × Dt)} {rows rows' : List Dt} {top top' : Nat} {L L' : Nat -> List Dt}
end
section
variable {lv : V -> Nat} {tbl : List (Int × Dt)} {l : Int} {parts : List (List Dt)} {hs rows : List Dt} {top : Nat} {L : Nat -> List Dt}
end
section
variable {lv : V -> Nat} {tbl tbl' : List (Int × Dt)} {rows hs : List Dt} {j : Nat} {L : Nat -> List Dt}
end
end Tr
end
section
namespace L2
open PySem PySem.Spec PyProof.Rows
end L2
end
section
namespace L2
open PySem PySem.Spec PyProof.Rows
section
variable {a b c d e u : TS} {D : Ends} {σ : St} {H : Hp}
theorem rd_gen1 (h : ∀ R : St -> Hp -> Prop, (∀ σ H, u D σ H -> R σ H) -> a { D with nx := R } σ H) : tSeq a u D σ H := h (u D) fun _ _ z => z
theorem rd_gen2 (h : ∀ R : St -> Hp -> Prop, (∀ σ H, u D σ H -> R σ H) -> tSeq a b { D with nx := R } σ H) : tSeq a (tSeq b u) D σ H := h (u D) fun _ _ z => z
theorem rd_gen4 (h : ∀ R : St -> Hp -> Prop, (∀ σ H, u D σ H -> R σ H) -> tSeq a (tSeq b (tSeq c d)) { D with nx := R } σ H) : tSeq a (tSeq b (tSeq c (tSeq d u))) D σ H := h (u D) fun _ _ z => z
end
section
variable {X : Cx}
theorem foldl_size : ∀ (n : Nat) (z acc : Array Nat), ((List.replicate n z).foldl (· ++ ·) acc).size = acc.size + z.size * n := by
  intro n z
  induction n with
  | zero => intro acc; rfl
  | succ n ih => intro acc; rw [List.replicate_succ, List.foldl_cons, ih, Array.size_append, Nat.mul_succ]; omega
theorem foldl_list : ∀ (n : Nat) (z acc : Array Nat), ((List.replicate n z).foldl (· ++ ·) acc).toList = acc.toList ++ (List.replicate n z.toList).flatten := by
  intro n z
  induction n with
  | zero => intro acc; simp
  | succ n ih => intro acc; rw [List.replicate_succ, List.foldl_cons, ih, Array.toList_append, List.replicate_succ, List.flatten_cons, List.append_assoc]
def rRepN : R2 := fun x y H Q => ∃ (z : Str) (n : Int), x = .str z /\ y = .int n /\ -1000 <= n /\ n <= 1000 /\ z.length <= 100 /\ ∀ r : Str, r.cps.toList = (List.replicate n.toNat z.cps.toList).flatten -> Q (.str r) H
theorem op_repN : OpR X (binaryOp .Mult) rRepN := by
  intro pins s σ H x y v u Q I rx ry h
  obtain ⟨z, n, rfl, rfl, h0, h1, hz, q⟩ := h
  obtain ⟨t, rfl⟩ := rx
  obtain ⟨t', rfl⟩ := ry
  have hmul : z.length * n.toNat <= 100000 := Nat.le_trans (Nat.mul_le_mul hz (show n.toNat <= 1000 by omega)) (by decide)
  refine PySem.P.mul_str (by rw [decide_eq_false (by omega), decide_eq_false (by omega)]; rfl) (fun hn _ => ?_) (fun _ _ => ?_) ?_
  . have : ((2 : Int) ^ 63 - 1) / (n : Int) >= ((2 : Int) ^ 63 - 1) / 100000 := by
      refine (Int.le_ediv_iff_mul_le (by omega)).mpr ?_
      have : ((2 : Int) ^ 63 - 1) / 100000 * (n : Int) <= ((2 : Int) ^ 63 - 1) / 100000 * 100000 := Int.mul_le_mul_of_nonneg_left (by omega) (by decide)
      exact Int.le_trans this (by decide)
    have e : ((2 : Int) ^ 63 - 1) / 100000 = 92233720368547 := by decide
    omega
  . generalize z.length * n.toNat = m at hmul ⊢
    have hs : 100000 <= sizeLine := by decide
    exact decide_eq_false (by omega)
  . by_cases hn : n < 1
    . rw [if_pos hn]
      exact ⟨by decide, ⟨.str _, H, I.tok _, ⟨_, rfl⟩, q _ (by rw [show n.toNat = 0 by omega]; rfl)⟩⟩
    . rw [if_neg hn]
      by_cases h2 : (n == 1 || z.length == 0) = true
      . rw [if_pos h2]
        rw [Bool.or_eq_true, beq_iff_eq, beq_iff_eq] at h2
        refine ⟨.str z, H, I, ⟨_, rfl⟩, q z ?_⟩
        rcases h2 with e | e
        . rw [e]; simp
        . have : z.cps.toList = [] := List.eq_nil_of_length_eq_zero e
          rw [this]
          simp
      . rw [if_neg h2]
        refine ⟨?_, ⟨.str _, H, I.tok _, ⟨_, rfl⟩, q _ (by rw [foldl_list]; rfl)⟩⟩
        show ((List.replicate n.toNat z.cps).foldl (· ++ ·) #[]).size <= sizeLine
        rw [foldl_size]
        have hs : 100000 <= sizeLine := by decide
        have : z.cps.size * n.toNat <= 100000 := hmul
        simp; omega
end
end L2
end
section
namespace L2
open PySem PySem.Spec PyProof.Rows
section
variable {X : Cx}
end
end L2
namespace L2
open PySem PySem.Spec PyProof.Rows
end L2
end
section
open L2 PySem
namespace Tr
section
variable {lv : V -> Nat} {tbl : List (Int × Dt)} {rows : List Dt} {top : Nat} {L : Nat -> List Dt}
end
end Tr
end
section
namespace L2
open PySem PySem.Spec PyProof.Rows PySem.W
section
variable {prog : Program} {w : World} {A : Around} {E : Value -> Shared -> Prop} {s : Shared}
end
section
variable {X : Cx} {e : Expr} {te : TE} {p pos p2 pos2 : Pos} {pins : List (Addr × Obj)} {σ : St} {H : Hp} {s : Shared}
end
end L2
end
section
namespace L2
open PySem PySem.Spec PyProof.Rows PySem.W
section
variable {prog : Program} {w : World} {A : Around} {E : Value -> Shared -> Prop} {h : Heap} {g : Array GenState} {d : Drawn} {t : Nat} {os : OsState} {a : Addr} {its : Array Value} {c : Nat}
end
theorem entry_dict_loop : entryFor table "dict.update.loop" = some Builtin.«dict.update.loop» := entryFor_of_tree (by kernel_rfl)
theorem plain_dict_loop : plainId "dict.update.loop" = true := by decide +kernel
section
variable {prog : Program} {w : World} {K : Type} [DecidableEq K] {knd : KeyKind prog w K} {A : Around} {E : Value -> Shared -> Prop} {s : Shared}
def PairsAt (knd : KeyKind prog w K) (h : Heap) (vs : List Value) (kks : List (K × Value)) : Prop := ∀ (i : Nat) k x, kks[i]? = some (k, x) -> ∃ t key, vs[i]? = some (.ref t) /\ IsTup h t #[key, x] /\ knd.is k key = true
theorem PairsAt.but {h h' : Heap} {vs : List Value} {kks : List (K × Value)} (p : PairsAt knd h vs kks) (P : Addr -> Prop) (hP : ∀ t its, IsTup h t its -> P t) (hk : ∀ b o, P b -> h.get? b = some o -> h'.get? b = some o) : PairsAt knd h' vs kks := fun i k x e => by
  obtain ⟨t, key, a, b, c⟩ := p i k x e
  have pt := hP t _ b
  obtain ⟨o, ho, r⟩ := b
  exact ⟨t, key, a, ⟨o, hk t o pt ho, r⟩, c⟩
end
theorem pairs_of {X : Cx} {pins : List (Addr × Obj)} {σ : St} {H : Hp} {s : Shared} (I : Inv X pins σ H s) : ∀ {kvs : List (Key × V)} {ys : List V} {its : List Value}, Paired (fun (kv : Key × V) y => ∃ t, y = V.ref t /\ H t = some (.tup [kV kv.1, kv.2])) kvs ys -> Vals ys its ->
    ∃ kks : List (Key × Value), KV kvs kks /\ PairsAt (mixKind X.prog X.w) s.heap its kks
  | [], _, _, .nil, v => by cases v; exact ⟨[], .nil, fun i k x e => by simp at e⟩
  | kv :: kvs, _, _, .cons r p, v => by
    cases v with
    | cons rv v =>
      obtain ⟨t, rfl, ht⟩ := r
      obtain ⟨kks, a, b⟩ := pairs_of I p v
      cases rv
      obtain ⟨hz, jts, rj, hj⟩ := (show ObjOk X.prog X.w H s.heap t (.tup [kV kv.1, kv.2]) from I.hok t _ ht)
      cases rj with
      | @cons _ key _ _ r1 rj =>
      cases rj with
      | @cons _ x _ _ r2 rj =>
      cases rj
      refine ⟨(kv.1, x) :: kks, .cons ⟨rfl, r2⟩ a, fun i k y e => ?_⟩
      cases i with
      | zero =>
        simp at e
        obtain ⟨rfl, rfl⟩ := e
        exact ⟨t, key, rfl, hj, (key_rel r1).1⟩
      | succ i =>
        simp at e
        obtain ⟨t', key', h1, h2, h3⟩ := b i k y e
        exact ⟨t', key', by simpa using h1, h2, h3⟩
def rListD : List V -> Hp -> VK -> Prop := fun xs H Q => ∃ d kvs, xs = [.ref d] /\ H d = some (.dK kvs) /\ kvs.length <= 1000 /\ ∀ D, H D = none -> Q (.ref D) (upd H D (.lst (kvs.map fun p => kV p.1)))
theorem call_listD {X : Cx} (hh : X.A.handled = none) : CallR X (.type "list") rListD := by
  intro pins s σ H xs us Q I r h
  obtain ⟨d, kvs, rfl, hd, hl, q⟩ := h
  obtain ⟨u, rfl, ru⟩ := vals1 r
  obtain rfl : u = Value.ref d := ru
  obtain ⟨z, y, vs, rv, o, es, ep, e0, c1, c2, c3⟩ := (show ObjOk X.prog X.w H s.heap d (.dK kvs) from I.hok d _ hd)
  have da : s.heap.DictAt (mixKind X.prog X.w) d vs ep := ⟨o, es, e0, c1, c2, c3⟩
  refine kdl_call (kdl_dict (knd := mixKind X.prog X.w) (ep := ep) y) hh da (by rw [<- rv.len]; exact Nat.le_of_lt (small1000 (by omega))) fun h' tk acc c kp hD hacc => ?_
  exact ⟨.ref s.heap.objs.size, _, I.laid (t' := tk) kp (Nat.le_refl _) (show ObjOk X.prog X.w _ h' _ (.lst (kvs.map fun p => kV p.1)) from ⟨by rw [List.length_map]; exact Nat.le_of_lt (small1000 (by omega)), acc.toList, c, keys_vals rv hacc, by simpa using hD⟩), rfl, q _ (I.hok.fresh (Nat.le_refl _))⟩
end L2
end
section
namespace L2
open PySem PySem.Spec PyProof.Rows PySem.W
theorem bo_dict : bootBuiltins "dict" = some (.type "dict") := by rfl
theorem lk_tuple_keys : typeLookup (.type "tuple") "keys" = pure none := by rw [typeLookup_type, builtinLookup_eq_fast]; kernel_rfl
theorem lk_tuple_getattr : typeLookup (.type "tuple") "__getattr__" = pure none := by rw [typeLookup_type, builtinLookup_eq_fast]; kernel_rfl
section
variable {prog : Program} {w : World} {A : Around} {E : Value -> Shared -> Prop} {h : Heap} {g : Array GenState} {d : Drawn} {t : Nat} {os : OsState} {a : Addr} {its : Array Value} {c : Nat} {sl : Array (Option Value)}
theorem keys_entry_tuple {tk : Tok} {Q : PySem.Fin -> Shared -> Prop} (hh : A.handled = none) (hx : h.get? a = some { cls := .type "tuple", dict := none, data := .seq its c, slots := sl })
    (hE : ∀ h' tk e, Heap.NewAttrErr h h' e (.ref a) "keys" -> E (.ref e) ⟨h', g, d, tk, os⟩) :
    wpAny (model prog w) A (Builtin.«object.__getattribute__» ⟨[.ref a, .str "keys" tk], []⟩) Q E ⟨h, g, d, t, os⟩ := by
  have hT : (⟨h, g, d, t, os⟩ : Shared).TypeIs (.ref a) "tuple" := ⟨_, hx, rfl⟩
  have f4 := lk_tuple_keys
  repeat (any_goals (first | assumption | wp_step))
  exact wpAny_raiseAttrError hh hE (attrMsg_fits (by decide +kernel) (by decide +kernel))
theorem keys_by_tuple {tk : Tok} {Q : Value -> Shared -> Prop} (hh : A.handled = none) (hx : h.get? a = some { cls := .type "tuple", dict := none, data := .seq its c, slots := sl })
    (hE : ∀ h' tk e, Heap.NewAttrErr h h' e (.ref a) "keys" -> E (.ref e) ⟨h', g, d, tk, os⟩) :
    wpAny (model prog w) A (getAttrBy (.ref a) (.str "keys" tk) false) Q E ⟨h, g, d, t, os⟩ := by
  have hT : (⟨h, g, d, t, os⟩ : Shared).TypeIs (.ref a) "tuple" := ⟨_, hx, rfl⟩
  have f1 := sub_AttributeError
  have f2 := F.slot_tuple_getattribute.lookup
  have f3 := F.slot_tuple_getattribute.bind (.ref a)
  have f5 := lk_tuple_getattr
  unfold getAttrBy
  repeat (any_goals (first | assumption | wp_step))
  refine codeAny_call_builtin F.slot_tuple_getattribute.plain F.entry_tuple_ga (F.slot_tuple_getattribute.check _ _ _ _ _ _ _ _ hT (F.args_tuple_getattribute_2 _ _) (keys_entry_tuple hh hx fun h' tk' e hx' => ?_))
  obtain ⟨t', u', he⟩ := hx'.there
  show wpAny _ _ (getattributeRaised _ _ _ _ _ _ _) _ _ _
  unfold getattributeRaised
  repeat (any_goals (first | assumption | wp_step))
  exact hE _ _ _ hx'
theorem keys_none_tuple {Q : Option Value -> Shared -> Prop} (hh : A.handled = none) (hx : h.get? a = some { cls := .type "tuple", dict := none, data := .seq its c, slots := sl })
    (hQ : ∀ h' tk, (∀ b u, h.get? b = some u -> h'.get? b = some u) -> Q none ⟨h', g, d, tk, os⟩) : wpAny (model prog w) A (getAttr? (.ref a) "keys") Q E ⟨h, g, d, t, os⟩ := by
  unfold getAttr? getAttrBy?
  refine wpAny_bind (wpAny_mkText ?_)
  refine wpAny_bind (wpAny_attempt (keys_by_tuple hh hx fun h' tk e hx' => ?_))
  obtain ⟨t', u', he⟩ := hx'.there
  have f1 := sub_AttributeError
  repeat (any_goals (first | assumption | wp_step))
  exact hQ _ _ hx'.keeps
end
section
variable {prog : Program} {w : World} {K : Type} [DecidableEq K] {knd : KeyKind prog w K} {A : Around} {E : Value -> Shared -> Prop} {s : Shared}
theorem code_dict_loopT {it l d : Addr} {vs : List Value} {kks : List (K × Value)} (hh : A.handled = none) (hl : kks.length = vs.length) (hb : vs.length <= 1000) (hne : it ≠ d) (hld : l ≠ d) (hil : l ≠ it) :
    ∀ (m i : Nat) (tk0 : Tok) (s : Shared) (R : Result -> Shared -> Prop), m = vs.length - i -> i <= vs.length -> s.heap.IsTupleIter it l i -> s.heap.IsTuple l vs.toArray -> s.heap.DictOf knd d (merged [] (kks.take i)) -> (merged [] (kks.take i)).length <= i -> PairsAt knd s.heap vs kks ->
      (∀ h' tk, (∀ b o, b ≠ it -> b ≠ d -> s.heap.get? b = some o -> h'.get? b = some o) -> h'.DictOf knd d (merged [] kks) -> R (.ok (.ret .none)) { s with heap := h', toks := tk }) ->
      codeAny (model prog w) A (.builtin "dict.update.loop" ⟨[.ref d, .ref it, .int i tk0, .none], []⟩) R s := by
  intro m
  induction m with
  | zero =>
    intro i tk0 s R hm hi hit hli hD _ hp hR
    have e : i = vs.length := by omega
    subst e
    refine codeAny_builtin entry_dict_loop ?_
    rw [Around.under_plainId plain_dict_loop _]
    unfold Builtin.«dict.update.loop»
    dsimp only
    refine wpAny_bind (wpAny_pyNext_tuple_end hh hit hli (by simp) fun h' eb => ?_)
    dsimp only
    rw [List.take_of_length_le (by omega)] at hD
    show wpAny _ _ (Builtin.Dict.addKeywords d [] >>= _) _ _ _
    refine wpAny_bind (wpAny_pure (wpAny_pure (hR h' s.toks (fun b o h1 h2 e => eb b o h1 e) (hD.extBut eb (Ne.symm hne)))))
  | succ m ih =>
    intro i tk0 s R hm hi hit hli hD lD hp hR
    have hi' : i < vs.length := by omega
    obtain ⟨k, x, hki⟩ : ∃ k x, kks[i]? = some (k, x) := ⟨_, _, List.getElem?_eq_getElem (by omega)⟩
    obtain ⟨t, key, hvi, ht, hkey⟩ := hp i k x hki
    refine codeAny_builtin entry_dict_loop ?_
    rw [Around.under_plainId plain_dict_loop _]
    unfold Builtin.«dict.update.loop»
    dsimp only
    refine wpAny_bind (wpAny_pyNext_tuple_item hit hli (x := .ref t) (by simpa using hvi) fun h' hit' sb => ?_)
    dsimp only
    obtain ⟨ot, hot, hct, nt, hdt⟩ := id ht
    have t_it : t ≠ it := fun z => by
      obtain ⟨oi, hoi, hci, _⟩ := hit
      rw [z, hoi] at hot
      cases hot
      rw [hci] at hct
      exact absurd (Value.type.inj hct) (by decide)
    have t_d : t ≠ d := fun z => by
      obtain ⟨od, _, _, hod, hcd, _⟩ := hD
      rw [z, hod] at hot
      cases hot
      have := hcd.1
      rw [this] at hct
      exact absurd (Value.type.inj hct) (by decide)
    have hot' : h'.get? t = some ot := (sb.2 t t_it).trans hot
    have hD' : h'.DictOf knd d (merged [] (kks.take i)) := hD.sameBut sb (Ne.symm hne)
    refine wpAny_bind (wpAny_holding (wpAny_bind (wpAny_tryCatch ?_)))
    unfold Builtin.Dict.pairItems
    refine wpAny_bind (wpAny_typeOf (T := "tuple") ⟨_, hot', hct⟩ ?_)
    rw [if_pos (by decide)]
    refine wpAny_bind (wpAny_seqItems hot' hdt (wpAny_pure ?_))
    show wpAny _ _ (holding [key, x] (dictSet d key x)) _ _ _
    refine wpAny_holding (wpAny_dictSet_pairs hkey hD' (fun h2 hD2 sb2 => ?_) (Nat.le_trans lD (Nat.le_trans (show i <= 1000 by omega) (by rw [sizeLine_eq]; decide))))
    have et : merged [] (kks.take (i + 1)) = stored (merged [] (kks.take i)) k x := by
      unfold merged
      rw [List.take_add_one, hki, List.foldl_append]; rfl
    have keep : ∀ b o, b ≠ it -> b ≠ d -> s.heap.get? b = some o -> h2.get? b = some o := fun b o h1 h2 e => (sb2.2 b h2).trans ((sb.2 b h1).trans e)
    have tup_off : ∀ t' its, IsTup s.heap t' its -> t' ≠ it /\ t' ≠ d := fun t' its ⟨o', ho', hc', _⟩ => by
      constructor
      . intro z
        obtain ⟨oi, hoi, hci, _⟩ := hit
        rw [z, hoi] at ho'
        cases ho'
        rw [hci] at hc'
        exact absurd (Value.type.inj hc') (by decide)
      . intro z
        obtain ⟨od, _, _, hod, hcd, _⟩ := hD
        rw [z, hod] at ho'
        cases ho'
        rw [hcd.1] at hc'
        exact absurd (Value.type.inj hc') (by decide)
    refine wpAny_pure ⟨plainId_quiet plain_dict_loop _, ?_⟩
    refine ih (i + 1) _ _ R (by omega) (by omega) ?_ ?_ (by rw [et]; exact hD2) ?_ (hp.but (fun b => b ≠ it /\ b ≠ d) tup_off fun b o hb e => keep b o hb.1 hb.2 e) fun h3 tk hk3 hD3 => ?_
    . obtain ⟨o, ho, r⟩ := hit'
      exact ⟨o, (sb2.2 it hne).trans ho, r⟩
    . obtain ⟨o, ho, r⟩ := hli
      exact ⟨o, (sb2.2 l hld).trans ((sb.2 l hil).trans ho), r⟩
    . rw [et]
      unfold stored
      split
      . simp; omega
      . simp; omega
    . exact hR h3 tk (fun b o h1 h2 e => hk3 b o h1 h2 (keep b o h1 h2 e)) hD3
theorem dict_initT {R : Result -> Shared -> Prop} {D l : Addr} {vs : List Value} {kks : List (K × Value)} {c : Nat} {sl : Array (Option Value)} (hh : A.handled = none) (hnew : s.heap.DictOf knd D []) (hx : s.heap.get? l = some { cls := .type "tuple", dict := none, data := .seq vs.toArray c, slots := sl }) (hlD : l ≠ D) (hl : kks.length = vs.length) (hb : vs.length <= 1000) (hp : PairsAt knd s.heap vs kks)
    (hR : ∀ h' tk, (∀ b o, b ≠ D -> s.heap.get? b = some o -> h'.get? b = some o) -> h'.DictOf knd D (merged [] kks) -> R (.ok (.ret .none)) { s with heap := h', toks := tk }) :
    wpAny (model prog w) A.in1 (Builtin.«dict.__init__» ⟨[.ref D, .ref l], []⟩)
      (fun fin s' => match fin with | .done f => R (.ok f) s' | .again c' => c'.quiet = true /\ codeAny (model prog w) A c' R s') (fun e s' => R (.error e) s') s := by
  unfold Builtin.«dict.__init__»
  refine wpAny_bind ?_
  unfold Builtin.Dict.selfAndRest
  refine wpAny_bind (wpAny_notOrdered_dict hnew.typeIs ?_)
  show wpAny _ _ (pure (D, [Value.ref l])) _ _ _
  refine wpAny_pure ?_
  show wpAny _ _ (Builtin.Dict.updateFrom "dict.__init__" D (.ref l) [] .none) _ _ _
  unfold Builtin.Dict.updateFrom
  refine wpAny_bind (wpAny_typeOf (T := "tuple") ⟨_, hx, rfl⟩ ?_)
  rw [if_pos (by decide)]
  obtain ⟨hp0, g, dr, tk0, os⟩ := s
  refine wpAny_bind (keys_none_tuple (A := A.in1) hh hx fun h1 tk1 keep => ?_)
  rw [if_pos (by decide)]
  refine wpAny_bind (wpAny_rule ?_)
  have hx1 := keep l _ hx
  have hl1 : h1.IsTuple l vs.toArray := ⟨_, hx1, rfl, c, rfl⟩
  refine wpAny_bind (wpAny_pyIter_tuple (s := ⟨h1, g, dr, tk1, os⟩) hl1 ?_)
  have kp : ∀ b o, hp0.get? b = some o -> (h1.push { cls := .type "tuple_iterator", data := .fields #[.ref l, .int 0 0] }).get? b = some o := fun b o e => Heap.get?_push_of_some _ (keep b o e)
  have szle : ∀ b o, hp0.get? b = some o -> b < h1.objs.size := fun b o e => Heap.lt_size (keep b o e)
  have hD2 : (h1.push { cls := .type "tuple_iterator", data := .fields #[.ref l, .int 0 0] }).DictOf knd D [] := let ⟨o, es, ep, ho, r⟩ := hnew; ⟨o, es, ep, kp D o ho, r⟩
  have dlt : D < h1.objs.size := by obtain ⟨o, _, _, ho, _⟩ := hnew; exact szle D o ho
  refine wpAny_pure ⟨plainId_quiet plain_dict_loop _, ?_⟩
  refine code_dict_loopT (knd := knd) (A := A) (it := h1.objs.size) (l := l) (d := D) (vs := vs) (kks := kks) hh hl hb (Nat.ne_of_gt dlt) hlD (Nat.ne_of_lt (szle l _ hx)) vs.length 0 _ _ R (by omega) (Nat.zero_le _) ⟨_, Heap.get?_push_size _ rfl, rfl, rfl⟩ ⟨_, kp l _ hx, rfl, c, rfl⟩ hD2 (Nat.zero_le _) (hp.but (fun _ => True) (fun _ _ _ => trivial) fun b o _ e => kp b o e) fun h' tk hk hD' => ?_
  exact hR h' tk (fun b o hb e => hk b o (Nat.ne_of_lt (szle b o e)) hb (kp b o e)) hD'
theorem dict_callT {Q : Value -> Shared -> Prop} {l : Addr} {vs : List Value} {kks : List (K × Value)} {c : Nat} {sl : Array (Option Value)} (hh : A.handled = none) (hx : s.heap.get? l = some { cls := .type "tuple", dict := none, data := .seq vs.toArray c, slots := sl }) (hl : kks.length = vs.length) (hb : vs.length <= 1000) (hp : PairsAt knd s.heap vs kks)
    (h : ∀ h' tk, (∀ b o, s.heap.get? b = some o -> h'.get? b = some o) -> h'.DictOf knd s.heap.objs.size (merged [] kks) -> Q (.ref s.heap.objs.size) { s with heap := h', toks := tk }) :
    wpAny (model prog w) A (call (.type "dict") [.ref l]) Q E s := by
  refine callType_codes (Q₁ := fun obj s₁ => obj = .ref s.heap.objs.size /\ s₁ = { s with heap := s.heap.push { cls := .type "dict", data := .dict #[] } }) PySem.F.kt_called_dict (PySem.F.kt_typeCall_dict_1 _) PySem.F.entry_dict_init (kt_code_dict_new _ ⟨rfl, rfl⟩) fun obj s₁ h₁ => ?_
  obtain ⟨rfl, rfl⟩ := h₁
  have hnew : (s.heap.push { cls := .type "dict", data := .dict #[] }).DictOf knd s.heap.objs.size [] := Heap.DictOf.new s.heap
  have hlt : l < s.heap.objs.size := Heap.lt_size hx
  refine ⟨hnew.typeIs, PySem.F.args_dict_init_2 _ _, dict_initT (A := A.in1) (knd := knd) hh hnew (Heap.get?_push_of_some _ hx) (Nat.ne_of_lt hlt) hl hb (hp.but (fun _ => True) (fun _ _ _ => trivial) fun b o _ e => Heap.get?_push_of_some _ e) fun h' tk hk hD' => ?_⟩
  exact ⟨rfl, h h' tk (fun b o e => hk b o (Nat.ne_of_lt (Heap.lt_size e)) (Heap.get?_push_of_some _ e)) hD'⟩
end
def rDictT : List V -> Hp -> VK -> Prop := fun xs H Q => ∃ (p : Addr) (ys : List V) (kvs : List (Key × V)), xs = [.ref p] /\ H p = some (.tup ys) /\ ys.length <= 1000 /\ Paired (fun (kv : Key × V) y => ∃ t, y = .ref t /\ H t = some (.tup [kV kv.1, kv.2])) kvs ys /\ ∀ D, H D = none -> Q (.ref D) (upd H D (.dK (mergeK [] kvs)))
theorem call_dictT {X : Cx} (hh : X.A.handled = none) : CallR X (.type "dict") rDictT := by
  intro pins s σ H xs us Q I r h
  obtain ⟨p, ys, kvs, rfl, hp, lz, pr, q⟩ := h
  obtain ⟨u, rfl, ru⟩ := vals1 r
  obtain rfl : u = Value.ref p := ru
  obtain ⟨⟨hz, o1, e1, d1⟩, its, rv, o, ho, hc, n, hd⟩ := (show ObjOk X.prog X.w H s.heap p (.tup ys) from I.hok p _ hp)
  have d1 : o.dict = none := by rw [ho] at e1; cases e1; exact d1
  clear e1
  obtain ⟨oc, od, odt, osl⟩ := o
  dsimp only at hc hd d1
  subst hc hd d1
  have hx := ho
  obtain ⟨kks, kv, pa⟩ := pairs_of I pr rv
  have l1 := Paired.length pr
  have l2 := rv.length
  have l3 := kv.length
  refine dict_callT (knd := mixKind X.prog X.w) hh hx (by omega) (by omega) pa fun h' tk kp hD => ?_
  have hzz : (mergeK [] kvs).length <= sizeLine := by
    have h1 := length_mergeK kvs []
    rw [List.length_nil] at h1
    rw [sizeLine_eq]; omega
  exact ⟨.ref s.heap.objs.size, _, I.laid (a := s.heap.objs.size) (o := .dK (mergeK [] kvs)) (t' := tk) kp (Nat.le_refl _) ⟨hzz, beq_eq_false_iff_ne.mpr (Ne.symm (Nat.ne_of_lt I.big)), _, kv.merge .nil, hD⟩, rfl, q _ (I.hok.fresh (Nat.le_refl _))⟩
end L2
end
section
namespace L2
open PySem PySem.Spec PyProof.Rows PySem.W
theorem paired_app {α β : Type} {F : α -> β -> Prop} : ∀ {a : List α} {b : List β} {c : List α} {d : List β}, Paired F a b -> Paired F c d -> Paired F (a ++ c) (b ++ d)
  | _, _, _, _, .nil, h => h
  | _, _, _, _, .cons r t, h => .cons r (paired_app t h)
theorem lcR_fp {J : It} {tt : TT} {te : TE} {σ : St} {H1 : Hp} {Q : VK} (xs : List V) (p : V -> Bool) (P : Hp -> V -> V -> Prop) (mono : ∀ H H' x v, SameT H H' -> P H x v -> P H' x v) (hz : xs.length <= sizeLine)
    (hgo : ∀ i H2, i < xs.length -> Same H1 H2 -> J.go i H2 /\ ∀ x H', J.yld i H2 x H' -> H' = H2 /\ xs[i]? = some x) (hst : ∀ H2, Same H1 H2 -> J.stop xs.length H2)
    (ht : ∀ (i : Nat) x H2 (R : Bool -> Hp -> Prop), xs[i]? = some x -> Same H1 H2 -> R (p x) H2 -> tt (some x :: σ) H2 R)
    (he : ∀ (i : Nat) x H2 (R : VK), xs[i]? = some x -> p x = true -> Same H1 H2 -> (∀ v H3, Same H2 H3 -> P H3 x v -> R v H3) -> te (some x :: σ) H2 R)
    (hq : ∀ D H2 ys, H1 D = none -> Same H1 H2 -> H2 D = some (.lst ys) -> Paired (P H2) (xs.filter p) ys -> Q (.ref D) H2) : LcR J tt te σ Q H1 := by
  intro D hD
  refine ⟨fun i m ys H2 => m = xs.length - i /\ i <= xs.length /\ Paired (P H2) ((xs.take i).filter p) ys /\ H2 D = some (.lst ys) /\ Same H1 H2, ⟨_, rfl, Nat.zero_le _, by simpa using Paired.nil, upd_same, same_upd hD _⟩, ?_⟩
  rintro i m ys H2 ⟨rfl, hi, hy, hd, sm⟩
  refine ⟨hd, ?_⟩
  by_cases hlt : i < xs.length
  . obtain ⟨go, yl⟩ := hgo i H2 hlt sm
    have hl : ys.length <= i := by
      have := Paired.length hy
      have l2 := List.length_filter_le p (xs.take i)
      rw [List.length_take] at l2
      omega
    refine .inr ⟨go, by omega, fun x H' y => ?_⟩
    obtain ⟨e, hx⟩ := yl x H' y
    subst e
    refine ht i x _ _ hx sm ?_
    cases hp : p x with
    | true =>
      rw [if_pos rfl]
      refine he i x _ _ hx hp sm fun v H3 s3 pv => ?_
      have hd3 := s3 _ _ hd
      have st := sameT_lst (zs := ys ++ [v]) hd3
      refine ⟨hd3, xs.length - (i + 1), by omega, rfl, hlt, ?_, upd_same, (sm.trans s3).updL hD _⟩
      rw [List.take_succ, hx, List.filter_append]
      have e1 : List.filter p (some x).toList = [x] := by simp [hp]
      rw [e1]
      exact paired_app (Paired.mapP hy fun a b h => mono _ _ _ _ (s3.t.trans st) h) (.cons (mono _ _ _ _ st pv) .nil)
    | false =>
      rw [if_neg Bool.false_ne_true]
      refine ⟨xs.length - (i + 1), by omega, rfl, hlt, ?_, hd, sm⟩
      rw [List.take_succ, hx, List.filter_append]
      have e1 : List.filter p (some x).toList = [] := by simp [hp]
      rw [e1, List.append_nil]
      exact hy
  . have e : i = xs.length := by omega
    subst e
    rw [List.take_length] at hy
    exact .inl ⟨hst H2 sm, hq D H2 ys hD sm hd hy⟩
theorem lcP_list {K : PySem.W.Frag} {a : Addr} {tt : TT} {te : TE} {σ : St} {H1 : Hp} {Q : VK} (xs : List V) (p : V -> Bool) (P : Hp -> V -> V -> Prop) (mono : ∀ H H' x v, SameT H H' -> P H x v -> P H' x v) (hx : SqL K H1 a xs) (hz : xs.length <= sizeLine)
    (ht : ∀ (i : Nat) x H2 (R : Bool -> Hp -> Prop), xs[i]? = some x -> Same H1 H2 -> R (p x) H2 -> tt (some x :: σ) H2 R)
    (he : ∀ (i : Nat) x H2 (R : VK), xs[i]? = some x -> p x = true -> Same H1 H2 -> (∀ v H3, Same H2 H3 -> P H3 x v -> R v H3) -> te (some x :: σ) H2 R)
    (hq : ∀ D H2 ys, H1 D = none -> Same H1 H2 -> H2 D = some (.lst ys) -> Paired (P H2) (xs.filter p) ys -> Q (.ref D) H2) : LcR (Itl K a) tt te σ Q H1 :=
  lcR_fp xs p P mono hz (fun i H2 hi s => ⟨⟨xs, xs[i], s.seq hx, by simp [hi]⟩, fun x H' y => ⟨y.1, y.2 xs (s.seq hx)⟩⟩) (fun H2 s => ⟨xs, s.seq hx, Nat.le_refl _⟩) ht he hq
end L2
end
section
namespace Rw
open PySem L2 Pl
def Up (cols : List Str) : Prop := cols.Pairwise fun a b => ltV (.str a) (.str b) = true
theorem Up.nodup {cols : List Str} (h : Up cols) : cols.Nodup := List.Pairwise.imp (fun {a b} hab e => by
  subst e
  rw [lt_ss, decide_eq_true_eq] at hab
  exact List.lt_irrefl _ hab) h
def kvOf (cols : List Str) (f : Str -> V) : List (Key × V) := (cols.filter fun c => decide (f c ≠ .non)).map fun c => (.inr c, f c)
theorem kvOf_congr {cols : List Str} {f g : Str -> V} (h : ∀ c ∈ cols, f c = g c) : kvOf cols f = kvOf cols g := by
  unfold kvOf
  have e : cols.filter (fun c => decide (f c ≠ .non)) = cols.filter (fun c => decide (g c ≠ .non)) := List.filter_congr fun c hc => by rw [h c hc]
  rw [e]
  exact List.map_congr_left fun c hc => by rw [h c (List.mem_filter.mp hc).1]
theorem kvOf_none {cols : List Str} {f : Str -> V} (h : ∀ c ∈ cols, f c = .non) : kvOf cols f = [] := by
  unfold kvOf
  rw [List.map_eq_nil_iff, List.filter_eq_nil_iff]
  intro c hc; rw [h c hc]; simp
theorem kvOf_app (cols : List Str) (c : Str) (f : Str -> V) : kvOf (cols ++ [c]) f = kvOf cols f ++ (if f c = .non then [] else [(.inr c, f c)]) := by
  unfold kvOf
  rw [List.filter_append, List.map_append]
  congr 1
  by_cases e : f c = .non
  . rw [if_pos e]; simp [e]
  . rw [if_neg e]; simp [e]
theorem kvOf_key {cols : List Str} {f : Str -> V} {k : Key} (h : k ∈ (kvOf cols f).map Prod.fst) : ∃ c ∈ cols, k = .inr c /\ f c ≠ .non := by
  unfold kvOf at h
  rw [List.map_map, List.mem_map] at h
  obtain ⟨c, hc, rfl⟩ := h
  obtain ⟨h1, h2⟩ := List.mem_filter.mp hc
  exact ⟨c, h1, rfl, by simpa using h2⟩
theorem kvOf_len (cols : List Str) (f : Str -> V) : (kvOf cols f).length <= cols.length := by
  unfold kvOf; rw [List.length_map]; exact List.length_filter_le _ _
theorem valV_none {kvs : List (Key × V)} {k : Key} (h : k ∉ kvs.map Prod.fst) : valV kvs k = none := by
  unfold valV
  rw [Option.map_eq_none_iff, List.find?_eq_none]
  intro p hp e
  exact h (List.mem_map.mpr ⟨p, hp, by simpa using e⟩)
theorem kvOf_val {cols : List Str} {f : Str -> V} {c : Str} (hc : c ∈ cols) : valV (kvOf cols f) (.inr c) = if f c = .non then none else some (f c) := by
  by_cases e : f c = .non
  . rw [if_pos e]
    refine valV_none fun h => ?_
    obtain ⟨c', _, e1, e2⟩ := kvOf_key h
    cases e1
    exact e2 e
  . rw [if_neg e]
    induction cols with
    | nil => cases hc
    | cons d r ih =>
      unfold kvOf at ih ⊢
      rw [List.filter_cons]
      by_cases ed : d = c
      . subst ed
        rw [if_pos (by simpa using e), List.map_cons, valV_pos rfl]
      . have hr : c ∈ r := by rcases List.mem_cons.mp hc with h | h; exact absurd h.symm ed; exact h
        split
        . rw [List.map_cons, valV_neg (by intro z; cases z; exact ed rfl)]
          exact ih hr
        . exact ih hr
theorem kvOf_getD {cols : List Str} {f : Str -> V} {c : Str} (hc : c ∈ cols) : (valV (kvOf cols f) (.inr c)).getD .non = f c := by
  rw [kvOf_val hc]
  by_cases e : f c = .non
  . rw [if_pos e, e]; rfl
  . rw [if_neg e]; rfl
theorem kvOf_in {cols : List Str} {f : Str -> V} {c : Str} (hc : c ∈ cols) : (valV (kvOf cols f) (.inr c)).isSome = decide (f c ≠ .non) := by
  rw [kvOf_val hc]
  by_cases e : f c = .non
  . rw [if_pos e]; simp [e]
  . rw [if_neg e]; simp [e]
theorem putK_new {kvs : List (Key × V)} {k : Key} {v : V} (h : k ∉ kvs.map Prod.fst) : putK kvs k v = kvs ++ [(k, v)] := by
  unfold putK
  rw [if_neg]
  intro e
  rw [valV_any, valV_none h] at e
  cases e
def setF (f : Str -> V) (c : Str) (v : V) : Str -> V := fun x => if x = c then v else f x
theorem setF_at (f : Str -> V) (c : Str) (v : V) : setF f c v c = v := by unfold setF; rw [if_pos rfl]
theorem setF_ne {f : Str -> V} {c x : Str} {v : V} (h : x ≠ c) : setF f c v x = f x := by unfold setF; rw [if_neg h]
theorem kvOf_put {cols : List Str} {f : Str -> V} {c : Str} {v : V} (hn : c ∉ cols) (hv : v ≠ .non) : putK (kvOf cols f) (.inr c) v = kvOf (cols ++ [c]) (setF f c v) := by
  rw [putK_new fun h => by
    obtain ⟨c', h1, h2, _⟩ := kvOf_key h
    cases h2
    exact hn h1, kvOf_app, setF_at, if_neg hv]
  congr 1
  exact kvOf_congr fun x hx => (setF_ne (x := x) fun e => hn (by rw [<- e]; exact hx)).symm
theorem kvOf_skip {cols : List Str} {f : Str -> V} {c : Str} (hn : c ∉ cols) : kvOf cols f = kvOf (cols ++ [c]) (setF f c .non) := by
  rw [kvOf_app, setF_at, if_pos rfl, List.append_nil]
  exact kvOf_congr fun x hx => (setF_ne (x := x) fun e => hn (by rw [<- e]; exact hx)).symm
theorem merge_self {kvs : List (Key × V)} (nd : (kvs.map Prod.fst).Nodup) : mergeK [] kvs = kvs := by
  suffices h : ∀ (r p : List (Key × V)), ((p ++ r).map Prod.fst).Nodup -> mergeK p r = p ++ r by exact h kvs [] (by simpa using nd)
  intro r
  induction r with
  | nil => intro p _; simp [mergeK]
  | cons x r ih =>
    intro p nd
    have e : p ++ x :: r = (p ++ [x]) ++ r := by simp
    have hx : x.1 ∉ p.map Prod.fst := by
      rw [List.map_append, List.map_cons] at nd
      intro h
      exact (List.nodup_append.mp nd).2.2 x.1 h x.1 (by simp) rfl
    show mergeK (putK p x.1 x.2) r = _
    rw [putK_new hx, e]
    rw [e] at nd
    exact ih _ nd
theorem kvOf_keys (cols : List Str) (f : Str -> V) : (kvOf cols f).map Prod.fst = (cols.filter fun c => decide (f c ≠ .non)).map Sum.inr := by
  unfold kvOf; rw [List.map_map]; rfl
theorem kvOf_merge {cols : List Str} (f : Str -> V) (nd : cols.Nodup) : mergeK [] (kvOf cols f) = kvOf cols f := by
  refine merge_self ?_
  rw [kvOf_keys]
  exact List.Pairwise.map _ (fun a b h e => h (Sum.inr.inj e)) (nd.filter _)
theorem kvOf_vs (cols : List Str) (f : Str -> V) : (kvOf cols f).map (fun p => kV p.1) = (cols.filter fun c => decide (f c ≠ .non)).map V.str := by
  unfold kvOf; rw [List.map_map]; rfl
theorem told_cols {cols : List Str} {fo fn : Str -> V} {ys : List V} {p : Str -> Bool} (up : Up cols) (hs : ∀ c ∈ cols, c.length <= 40)
    (ri : Rise ((kvOf cols fo).map (fun p => kV p.1) ++ (kvOf cols fn).map fun p => kV p.1) ys) (hp : ∀ c ∈ cols, p c = true -> fo c ≠ .non \/ fn c ≠ .non) :
    ∃ zs : List Str, ys = zs.map V.str /\ (∀ c ∈ zs, c ∈ cols) /\ zs.filter p = cols.filter p := by
  rw [kvOf_vs, kvOf_vs] at ri
  have mem : ∀ v, v ∈ ys ↔ ∃ c ∈ cols, v = .str c /\ (fo c ≠ .non \/ fn c ≠ .non) := fun v => by
    rw [ri.mem v, List.mem_append, List.mem_map, List.mem_map]
    constructor
    . rintro (⟨c, hc, rfl⟩ | ⟨c, hc, rfl⟩)
      . obtain ⟨h1, h2⟩ := List.mem_filter.mp hc; exact ⟨c, h1, rfl, .inl (by simpa using h2)⟩
      . obtain ⟨h1, h2⟩ := List.mem_filter.mp hc; exact ⟨c, h1, rfl, .inr (by simpa using h2)⟩
    . rintro ⟨c, hc, rfl, h | h⟩
      . exact .inl ⟨c, List.mem_filter.mpr ⟨hc, by simpa using h⟩, rfl⟩
      . exact .inr ⟨c, List.mem_filter.mpr ⟨hc, by simpa using h⟩, rfl⟩
  have hz : ∃ zs : List Str, ys = zs.map V.str := by
    have : ∀ v ∈ ys, ∃ c, v = V.str c := fun v hv => let ⟨c, _, e, _⟩ := (mem v).mp hv; ⟨c, e⟩
    clear mem ri
    induction ys with
    | nil => exact ⟨[], rfl⟩
    | cons y r ih =>
      obtain ⟨c, rfl⟩ := this y List.mem_cons_self
      obtain ⟨zs, e⟩ := ih fun v hv => this v (List.mem_cons_of_mem _ hv)
      exact ⟨c :: zs, by rw [e]; rfl⟩
  obtain ⟨zs, rfl⟩ := hz
  have inj : ∀ {a b : List Str}, a.map V.str = b.map V.str -> a = b := fun {a b} e => (List.map_inj_right (fun x y h => V.str.inj h)).mp e
  have zin : ∀ c ∈ zs, c ∈ cols := fun c hc => by
    obtain ⟨c', h, e, _⟩ := (mem (.str c)).mp (List.mem_map.mpr ⟨c, hc, rfl⟩)
    cases e; exact h
  refine ⟨zs, rfl, zin, inj ?_⟩
  refine Rise.uniq (fun v hv => ?_) ?_ ?_ fun v => ?_
  . obtain ⟨c, hc, rfl⟩ := List.mem_map.mp hv
    exact hs c (zin c (List.mem_filter.mp hc).1)
  . have := List.pairwise_map.mp ri.up
    exact List.pairwise_map.mpr (this.filter _)
  . exact List.pairwise_map.mpr (List.Pairwise.filter _ up)
  . rw [List.mem_map, List.mem_map]
    constructor
    . rintro ⟨c, hc, rfl⟩
      obtain ⟨h1, h2⟩ := List.mem_filter.mp hc
      exact ⟨c, List.mem_filter.mpr ⟨zin c h1, h2⟩, rfl⟩
    . rintro ⟨c, hc, rfl⟩
      obtain ⟨h1, h2⟩ := List.mem_filter.mp hc
      have := (mem (.str c)).mpr ⟨c, h1, rfl, hp c h1 h2⟩
      obtain ⟨c', h3, e⟩ := List.mem_map.mp this
      cases e
      exact ⟨_, List.mem_filter.mpr ⟨h3, h2⟩, rfl⟩
def colL (L : List Nat) (kind at_ many x k : Nat) : List Nat :=
  match kind with
  | 0 => List.replicate at_ 109 ++ (L.getD (x + 2 * k) 0 :: List.replicate (many - at_ - 1) 109)
  | 1 => List.replicate (1 + k) 109
  | _ => L.getD (x + 2 * k) 0 :: List.replicate (k * k % 5) 109
theorem lt_pre (p : List Nat) {a b : List Nat} (h : a < b) : p ++ a < p ++ b := by
  induction p with
  | nil => exact h
  | cons x p ih => exact List.Lex.cons ih
theorem lt_rep (x : Nat) : ∀ {m n : Nat}, m < n -> List.replicate m x < List.replicate n x
  | 0, n + 1, _ => List.Lex.nil
  | m + 1, n + 1, h => List.Lex.cons (lt_rep x (Nat.lt_of_succ_lt_succ h))
theorem colL_lt {L : List Nat} (hL : L.Pairwise (· < ·)) (hl : L.length = 26) {kind at_ many x j k : Nat} (hx : x < 3) (h : j < k) (hk : k < 12) : colL L kind at_ many x j < colL L kind at_ many x k := by
  have g : L.getD (x + 2 * j) 0 < L.getD (x + 2 * k) 0 := by
    have h1 : x + 2 * j < L.length := by omega
    have h2 : x + 2 * k < L.length := by omega
    rw [List.getD_eq_getElem?_getD, List.getD_eq_getElem?_getD, List.getElem?_eq_getElem h1, List.getElem?_eq_getElem h2]
    exact List.pairwise_iff_getElem.mp hL _ _ h1 h2 (by omega)
  unfold colL
  split
  . exact lt_pre _ (List.Lex.rel g)
  . exact lt_rep 109 (by omega)
  . exact List.Lex.rel g
end Rw
end
section
namespace My
open PySem L2 Pl Rw
variable {P : Program} {w : World} {K : PySem.W.Frag} {mg : Str -> Option Value} {base : Heap}
theorem cxOf_K {CX : CXT} {P : Program} {w : World} {K : PySem.W.Frag} {mg : Str -> Option Value} {base : Heap} {N : List Str} {qual : Str} {scope : Scope} {f : Addr} {cd : Value} {A : Around} {outer : List Env} {s : Shared} {H : Hp} {E : XK} : (cxOf CX P w K mg base N qual scope f cd A outer s H E).K = K := rfl
theorem cxOf_P {CX : CXT} {P : Program} {w : World} {K : PySem.W.Frag} {mg : Str -> Option Value} {base : Heap} {N : List Str} {qual : Str} {scope : Scope} {f : Addr} {cd : Value} {A : Around} {outer : List Env} {s : Shared} {H : Hp} {E : XK} : (cxOf CX P w K mg base N qual scope f cd A outer s H E).prog = P := rfl
theorem cxOf_w {CX : CXT} {P : Program} {w : World} {K : PySem.W.Frag} {mg : Str -> Option Value} {base : Heap} {N : List Str} {qual : Str} {scope : Scope} {f : Addr} {cd : Value} {A : Around} {outer : List Env} {s : Shared} {H : Hp} {E : XK} : (cxOf CX P w K mg base N qual scope f cd A outer s H E).w = w := rfl
theorem blk_K {X : Cx} {sc : Scope} {x : Str} {M : List Str} {cl : List (Str × Addr)} {C : Addr} {s : Shared} {H : Hp} {fp : List Addr} : (blk X sc x M cl C s H fp).K = X.K := rfl
local macro_rules | `(tactic| walk_at "rd") => `(tactic| simp (maxSteps := 1000000) only [cxOf_K, blk_K, tFor_rng1, tFor_rng2, tFor_list, tFor_tup, tFor_str, tLc_rng1, tLc_list, tLc_tup, tLc_str, tSeq, tNext, tSetLc, rIxL, rIxT, rIxS, rLtV, rIn, rEqL, rJoin, rCat, rSlL, rSlS, Int.reduceLT, Int.reduceLE, Int.reduceToNat, tIfS, tTest, tB, tNot, tAnd, tOr, tAndV, tOrV, tNotV, tOp, tUn, tVar, tC, tRet, tRetN, tAsg, gName, tDrop, tCB, tCall, tCons, tNil, tTup, tLst, rI, rI0, rU, rEq, rNe, scal, tBM, tBM0, rAppend, tChain, tSl, tPart, tNoPart, tFmtI, tFmtS, tJoinF, tParts, empty_add, tSortK, tSortKB, tDGet1, tDPop1, rExtendE, tFor_rngD, tLenSet, tSetK, tFor_seq, tDNewK, sDPut, tDGet, tDIn, tDNotIn, tThaw, tLc_dict, tFor_dict, sThaw, Ends.thawed, tIf, tFor_zip, gTup, gCons, gNil, rAll, tDNew, tLc_rng2, rEqN, tYes,  List.getElem?_cons_zero, List.getElem?_cons_succ, List.set_cons_zero, List.set_cons_succ, Option.some.injEq, V.int.injEq, V.bl.injEq, V.str.injEq, V.ref.injEq, exists_eq_left, exists_eq_left', exists_eq_right, exists_and_left, List.cons.injEq, and_true, true_and, List.append_nil, decide_eq_true_eq, Bool.not_eq_true', decide_eq_false_iff_not, Bool.not_true, Bool.not_false, if_true, if_false, Bool.true_eq_false, Bool.false_eq_true, reduceCtorEq, exists_const, exists_false, false_and, and_false, not_true_eq_false, not_false_eq_true, ite_true, ite_false])
local macro_rules | `(tactic| walk_at "side") => `(tactic| first | omega | decide | (unfold CDiv; omega) | (refine CMul.ok ?_; unfold CMul; omega) | (unfold CMul; omega) | (unfold CPow; omega) | (unfold CDiv; decide) | (unfold CPow; decide))
local macro_rules | `(tactic| walk_at "go") => `(tactic| (repeat refine And.intro (by walk_at "side") ?_))
def top (i : Nat) : Stmt := PySem.Challenge.pw_twigtable_k32_cells_told.main.body.getD i (.Pass ⟨0, 0, 0, 0⟩)
def topM (i j : Nat) : Stmt := match top i with | .ClassDef _ _ _ body _ _ _ _ _ _ _ => body.getD j (.Pass ⟨0, 0, 0, 0⟩) | s => s
abbrev s_rank_of : Stmt := top 2
theorem sc_rank_of : FnScope ["value"] ["value"] (defScope s_rank_of) := ⟨rfl, rfl, rfl, by decide +kernel, rfl, by decide +kernel, by decide +kernel⟩
abbrev s_Change_init : Stmt := topM 6 0
theorem sc_Change_init : FnScope ["self", "key", "old", "new"] ["self", "key", "old", "new"] (defScope s_Change_init) := ⟨rfl, rfl, rfl, by decide +kernel, rfl, by decide +kernel, by decide +kernel⟩
abbrev s_Turned_init : Stmt := topM 6 0
theorem sc_Turned_init : FnScope ["self", "key", "old", "new"] ["self", "key", "old", "new"] (defScope s_Turned_init) := ⟨rfl, rfl, rfl, by decide +kernel, rfl, by decide +kernel, by decide +kernel⟩
abbrev s_values_of : Stmt := top 11
theorem sc_values_of : FnScope ["cells"] ["cells"] (defScope s_values_of) := ⟨rfl, rfl, rfl, by decide +kernel, rfl, by decide +kernel, by decide +kernel⟩
abbrev s__law_cell : Stmt := top 13
theorem sc__law_cell : FnScope ["_law_script", "_law_k"] ["_law_script", "_law_k"] (defScope s__law_cell) := ⟨rfl, rfl, rfl, by decide +kernel, rfl, by decide +kernel, by decide +kernel⟩
abbrev s__law_value : Stmt := top 14
theorem sc__law_value : FnScope ["_law_cell_here", "_law_kind"] ["_law_cell_here"] (defScope s__law_value) := ⟨rfl, rfl, rfl, by decide +kernel, rfl, by decide +kernel, by decide +kernel⟩
abbrev s__law_columns : Stmt := top 15
theorem sc__law_columns : FnScope ["_law_cell_here", "_law_many", "_law_at", "_law_found", "_law_k", "_law_sign"] ["_law_cell_here"] (defScope s__law_columns) := ⟨rfl, rfl, rfl, by decide +kernel, rfl, by decide +kernel, by decide +kernel⟩
abbrev s_before : Stmt := top 3
theorem sc_before : FnScope ["one", "other"] ["one", "other"] (defScope s_before) := ⟨rfl, rfl, rfl, by decide +kernel, rfl, by decide +kernel, by decide +kernel⟩
abbrev s_PutIn_init : Stmt := topM 7 0
theorem sc_PutIn_init : FnScope ["self", "key", "new"] ["self", "key", "new"] (defScope s_PutIn_init) := ⟨rfl, rfl, rfl, by decide +kernel, rfl, by decide +kernel, by decide +kernel⟩
abbrev s_TakenOut_init : Stmt := topM 8 0
theorem sc_TakenOut_init : FnScope ["self", "key", "old"] ["self", "key", "old"] (defScope s_TakenOut_init) := ⟨rfl, rfl, rfl, by decide +kernel, rfl, by decide +kernel, by decide +kernel⟩
abbrev s__law_two_rows : Stmt := top 16
theorem sc__law_two_rows : FnScope ["_law_script", "_law_columns_here", "_law_old", "_law_new", "_law_k", "_law_cell_here", "_law_was", "_law_now"] ["_law_script"] (defScope s__law_two_rows) := ⟨rfl, rfl, rfl, by decide +kernel, rfl, by decide +kernel, by decide +kernel⟩
abbrev s_in_order : Stmt := top 4
theorem sc_in_order : FnScope ["values", "ordered", "value"] ["values"] (defScope s_in_order) := ⟨rfl, rfl, rfl, by decide +kernel, rfl, by decide +kernel, by decide +kernel⟩
abbrev s_change_of : Stmt := top 10
theorem sc_change_of : FnScope ["key", "old", "new"] ["key", "old", "new"] (defScope s_change_of) := ⟨rfl, rfl, rfl, by decide +kernel, rfl, by decide +kernel, by decide +kernel⟩
abbrev s_Change_back : Stmt := topM 6 2
theorem sc_Change_back : FnScope ["self"] ["self"] (defScope s_Change_back) := ⟨rfl, rfl, rfl, by decide +kernel, rfl, by decide +kernel, by decide +kernel⟩
abbrev s_Change_cells_told : Stmt := topM 6 3
theorem sc_Change_cells_told : FnScope ["self", "olds", "news", "cells", "column"] ["self"] (defScope s_Change_cells_told) := ⟨rfl, rfl, rfl, by decide +kernel, rfl, by decide +kernel, by decide +kernel⟩
abbrev s__law_told : Stmt := top 17
theorem sc__law_told : FnScope ["_law_change", "_law_columns_here", "_law_old", "_law_new", "_law_found", "_law_at", "_law_column"] ["_law_change", "_law_columns_here", "_law_old", "_law_new"] (defScope s__law_told) := ⟨rfl, rfl, rfl, by decide +kernel, rfl, by decide +kernel, by decide +kernel⟩
abbrev s_law : Stmt := top 18
theorem sc_law : FnScope ["_law_script", "_law_columns_here", "_law_old", "_law_new", "_law_key", "_law_was", "_law_now", "_law_rows", "_law_change", "_law_one", "_law_other"] ["_law_script"] (defScope s_law) := ⟨rfl, rfl, rfl, by decide +kernel, rfl, by decide +kernel, by decide +kernel⟩
structure Zs (mg : Str -> Option Value) : Prop where
  dict : mg "dict" = none
  isinstance : mg "isinstance" = none
  len : mg "len" = none
  list : mg "list" = none
  range : mg "range" = none
  sorted : mg "sorted" = none
  str : mg "str" = none
  tuple : mg "tuple" = none
def isaM (i j : Nat) : Bool := ([(0, 0), (1, 0), (1, 1), (2, 0), (2, 2), (3, 0), (3, 3)] : List (Nat × Nat)).contains (i, j)
structure Tx (K : PySem.W.Frag) (mg : Str -> Option Value) (CT : Addr) (cs : Nat -> Addr) (ob : Nat -> Addr) : Prop where
  mg_Change : mg "Change" = some (.ref (ob 0))
  mg_PutIn : mg "PutIn" = some (.ref (ob 1))
  mg_TakenOut : mg "TakenOut" = some (.ref (ob 2))
  mg_Turned : mg "Turned" = some (.ref (ob 3))
  ob_ : ∀ i, i < 4 -> ObC K (ob i) ["key", "old", "new"]
  isa : ∀ i j, i < 4 -> j < 4 -> PySem.W.kitOne K (.ref (ob i)) (.ref (ob j)) = some (isaM i j)
section
variable {K : PySem.W.Frag}
theorem kit_int_tup : PySem.W.kitOne K (.type "int") (.type "tuple") = some false := by rfl
theorem kit_str_tup : PySem.W.kitOne K (.type "str") (.type "tuple") = some false := by rfl
theorem kit_non_tup : PySem.W.kitOne K (.type "NoneType") (.type "tuple") = some false := by rfl
theorem kit_bl_tup : PySem.W.kitOne K (.type "bool") (.type "tuple") = some false := by rfl
theorem kit_lst_tup : PySem.W.kitOne K (.type "list") (.type "tuple") = some false := by rfl
theorem kit_dct_tup : PySem.W.kitOne K (.type "dict") (.type "tuple") = some false := by rfl
theorem kit_tup_tup : PySem.W.kitOne K (.type "tuple") (.type "tuple") = some true := by rfl
theorem kit_tup_str : PySem.W.kitOne K (.type "tuple") (.type "str") = some false := by rfl
theorem kit_bl_str : PySem.W.kitOne K (.type "bool") (.type "str") = some false := by rfl
theorem kit_lst_str : PySem.W.kitOne K (.type "list") (.type "str") = some false := by rfl
theorem kit_dct_str : PySem.W.kitOne K (.type "dict") (.type "str") = some false := by rfl
theorem kit_tup_lst : PySem.W.kitOne K (.type "tuple") (.type "list") = some false := by rfl
theorem kit_lst_lst : PySem.W.kitOne K (.type "list") (.type "list") = some true := by rfl
theorem kit_non_bool : PySem.W.kitOne K (.type "NoneType") (.type "bool") = some false := by rfl
theorem kit_str_bool : PySem.W.kitOne K (.type "str") (.type "bool") = some false := by rfl
theorem kit_tup_bool : PySem.W.kitOne K (.type "tuple") (.type "bool") = some false := by rfl
theorem kit_lst_bool : PySem.W.kitOne K (.type "list") (.type "bool") = some false := by rfl
theorem kit_dct_bool : PySem.W.kitOne K (.type "dict") (.type "bool") = some false := by rfl
theorem kit_non_int : PySem.W.kitOne K (.type "NoneType") (.type "int") = some false := by rfl
theorem kit_tup_int : PySem.W.kitOne K (.type "tuple") (.type "int") = some false := by rfl
theorem kit_lst_int : PySem.W.kitOne K (.type "list") (.type "int") = some false := by rfl
theorem kit_dct_int : PySem.W.kitOne K (.type "dict") (.type "int") = some false := by rfl
end
theorem one_sz (v : V) : [v].length <= sizeLine := show 1 <= sizeLine by decide
theorem small_le {n : Nat} (h : n <= 1000) : n <= sizeLine := Nat.le_of_lt (small1000 h)
theorem at0 (x : V) (r : List V) : atI (x :: r) 0 = some x := atI_nat (j := 0) rfl
theorem at1 (x y : V) (r : List V) : atI (x :: y :: r) 1 = some y := atI_nat (j := 1) rfl
theorem mem_of_ix {P : V -> Prop} {ys : List V} (py : ∀ (i : Nat) y, ys[i]? = some y -> P y) : ∀ v ∈ ys, P v := fun v hv => by
  obtain ⟨i, hi, e⟩ := List.mem_iff_getElem.mp hv
  exact py i v (by rw [List.getElem?_eq_getElem hi, e])
theorem isTup_plain {K : PySem.W.Frag} {H : Hp} {Q : VK} {v : V} (p : plainV v) (q : Q (.bl false) H) : rIsI K [v, .ty "tuple"] H Q := by
  cases v with
  | non => exact isI_of .non kit_non_tup q
  | int i => exact isI_of (.int i) kit_int_tup q
  | str z => exact isI_of (.str z) kit_str_tup q
  | _ => exact p.elim
def sp_rank_of (_ : PySem.W.Frag) : Sp := fun vs H Q _ => ∃ v, vs = [v] /\ plainV v /\ ∀ p, H p = none -> Q (.ref p) (upd H p (.tup (rk v)))
seal PE PT PW PA PS PSs PI PG PIfs PGs PO in
theorem ok_rank_of {CT : Addr} {cs : Nat -> Addr} {ob : Nat -> Addr} {f : Addr} {fd : FuncData} (Z : Zs mg) (T : Tx K mg CT cs ob) (F : Fun K "rank_of" "rank_of" s_rank_of f fd) : FnOk P w K mg base CX0 1 f fd ["value"] (sp_rank_of K) := by
  refine F.ok sc_rank_of (fun vs H Q E h => ?_) (fun cdv A outer s H vs Q E hr h => ?_)
  . obtain ⟨v, rfl, _⟩ := h; rfl
  obtain ⟨v, rfl, hv, q⟩ := h
  refine ⟨_, (@pss_cons _ _ _ _ _ (ps_if (pt_cmpR op_isN (pv 0) pe_non (nomark _)) (pss_one (ps_ret (pe_tup (pa_c pe_int (pa_c pe_int pa_nil))))) pss_nil)
      (@pss_cons _ _ _ _ _ (ps_if (pt_val (pe_callB call_isinst rfl (Z.isinstance) bo_isinstance (pa_c (pv 0) (pa_c (pe_bltn rfl (Z.str) bo_str (v := .ty "str") rfl) pa_nil))) (fun _ => rfl)) (pss_one (ps_ret (pe_tup (pa_c pe_int (pa_c (pv 0) pa_nil))))) pss_nil)
      (pss_one (ps_ret (pe_tup (pa_c pe_int (pa_c (pv 0) pa_nil))))))), ?_⟩
  refine rd_start (σ := [some v]) rfl ?_
  walk_at "rd"
  cases v with
  | non => walk_at "rd"; exact ⟨by decide, q⟩
  | int n =>
    walk_at "rd"
    refine isI_of (.int n) kit_int_str ⟨_, rfl, ?_⟩
    walk_at "rd"
    exact ⟨by show 2 <= sizeLine; decide, q⟩
  | str z =>
    walk_at "rd"
    refine isI_of (.str z) kit_str_str ⟨_, rfl, ?_⟩
    walk_at "rd"
    exact ⟨by show 2 <= sizeLine; decide, q⟩
  | _ => exact hv.elim
def sp_before (_ : PySem.W.Frag) : Sp := fun vs H Q _ => ∃ a b, vs = [a, b] /\ plainV a /\ plainV b /\ ∀ H', Same H H' -> Q (.bl (ltV a b)) H'
seal PE PT PW PA PS PSs PI PG PIfs PGs PO in
theorem ok_before {CT : Addr} {cs : Nat -> Addr} {ob : Nat -> Addr} {f : Addr} {fd : FuncData} (Z : Zs mg) (T : Tx K mg CT cs ob) (G_rank_of : Cal P w K mg base 1 "rank_of" ["value"] (sp_rank_of K)) (F : Fun K "before" "before" s_before f fd) : FnOk P w K mg base CX0 2 f fd ["one", "other"] (sp_before K) := by
  refine F.ok sc_before (fun vs H Q E h => ?_) (fun cdv A outer s H vs Q E hr h => ?_)
  . obtain ⟨a, b, rfl, _⟩ := h; rfl
  obtain ⟨a, b, rfl, ha, hb, q⟩ := h
  refine ⟨_, (pss_one (ps_ret (pe_cmpR (op_ltV (hr.units0)) (pe_cal G_rank_of (k := 1) hr (by decide) rfl (pa_c (pv 0) pa_nil)) (pe_cal G_rank_of (k := 1) hr (by decide) rfl (pa_c (pv 1) pa_nil)) (nomark _)))), ?_⟩
  refine rd_start (σ := [some a, some b]) rfl ?_
  walk_at "rd"
  refine ⟨a, rfl, ha, fun p hp => ?_⟩
  walk_at "rd"
  refine ⟨b, rfl, hb, fun p2 hp2 => ?_⟩
  walk_at "rd"
  exact ⟨rk a, SqT.of (by rw [upd_ne (ne_of_none upd_same hp2)]; exact upd_same), rk b, SqT.of upd_same, ltV a b, lex_rk ha hb, q _ ((same_upd hp _).trans (same_upd hp2 _))⟩
def sp_in_order (_ : PySem.W.Frag) : Sp := fun vs H Q _ => ∃ (a : Addr) (xs : List V), vs = [.ref a] /\ H a = some (.lst xs) /\ (∀ v ∈ xs, plainV v) /\ xs.length < 64 /\
  ∀ (r : Addr) (H' : Hp) (ys : List V), Same H H' -> H r = none -> H' r = some (.lst ys) -> ys.length <= xs.length -> Rise xs ys -> Q (.ref r) H'
theorem key_rank {K : PySem.W.Frag} {H : Hp} {xs : List V} (h : ∀ v ∈ xs, plainV v) : KeyF K (sp_rank_of K) H xs rk ltV :=
  ⟨fun v _ => rk_hd v, fun v hv H2 _ R hR => ⟨v, rfl, h v hv, fun p hp => hR p _ (same_upd hp _) (SqT.of upd_same)⟩, fun v hv u hu => lex_rk (h v hv) (h u hu), swo h⟩
seal PE PT PW PA PS PSs PI PG PIfs PGs PO in
theorem ok_in_order {CT : Addr} {cs : Nat -> Addr} {ob : Nat -> Addr} {f : Addr} {fd : FuncData} (Z : Zs mg) (T : Tx K mg CT cs ob) (G_before : Cal P w K mg base 2 "before" ["one", "other"] (sp_before K)) (G_rank_of : Cal P w K mg base 1 "rank_of" ["value"] (sp_rank_of K)) (F : Fun K "in_order" "in_order" s_in_order f fd) : FnOk P w K mg base CX0 4 f fd ["values"] (sp_in_order K) := by
  refine F.ok sc_in_order (fun vs H Q E h => ?_) (fun cdv A outer s H vs Q E hr h => ?_)
  . obtain ⟨a, xs, rfl, _⟩ := h; rfl
  obtain ⟨a, xs, rfl, ha, px, l64, q⟩ := h
  refine ⟨_, (@pss_cons _ _ _ _ _ (ps_set (i := 1) sc_in_order.nd rfl (Or.inl rfl) (pe_lst pa_nil))
      (@pss_cons _ _ _ _ _ (ps_for PassesOwn.never rfl (pi_list (pe_sortedK G_rank_of (k := 3) hr (by decide) rfl (Z.sorted) rfl (pv 0))) (pg_name (i := 2) sc_in_order.nd rfl (Or.inl rfl)) (pss_one (ps_if (PW.pt (pw_or (pt_not (pt_truth (pv 1) (fun _ => rfl))) (pw_or1 (pt_val (pe_cal G_before (k := 3) hr (by decide) rfl (pa_c (pe_ix ix_list (pv 1) (pe_un un_neg pe_int) (fun _ _ => rfl)) (pa_c (pv 2) pa_nil))) (fun _ => rfl))))) (pss_one (ps_expr (pe_bm PySem.F.plainAttrs_list PySem.F.slot_list_append PySem.F.type_list_append mt_append (pv 1) (pa_c (pv 2) pa_nil)))) pss_nil)))
      (pss_one (ps_ret (pv 1))))), ?_⟩
  refine rd_start (σ := [some (.ref a), none, none]) rfl ?_
  walk_at "rd"
  refine ⟨by decide, fun f hf => ?_⟩
  have hfa : a ≠ f := ne_of_none ha hf
  refine ⟨xs, SqL.of (by rw [upd_ne hfa]; exact ha), l64, _, _, key_rank px, fun D H1 ys s1 hD0 hD hp so => ?_⟩
  have py : ∀ v ∈ ys, plainV v := fun v hv => px v (hp.mem_iff.mp hv)
  have hfD : f ≠ D := fun z => by rw [<- z, upd_same] at hD0; cases hD0
  have sf : Same H H1 := (same_upd hf _).trans s1
  have ly := hp.length_eq
  refine ⟨⟨_, SqL.of hD⟩, foR_list ys (fun i σ' H' => ∃ (fs : List V) (x2 : Option V), σ' = [some (.ref a), some (.ref f), x2] /\ Same H H' /\ H' D = some (.lst ys) /\ H' f = some (.lst fs) /\ Grow ys i fs) ?_ ?_ ?_ ?_⟩
  . exact ⟨[], _, rfl, sf, hD, s1 _ _ upd_same, Grow.start ys⟩
  . rintro i σ' H' _ ⟨fs, x2, rfl, sm, h1, h2, g⟩
    exact SqL.of h1
  . rintro i x σ' H' hx ⟨fs, x2, rfl, sm, h1, h2, g⟩
    have hi : i < ys.length := (List.getElem?_eq_some_iff.mp hx).1
    have pf : ∀ v ∈ fs, plainV v := fun v hv => py v (List.mem_of_mem_take ((g.mem v).mp hv))
    have pX := py x (List.mem_of_getElem? hx)
    have lf := g.len
    have app : ∀ H2 : Hp, Same H' H2 -> (∀ l, fs.getLast? = some l -> ltV l x = true) -> tyV K "list" (.ref f) H2 /\ ∃ xs', H2 f = some (.lst xs') /\ xs'.length < sizeLine /\ Same H (upd H2 f (.lst (xs' ++ [x]))) /\ upd H2 f (.lst (xs' ++ [x])) D = some (.lst ys) /\ ∃ fs' : List V, upd H2 f (.lst (xs' ++ [x])) f = some (.lst fs') /\ Grow ys (i + 1) fs' := fun H2 s2 hl =>
      ⟨.inl ⟨rfl, _, SqL.of (s2 _ _ h2)⟩, fs, s2 _ _ h2, small1000 (by omega), (sm.trans s2).updL hf _, by rw [upd_ne (Ne.symm hfD)]; exact s2 _ _ h1, fs ++ [x], upd_same, g.put py so hx hl⟩
    walk_at "rd"
    refine ⟨_, .inl ⟨fs, SqL.of h2, rfl⟩, ?_⟩
    cases hemp : fs.isEmpty with
    | true =>
      rw [if_pos (by decide)]
      have e0 : fs = [] := List.isEmpty_iff.mp hemp
      exact app _ (Same.refl _) fun l hl => by rw [e0] at hl; cases hl
    | false =>
      rw [if_neg (by simp)]
      obtain ⟨l, hl⟩ : ∃ l, fs.getLast? = some l := by
        cases q : fs.getLast? with
        | none => rw [List.getLast?_eq_none_iff] at q; rw [q] at hemp; cases hemp
        | some l => exact ⟨l, rfl⟩
      obtain ⟨fs', ef⟩ := List.getLast?_eq_some_iff.mp hl
      have pl : plainV l := pf l (List.mem_of_getLast? hl)
      refine ⟨fs, SqL.of h2, l, by rw [ef]; exact atI_last _ _, l, x, rfl, pl, pX, fun H2 s2 => ⟨_, rfl, ?_⟩⟩
      cases hlt : ltV l x with
      | true =>
        rw [if_pos rfl]
        exact app _ s2 fun l' hl' => by rw [hl] at hl'; cases hl'; exact hlt
      | false =>
        rw [if_neg Bool.false_ne_true]
        exact ⟨sm.trans s2, s2 _ _ h1, fs, s2 _ _ h2, g.skip py so hx hl hlt⟩
  . rintro σ' H' ⟨fs, x2, rfl, sm, h1, h2, g⟩
    walk_at "rd"
    have := g.len
    exact q f H' fs sm hf h2 (by omega) (g.rise hp)
def chF (k o n : V) : List (Str × V) := putF "new" n (putF "old" o (putF "key" k []))
def ciOf : V -> V -> Nat
  | .non, _ => 1
  | _, .non => 2
  | _, _ => 3
theorem ci2 {o : V} (h : o ≠ .non) : ciOf o .non = 2 := by unfold ciOf; split <;> first | exact (h rfl).elim | rfl | (rename_i z; exact (z rfl).elim)
theorem ci3 {o n : V} (h : o ≠ .non) (h' : n ≠ .non) : ciOf o n = 3 := by unfold ciOf; split <;> first | exact (h rfl).elim | exact (h' rfl).elim | rfl
theorem ciOf_lt (o n : V) : ciOf o n < 4 := by unfold ciOf; split <;> decide
def ChAt (ob : Nat -> Addr) (H : Hp) (a : Addr) (k o n : V) : Prop := ∃ dx, H a = some (.ins (ob (ciOf o n)) dx (chF k o n))
theorem ChAt.same {ob : Nat -> Addr} {H H' : Hp} {a : Addr} {k o n : V} (h : ChAt ob H a k o n) (s : Same H H') : ChAt ob H' a k o n := by
  obtain ⟨dx, e⟩ := h; exact ⟨dx, s _ _ e⟩
def sp_Change_init (K : PySem.W.Frag) (ob : Nat -> Addr) : Sp := fun vs H Q _ => ∃ a i dx k o n, vs = [.ref a, k, o, n] /\ i < 4 /\ H a = some (.ins (ob i) dx []) /\ Q .non (upd H a (.ins (ob i) dx (chF k o n)))
seal PE PT PW PA PS PSs PI PG PIfs PGs PO in
theorem ok_Change_init {CT : Addr} {cs : Nat -> Addr} {ob : Nat -> Addr} {f : Addr} {fd : FuncData} (Z : Zs mg) (T : Tx K mg CT cs ob) (F : Fun K "__init__" "Change.__init__" s_Change_init f fd) : FnOk P w K mg base CX0 1 f fd ["self", "key", "old", "new"] (sp_Change_init K ob) := by
  refine F.ok sc_Change_init (fun vs H Q E h => ?_) (fun cdv A outer s H vs Q E hr h => ?_)
  . obtain ⟨a, i, dx, k, o, n, rfl, _⟩ := h; rfl
  obtain ⟨a, i, dx, k, o, n, rfl, hi, ha, q⟩ := h
  refine ⟨_, (@pss_cons _ _ _ _ _ (ps_fld (pv 0) (pv 1) rfl)
      (@pss_cons _ _ _ _ _ (ps_fld (pv 0) (pv 2) rfl)
      (pss_one (ps_fld (pv 0) (pv 3) rfl)))), ?_⟩
  refine rd_start (σ := [some (.ref a), some k, some o, some n]) rfl ?_
  walk_at "rd"
  have c := T.ob_ _ hi
  refine rd_set c (by decide) rfl (y := k) (H1 := H) (fun Q q => ⟨_, rfl, q⟩) ha (by decide) ?_
  refine ⟨_, rfl, _, rfl, a, ob i, dx, _, rfl, upd_same, c.cl, c.no _ (by decide), show 1 < 1000 by decide, ?_⟩
  refine ⟨_, rfl, _, rfl, a, ob i, dx, _, rfl, upd_same, c.cl, c.no _ (by decide), show 2 < 1000 by decide, ?_⟩
  rw [upd_upd, upd_upd]
  exact q
def sp_Turned_init (K : PySem.W.Frag) (ob : Nat -> Addr) : Sp := fun vs H Q _ => ∃ a dx k o n, vs = [.ref a, k, o, n] /\ H a = some (.ins (ob 3) dx []) /\ Q .non (upd H a (.ins (ob 3) dx (chF k o n)))
seal PE PT PW PA PS PSs PI PG PIfs PGs PO in
theorem ok_Turned_init {CT : Addr} {cs : Nat -> Addr} {ob : Nat -> Addr} {f : Addr} {fd : FuncData} (Z : Zs mg) (T : Tx K mg CT cs ob) (F : Fun K "__init__" "Change.__init__" s_Turned_init f fd) : FnOk P w K mg base CX0 1 f fd ["self", "key", "old", "new"] (sp_Turned_init K ob) := by
  refine F.ok sc_Turned_init (fun vs H Q E h => ?_) (fun cdv A outer s H vs Q E hr h => ?_)
  . obtain ⟨a, dx, k, o, n, rfl, _⟩ := h; rfl
  obtain ⟨a, dx, k, o, n, rfl, ha, q⟩ := h
  refine ⟨_, (@pss_cons _ _ _ _ _ (ps_fld (pv 0) (pv 1) rfl)
      (@pss_cons _ _ _ _ _ (ps_fld (pv 0) (pv 2) rfl)
      (pss_one (ps_fld (pv 0) (pv 3) rfl)))), ?_⟩
  refine rd_start (σ := [some (.ref a), some k, some o, some n]) rfl ?_
  walk_at "rd"
  have c := T.ob_ 3 (by decide)
  refine rd_set c (by decide) rfl (y := k) (H1 := H) (fun Q q => ⟨_, rfl, q⟩) ha (by decide) ?_
  refine ⟨_, rfl, _, rfl, a, ob 3, dx, _, rfl, upd_same, c.cl, c.no _ (by decide), show 1 < 1000 by decide, ?_⟩
  refine ⟨_, rfl, _, rfl, a, ob 3, dx, _, rfl, upd_same, c.cl, c.no _ (by decide), show 2 < 1000 by decide, ?_⟩
  rw [upd_upd, upd_upd]
  exact q
def sp_PutIn_init (K : PySem.W.Frag) (ob : Nat -> Addr) : Sp := fun vs H Q _ => ∃ a dx k n, vs = [.ref a, k, n] /\ H a = some (.ins (ob 1) dx []) /\ Q .non (upd H a (.ins (ob 1) dx (chF k .non n)))
seal PE PT PW PA PS PSs PI PG PIfs PGs PO in
theorem ok_PutIn_init {CT : Addr} {cs : Nat -> Addr} {ob : Nat -> Addr} {f : Addr} {fd : FuncData} (Z : Zs mg) (T : Tx K mg CT cs ob) (B_Change : BaI P w K mg base 1 "Change" (sp_Change_init K ob)) (F : Fun K "__init__" "PutIn.__init__" s_PutIn_init f fd) : FnOk P w K mg base CX0 2 f fd ["self", "key", "new"] (sp_PutIn_init K ob) := by
  refine F.ok sc_PutIn_init (fun vs H Q E h => ?_) (fun cdv A outer s H vs Q E hr h => ?_)
  . obtain ⟨a, dx, k, n, rfl, _⟩ := h; rfl
  obtain ⟨a, dx, k, n, rfl, ha, q⟩ := h
  refine ⟨_, (pss_one (ps_expr (pe_bainit B_Change (k := 1) hr (by decide) rfl (pa_c (pv 0) (pa_c (pv 1) (pa_c pe_non (pa_c (pv 2) pa_nil))))))), ?_⟩
  refine rd_start (σ := [some (.ref a), some k, some n]) rfl ?_
  walk_at "rd"
  exact ⟨a, 1, dx, k, .non, n, rfl, by decide, ha, q⟩
def sp_TakenOut_init (K : PySem.W.Frag) (ob : Nat -> Addr) : Sp := fun vs H Q _ => ∃ a dx k o, vs = [.ref a, k, o] /\ H a = some (.ins (ob 2) dx []) /\ Q .non (upd H a (.ins (ob 2) dx (chF k o .non)))
seal PE PT PW PA PS PSs PI PG PIfs PGs PO in
theorem ok_TakenOut_init {CT : Addr} {cs : Nat -> Addr} {ob : Nat -> Addr} {f : Addr} {fd : FuncData} (Z : Zs mg) (T : Tx K mg CT cs ob) (B_Change : BaI P w K mg base 1 "Change" (sp_Change_init K ob)) (F : Fun K "__init__" "TakenOut.__init__" s_TakenOut_init f fd) : FnOk P w K mg base CX0 2 f fd ["self", "key", "old"] (sp_TakenOut_init K ob) := by
  refine F.ok sc_TakenOut_init (fun vs H Q E h => ?_) (fun cdv A outer s H vs Q E hr h => ?_)
  . obtain ⟨a, dx, k, o, rfl, _⟩ := h; rfl
  obtain ⟨a, dx, k, o, rfl, ha, q⟩ := h
  refine ⟨_, (pss_one (ps_expr (pe_bainit B_Change (k := 1) hr (by decide) rfl (pa_c (pv 0) (pa_c (pv 1) (pa_c (pv 2) (pa_c pe_non pa_nil))))))), ?_⟩
  refine rd_start (σ := [some (.ref a), some k, some o]) rfl ?_
  walk_at "rd"
  exact ⟨a, 2, dx, k, o, .non, rfl, by decide, ha, q⟩
def sp_change_of (_ : PySem.W.Frag) (ob : Nat -> Addr) : Sp := fun vs H Q _ => ∃ k o n, vs = [k, o, n] /\ ∀ a H', Same H H' -> H a = none -> ChAt ob H' a k o n -> Q (.ref a) H'
seal PE PT PW PA PS PSs PI PG PIfs PGs PO in
theorem ok_change_of {CT : Addr} {cs : Nat -> Addr} {ob : Nat -> Addr} {f : Addr} {fd : FuncData} (Z : Zs mg) (T : Tx K mg CT cs ob) (K_Turned : MkV P w K mg base 1 "Turned" (ob 3) (sp_Turned_init K ob)) (K_PutIn : MkV P w K mg base 2 "PutIn" (ob 1) (sp_PutIn_init K ob)) (K_TakenOut : MkV P w K mg base 2 "TakenOut" (ob 2) (sp_TakenOut_init K ob)) (F : Fun K "change_of" "change_of" s_change_of f fd) : FnOk P w K mg base CX0 4 f fd ["key", "old", "new"] (sp_change_of K ob) := by
  refine F.ok sc_change_of (fun vs H Q E h => ?_) (fun cdv A outer s H vs Q E hr h => ?_)
  . obtain ⟨k, o, n, rfl, _⟩ := h; rfl
  obtain ⟨k, o, n, rfl, q⟩ := h
  refine ⟨_, (@pss_cons _ _ _ _ _ (ps_if (pt_cmpR op_isN (pv 1) pe_non (nomark _)) (pss_one (ps_ret (pe_mk K_PutIn (k := 3) hr (by decide) rfl (pa_c (pv 0) (pa_c (pv 2) pa_nil))))) pss_nil)
      (@pss_cons _ _ _ _ _ (ps_if (pt_cmpR op_isN (pv 2) pe_non (nomark _)) (pss_one (ps_ret (pe_mk K_TakenOut (k := 3) hr (by decide) rfl (pa_c (pv 0) (pa_c (pv 1) pa_nil))))) pss_nil)
      (pss_one (ps_ret (pe_mk K_Turned (k := 3) hr (by decide) rfl (pa_c (pv 0) (pa_c (pv 1) (pa_c (pv 2) pa_nil)))))))), ?_⟩
  refine rd_start (σ := [some k, some o, some n]) rfl ?_
  walk_at "rd"
  refine ite2 (fun ho => ?_) fun ho => ?_
  . refine ⟨_, rfl, _, rfl, fun x dx hx hdx hne => ⟨x, dx, k, n, rfl, upd_same, rfl, ?_⟩⟩
    rw [upd_upd]
    exact q x _ (same_mk hx hdx (Same.refl _)) hx ⟨dx, by rw [ho]; exact upd_same⟩
  refine ite2 (fun hn => ?_) fun hn => ?_
  . refine ⟨_, rfl, _, rfl, fun x dx hx hdx hne => ⟨x, dx, k, o, rfl, upd_same, rfl, ?_⟩⟩
    rw [upd_upd]
    exact q x _ (same_mk hx hdx (Same.refl _)) hx ⟨dx, by rw [hn, show ciOf o .non = 2 from ci2 ho]; exact upd_same⟩
  . refine ⟨_, rfl, _, rfl, _, rfl, fun x dx hx hdx hne => ⟨x, dx, k, o, n, rfl, upd_same, rfl, ?_⟩⟩
    rw [upd_upd]
    exact q x _ (same_mk hx hdx (Same.refl _)) hx ⟨dx, by rw [ci3 ho hn]; exact upd_same⟩
def sp_Change_back (_ : PySem.W.Frag) (ob : Nat -> Addr) : Sp := fun vs H Q _ => ∃ a k o n, vs = [.ref a] /\ ChAt ob H a k o n /\ ∀ r H', Same H H' -> H r = none -> ChAt ob H' r k n o -> Q (.ref r) H'
seal PE PT PW PA PS PSs PI PG PIfs PGs PO in
theorem ok_Change_back {CT : Addr} {cs : Nat -> Addr} {ob : Nat -> Addr} {f : Addr} {fd : FuncData} (Z : Zs mg) (T : Tx K mg CT cs ob) (G_change_of : Cal P w K mg base 4 "change_of" ["key", "old", "new"] (sp_change_of K ob)) (F : Fun K "back" "Change.back" s_Change_back f fd) : FnOk P w K mg base (CX1 P w) 5 f fd ["self"] (sp_Change_back K ob) := by
  refine F.ok1 sc_Change_back (fun vs H Q E h => ?_) (fun cdv A outer s H vs Q E hr h => ?_)
  . obtain ⟨a, k, o, n, rfl, _⟩ := h; rfl
  obtain ⟨a, k, o, n, rfl, hC, q⟩ := h
  refine ⟨_, (pss_one (ps_ret (pe_cal G_change_of (k := 4) hr (by decide) rfl (pa_c (pe_fld (pv 0) rfl) (pa_c (pe_fld (pv 0) rfl) (pa_c (pe_fld (pv 0) rfl) pa_nil)))))), ?_⟩
  refine rd_start (σ := [some (.ref a)]) rfl ?_
  walk_at "rd"
  obtain ⟨dx, ha⟩ := hC
  have c := T.ob_ _ (ciOf_lt o n)
  exact rd_fld c (by decide) rfl ha rfl (rd_fld c (by decide) rfl ha rfl (rd_fld c (by decide) rfl ha rfl ⟨k, n, o, rfl, fun r H' s hr hc => q r H' s hr hc⟩))
theorem ci_cases (o n : V) : (ciOf o n = 1 /\ o = .non) \/ (ciOf o n = 2 /\ o ≠ .non /\ n = .non) \/ (ciOf o n = 3 /\ o ≠ .non /\ n ≠ .non) := by
  by_cases ho : o = .non
  . subst ho; exact .inl ⟨rfl, rfl⟩
  by_cases hn : n = .non
  . subst hn; exact .inr (.inl ⟨ci2 ho, ho, rfl⟩)
  . exact .inr (.inr ⟨ci3 ho hn, ho, hn⟩)
def sp__law_cell (K : PySem.W.Frag) : Sp := fun vs H Q _ => ∃ (a : Addr) (ns : List Int) (k : Nat), vs = [.ref a, .int k] /\ SqL K H a (ns.map V.int) /\ ns.length <= 63 /\ ∀ c, Q (.int c) H
seal PE PT PW PA PS PSs PI PG PIfs PGs PO in
theorem ok__law_cell {CT : Addr} {cs : Nat -> Addr} {ob : Nat -> Addr} {f : Addr} {fd : FuncData} (Z : Zs mg) (T : Tx K mg CT cs ob) (F : Fun K "_law_cell" "_law_cell" s__law_cell f fd) : FnOk P w K mg base CX0 1 f fd ["_law_script", "_law_k"] (sp__law_cell K) := by
  refine F.ok sc__law_cell (fun vs H Q E h => ?_) (fun cdv A outer s H vs Q E hr h => ?_)
  . obtain ⟨a, ns, k, rfl, _⟩ := h; rfl
  obtain ⟨a, ns, k, rfl, hS, hl, q⟩ := h
  refine ⟨_, (@pss_cons _ _ _ _ _ (ps_if (pt_cmpR op_lt (pv 1) (pe_callB call_len_seq rfl (Z.len) bo_len (pa_c (pv 0) pa_nil)) (nomark _)) (pss_one (ps_ret (pe_ix ix_list (pv 0) (pv 1) (fun _ _ => rfl)))) pss_nil)
      (pss_one (ps_ret pe_int))), ?_⟩
  refine rd_start (σ := [some (.ref a), some (.int k)]) rfl ?_
  walk_at "rd"
  refine ⟨_, .inl hS, ite2 (fun h => ?_) fun _ => ?_⟩
  . rw [List.length_map] at h
    have hk : k < ns.length := by omega
    exact ⟨_, hS, .int ns[k], atI_nat (j := k) (by simp [hk]), q _⟩
  . exact q 0
theorem at_some {α : Type} {l : List α} {k : Int} (h0 : 0 <= k) (h1 : k < (l.length : Int)) : ∃ c, atI l k = some c := by
  have hk : k.toNat < l.length := by omega
  have ek : k = ((k.toNat : Nat) : Int) := by omega
  have h := atI_nat (xs := l) (j := k.toNat) (List.getElem?_eq_getElem hk)
  rw [<- ek] at h
  exact ⟨_, h⟩
def PairAt (H : Hp) (kv : Key × V) (y : V) : Prop := ∃ p, y = .ref p /\ H p = some (.tup [kV kv.1, kv.2])
def RowT (H : Hp) (cols : List Str) (f : Str -> V) (v : V) : Prop := (v = .non /\ ∀ c ∈ cols, f c = .non) \/ ∃ t ys, v = .ref t /\ H t = some (.tup ys) /\ Paired (PairAt H) (kvOf cols f) ys
theorem RowT.same {H H' : Hp} {cols : List Str} {f : Str -> V} {v : V} (h : RowT H cols f v) (s : Same H H') : RowT H' cols f v := by
  rcases h with h | ⟨t, ys, e, ht, p⟩
  . exact .inl h
  . exact .inr ⟨t, ys, e, s _ _ ht, Paired.mapP p fun a b ⟨q, e, hq⟩ => ⟨q, e, s _ _ hq⟩⟩
def RowD (K : PySem.W.Frag) (H : Hp) (cols : List Str) (f : Str -> V) (d : Str -> Dt) : Prop := ∀ c ∈ cols, Rep K H 4 (d c) (f c)
theorem RowD.same {K : PySem.W.Frag} {H H' : Hp} {cols : List Str} {f : Str -> V} {d : Str -> Dt} (h : RowD K H cols f d) (s : Same H H') : RowD K H' cols f d := fun c hc => (h c hc).same s
theorem rep_non {K : PySem.W.Frag} {H : Hp} {n : Nat} {d : Dt} (h : Rep K H n d .non) : d = .v .non := by cases h; rfl
theorem RowD.told {K : PySem.W.Frag} {H : Hp} {cols : List Str} {fo fn : Str -> V} {d1 d2 : Str -> Dt} (h1 : RowD K H cols fo d1) (h2 : RowD K H cols fn d2) : ∀ c ∈ cols, (!eqD (d1 c) (d2 c)) = true -> fo c ≠ .non \/ fn c ≠ .non := fun c hc h => by
  by_cases e1 : fo c = .non
  . by_cases e2 : fn c = .non
    . have r1 := h1 c hc
      have r2 := h2 c hc
      rw [e1] at r1
      rw [e2] at r2
      rw [rep_non r1, rep_non r2] at h
      exact absurd h (by decide)
    . exact .inr e2
  . exact .inl e1
def sp_values_of (_ : PySem.W.Frag) : Sp := fun vs H Q _ => ∃ v cols f, vs = [v] /\ RowT H cols f v /\ cols.Nodup /\ cols.length <= 12 /\ ∀ D, H D = none -> Q (.ref D) (upd H D (.dK (kvOf cols f)))
seal PE PT PW PA PS PSs PI PG PIfs PGs PO in
theorem ok_values_of {CT : Addr} {cs : Nat -> Addr} {ob : Nat -> Addr} {f : Addr} {fd : FuncData} (Z : Zs mg) (T : Tx K mg CT cs ob) (F : Fun K "values_of" "values_of" s_values_of f fd) : FnOk P w K mg base CX0 1 f fd ["cells"] (sp_values_of K) := by
  refine F.ok sc_values_of (fun vs H Q E h => ?_) (fun cdv A outer s H vs Q E hr h => ?_)
  . obtain ⟨v, cols, f, rfl, _⟩ := h; rfl
  obtain ⟨v, cols, f, rfl, hT, nd, hl, q⟩ := h
  refine ⟨_, (pss_one (ps_ret (pe_ifExp (pt_cmpR op_isN (pv 0) pe_non (nomark _)) pe_dnewK (pe_callTy (call_dictT hr.hd) rfl (Z.dict) bo_dict (pa_c (pv 0) pa_nil))))), ?_⟩
  refine rd_start (σ := [some v]) rfl ?_
  walk_at "rd"
  rcases hT with ⟨rfl, hn⟩ | ⟨t, ys, rfl, ht, p⟩
  . rw [if_pos (by decide)]
    rw [kvOf_none hn] at q
    exact q
  . rw [if_neg (by simp)]
    have lp := Paired.length p
    have lk := kvOf_len cols f
    refine ⟨t, ys, kvOf cols f, rfl, ht, by omega, p, fun D hD => ?_⟩
    rw [kvOf_merge f nd]
    exact q D hD
def TellAt (H : Hp) (fo fn : Str -> V) (c : Str) (z : V) : Prop := ∃ p, z = .ref p /\ H p = some (.tup [.str c, fo c, fn c])
def sp_Change_cells_told (K : PySem.W.Frag) (ob : Nat -> Addr) : Sp := fun vs H Q _ => ∃ a k o n cols fo fn d1 d2, vs = [.ref a] /\ ChAt ob H a k o n /\ Up cols /\ cols.length <= 12 /\ (∀ c ∈ cols, c.length <= 40) /\ RowT H cols fo o /\ RowT H cols fn n /\ RowD K H cols fo d1 /\ RowD K H cols fn d2 /\
  ∀ r H' zs, Same H H' -> H r = none -> H' r = some (.lst zs) -> Paired (TellAt H' fo fn) (cols.filter fun c => !eqD (d1 c) (d2 c)) zs -> Q (.ref r) H'
seal PE PT PW PA PS PSs PI PG PIfs PGs PO in
theorem ok_Change_cells_told {CT : Addr} {cs : Nat -> Addr} {ob : Nat -> Addr} {f : Addr} {fd : FuncData} (Z : Zs mg) (T : Tx K mg CT cs ob) (G_values_of : Cal P w K mg base 1 "values_of" ["cells"] (sp_values_of K)) (G_in_order : Cal P w K mg base 4 "in_order" ["values"] (sp_in_order K)) (F : Fun K "cells_told" "Change.cells_told" s_Change_cells_told f fd) : FnOk P w K mg base (CX1 P w) 5 f fd ["self"] (sp_Change_cells_told K ob) := by
  refine F.ok1 sc_Change_cells_told (fun vs H Q E h => ?_) (fun cdv A outer s H vs Q E hr h => ?_)
  . obtain ⟨a, k, o, n, cols, fo, fn, d1, d2, rfl, _⟩ := h; rfl
  obtain ⟨a, k, o, n, cols, fo, fn, d1, d2, rfl, hC, up, hl, hs, ro, rn, e1, e2, q⟩ := h
  refine ⟨_, (@pss_cons _ _ _ _ _ (ps_set (i := 1) sc_Change_cells_told.nd rfl (Or.inl rfl) (pe_cal G_values_of (k := 4) hr (by decide) rfl (pa_c (pe_fld (pv 0) rfl) pa_nil)))
      (@pss_cons _ _ _ _ _ (ps_set (i := 2) sc_Change_cells_told.nd rfl (Or.inl rfl) (pe_cal G_values_of (k := 4) hr (by decide) rfl (pa_c (pe_fld (pv 0) rfl) pa_nil)))
      (@pss_cons _ _ _ _ _ (ps_set (i := 3) sc_Change_cells_told.nd rfl (Or.inl rfl) (pe_lst pa_nil))
      (@pss_cons _ _ _ _ _ (ps_for own1 rfl (pi_list (pe_cal G_in_order (k := 4) hr (by decide) rfl (pa_c (pe_op op_cat (pe_callTy (call_listD hr.hd) rfl (Z.list) bo_list (pa_c (pv 1) pa_nil)) (pe_callTy (call_listD hr.hd) rfl (Z.list) bo_list (pa_c (pv 2) pa_nil))) pa_nil))) (pg_name (i := 4) sc_Change_cells_told.nd rfl (Or.inl rfl)) (pss_one (ps_if (pt_cmpR (op_neD (hr.units)) (pe_dget1 hr.u1 (pv 1) (pv 4) ⟨rfl, rfl, rfl, rfl⟩) (pe_dget1 hr.u1 (pv 2) (pv 4) ⟨rfl, rfl, rfl, rfl⟩) (nomark _)) (pss_one (ps_expr (pe_bm PySem.F.plainAttrs_list PySem.F.slot_list_append PySem.F.type_list_append mt_append (pv 3) (pa_c (pe_tup (pa_c (pv 4) (pa_c (pe_dget1 hr.u1 (pv 1) (pv 4) ⟨rfl, rfl, rfl, rfl⟩) (pa_c (pe_dget1 hr.u1 (pv 2) (pv 4) ⟨rfl, rfl, rfl, rfl⟩) pa_nil)))) pa_nil)))) pss_nil)))
      (pss_one (ps_ret (pv 3))))))), ?_⟩
  refine rd_start (σ := [some (.ref a), none, none, none, none]) rfl ?_
  walk_at "rd"
  obtain ⟨dx, ha⟩ := hC
  have c := T.ob_ _ (ciOf_lt o n)
  refine rd_fld c (by decide) rfl ha rfl ⟨o, cols, fo, rfl, ro, up.nodup, hl, fun D1 hD1 => ?_⟩
  have s1 := same_upd hD1 (.dK (kvOf cols fo))
  have g1 : upd H D1 (.dK (kvOf cols fo)) D1 = some (.dK (kvOf cols fo)) := upd_same
  generalize upd H D1 (.dK (kvOf cols fo)) = H1 at s1 g1 ⊢
  refine rd_fld c (by decide) rfl (s1 _ _ ha) rfl ⟨n, cols, fn, rfl, rn.same s1, up.nodup, hl, fun D2 hD2 => ?_⟩
  have s2 := same_upd hD2 (.dK (kvOf cols fn))
  have g2 : upd H1 D2 (.dK (kvOf cols fn)) D2 = some (.dK (kvOf cols fn)) := upd_same
  generalize upd H1 D2 (.dK (kvOf cols fn)) = H2 at s2 g2 ⊢
  refine ⟨by decide, fun r hr0 => ?_⟩
  have s3 := same_upd hr0 (.lst [])
  have g3 : upd H2 r (.lst []) r = some (.lst []) := upd_same
  generalize upd H2 r (.lst []) = H3 at s3 g3 ⊢
  have l1 := kvOf_len cols fo
  have l2 := kvOf_len cols fn
  refine ⟨D1, _, rfl, s3 _ _ (s2 _ _ g1), by omega, fun L1 hL1 => ?_⟩
  have s4 := same_upd hL1 (.lst ((kvOf cols fo).map fun p => kV p.1))
  have g4 : upd H3 L1 (.lst ((kvOf cols fo).map fun p => kV p.1)) L1 = some (.lst ((kvOf cols fo).map fun p => kV p.1)) := upd_same
  generalize upd H3 L1 (.lst ((kvOf cols fo).map fun p => kV p.1)) = H4 at s4 g4 ⊢
  refine ⟨D2, _, rfl, s4 _ _ (s3 _ _ g2), by omega, fun L2 hL2 => ?_⟩
  have s5 := same_upd hL2 (.lst ((kvOf cols fn).map fun p => kV p.1))
  have g5 : upd H4 L2 (.lst ((kvOf cols fn).map fun p => kV p.1)) L2 = some (.lst ((kvOf cols fn).map fun p => kV p.1)) := upd_same
  generalize upd H4 L2 (.lst ((kvOf cols fn).map fun p => kV p.1)) = H5 at s5 g5 ⊢
  refine ⟨L1, rfl, L2, rfl, _, s5 _ _ g4, _, g5, small_le (by simp only [List.length_map]; omega), fun p6 hp6 => ?_⟩
  refine ⟨p6, _, rfl, upd_same, fun v hv => ?_, by simp only [List.length_append, List.length_map]; omega, fun ro6 H6 ys s6 hro6 g6 ly ri => ?_⟩
  . rcases List.mem_append.mp hv with h | h
    . rw [kvOf_vs] at h
      obtain ⟨c, hc, rfl⟩ := List.mem_map.mp h
      exact hs c (List.mem_filter.mp hc).1
    . rw [kvOf_vs] at h
      obtain ⟨c, hc, rfl⟩ := List.mem_map.mp h
      exact hs c (List.mem_filter.mp hc).1
  have s36 : Same H3 H6 := s4.trans (s5.trans ((same_upd hp6 _).trans s6))
  have s26 : Same H2 H6 := s3.trans s36
  have hr6 : H6 r = some (.lst []) := s36 _ _ g3
  have nro : ro6 ≠ r := fun z => by
    rw [z, (s4.trans (s5.trans (same_upd hp6 _))) _ _ g3] at hro6
    cases hro6
  obtain ⟨zs, rfl, zin, zf⟩ := told_cols (p := fun c => !eqD (d1 c) (d2 c)) up hs ri (e1.told e2)
  have lz : zs.length <= 24 := by
    simp only [List.length_map, List.length_append] at ly
    omega
  have s02 : Same H H2 := s1.trans s2
  refine ⟨ro6, rfl, ⟨_, SqL.of g6⟩, foR_list (zs.map V.str) (fun i σ' H' => ∃ (us : List V) (x4 : Option V), σ' = [some (.ref a), some (.ref D1), some (.ref D2), some (.ref r), x4] /\ Same H2 H' /\ H' ro6 = some (.lst (zs.map V.str)) /\ H' r = some (.lst us) /\ Paired (TellAt H' fo fn) ((zs.take i).filter fun c => !eqD (d1 c) (d2 c)) us) ?_ ?_ ?_ ?_⟩
  . exact ⟨[], _, rfl, s26, g6, hr6, by simpa using Paired.nil⟩
  . rintro i σ' H' _ ⟨us, x4, rfl, sm, h1, h2, pa⟩
    exact SqL.of h1
  . rintro i x σ' H' hx ⟨us, x4, rfl, sm, h1, h2, pa⟩
    rw [List.getElem?_map, Option.map_eq_some_iff] at hx
    obtain ⟨z, hz, rfl⟩ := hx
    have hzc := zin z (List.mem_of_getElem? hz)
    have gd1 := sm _ _ (s2 _ _ g1)
    have gd2 := sm _ _ g2
    have hi : i < zs.length := (List.getElem?_eq_some_iff.mp hz).1
    have tk : (zs.take (i + 1)).filter (fun c => !eqD (d1 c) (d2 c)) = (zs.take i).filter (fun c => !eqD (d1 c) (d2 c)) ++ if eqD (d1 z) (d2 z) = true then [] else [z] := by
      rw [List.take_succ, hz, List.filter_append]
      cases hp : eqD (d1 z) (d2 z) <;> simp [hp]
    have lu : us.length <= i := by
      have e := Paired.length pa
      have e2 := List.length_filter_le (fun c => !eqD (d1 c) (d2 c)) (zs.take i)
      rw [List.length_take] at e2
      omega
    walk_at "rd"
    refine ⟨.inl ⟨_, .inl gd1⟩, _, DGet.k (k := .inr z) gd1, .inl ⟨_, .inl gd2⟩, _, DGet.k (k := .inr z) gd2, ?_⟩
    rw [kvOf_getD hzc, kvOf_getD hzc]
    refine ⟨4, d1 z, d2 z, by decide, e1.same (s02.trans sm) z hzc, e2.same (s02.trans sm) z hzc, _, rfl, ?_⟩
    cases hp : eqD (d1 z) (d2 z) with
    | true =>
      rw [if_neg (by decide), tk, hp, if_pos rfl, List.append_nil]
      exact ⟨sm, h1, us, h2, pa⟩
    | false =>
      rw [if_pos (by decide)]
      refine ⟨.inl ⟨rfl, _, SqL.of h2⟩, .inl ⟨_, .inl gd1⟩, _, DGet.k (k := .inr z) gd1, .inl ⟨_, .inl gd2⟩, _, DGet.k (k := .inr z) gd2, ?_⟩
      rw [kvOf_getD hzc, kvOf_getD hzc, tk, hp, if_neg Bool.false_ne_true]
      refine ⟨show 3 <= sizeLine by decide, fun p hp0 => ⟨us, same_upd hp0 _ _ _ h2, small1000 (by omega), ?_⟩⟩
      have sA := same_upd hp0 (.tup [.str z, fo z, fn z])
      have gA : upd H' p (.tup [.str z, fo z, fn z]) p = some (.tup [.str z, fo z, fn z]) := upd_same
      generalize upd H' p (.tup [.str z, fo z, fn z]) = HA at sA gA ⊢
      have st := sameT_lst (zs := us ++ [.ref p]) (sA _ _ h2)
      refine ⟨same_updN (sm.trans sA) hr0, by rw [upd_ne nro]; exact sA _ _ h1, us ++ [.ref p], upd_same, paired_app (Paired.mapP pa fun c y ⟨q', e, h⟩ => ⟨q', e, (sA.t.trans st) _ _ h⟩) (.cons ⟨p, rfl, st _ _ gA⟩ .nil)⟩
  . rintro σ' H' ⟨us, x4, rfl, sm, h1, h2, pa⟩
    rw [List.length_map, List.take_length, zf] at pa
    walk_at "rd"
    exact q r H' us (s02.trans sm) (by
      cases e : H r with
      | none => rfl
      | some o => rw [s02 _ _ e] at hr0; cases hr0) h2 pa
def sp__law_value (_ : PySem.W.Frag) : Sp := fun vs H Q _ => ∃ c : Int, vs = [.int c] /\ ∀ v H', Same H H' -> Fz H' 2 v -> Q v H'
seal PE PT PW PA PS PSs PI PG PIfs PGs PO in
theorem ok__law_value {CT : Addr} {cs : Nat -> Addr} {ob : Nat -> Addr} {f : Addr} {fd : FuncData} (Z : Zs mg) (T : Tx K mg CT cs ob) (F : Fun K "_law_value" "_law_value" s__law_value f fd) : FnOk P w K mg base CX0 1 f fd ["_law_cell_here"] (sp__law_value K) := by
  refine F.ok sc__law_value (fun vs H Q E h => ?_) (fun cdv A outer s H vs Q E hr h => ?_)
  . obtain ⟨c, rfl, _⟩ := h; rfl
  obtain ⟨c, rfl, q⟩ := h
  refine ⟨_, (@pss_cons _ _ _ _ _ (ps_set (i := 1) sc__law_value.nd rfl (Or.inl rfl) (pe_op op_mod (pv 0) pe_int))
      (@pss_cons _ _ _ _ _ (ps_if (pt_cmpR op_eq (pv 1) pe_int (nomark _)) (pss_one (ps_ret pe_non)) pss_nil)
      (@pss_cons _ _ _ _ _ (ps_if (pt_cmpR op_eq (pv 1) pe_int (nomark _)) (pss_one (ps_ret (pe_op op_sub (pe_op op_mod (pe_op op_fdiv (pv 0) pe_int) (pe_op op_sub (pe_op op_mulB pe_int (pe_op op_pow pe_int pe_int)) pe_int)) (pe_op op_sub (pe_op op_pow pe_int pe_int) pe_int)))) pss_nil)
      (@pss_cons _ _ _ _ _ (ps_if (pt_cmpR op_eq (pv 1) pe_int (nomark _)) (pss_one (ps_ret (pe_op op_repN pe_str (pe_op op_mod (pe_op op_fdiv (pv 0) pe_int) pe_int)))) pss_nil)
      (pss_one (ps_ret (pe_tup (pa_c (pe_op op_mod (pe_op op_fdiv (pv 0) pe_int) pe_int) (pa_c (pe_tup (pa_c pe_non (pa_c (pe_op op_mod (pe_op op_fdiv (pv 0) pe_int) pe_int) (pa_c pe_str pa_nil)))) pa_nil))))))))), ?_⟩
  refine rd_start (σ := [some (.int c), none]) rfl ?_
  walk_at "rd"
  refine ite2 (fun _ => ?_) fun _ => ?_
  . exact q _ _ (Same.refl _) (.v rfl)
  refine ite2 (fun _ => ?_) fun _ => ?_
  . walk_at "go"
    exact q _ _ (Same.refl _) (.v rfl)
  refine ite2 (fun _ => ?_) fun _ => ?_
  . exact ⟨by walk_at "side", _, _, rfl, rfl, by omega, by omega, by decide, fun r _ => q _ _ (Same.refl _) (.v rfl)⟩
  . refine ⟨by walk_at "side", by walk_at "side", show 3 <= sizeLine by decide, fun p hp => ⟨two_ok, fun p1 hp1 => ?_⟩⟩
    refine q _ _ ((same_upd hp _).trans (same_upd hp1 _)) (Fz.pair upd_same (.v rfl) (Fz.t (same_upd hp1 _ _ _ upd_same) fun x hx => ?_))
    simp only [List.mem_cons, List.not_mem_nil, or_false] at hx
    rcases hx with rfl | rfl | rfl <;> exact .v rfl
theorem mrep (n : Nat) : (List.replicate n (Str.ofString "m").cps.toList).flatten = List.replicate n 109 := by
  have e : (Str.ofString "m").cps.toList = [109] := by decide
  rw [e]
  induction n with
  | zero => rfl
  | succ n ih => rw [List.replicate_succ, List.flatten_cons, ih]; rfl
theorem slen (r : Str) : r.length = r.cps.toList.length := by unfold Str.length; simp
theorem sapp (a b : Str) : (a ++ b).cps.toList = a.cps.toList ++ b.cps.toList := by simp [Str.cps_append]
def letters : List Nat := (Str.ofString "abcdefghijklmnopqrstuvwxyz").cps.toList
theorem letters_up : letters.Pairwise (· < ·) := by decide
theorem letters_len : letters.length = 26 := by decide
theorem colL_len {L : List Nat} {kind at_ many x k : Nat} (h : at_ < many) (hm : many <= 12) (hk : k < 12) : (colL L kind at_ many x k).length <= 40 := by
  unfold colL
  split
  . simp; omega
  . simp; omega
  . simp; omega
def sp__law_columns (_ : PySem.W.Frag) : Sp := fun vs H Q _ => ∃ c : Int, vs = [.int c] /\ ∀ r H' cols, Same H H' -> H r = none -> H' r = some (.lst (cols.map V.str)) -> Up cols -> cols.length = 12 -> (∀ x ∈ cols, x.length <= 40) -> Q (.ref r) H'
seal PE PT PW PA PS PSs PI PG PIfs PGs PO in
theorem ok__law_columns {CT : Addr} {cs : Nat -> Addr} {ob : Nat -> Addr} {f : Addr} {fd : FuncData} (Z : Zs mg) (T : Tx K mg CT cs ob) (F : Fun K "_law_columns" "_law_columns" s__law_columns f fd) : FnOk P w K mg base CX0 1 f fd ["_law_cell_here"] (sp__law_columns K) := by
  refine F.ok sc__law_columns (fun vs H Q E h => ?_) (fun cdv A outer s H vs Q E hr h => ?_)
  . obtain ⟨c, rfl, _⟩ := h; rfl
  obtain ⟨c, rfl, q⟩ := h
  refine ⟨_, (@pss_cons _ _ _ _ _ (ps_set (i := 1) sc__law_columns.nd rfl (Or.inl rfl) (pe_op op_add pe_int (pe_op op_mod (pv 0) pe_int)))
      (@pss_cons _ _ _ _ _ (ps_set (i := 2) sc__law_columns.nd rfl (Or.inl rfl) (pe_op op_mod (pe_op op_fdiv (pv 0) pe_int) (pv 1)))
      (@pss_cons _ _ _ _ _ (ps_set (i := 3) sc__law_columns.nd rfl (Or.inl rfl) (pe_lst pa_nil))
      (@pss_cons _ _ _ _ _ (ps_for PassesOwn.never rfl (pi_range1 rfl (Z.range) (pa_c pe_int pa_nil)) (pg_name (i := 4) sc__law_columns.nd rfl (Or.inl rfl)) (@pss_cons _ _ _ _ _ (ps_set (i := 5) sc__law_columns.nd rfl (Or.inl rfl) (pe_ix ix_str pe_str (pe_op op_mod (pe_op op_add (pe_op op_mod (pe_op op_fdiv (pv 0) pe_int) pe_int) (pe_op op_mulB pe_int (pv 4))) pe_int) (fun _ _ => rfl)))
      (pss_one (ps_if (pt_cmpR op_eq (pe_op op_mod (pe_op op_fdiv (pv 0) pe_int) pe_int) pe_int (nomark _)) (pss_one (ps_expr (pe_bm PySem.F.plainAttrs_list PySem.F.slot_list_append PySem.F.type_list_append mt_append (pv 3) (pa_c (pe_op op_add_str (pe_op op_add_str (pe_op op_repN pe_str (pv 2)) (pv 5)) (pe_op op_repN pe_str (pe_op op_sub (pe_op op_sub (pv 1) (pv 2)) pe_int))) pa_nil)))) (pss_one (ps_if (pt_cmpR op_eq (pe_op op_mod (pe_op op_fdiv (pv 0) pe_int) pe_int) pe_int (nomark _)) (pss_one (ps_expr (pe_bm PySem.F.plainAttrs_list PySem.F.slot_list_append PySem.F.type_list_append mt_append (pv 3) (pa_c (pe_op op_repN pe_str (pe_op op_add pe_int (pv 4))) pa_nil)))) (pss_one (ps_expr (pe_bm PySem.F.plainAttrs_list PySem.F.slot_list_append PySem.F.type_list_append mt_append (pv 3) (pa_c (pe_op op_add_str (pv 5) (pe_op op_repN pe_str (pe_op op_mod (pe_op op_mulB (pv 4) (pv 4)) pe_int))) pa_nil))))))))))
      (pss_one (ps_ret (pv 3))))))), ?_⟩
  refine rd_start (σ := [some (.int c), none, none, none, none, none]) rfl ?_
  walk_at "rd"
  refine ⟨by walk_at "side", by omega, by decide, fun p hp => ⟨by decide, by decide, ?_⟩⟩
  obtain ⟨many, hm⟩ : ∃ m : Nat, 1 + c % 12 = (m : Int) := ⟨(1 + c % 12).toNat, by omega⟩
  rw [hm]
  have m1 : 1 <= many /\ many <= 12 := by omega
  have a0 := Int.emod_nonneg (c / 12) (show (many : Int) ≠ 0 by omega)
  have a1 := Int.emod_lt_of_pos (c / 12) (show (0 : Int) < many by omega)
  obtain ⟨at_, hat⟩ : ∃ m : Nat, c / 12 % (many : Int) = (m : Int) := ⟨(c / 12 % (many : Int)).toNat, by omega⟩
  rw [hat] at a0 a1 ⊢
  obtain ⟨kd, hkd⟩ : ∃ m : Nat, c / 432 % 3 = (m : Int) := ⟨(c / 432 % 3).toNat, by omega⟩
  obtain ⟨x, hx⟩ : ∃ m : Nat, c / 144 % 3 = (m : Int) := ⟨(c / 144 % 3).toNat, by omega⟩
  refine foR_range (fun i σ' H' => ∃ (zs : List Str) (x4 x5 : Option V), σ' = [some (.int c), some (.int many), some (.int at_), some (.ref p), x4, x5] /\ Same H H' /\ H' p = some (.lst (zs.map V.str)) /\ zs.length = i /\ ∀ j z, zs[j]? = some z -> z.cps.toList = colL letters kd at_ many x j) ⟨[], _, _, rfl, same_upd hp _, upd_same, rfl, fun j z h => by simp at h⟩ ?_ ?_
  . rintro i σ' H' hi ⟨zs, x4, x5, rfl, sm, g, lz, pz⟩
    have fin : ∀ (r : Str), r.cps.toList = colL letters kd at_ many x i -> Same H (upd H' p (.lst (zs.map V.str ++ [.str r]))) /\ ∃ zs' : List Str, upd H' p (.lst (zs.map V.str ++ [.str r])) p = some (.lst (zs'.map V.str)) /\ zs'.length = i + 1 /\ ∀ j z, zs'[j]? = some z -> z.cps.toList = colL letters kd at_ many x j := by
      intro r hr1
      refine ⟨same_updN sm hp, zs ++ [r], by rw [upd_same, List.map_append]; rfl, by rw [List.length_append, lz]; rfl, fun j z h => ?_⟩
      rcases Nat.lt_or_ge j i with hj | hj
      . rw [List.getElem?_append_left (by omega)] at h; exact pz j z h
      . rw [List.getElem?_append_right (by omega)] at h
        have : j - zs.length = 0 := by
          rcases Nat.eq_zero_or_pos (j - zs.length) with e | e
          . exact e
          . rw [List.getElem?_eq_none (by simp; omega)] at h; cases h
        rw [this] at h
        have ej : j = i := by omega
        simp at h
        rw [ej, <- h]; exact hr1
    walk_at "rd"
    rw [hkd, hx]
    have hix : ((x : Int) + 2 * (0 + (i : Int))) % 26 = ((x + 2 * i : Nat) : Int) := by omega
    have hlt : x + 2 * i < letters.length := by rw [letters_len]; omega
    have hgl : letters[x + 2 * i]? = some (letters.getD (x + 2 * i) 0) := by rw [List.getD_eq_getElem?_getD, List.getElem?_eq_getElem hlt]; rfl
    refine ⟨by walk_at "side", by walk_at "side", by decide, letters.getD (x + 2 * i) 0, by rw [hix]; exact atI_nat hgl, by walk_at "side", ite2 (fun hk => ?_) fun hk => ?_⟩
    . have ek : kd = 0 := by omega
      refine ⟨.inl ⟨rfl, _, SqL.of g⟩, _, _, rfl, rfl, by omega, by omega, by decide, fun r h1 => ?_⟩
      rw [mrep] at h1
      have e1 := slen r
      rw [h1, List.length_replicate] at e1
      refine ⟨r, rfl, small_le (by rw [e1]; show at_ + 1 <= 1000; omega), _, _, rfl, rfl, by omega, by omega, by decide, fun r2 h2 => ?_⟩
      rw [mrep] at h2
      have e2 := slen r2
      rw [h2, List.length_replicate] at e2
      have e3 := slen (r ++ ⟨#[letters.getD (x + 2 * i) 0]⟩)
      rw [sapp, h1, List.length_append, List.length_replicate] at e3
      have e4 : ([letters.getD (x + 2 * i) 0] : List Nat).length = 1 := rfl
      refine ⟨r2, rfl, small_le (by rw [e3, e2]; show at_ + 1 + _ <= 1000; omega), _, g, small1000 (by rw [List.length_map]; omega), ?_⟩
      obtain ⟨f1, zs', f2, f3, f4⟩ := fin (r ++ ⟨#[letters.getD (x + 2 * i) 0]⟩ ++ r2) (by
        rw [sapp, sapp, h1, h2, ek]
        unfold colL
        have : ((many : Int) - (at_ : Int) - 1).toNat = many - at_ - 1 := by omega
        rw [this, Int.toNat_natCast]
        simp)
      exact ⟨zs', _, _, ⟨rfl, rfl⟩, f1, f2, f3, f4⟩
    refine ⟨by walk_at "side", ite2 (fun hk1 => ?_) fun hk1 => ?_⟩
    . have ek : kd = 1 := by omega
      refine ⟨.inl ⟨rfl, _, SqL.of g⟩, _, _, rfl, rfl, by omega, by omega, by decide, fun r h1 => ?_⟩
      rw [mrep] at h1
      refine ⟨_, g, small1000 (by rw [List.length_map]; omega), ?_⟩
      obtain ⟨f1, zs', f2, f3, f4⟩ := fin r (by
        rw [h1, ek]
        unfold colL
        have : ((1 : Int) + (0 + (i : Int))).toNat = 1 + i := by omega
        rw [this]
        rfl)
      exact ⟨zs', _, _, ⟨rfl, rfl⟩, f1, f2, f3, f4⟩
    . have ek : kd = 2 := by omega
      have hii : ((0 : Int) + (i : Int)) * (0 + (i : Int)) % 5 = ((i * i % 5 : Nat) : Int) := by simp
      rw [hii]
      refine ⟨.inl ⟨rfl, _, SqL.of g⟩, by walk_at "side", _, _, rfl, rfl, by omega, by omega, by decide, fun r h1 => ?_⟩
      rw [mrep] at h1
      have e1 := slen r
      rw [h1, List.length_replicate] at e1
      refine ⟨r, rfl, small_le (by rw [e1]; show 1 + _ <= 1000; omega), _, g, small1000 (by rw [List.length_map]; omega), ?_⟩
      obtain ⟨f1, zs', f2, f3, f4⟩ := fin (⟨#[letters.getD (x + 2 * i) 0]⟩ ++ r) (by
        rw [sapp, h1, ek, Int.toNat_natCast]
        unfold colL
        simp)
      exact ⟨zs', _, _, ⟨rfl, rfl⟩, f1, f2, f3, f4⟩
  . rintro σ' H' ⟨zs, x4, x5, rfl, sm, g, lz, pz⟩
    walk_at "rd"
    refine q p H' zs sm hp g ?_ lz fun z hz => ?_
    . refine List.pairwise_iff_getElem.mpr fun j k hj hk hjk => ?_
      rw [lt_ss, decide_eq_true_eq, pz j _ (List.getElem?_eq_getElem hj), pz k _ (List.getElem?_eq_getElem hk)]
      exact colL_lt letters_up letters_len (by omega) hjk (by omega)
    . obtain ⟨j, hj, rfl⟩ := List.mem_iff_getElem.mp hz
      have e := pz j _ (List.getElem?_eq_getElem hj)
      have := colL_len (L := letters) (kind := kd) (x := x) (k := j) (show at_ < many by omega) m1.2 (by omega)
      rw [<- e, <- slen] at this
      exact this
structure DTwo (H0 : Hp) (p1 p2 : Addr) (H : Hp) (cs ds : List Str) (fo fn : Str -> V) : Prop where
  same : Same H0 H
  at1 : H p1 = some (.dK (kvOf cs fo))
  at2 : H p2 = some (.dK (kvOf ds fn))
  f1 : ∀ c ∈ cs, Fz H 2 (fo c)
  f2 : ∀ c ∈ ds, Fz H 2 (fn c)
  n1 : H0 p1 = none
  n2 : H0 p2 = none
  ne : p1 ≠ p2
section
variable {H0 H H' : Hp} {p1 p2 q : Addr} {cs ds : List Str} {fo fn : Str -> V} {c : Str} {v : V}
theorem DTwo.symm (t : DTwo H0 p1 p2 H cs ds fo fn) : DTwo H0 p2 p1 H ds cs fn fo := ⟨t.same, t.at2, t.at1, t.f2, t.f1, t.n2, t.n1, Ne.symm t.ne⟩
theorem DTwo.go (t : DTwo H0 p1 p2 H cs ds fo fn) (s : Same H H') : DTwo H0 p1 p2 H' cs ds fo fn :=
  ⟨t.same.trans s, s _ _ t.at1, s _ _ t.at2, fun x hx => (t.f1 x hx).same s, fun x hx => (t.f2 x hx).same s, t.n1, t.n2, t.ne⟩
theorem sameT_dk {d : Addr} {kvs : List (Key × V)} {o : HO} (h : H d = some (.dK kvs)) : SameT H (upd H d o) := fun b xs hb => by
  by_cases e : b = d
  . subst e; rw [h] at hb; cases hb
  . rw [upd_ne e]; exact hb
theorem fz_set (hn : c ∉ cs) (f : ∀ x ∈ cs, Fz H 2 (fo x)) (hv : Fz H 2 v) : ∀ x ∈ cs ++ [c], Fz H 2 (setF fo c v x) := fun x hx => by
  by_cases e : x = c
  . rw [e, setF_at]; exact hv
  . rw [setF_ne e]
    rcases List.mem_append.mp hx with h | h
    . exact f x h
    . exact absurd (List.mem_singleton.mp h) e
theorem DTwo.put (t : DTwo H0 p1 p2 H cs ds fo fn) (hn : c ∉ cs) (hv : v ≠ .non) (f : Fz H 2 v) : DTwo H0 p1 p2 (upd H p1 (.dK (putK (kvOf cs fo) (.inr c) v))) (cs ++ [c]) ds (setF fo c v) fn := by
  have st := sameT_dk (o := .dK (putK (kvOf cs fo) (.inr c) v)) t.at1
  refine ⟨same_updN t.same t.n1, by rw [upd_same, kvOf_put hn hv], by rw [upd_ne (Ne.symm t.ne)]; exact t.at2, fz_set hn (fun x hx => (t.f1 x hx).sameT st) (f.sameT st), fun x hx => (t.f2 x hx).sameT st, t.n1, t.n2, t.ne⟩
theorem DTwo.skip (t : DTwo H0 p1 p2 H cs ds fo fn) (hn : c ∉ cs) : DTwo H0 p1 p2 H (cs ++ [c]) ds (setF fo c .non) fn :=
  ⟨t.same, by rw [<- kvOf_skip hn]; exact t.at1, t.at2, fz_set hn t.f1 (.v rfl), t.f2, t.n1, t.n2, t.ne⟩
end
def sp__law_two_rows (K : PySem.W.Frag) : Sp := fun vs H Q _ => ∃ (a : Addr) (ns : List Int), vs = [.ref a] /\ SqL K H a (ns.map V.int) /\ ns.length <= 63 /\ ∀ r p o n cols fo fn H', Same H H' -> H' r = some (.tup [.ref p, .ref o, .ref n]) -> H' p = some (.lst (cols.map V.str)) -> Up cols -> cols.length = 12 -> (∀ x ∈ cols, x.length <= 40) -> H' o = some (.dK (kvOf cols fo)) -> H' n = some (.dK (kvOf cols fn)) -> (∀ c ∈ cols, Fz H' 2 (fo c)) -> (∀ c ∈ cols, Fz H' 2 (fn c)) -> Q (.ref r) H'
seal PE PT PW PA PS PSs PI PG PIfs PGs PO in
theorem ok__law_two_rows {CT : Addr} {cs : Nat -> Addr} {ob : Nat -> Addr} {f : Addr} {fd : FuncData} (Z : Zs mg) (T : Tx K mg CT cs ob) (G__law_columns : Cal P w K mg base 1 "_law_columns" ["_law_cell_here"] (sp__law_columns K)) (G__law_cell : Cal P w K mg base 1 "_law_cell" ["_law_script", "_law_k"] (sp__law_cell K)) (G__law_value : Cal P w K mg base 1 "_law_value" ["_law_cell_here"] (sp__law_value K)) (F : Fun K "_law_two_rows" "_law_two_rows" s__law_two_rows f fd) : FnOk P w K mg base CX0 2 f fd ["_law_script"] (sp__law_two_rows K) := by
  refine F.ok sc__law_two_rows (fun vs H Q E h => ?_) (fun cdv A outer s H vs Q E hr h => ?_)
  . obtain ⟨a, ns, rfl, _⟩ := h; rfl
  obtain ⟨a, ns, rfl, hS, h63, q⟩ := h
  refine ⟨_, (@pss_cons _ _ _ _ _ (ps_set (i := 1) sc__law_two_rows.nd rfl (Or.inl rfl) (pe_cal G__law_columns (k := 1) hr (by decide) rfl (pa_c (pe_cal G__law_cell (k := 1) hr (by decide) rfl (pa_c (pv 0) (pa_c pe_int pa_nil))) pa_nil)))
      (@pss_cons _ _ _ _ _ (ps_set (i := 2) sc__law_two_rows.nd rfl (Or.inl rfl) pe_dnewK)
      (@pss_cons _ _ _ _ _ (ps_set (i := 3) sc__law_two_rows.nd rfl (Or.inl rfl) pe_dnewK)
      (@pss_cons _ _ _ _ _ (ps_for PassesOwn.never rfl (pi_range1 rfl (Z.range) (pa_c pe_int pa_nil)) (pg_name (i := 4) sc__law_two_rows.nd rfl (Or.inl rfl)) (@pss_cons _ _ _ _ _ (ps_set (i := 5) sc__law_two_rows.nd rfl (Or.inl rfl) (pe_cal G__law_cell (k := 1) hr (by decide) rfl (pa_c (pv 0) (pa_c (pe_op op_add pe_int (pv 4)) pa_nil))))
      (@pss_cons _ _ _ _ _ (ps_set (i := 6) sc__law_two_rows.nd rfl (Or.inl rfl) (pe_cal G__law_value (k := 1) hr (by decide) rfl (pa_c (pe_op op_fdiv (pv 5) pe_int) pa_nil)))
      (@pss_cons _ _ _ _ _ (ps_set (i := 7) sc__law_two_rows.nd rfl (Or.inl rfl) (pe_cal G__law_value (k := 1) hr (by decide) rfl (pa_c (pe_op op_add (pe_op op_fdiv (pe_op op_fdiv (pv 5) pe_int) pe_int) (pv 4)) pa_nil)))
      (@pss_cons _ _ _ _ _ (ps_if (pt_cmpR op_eq (pe_op op_mod (pv 5) pe_int) pe_int (nomark _)) (pss_one (ps_set (i := 7) sc__law_two_rows.nd rfl (Or.inl rfl) (pv 6))) pss_nil)
      (@pss_cons _ _ _ _ _ (ps_if (pt_cmpR op_notN (pv 6) pe_non (nomark _)) (pss_one (ps_dput hr.u1 (pv 2) (pe_ix ix_list (pv 1) (pv 4) (fun _ _ => rfl)) (pv 6) rfl)) pss_nil)
      (pss_one (ps_if (pt_cmpR op_notN (pv 7) pe_non (nomark _)) (pss_one (ps_dput hr.u1 (pv 3) (pe_ix ix_list (pv 1) (pv 4) (fun _ _ => rfl)) (pv 7) rfl)) pss_nil))))))))
      (pss_one (ps_ret (pe_tup (pa_c (pv 1) (pa_c (pv 2) (pa_c (pv 3) pa_nil)))))))))), ?_⟩
  refine rd_start (σ := [some (.ref a), none, none, none, none, none, none, none]) rfl ?_
  walk_at "rd"
  refine ⟨a, ns, 1, rfl, hS, h63, fun c0 => ⟨c0, rfl, fun p H1 cols s1 hp1 g1 up lc sh p1 hd1 p2 hd2 => ?_⟩⟩
  have ne : p1 ≠ p2 := fun z => by rw [<- z, upd_same] at hd2; cases hd2
  have n2 : H1 p2 = none := by rw [upd_ne (Ne.symm ne)] at hd2; exact hd2
  have t0 : DTwo H1 p1 p2 (upd (upd H1 p1 (.dK [])) p2 (.dK [])) [] [] (fun _ => .non) (fun _ => .non) := ⟨same_updN (same_upd hd1 _) n2, by rw [upd_ne ne]; exact upd_same, upd_same, (fun x h => nomatch h), (fun x h => nomatch h), hd1, n2, ne⟩
  refine ⟨by decide, by decide, ?_⟩
  refine foR_range (fun i σ' H' => ∃ (fo fn : Str -> V) (x4 x5 x6 x7 : Option V), σ' = [some (.ref a), some (.ref p), some (.ref p1), some (.ref p2), x4, x5, x6, x7] /\ DTwo H1 p1 p2 H' (cols.take i) (cols.take i) fo fn) ⟨_, _, _, _, _, _, rfl, t0⟩ ?_ ?_
  . rintro i σ' H' hi ⟨fo, fn, x4, x5, x6, x7, rfl, t⟩
    refine rd_gen4 (fun R hR => ?_)
    obtain ⟨cv, hcv⟩ : ∃ cv, cols[i]? = some cv := ⟨_, List.getElem?_eq_getElem (by omega)⟩
    have hcv0 : atI (cols.map V.str) (0 + (i : Int)) = some (.str cv) := by rw [Int.zero_add]; exact atI_nat (by rw [List.getElem?_map, hcv]; rfl)
    have nin : cv ∉ cols.take i := fun h => by
      obtain ⟨j, hj, ej⟩ := List.mem_iff_getElem.mp h
      rw [List.getElem_take] at ej
      rw [List.length_take] at hj
      have hi' : i < cols.length := by omega
      have e2 : cols[i] = cv := by rw [List.getElem?_eq_getElem hi'] at hcv; exact Option.some.inj hcv
      exact (List.pairwise_iff_getElem.mp up.nodup j i (by omega) hi' (by omega)) (ej.trans e2.symm)
    have etk : cols.take (i + 1) = cols.take i ++ [cv] := by rw [List.take_succ, hcv]; rfl
    have fin : ∀ H2 (c was now : V), Same H' H2 -> Fz H2 2 was -> Fz H2 2 now -> R [some (.ref a), some (.ref p), some (.ref p1), some (.ref p2), some (.int (0 + (i : Int))), some c, some was, some now] H2 := by
      intro H2 c was now s2 fw fnw
      refine hR _ _ (rd_gen1 fun R2 hR2 => ?_)
      have t2 := t.go s2
      have fin2 : ∀ H3 fo', DTwo H1 p1 p2 H3 (cols.take (i + 1)) (cols.take i) fo' fn -> Fz H3 2 now -> R2 [some (.ref a), some (.ref p), some (.ref p1), some (.ref p2), some (.int (0 + (i : Int))), some c, some was, some now] H3 := by
        intro H3 fo' t3 fn3
        refine hR2 _ _ ?_
        walk_at "rd"
        have lk := kvOf_len (cols.take i) fn
        rw [List.length_take] at lk
        rw [etk] at t3 ⊢
        refine ite2 (fun hn => ?_) fun hn => ?_
        . have hv : now ≠ .non := by simpa using hn
          exact ⟨_, SqL.of (t3.same _ _ g1), _, hcv0, _, DPut.k (k := .inr cv) t3.at2 (small1000 (by omega)), _, _, _, _, _, _, ⟨rfl, rfl, rfl, rfl⟩, (t3.symm.put nin hv fn3).symm⟩
        . exact ⟨_, _, _, _, _, _, ⟨rfl, rfl, rfl, rfl⟩, (t3.symm.skip nin).symm⟩
      have lk := kvOf_len (cols.take i) fo
      rw [List.length_take] at lk
      walk_at "rd"
      refine ite2 (fun hn => ?_) fun hn => ?_
      . have hv : was ≠ .non := by simpa using hn
        have t4 := t2.put nin hv fw
        rw [<- etk] at t4
        exact ⟨_, SqL.of (t2.same _ _ g1), _, hcv0, _, DPut.k (k := .inr cv) t2.at1 (small1000 (by omega)), fin2 _ _ t4 (fnw.sameT (sameT_dk t2.at1))⟩
      . have t4 := t2.skip nin
        rw [<- etk] at t4
        exact fin2 _ _ t4 fnw
    walk_at "rd"
    refine ⟨a, ns, 2 + i, by rw [Int.zero_add]; rfl, (s1.trans t.same).seq hS, h63, fun c => ?_⟩
    refine ⟨c, rfl, by walk_at "side", _, rfl, fun was H2 s2 fw => ?_⟩
    refine ⟨c, rfl, by walk_at "side", by walk_at "side", _, rfl, fun now H3 s3 fnw => ?_⟩
    refine ⟨c, rfl, ite2 (fun _ => ?_) fun _ => ?_⟩
    . exact fin _ _ _ _ (s2.trans s3) (fw.same s3) (fw.same s3)
    . exact fin _ _ _ _ (s2.trans s3) (fw.same s3) fnw
  . rintro σ' H' ⟨fo, fn, x4, x5, x6, x7, rfl, t⟩
    rw [List.take_of_length_le (by omega)] at t
    walk_at "rd"
    refine ⟨show 3 <= sizeLine by decide, fun r hr0 => ?_⟩
    have sr := same_upd hr0 (.tup [.ref p, .ref p1, .ref p2])
    have tr := t.go sr
    exact q r p p1 p2 cols fo fn _ (s1.trans tr.same) upd_same (tr.same _ _ g1) up lc sh tr.at1 tr.at2 tr.f1 tr.f2
theorem filt_at {α : Type} {p : α -> Bool} {l : List α} {i : Nat} {x : α} (h : l[i]? = some x) (hp : p x = true) : (l.filter p)[((l.take i).filter p).length]? = some x := by
  obtain ⟨hi, e⟩ := List.getElem?_eq_some_iff.mp h
  have e2 : l.filter p = (l.take i).filter p ++ (l.drop i).filter p := by rw [<- List.filter_append, List.take_append_drop]
  rw [e2, List.getElem?_append_right (Nat.le_refl _), Nat.sub_self, List.drop_eq_getElem_cons hi, e, List.filter_cons, if_pos hp]
  rfl
theorem paired_at {α β : Type} {F : α -> β -> Prop} : ∀ {xs : List α} {ys : List β} {i : Nat} {x : α}, Paired F xs ys -> xs[i]? = some x -> ∃ y, ys[i]? = some y /\ F x y
  | _, _, 0, _, .cons r _, h => by simp at h; subst h; exact ⟨_, rfl, r⟩
  | _, _, i + 1, _, .cons _ t, h => by
    obtain ⟨y, h1, h2⟩ := paired_at t (by simpa using h)
    exact ⟨y, by simpa using h1, h2⟩
def sp__law_told (K : PySem.W.Frag) (ob : Nat -> Addr) : Sp := fun vs H Q _ => ∃ a p u v k o n cols fo fn d1 d2, vs = [.ref a, .ref p, .ref u, .ref v] /\ ChAt ob H a k o n /\ H p = some (.lst (cols.map V.str)) /\ H u = some (.dK (kvOf cols fo)) /\ H v = some (.dK (kvOf cols fn)) /\ Up cols /\ cols.length <= 12 /\ (∀ c ∈ cols, c.length <= 40) /\ RowT H cols fo o /\ RowT H cols fn n /\ RowD K H cols fo d1 /\ RowD K H cols fn d2 /\ ∀ H', Same H H' -> Q (.bl true) H'
seal PE PT PW PA PS PSs PI PG PIfs PGs PO in
theorem ok__law_told {CT : Addr} {cs : Nat -> Addr} {ob : Nat -> Addr} {f : Addr} {fd : FuncData} (Z : Zs mg) (T : Tx K mg CT cs ob) (M_Change_cells_told : MeV P w K mg base 5 (ob 0) "cells_told" (sp_Change_cells_told K ob)) (M_PutIn_cells_told : MeV P w K mg base 5 (ob 1) "cells_told" (sp_Change_cells_told K ob)) (M_TakenOut_cells_told : MeV P w K mg base 5 (ob 2) "cells_told" (sp_Change_cells_told K ob)) (M_Turned_cells_told : MeV P w K mg base 5 (ob 3) "cells_told" (sp_Change_cells_told K ob)) (F : Fun K "_law_told" "_law_told" s__law_told f fd) : FnOk P w K mg base CX0 6 f fd ["_law_change", "_law_columns_here", "_law_old", "_law_new"] (sp__law_told K ob) := by
  refine F.ok sc__law_told (fun vs H Q E h => ?_) (fun cdv A outer s H vs Q E hr h => ?_)
  . obtain ⟨a, p, u, v, k, o, n, cols, fo, fn, d1, d2, rfl, _⟩ := h; rfl
  obtain ⟨a, p, u, v, k, o, n, cols, fo, fn, d1, d2, rfl, hC, hp, hu, hv, up, hl, hs, ro, rn, e1, e2, q⟩ := h
  refine ⟨_, (@pss_cons _ _ _ _ _ (ps_set (i := 4) sc__law_told.nd rfl (Or.inl rfl) (PE1.pe (pe1_methV0 (k := 5) (pv 0) hr rfl) throwsN))
      (@pss_cons _ _ _ _ _ (ps_if (PW.pt (pw_or (pt_not (pt_val (pe_callB call_isinst rfl (Z.isinstance) bo_isinstance (pa_c (pv 0) (pa_c (pe_gfn T.mg_Change rfl) pa_nil))) (fun _ => rfl))) (pw_or1 (pt_not (pt_val (pe_callB call_isinst rfl (Z.isinstance) bo_isinstance (pa_c (pv 4) (pa_c (pe_bltn rfl (Z.list) bo_list (v := .ty "list") rfl) pa_nil))) (fun _ => rfl)))))) (pss_one (ps_ret pe_bl)) pss_nil)
      (@pss_cons _ _ _ _ _ (ps_set (i := 5) sc__law_told.nd rfl (Or.inl rfl) pe_int)
      (@pss_cons _ _ _ _ _ (ps_for PassesOwn.never rfl (pi_list (pv 1)) (pg_name (i := 6) sc__law_told.nd rfl (Or.inl rfl)) (pss_one (ps_if (pt_cmpR (op_neD (hr.units)) (pe_dget1 hr.u1 (pv 2) (pv 6) ⟨rfl, rfl, rfl, rfl⟩) (pe_dget1 hr.u1 (pv 3) (pv 6) ⟨rfl, rfl, rfl, rfl⟩) (nomark _)) (@pss_cons _ _ _ _ _ (ps_if (PW.pt (pw_or (pt_cmpR op_ge (pv 5) (pe_callB call_len_seq rfl (Z.len) bo_len (pa_c (pv 4) pa_nil)) (nomark _)) (pw_or1 (pt_not (pt_val (pe_callB call_isinst rfl (Z.isinstance) bo_isinstance (pa_c (pe_ix ix_list (pv 4) (pv 5) (fun _ _ => rfl)) (pa_c (pe_bltn rfl (Z.tuple) bo_tuple (v := .ty "tuple") rfl) pa_nil))) (fun _ => rfl)))))) (pss_one (ps_ret pe_bl)) pss_nil)
      (@pss_cons _ _ _ _ _ (ps_if (pt_cmpR (op_neD (hr.units)) (pe_ix ix_list (pv 4) (pv 5) (fun _ _ => rfl)) (pe_tup (pa_c (pv 6) (pa_c (pe_dget1 hr.u1 (pv 2) (pv 6) ⟨rfl, rfl, rfl, rfl⟩) (pa_c (pe_dget1 hr.u1 (pv 3) (pv 6) ⟨rfl, rfl, rfl, rfl⟩) pa_nil)))) (nomark _)) (pss_one (ps_ret pe_bl)) pss_nil)
      (pss_one (ps_set (i := 5) sc__law_told.nd rfl (Or.inl rfl) (pe_op op_add (pv 5) pe_int))))) pss_nil)))
      (@pss_cons _ _ _ _ _ (ps_if (pt_cmpR op_ne (pv 5) (pe_callB call_len_seq rfl (Z.len) bo_len (pa_c (pv 4) pa_nil)) (nomark _)) (pss_one (ps_ret pe_bl)) pss_nil)
      (@pss_cons _ _ _ _ _ (ps_expr (pe_bm0 PySem.F.plainAttrs_list PySem.F.slot_list_clear PySem.F.type_list_clear mt_clear (pv 4)))
      (pss_one (ps_ret pe_bl)))))))), ?_⟩
  refine rd_start (σ := [some (.ref a), some (.ref p), some (.ref u), some (.ref v), none, none, none]) rfl ?_
  walk_at "rd"
  obtain ⟨dx, ha⟩ := hC
  have c := T.ob_ _ (ciOf_lt o n)
  have Mt : MeV P w K mg base 5 (ob (ciOf o n)) "cells_told" (sp_Change_cells_told K ob) := by
    rcases ci_cases o n with ⟨e, _⟩ | ⟨e, _⟩ | ⟨e, _⟩ <;> rw [e]
    . exact M_PutIn_cells_told
    . exact M_TakenOut_cells_told
    . exact M_Turned_cells_told
  have e0 : isaM (ciOf o n) 0 = true := by
    rcases ci_cases o n with ⟨e, _⟩ | ⟨e, _⟩ | ⟨e, _⟩ <;> rw [e] <;> decide
  refine rd_methV0 rfl ha rfl c.cl Mt ⟨a, k, o, n, cols, fo, fn, d1, d2, rfl, ⟨dx, ha⟩, up, hl, hs, ro, rn, e1, e2, fun r H1 zs s1 hr0 g1 pz => ?_⟩
  refine isO_of c (s1 _ _ ha) (T.isa (ciOf o n) 0 (ciOf_lt o n) (by decide)) ⟨true, by rw [e0], ?_⟩
  rw [if_neg (by decide)]
  refine isI_of (.lst g1) kit_lst_lst ⟨true, rfl, ?_⟩
  rw [if_neg (by decide)]
  have lz := Paired.length pz
  have lf := List.length_filter_le (fun c => !eqD (d1 c) (d2 c)) cols
  refine ⟨⟨_, SqL.of (s1 _ _ hp)⟩, foR_list (cols.map V.str) (fun i σ' H' => ∃ (x6 : Option V), σ' = [some (.ref a), some (.ref p), some (.ref u), some (.ref v), some (.ref r), some (.int (((cols.take i).filter fun c => !eqD (d1 c) (d2 c)).length : Nat)), x6] /\ Same H1 H') ⟨_, rfl, Same.refl _⟩ ?_ ?_ ?_⟩
  . rintro i σ' H' _ ⟨x6, rfl, sm⟩
    exact SqL.of (sm _ _ (s1 _ _ hp))
  . rintro i x σ' H' hx ⟨x6, rfl, sm⟩
    rw [List.getElem?_map, Option.map_eq_some_iff] at hx
    obtain ⟨z, hz, rfl⟩ := hx
    have hzc := List.mem_of_getElem? hz
    have s0 := s1.trans sm
    have gd1 := s0 _ _ hu
    have gd2 := s0 _ _ hv
    walk_at "rd"
    refine ⟨.inl ⟨_, .inl gd1⟩, _, DGet.k (k := .inr z) gd1, .inl ⟨_, .inl gd2⟩, _, DGet.k (k := .inr z) gd2, ?_⟩
    rw [kvOf_getD hzc, kvOf_getD hzc]
    refine ⟨4, d1 z, d2 z, by decide, e1.same s0 z hzc, e2.same s0 z hzc, _, rfl, ?_⟩
    have tk : (cols.take (i + 1)).filter (fun c => !eqD (d1 c) (d2 c)) = (cols.take i).filter (fun c => !eqD (d1 c) (d2 c)) ++ if eqD (d1 z) (d2 z) = true then [] else [z] := by
      rw [List.take_succ, hz, List.filter_append]
      cases hp : eqD (d1 z) (d2 z) <;> simp [hp]
    cases hp1 : eqD (d1 z) (d2 z) with
    | true =>
      rw [if_neg (by decide), tk, hp1, if_pos rfl, List.append_nil]
      exact ⟨_, ⟨rfl, rfl⟩, sm⟩
    | false =>
      rw [if_pos (by decide)]
      have fa := filt_at (p := fun c => !eqD (d1 c) (d2 c)) hz (by simp [hp1])
      obtain ⟨y, hy, p', rfl, hp'⟩ := paired_at pz fa
      have hlt := (List.getElem?_eq_some_iff.mp hy).1
      refine ⟨_, .inl (SqL.of (sm _ _ g1)), ?_⟩
      rw [if_neg (by omega)]
      have hp2 := sm _ _ hp'
      refine ⟨_, SqL.of (sm _ _ g1), _, atI_nat hy, isI_of (.tup hp2) kit_tup_tup ⟨true, rfl, ?_⟩⟩
      rw [if_neg (by decide)]
      refine ⟨_, SqL.of (sm _ _ g1), _, atI_nat hy, .inl ⟨_, .inl gd1⟩, _, DGet.k (k := .inr z) gd1, .inl ⟨_, .inl gd2⟩, _, DGet.k (k := .inr z) gd2, ?_⟩
      rw [kvOf_getD hzc, kvOf_getD hzc, tk, hp1, if_neg Bool.false_ne_true]
      refine ⟨show 3 <= sizeLine by decide, fun p3 hp3 => ?_⟩
      have sA := same_upd hp3 (.tup [.str z, fo z, fn z])
      have gA : upd H' p3 (.tup [.str z, fo z, fn z]) p3 = some (.tup [.str z, fo z, fn z]) := upd_same
      change rD K true _ _ (upd H' p3 (.tup [.str z, fo z, fn z])) _
      generalize upd H' p3 (.tup [.str z, fo z, fn z]) = HA at sA gA ⊢
      have rp : ∀ b, HA b = some (.tup [.str z, fo z, fn z]) -> Rep K HA 5 (.t [.v (.str z), d1 z, d2 z]) (.ref b) := fun b hb => .t (SqT.of hb) rfl fun j d x h1 h2 => by
        match j with
        | 0 => simp at h1 h2; subst h1 h2; exact .v rfl
        | 1 => simp at h1 h2; subst h1 h2; exact e1.same (s0.trans sA) z hzc
        | 2 => simp at h1 h2; subst h1 h2; exact e2.same (s0.trans sA) z hzc
        | j + 3 => simp at h1
      refine rD_same (n := 5) (by decide) (rp _ (sA _ _ hp2)) (rp _ gA) ⟨_, rfl, ?_⟩
      rw [if_neg (by decide)]
      exact ⟨_, ⟨by rw [List.length_append]; rfl, rfl⟩, sm.trans sA⟩
  . rintro σ' H' ⟨x6, rfl, sm⟩
    rw [List.length_map, List.take_length]
    walk_at "rd"
    refine ⟨_, .inl (SqL.of (sm _ _ g1)), ?_⟩
    rw [if_neg (by omega)]
    exact ⟨.inl ⟨rfl, _, SqL.of (sm _ _ g1)⟩, r, zs, rfl, rfl, sm _ _ g1, q _ (same_updN (s1.trans sm) hr0)⟩
def hasV (f : Str -> V) : V -> Bool
  | .str c => decide (f c ≠ .non)
  | _ => false
def MadeP (f : Str -> V) (H : Hp) (x v : V) : Prop := ∃ c t, x = .str c /\ v = .ref t /\ H t = some (.tup [.str c, f c])
theorem MadeP.mono {f : Str -> V} {H H' : Hp} {x v : V} (s : SameT H H') : MadeP f H x v -> MadeP f H' x v := fun ⟨c, t, e1, e2, h⟩ => ⟨c, t, e1, e2, s _ _ h⟩
theorem str_at {cols : List Str} {i : Nat} {x : V} (h : (cols.map V.str)[i]? = some x) : ∃ z, z ∈ cols /\ x = .str z := by
  rw [List.getElem?_map, Option.map_eq_some_iff] at h
  obtain ⟨z, hz, rfl⟩ := h
  exact ⟨z, List.mem_of_getElem? hz, rfl⟩
theorem paired_maps {α β γ δ : Type} {F : β -> δ -> Prop} {G : γ -> δ -> Prop} {g : α -> β} {h : α -> γ} (fg : ∀ a y, F (g a) y -> G (h a) y) : ∀ {l : List α} {ys : List δ}, Paired F (l.map g) ys -> Paired G (l.map h) ys
  | [], _, .nil => .nil
  | _ :: _, _, .cons r t => .cons (fg _ _ r) (paired_maps fg t)
def PairsT (H : Hp) (cols : List Str) (f : Str -> V) (ys : List V) : Prop := Paired (PairAt H) (kvOf cols f) ys
theorem PairsT.same {H H' : Hp} {cols : List Str} {f : Str -> V} {ys : List V} (h : PairsT H cols f ys) (s : Same H H') : PairsT H' cols f ys := Paired.mapP h fun a b ⟨q, e, hq⟩ => ⟨q, e, s _ _ hq⟩
theorem made_row {H : Hp} {cols : List Str} {f : Str -> V} {ys : List V} (h : Paired (MadeP f H) ((cols.map V.str).filter (hasV f)) ys) : PairsT H cols f ys := by
  rw [List.filter_map] at h
  exact paired_maps (fun c y ⟨c', t, e1, e2, ht⟩ => by cases e1; exact ⟨t, e2, ht⟩) h
theorem row_data {K : PySem.W.Frag} {H : Hp} {cols : List Str} {f : Str -> V} (h : ∀ c ∈ cols, Fz H 2 (f c)) : ∃ d, RowD K H cols f d := by
  have : ∀ c, ∃ d, c ∈ cols -> Rep K H 4 d (f c) := fun c => by
    by_cases hc : c ∈ cols
    . obtain ⟨d, r⟩ := Fz.rep (K := K) (h c hc); exact ⟨d, fun _ => r.mono (by decide)⟩
    . exact ⟨.v .non, fun h => absurd h hc⟩
  exact ⟨fun c => Classical.choose (this c), fun c hc => Classical.choose_spec (this c) hc⟩
def ItemOk (K : PySem.W.Frag) (ob : Nat -> Addr) (cols : List Str) (H : Hp) (x : V) : Prop := ∃ t b u v k oo nn f g d e, x = .ref t /\ H t = some (.tup [.ref b, .ref u, .ref v]) /\ ChAt ob H b k oo nn /\ H u = some (.dK (kvOf cols f)) /\ H v = some (.dK (kvOf cols g)) /\ RowT H cols f oo /\ RowT H cols g nn /\ RowD K H cols f d /\ RowD K H cols g e
def sp_law (K : PySem.W.Frag) : Sp := fun vs H Q _ => ∃ (a : Addr) (ns : List Int), vs = [.ref a] /\ SqL K H a (ns.map V.int) /\ ns.length <= 63 /\ ∀ H', Q (.bl true) H'
seal PE PT PW PA PS PSs PI PG PIfs PGs PO in
theorem ok_law {CT : Addr} {cs : Nat -> Addr} {ob : Nat -> Addr} {f : Addr} {fd : FuncData} (Z : Zs mg) (T : Tx K mg CT cs ob) (G__law_two_rows : Cal P w K mg base 2 "_law_two_rows" ["_law_script"] (sp__law_two_rows K)) (G__law_told : Cal P w K mg base 6 "_law_told" ["_law_change", "_law_columns_here", "_law_old", "_law_new"] (sp__law_told K ob)) (G__law_cell : Cal P w K mg base 1 "_law_cell" ["_law_script", "_law_k"] (sp__law_cell K)) (K_Turned : MkV P w K mg base 1 "Turned" (ob 3) (sp_Turned_init K ob)) (K_PutIn : MkV P w K mg base 2 "PutIn" (ob 1) (sp_PutIn_init K ob)) (K_TakenOut : MkV P w K mg base 2 "TakenOut" (ob 2) (sp_TakenOut_init K ob)) (M_Change_back : MeV P w K mg base 5 (ob 0) "back" (sp_Change_back K ob)) (M_PutIn_back : MeV P w K mg base 5 (ob 1) "back" (sp_Change_back K ob)) (M_TakenOut_back : MeV P w K mg base 5 (ob 2) "back" (sp_Change_back K ob)) (M_Turned_back : MeV P w K mg base 5 (ob 3) "back" (sp_Change_back K ob)) (F : Fun K "law" "law" s_law f fd) : FnOk P w K mg base CX0 7 f fd ["_law_script"] (sp_law K) := by
  refine F.ok sc_law (fun vs H Q E h => by obtain ⟨a, ns, rfl, _⟩ := h; rfl) (fun cdv A outer s H vs Q E hr h => ?_)
  obtain ⟨a, ns, rfl, hS, h63, q⟩ := h
  refine ⟨_, (@pss_cons _ _ _ _ _ (ps_asg (pe_cal G__law_two_rows (k := 6) hr (by decide) rfl (pa_c (pv 0) pa_nil)) (pg_tup (n := 3) rfl (pgs_cons (pg_name (i := 1) sc_law.nd rfl (Or.inl rfl)) (pgs_cons (pg_name (i := 2) sc_law.nd rfl (Or.inr rfl)) (pgs_cons (pg_name (i := 3) sc_law.nd rfl (Or.inr rfl)) pgs_nil)))))
      (@pss_cons _ _ _ _ _ (ps_set (i := 4) sc_law.nd rfl (Or.inl rfl) (pe_op op_mod (pe_cal G__law_cell (k := 6) hr (by decide) rfl (pa_c (pv 0) (pa_c pe_int pa_nil))) (pe_op op_pow pe_int pe_int)))
      (@pss_cons _ _ _ _ _ (ps_set (i := 5) sc_law.nd rfl (Or.inl rfl) (pe_callTy call_tuple_of rfl (Z.tuple) bo_tuple (pa_c (pe_lcomp ["_law_script", "_law_columns_here", "_law_old", "_law_new", "_law_key", "_law_was", "_law_now", "_law_rows", "_law_change", "_law_one", "_law_other"] rfl (blkOk (N := ["_law_script", "_law_columns_here", "_law_old", "_law_new", "_law_key", "_law_was", "_law_now", "_law_rows", "_law_change", "_law_one", "_law_other"]) (dsc := defScope s_law) rfl rfl (by decide +kernel)) (pi_list (pv 1)) (fun _ _ _ _ _ => (pif_one (pt_cmp (pc_din hr.u1 (pv 0) (pv 3))))) (fun _ _ _ _ _ => (pe_tup (pa_c (pv 0) (pa_c (pe_dget hr.u1 (pv 3) (pv 0) (fun _ _ => rfl)) pa_nil))))) pa_nil)))
      (@pss_cons _ _ _ _ _ (ps_set (i := 6) sc_law.nd rfl (Or.inl rfl) (pe_callTy call_tuple_of rfl (Z.tuple) bo_tuple (pa_c (pe_lcomp ["_law_script", "_law_columns_here", "_law_old", "_law_new", "_law_key", "_law_was", "_law_now", "_law_rows", "_law_change", "_law_one", "_law_other"] rfl (blkOk (N := ["_law_script", "_law_columns_here", "_law_old", "_law_new", "_law_key", "_law_was", "_law_now", "_law_rows", "_law_change", "_law_one", "_law_other"]) (dsc := defScope s_law) rfl rfl (by decide +kernel)) (pi_list (pv 1)) (fun _ _ _ _ _ => (pif_one (pt_cmp (pc_din hr.u1 (pv 0) (pv 4))))) (fun _ _ _ _ _ => (pe_tup (pa_c (pv 0) (pa_c (pe_dget hr.u1 (pv 4) (pv 0) (fun _ _ => rfl)) pa_nil))))) pa_nil)))
      (@pss_cons _ _ _ _ _ (ps_set (i := 7) sc_law.nd rfl (Or.inl rfl) (pe_lst (pa_c (pe_tup (pa_c (pe_mk K_PutIn (k := 6) hr (by decide) rfl (pa_c (pv 4) (pa_c (pv 6) pa_nil))) (pa_c pe_dnewK (pa_c (pv 3) pa_nil)))) (pa_c (pe_tup (pa_c (pe_mk K_TakenOut (k := 6) hr (by decide) rfl (pa_c (pv 4) (pa_c (pv 5) pa_nil))) (pa_c (pv 2) (pa_c pe_dnewK pa_nil)))) (pa_c (pe_tup (pa_c (pe_mk K_Turned (k := 6) hr (by decide) rfl (pa_c (pv 4) (pa_c (pv 5) (pa_c (pv 6) pa_nil)))) (pa_c (pv 2) (pa_c (pv 3) pa_nil)))) pa_nil)))))
      (@pss_cons _ _ _ _ _ (ps_for PassesOwn.never rfl (pi_list (pv 7)) (pg_tup (n := 3) rfl (pgs_cons (pg_name (i := 8) sc_law.nd rfl (Or.inl rfl)) (pgs_cons (pg_name (i := 9) sc_law.nd rfl (Or.inl rfl)) (pgs_cons (pg_name (i := 10) sc_law.nd rfl (Or.inl rfl)) pgs_nil)))) (@pss_cons _ _ _ _ _ (ps_if (PW.pt (pw_or (pt_not (pt_val (pe_cal G__law_told (k := 6) hr (by decide) rfl (pa_c (pv 8) (pa_c (pv 1) (pa_c (pv 9) (pa_c (pv 10) pa_nil))))) (fun _ => rfl))) (pw_or1 (pt_not (pt_val (pe_cal G__law_told (k := 6) hr (by decide) rfl (pa_c (pv 8) (pa_c (pv 1) (pa_c (pv 9) (pa_c (pv 10) pa_nil))))) (fun _ => rfl)))))) (pss_one (ps_ret pe_bl)) pss_nil)
      (pss_one (ps_if (pt_not (pt_val (pe_cal G__law_told (k := 6) hr (by decide) rfl (pa_c (PE1.pe (pe1_methV0 (k := 6) (pv 8) hr rfl) throwsN) (pa_c (pv 1) (pa_c (pv 10) (pa_c (pv 9) pa_nil))))) (fun _ => rfl))) (pss_one (ps_ret pe_bl)) pss_nil))))
      (pss_one (ps_ret (pe_cal G__law_told (k := 6) hr (by decide) rfl (pa_c (pe_mk K_Turned (k := 6) hr (by decide) rfl (pa_c (pv 4) (pa_c (pv 5) (pa_c (pv 5) pa_nil)))) (pa_c (pv 1) (pa_c (pv 2) (pa_c (pv 2) pa_nil))))))))))))), ?_⟩
  refine rd_start (σ := [some (.ref a), none, none, none, none, none, none, none, none, none, none]) rfl ?_
  refine rd_gen2 fun R hR => ?_
  walk_at "rd"
  refine ⟨a, ns, rfl, hS, h63, fun r p o n cols fo fn H1 s1 gr gp up lc sh go gn fo1 fn1 => ?_⟩
  refine ⟨r, rfl, _, SqT.of gr, rfl, _, _, rfl, _, _, rfl, _, _, rfl, rfl, a, ns, 0, rfl, s1.seq hS, h63, fun c0 => ?_⟩
  refine ⟨by walk_at "side", c0, rfl, by decide, hR _ _ ?_⟩
  clear hR
  refine rd_gen2 fun R hR => ?_
  walk_at "rd"
  have lcm : (cols.map V.str).length <= sizeLine := small_le (by rw [List.length_map]; omega)
  refine ⟨⟨_, SqL.of gp⟩, lcP_list (cols.map V.str) (hasV fo) (MadeP fo) (fun _ _ _ _ => MadeP.mono) (SqL.of gp) lcm (fun i x H2 R' hx s2 h => ?_) (fun i x H2 R' hx hpx s2 h => ?_) fun D H2 ys hD s2 gD pa => ?_⟩
  . obtain ⟨z, hz, rfl⟩ := str_at hx
    walk_at "rd"
    refine ⟨_, DGet.k (k := .inr z) (s2 _ _ go), ?_⟩
    rw [kvOf_in hz]
    exact h
  . obtain ⟨z, hz, rfl⟩ := str_at hx
    have hz0 : fo z ≠ .non := by simpa [hasV] using hpx
    walk_at "rd"
    refine ⟨_, (by have e := DGet.k (k := .inr z) (s2 _ _ go); rw [kvOf_val hz, if_neg hz0] at e; exact e), two_ok, fun t ht => h _ _ (same_upd ht _) ⟨z, t, rfl, rfl, upd_same⟩⟩
  refine ⟨D, rfl, ys, .inl ⟨SqL.of gD, fun l1 hl1 => ?_⟩⟩
  have s3 := same_upd hl1 (.tup ys)
  have g3 : upd H2 l1 (.tup ys) l1 = some (.tup ys) := upd_same
  generalize upd H2 l1 (.tup ys) = H3 at s3 g3 ⊢
  have s13 := s2.trans s3
  have rT1 : RowT H3 cols fo (.ref l1) := .inr ⟨l1, ys, rfl, g3, (made_row pa).same s3⟩
  clear pa
  refine ⟨⟨_, SqL.of (s13 _ _ gp)⟩, lcP_list (cols.map V.str) (hasV fn) (MadeP fn) (fun _ _ _ _ => MadeP.mono) (SqL.of (s13 _ _ gp)) lcm (fun i x H2 R' hx s2 h => ?_) (fun i x H2 R' hx hpx s2 h => ?_) fun D H4 ys hD s4 gD pa => ?_⟩
  . obtain ⟨z, hz, rfl⟩ := str_at hx
    walk_at "rd"
    refine ⟨_, DGet.k (k := .inr z) (s2 _ _ (s13 _ _ gn)), ?_⟩
    rw [kvOf_in hz]
    exact h
  . obtain ⟨z, hz, rfl⟩ := str_at hx
    have hz0 : fn z ≠ .non := by simpa [hasV] using hpx
    walk_at "rd"
    refine ⟨_, (by have e := DGet.k (k := .inr z) (s2 _ _ (s13 _ _ gn)); rw [kvOf_val hz, if_neg hz0] at e; exact e), two_ok, fun t ht => h _ _ (same_upd ht _) ⟨z, t, rfl, rfl, upd_same⟩⟩
  refine ⟨D, rfl, ys, .inl ⟨SqL.of gD, fun l2 hl2 => hR _ _ ?_⟩⟩
  clear hR
  have s5 := same_upd hl2 (.tup ys)
  have g5 : upd H4 l2 (.tup ys) l2 = some (.tup ys) := upd_same
  generalize upd H4 l2 (.tup ys) = H5 at s5 g5 ⊢
  have s35 := s4.trans s5
  have rT2 : RowT H5 cols fn (.ref l2) := .inr ⟨l2, ys, rfl, g5, (made_row pa).same s5⟩
  have rT1 := rT1.same s35
  have s15 := s13.trans s35
  obtain ⟨d1, e1⟩ := row_data (K := K) fo1
  obtain ⟨d2, e2⟩ := row_data (K := K) fn1
  have e1 := e1.same s15
  have e2 := e2.same s15
  have gp := s15 _ _ gp
  have go := s15 _ _ go
  have gn := s15 _ _ gn
  clear pa s4 s5 s35 s2 s3 g3 g5
  refine rd_gen1 fun R hR => ?_
  walk_at "rd"
  generalize c0 % 10 ^ 30 = ky
  refine ⟨_, rfl, _, rfl, fun x1 dx1 hx1 hdx1 hne1 => ⟨x1, dx1, .int ky, .ref l2, rfl, upd_same, rfl, ?_⟩⟩
  rw [upd_upd]
  have sA := same_mk (H' := upd (upd H5 dx1 (.own x1)) x1 (.ins (ob 1) dx1 (chF (.int ky) .non (.ref l2)))) hx1 hdx1 (Same.refl _)
  have cA : ChAt ob (upd (upd H5 dx1 (.own x1)) x1 (.ins (ob 1) dx1 (chF (.int ky) .non (.ref l2)))) x1 (.int ky) .non (.ref l2) := ⟨dx1, upd_same⟩
  generalize upd (upd H5 dx1 (.own x1)) x1 (.ins (ob 1) dx1 (chF (.int ky) .non (.ref l2))) = HA at sA cA ⊢
  intro q1 hq1
  have t1 := same_upd hq1 (.dK [])
  have g1 : upd HA q1 (.dK []) q1 = some (.dK []) := upd_same
  generalize upd HA q1 (.dK []) = G1 at t1 g1 ⊢
  refine ⟨show 3 <= sizeLine by decide, fun q2 hq2 => ?_⟩
  have t2 := same_upd hq2 (.tup [.ref x1, .ref q1, .ref n])
  have g2 : upd G1 q2 (.tup [.ref x1, .ref q1, .ref n]) q2 = some (.tup [.ref x1, .ref q1, .ref n]) := upd_same
  generalize upd G1 q2 (.tup [.ref x1, .ref q1, .ref n]) = G2 at t2 g2 ⊢
  refine ⟨_, rfl, _, rfl, fun x2 dx2 hx2 hdx2 hne2 => ⟨x2, dx2, .int ky, .ref l1, rfl, upd_same, rfl, ?_⟩⟩
  rw [upd_upd]
  have sB := same_mk (H' := upd (upd G2 dx2 (.own x2)) x2 (.ins (ob 2) dx2 (chF (.int ky) (.ref l1) .non))) hx2 hdx2 (Same.refl _)
  have cB : ChAt ob (upd (upd G2 dx2 (.own x2)) x2 (.ins (ob 2) dx2 (chF (.int ky) (.ref l1) .non))) x2 (.int ky) (.ref l1) .non := ⟨dx2, upd_same⟩
  generalize upd (upd G2 dx2 (.own x2)) x2 (.ins (ob 2) dx2 (chF (.int ky) (.ref l1) .non)) = HB at sB cB ⊢
  intro q3 hq3
  have t3 := same_upd hq3 (.dK [])
  have g3 : upd HB q3 (.dK []) q3 = some (.dK []) := upd_same
  generalize upd HB q3 (.dK []) = G3 at t3 g3 ⊢
  refine ⟨show 3 <= sizeLine by decide, fun q4 hq4 => ?_⟩
  have t4 := same_upd hq4 (.tup [.ref x2, .ref o, .ref q3])
  have g4 : upd G3 q4 (.tup [.ref x2, .ref o, .ref q3]) q4 = some (.tup [.ref x2, .ref o, .ref q3]) := upd_same
  generalize upd G3 q4 (.tup [.ref x2, .ref o, .ref q3]) = G4 at t4 g4 ⊢
  refine ⟨_, rfl, _, rfl, _, rfl, fun x3 dx3 hx3 hdx3 hne3 => ⟨x3, dx3, .int ky, .ref l1, .ref l2, rfl, upd_same, rfl, ?_⟩⟩
  rw [upd_upd]
  have sC := same_mk (H' := upd (upd G4 dx3 (.own x3)) x3 (.ins (ob 3) dx3 (chF (.int ky) (.ref l1) (.ref l2)))) hx3 hdx3 (Same.refl _)
  have cC : ChAt ob (upd (upd G4 dx3 (.own x3)) x3 (.ins (ob 3) dx3 (chF (.int ky) (.ref l1) (.ref l2)))) x3 (.int ky) (.ref l1) (.ref l2) := ⟨dx3, upd_same⟩
  generalize upd (upd G4 dx3 (.own x3)) x3 (.ins (ob 3) dx3 (chF (.int ky) (.ref l1) (.ref l2))) = HC at sC cC ⊢
  refine ⟨show 3 <= sizeLine by decide, fun q5 hq5 => ?_⟩
  have t5 := same_upd hq5 (.tup [.ref x3, .ref o, .ref n])
  have g5 : upd HC q5 (.tup [.ref x3, .ref o, .ref n]) q5 = some (.tup [.ref x3, .ref o, .ref n]) := upd_same
  generalize upd HC q5 (.tup [.ref x3, .ref o, .ref n]) = G5 at t5 g5 ⊢
  refine ⟨show 3 <= sizeLine by decide, fun q6 hq6 => hR _ _ ?_⟩
  clear hR
  have t6 := same_upd hq6 (.lst [.ref q2, .ref q4, .ref q5])
  have g6 : upd G5 q6 (.lst [.ref q2, .ref q4, .ref q5]) q6 = some (.lst [.ref q2, .ref q4, .ref q5]) := upd_same
  generalize upd G5 q6 (.lst [.ref q2, .ref q4, .ref q5]) = G6 at t6 g6 ⊢
  have u5 := t6
  have uC := t5.trans u5
  have u4 := sC.trans uC
  have u3 := t4.trans u4
  have uB := t3.trans u3
  have u2 := sB.trans uB
  have u1 := t2.trans u2
  have uA := t1.trans u1
  have uH := sA.trans uA
  have rN : ∀ Hx, RowT Hx cols (fun _ => .non) .non := fun Hx => .inl ⟨rfl, fun _ _ => rfl⟩
  have dN : ∀ Hx, RowD K Hx cols (fun _ => .non) (fun _ => .v .non) := fun Hx c _ => .v rfl
  have kN : kvOf cols (fun _ => .non) = [] := kvOf_none fun _ _ => rfl
  have i1 : ItemOk K ob cols G6 (.ref q2) := ⟨q2, x1, q1, n, .int ky, .non, .ref l2, _, fn, _, d2, rfl, u2 _ _ g2, cA.same uA, by rw [kN]; exact u1 _ _ g1, uH _ _ gn, rN _, rT2.same uH, dN _, e2.same uH⟩
  have i2 : ItemOk K ob cols G6 (.ref q4) := ⟨q4, x2, o, q3, .int ky, .ref l1, .non, fo, _, d1, _, rfl, u4 _ _ g4, cB.same uB, uH _ _ go, by rw [kN]; exact u3 _ _ g3, rT1.same uH, rN _, e1.same uH, dN _⟩
  have i3 : ItemOk K ob cols G6 (.ref q5) := ⟨q5, x3, o, n, .int ky, .ref l1, .ref l2, fo, fn, d1, d2, rfl, u5 _ _ g5, cC.same uC, uH _ _ go, uH _ _ gn, rT1.same uH, rT2.same uH, e1.same uH, e2.same uH⟩
  have gp := uH _ _ gp
  have go := uH _ _ go
  have rT1 := rT1.same uH
  have e1 := e1.same uH
  clear g1 g2 g3 g4 g5 t1 t2 t3 t4 t5 t6 u1 u2 u3 u4 u5 uA uB uC uH cA cB cC sA sB sC rT2 e2 gn
  have back : ∀ (oo nn : V), MeV P w K mg base 6 (ob (ciOf oo nn)) "back" (sp_Change_back K ob) := fun oo nn => by
    rcases ci_cases oo nn with ⟨e, _⟩ | ⟨e, _⟩ | ⟨e, _⟩ <;> rw [e]
    . exact M_PutIn_back.mono (by decide)
    . exact M_TakenOut_back.mono (by decide)
    . exact M_Turned_back.mono (by decide)
  walk_at "rd"
  refine ⟨⟨_, SqL.of g6⟩, foR_list [.ref q2, .ref q4, .ref q5] (fun i σ' H' => ∃ x8 x9 x10, σ' = [some (.ref a), some (.ref p), some (.ref o), some (.ref n), some (.int ky), some (.ref l1), some (.ref l2), some (.ref q6), x8, x9, x10] /\ Same G6 H') ⟨_, _, _, rfl, Same.refl _⟩ ?_ ?_ ?_⟩
  . rintro i σ' H' _ ⟨x8, x9, x10, rfl, sm⟩
    exact SqL.of (sm _ _ g6)
  . rintro i x σ' H' hx ⟨x8, x9, x10, rfl, sm⟩
    have it : ItemOk K ob cols G6 x := by
      match i, hx with
      | 0, hx => simp at hx; rw [<- hx]; exact i1
      | 1, hx => simp at hx; rw [<- hx]; exact i2
      | 2, hx => simp at hx; rw [<- hx]; exact i3
      | i + 3, hx => simp at hx
    obtain ⟨t, b, u, v, k, oo, nn, f, g, d, e, rfl, ht, hc, hu, hv, r1, r2, e1', e2'⟩ := it
    walk_at "rd"
    refine ⟨_, SqT.of (sm _ _ ht), rfl, _, _, rfl, _, _, rfl, _, _, rfl, rfl, ?_⟩
    refine ⟨b, p, u, v, k, oo, nn, cols, f, g, d, e, rfl, hc.same sm, sm _ _ gp, sm _ _ hu, sm _ _ hv, up, by omega, sh, r1.same sm, r2.same sm, e1'.same sm, e2'.same sm, fun H2 s2 => ⟨true, rfl, ?_⟩⟩
    rw [if_neg (by decide)]
    have z2 := sm.trans s2
    refine ⟨b, p, u, v, k, oo, nn, cols, f, g, d, e, rfl, hc.same z2, z2 _ _ gp, z2 _ _ hu, z2 _ _ hv, up, by omega, sh, r1.same z2, r2.same z2, e1'.same z2, e2'.same z2, fun H3 s3 => ⟨true, rfl, ?_⟩⟩
    rw [if_neg (by decide)]
    have z3 := z2.trans s3
    obtain ⟨dxb, hxb⟩ := hc.same z3
    refine rd_methV0 rfl hxb rfl (T.ob_ _ (ciOf_lt oo nn)).cl (back oo nn) ⟨b, k, oo, nn, rfl, ⟨dxb, hxb⟩, fun r' H4 s4 hr' hc4 => ?_⟩
    have z4 := z3.trans s4
    refine ⟨r', p, v, u, k, nn, oo, cols, g, f, e, d, rfl, hc4, z4 _ _ gp, z4 _ _ hv, z4 _ _ hu, up, by omega, sh, r2.same z4, r1.same z4, e2'.same z4, e1'.same z4, fun H5 s5 => ⟨true, rfl, ?_⟩⟩
    rw [if_neg (by decide)]
    exact ⟨_, _, _, ⟨rfl, rfl, rfl⟩, z4.trans s5⟩
  . rintro σ' H' ⟨x8, x9, x10, rfl, sm⟩
    walk_at "rd"
    refine ⟨_, rfl, _, rfl, _, rfl, fun x4 dx4 hx4 hdx4 hne4 => ⟨x4, dx4, .int ky, .ref l1, .ref l1, rfl, upd_same, rfl, ?_⟩⟩
    rw [upd_upd]
    have sD := same_mk (H' := upd (upd H' dx4 (.own x4)) x4 (.ins (ob 3) dx4 (chF (.int ky) (.ref l1) (.ref l1)))) hx4 hdx4 (Same.refl _)
    have cD : ChAt ob (upd (upd H' dx4 (.own x4)) x4 (.ins (ob 3) dx4 (chF (.int ky) (.ref l1) (.ref l1)))) x4 (.int ky) (.ref l1) (.ref l1) := ⟨dx4, upd_same⟩
    generalize upd (upd H' dx4 (.own x4)) x4 (.ins (ob 3) dx4 (chF (.int ky) (.ref l1) (.ref l1))) = HD at sD cD ⊢
    have z := sm.trans sD
    exact ⟨x4, p, o, o, .int ky, .ref l1, .ref l1, cols, fo, fo, d1, d1, rfl, cD, z _ _ gp, z _ _ go, z _ _ go, up, by omega, sh, rT1.same z, rT1.same z, e1.same z, e1.same z, fun H6 _ => q H6⟩
theorem law_sp {K : PySem.W.Frag} {H : Hp} {a : Addr} {ns : List Int} (hl : ns.length <= 63) (_ : ∀ i ∈ ns, Builtin.Int.intBits i <= 2 ^ 20) (hS : SqL K H a (ns.map V.int)) : sp_law K [.ref a] H (fun v _ => v = .bl true) fun _ _ _ => False :=
  ⟨a, ns, rfl, hS, hl, fun _ => rfl⟩
theorem all_mk {l : PySem.W.OpenLaw} {w : World} {K : PySem.W.Frag} {h : Heap} {mg : Str -> Option Value} {fa : Addr} (X : K.In h) (G : h.Ns mainGlobals mg) (hfa : mg "law" = some (.ref fa))
    (ta : PySem.W.specialIn K (.builtin "object.__class__") "__get__" = some (some (.builtin "getset_descriptor.__get__"))) (tb : PySem.W.takesIn K (.builtin "object.__class__") = some true)
    {O0 : Addr} (oa0 : PySem.W.nsIn K mainGlobals "Change" = some (some (.ref O0))) (of0 : PySem.W.clsFacts K O0 ["key", "old", "new"] = true)
    {O1 : Addr} (oa1 : PySem.W.nsIn K mainGlobals "PutIn" = some (some (.ref O1))) (of1 : PySem.W.clsFacts K O1 ["key", "old", "new"] = true)
    (om1 : PySem.W.makesIn K O1 = true) (ok1 : PySem.W.keepIn K (.ref O1) = true)
    {O2 : Addr} (oa2 : PySem.W.nsIn K mainGlobals "TakenOut" = some (some (.ref O2))) (of2 : PySem.W.clsFacts K O2 ["key", "old", "new"] = true)
    (om2 : PySem.W.makesIn K O2 = true) (ok2 : PySem.W.keepIn K (.ref O2) = true)
    {O3 : Addr} (oa3 : PySem.W.nsIn K mainGlobals "Turned" = some (some (.ref O3))) (of3 : PySem.W.clsFacts K O3 ["key", "old", "new"] = true)
    (om3 : PySem.W.makesIn K O3 = true) (ok3 : PySem.W.keepIn K (.ref O3) = true)
    (oo : PySem.W.mtxOk K [O0, O1, O2, O3] isaM = true)
    {f1 : Addr} {od1 an1 : Option Addr} {sl1 : Array (Option Value)} {oc1 kV1 dc1 pm1 cd1 ct1 : Value}
    (a1 : PySem.W.nsIn K mainGlobals "rank_of" = some (some (.ref f1)))
    (l1 : K.lookup f1 = some ⟨oc1, od1, .func (PySem.W.fnOf "rank_of" "rank_of" (defArgs s_rank_of) (defBody s_rank_of) (defScope s_rank_of) .none kV1 dc1 pm1 an1 cd1 ct1), sl1⟩) (c1 : PySem.W.codeIn K cd1 "rank_of" = true) (k1 : PySem.W.keepIn K (.ref f1) = true)
    {f2 : Addr} {od2 an2 : Option Addr} {sl2 : Array (Option Value)} {oc2 kV2 dc2 pm2 cd2 ct2 : Value}
    (a2_0 : PySem.W.findIn K (.ref O0) "__init__" = some (some (.ref f2)))
    (j2 : PySem.W.isFn K (.ref f2) = true)
    (l2 : K.lookup f2 = some ⟨oc2, od2, .func (PySem.W.fnOf "__init__" "Change.__init__" (defArgs s_Change_init) (defBody s_Change_init) (defScope s_Change_init) .none kV2 dc2 pm2 an2 cd2 ct2), sl2⟩) (c2 : PySem.W.codeIn K cd2 "Change.__init__" = true) (k2 : PySem.W.keepIn K (.ref f2) = true)
    (e2 : PySem.W.clI K O0 f2 = true)
    {f3 : Addr} {od3 an3 : Option Addr} {sl3 : Array (Option Value)} {oc3 kV3 dc3 pm3 cd3 ct3 : Value}
    (a3_3 : PySem.W.findIn K (.ref O3) "__init__" = some (some (.ref f3)))
    (j3 : PySem.W.isFn K (.ref f3) = true)
    (l3 : K.lookup f3 = some ⟨oc3, od3, .func (PySem.W.fnOf "__init__" "Change.__init__" (defArgs s_Turned_init) (defBody s_Turned_init) (defScope s_Turned_init) .none kV3 dc3 pm3 an3 cd3 ct3), sl3⟩) (c3 : PySem.W.codeIn K cd3 "Change.__init__" = true) (k3 : PySem.W.keepIn K (.ref f3) = true)
    {f4 : Addr} {od4 an4 : Option Addr} {sl4 : Array (Option Value)} {oc4 kV4 dc4 pm4 cd4 ct4 : Value}
    (a4 : PySem.W.nsIn K mainGlobals "values_of" = some (some (.ref f4)))
    (l4 : K.lookup f4 = some ⟨oc4, od4, .func (PySem.W.fnOf "values_of" "values_of" (defArgs s_values_of) (defBody s_values_of) (defScope s_values_of) .none kV4 dc4 pm4 an4 cd4 ct4), sl4⟩) (c4 : PySem.W.codeIn K cd4 "values_of" = true) (k4 : PySem.W.keepIn K (.ref f4) = true)
    {f5 : Addr} {od5 an5 : Option Addr} {sl5 : Array (Option Value)} {oc5 kV5 dc5 pm5 cd5 ct5 : Value}
    (a5 : PySem.W.nsIn K mainGlobals "_law_cell" = some (some (.ref f5)))
    (l5 : K.lookup f5 = some ⟨oc5, od5, .func (PySem.W.fnOf "_law_cell" "_law_cell" (defArgs s__law_cell) (defBody s__law_cell) (defScope s__law_cell) .none kV5 dc5 pm5 an5 cd5 ct5), sl5⟩) (c5 : PySem.W.codeIn K cd5 "_law_cell" = true) (k5 : PySem.W.keepIn K (.ref f5) = true)
    {f6 : Addr} {od6 an6 : Option Addr} {sl6 : Array (Option Value)} {oc6 kV6 dc6 pm6 cd6 ct6 : Value}
    (a6 : PySem.W.nsIn K mainGlobals "_law_value" = some (some (.ref f6)))
    (l6 : K.lookup f6 = some ⟨oc6, od6, .func (PySem.W.fnOf "_law_value" "_law_value" (defArgs s__law_value) (defBody s__law_value) (defScope s__law_value) .none kV6 dc6 pm6 an6 cd6 ct6), sl6⟩) (c6 : PySem.W.codeIn K cd6 "_law_value" = true) (k6 : PySem.W.keepIn K (.ref f6) = true)
    {f7 : Addr} {od7 an7 : Option Addr} {sl7 : Array (Option Value)} {oc7 kV7 dc7 pm7 cd7 ct7 : Value}
    (a7 : PySem.W.nsIn K mainGlobals "_law_columns" = some (some (.ref f7)))
    (l7 : K.lookup f7 = some ⟨oc7, od7, .func (PySem.W.fnOf "_law_columns" "_law_columns" (defArgs s__law_columns) (defBody s__law_columns) (defScope s__law_columns) .none kV7 dc7 pm7 an7 cd7 ct7), sl7⟩) (c7 : PySem.W.codeIn K cd7 "_law_columns" = true) (k7 : PySem.W.keepIn K (.ref f7) = true)
    {f8 : Addr} {od8 an8 : Option Addr} {sl8 : Array (Option Value)} {oc8 kV8 dc8 pm8 cd8 ct8 : Value}
    (a8 : PySem.W.nsIn K mainGlobals "before" = some (some (.ref f8)))
    (l8 : K.lookup f8 = some ⟨oc8, od8, .func (PySem.W.fnOf "before" "before" (defArgs s_before) (defBody s_before) (defScope s_before) .none kV8 dc8 pm8 an8 cd8 ct8), sl8⟩) (c8 : PySem.W.codeIn K cd8 "before" = true) (k8 : PySem.W.keepIn K (.ref f8) = true)
    {f9 : Addr} {od9 an9 : Option Addr} {sl9 : Array (Option Value)} {oc9 kV9 dc9 pm9 cd9 ct9 : Value}
    (a9_1 : PySem.W.findIn K (.ref O1) "__init__" = some (some (.ref f9)))
    (j9 : PySem.W.isFn K (.ref f9) = true)
    (l9 : K.lookup f9 = some ⟨oc9, od9, .func (PySem.W.fnOf "__init__" "PutIn.__init__" (defArgs s_PutIn_init) (defBody s_PutIn_init) (defScope s_PutIn_init) .none kV9 dc9 pm9 an9 cd9 ct9), sl9⟩) (c9 : PySem.W.codeIn K cd9 "PutIn.__init__" = true) (k9 : PySem.W.keepIn K (.ref f9) = true)
    {f10 : Addr} {od10 an10 : Option Addr} {sl10 : Array (Option Value)} {oc10 kV10 dc10 pm10 cd10 ct10 : Value}
    (a10_2 : PySem.W.findIn K (.ref O2) "__init__" = some (some (.ref f10)))
    (j10 : PySem.W.isFn K (.ref f10) = true)
    (l10 : K.lookup f10 = some ⟨oc10, od10, .func (PySem.W.fnOf "__init__" "TakenOut.__init__" (defArgs s_TakenOut_init) (defBody s_TakenOut_init) (defScope s_TakenOut_init) .none kV10 dc10 pm10 an10 cd10 ct10), sl10⟩) (c10 : PySem.W.codeIn K cd10 "TakenOut.__init__" = true) (k10 : PySem.W.keepIn K (.ref f10) = true)
    {f11 : Addr} {od11 an11 : Option Addr} {sl11 : Array (Option Value)} {oc11 kV11 dc11 pm11 cd11 ct11 : Value}
    (a11 : PySem.W.nsIn K mainGlobals "_law_two_rows" = some (some (.ref f11)))
    (l11 : K.lookup f11 = some ⟨oc11, od11, .func (PySem.W.fnOf "_law_two_rows" "_law_two_rows" (defArgs s__law_two_rows) (defBody s__law_two_rows) (defScope s__law_two_rows) .none kV11 dc11 pm11 an11 cd11 ct11), sl11⟩) (c11 : PySem.W.codeIn K cd11 "_law_two_rows" = true) (k11 : PySem.W.keepIn K (.ref f11) = true)
    {f12 : Addr} {od12 an12 : Option Addr} {sl12 : Array (Option Value)} {oc12 kV12 dc12 pm12 cd12 ct12 : Value}
    (a12 : PySem.W.nsIn K mainGlobals "in_order" = some (some (.ref f12)))
    (l12 : K.lookup f12 = some ⟨oc12, od12, .func (PySem.W.fnOf "in_order" "in_order" (defArgs s_in_order) (defBody s_in_order) (defScope s_in_order) .none kV12 dc12 pm12 an12 cd12 ct12), sl12⟩) (c12 : PySem.W.codeIn K cd12 "in_order" = true) (k12 : PySem.W.keepIn K (.ref f12) = true)
    {f13 : Addr} {od13 an13 : Option Addr} {sl13 : Array (Option Value)} {oc13 kV13 dc13 pm13 cd13 ct13 : Value}
    (a13 : PySem.W.nsIn K mainGlobals "change_of" = some (some (.ref f13)))
    (l13 : K.lookup f13 = some ⟨oc13, od13, .func (PySem.W.fnOf "change_of" "change_of" (defArgs s_change_of) (defBody s_change_of) (defScope s_change_of) .none kV13 dc13 pm13 an13 cd13 ct13), sl13⟩) (c13 : PySem.W.codeIn K cd13 "change_of" = true) (k13 : PySem.W.keepIn K (.ref f13) = true)
    {f14 : Addr} {od14 an14 : Option Addr} {sl14 : Array (Option Value)} {oc14 kV14 dc14 pm14 cd14 ct14 : Value}
    (a14_0 : PySem.W.findIn K (.ref O0) "back" = some (some (.ref f14)))
    (a14_1 : PySem.W.findIn K (.ref O1) "back" = some (some (.ref f14)))
    (a14_2 : PySem.W.findIn K (.ref O2) "back" = some (some (.ref f14)))
    (a14_3 : PySem.W.findIn K (.ref O3) "back" = some (some (.ref f14)))
    (j14 : PySem.W.isFn K (.ref f14) = true)
    (l14 : K.lookup f14 = some ⟨oc14, od14, .func (PySem.W.fnOf "back" "Change.back" (defArgs s_Change_back) (defBody s_Change_back) (defScope s_Change_back) .none kV14 dc14 pm14 an14 cd14 ct14), sl14⟩) (c14 : PySem.W.codeIn K cd14 "Change.back" = true) (k14 : PySem.W.keepIn K (.ref f14) = true)
    {f15 : Addr} {od15 an15 : Option Addr} {sl15 : Array (Option Value)} {oc15 kV15 dc15 pm15 cd15 ct15 : Value}
    (a15_0 : PySem.W.findIn K (.ref O0) "cells_told" = some (some (.ref f15)))
    (a15_1 : PySem.W.findIn K (.ref O1) "cells_told" = some (some (.ref f15)))
    (a15_2 : PySem.W.findIn K (.ref O2) "cells_told" = some (some (.ref f15)))
    (a15_3 : PySem.W.findIn K (.ref O3) "cells_told" = some (some (.ref f15)))
    (j15 : PySem.W.isFn K (.ref f15) = true)
    (l15 : K.lookup f15 = some ⟨oc15, od15, .func (PySem.W.fnOf "cells_told" "Change.cells_told" (defArgs s_Change_cells_told) (defBody s_Change_cells_told) (defScope s_Change_cells_told) .none kV15 dc15 pm15 an15 cd15 ct15), sl15⟩) (c15 : PySem.W.codeIn K cd15 "Change.cells_told" = true) (k15 : PySem.W.keepIn K (.ref f15) = true)
    {f16 : Addr} {od16 an16 : Option Addr} {sl16 : Array (Option Value)} {oc16 kV16 dc16 pm16 cd16 ct16 : Value}
    (a16 : PySem.W.nsIn K mainGlobals "_law_told" = some (some (.ref f16)))
    (l16 : K.lookup f16 = some ⟨oc16, od16, .func (PySem.W.fnOf "_law_told" "_law_told" (defArgs s__law_told) (defBody s__law_told) (defScope s__law_told) .none kV16 dc16 pm16 an16 cd16 ct16), sl16⟩) (c16 : PySem.W.codeIn K cd16 "_law_told" = true) (k16 : PySem.W.keepIn K (.ref f16) = true)
    {f17 : Addr} {od17 an17 : Option Addr} {sl17 : Array (Option Value)} {oc17 kV17 dc17 pm17 cd17 ct17 : Value}
    (a17 : PySem.W.nsIn K mainGlobals "law" = some (some (.ref f17)))
    (l17 : K.lookup f17 = some ⟨oc17, od17, .func (PySem.W.fnOf "law" "law" (defArgs s_law) (defBody s_law) (defScope s_law) .none kV17 dc17 pm17 an17 cd17 ct17), sl17⟩) (c17 : PySem.W.codeIn K cd17 "law" = true) (k17 : PySem.W.keepIn K (.ref f17) = true)
    (z1 : PySem.W.nsIn K mainGlobals "dict" = some none)
    (z2 : PySem.W.nsIn K mainGlobals "isinstance" = some none)
    (z3 : PySem.W.nsIn K mainGlobals "len" = some none)
    (z4 : PySem.W.nsIn K mainGlobals "list" = some none)
    (z5 : PySem.W.nsIn K mainGlobals "range" = some none)
    (z6 : PySem.W.nsIn K mainGlobals "sorted" = some none)
    (z7 : PySem.W.nsIn K mainGlobals "str" = some none)
    (z8 : PySem.W.nsIn K mainGlobals "tuple" = some none)
    : ∃ fd : FuncData, (∀ (s : Shared) (v : Value), BindsTo s fd ⟨[v], []⟩ [("_law_script", v)]) /\ ∀ base : Heap, K.In base -> base.Ns mainGlobals mg -> FnOk l.prog w K mg base CX0 7 fa fd ["_law_script"] (sp_law K) := by
  have e := hfa.symm.trans (PySem.W.mg_of X G a17)
  cases e
  have F1 := fun_mk (st := s_rank_of) l1 c1 k1
  have b1 := F1.binds (ps := ["value"]) fun _ _ _ _ _ _ us hl => match us, hl with | [_], _ => rfl
  have F2 := fun_mk (st := s_Change_init) l2 c2 k2
  have b2 := F2.binds (ps := ["self", "key", "old", "new"]) fun _ _ _ _ _ _ us hl => match us, hl with | [_, _, _, _], _ => rfl
  have F3 := fun_mk (st := s_Turned_init) l3 c3 k3
  have b3 := F3.binds (ps := ["self", "key", "old", "new"]) fun _ _ _ _ _ _ us hl => match us, hl with | [_, _, _, _], _ => rfl
  have F4 := fun_mk (st := s_values_of) l4 c4 k4
  have b4 := F4.binds (ps := ["cells"]) fun _ _ _ _ _ _ us hl => match us, hl with | [_], _ => rfl
  have F5 := fun_mk (st := s__law_cell) l5 c5 k5
  have b5 := F5.binds (ps := ["_law_script", "_law_k"]) fun _ _ _ _ _ _ us hl => match us, hl with | [_, _], _ => rfl
  have F6 := fun_mk (st := s__law_value) l6 c6 k6
  have b6 := F6.binds (ps := ["_law_cell_here"]) fun _ _ _ _ _ _ us hl => match us, hl with | [_], _ => rfl
  have F7 := fun_mk (st := s__law_columns) l7 c7 k7
  have b7 := F7.binds (ps := ["_law_cell_here"]) fun _ _ _ _ _ _ us hl => match us, hl with | [_], _ => rfl
  have F8 := fun_mk (st := s_before) l8 c8 k8
  have b8 := F8.binds (ps := ["one", "other"]) fun _ _ _ _ _ _ us hl => match us, hl with | [_, _], _ => rfl
  have F9 := fun_mk (st := s_PutIn_init) l9 c9 k9
  have b9 := F9.binds (ps := ["self", "key", "new"]) fun _ _ _ _ _ _ us hl => match us, hl with | [_, _, _], _ => rfl
  have F10 := fun_mk (st := s_TakenOut_init) l10 c10 k10
  have b10 := F10.binds (ps := ["self", "key", "old"]) fun _ _ _ _ _ _ us hl => match us, hl with | [_, _, _], _ => rfl
  have F11 := fun_mk (st := s__law_two_rows) l11 c11 k11
  have b11 := F11.binds (ps := ["_law_script"]) fun _ _ _ _ _ _ us hl => match us, hl with | [_], _ => rfl
  have F12 := fun_mk (st := s_in_order) l12 c12 k12
  have b12 := F12.binds (ps := ["values"]) fun _ _ _ _ _ _ us hl => match us, hl with | [_], _ => rfl
  have F13 := fun_mk (st := s_change_of) l13 c13 k13
  have b13 := F13.binds (ps := ["key", "old", "new"]) fun _ _ _ _ _ _ us hl => match us, hl with | [_, _, _], _ => rfl
  have F14 := fun_mk (st := s_Change_back) l14 c14 k14
  have b14 := F14.binds (ps := ["self"]) fun _ _ _ _ _ _ us hl => match us, hl with | [_], _ => rfl
  have F15 := fun_mk (st := s_Change_cells_told) l15 c15 k15
  have b15 := F15.binds (ps := ["self"]) fun _ _ _ _ _ _ us hl => match us, hl with | [_], _ => rfl
  have F16 := fun_mk (st := s__law_told) l16 c16 k16
  have b16 := F16.binds (ps := ["_law_change", "_law_columns_here", "_law_old", "_law_new"]) fun _ _ _ _ _ _ us hl => match us, hl with | [_, _, _, _], _ => rfl
  have F17 := fun_mk (st := s_law) l17 c17 k17
  have b17 := F17.binds (ps := ["_law_script"]) fun _ _ _ _ _ _ us hl => match us, hl with | [_], _ => rfl
  have Z : Zs mg := ⟨PySem.W.mg_none_of X G z1, PySem.W.mg_none_of X G z2, PySem.W.mg_none_of X G z3, PySem.W.mg_none_of X G z4, PySem.W.mg_none_of X G z5, PySem.W.mg_none_of X G z6, PySem.W.mg_none_of X G z7, PySem.W.mg_none_of X G z8⟩
  have T : Tx K mg 0 (fun _ => 0) (fun i => [O0, O1, O2, O3].getD i 0) := ⟨PySem.W.mg_of X G oa0,
    PySem.W.mg_of X G oa1,
    PySem.W.mg_of X G oa2,
    PySem.W.mg_of X G oa3,
    fun i hi => match i, hi with | 0, _ => ObC.of of0 ta tb | 1, _ => ObC.of of1 ta tb | 2, _ => ObC.of of2 ta tb | 3, _ => ObC.of of3 ta tb | m + 4, h => absurd h (by omega),
    PySem.W.mtx_of oo⟩
  refine ⟨PySem.W.fnOf "law" "law" (defArgs s_law) (defBody s_law) (defScope s_law) .none kV17 dc17 pm17 an17 cd17 ct17, fun s v => .of_eq rfl, fun base _ _ => ?_⟩
  have C_rank_of : Cal l.prog w K mg base 1 "rank_of" ["value"] (sp_rank_of K) := ⟨_, _, ok_rank_of Z T  F1, b1, k1, PySem.W.mg_of X G a1⟩
  have B_Change : BaI l.prog w K mg base 1 "Change" (sp_Change_init K (fun i => [O0, O1, O2, O3].getD i 0)) := ⟨O0, _, _, _, PySem.W.mg_of X G oa0, ClI.of e2, k2, ok_Change_init Z T  F2, b2⟩
  have K_Turned : MkV l.prog w K mg base 1 "Turned" O3 (sp_Turned_init K (fun i => [O0, O1, O2, O3].getD i 0)) := ⟨_, _, _, ⟨om3, a3_3, j3, ok3⟩, ok_Turned_init Z T  F3, b3, PySem.W.mg_of X G oa3⟩
  have C_values_of : Cal l.prog w K mg base 1 "values_of" ["cells"] (sp_values_of K) := ⟨_, _, ok_values_of Z T  F4, b4, k4, PySem.W.mg_of X G a4⟩
  have C__law_cell : Cal l.prog w K mg base 1 "_law_cell" ["_law_script", "_law_k"] (sp__law_cell K) := ⟨_, _, ok__law_cell Z T  F5, b5, k5, PySem.W.mg_of X G a5⟩
  have C__law_value : Cal l.prog w K mg base 1 "_law_value" ["_law_cell_here"] (sp__law_value K) := ⟨_, _, ok__law_value Z T  F6, b6, k6, PySem.W.mg_of X G a6⟩
  have C__law_columns : Cal l.prog w K mg base 1 "_law_columns" ["_law_cell_here"] (sp__law_columns K) := ⟨_, _, ok__law_columns Z T  F7, b7, k7, PySem.W.mg_of X G a7⟩
  have C_before : Cal l.prog w K mg base 2 "before" ["one", "other"] (sp_before K) := ⟨_, _, ok_before Z T C_rank_of F8, b8, k8, PySem.W.mg_of X G a8⟩
  have K_PutIn : MkV l.prog w K mg base 2 "PutIn" O1 (sp_PutIn_init K (fun i => [O0, O1, O2, O3].getD i 0)) := ⟨_, _, _, ⟨om1, a9_1, j9, ok1⟩, ok_PutIn_init Z T B_Change F9, b9, PySem.W.mg_of X G oa1⟩
  have K_TakenOut : MkV l.prog w K mg base 2 "TakenOut" O2 (sp_TakenOut_init K (fun i => [O0, O1, O2, O3].getD i 0)) := ⟨_, _, _, ⟨om2, a10_2, j10, ok2⟩, ok_TakenOut_init Z T B_Change F10, b10, PySem.W.mg_of X G oa2⟩
  have C__law_two_rows : Cal l.prog w K mg base 2 "_law_two_rows" ["_law_script"] (sp__law_two_rows K) := ⟨_, _, ok__law_two_rows Z T C__law_columns C__law_cell C__law_value F11, b11, k11, PySem.W.mg_of X G a11⟩
  have C_in_order : Cal l.prog w K mg base 4 "in_order" ["values"] (sp_in_order K) := ⟨_, _, ok_in_order Z T C_before C_rank_of F12, b12, k12, PySem.W.mg_of X G a12⟩
  have C_change_of : Cal l.prog w K mg base 4 "change_of" ["key", "old", "new"] (sp_change_of K (fun i => [O0, O1, O2, O3].getD i 0)) := ⟨_, _, ok_change_of Z T K_Turned K_PutIn K_TakenOut F13, b13, k13, PySem.W.mg_of X G a13⟩
  have M_Change_back : MeV l.prog w K mg base 5 O0 "back" (sp_Change_back K (fun i => [O0, O1, O2, O3].getD i 0)) := ⟨_, _, _, ⟨a14_0, j14, k14⟩, ok_Change_back Z T C_change_of F14, b14⟩
  have M_PutIn_back : MeV l.prog w K mg base 5 O1 "back" (sp_Change_back K (fun i => [O0, O1, O2, O3].getD i 0)) := ⟨_, _, _, ⟨a14_1, j14, k14⟩, ok_Change_back Z T C_change_of F14, b14⟩
  have M_TakenOut_back : MeV l.prog w K mg base 5 O2 "back" (sp_Change_back K (fun i => [O0, O1, O2, O3].getD i 0)) := ⟨_, _, _, ⟨a14_2, j14, k14⟩, ok_Change_back Z T C_change_of F14, b14⟩
  have M_Turned_back : MeV l.prog w K mg base 5 O3 "back" (sp_Change_back K (fun i => [O0, O1, O2, O3].getD i 0)) := ⟨_, _, _, ⟨a14_3, j14, k14⟩, ok_Change_back Z T C_change_of F14, b14⟩
  have M_Change_cells_told : MeV l.prog w K mg base 5 O0 "cells_told" (sp_Change_cells_told K (fun i => [O0, O1, O2, O3].getD i 0)) := ⟨_, _, _, ⟨a15_0, j15, k15⟩, ok_Change_cells_told Z T C_values_of C_in_order F15, b15⟩
  have M_PutIn_cells_told : MeV l.prog w K mg base 5 O1 "cells_told" (sp_Change_cells_told K (fun i => [O0, O1, O2, O3].getD i 0)) := ⟨_, _, _, ⟨a15_1, j15, k15⟩, ok_Change_cells_told Z T C_values_of C_in_order F15, b15⟩
  have M_TakenOut_cells_told : MeV l.prog w K mg base 5 O2 "cells_told" (sp_Change_cells_told K (fun i => [O0, O1, O2, O3].getD i 0)) := ⟨_, _, _, ⟨a15_2, j15, k15⟩, ok_Change_cells_told Z T C_values_of C_in_order F15, b15⟩
  have M_Turned_cells_told : MeV l.prog w K mg base 5 O3 "cells_told" (sp_Change_cells_told K (fun i => [O0, O1, O2, O3].getD i 0)) := ⟨_, _, _, ⟨a15_3, j15, k15⟩, ok_Change_cells_told Z T C_values_of C_in_order F15, b15⟩
  have C__law_told : Cal l.prog w K mg base 6 "_law_told" ["_law_change", "_law_columns_here", "_law_old", "_law_new"] (sp__law_told K (fun i => [O0, O1, O2, O3].getD i 0)) := ⟨_, _, ok__law_told Z T M_Change_cells_told M_PutIn_cells_told M_TakenOut_cells_told M_Turned_cells_told F16, b16, k16, PySem.W.mg_of X G a16⟩
  exact ok_law Z T C__law_two_rows C__law_told C__law_cell K_Turned K_PutIn K_TakenOut M_Change_back M_PutIn_back M_TakenOut_back M_Turned_back F17
end My
open PySem PySem.W PyProof.Rows
set_option maxRecDepth 100000 in
set_option maxHeartbeats 0 in
theorem PySem.Challenge.cw_twigtable_k32_cells_told_holds : PySem.Challenge.rw_twigtable_k32_cells_told.Holds := by
  w_on; o_law; k_head; (case hw => w_witness2)
  k_fill
  refine L2.walk_ofB (l := PySem.Challenge.rw_twigtable_k32_cells_told) (n := 63) (k := 7) (x := "_law_script") (CX := fun _ => L2.CX0) (sp := My.sp_law) rfl (by decide) rfl ⟨rfl, by decide, by decide⟩ (fun w h Y => PySem.W.kIn_of Y) ?F ?S ?C
  case F =>
    intro w mg fa h KX G hmg
    refine' My.all_mk KX G hmg ?ta ?tb ?oa0 ?of0 ?oa1 ?of1 ?om1 ?ok1 ?oa2 ?of2 ?om2 ?ok2 ?oa3 ?of3 ?om3 ?ok3 ?oo ?a1 ?l1 ?c1 ?k1 ?a2_0 ?j2 ?l2 ?c2 ?k2 ?e2 ?a3_3 ?j3 ?l3 ?c3 ?k3 ?a4 ?l4 ?c4 ?k4 ?a5 ?l5 ?c5 ?k5 ?a6 ?l6 ?c6 ?k6 ?a7 ?l7 ?c7 ?k7 ?a8 ?l8 ?c8 ?k8 ?a9_1 ?j9 ?l9 ?c9 ?k9 ?a10_2 ?j10 ?l10 ?c10 ?k10 ?a11 ?l11 ?c11 ?k11 ?a12 ?l12 ?c12 ?k12 ?a13 ?l13 ?c13 ?k13 ?a14_0 ?a14_1 ?a14_2 ?a14_3 ?j14 ?l14 ?c14 ?k14 ?a15_0 ?a15_1 ?a15_2 ?a15_3 ?j15 ?l15 ?c15 ?k15 ?a16 ?l16 ?c16 ?k16 ?a17 ?l17 ?c17 ?k17 ?z1 ?z2 ?z3 ?z4 ?z5 ?z6 ?z7 ?z8
    (case ta => (first | rfl | kernel_rfl | decide +kernel))
    (case tb => (first | rfl | kernel_rfl | decide +kernel))
    (case oa0 => k_is)
    (case of0 => (first | rfl | kernel_rfl | decide +kernel))
    (case oa1 => k_is)
    (case of1 => (first | rfl | kernel_rfl | decide +kernel))
    (case om1 => k_is)
    (case ok1 => k_is)
    (case oa2 => k_is)
    (case of2 => (first | rfl | kernel_rfl | decide +kernel))
    (case om2 => k_is)
    (case ok2 => k_is)
    (case oa3 => k_is)
    (case of3 => (first | rfl | kernel_rfl | decide +kernel))
    (case om3 => k_is)
    (case ok3 => k_is)
    (case oo => (first | rfl | kernel_rfl | decide +kernel))
    (case a1 => k_is)
    (case l1 => k_is)
    (case c1 => k_is)
    (case k1 => k_is)
    (case a2_0 => k_is)
    (case j2 => k_is)
    (case l2 => k_is)
    (case c2 => k_is)
    (case k2 => k_is)
    (case e2 => (first | rfl | kernel_rfl | decide +kernel))
    (case a3_3 => k_is)
    (case j3 => k_is)
    (case l3 => k_is)
    (case c3 => k_is)
    (case k3 => k_is)
    (case a4 => k_is)
    (case l4 => k_is)
    (case c4 => k_is)
    (case k4 => k_is)
    (case a5 => k_is)
    (case l5 => k_is)
    (case c5 => k_is)
    (case k5 => k_is)
    (case a6 => k_is)
    (case l6 => k_is)
    (case c6 => k_is)
    (case k6 => k_is)
    (case a7 => k_is)
    (case l7 => k_is)
    (case c7 => k_is)
    (case k7 => k_is)
    (case a8 => k_is)
    (case l8 => k_is)
    (case c8 => k_is)
    (case k8 => k_is)
    (case a9_1 => k_is)
    (case j9 => k_is)
    (case l9 => k_is)
    (case c9 => k_is)
    (case k9 => k_is)
    (case a10_2 => k_is)
    (case j10 => k_is)
    (case l10 => k_is)
    (case c10 => k_is)
    (case k10 => k_is)
    (case a11 => k_is)
    (case l11 => k_is)
    (case c11 => k_is)
    (case k11 => k_is)
    (case a12 => k_is)
    (case l12 => k_is)
    (case c12 => k_is)
    (case k12 => k_is)
    (case a13 => k_is)
    (case l13 => k_is)
    (case c13 => k_is)
    (case k13 => k_is)
    (case a14_0 => k_is)
    (case a14_1 => k_is)
    (case a14_2 => k_is)
    (case a14_3 => k_is)
    (case j14 => k_is)
    (case l14 => k_is)
    (case c14 => k_is)
    (case k14 => k_is)
    (case a15_0 => k_is)
    (case a15_1 => k_is)
    (case a15_2 => k_is)
    (case a15_3 => k_is)
    (case j15 => k_is)
    (case l15 => k_is)
    (case c15 => k_is)
    (case k15 => k_is)
    (case a16 => k_is)
    (case l16 => k_is)
    (case c16 => k_is)
    (case k16 => k_is)
    (case a17 => k_is)
    (case l17 => k_is)
    (case c17 => k_is)
    (case k17 => k_is)
    (case z1 => k_is)
    (case z2 => k_is)
    (case z3 => k_is)
    (case z4 => k_is)
    (case z5 => k_is)
    (case z6 => k_is)
    (case z7 => k_is)
    (case z8 => k_is)
  case S => exact fun w H a ns hl hb hO hS => My.law_sp hl hb hS
  case C => exact fun _ _ _ _ _ z => z
end
