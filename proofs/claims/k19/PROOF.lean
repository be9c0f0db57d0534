import PyProof.Rows.All
import Wide.All
import OpenK.AllK
import Wide.FinOn
import Lean
import PyProof.EqAt
import PyProof.EqKinds
import PyProof.TupleCall
import PyProof.NeKinds
import PyProof.StrOps2
import PySem.Challenge.RW_twigtable_k19_whole_one_tree
local macro_rules | `(tactic| omega) => `(tactic| lia)
abbrev YQ_:=PySem.Value->PySem.Shared->Prop
abbrev YP_:=List (PySem.Addr×PySem.Obj)
open List
section
open PySem
abbrev Va:=@wpAny_bind
abbrev Vb:=@List.getElem?_eq_getElem
abbrev Vc:=@List.getElem?_eq_some_iff
abbrev Vd:=@Heap.get?_push_of_some
abbrev Ve:=@Nat.le_refl
abbrev Vf:=@Bool.false_ne_true
abbrev Vg:=@wpAny_pure
abbrev Vh:=@Heap.lt_size
abbrev Vi:=@Heap.get?_push_size
abbrev Vj:=@Nat.le_trans
abbrev Vk:=@Nat.zero_le
abbrev Vl:=@List.mem_append
abbrev Vm:=@List.mem_of_getElem?
abbrev Vn:=@List.size_toArray
abbrev Vo:=@List.mem_cons_of_mem
abbrev Vp:=@List.mem_append_right
abbrev Vq:=@List.append_assoc
abbrev Vr:=@List.length_map
abbrev Vs:=@List.length_append
abbrev Vt:=@Nat.lt_of_lt_of_le
abbrev Vu:=@Nat.lt_irrefl
abbrev Vv:=@Nat.le_of_lt
end
set_option Elab.async false
set_option linter.all false
set_option maxRecDepth 100000
set_option maxHeartbeats 4000000
section
namespace L2
open PySem PySem.Spec PyProof.Rows
abbrev Key:=Sum Int Str
def Xo:Key->Value->Bool
 | .inl k,v=>Value.isInt k v
 | .inr x,v=>Value.isStrOf x v
def ZNc(w:World):Key->Int
 | .inl k=>hashInt k
 | .inr x=>hashStr w x
theorem QV:∀ {k:Key} {v:Value},Xo k v=true->(∃ i t,k=Sum.inl i/\v=Value.int i t)\/(∃ x t,k=Sum.inr x/\v=Value.str x t)
 | .inl i,v,h=>by
  obtain⟨t,e⟩:=Value.isInt_shape (k:=i) (v:=v) h;exact .inl ⟨i,t,rfl,e⟩
 | .inr x,v,h=>by
  obtain⟨t,e⟩:=Value.isStrOf_shape (x:=x) (v:=v) h;exact .inr ⟨x,t,rfl,e⟩
theorem Q6b(i:Int)(t:Tok):Xo (.inl i) (.int i t)=true:=by simp[Xo,Value.isInt]
theorem Q7b(x:Str)(t:Tok):Xo (.inr x) (.str x t)=true:=by simp[Xo,Value.isStrOf]
theorem X6b(a b:Int):decide ((Sum.inl a:Key)=Sum.inl b)=(a == b):=by
 by_cases e:a=b
 ·subst e;simp
 ·have h:¬ (Sum.inl a:Key)=Sum.inl b:=fun q=>e (Sum.inl.inj q)
  rw[decide_eq_false h];exact(beq_eq_false_iff_ne.mpr e).symm
theorem X7b(a b:Str):decide ((Sum.inr a:Key)=Sum.inr b)=decide (a=b):=by
 by_cases e:a=b
 ·subst e;simp
 ·have h:¬ (Sum.inr a:Key)=Sum.inr b:=fun q=>e (Sum.inr.inj q)
  rw[decide_eq_false h,decide_eq_false e]
theorem X8b(a:Int)(b:Str):decide ((Sum.inl a:Key)=Sum.inr b)=false:=decide_eq_false (fun q=>nomatch q)
theorem X9b(a:Str)(b:Int):decide ((Sum.inr a:Key)=Sum.inl b)=false:=decide_eq_false (fun q=>nomatch q)
def QL(prog:Program)(w:World):PySem.KeyKind prog w Key where
 is:=Xo
 hash:=ZNc w
 inj:=fun v a b ha hb=>by
  rcases QV ha with ⟨i,t,rfl,rfl⟩ | ⟨x,t,rfl,rfl⟩
  ·rcases QV hb with ⟨j,u,rfl,e⟩ | ⟨y,u,rfl,e⟩
   ·injection e with e1 _;rw[e1]
   ·exact nomatch e
  ·rcases QV hb with ⟨j,u,rfl,e⟩ | ⟨y,u,rfl,e⟩
   ·exact nomatch e
   ·injection e with e1 _;rw[e1]
 byValue:=fun k v h=>by
  rcases QV h with ⟨i,t,rfl,rfl⟩ | ⟨x,t,rfl,rfl⟩ <;> rfl
 pyHash:=fun hv h=>by
  rcases QV hv with ⟨i,t,rfl,rfl⟩ | ⟨x,t,rfl,rfl⟩
  ·exact wpAny_pyHash_int h
  ·exact wpAny_pyHash_str h
 eqBool:=fun hu hv h=>by
  rcases QV hu with ⟨i,t,rfl,rfl⟩ | ⟨x,t,rfl,rfl⟩
  ·rcases QV hv with ⟨j,u,rfl,rfl⟩ | ⟨y,u,rfl,rfl⟩
   ·rw[X6b]at h;exact wpAny_eqBool_int h
   ·rw[X8b]at h;exact SeqAt.EqAt.int_str i t y u _ _ _ _ h
  ·rcases QV hv with ⟨j,u,rfl,rfl⟩ | ⟨y,u,rfl,rfl⟩
   ·rw[X9b]at h;exact SeqAt.EqAt.str_int x t j u _ _ _ _ h
   ·rw[X7b]at h;exact wpAny_eqBool_str h
 «strs»:=fun k x t v h=>by
  rcases QV h with ⟨i,u,rfl,e⟩ | ⟨y,u,rfl,e⟩
  ·exact nomatch e
  ·injection e with e1 _
   subst e1;cases v <;> rfl
theorem Yya(prog:Program)(w:World)(i:Int)(t:Tok):(QL prog w).is (.inl i) (.int i t)=true:=Q6b i t
theorem Yza(prog:Program)(w:World)(x:Str)(t:Tok):(QL prog w).is (.inr x) (.str x t)=true:=Q7b x t
inductive V where
 | non | bl (b:Bool) | int (i:Int) | str (x:Str) | byt (b:Array UInt8) | flt (b:UInt64) | ref (a:Addr) | ty (n:String)
 deriving DecidableEq
def Qr:V->Value->Prop
 | .non,u=>u=Value.none
 | .bl b,u=>u=Value.bool b
 | .int i,u=>∃ t,u=Value.int i t
 | .str x,u=>∃ t,u=Value.str x t
 | .byt b,u=>∃ t,u=Value.bytes b t
 | .flt b,u=>∃ t,u=Value.float b t
 | .ref a,u=>u=Value.ref a
 | .ty n,u=>u=Value.type n
abbrev Qv:List V->List Value->Prop:=Paired Qr
theorem Qv.length{xs:List V}{us:List Value}(r:Qv xs us):xs.length=us.length:=Paired.length r
theorem Qv.get:∀ {xs:List V} {us:List Value} {i:Nat} {x:V},Qv xs us->xs[i]?=some x->∃ u,us[i]?=some u/\Qr x u
 | _,_,_,_,.nil,e=>by simp at e
 | _,_,0,_,.cons r _,e=>by simp at e;subst e;exact⟨_,rfl,r⟩
 | _,_,i+1,x,.cons _ t,e=>by
  obtain⟨u,h1,h2⟩:=Qv.get (i:=i) (x:=x) t (by simpa using e)
  exact⟨u,by simpa using h1,h2⟩
theorem Qv.append:∀ {xs ys:List V} {us ws:List Value},Qv xs us->Qv ys ws->Qv (xs++ys) (us++ws)
 | _,_,_,_,.nil,s=>s
 | _,_,_,_,.cons r t,s=>.cons r (Qv.append t s)
theorem Qv.take:∀ {xs:List V} {us:List Value} (n:Nat),Qv xs us->Qv (xs.take n) (us.take n)
 | _,_,0,_=>.nil
 | _,_,_+1,.nil=>.nil
 | _,_,n+1,.cons r t=>.cons r (Qv.take n t)
theorem Qv.drop:∀ {xs:List V} {us:List Value} (n:Nat),Qv xs us->Qv (xs.drop n) (us.drop n)
 | _,_,0,r=>r
 | _,_,_+1,.nil=>.nil
 | _,_,n+1,.cons _ t=>Qv.drop n t
theorem Qv.none_of:∀ {xs:List V} {us:List Value} {i:Nat},Qv xs us->xs[i]?=none->us[i]?=none:=fun {xs us i} r e=>by
 have h1:=r.length;have h2:xs.length<=i:=List.getElem?_eq_none_iff.mp e
 exact List.getElem?_eq_none_iff.mpr (by omega)
def JI:Option V->Option Value->Prop
 | some v,some u=>Qr v u
 | none,none=>True
 | _,_=>False
def KV{κ:Type}:List (κ×V)->List (κ×Value)->Prop:=Paired fun(p:κ×V) (q:κ×Value)=>p.1=q.1/\Qr p.2 q.2
def kV:Key->V
 | .inl i=>.int i
 | .inr x=>.str x
inductive HO where
 | lst (xs:List V)
 | tup (xs:List V)
 | dK (kvs:List (Key×V)) | dT (kvs:List (List Key×V))
 | set (S:Int->Bool) (n:Nat)
 | ins (C dx:Addr) (fs:List (Str×V))
 | own (x:Addr)
 | xd (fs:List (Str×V))
 | met (f x:Addr)
 | rng (lo hi:Int)
 | frz (o:Obj) (u:HO)
 | tbl (ps:Array Value)
 | ext (φ:Heap->Prop)
abbrev Hp:=Addr->Option HO
def upd(H:Hp)(a:Addr)(o:HO):Hp:=fun b=>if b=a then some o else H b
theorem Qa{H:Hp}{a:Addr}{o:HO}:upd H a o a=some o:=by unfold upd;rw[if_pos rfl]
theorem Qd{H:Hp}{a b:Addr}{o:HO}(h:b≠a):upd H a o b=H b:=by unfold upd;rw[if_neg h]
theorem JL{H:Hp}{a:Addr}{o u:HO}:upd (upd H a o) a u=upd H a u:=by
 funext b;unfold upd;split <;> rfl
theorem ZA{H:Hp}{a b:Addr}{o u:HO}(h:H a=some o)(h':H b=some u)(d:o≠u):a≠b:=by
 intro e;subst e;rw[h]at h';exact d (Option.some.inj h')
theorem Qq{H:Hp}{a b:Addr}{o:HO}(h:H a=some o)(h':H b=none):a≠b:=by
 intro e;subst e;rw[h]at h';cases h'
section
variable(P:Program)(w:World)
def QB(H:Hp)(h:Heap)(a:Addr):HO->Prop
 | .lst xs=>xs.length<=sizeLine/\∃ (its:List Value) (n:Nat),Qv xs its/\h.get? a=some { cls:=.type "list",data:=.seq its.toArray n }
 | .tup xs=>(xs.length<=sizeLine/\∃ o,h.get? a=some o/\o.dict=none)/\∃ its:List Value,Qv xs its/\IsTup h a its.toArray
 | .dK kvs=>kvs.length<=sizeLine/\(a == sysModules)=false/\∃ vs,KV kvs vs/\h.DictOf (QL P w) a vs
 | .dT kvs=>kvs.length<=sizeLine/\(a == sysModules)=false/\∃ xs:List (List Key×Addr×Value),
  Paired (fun(p:List Key×V) (q:List Key×Addr×Value)=>p.1=q.1/\H q.2.1=some (.tup (p.1.map kV))/\Qr p.2 q.2.2) kvs xs /\
  ∃ o es ep,h.get? a=some o/\o.ExactDict/\o.data=.dict es ep/\es.toList=xs.map (entryOfKey (tupleKind (QL P w)))/\(xs.map (·.1)).Nodup
 | .set S n=>h.SetOf (intKind P w) a S n
 | .ins C dx fs=>H dx=some (.own a)/\fs.length<=1000/\dx≠a/\h.get? a=some (W.instObj C dx) /\
  ∃ mA,h.Ns1 dx mA/\(∀ f,JI (fs.lookup f) (mA f))/\PySem.Within mA (fs.map (·.1))
 | .own _=>∃ o,h.get? a=some o
 | .xd fs=>∃ mA,h.Ns1 a mA/\∀ f,JI (fs.lookup f) (mA f)
 | .rng lo hi=>∃ t u v,h.get? a=some { cls:=.type "range",data:=.fields #[.int lo t,.int hi u,.int 1 v] }
 | .frz o u=>h.get? a=some o/\QB H h a u
 | .tbl ps=>h.get? a=some { cls:=.none,data:=.fields ps }
 | .met f x=>h.get? a=some (W.methodObj (.ref f) (.ref x))
 | .ext φ=>φ h/\(∃ o,h.get? a=some o)/\∀ h1 h2:Heap,φ h1->(∀ o,h1.get? a=some o->h2.get? a=some o)->φ h2
def HOk(H:Hp)(h:Heap):Prop:=∀ a o,H a=some o->QB P w H h a o
end
section
variable{P:Program}{w:World}{H H':Hp}{h h':Heap}{a:Addr}{o:HO}
theorem QB.lt(x:QB P w H h a o):a < h.objs.size:=by
 cases o with
 | lst xs=>obtain⟨_,_,_,_,e⟩:=x;exact Vh e
 | tup xs=>obtain⟨_,_,_,p⟩:=x;exact p.lt
 | dK kvs=>obtain⟨_,_,_,_,o,_,_,e,_⟩:=x;exact Vh e
 | dT kvs=>obtain⟨_,_,_,_,o,_,_,e,_⟩:=x;exact Vh e
 | set S n=>obtain⟨o,_,_,_,e,_⟩:=x;exact Vh e
 | ins C dx fs=>obtain⟨_,_,_,e,_⟩:=x;exact Vh e
 | own y=>obtain⟨_,e⟩:=x;exact Vh e
 | xd fs=>obtain⟨_,⟨_,_,_,e,_⟩,_⟩:=x;exact Vh e
 | rng lo hi=>obtain⟨_,_,_,e⟩:=x;exact Vh e
 | frz ob u=>obtain⟨e,_⟩:=x;exact Vh e
 | tbl ps=>exact Vh (show h.get? a=some _ from x)
 | met f y=>exact Vh (show h.get? a=some _ from x)
 | ext φ=>obtain⟨_,⟨_,e⟩,_⟩:=x;exact Vh e
theorem Paired.mapP{α β:Type}{F G:α->β->Prop}:∀ {l₁:List α} {l₂:List β},Paired F l₁ l₂->(∀ a b,F a b->G a b)->Paired G l₁ l₂
 | _,_,.nil,_=>.nil
 | _,_,.cons r t,f=>.cons (f _ _ r) (Paired.mapP t f)
theorem QB.stay(x:QB P w H h a o)(k:∀ b u,(b=a\/H b=some (.own a))->h.get? b=some u->h'.get? b=some u)
 (ho:∀ b,H b=some (.own a)->H' b=some (.own a)) (ht:∀ b xs,H b=some (.tup xs)->H' b=some (.tup xs)):QB P w H' h' a o:=by
 induction o with
 | lst xs=>obtain⟨z,its,n,r,e⟩:=x;exact⟨z,its,n,r,k _ _ (.inl rfl) e⟩
 | tup xs=>obtain⟨⟨z,o1,e1,d1⟩,its,r,ob,e,c⟩:=x;exact⟨⟨z,o1,k _ _ (.inl rfl) e1,d1⟩,its,r,ob,k _ _ (.inl rfl) e,c⟩
 | dK kvs=>obtain⟨z,y,vs,r,ob,es,ep,e,c⟩:=x;exact⟨z,y,vs,r,ob,es,ep,k _ _ (.inl rfl) e,c⟩
 | dT kvs =>
  obtain⟨z,y,xs,r,ob,es,ep,e,c⟩:=x;exact⟨z,y,xs,Paired.mapP r fun p q z=>⟨z.1,ht _ _ z.2.1,z.2.2⟩,ob,es,ep,k _ _ (.inl rfl) e,c⟩
 | set S n=>obtain⟨ob,es,ep,t,e,c⟩:=x;exact⟨ob,es,ep,t,k _ _ (.inl rfl) e,c⟩
 | ins C dx fs =>
  obtain⟨d,z,ne,e,mA,⟨od,es,ep,e2,c⟩,r⟩:=x;exact⟨ho _ d,z,ne,k _ _ (.inl rfl) e,mA,⟨od,es,ep,k _ _ (.inr d) e2,c⟩,r⟩
 | own y=>obtain⟨ob,e⟩:=x;exact⟨ob,k _ _ (.inl rfl) e⟩
 | xd fs=>obtain⟨mA,⟨od,es,ep,e,c⟩,r⟩:=x;exact⟨mA,⟨od,es,ep,k _ _ (.inl rfl) e,c⟩,r⟩
 | rng lo hi=>obtain⟨t,u,v,e⟩:=x;exact⟨t,u,v,k _ _ (.inl rfl) e⟩
 | frz ob u ih=>obtain⟨e,q⟩:=x;exact⟨k _ _ (.inl rfl) e,ih q⟩
 | tbl ps =>
  have e:h.get? a=some { cls:=.none,data:=.fields ps }:=x;show h'.get? a=some { cls:=.none,data:=.fields ps };exact k a _ (.inl rfl) e
 | met f y =>
  have e:h.get? a=some (W.methodObj (.ref f) (.ref y)):=x;show h'.get? a=some (W.methodObj (.ref f) (.ref y));exact k a _ (.inl rfl) e
 | ext φ=>obtain⟨p,⟨o,e⟩,st⟩:=x;exact⟨st _ _ p fun o q=>k _ _ (.inl rfl) q,⟨o,k _ _ (.inl rfl) e⟩,st⟩
theorem HOk.lt(x:HOk P w H h)(e:H a=some o):a < h.objs.size:=(x a o e).lt
theorem HOk.fresh(x:HOk P w H h)(e:h.objs.size<=a):H a=none:=by
 cases q:H a with
 | none=>rfl
 | some u=>exact absurd (Vt (x.lt q) e) (Vu _)
theorem HOk.kept(x:HOk P w H h)(k:∀ b u,h.get? b=some u->h'.get? b=some u):HOk P w H h':=fun a o e =>
 (x a o e).stay (fun b u _ q=>k b u q) (fun _ q=>q) fun _ _ q=>q
theorem HOk.laid(x:HOk P w H h)(k:∀ b u,h.get? b=some u->h'.get? b=some u)(hp:h.objs.size<=a)(new:QB P w (upd H a o) h' a o):HOk P w (upd H a o) h':=fun b u e=>by
 have hn:=x.fresh hp
 by_cases hb:b=a
 ·subst hb;rw[Qa]at e;cases e;exact new
 ·rw[Qd hb]at e
  exact(x b u e).stay (fun c v _ q=>k c v q) (fun c q=>by rw[Qd (Qq q hn)];exact q) fun c xs q=>by rw[Qd (Qq q hn)];exact q
end
def Rd(H:Hp)(a:Addr)(u:HO):Prop:=H a=some u\/∃ o,H a=some (.frz o u)
theorem Rd.ok{P:Program}{w:World}{H:Hp}{h:Heap}{a:Addr}{u:HO}(r:Rd H a u)(x:HOk P w H h):QB P w H h a u:=by
 rcases r with r | ⟨o,r⟩
 ·exact x a u r
 ·obtain⟨_,q⟩:=x a _ r
  exact q
def Mut:Option HO->Prop
 | some (.lst _)=>True
 | some (.dK _)=>True
 | some (.dT _)=>True
 | some (.set _ _)=>True
 | some (.ins _ _ _)=>True
 | some (.ext _)=>True
 | _=>False
section
variable{P:Program}{w:World}{H:Hp}{h h':Heap}{x e:Addr}{o':HO}
theorem HOk.write(ok:HOk P w H h)(mu:Mut (H x))(he:e=x\/H e=some (.own x))(k:∀ b u,b≠e->h.get? b=some u->h'.get? b=some u)(heo:∃ u,h'.get? e=some u)
 (new:QB P w (upd H x o') h' x o'):HOk P w (upd H x o') h':=fun b u q=>by
 have nown:∀ c y,H c=some (.own y)->c≠x:=fun c y r z=>by subst z;rw[r]at mu;exact mu
 have ntup:∀ c xs,H c=some (.tup xs)->c≠x:=fun c xs r z=>by subst z;rw[r]at mu;exact mu
 by_cases hb:b=x
 ·subst hb;rw[Qa]at q;cases q;exact new
 ·rw[Qd hb]at q
  by_cases hbe:b=e
  ·have q':H b=some (.own x):=by
    rcases he with z | z
    ·exact absurd (hbe.trans z) hb
    ·rw[hbe];exact z
   rw[q]at q';cases q';obtain⟨v,hv⟩:=heo;exact⟨v,by rw[hbe];exact hv⟩
  ·refine(ok b u q).stay (fun c v hc r=>k c v ?_ r) (fun c r=>by rw[Qd (nown c b r)];exact r) fun c xs r=>by rw[Qd (ntup c xs r)];exact r
   rcases hc with rfl | hc
   ·exact hbe
   ·rintro rfl
    rcases he with z | z
    ·exact nown c b hc z
    ·rw[hc]at z;cases z;exact hb rfl
end
structure Un(fs ex:List Addr)(H H':Hp)(h h':Heap):Prop where
 keep:∀ b o,h.get? b=some o->H b=none->b∉fs->b∉ex->h'.get? b=some o
 slot:∀ b o,h.get? b=some o->H b=none->b∈fs->b∉ex->∃ sl,h'.get? b=some { o with slots:=sl }
 free:∀ b o,h.get? b=some o->H b=none->b∉ex->H' b=none
 there:∀ b o,h.get? b=some o->b∉ex->∃ o',h'.get? b=some o'
 tups:∀ b xs,H b=some (.tup xs)->H' b=some (.tup xs)
 frzs:∀ b o u,H b=some (.frz o u)->H' b=some (.frz o u)
 tbls:∀ b ps,H b=some (.tbl ps)->∃ more,H' b=some (.tbl (ps++more))
section
variable{fs fs' ex ex':List Addr}{H H1 H2:Hp}{h h1 h2 h':Heap}{a x e:Addr}{o:HO}
theorem Un.any(u:Un fs ex H H1 h h1){b:Addr}{ob:Obj}(q:h.get? b=some ob)(n:H b=none)(hx:b∉ex):∃ sl,h1.get? b=some { ob with slots:=sl }:=by
 by_cases hb:b∈fs
 ·exact u.slot b ob q n hb hx
 ·exact⟨ob.slots,u.keep b ob q n hb hx⟩
theorem Un.kept(k:∀ b u,h.get? b=some u->h'.get? b=some u):Un fs ex H H h h' :=
 ⟨fun b ob q _ _ _=>k b ob q,fun b ob q _ _ _=>⟨ob.slots,k b ob q⟩,fun _ _ _ n _=>n,fun b ob q _=>⟨ob,k b ob q⟩,fun _ _ q=>q,fun _ _ _ q=>q,fun _ ps q=>⟨#[],by rw[q];simp⟩⟩
theorem Un.refl:Un fs ex H H h h:=Un.kept fun _ _ q=>q
theorem Un.laid(k:∀ b u,h.get? b=some u->h'.get? b=some u)(hp:h.objs.size<=a)(hn:H a=none):Un fs ex H (upd H a o) h h' where
 keep:=fun b u q _ _ _=>k b u q
 slot:=fun b u q _ _ _=>⟨u.slots,k b u q⟩
 free:=fun b u q n _=>by rw[Qd (Nat.ne_of_lt (Vt (Vh q) hp))];exact n
 there:=fun b u q _=>⟨u,k b u q⟩
 tups:=fun b xs q=>by rw[Qd (Qq q hn)];exact q
 frzs:=fun b u xs q=>by rw[Qd (Qq q hn)];exact q
 tbls:=fun b ps q=>⟨#[],by rw[Qd (Qq q hn),q];simp⟩
theorem Un.write(mu:Mut (H x))(he:e=x\/H e=some (.own x))(k:∀ b u,b≠e->h.get? b=some u->h'.get? b=some u)(heo:∃ u,h'.get? e=some u):Un fs ex H (upd H x o) h h':=by
 have hx:∀ b,H b=none->b≠x:=fun b n z=>by subst z;rw[n]at mu;exact mu
 have hb:∀ b,H b=none->b≠e:=fun b n z=>by
  subst z
  rcases he with r | r
  ·exact hx b n r
  ·rw[n]at r;cases r
 have hm:∀ b u,H b=some u->¬ Mut (some u)->b≠x:=fun b u q nm z=>by subst z;rw[q]at mu;exact nm mu
 refine⟨fun b u q n _ _=>k b u (hb b n) q,fun b u q n _ _=>⟨u.slots,k b u (hb b n) q⟩,fun b u q n _=>by rw[Qd (hx b n)];exact n,fun b u q _=>?_,
  fun b xs q=>by rw[Qd (hm b _ q fun z=>z)];exact q,fun b u xs q=>by rw[Qd (hm b _ q fun z=>z)];exact q,fun b ps q=>⟨#[],by rw[Qd (hm b _ q fun z=>z),q];simp⟩⟩
 by_cases hbe:b=e
 ·subst hbe;exact heo
 ·exact⟨u,k b u hbe q⟩
end
def trk(h:Heap)(H:Hp):List Addr:=(List.range h.objs.size).filter fun a=>(H a).isSome
def JNa(h:Heap)(H:Hp):Heap:=W.hideAll h (trk h H)
theorem Q8b(h:Heap)(H:Hp):(JNa h H).objs.size=h.objs.size:=W.hideAll_size _ _
theorem ZUb{h:Heap}{H:Hp}{b:Addr}{o:Obj}(e:h.get? b=some o)(n:H b=none):(JNa h H).get? b=some o :=
 W.hideAll_get _ e fun hm=>by
  have q:(H b).isSome=true:=(mem_filter.mp hm).2;rw[n]at q;simp at q
theorem Yxb{h:Heap}{H:Hp}{b:Addr}{o:Obj}(e:(JNa h H).get? b=some o):h.get? b=some o/\H b=none:=by
 have e':h.get? b=some o:=W.of_hideAll (trk h H) e;refine⟨e',?_⟩
 cases q:H b with
 | none=>rfl
 | some x =>
  have hm:b∈trk h H:=mem_filter.mpr ⟨mem_range.mpr (Vh e'),by simp[q]⟩
  have z:(JNa h H).get? b=none:=W.hideAll_none (trk h H) hm;rw[z]at e;cases e
def Yyb(g h:Heap)(L:Addr):YP_:=(List.range h.objs.size).filterMap fun a=>if a=L\/(g.get? a).isSome=true then none else (h.get? a).map fun o=>(a,o)
def rest(g h:Heap)(L d:Addr):YP_:=(Yyb g h L).filter fun p=>decide (p.1≠d)
structure Mod(K:W.Frag)(mg:Str->Option Value)(base:Heap):Prop where
 kin:K.In base
 glob:base.Ns mainGlobals mg
 blt:∃ mb,base.Ns builtinsNs mb/\∀ x:Str,x≠"__name__"->mb x=bootBuiltins x
 nolimit:base.NoLimit
structure Cx where
 prog:Program
 w:World
 K:W.Frag
 mg:Str->Option Value
 base:Heap
 A:Around
 N:List Str
 s₀:Shared
 H₀:Hp
 env:Env
 outer:List Env
 stack:List Env
 ex:List Addr
 fn:Str->Bool
 calm:Bool
 pn:YP_
 xe:YQ_
def frs(l:List Env):List Addr:=l.filterMap (·.frame)
abbrev Cx.fs(X:Cx):List Addr:=frs X.outer
def Vis(sc:Scope)(x:Str):Prop:=sc.names.lookup x=some .local\/sc.names.lookup x=some .cell\/sc.names.lookup x=some .free
def Loc(sc:Scope)(x:Str):Prop:=sc.names.lookup x=some .local\/sc.names.lookup x=some .cell
def ZOc(env:Env)(h:Heap)(m:Str->Option Value)(x:Str)(u:Value):Prop :=
 (env.kindOf x=some .local/\m x=some u)\/((env.kindOf x=some .cell\/env.kindOf x=some .free)/\∃ c,env.cells.lookup x=some c/\h.IsCell c (some u))
structure Cx.Ok(X:Cx):Prop where
 mod:Mod X.K X.mg X.base
 kind:X.env.scope.kind=.function
 glob:X.env.globals=mainGlobals
 blt:X.env.builtins=builtinsNs
 above:X.s₀.heap.objs.size<=X.env.locals
 inj:∀ x y c,X.env.cells.lookup x=some c->X.env.cells.lookup y=some c->x=y
 has:∀ x,(X.env.kindOf x=some .cell\/X.env.kindOf x=some .free)->∃ c,X.env.cells.lookup x=some c
 cab:∀ x c,X.fn x=true->X.env.cells.lookup x=some c->X.s₀.heap.objs.size<=c
 hd:X.calm=true->X.A.handled=none
 frames:X.A.frames=some X.stack
 stk:X.stack=X.outer\/(X.stack=X.env::X.outer/\X.env.frame=some X.env.locals)
 exf:∀ b∈X.ex,b≠X.env.locals/\∀ x c,X.env.cells.lookup x=some c->c≠b
 bs:∀ b o,X.base.get? b=some o->X.s₀.heap.get? b=some o/\X.H₀ b=none
 bsz:X.base.objs.size<=X.s₀.heap.objs.size
 noex:∀ b o,X.base.get? b=some o->b∉X.ex
 exfs:∀ b∈X.ex,b∉X.fs
 funs:X.s₀.heap.FunFrames X.base X.outer
 frf:∀ b∈X.fs,X.H₀ b=none
structure Inv(X:Cx)(pins:YP_)(σ:List (Option V))(H:Hp)(s:Shared):Prop where
 ok:X.Ok
 os:s.os=X.s₀.os
 bare:AllBare s.gens
 base:Un X.fs X.ex X.H₀ H X.s₀.heap s.heap
 loc:∃ m,s.heap.Ns X.env.locals m/\∀ (i:Nat) (x:Str) (v:V),X.N[i]?=some x->σ[i]?=some (some v)->Vis X.env.scope x->∃ u,Qr v u/\ZOc X.env s.heap m x u
 cell:∀ x c,X.env.cells.lookup x=some c->∃ v,s.heap.IsCell c v
 free:H X.env.locals=none
 freeC:∀ x c,X.env.cells.lookup x=some c->H c=none
 pin:∀ p∈X.pn++pins,s.heap.get? p.1=some p.2/\H p.1=none/\p.1≠X.env.locals/\p.1∉X.fs/\∀ v,p.2.data≠.cell v
 hok:HOk X.prog X.w H s.heap
 len:σ.length=X.N.length
section
variable{X:Cx}{pins:YP_}{σ:List (Option V)}{H H':Hp}{s:Shared}{h':Heap}
theorem Cx.Ok.nofr(ok:X.Ok){b:Addr}{o:Obj}(e:X.base.get? b=some o):b∉X.fs:=fun hb=>by
 have:=(ok.funs.mem hb).1;rw[e]at this;cases this
theorem Inv.bs(I:Inv X pins σ H s):∀ b o,X.base.get? b=some o->s.heap.get? b=some o/\H b=none:=fun b o e =>
 ⟨I.base.keep b o (I.ok.bs b o e).1 (I.ok.bs b o e).2 (I.ok.nofr e) (I.ok.noex b o e),I.base.free b o (I.ok.bs b o e).1 (I.ok.bs b o e).2 (I.ok.noex b o e)⟩
theorem Inv.bk(I:Inv X pins σ H s):∀ b o,X.base.get? b=some o->s.heap.get? b=some o:=fun b o e=>(I.bs b o e).1
theorem Inv.mod(I:Inv X pins σ H s):Mod X.K X.mg X.base:=I.ok.mod
theorem Inv.kIn(I:Inv X pins σ H s):X.K.In s.heap:=I.ok.mod.kin.keeps I.bk
theorem Inv.lt(I:Inv X pins σ H s):X.env.locals < s.heap.objs.size:=let ⟨_,hn,_⟩:=I.loc;hn.lt
theorem Inv.sz(I:Inv X pins σ H s):X.s₀.heap.objs.size<=s.heap.objs.size:=Vj I.ok.above (Vv I.lt)
theorem Inv.nofs(I:Inv X pins σ H s){a:Addr}(h:s.heap.objs.size<=a):a∉X.fs:=fun hb=>by
 obtain⟨_,o,ho,_⟩:=I.ok.funs.mem hb;exact absurd (Vt (Vh ho) (Vj I.sz h)) (Vu _)
theorem Inv.cne(I:Inv X pins σ H s):∀ x c,X.env.cells.lookup x=some c->c≠X.env.locals:=fun x c e z=>by
 obtain⟨v,o,ho,hd⟩:=I.cell x c e;obtain⟨m,⟨o',es,ep,ho',hd',_⟩,_⟩:=I.loc;rw[z,ho']at ho;cases ho;rw[hd']at hd;cases hd
theorem Inv.funs(I:Inv X pins σ H s):s.heap.FunFrames X.base X.outer:=by
 have all:∀ (l:List Env),(∀ b∈frs l,b∈X.fs)->X.s₀.heap.FunFrames X.base l->s.heap.FunFrames X.base l:=by
  intro l
  induction l with
  | nil=>intro _ _;trivial
  | cons env r ih =>
   intro hs hl;obtain⟨hk,⟨L,o,hf,hn,ho,hd⟩,hr⟩:=hl;have hL:L∈X.fs:=hs L (by unfold frs;rw[filterMap_cons,hf];exact mem_cons_self)
   obtain⟨sl,e⟩:=I.base.slot L o ho (I.ok.frf L hL) hL fun z=>I.ok.exfs L z hL
   exact⟨hk,⟨L,_,hf,hn,e,hd⟩,ih (fun b hb=>hs b (by unfold frs;rw[filterMap_cons,hf];exact Vo _ hb)) hr⟩
 exact all X.outer (fun _ hb=>hb) I.ok.funs
theorem Inv.stack(I:Inv X pins σ H s):s.heap.FunFrames X.base X.stack:=by
 rcases I.ok.stk with e | ⟨e,hf⟩
 ·rw[e];exact I.funs
 ·rw[e]
  obtain⟨m,hn,_⟩:=I.loc;refine .cons (by rw[I.ok.kind];decide) hf hn ?_ I.funs
  exact Heap.get?_none_of_le (Vj I.ok.bsz I.ok.above)
theorem Inv.stkSub(I:Inv X pins σ H s):∀ b∈frs X.stack,b∈X.env.locals::X.fs:=fun b hb=>by
 rcases I.ok.stk with e | ⟨e,hf⟩
 ·rw[e]at hb;exact Vo _ hb
 ·rw[e]at hb
  unfold frs at hb;rw[filterMap_cons,hf]at hb;exact hb
theorem Inv.stkFree(I:Inv X pins σ H s):∀ b∈frs X.stack,H b=none:=fun b hb=>by
 rcases mem_cons.mp (I.stkSub b hb) with e | hb
 ·rw[e];exact I.free
 ·obtain⟨_,o,ho,_⟩:=I.ok.funs.mem hb
  exact I.base.free b o ho (I.ok.frf b hb) fun z=>I.ok.exfs b z hb
theorem Inv.step{g':Array GenState}{t':Nat}{d':Drawn}{ch:List Addr}(I:Inv X pins σ H s)
 (hch:∀ b∈ch,(b∈X.ex\/X.s₀.heap.objs.size<=b)/\b≠X.env.locals/\(∀ x c,X.env.cells.lookup x=some c->c≠b)/\∀ p∈X.pn++pins,p.1≠b)
 (keep:∀ b o,b≠X.env.locals->b∉X.fs->b∉ch->s.heap.get? b=some o->H b=none->h'.get? b=some o)
 (slot:∀ b o,b≠X.env.locals->b∈X.fs->b∉ch->s.heap.get? b=some o->H b=none->∃ sl,h'.get? b=some { o with slots:=sl }) (free:∀ b o,b∉ch->s.heap.get? b=some o->H b=none->H' b=none)
 (there:∀ b o,b∉ch->s.heap.get? b=some o->∃ o',h'.get? b=some o')
 (tups:∀ b xs,H b=some (.tup xs)->H' b=some (.tup xs)) (frzs:∀ b o u,H b=some (.frz o u)->H' b=some (.frz o u)) (tbls:∀ b ps,H b=some (.tbl ps)->∃ more,H' b=some (.tbl (ps++more)))
 (ns:∀ m,s.heap.Ns X.env.locals m->h'.Ns X.env.locals m) (hok:HOk X.prog X.w H' h') (hg:AllBare g') :
 Inv X pins σ H' { s with heap:=h',gens:=g',drawn:=d',toks:=t' }:=by
 have neL:∀ b o,X.s₀.heap.get? b=some o->b≠X.env.locals:=fun b o e=>Nat.ne_of_lt (Vt (Vh e) I.ok.above)
 have neC:∀ b o,X.s₀.heap.get? b=some o->b∉X.ex->b∉ch:=fun b o e hx hb=>by
  rcases(hch b hb).1 with z | z
  ·exact hx z
  ·exact absurd (Vt (Vh e) z) (Vu _)
 have cellK:∀ x c,X.env.cells.lookup x=some c->∀ v,s.heap.IsCell c v->h'.IsCell c v:=fun x c e v ⟨o,ho,hd⟩=>by
  have nch:c∉ch:=fun z=>(hch c z).2.2.1 x c e rfl
  by_cases hc:c∈X.fs
  ·obtain⟨sl,q⟩:=slot c o (I.cne x c e) hc nch ho (I.freeC x c e)
   exact⟨_,q,hd⟩
  ·exact⟨o,keep c o (I.cne x c e) hc nch ho (I.freeC x c e),hd⟩
 refine⟨I.ok,I.os,hg,⟨fun b o e n hb hx=>?_,fun b o e n hb hx=>?_,fun b o e n hx=>?_,fun b o e hx=>?_,fun b xs e=>tups b xs (I.base.tups b xs e),fun b o xs e=>frzs b o xs (I.base.frzs b o xs e),fun b ps e=>?_⟩,?_,fun x c e=>?_,?_,fun x c e=>?_,fun p hp=>?_,hok,I.len⟩
 ·exact keep b o (neL b o e) hb (neC b o e hx) (I.base.keep b o e n hb hx) (I.base.free b o e n hx)
 ·obtain⟨sl,e1⟩:=I.base.slot b o e n hb hx
  obtain⟨sl',e2⟩:=slot b _ (neL b o e) hb (neC b o e hx) e1 (I.base.free b o e n hx);exact⟨sl',e2⟩
 ·obtain⟨o',e1⟩:=I.base.there b o e hx
  exact free b o' (neC b o e hx) e1 (I.base.free b o e n hx)
 ·obtain⟨o',e1⟩:=I.base.there b o e hx
  exact there b o' (neC b o e hx) e1
 ·obtain⟨m1,e1⟩:=I.base.tbls b ps e
  obtain⟨m2,e2⟩:=tbls b _ e1;exact⟨m1++m2,by rw[e2,Array.append_assoc]⟩
 ·obtain⟨m,hn,hl⟩:=I.loc
  refine⟨m,ns m hn,fun i x v e1 e2 e3=>?_⟩
  obtain⟨u,r,l⟩:=hl i x v e1 e2 e3;refine⟨u,r,?_⟩
  rcases l with l | ⟨k,c,e,z⟩
  ·exact .inl l
  ·exact .inr ⟨k,c,e,cellK x c e _ z⟩
 ·obtain⟨v,z⟩:=I.cell x c e
  exact⟨v,cellK x c e v z⟩
 ·obtain⟨m,⟨o,_,_,ho,_⟩,_⟩:=I.loc
  exact free _ o (fun z=>(hch _ z).2.1 rfl) ho I.free
 ·obtain⟨v,o,ho,hd⟩:=I.cell x c e
  exact free c o (fun z=>(hch c z).2.2.1 x c e rfl) ho (I.freeC x c e)
 ·obtain⟨e,n,ne,nf,d⟩:=I.pin p hp
  have nch:p.1∉ch:=fun z=>(hch p.1 z).2.2.2 p hp rfl
  exact⟨keep p.1 p.2 ne nf nch e n,free p.1 p.2 nch e n,ne,nf,d⟩
theorem Inv.un{t':Nat}(I:Inv X pins σ H s)(u:Un X.fs [] H H' s.heap h')(hok:HOk X.prog X.w H' h'):Inv X pins σ H' { s with heap:=h',toks:=t' }:=by
 obtain⟨m,⟨o,es,ep,ho,r⟩,_⟩:=id I.loc;obtain⟨sl,hL⟩:=u.any ho I.free (by simp)
 exact I.step (g':=s.gens) (d':=s.drawn) (ch:=[]) (fun _ z=>nomatch z) (fun b o _ hb _ e n=>u.keep b o e n hb (by simp)) (fun b o _ hb _ e n=>u.slot b o e n hb (by simp)) (fun b o _ e n=>u.free b o e n (by simp)) (fun b o _ e=>u.there b o e (by simp)) u.tups u.frzs u.tbls (fun m' hm=>by
  obtain⟨o',es',ep',ho',r'⟩:=hm;rw[ho]at ho';cases ho';exact⟨_,es',ep',hL,r'⟩) hok I.bare
theorem Inv.call{g':Array GenState}{t':Nat}{d':Drawn}{ch:List Addr}(I:Inv X pins σ H s)(u:Un (frs X.stack) ch H H' s.heap h')(hok:HOk X.prog X.w H' h')(hg:AllBare g')
 (hch:∀ b∈ch,(b∈X.ex\/X.s₀.heap.objs.size<=b)/\b≠X.env.locals/\(∀ x c,X.env.cells.lookup x=some c->c≠b)/\∀ p∈X.pn++pins,p.1≠b) :
 Inv X pins σ H' { s with heap:=h',gens:=g',drawn:=d',toks:=t' }:=by
 obtain⟨m,⟨o,es,ep,ho,r⟩,_⟩:=id I.loc;obtain⟨sl,hL⟩:=u.any ho I.free fun z=>(hch _ z).2.1 rfl
 exact I.step (ch:=ch) hch (fun b o hL hb hc e n=>u.keep b o e n (fun z=>(mem_cons.mp (I.stkSub b z)).elim hL hb) hc) (fun b o _ _ hc e n=>u.any e n hc) (fun b o hc e n=>u.free b o e n hc) (fun b o hc e=>u.there b o e hc) u.tups u.frzs u.tbls (fun m' hm=>by
  obtain⟨o',es',ep',ho',r'⟩:=hm;rw[ho]at ho';cases ho';exact⟨_,es',ep',hL,r'⟩) hok hg
theorem Inv.turned{t':Nat}{it:Addr}(I:Inv X pins σ H s)(k:∀ b o,b≠it->s.heap.get? b=some o->h'.get? b=some o)(hn:H it=none)(hL:it≠X.env.locals)
 (h1:it∈X.ex\/X.s₀.heap.objs.size<=it) (h2:∀ x c,X.env.cells.lookup x=some c->c≠it) (h3:∀ p∈X.pn++pins,p.1≠it):Inv X pins σ H { s with heap:=h',toks:=t' }:=by
 have nit:∀ b u,H b=some u->b≠it:=fun b u e z=>by rw[z,hn]at e;cases e
 refine I.step (g':=s.gens) (d':=s.drawn) (ch:=[it]) (fun b hb=>?_) (fun b o _ _ hc e _=>k b o (fun z=>hc (by simp[z])) e) (fun b o _ _ hc e _=>⟨o.slots,k b o (fun z=>hc (by simp[z])) e⟩) (fun _ _ _ _ n=>n)
  (fun b o hc e=>⟨o,k b o (fun z=>hc (by simp[z])) e⟩) (fun _ _ e=>e) (fun _ _ _ e=>e) (fun b ps e=>⟨#[],by rw[e];simp⟩) (fun m hm=>?_) (fun b u e=>?_) I.bare
 ·have e:b=it:=by simpa using hb
  subst e;exact⟨h1,hL,h2,h3⟩
 ·obtain⟨o,es,ep,ho,r⟩:=hm
  exact⟨o,es,ep,k _ o (Ne.symm hL) ho,r⟩
 ·refine(I.hok b u e).stay (fun c v hc q=>k c v ?_ q) (fun _ q=>q) fun _ _ q=>q
  rcases hc with z | z
  ·rw[z];exact nit b u e
  ·exact nit c _ z
theorem Inv.tok(I:Inv X pins σ H s)(t:Nat):Inv X pins σ H { s with toks:=t }:=I.un (h':=s.heap) (t':=t) Un.refl I.hok
theorem Inv.kept{t':Nat}(I:Inv X pins σ H s)(k:∀ b u,s.heap.get? b=some u->h'.get? b=some u):Inv X pins σ H { s with heap:=h',toks:=t' }:=I.un (Un.kept k) (I.hok.kept k)
theorem Inv.laid{a:Addr}{o:HO}{t':Nat}(I:Inv X pins σ H s)(k:∀ b u,s.heap.get? b=some u->h'.get? b=some u)(hp:s.heap.objs.size<=a)(new:QB X.prog X.w (upd H a o) h' a o) :
 Inv X pins σ (upd H a o) { s with heap:=h',toks:=t' }:=I.un (Un.laid k hp (I.hok.fresh hp)) (I.hok.laid k hp new)
theorem Inv.write{x e:Addr}{o:HO}{t':Nat}(I:Inv X pins σ H s)(mu:Mut (H x))(he:e=x\/H e=some (.own x))(k:∀ b u,b≠e->s.heap.get? b=some u->h'.get? b=some u)(heo:∃ u,h'.get? e=some u)
 (new:QB X.prog X.w (upd H x o) h' x o):Inv X pins σ (upd H x o) { s with heap:=h',toks:=t' }:=I.un (Un.write mu he k heo) (I.hok.write mu he k heo new)
theorem Inv.pins_of{pins':YP_}(I:Inv X pins σ H s)(h:∀ p∈pins',s.heap.get? p.1=some p.2/\H p.1=none/\p.1≠X.env.locals/\p.1∉X.fs/\∀ v,p.2.data≠.cell v):Inv X pins' σ H s :=
 ⟨I.ok,I.os,I.bare,I.base,I.loc,I.cell,I.free,I.freeC,fun p hp=>(Vl.mp hp).elim (fun z=>I.pin p (mem_append_left _ z)) (h p),I.hok,I.len⟩
theorem YAa{N:List Str}(hN:N.Nodup){i j:Nat}{x:Str}(a:N[i]?=some x)(b:N[j]?=some x):i=j:=by
 obtain⟨h1,e1⟩:=Vc.mp a
 obtain⟨h2,e2⟩:=Vc.mp b
 exact(getElem_inj hN).mp (e1.trans e2.symm)
theorem Q9b{M:Model}{A:Around}{E:YQ_}{i:Nat}{x:Str}{v:V}{u:Value}{Q:Unit->Shared->Prop}(I:Inv X pins σ H s)(hN:X.N.Nodup)(hi:X.N[i]?=some x)(hx:Loc X.env.scope x)(r:Qr v u)
 (h:∀ s',Inv X pins (σ.set i (some v)) H s'->(∃ a,Heap.SameBut a s.heap s'.heap/\(a=X.env.locals\/X.env.cells.lookup x=some a))->Q () s') (hf:X.fn x=true\/X.env.scope.names.lookup x=some .local:=by first | exact .inl rfl | exact .inr rfl | assumption):wpAny M A (storeName X.env x u) Q E s:=by
 obtain⟨m,hn,hl⟩:=id I.loc;have hcls:(X.env.scope.kind == .class || (X.env.scope.kind == .module && X.env.locals != X.env.globals))=false:=by rw[I.ok.kind];rfl
 have hiσ:i < σ.length:=by rw[I.len];exact(Vc.mp hi).1
 have cne:=I.cne;have tracked:∀ {a:Addr} {h':Heap},(∃ o,s.heap.get? a=some o/\H a=none)->Heap.SameBut a s.heap h'->HOk X.prog X.w H h':=fun {a h'} ha hs b ob e=>by
  obtain⟨_,_,hfree⟩:=ha;refine(I.hok b ob e).stay (fun c w' hc q=>(hs.2 c ?_).trans q) (fun _ q=>q) fun _ _ q=>q
  rintro rfl
  rcases hc with rfl | hc
  ·rw[hfree]at e;cases e
  ·rw[hfree]at hc;cases hc
 rcases hx with hk | hk
 ·refine wpAny_storeName_local hk hn (fun h' hn' hs=>?_) hcls
  obtain⟨oL,_,_,hoL,_⟩:=id hn;refine h _ ⟨I.ok,I.os,I.bare,⟨fun b o e n hb hx=>?_,fun b o e n hb hx=>?_,I.base.free,fun b o e hx=>?_,I.base.tups,I.base.frzs,I.base.tbls⟩,⟨_,hn',fun j y v' e1 e2 e3=>?_⟩,fun y c e=>?_,I.free,I.freeC,fun p hp=>?_,tracked ⟨oL,hoL,I.free⟩ hs,by simpa using I.len⟩ ⟨_,hs,.inl rfl⟩
  ·exact(hs.2 b (Nat.ne_of_lt (Vt (Vh e) I.ok.above))).trans (I.base.keep b o e n hb hx)
  ·obtain⟨sl,e1⟩:=I.base.slot b o e n hb hx
   exact⟨sl,(hs.2 b (Nat.ne_of_lt (Vt (Vh e) I.ok.above))).trans e1⟩
  ·obtain⟨o',e1⟩:=I.base.there b o e hx
   exact⟨o',(hs.2 b (Nat.ne_of_lt (Vt (Vh e) I.ok.above))).trans e1⟩
  ·by_cases hj:j=i
   ·subst hj
    rw[hi]at e1;cases e1;rw[getElem?_set_self hiσ]at e2
    cases e2;exact⟨u,r,.inl ⟨hk,by simp⟩⟩
   ·rw[getElem?_set_ne (Ne.symm hj)]at e2
    obtain⟨u',r',q⟩:=hl j y v' e1 e2 e3;refine⟨u',r',?_⟩
    rcases q with ⟨k,e⟩ | ⟨k,c,e,z⟩
    ·refine .inl ⟨k,?_⟩
     have:y≠x:=fun e=>hj (YAa hN e1 (e ▸ hi))
     simp[this,e]
    ·exact .inr ⟨k,c,e,z.sameBut hs (cne y c e)⟩
  ·obtain⟨w',z⟩:=I.cell y c e
   exact⟨w',z.sameBut hs (cne y c e)⟩
  ·obtain⟨e,n,ne,nf,d⟩:=I.pin p hp
   exact⟨(hs.2 p.1 ne).trans e,n,ne,nf,d⟩
 ·have hfn:X.fn x=true:=by
   rcases hf with z | z
   ·exact z
   ·rw[z]at hk;cases hk
  obtain⟨c,hc⟩:=I.ok.has x (.inl hk);obtain⟨w',z⟩:=I.cell x c hc;refine wpAny_storeName_cell I.ok.kind hk hc z (fun h' hc' hs=>?_)
  obtain⟨oc,hoc,hocd⟩:=id z;refine h { s with heap:=h' } ⟨I.ok,I.os,I.bare,⟨fun b o e n hb hx=>?_,fun b o e n hb hx=>?_,I.base.free,fun b o e hx=>?_,I.base.tups,I.base.frzs,I.base.tbls⟩,⟨m,hn.sameBut hs (Ne.symm (cne x c hc)),fun j y v' e1 e2 e3=>?_⟩,fun y c' e=>?_,I.free,I.freeC,fun p hp=>?_,tracked ⟨oc,hoc,I.freeC x c hc⟩ hs,by simpa using I.len⟩ ⟨c,hs,.inr hc⟩
  ·exact(hs.2 b (Nat.ne_of_lt (Vt (Vh e) (I.ok.cab x c hfn hc)))).trans (I.base.keep b o e n hb hx)
  ·obtain⟨sl,e1⟩:=I.base.slot b o e n hb hx
   exact⟨sl,(hs.2 b (Nat.ne_of_lt (Vt (Vh e) (I.ok.cab x c hfn hc)))).trans e1⟩
  ·obtain⟨o',e1⟩:=I.base.there b o e hx
   exact⟨o',(hs.2 b (Nat.ne_of_lt (Vt (Vh e) (I.ok.cab x c hfn hc)))).trans e1⟩
  ·by_cases hj:j=i
   ·subst hj
    rw[hi]at e1;cases e1;rw[getElem?_set_self hiσ]at e2
    cases e2;exact⟨u,r,.inr ⟨.inl hk,c,hc,hc'⟩⟩
   ·rw[getElem?_set_ne (Ne.symm hj)]at e2
    obtain⟨u',r',q⟩:=hl j y v' e1 e2 e3;refine⟨u',r',?_⟩
    rcases q with q | ⟨k,c',e,z'⟩
    ·exact .inl q
    ·refine .inr ⟨k,c',e,z'.sameBut hs ?_⟩
     rintro rfl;exact hj (YAa hN e1 (I.ok.inj _ _ _ e hc ▸ hi))
  ·by_cases hcc:c'=c
   ·subst hcc;exact⟨_,hc'⟩
   ·obtain⟨w2,z2⟩:=I.cell y c' e
    exact⟨w2,z2.sameBut hs hcc⟩
  ·obtain⟨e,n,ne,nf,d⟩:=I.pin p hp
   refine⟨(hs.2 p.1 ?_).trans e,n,ne,nf,d⟩
   intro q;rw[q,hoc]at e;have q':oc=p.2:=Option.some.inj e;exact d w' (by rw[<- q'];exact hocd)
theorem YBa{M:Model}{A:Around}{E:YQ_}{i:Nat}{x:Str}{v:V}{u:Value}{Q:Unit->Shared->Prop}(I:Inv X pins σ H s)(hN:X.N.Nodup)(hi:X.N[i]?=some x)(hx:Loc X.env.scope x)(r:Qr v u)
 (h:∀ s',Inv X pins (σ.set i (some v)) H s'->Q () s') (hf:X.fn x=true\/X.env.scope.names.lookup x=some .local:=by first | exact .inl rfl | exact .inr rfl | assumption):wpAny M A (storeName X.env x u) Q E s :=
 Q9b I hN hi hx r (fun s' I' _=>h s' I') hf
theorem Inv.call'{s':Shared}{ch:List Addr}(I:Inv X pins σ H s)(ho:s'.os=s.os)(u:Un (frs X.stack) ch H H' s.heap s'.heap)(hok:HOk X.prog X.w H' s'.heap)(hg:AllBare s'.gens)
 (hch:∀ b∈ch,(b∈X.ex\/X.s₀.heap.objs.size<=b)/\b≠X.env.locals/\(∀ x c,X.env.cells.lookup x=some c->c≠b)/\∀ p∈X.pn++pins,p.1≠b):Inv X pins σ H' s':=by
 obtain⟨h',g',d',t',o'⟩:=s';have e:o'=s.os:=ho;subst e;exact I.call (g':=g') (t':=t') (d':=d') u hok hg hch
end
abbrev XK:=Value->Option Addr->Hp->Prop
abbrev St:=List (Option V)
abbrev VK:=V->Hp->Prop
abbrev TE:=St->Hp->VK->Prop
abbrev TT:=St->Hp->(Bool->Hp->Prop)->Prop
abbrev TA:=St->Hp->(List V->Hp->Prop)->Prop
structure Jb where
 nx:St->Hp->Prop
 rt:VK
 bk:St->Hp->Prop:=fun _ _=>False
 ct:St->Hp->Prop:=fun _ _=>False
abbrev TS:=Jb->St->Hp->Prop
def EP(X:Cx)(pins:YP_)(σ:St)(Q:VK)(u:Value)(s':Shared):Prop:=∃ v H',Inv X pins σ H' s'/\Qr v u/\Q v H'
def TP(X:Cx)(pins:YP_)(σ:St)(Q:Bool->Hp->Prop)(b:Bool)(s':Shared):Prop:=∃ H',Inv X pins σ H' s'/\Q b H'
def AP(X:Cx)(pins:YP_)(σ:St)(Q:List V->Hp->Prop)(us:List Value)(s':Shared):Prop:=∃ vs H',Inv X pins σ H' s'/\Qv vs us/\Q vs H'
def SP(X:Cx)(pins:YP_)(D:Jb)(f:Flow)(s':Shared):Prop :=
 match f with
 | .next=>∃ σ' H',Inv X pins σ' H' s'/\D.nx σ' H'
 | .brk=>∃ σ' H',Inv X pins σ' H' s'/\D.bk σ' H'
 | .cont=>∃ σ' H',Inv X pins σ' H' s'/\D.ct σ' H'
 | .ret u=>∃ v σ' H',Inv X pins σ' H' s'/\Qr v u/\D.rt v H'
def PE(X:Cx)(e:Expr)(t:TE):Prop :=
 ∀ (pins:YP_) (s:Shared) (σ:St) (H:Hp) (Q:VK),Inv X pins σ H s->t σ H Q->wpAny (model X.prog X.w) X.A (eval e X.env) (EP X pins σ Q) X.xe s
def PT(X:Cx)(e:Expr)(t:TT):Prop :=
 ∀ (pins:YP_) (s:Shared) (σ:St) (H:Hp) (Q:Bool->Hp->Prop),Inv X pins σ H s->t σ H Q->wpAny (model X.prog X.w) X.A (isTrue e X.env (eval e X.env)) (TP X pins σ Q) X.xe s
def PW(X:Cx)(e:Expr)(t:TT):Prop :=
 ∀ (whole:Sem Value) (pins:YP_) (s:Shared) (σ:St) (H:Hp) (Q:Bool->Hp->Prop),Inv X pins σ H s->t σ H Q->wpAny (model X.prog X.w) X.A (isTrue e X.env whole) (TP X pins σ Q) X.xe s
theorem PW.pt{X:Cx}{e:Expr}{t:TT}(h:PW X e t):PT X e t:=h _
def PA(X:Cx)(es:List Expr)(t:TA):Prop :=
 ∀ (pos:Pos) (pins:YP_) (s:Shared) (σ:St) (H:Hp) (Q:List V->Hp->Prop),Inv X pins σ H s->t σ H Q->wpAny (model X.prog X.w) X.A (spliced (backTo pos (starEach es X.env))) (AP X pins σ Q) X.xe s
def PS(X:Cx)(st:Stmt)(t:TS):Prop :=
 ∀ (pins:YP_) (s:Shared) (σ:St) (H:Hp) (D:Jb),Inv X pins σ H s->t D σ H->wpAny (model X.prog X.w) X.A (exec st X.env) (SP X pins D) X.xe s
def PSs(X:Cx)(st:List Stmt)(t:TS):Prop :=
 ∀ (pins:YP_) (s:Shared) (σ:St) (H:Hp) (D:Jb),Inv X pins σ H s->t D σ H->wpAny (model X.prog X.w) X.A (execs st X.env) (SP X pins D) X.xe s
theorem thn{α:Type}{t:Sem α}{Q Q':α->Shared->Prop}{M:Model}{A:Around}{E:YQ_}{s:Shared}(h:wpAny M A t Q E s)(hQ:∀ a s,Q a s->Q' a s):wpAny M A t Q' E s:=wpAny_mono h hQ fun _ _ x=>x
section
variable{X:Cx}
def J9(i:Nat):TE:=fun σ H Q=>match σ[i]? with | some (some v)=>Q v H | _=>False
theorem Yzb{i:Nat}{σ:St}{H:Hp}{Q:VK}(h:J9 i σ H Q):∃ v,σ[i]?=some (some v)/\Q v H:=by
 unfold J9 at h
 split at h
 ·exact⟨_,‹_›,h⟩
 ·exact h.elim
theorem QZa{i:Nat}{σ:St}{H:Hp}{Q:VK}{v:V}(e:σ[i]?=some (some v))(q:Q v H):J9 i σ H Q:=by
 unfold J9;rw[e];exact q
theorem Xxa{σ:St}{H:Hp}{Q:VK}{v:V}:J9 0 (some v::σ) H Q=Q v H:=rfl
theorem Xya{σ:St}{H:Hp}{Q:VK}{i:Nat}{x:Option V}:J9 (i+1) (x::σ) H Q=J9 i σ H Q:=rfl
def tC(v:V):TE:=fun _ H Q=>Q v H
theorem Qac{i:Nat}{x:Str}{pos:Pos}(hN:X.N[i]?=some x)(hv:Vis X.env.scope x)(hd:(x == ("__debug__":Str))=false:=by decide)(hcd:(x == ("__classdict__":Str))=false:=by decide):PE X (.Name x pos) (J9 i):=by
 intro pins s σ H Q I h;obtain⟨v,e,h⟩:=Yzb h;obtain⟨m,hn,hl⟩:=I.loc;obtain⟨u,r,l⟩:=hl i x v hN e hv;have fin:EP X pins σ Q u s:=⟨v,H,I,r,h⟩
 rcases l with ⟨hk,hm⟩ | ⟨hk,c,hc,hcell⟩
 ·exact wpAny_Name (wpAny_loadName_local I.ok.kind hk hn hm fin) hd
 ·rcases hk with hk | hk
  ·exact wpAny_Name (wpAny_loadName_cell I.ok.kind hk hc hcell fin) hd
  ·exact wpAny_Name (wpAny_loadName_free I.ok.kind hk hc hcell fin hcd) hd
theorem Qb{i j pos}:PE X (.Constant (.int i) j pos) (tC (.int i)):=fun _ _ _ H _ I h=>wpAny_Constant_int ⟨.int i,H,I.tok _,⟨_,rfl⟩,h⟩
theorem Zca{b j pos}:PE X (.Constant (.bool b) j pos) (tC (.bl b)):=fun _ _ _ H _ I h=>Constant_bool ⟨.bl b,H,I,rfl,h⟩
theorem Qha{j pos}:PE X (.Constant .none j pos) (tC .non):=fun _ _ _ H _ I h=>Constant_none ⟨.non,H,I,rfl,h⟩
theorem Ye{x j pos}:PE X (.Constant (.str x) j pos) (tC (.str x)):=fun _ _ _ H _ I h=>Calls.Constant_str ⟨.str x,H,I.tok _,⟨_,rfl⟩,h⟩
def Gl(X:Cx)(x:Str):Prop:=X.env.kindOf x=some .globalImplicit
theorem JM{E:YQ_}{pins:YP_}{s:Shared}{σ:St}{H:Hp}{x:Str}{u:Value}{pos:Pos}{Q:YQ_}(I:Inv X pins σ H s)(hg:Gl X x)(hm:X.mg x=some u)(h:Q u s)
 (hd:(x == ("__debug__":Str))=false:=by decide):wpAny (model X.prog X.w) X.A (eval (.Name x pos) X.env) Q E s :=
 Calls.Name_function_global I.ok.kind hg (Calls.loadGlobal_global (by rw[I.ok.glob];exact I.mod.glob.keeps I.bk) hm h) hd
theorem Zda{E:YQ_}{pins:YP_}{s:Shared}{σ:St}{H:Hp}{x:Str}{u:Value}{pos:Pos}{Q:YQ_}(I:Inv X pins σ H s)(hg:Gl X x)(hm:X.mg x=none)(hv:bootBuiltins x=some u)(h:Q u s)
 (hn:x≠"__name__":=by decide) (hd:(x == ("__debug__":Str))=false:=by decide):wpAny (model X.prog X.w) X.A (eval (.Name x pos) X.env) Q E s:=by
 obtain⟨mb,h1,h2⟩:=I.mod.blt;exact Calls.Name_function_global I.ok.kind hg (Calls.loadGlobal_builtin (by rw[I.ok.glob];exact I.mod.glob.keeps I.bk) hm (by rw[I.ok.blt];exact h1.keeps I.bk) ((h2 x hn).trans hv) h) hd
theorem YAb{x:Str}{v:V}{u:Value}{pos:Pos}(hg:Gl X x)(hm:X.mg x=some u)(r:Qr v u)(hd:(x == ("__debug__":Str))=false:=by decide):PE X (.Name x pos) (tC v) :=
 fun _ _ _ H _ I h=>JM I hg hm ⟨v,H,I,r,h⟩ hd
theorem Q0a{x:Str}{v:V}{u:Value}{pos:Pos}(hg:Gl X x)(hm:X.mg x=none)(hv:bootBuiltins x=some u)(r:Qr v u)(hn:x≠"__name__":=by decide)(hd:(x == ("__debug__":Str))=false:=by decide):PE X (.Name x pos) (tC v) :=
 fun _ _ _ H _ I h=>Zda I hg hm hv ⟨v,H,I,r,h⟩ hn hd
variable{a b:Expr}{ta tb:TE}{pos:Pos}
def PC(X:Cx)(op:CmpOp)(a b:Expr)(t:TE):Prop :=
 ∀ (pins:YP_) (s:Shared) (σ:St) (H:Hp) (Q:VK),Inv X pins σ H s->t σ H Q ->
  wpAny (model X.prog X.w) X.A (eval a X.env) (fun v s₁=>wpAny (model X.prog X.w) X.A (eval b X.env) (fun u s₂=>wpAny (model X.prog X.w) X.A (compareOp op v u) (EP X pins σ Q) X.xe s₂) X.xe s₁) X.xe s
def tB(t:TE):TT:=fun σ H Q=>t σ H fun x H1=>∃ c,x=.bl c/\Q c H1
theorem ZVb{op:CmpOp}{t:TE}(h:PC X op a b t)(h1:behindInMarks op b=false:=by first | exact nobehind _ (by decide) (by decide) | rfl):PT X (.Compare a [op] [b] pos) (tB t):=by
 intro pins s σ H Q I hw;refine wpAny_isTrue_Compare1 (thn (h pins s σ H _ I hw) fun v s1 h1=>thn h1 fun u s2 h2=>thn h2 fun c s3 hZ=>?_) h1
 obtain⟨x,H1,I1,r1,q1⟩:=hZ;obtain⟨d,rfl,q⟩:=q1;cases r1;exact wpAny_truthy_bool ⟨H1,I1,q⟩
theorem XA{e:Expr}{t:TE}(h:PE X e t)(he:∀ whole,isTrue e X.env whole=(do let v <- whole;standAt e.pos;holding [v] (truthy v)):=by intro _;rfl):PT X e (tB t):=by
 intro pins s σ H Q I hw;refine isTrue_plain (thn (h pins s σ H _ I hw) fun v s1 hZ=>?_) (he _)
 obtain⟨x,H1,I1,r1,q1⟩:=hZ;obtain⟨d,rfl,q⟩:=q1;cases r1;exact wpAny_truthy_bool ⟨H1,I1,q⟩
variable{tA tB':TT}{rest:List Expr}
def Q8c(t u:TT):TT:=fun σ H Q=>t σ H fun c H1=>if c=true then u σ H1 Q else Q false H1
def tOr(t u:TT):TT:=fun σ H Q=>t σ H fun c H1=>if c=true then Q true H1 else u σ H1 Q
def Q9c(t:TT):TT:=fun σ H Q=>t σ H fun c H1=>Q (!c) H1
theorem JOa(ha:PT X a tA):PW X (.BoolOp .And [a] pos) tA:=by
 intro wh pins s σ H Q I h;refine isTrue_and (thn (ha pins s σ H Q I h) fun c s1 e=>?_)
 cases c with
 | true=>exact isTrue_and_nil e
 | false=>exact e
theorem JPa(ha:PT X a tA):PW X (.BoolOp .Or [a] pos) tA:=by
 intro wh pins s σ H Q I h;refine isTrue_or (thn (ha pins s σ H Q I h) fun c s1 e=>?_)
 cases c with
 | false=>exact isTrue_or_nil e
 | true=>exact e
theorem Xza(ha:PT X a tA)(hb:PW X (.BoolOp .And (b::rest) pos) tB'):PW X (.BoolOp .And (a::b::rest) pos) (Q8c tA tB'):=by
 intro wh pins s σ H Q I h;refine isTrue_and (thn (ha pins s σ H _ I h) fun c s1 hZ=>?_)
 obtain⟨H1,I1,q1⟩:=hZ;cases c with
 | true=>exact hb wh pins s1 σ H1 Q I1 q1
 | false=>exact⟨H1,I1,q1⟩
theorem Qnb(ha:PT X a tA)(hb:PW X (.BoolOp .Or (b::rest) pos) tB'):PW X (.BoolOp .Or (a::b::rest) pos) (tOr tA tB'):=by
 intro wh pins s σ H Q I h;refine isTrue_or (thn (ha pins s σ H _ I h) fun c s1 hZ=>?_)
 obtain⟨H1,I1,q1⟩:=hZ;cases c with
 | true=>exact⟨H1,I1,q1⟩
 | false=>exact hb wh pins s1 σ H1 Q I1 q1
theorem JQa(ha:PT X a tA):PT X (.UnaryOp .Not a pos) (Q9c tA):=by
 intro pins s σ H Q I h;exact isTrue_not (ha pins s σ H (fun c H1=>Q (!c) H1) I h)
def XGb(ta tb:TE):TE:=fun σ H Q=>ta σ H fun x H1=>∃ c,x=.bl c/\if c=true then tb σ H1 Q else Q (.bl false) H1
theorem Qbc{op}{t:TE}(h:PE X a t):PE X (.BoolOp op [a] pos) t:=fun pins s σ H Q I hw=>BoolOp_one (h pins s σ H Q I hw)
theorem Qcc(ha:PE X a ta)(hb:PE X (.BoolOp .And (b::rest) pos) tb):PE X (.BoolOp .And (a::b::rest) pos) (XGb ta tb):=by
 intro pins s σ H Q I h;refine BoolOp_and (thn (ha pins s σ H _ I h) fun v s1 hZ=>?_)
 obtain⟨x,H1,I1,r1,q1⟩:=hZ;obtain⟨c,rfl,q1⟩:=q1;cases r1;refine wpAny_truthy_bool ?_
 cases c with
 | true=>exact hb pins s1 σ H1 Q I1 q1
 | false=>exact⟨.bl false,H1,I1,rfl,q1⟩
def tIf(t:TT)(ta tb:TE):TE:=fun σ H Q=>t σ H fun c H1=>if c=true then ta σ H1 Q else tb σ H1 Q
theorem ZWb{c:Expr}(hc:PT X c tA)(ha:PE X a ta)(hb:PE X b tb):PE X (.IfExp c a b pos) (tIf tA ta tb):=by
 intro pins s σ H Q I h;refine wpAny_IfExp (thn (hc pins s σ H _ I h) fun d s1 hZ=>?_)
 obtain⟨H1,I1,q1⟩:=hZ;cases d with
 | true=>exact ha pins s1 σ H1 Q I1 q1
 | false=>exact hb pins s1 σ H1 Q I1 q1
end
def SqL(K:W.Frag)(H:Hp)(a:Addr)(xs:List V):Prop :=
 Rd H a (.lst xs) \/
  ∃ (o:Obj) (its:Array Value) (n:Nat),K.lookup a=some o/\o.cls=.type "list"/\o.dict=none/\o.data=.seq its n/\its.size<=sizeLine/\Qv xs its.toList
def SqT(K:W.Frag)(H:Hp)(a:Addr)(xs:List V):Prop :=
 Rd H a (.tup xs) \/
  ∃ (o:Obj) (its:Array Value) (n:Nat),K.lookup a=some o/\o.cls=.type "tuple"/\o.data=.seq its n/\its.size<=sizeLine/\Qv xs its.toList
def ZPc:Value->Option V
 | .none=>some .non
 | .bool b=>some (.bl b)
 | .int i _=>some (.int i)
 | .str x _=>some (.str x)
 | .bytes b _=>some (.byt b)
 | .float b _=>some (.flt b)
 | .ref a=>some (.ref a)
 | .type n=>some (.ty n)
 | _=>none
theorem Qr.abs{x:V}{u:Value}(r:Qr x u):ZPc u=some x:=by
 cases x with
 | non=>cases r;rfl
 | bl _=>cases r;rfl
 | int _=>obtain⟨t,rfl⟩:=r;rfl
 | str _=>obtain⟨t,rfl⟩:=r;rfl
 | byt _=>obtain⟨t,rfl⟩:=r;rfl
 | flt _=>obtain⟨t,rfl⟩:=r;rfl
 | ref _=>cases r;rfl
 | ty _=>cases r;rfl
theorem Qr.inj{x y:V}{u:Value}(r:Qr x u)(q:Qr y u):x=y:=Option.some.inj (r.abs.symm.trans q.abs)
theorem Qv.inj:∀ {xs ys:List V} {us:List Value},Qv xs us->Qv ys us->xs=ys
 | _,_,_,.nil,.nil=>rfl
 | _,_,_,.cons r t,.cons r' t'=>by rw[r.inj r',Qv.inj t t']
section
variable{X:Cx}{pins:YP_}{σ:St}{H:Hp}{s:Shared}{a:Addr}{xs ys:List V}
theorem SqL.of{K:W.Frag}(h:H a=some (.lst xs)):SqL K H a xs:=.inl (.inl h)
theorem SqT.of{K:W.Frag}(h:H a=some (.tup xs)):SqT K H a xs:=.inl (.inl h)
theorem Inv.list(I:Inv X pins σ H s)(h:SqL X.K H a xs):∃ its:List Value,Qv xs its/\PlainL s.heap a its.toArray/\xs.length<=sizeLine:=by
 rcases h with h | ⟨o,its,n,hk,hc,hd,hs,hz,r⟩
 ·obtain⟨z,its,n,r,e⟩:=h.ok I.hok
  exact⟨its,r,⟨_,n,e,rfl,rfl,rfl⟩,z⟩
 ·refine⟨its.toList,r,⟨o,n,I.kIn a o hk,hc,hd,by simpa using hs⟩,?_⟩
  have e:=r.length;simp only[Array.length_toList]at e
  omega
theorem Inv.tuple(I:Inv X pins σ H s)(h:SqT X.K H a xs):∃ its:List Value,Qv xs its/\IsTup s.heap a its.toArray/\xs.length<=sizeLine:=by
 rcases h with h | ⟨o,its,n,hk,hc,hs,hz,r⟩
 ·obtain⟨⟨z,_⟩,its,r,p⟩:=h.ok I.hok
  exact⟨its,r,p,z⟩
 ·refine⟨its.toList,r,⟨o,I.kIn a o hk,hc,n,by simpa using hs⟩,?_⟩
  have e:=r.length;simp only[Array.length_toList]at e
  omega
theorem Inv.list_inj(I:Inv X pins σ H s)(h:SqL X.K H a xs)(h':SqL X.K H a ys):xs=ys:=by
 obtain⟨its,r,⟨o,n,e,_,_,d⟩,_⟩:=I.list h;obtain⟨its',r',⟨o',n',e',_,_,d'⟩,_⟩:=I.list h';rw[e]at e';cases e';rw[d]at d';injection d' with d1 _
 have:its=its':=by simpa using congrArg Array.toList d1
 subst this;exact r.inj r'
theorem Inv.tuple_inj(I:Inv X pins σ H s)(h:SqT X.K H a xs)(h':SqT X.K H a ys):xs=ys:=by
 obtain⟨its,r,⟨o,e,_,n,d⟩,_⟩:=I.tuple h;obtain⟨its',r',⟨o',e',_,n',d'⟩,_⟩:=I.tuple h';rw[e]at e';cases e';rw[d]at d';injection d' with d1 _
 have:its=its':=by simpa using congrArg Array.toList d1
 subst this;exact r.inj r'
end
abbrev Cx.wish(X:Cx)(E:YQ_):Cx:={ X with xe:=E }
abbrev Cx.nox(X:Cx):Cx:=X.wish fun _ _=>False
theorem Cx.Ok.wish{X:Cx}(ok:X.Ok)(E:YQ_):(X.wish E).Ok :=
 ⟨ok.mod,ok.kind,ok.glob,ok.blt,ok.above,ok.inj,ok.has,ok.cab,ok.hd,ok.frames,ok.stk,ok.exf,ok.bs,ok.bsz,ok.noex,ok.exfs,ok.funs,ok.frf⟩
theorem Cx.Ok.unwish{X:Cx}{E:YQ_}(ok:(X.wish E).Ok):X.Ok :=
 ⟨ok.mod,ok.kind,ok.glob,ok.blt,ok.above,ok.inj,ok.has,ok.cab,ok.hd,ok.frames,ok.stk,ok.exf,ok.bs,ok.bsz,ok.noex,ok.exfs,ok.funs,ok.frf⟩
section
variable{X:Cx}{pins:YP_}{σ:St}{H:Hp}{s:Shared}{E:YQ_}
theorem Inv.wish(I:Inv X pins σ H s)(E:YQ_):Inv (X.wish E) pins σ H s:=⟨I.ok.wish E,I.os,I.bare,I.base,I.loc,I.cell,I.free,I.freeC,I.pin,I.hok,I.len⟩
theorem Inv.unwish(I:Inv (X.wish E) pins σ H s):Inv X pins σ H s:=⟨I.ok.unwish,I.os,I.bare,I.base,I.loc,I.cell,I.free,I.freeC,I.pin,I.hok,I.len⟩
theorem SP.unwish{D:Jb}{f:Flow}{s':Shared}(h:SP (X.wish E) pins D f s'):SP X pins D f s':=by
 cases f with
 | next=>obtain⟨σ',H',I,q⟩:=h;exact⟨σ',H',I.unwish,q⟩
 | brk=>obtain⟨σ',H',I,q⟩:=h;exact⟨σ',H',I.unwish,q⟩
 | cont=>obtain⟨σ',H',I,q⟩:=h;exact⟨σ',H',I.unwish,q⟩
 | ret u=>obtain⟨v,σ',H',I,r,q⟩:=h;exact⟨v,σ',H',I.unwish,r,q⟩
theorem PSs.nox{st:List Stmt}{t:TS}(h:PSs X.nox st t):PSs X st t:=fun pins s σ H D I hw =>
 wpAny_mono (h pins s σ H D (I.wish _) hw) (fun _ _ q=>q.unwish) fun _ _ z=>False.elim z
end
section
variable{X:Cx}{st:Stmt}{rest:List Stmt}{t u:TS}{e:Expr}{te:TE}{pos:Pos}
def XHb:TS:=fun D σ H=>D.nx σ H
def YR(t u:TS):TS:=fun D σ H=>t { D with nx:=u D } σ H
theorem Qw:PSs X [] XHb:=fun _ _ σ H _ I h=>wpAny_execs_nil ⟨σ,H,I,h⟩
theorem Qc(h1:PS X st t)(h2:PSs X rest u):PSs X (st::rest) (YR t u):=by
 intro pins s σ H D I h;refine wpAny_execs_cons (thn (h1 pins s σ H { D with nx:=u D } I h) fun f s1 q=>?_)
 cases f with
 | next =>
  obtain⟨σ',H',I',q⟩:=q;exact h2 pins s1 σ' H' D I' q
 | ret v=>exact q
 | brk=>exact q
 | cont=>exact q
theorem Qf(h1:PS X st t):PSs X [st] t:=by
 intro pins s σ H D I h;refine wpAny_execs_cons (thn (h1 pins s σ H D I h) fun f s1 q=>?_)
 cases f with
 | next=>exact wpAny_execs_nil q
 | ret v=>exact q
 | brk=>exact q
 | cont=>exact q
theorem Inv.quiet{pins:YP_}{σ:St}{H:Hp}{s:Shared}(I:Inv X pins σ H s):interactive X.env=false:=by simp[interactive,I.ok.kind]
def XIb(te:TE):TS:=fun D σ H=>te σ H fun _ H1=>D.nx σ H1
theorem Q9(he:PE X e te)(hs:swapsWith e none pos.line X.env=pure false:=by rfl):PS X (.Expr e pos) (XIb te):=by
 intro pins s σ H D I h;exact wpAny_Expr_any (thn (he pins s σ H _ I h) fun v s1 ⟨x,H1,I1,r1,q1⟩=>⟨σ,H1,I1,q1⟩) I.quiet hs
def Zac(te:TE):TS:=fun D σ H=>te σ H D.rt
theorem Qp(he:PE X e te):PS X (.Return (some e) pos) (Zac te):=by
 intro pins s σ H D I h;exact wpAny_Return_some (thn (he pins s σ H _ I h) fun v s1 ⟨x,H1,I1,r1,q1⟩=>⟨x,σ,H1,I1,r1,q1⟩)
def Zbc(c:TT)(t u:TS):TS:=fun D σ H=>c σ H fun b H1=>if b=true then t D σ H1 else u D σ H1
theorem QR{c:Expr}{a b:List Stmt}{tc:TT}(hc:PT X c tc)(ha:PSs X a t)(hb:PSs X b u):PS X (.If c a b pos) (Zbc tc t u):=by
 intro pins s σ H D I h;refine wpAny_If (thn (hc pins s σ H _ I h) fun d s1 hZ=>?_)
 obtain⟨H1,I1,q1⟩:=hZ;cases d with
 | true=>exact ha pins s1 σ H1 D I1 q1
 | false=>exact hb pins s1 σ H1 D I1 q1
end
abbrev TG:=V->St->Hp->(St->Hp->Prop)->Prop
abbrev TGs:=List V->St->Hp->(St->Hp->Prop)->Prop
def PG(X:Cx)(target:Expr)(t:TG):Prop :=
 ∀ (pins:YP_) (s:Shared) (σ:St) (H:Hp) (v:V) (u:Value) (Q:St->Hp->Prop),Inv X pins σ H s->Qr v u->t v σ H Q ->
  wpAny (model X.prog X.w) X.A (assign target X.env u) (fun _ s'=>∃ σ' H',Inv X pins σ' H' s'/\Q σ' H') X.xe s
def PGs(X:Cx)(ts:List Expr)(t:TGs):Prop :=
 ∀ (pins:YP_) (s:Shared) (σ:St) (H:Hp) (vs:List V) (us:List Value) (Q:St->Hp->Prop),Inv X pins σ H s->Qv vs us->t vs σ H Q ->
  wpAny (model X.prog X.w) X.A (assignInOrder ((assignEach ts X.env).map (·.2)) us) (fun _ s'=>∃ σ' H',Inv X pins σ' H' s'/\Q σ' H') X.xe s
section
variable{X:Cx}{pos:Pos}
def Qob(i:Nat):TG:=fun v σ H Q=>Q (σ.set i (some v)) H
theorem Za{i:Nat}{x:Str}(hN:X.N.Nodup)(hi:X.N[i]?=some x)(hx:Loc X.env.scope x)(hf:X.fn x=true\/X.env.scope.names.lookup x=some .local:=by first | exact .inl rfl | exact .inr rfl | assumption):PG X (.Name x pos) (Qob i):=by
 intro pins s σ H v u Q I r h;exact wpAny_assign_Name (YBa I hN hi hx r (fun s' I'=>⟨_,H,I',h⟩) hf)
def Zcc:TGs:=fun vs σ H Q=>vs=[]/\Q σ H
def XJb(t:TG)(u:TGs):TGs:=fun vs σ H Q=>∃ v r,vs=v::r/\t v σ H fun σ' H'=>u r σ' H' Q
theorem YBb:PGs X [] Zcc:=by
 intro pins s σ H vs us Q I r h;obtain⟨e,h⟩:=h;subst e;cases r;exact assignInOrder_nil ⟨σ,H,I,h⟩
theorem YCa{e:Expr}{es:List Expr}{t:TG}{u:TGs}(h1:PG X e t)(h2:PGs X es u)
 (hs:(assignEach (e::es) X.env).map (·.2)=assign e X.env::(assignEach es X.env).map (·.2):=by rfl):PGs X (e::es) (XJb t u):=by
 intro pins s σ H vs us Q I r h;obtain⟨v,vr,e1,h⟩:=h;subst e1;cases r with
 | cons r rr =>
  rw[hs];refine assignInOrder_cons (thn (h1 pins s σ H _ _ _ I r h) fun _ s1 hZ=>?_)
  obtain⟨σ1,H1,I1,q1⟩:=hZ;exact h2 pins s1 σ1 H1 _ _ Q I1 rr q1
def Zdc(K:W.Frag)(n:Nat)(t:TGs):TG:=fun v σ H Q=>∃ a xs,v=.ref a/\SqT K H a xs/\xs.length=n/\t xs σ H Q
theorem Qdc{es:List Expr}{k:Nat}{t:TGs}{n:Nat}(hc:X.calm=true)(h:PGs X es t)
 (hn:(assignEach es X.env).length=n:=by rfl) (hst:(assignEach es X.env).findIdx? (·.1)=none:=by rfl):PG X (.Tuple es k pos) (Zdc X.K n t):=by
 intro pins s σ H v u Q I r hw;obtain⟨a,xs,e1,hq,hl,hw⟩:=hw;subst e1;cases r;obtain⟨its,rv,ht,hz⟩:=I.tuple hq;refine assign_Tuple_tuple (I.ok.hd hc) ht (by simp[hn,<- hl,rv.length]) hst fun h' hx=>?_
 have I1:Inv X pins σ H { s with heap:=h' }:=I.kept (t':=s.toks) fun b o e=>hx b o (Nat.ne_of_lt (Vh e)) e
 exact h pins _ σ H xs _ Q I1 (by simpa using rv) hw
def Zec(te:TE)(g:TG):TS:=fun D σ H=>te σ H fun x H1=>g x σ H1 D.nx
theorem Qm{i:Nat}{x:Str}{e:Expr}{te:TE}{pos':Pos}(hN:X.N.Nodup)(hi:X.N[i]?=some x)(hx:Loc X.env.scope x)(he:PE X e te)(hs:swapsWith e (some (.Name x pos')) pos.line X.env=pure false:=by rfl)(hf:X.fn x=true\/X.env.scope.names.lookup x=some .local:=by first | exact .inl rfl | exact .inr rfl | assumption) :
 PS X (.Assign [.Name x pos'] e pos) (Zec te (Qob i)):=by
 intro pins s σ H D I h;refine wpAny_Assign_Name (thn (he pins s σ H _ I h) fun v s1 hZ=>?_) hs
 obtain⟨y,H1,I1,r1,q1⟩:=hZ;exact YBa I1 hN hi hx r1 (fun s2 I2=>⟨_,H1,I2,q1⟩) hf
end
section
variable{X:Cx}{pos:Pos}
def Qec(c:TT)(tb:TS):TS:=fun D σ H=>∃ W:Nat->St->Hp->Prop,(∃ m,W m σ H)/\∀ m σ H,W m σ H ->
 c σ H fun b H1=>if b=true then ∃ N:St->Hp->Prop,(∀ σ' H',N σ' H'->∃ m',m' < m/\W m' σ' H')/\tb { D with nx:=N,ct:=N,bk:=D.nx } σ H1 else D.nx σ H1
theorem YDa{c:Expr}{body:List Stmt}{tc:TT}{tb:TS}(hp:PassesOwn (model X.prog X.w) X.A X.env X.xe)(hc:PT X c tc)(hb:PSs X body tb):PS X (.While c body [] pos) (Qec tc tb):=by
 intro pins s σ H D I h;obtain⟨W,⟨m0,w0⟩,turn⟩:=h;refine wpAny_While (codeAny_whileLoop (fun n s'=>∃ σ' H',Inv X pins σ' H' s'/\W n σ' H') ?_ m0 ⟨σ,H,I,w0⟩)
 rintro n s1 ⟨σ1,H1,I1,w1⟩;refine wpAny_passesOwn hp (thn (hc pins s1 σ1 H1 _ I1 (turn n σ1 H1 w1)) fun b s2 hZ=>?_)
 obtain⟨H2,I2,q2⟩:=hZ;cases b with
 | true =>
  obtain⟨N,hN,q2⟩:=q2;rw[if_pos rfl];refine wpAny_passesOwn hp (thn (hb pins s2 σ1 H2 _ I2 q2) fun f s3 q3=>?_)
  cases f with
  | next =>
   obtain⟨σ3,H3,I3,n3⟩:=q3;obtain⟨m',hm,w3⟩:=hN σ3 H3 n3;exact⟨m',hm,σ3,H3,I3,w3⟩
  | cont =>
   obtain⟨σ3,H3,I3,n3⟩:=q3;obtain⟨m',hm,w3⟩:=hN σ3 H3 n3;exact⟨m',hm,σ3,H3,I3,w3⟩
  | brk=>exact q3
  | ret v=>exact q3
 | false =>
  rw[if_neg Vf];exact wpAny_execs_nil ⟨σ1,H2,I2,q2⟩
end
structure It where
 go:Nat->Hp->Prop
 yld:Nat->Hp->V->Hp->Prop
 stop:Nat->Hp->Prop
def Qia(X:Cx)(pins:YP_)(H:Hp)(b:Addr):Prop :=
 H b=none/\b≠X.env.locals/\b∉X.fs/\(b∈X.ex\/X.s₀.heap.objs.size<=b)/\(∀ x c,X.env.cells.lookup x=some c->c≠b)/\∀ p∈X.pn++pins,p.1≠b
theorem Inv.fpOk{X:Cx}{pins:YP_}{σ:St}{H H':Hp}{s:Shared}{b:Addr}(I:Inv X pins σ H s)(hb:s.heap.objs.size<=b)(hn:H' b=none):Qia X pins H' b:=by
 refine⟨hn,Nat.ne_of_gt (Vt I.lt hb),I.nofs hb,.inr (Vj I.sz hb),fun x c e z=>?_,fun p hp z=>?_⟩
 ·obtain⟨v,q⟩:=I.cell x c e
  exact absurd (Vt q.lt (by rw[z];exact hb)) (Vu _)
 ·exact absurd (Vt (Vh (I.pin p hp).1) (by rw[z];exact hb)) (Vu _)
structure XAa(P:Program)(w:World)(K:W.Frag)(tg:Expr)(J:It)(fp:List Addr)(it:Addr)(tn:Nat->Heap->Prop):Prop where
 mem:it∈fp
 obj:∀ i h,tn i h->∀ b∈fp,∃ o,h.get? b=some o/\∀ v,o.data≠.cell v
 keep:∀ i h h',tn i h->(∀ b∈fp,∀ o,h.get? b=some o->h'.get? b=some o)->tn i h'
 item:∀ (X:Cx),X.prog=P->X.w=w->X.K=K->X.calm=true->∀ (i:Nat) (pins:YP_) (s:Shared) (σ:St) (H:Hp) (E:YQ_),Inv X pins σ H s->(∀ b∈fp,Qia X pins H b)->tn i s.heap->J.go i H ->
  wpAny (model P w) X.A (pyNext (.ref it)) (fun r s1=>∃ u,r=some u /\
   wpAny (model P w) X.A (letOwnedTupleGo tg (.ref it) u) (fun _ s2=>∃ x H',Inv X pins σ H' s2/\Qr x u/\J.yld i H x H'/\tn (i+1) s2.heap/\∀ b∈fp,H' b=none) E s1) E s
 done:∀ (X:Cx),X.prog=P->X.w=w->X.K=K->X.calm=true->∀ (i:Nat) (pins:YP_) (s:Shared) (σ:St) (H:Hp) (E:YQ_),Inv X pins σ H s->(∀ b∈fp,Qia X pins H b)->tn i s.heap->J.stop i H ->
  wpAny (model P w) X.A (pyNext (.ref it)) (fun r s1=>r=none/\Inv X pins σ H s1) E s
 self:∀ (A:Around) (i:Nat) (s:Shared) (Q:YQ_) (E:YQ_),tn i s.heap->Q (.ref it) s->wpAny (model P w) A (pyIter (.ref it)) Q E s
abbrev TI:=St->Hp->(It->Hp->Prop)->Prop
def PIE(X:Cx)(pins:YP_)(σ:St)(tg:Expr)(R:It->Hp->Prop)(itv:Value)(s2:Shared):Prop :=
 ∃ (it:Addr) (fp:List Addr) (tn:Nat->Heap->Prop) (J:It) (H':Hp),itv=.ref it/\Inv X pins σ H' s2/\XAa X.prog X.w X.K tg J fp it tn/\tn 0 s2.heap/\(∀ b∈fp,Qia X pins H' b)/\R J H'
def PI(X:Cx)(tg iter:Expr)(wi:TI):Prop :=
 ∀ (pins:YP_) (s:Shared) (σ:St) (H:Hp) (R:It->Hp->Prop),Inv X pins σ H s->wi σ H R ->
  wpAny (model X.prog X.w) X.A (eval iter X.env) (fun v s1=>wpAny (model X.prog X.w) X.A (pyIter v) (PIE X pins σ tg R) X.xe s1) X.xe s
theorem Jna{M:Model}{A:Around}{E:YQ_}{s:Shared}{tg:Expr}{it:Addr}{u:Value}{o:Obj}{n:String}{vs:Array Value}{Q:Unit->Shared->Prop}(ho:s.heap.get? it=some o)(hc:o.cls=.type n)(hd:o.data=.fields vs)
 (hn:["enumerate","zip","dict_itemiterator","dict_reverseitemiterator","odict_iterator","itertools.zip_longest","itertools.pairwise"].contains n=false) (hQ:Q () s):wpAny M A (letOwnedTupleGo tg (.ref it) u) Q E s:=by
 unfold letOwnedTupleGo;cases tg <;> first
  | exact Vg hQ
  | (cases u <;> first
   | exact Vg hQ
   | (refine Va (wpAny_load ho ?_)
      rw[hc,hd];show wpAny M A (if (["enumerate","zip","dict_itemiterator","dict_reverseitemiterator","odict_iterator","itertools.zip_longest","itertools.pairwise"].contains n && vs[0]? == some (rawInt _))=true then _ else _) Q E s
      rw[if_neg (by intro h;rw[hn,Bool.false_and]at h;cases h)]
      exact Vg hQ))
def Itl(K:W.Frag)(a:Addr):It :=
 ⟨fun i H=>∃ xs x,SqL K H a xs/\xs[i]?=some x,fun i H x H'=>H'=H/\∀ xs,SqL K H a xs->xs[i]?=some x,fun i H=>∃ xs,SqL K H a xs/\xs.length<=i⟩
def Itt(K:W.Frag)(a:Addr):It :=
 ⟨fun i H=>∃ xs x,SqT K H a xs/\xs[i]?=some x,fun i H x H'=>H'=H/\∀ xs,SqT K H a xs->xs[i]?=some x,fun i H=>∃ xs,SqT K H a xs/\xs.length<=i⟩
def Itr(lo:Int)(n:Nat):It:=⟨fun i _=>i < n,fun i H x H'=>H'=H/\x=.int (lo+i),fun i _=>n<=i⟩
theorem Joa{P:Program}{w:World}{K:W.Frag}{tg:Expr}(a it:Addr):XAa P w K tg (Itl K a) [it] it (fun i h=>h.IsListIter it a i) where
 mem:=by simp
 obj:=fun i h st b hb=>by
  have e:b=it:=by simpa using hb
  subst e;obtain⟨o,e,c,d⟩:=st;exact⟨o,e,fun v z=>by rw[d]at z;cases z⟩
 keep:=fun i h h' st k=>st.at fun o e=>k it (by simp) o e
 item:=by
  intro X hP hw hK hc i pins s σ H E I hf st hg;subst hP hw hK;obtain⟨xs,x,hq,hx⟩:=hg;obtain⟨its,rv,p,hz⟩:=I.list hq;obtain⟨u,hu,ru⟩:=rv.get hx;obtain⟨f0,f1,f2,f3,f4,f5⟩:=hf it (by simp)
  refine wpAny_pyNext_list_item st p.isList (x:=u) (by simpa using hu) fun h' st' sb=>?_
  have I1:Inv X pins σ H { s with heap:=h' }:=I.turned (t':=s.toks) (fun b o hb e=>(sb.2 b hb).trans e) f0 f1 f3 f4 f5
  obtain⟨o,e,c,d⟩:=id st';exact⟨u,rfl,Jna (s:={ s with heap:=h' }) e c d (by decide) ⟨x,H,I1,ru,⟨rfl,fun ys hy=>by rw[I.list_inj hy hq];exact hx⟩,st',fun b hb=>(hf b hb).1⟩⟩
 done:=by
  intro X hP hw hK hc i pins s σ H E I hf st hg;subst hP hw hK;obtain⟨xs,hq,hx⟩:=hg;obtain⟨its,rv,p,hz⟩:=I.list hq;obtain⟨f0,f1,f2,f3,f4,f5⟩:=hf it (by simp)
  have hl:=rv.length;exact wpAny_pyNext_list_end (I.ok.hd hc) st p.isList (by simp;omega) fun h' eb=>⟨rfl,I.turned (t':=s.toks) (fun b o hb e=>eb b o hb e) f0 f1 f3 f4 f5⟩
 self:=fun _ _ _ _ _ st h=>wpAny_pyIter_listiter st h
theorem Zea{P:Program}{w:World}{K:W.Frag}{tg:Expr}(a it:Addr):XAa P w K tg (Itt K a) [it] it (fun i h=>h.IsTupleIter it a i) where
 mem:=by simp
 obj:=fun i h st b hb=>by
  have e:b=it:=by simpa using hb
  subst e;obtain⟨o,e,c,d⟩:=st;exact⟨o,e,fun v z=>by rw[d]at z;cases z⟩
 keep:=fun i h h' st k=>st.at fun o e=>k it (by simp) o e
 item:=by
  intro X hP hw hK hc i pins s σ H E I hf st hg;subst hP hw hK;obtain⟨xs,x,hq,hx⟩:=hg;obtain⟨its,rv,p,hz⟩:=I.tuple hq;obtain⟨u,hu,ru⟩:=rv.get hx;obtain⟨f0,f1,f2,f3,f4,f5⟩:=hf it (by simp)
  refine wpAny_pyNext_tuple_item st (show s.heap.IsTuple a its.toArray from p) (x:=u) (by simpa using hu) fun h' st' sb=>?_
  have I1:Inv X pins σ H { s with heap:=h' }:=I.turned (t':=s.toks) (fun b o hb e=>(sb.2 b hb).trans e) f0 f1 f3 f4 f5
  obtain⟨o,e,c,d⟩:=id st';exact⟨u,rfl,Jna (s:={ s with heap:=h' }) e c d (by decide) ⟨x,H,I1,ru,⟨rfl,fun ys hy=>by rw[I.tuple_inj hy hq];exact hx⟩,st',fun b hb=>(hf b hb).1⟩⟩
 done:=by
  intro X hP hw hK hc i pins s σ H E I hf st hg;subst hP hw hK;obtain⟨xs,hq,hx⟩:=hg;obtain⟨its,rv,p,hz⟩:=I.tuple hq;obtain⟨f0,f1,f2,f3,f4,f5⟩:=hf it (by simp)
  have hl:=rv.length;exact wpAny_pyNext_tuple_end (I.ok.hd hc) st (show s.heap.IsTuple a its.toArray from p) (by simp;omega) fun h' eb=>⟨rfl,I.turned (t':=s.toks) (fun b o hb e=>eb b o hb e) f0 f1 f3 f4 f5⟩
 self:=fun _ _ _ _ _ st h=>wpAny_pyIter_tupleiter st h
theorem XBa{P:Program}{w:World}{K:W.Frag}{tg:Expr}(it:Addr)(lo:Int)(n:Nat):XAa P w K tg (Itr lo n) [it] it (fun i h=>IsRangeIter h it (lo+(i:Nat) * 1) ((n:Int) - (i:Nat)) 1) where
 mem:=by simp
 obj:=fun i h st b hb=>by
  have e:b=it:=by simpa using hb
  subst e;exact⟨_,st,fun v z=>by
   have z':Data.fields _=Data.cell v:=z;cases z'⟩
 keep:=fun i h h' st k=>k it (by simp) _ st
 item:=by
  intro X hP hw hK hc i pins s σ H E I hf st hg;subst hP hw hK;obtain⟨f0,f1,f2,f3,f4,f5⟩:=hf it (by simp)
  have W:=Walks.range (prog:=X.prog) (w:=X.w) (I.ok.hd hc) it lo 1 n;refine W.item i s _ _ hg st fun v h' tk hv st' kk=>?_
  obtain⟨t,rfl⟩:=hv;have I1:Inv X pins σ H { s with heap:=h',toks:=tk }:=I.turned (fun b o hb e=>kk b o (by simpa using hb) e) f0 f1 f3 f4 f5
  refine⟨_,rfl,Jna (s:={ s with heap:=h',toks:=tk }) (n:="range_iterator") st' rfl rfl (by decide) ⟨.int (lo+i),H,I1,⟨t,?_⟩,⟨rfl,rfl⟩,st',fun b hb=>(hf b hb).1⟩⟩
  rw[Int.mul_one]
 done:=by
  intro X hP hw hK hc i pins s σ H E I hf st hg;subst hP hw hK;obtain⟨f0,f1,f2,f3,f4,f5⟩:=hf it (by simp)
  exact wpAny_pyNext_range_end (I.ok.hd hc) st (by have:n<=i:=hg;omega) fun h' eb=>⟨rfl,I.turned (t':=s.toks) (fun b o hb e=>eb b o hb e) f0 f1 f3 f4 f5⟩
 self:=fun _ _ _ _ _ st h=>wpAny_pyIter_rangeiter st h
section
variable{X:Cx}{tg:Expr}
def ZXb(K:W.Frag)(tl:TE):TI:=fun σ H R=>tl σ H fun x H1=>∃ a,x=.ref a/\(∃ xs,SqL K H1 a xs)/\R (Itl K a) H1
def Qfc(K:W.Frag)(tl:TE):TI:=fun σ H R=>tl σ H fun x H1=>∃ a,x=.ref a/\(∃ xs,SqT K H1 a xs)/\R (Itt K a) H1
theorem Zw{l:Expr}{tl:TE}(hl:PE X l tl):PI X tg l (ZXb X.K tl):=by
 intro pins s σ H R I h;refine thn (hl pins s σ H _ I h) fun v s1 hZ=>?_
 obtain⟨x,H1,I1,r1,q1⟩:=hZ;obtain⟨a,e,⟨xs,hq⟩,q⟩:=q1;subst e;cases r1;obtain⟨its,rv,p,hz⟩:=I1.list hq;refine wpAny_pyIter_list p.isList ?_
 refine⟨s1.heap.objs.size,[s1.heap.objs.size],_,_,H1,rfl,I1.kept (t':=s1.toks) fun b o e=>Vd _ e,Joa a _,⟨_,Vi _ rfl,rfl,rfl⟩,fun b hb=>?_,q⟩
 have e:b=s1.heap.objs.size:=by simpa using hb
 subst e;exact I1.fpOk (Ve _) (I1.hok.fresh (Ve _))
theorem ZYb{l:Expr}{tl:TE}(hl:PE X l tl):PI X tg l (Qfc X.K tl):=by
 intro pins s σ H R I h;refine thn (hl pins s σ H _ I h) fun v s1 hZ=>?_
 obtain⟨x,H1,I1,r1,q1⟩:=hZ;obtain⟨a,e,⟨xs,hq⟩,q⟩:=q1;subst e;cases r1;obtain⟨its,rv,p,hz⟩:=I1.tuple hq;refine wpAny_pyIter_tuple (show s1.heap.IsTuple a its.toArray from p) ?_
 refine⟨s1.heap.objs.size,[s1.heap.objs.size],_,_,H1,rfl,I1.kept (t':=s1.toks) fun b o e=>Vd _ e,Zea a _,⟨_,Vi _ rfl,rfl,rfl⟩,fun b hb=>?_,q⟩
 have e:b=s1.heap.objs.size:=by simpa using hb
 subst e;exact I1.fpOk (Ve _) (I1.hok.fresh (Ve _))
theorem YEa{pins:YP_}{σ:St}{H:Hp}{s:Shared}{R:It->Hp->Prop}{E:YQ_}{lo hi:Int}{t u v:Tok}{tk:Nat}(I:Inv X pins σ H s)(h1 : -(2 ^ 62)<=lo)(h2:lo < 2 ^ 62)(h3 : -(2 ^ 62)<=hi)(h4:hi < 2 ^ 62)
 (q:R (Itr lo (hi - lo).toNat) H):wpAny (model X.prog X.w) X.A (pyIter (.ref s.heap.objs.size)) (PIE X pins σ tg R) E { s with heap:=s.heap.push { cls:=.type "range",data:=.fields #[.int lo t,.int hi u,.int 1 v] },toks:=tk }:=by
 refine wpAny_pyIter_range (IsRange.new ..) (small_one h1 h2 h3 h4) ?_
 have I1:Inv X pins σ H { s with heap:=s.heap.push { cls:=.type "range",data:=.fields #[.int lo t,.int hi u,.int 1 v] },toks:=tk }:=I.kept fun b o e=>Vd _ e
 refine⟨(s.heap.push { cls:=.type "range",data:=.fields #[.int lo t,.int hi u,.int 1 v] }).objs.size,[(s.heap.push { cls:=.type "range",data:=.fields #[.int lo t,.int hi u,.int 1 v] }).objs.size],_,_,H,rfl,
  I1.kept (t':=tk) fun b o e=>Vd _ e,XBa _ lo (hi - lo).toNat,?_,fun b hb=>?_,q⟩
 ·have e1:lo+((0:Nat):Int) * 1=lo:=by simp
  have e2:(((hi - lo).toNat:Nat):Int) - ((0:Nat):Int)=Builtin.Range.rangeSize lo hi 1:=by rw[rangeSize_one];split <;> omega
  show IsRangeIter _ _ (lo+((0:Nat):Int) * 1) ((((hi - lo).toNat:Nat):Int) - ((0:Nat):Int)) 1;rw[e1,e2];exact Vi _ rfl
 ·have e:b=(s.heap.push { cls:=.type "range",data:=.fields #[.int lo t,.int hi u,.int 1 v] }).objs.size:=by simpa using hb
  subst e;exact I1.fpOk (Ve _) (I1.hok.fresh (Ve _))
def ZZb(ta:TA):TI:=fun σ H R=>ta σ H fun vs H1=>∃ j:Int,vs=[.int j] /\ -(2 ^ 62)<=j/\j < 2 ^ 62/\R (Itr 0 j.toNat) H1
def Z0b(ta:TA):TI:=fun σ H R=>ta σ H fun vs H1=>∃ i j:Int,vs=[.int i,.int j]/\(-(2 ^ 62)<=i/\i < 2 ^ 62 /\ -(2 ^ 62)<=j/\j < 2 ^ 62)/\R (Itr i (j - i).toNat) H1
theorem Jpa{a:Expr}{ta:TA}{p pos:Pos}(hg:Gl X "range")(hm:X.mg "range"=none)(ha:PA X [a] ta)(hs:starEach [a] X.env=[(false,eval a X.env)]:=by rfl):PI X tg (.Call (.Name "range" p) [a] [] pos) (ZZb ta):=by
 intro pins s σ H R I h;refine Call_ (Zda I hg hm boot_range (PyProof.Rows.callWith_type1 (thn (ha pos pins s σ H _ I h) fun us s1 hZ=>?_) hs rfl))
 obtain⟨vs,H1,I1,r1,q1⟩:=hZ;obtain⟨j,e,q1,q2,q⟩:=q1;subst e;cases r1 with
 | cons r rr =>
  cases rr;obtain⟨t,rfl⟩:=r;exact call_range_1 (YEa I1 (by omega) (by omega) q1 q2 (by simpa using q))
theorem Zab{a b:Expr}{ta:TA}{p pos:Pos}(hg:Gl X "range")(hm:X.mg "range"=none)(ha:PA X [a,b] ta)(hs:starEach [a,b] X.env=[(false,eval a X.env),(false,eval b X.env)]:=by rfl)(hs2:starEach [b] X.env=[(false,eval b X.env)]:=by rfl) :
 PI X tg (.Call (.Name "range" p) [a,b] [] pos) (Z0b ta):=by
 intro pins s σ H R I h;refine Call_ (Zda I hg hm boot_range (PyProof.Rows.callWith_type1 (thn (ha pos pins s σ H _ I h) fun us s1 ⟨vs,H1,I1,r1,q1⟩=>?_) (by rw[hs,hs2]) (by rw[hs2];rfl)))
 obtain⟨i,j,e,⟨q1,q2,q3,q4⟩,q⟩:=q1;subst e;cases r1 with
 | cons r rr =>
  cases rr with
  | cons r' rr =>
   cases rr;obtain⟨t,rfl⟩:=r;obtain⟨t',rfl⟩:=r';exact call_range_2 (YEa I1 q1 q2 q3 q4 q)
def YFa(wi:TI)(g:TG)(tb:TS):TS:=fun D σ H=>wi σ H fun J H1=>∃ W:Nat->Nat->St->Hp->Prop,(∃ m,W 0 m σ H1)/\∀ i m σ H,W i m σ H ->
 (J.stop i H/\D.nx σ H)\/(J.go i H/\∃ N:St->Hp->Prop,(∀ σ' H',N σ' H'->∃ m',m' < m/\W (i+1) m' σ' H')/\∀ x H',J.yld i H x H'->g x σ H' fun σ2 H2=>tb { D with nx:=N,ct:=N,bk:=D.nx } σ2 H2)
def Zfa(fp:List Addr)(h:Heap):YP_:=fp.filterMap fun b=>(h.get? b).map fun o=>(b,o)
theorem Yf{fp:List Addr}{h:Heap}{b:Addr}{o:Obj}(hb:b∈fp)(e:h.get? b=some o):(b,o)∈Zfa fp h:=mem_filterMap.mpr ⟨b,hb,by rw[e];rfl⟩
theorem Zbb{fp:List Addr}{h:Heap}{p:Addr×Obj}(hp:p∈Zfa fp h):p.1∈fp/\h.get? p.1=some p.2:=by
 obtain⟨b,hb,e⟩:=mem_filterMap.mp hp;cases q:h.get? b with
 | none=>rw[q]at e;cases e
 | some o =>
  rw[q]at e;have e':(b,o)=p:=Option.some.inj e;subst e';exact⟨hb,q⟩
theorem Inv.pinned{pins:YP_}{σ:St}{H:Hp}{s:Shared}{fp:List Addr}(I:Inv X pins σ H s)(hf:∀ b∈fp,Qia X pins H b)(ho:∀ b∈fp,∃ o,s.heap.get? b=some o/\∀ v,o.data≠.cell v):Inv X (pins++Zfa fp s.heap) σ H s :=
 I.pins_of fun p hp=>(Vl.mp hp).elim (fun z=>I.pin p (Vp _ z)) fun z=>by
  obtain⟨hb,e⟩:=Zbb z;obtain⟨f0,f1,f2,_⟩:=hf p.1 hb;obtain⟨o,e',d⟩:=ho p.1 hb;rw[e]at e';cases e';exact⟨e,f0,f1,f2,d⟩
theorem Inv.unpinned{pins pl:YP_}{σ:St}{H:Hp}{s:Shared}(I:Inv X (pins++pl) σ H s):Inv X pins σ H s:=I.pins_of fun p hp=>I.pin p (Vp _ (mem_append_left _ hp))
theorem ZX{iter:Expr}{body:List Stmt}{wi:TI}{g:TG}{tb:TS}{pos:Pos}(hp:PassesOwn (model X.prog X.w) X.A X.env X.xe)(hc:X.calm=true)(hi:PI X tg iter wi)(hg:PG X tg g)(hb:PSs X body tb)
 (hs:∀ x,foldedSetIterable iter X.env x=pure x:=by intro _;rfl):PS X (.For tg iter body [] pos) (YFa wi g tb):=by
 intro pins s σ H D I h;refine wpAny_For (thn (hi pins s σ H _ I h) fun v s1 h1=>thn h1 fun itv s2 h2=>?_) hs
 obtain⟨it,fp,tn,J,H2,e,I2,T,st2,f2,W,⟨m0,w0⟩,turn⟩:=h2;subst e;have stat:∀ {H':Hp},(∀ b∈fp,H' b=none)->∀ b∈fp,Qia X pins H' b:=fun hn b hb=>⟨hn b hb,(f2 b hb).2⟩
 refine codeAny_forLoop_any (fun n s'=>∃ i σ' H',Inv X pins σ' H' s'/\tn i s'.heap/\(∀ b∈fp,H' b=none)/\W i n σ' H') ?_ m0 ⟨0,σ,H2,I2,st2,fun b hb=>(f2 b hb).1,w0⟩
 rintro n s3 ⟨i,σ3,H3,I3,st3,fr3,w3⟩
 rcases turn i n σ3 H3 w3 with ⟨stop,qn⟩ | ⟨go,N,hN,step⟩
 ·refine wpAny_passesOwn hp (thn (T.done X rfl rfl rfl hc i pins s3 σ3 H3 X.xe I3 (stat fr3) st3 stop) fun r s4 hZ=>?_)
  obtain⟨hr,I4⟩:=hZ;subst hr;exact wpAny_execs_nil ⟨σ3,H3,I4,qn⟩
 ·refine wpAny_passesOwn hp (thn (T.item X rfl rfl rfl hc i pins s3 σ3 H3 X.xe I3 (stat fr3) st3 go) fun r s4 hZ=>?_)
  obtain⟨u,hr,h4⟩:=hZ;subst hr;refine wpAny_passesOwn hp (thn h4 fun _ s5 hZ=>?_)
  obtain⟨x,H5,I5,r5,y5,st5,fr5⟩:=hZ;have I5':=I5.pinned (stat fr5) (T.obj _ _ st5);refine wpAny_passesOwn hp (thn (hg _ s5 σ3 H5 x u _ I5' r5 (step x H5 y5)) fun _ s6 hZ=>?_)
  obtain⟨σ6,H6,I6,q6⟩:=hZ;refine wpAny_passesOwn hp (thn (hb _ s6 σ6 H6 _ I6 q6) fun f s7 q7=>?_)
  have again:∀ {σ7:St} {H7:Hp},Inv X (pins++Zfa fp s5.heap) σ7 H7 s7->N σ7 H7->∃ m,m < n/\∃ i σ' H',Inv X pins σ' H' s7/\tn i s7.heap/\(∀ b∈fp,H' b=none)/\W i m σ' H':=fun {σ7 H7} I7 n7=>by
   obtain⟨m',hm,w7⟩:=hN σ7 H7 n7;refine⟨m',hm,i+1,σ7,H7,I7.unpinned,T.keep _ _ _ st5 fun b hb o e=>(I7.pin (b,o) (Vp _ (Vp _ (Yf hb e)))).1,fun b hb=>?_,w7⟩
   obtain⟨o,e,d⟩:=T.obj _ _ st5 b hb;exact(I7.pin (b,o) (Vp _ (Vp _ (Yf hb e)))).2.1
  cases f with
  | next=>obtain⟨σ7,H7,I7,n7⟩:=q7;exact again I7 n7
  | cont=>obtain⟨σ7,H7,I7,n7⟩:=q7;exact again I7 n7
  | brk=>obtain⟨σ7,H7,I7,q7⟩:=q7;exact⟨σ7,H7,I7.unpinned,q7⟩
  | ret v=>obtain⟨x7,σ7,H7,I7,r7,q7⟩:=q7;exact⟨x7,σ7,H7,I7.unpinned,r7,q7⟩
end
theorem Z1b{K:W.Frag}{a:Addr}{xs:List V}{g:TG}{tb:TS}{D:Jb}{σ:St}{H:Hp}(Pv:Nat->St->Hp->Prop)(h0:Pv 0 σ H)(hl:∀ i σ H,i<=xs.length->Pv i σ H->SqL K H a xs)
 (hs:∀ i x σ H,xs[i]?=some x->Pv i σ H->g x σ H fun σ2 H2=>tb { D with nx:=Pv (i+1),ct:=Pv (i+1),bk:=D.nx } σ2 H2) (hd:∀ σ H,Pv xs.length σ H->D.nx σ H) :
 ∃ W:Nat->Nat->St->Hp->Prop,(∃ m,W 0 m σ H)/\∀ i m σ H,W i m σ H ->
  ((Itl K a).stop i H/\D.nx σ H)\/((Itl K a).go i H/\∃ N:St->Hp->Prop,(∀ σ' H',N σ' H'->∃ m',m' < m/\W (i+1) m' σ' H')/\∀ x H',(Itl K a).yld i H x H'->g x σ H' fun σ2 H2=>tb { D with nx:=N,ct:=N,bk:=D.nx } σ2 H2):=by
 refine⟨fun i m σ H=>m=xs.length - i/\i<=xs.length/\Pv i σ H,⟨xs.length,by simp,Vk _,h0⟩,?_⟩
 rintro i m σ H ⟨rfl,hi,p⟩;have q:=hl i σ H hi p
 by_cases hlt:i < xs.length
 ·refine .inr ⟨⟨xs,xs[i],q,by simp[hlt]⟩,Pv (i+1),fun σ' H' p'=>⟨xs.length - (i+1),by omega,rfl,hlt,p'⟩,fun x H' y=>?_⟩
  obtain⟨e,y⟩:=y;subst e;exact hs i x σ _ (y xs q) p
 ·have e:i=xs.length:=by omega
  subst e;exact .inl ⟨⟨xs,q,Ve _⟩,hd σ H p⟩
theorem YCb{K:W.Frag}{a:Addr}{xs:List V}{g:TG}{tb:TS}{D:Jb}{σ:St}{H:Hp}(Pv:Nat->St->Hp->Prop)(h0:Pv 0 σ H)(hl:∀ i σ H,i<=xs.length->Pv i σ H->SqT K H a xs)
 (hs:∀ i x σ H,xs[i]?=some x->Pv i σ H->g x σ H fun σ2 H2=>tb { D with nx:=Pv (i+1),ct:=Pv (i+1),bk:=D.nx } σ2 H2) (hd:∀ σ H,Pv xs.length σ H->D.nx σ H) :
 ∃ W:Nat->Nat->St->Hp->Prop,(∃ m,W 0 m σ H)/\∀ i m σ H,W i m σ H ->
  ((Itt K a).stop i H/\D.nx σ H)\/((Itt K a).go i H/\∃ N:St->Hp->Prop,(∀ σ' H',N σ' H'->∃ m',m' < m/\W (i+1) m' σ' H')/\∀ x H',(Itt K a).yld i H x H'->g x σ H' fun σ2 H2=>tb { D with nx:=N,ct:=N,bk:=D.nx } σ2 H2):=by
 refine⟨fun i m σ H=>m=xs.length - i/\i<=xs.length/\Pv i σ H,⟨xs.length,by simp,Vk _,h0⟩,?_⟩
 rintro i m σ H ⟨rfl,hi,p⟩;have q:=hl i σ H hi p
 by_cases hlt:i < xs.length
 ·refine .inr ⟨⟨xs,xs[i],q,by simp[hlt]⟩,Pv (i+1),fun σ' H' p'=>⟨xs.length - (i+1),by omega,rfl,hlt,p'⟩,fun x H' y=>?_⟩
  obtain⟨e,y⟩:=y;subst e;exact hs i x σ _ (y xs q) p
 ·have e:i=xs.length:=by omega
  subst e;exact .inl ⟨⟨xs,q,Ve _⟩,hd σ H p⟩
theorem Zcb{lo:Int}{n:Nat}{g:TG}{tb:TS}{D:Jb}{σ:St}{H:Hp}(Pv:Nat->St->Hp->Prop)(h0:Pv 0 σ H)
 (hs:∀ i σ H,i < n->Pv i σ H->g (.int (lo+i)) σ H fun σ2 H2=>tb { D with nx:=Pv (i+1),ct:=Pv (i+1),bk:=D.nx } σ2 H2) (hd:∀ σ H,Pv n σ H->D.nx σ H) :
 ∃ W:Nat->Nat->St->Hp->Prop,(∃ m,W 0 m σ H)/\∀ i m σ H,W i m σ H ->
  ((Itr lo n).stop i H/\D.nx σ H)\/((Itr lo n).go i H/\∃ N:St->Hp->Prop,(∀ σ' H',N σ' H'->∃ m',m' < m/\W (i+1) m' σ' H')/\∀ x H',(Itr lo n).yld i H x H'->g x σ H' fun σ2 H2=>tb { D with nx:=N,ct:=N,bk:=D.nx } σ2 H2):=by
 refine⟨fun i m σ H=>m=n - i/\i<=n/\Pv i σ H,⟨n,by simp,Vk _,h0⟩,?_⟩
 rintro i m σ H ⟨rfl,hi,p⟩
 by_cases hlt:i < n
 ·refine .inr ⟨hlt,Pv (i+1),fun σ' H' p'=>⟨n - (i+1),by omega,rfl,hlt,p'⟩,fun x H' y=>?_⟩
  obtain⟨e,y⟩:=y;subst e y;exact hs i σ _ hlt p
 ·have e:i=n:=by omega
  subst e;exact .inl ⟨Ve _,hd σ H p⟩
abbrev R2:=V->V->Hp->VK->Prop
def OpR(X:Cx)(f:Value->Value->Sem Value)(r:R2):Prop :=
 ∀ (pins:YP_) (s:Shared) (σ:St) (H:Hp) (x y:V) (v u:Value) (Q:VK),Inv X pins σ H s->Qr x v->Qr y u->r x y H Q ->
  wpAny (model X.prog X.w) X.A (f v u) (EP X pins σ Q) X.xe s
def UnR(X:Cx)(f:Value->Sem Value)(r:V->Hp->VK->Prop):Prop :=
 ∀ (pins:YP_) (s:Shared) (σ:St) (H:Hp) (x:V) (v:Value) (Q:VK),Inv X pins σ H s->Qr x v->r x H Q ->
  wpAny (model X.prog X.w) X.A (f v) (EP X pins σ Q) X.xe s
def Xp(X:Cx)(f:Value)(r:List V->Hp->VK->Prop):Prop :=
 ∀ (pins:YP_) (s:Shared) (σ:St) (H:Hp) (xs:List V) (us:List Value) (Q:VK),Inv X pins σ H s->Qv xs us->r xs H Q ->
  wpAny (model X.prog X.w) X.A (call f us) (EP X pins σ Q) X.xe s
def ZQc(X:Cx)(r:V->Hp->(Bool->Hp->Prop)->Prop):Prop :=
 ∀ (pins:YP_) (s:Shared) (σ:St) (H:Hp) (x:V) (v:Value) (Q:Bool->Hp->Prop),Inv X pins σ H s->Qr x v->r x H Q ->
  wpAny (model X.prog X.w) X.A (truthy v) (TP X pins σ Q) X.xe s
def tOp(r:R2)(ta tb:TE):TE:=fun σ H Q=>ta σ H fun x H1=>tb σ H1 fun y H2=>r x y H2 Q
def tUn(r:V->Hp->VK->Prop)(ta:TE):TE:=fun σ H Q=>ta σ H fun x H1=>r x H1 Q
def rI(C:Int->Int->Prop)(g:Int->Int->V):R2:=fun x y H Q=>∃ i j,x=.int i/\y=.int j/\C i j/\Q (g i j) H
def rI0(g:Int->Int->V):R2:=fun x y H Q=>∃ i j,x=.int i/\y=.int j/\Q (g i j) H
def rU(g:Int->V):V->Hp->VK->Prop:=fun x H Q=>∃ i,x=.int i/\Q (g i) H
section
variable{X:Cx}{a b c:Expr}{ta tb tc:TE}{pos:Pos}
theorem Qgc(ha:PE X a ta)(hb:PE X b tb){pins:YP_}{s:Shared}{σ:St}{H:Hp}{R:V->V->Hp->Prop}(I:Inv X pins σ H s)
 (h:ta σ H fun x H1=>tb σ H1 fun y H2=>R x y H2) {Q:YQ_} {f:Value->Value->Sem Value}
 (hf:∀ v u s2 x y H2,Inv X pins σ H2 s2->Qr x v->Qr y u->R x y H2->wpAny (model X.prog X.w) X.A (f v u) Q X.xe s2) :
 wpAny (model X.prog X.w) X.A (eval a X.env) (fun v s₁=>wpAny (model X.prog X.w) X.A (eval b X.env) (fun u s₂=>wpAny (model X.prog X.w) X.A (f v u) Q X.xe s₂) X.xe s₁) X.xe s:=by
 refine thn (ha pins s σ H _ I h) fun v s1 hZ=>?_
 obtain⟨x,H1,I1,r1,q1⟩:=hZ;refine thn (hb pins s1 σ H1 _ I1 q1) fun u s2 hZ=>?_
 obtain⟨y,H2,I2,r2,q2⟩:=hZ;exact hf v u s2 x y H2 I2 r1 r2 q2
theorem Qj{op:Operator}{r:R2}(ho:OpR X (binaryOp op) r)(ha:PE X a ta)(hb:PE X b tb):PE X (.BinOp a op b pos) (tOp r ta tb):=by
 intro pins s σ H Q I h;exact wpAny_BinOp (Qgc ha hb I h fun v u s2 x y H2 I2 rx ry q=>ho pins s2 σ H2 x y v u Q I2 rx ry q)
theorem Zfc{op:UnaryOp}{r:V->Hp->VK->Prop}(ho:UnR X (unaryOp op) r)(ha:PE X a ta):PE X (.UnaryOp op a pos) (tUn r ta):=by
 intro pins s σ H Q I h;exact UnaryOp_ (thn (ha pins s σ H _ I h) fun v s1 ⟨x,H1,I1,r1,q1⟩=>ho pins s1 σ H1 x v Q I1 r1 q1)
theorem opI{f:Value->Value->Sem Value}{C:Int->Int->Prop}{g:Int->Int->Int}
 (rule:∀ (i j:Int) (t u:Tok) (s:Shared) (Q:YQ_) (E:YQ_),C i j->Q (.int (g i j) s.toks) { s with toks:=s.toks+1 }->wpAny (model X.prog X.w) X.A (f (.int i t) (.int j u)) Q E s) :
 OpR X f (rI C fun i j=>.int (g i j)):=by
 intro pins s σ H x y v u Q I rx ry h;obtain⟨i,j,rfl,rfl,hc,q⟩:=h;obtain⟨t,rfl⟩:=rx;obtain⟨t',rfl⟩:=ry;exact rule i j t t' s _ _ hc ⟨.int (g i j),H,I.tok _,⟨_,rfl⟩,q⟩
theorem Qhc{f:Value->Value->Sem Value}{g:Int->Int->Int}
 (rule:∀ (i j:Int) (t u:Tok) (s:Shared) (Q:YQ_) (E:YQ_),Q (.int (g i j) s.toks) { s with toks:=s.toks+1 }->wpAny (model X.prog X.w) X.A (f (.int i t) (.int j u)) Q E s) :
 OpR X f (rI0 fun i j=>.int (g i j)):=by
 intro pins s σ H x y v u Q I rx ry h;obtain⟨i,j,rfl,rfl,q⟩:=h;obtain⟨t,rfl⟩:=rx;obtain⟨t',rfl⟩:=ry;exact rule i j t t' s _ _ ⟨.int (g i j),H,I.tok _,⟨_,rfl⟩,q⟩
theorem Zgc{f:Value->Value->Sem Value}{g:Int->Int->Bool}
 (rule:∀ (i j:Int) (t u:Tok) (s:Shared) (Q:YQ_) (E:YQ_),Q (.bool (g i j)) s->wpAny (model X.prog X.w) X.A (f (.int i t) (.int j u)) Q E s) :
 OpR X f (rI0 fun i j=>.bl (g i j)):=by
 intro pins s σ H x y v u Q I rx ry h;obtain⟨i,j,rfl,rfl,q⟩:=h;obtain⟨t,rfl⟩:=rx;obtain⟨t',rfl⟩:=ry;exact rule i j t t' s _ _ ⟨.bl (g i j),H,I,rfl,q⟩
def Zga(i j:Int):Prop:=0 < j/\j < 1073741824
def Qic(i j:Int):Prop:=0<=j/\j<=1000000/\i.natAbs < 2 ^ 64
def XCa(i j:Int):Prop:=(-(2 ^ 64) < i/\i < 2 ^ 64)\/(-(2 ^ 64) < j/\j < 2 ^ 64)
theorem XCa.ok{i j:Int}(h:XCa i j):IntMulOk i j:=by
 rcases h with ⟨h1,h2⟩ | ⟨h1,h2⟩
 ·exact .of_left (intBits_le_64 h1 h2)
 ·exact .of_right (intBits_le_64 h1 h2)
theorem XDa(k:Nat):(0:Int)<=2 ^ k:=by
 rw[two_pow_cast];exact Int.natCast_nonneg _
theorem ZY:OpR X (binaryOp .Add) (rI0 fun i j=>.int (i+j)):=Qhc fun _ _ _ _ _ _ _ q=>add_int q
theorem JU:OpR X (binaryOp .Sub) (rI0 fun i j=>.int (i - j)):=Qhc fun _ _ _ _ _ _ _ q=>sub_int q
theorem QE:OpR X (binaryOp .FloorDiv) (rI Zga fun i j=>.int (i / j)):=opI fun i j _ _ _ _ _ hc q=>by
 have h1:(0:Int) < j:=hc.1;have h2:j < 1073741824:=hc.2;exact floordiv_int (by omega) (by rw[Int.fdiv_eq_ediv_of_nonneg i (by omega)];exact q) (.inl (PyProof.noPylong_small (by omega)))
theorem Qz:OpR X (binaryOp .Mod) (rI (fun _ j=>0 < j) fun i j=>.int (i % j)):=opI fun i j _ _ _ _ _ hc q=>by
 have h1:(0:Int) < j:=hc;exact mod_int' (by omega) (by rw[Int.fmod_eq_emod_of_nonneg i (by omega)];exact q)
theorem Zha:OpR X (binaryOp .Pow) (rI Qic fun i j=>.int (i ^ j.toNat)):=opI fun _ _ _ _ _ _ _ hc q=>pow_int_small hc.1 hc.2.1 hc.2.2 q
theorem Qjc:OpR X (binaryOp .LShift) (rI Qic fun i j=>.int (i * 2 ^ j.toNat)):=opI fun _ _ _ _ _ _ _ hc q=>lshift_int_small hc.1 hc.2.1 hc.2.2 q
theorem XEa:OpR X (binaryOp .RShift) (rI (fun _ j=>0<=j) fun i j=>.int (i / 2 ^ j.toNat)):=opI fun i j _ _ _ _ _ hc q =>
 rshift_int hc (by rw[Int.fdiv_eq_ediv_of_nonneg i (XDa _)];exact q)
theorem Z2b:OpR X (binaryOp .BitXor) (rI0 fun i j=>.int (Builtin.bitXor i j)):=Qhc fun _ _ _ _ _ _ _ q=>xor_int q
theorem unI{f:Value->Sem Value}{g:Int->Int}
 (rule:∀ (i:Int) (t:Tok) (s:Shared) (Q:YQ_) (E:YQ_),Q (.int (g i) s.toks) { s with toks:=s.toks+1 }->wpAny (model X.prog X.w) X.A (f (.int i t)) Q E s) :
 UnR X f (rU fun i=>.int (g i)):=by
 intro pins s σ H x v Q I rx h;obtain⟨i,rfl,q⟩:=h;obtain⟨t,rfl⟩:=rx;exact rule i t s _ _ ⟨.int (g i),H,I.tok _,⟨_,rfl⟩,q⟩
theorem Qkc:UnR X (unaryOp .USub) (rU fun i=>.int (-i)):=unI fun _ _ _ _ _ q=>neg_int q
end
def YT:V->V->Bool
 | .non,.non=>true | .non,.int _=>true | .int _,.non=>true | .non,.bl _=>true | .bl _,.non=>true | .non,.str _=>true | .str _,.non=>true
 | .int _,.int _=>true | .bl _,.bl _=>true | .str _,.str _=>true | .byt _,.byt _=>true
 | .int _,.str _=>true | .str _,.int _=>true | .bl _,.str _=>true | .str _,.bl _=>true
 | _,_=>false
theorem YDb:YT .non .non=true:=rfl
theorem YEb{b:Int}:YT .non (.int b)=true:=rfl
theorem YFb{a:Int}:YT (.int a) .non=true:=rfl
theorem YGb{b:Bool}:YT .non (.bl b)=true:=rfl
theorem YHb{a:Bool}:YT (.bl a) .non=true:=rfl
theorem YIb{b:Str}:YT .non (.str b)=true:=rfl
theorem YJb{a:Str}:YT (.str a) .non=true:=rfl
theorem YKb{a:Int}{b:Int}:YT (.int a) (.int b)=true:=rfl
theorem YLb{a:Bool}{b:Bool}:YT (.bl a) (.bl b)=true:=rfl
theorem YMb{a:Str}{b:Str}:YT (.str a) (.str b)=true:=rfl
theorem YNb{a:Int}{b:Str}:YT (.int a) (.str b)=true:=rfl
theorem YOb{a:Str}{b:Int}:YT (.str a) (.int b)=true:=rfl
theorem YPb{a:Bool}{b:Str}:YT (.bl a) (.str b)=true:=rfl
theorem YQb{a:Str}{b:Bool}:YT (.str a) (.bl b)=true:=rfl
def rEq:R2:=fun x y H Q=>YT x y=true/\Q (.bl (decide (x=y))) H
def rNe:R2:=fun x y H Q=>YT x y=true/\Q (.bl (!decide (x=y))) H
theorem Qpb{i j:Int}:decide (V.int i=V.int j)=(i == j):=by
 rw[Bool.eq_iff_iff];simp
theorem Z3b{i j:Bool}:decide (V.bl i=V.bl j)=(i == j):=by
 rw[Bool.eq_iff_iff];simp
theorem Qqb{i j:Str}:decide (V.str i=V.str j)=(i == j):=by
 rw[Bool.eq_iff_iff];simp
theorem Qrb{i j:Array UInt8}:decide (V.byt i=V.byt j)=(i.toList == j.toList):=by
 rw[Bool.eq_iff_iff];cases i;cases j;simp
section
variable{X:Cx}{a b c:Expr}{ta tb tc:TE}{pos:Pos}
theorem QH{pins:YP_}{σ:St}{H:Hp}{s:Shared}{Q:VK}{k k':Bool}(I:Inv X pins σ H s)(q:Q (.bl k) H)(e:k=k'):EP X pins σ Q (.bool k') s:=by
 subst e;exact⟨.bl k,H,I,rfl,q⟩
theorem ZB:OpR X (compareOp .Eq) rEq:=by
 intro pins s σ H x y v u Q I rx ry h;obtain⟨hs,q⟩:=h;cases x with
 | non =>
  cases rx;cases y with
  | non=>cases ry;exact PySem.EqNone.eq_none_none (QH I q (by simp))
  | bl j=>cases ry;exact PySem.EqNone.eq_none_bool (QH I q (by simp))
  | int j=>obtain⟨t',rfl⟩:=ry;exact PySem.EqNone.eq_none_int (QH I q (by simp))
  | str j=>obtain⟨t',rfl⟩:=ry;exact PySem.EqNone.eq_none_str (QH I q (by simp))
  | _=>exact absurd (show false=true from hs) Vf
 | bl i =>
  cases rx;cases y with
  | non=>cases ry;exact PySem.EqNone.eq_bool_none (QH I q (by simp))
  | bl j=>cases ry;exact eq_bool (QH I q Z3b)
  | str j=>obtain⟨t',rfl⟩:=ry;exact PySem.EqMixed.eq_bool_str (QH I q (by simp))
  | _=>exact absurd (show false=true from hs) Vf
 | int i =>
  obtain⟨t,rfl⟩:=rx;cases y with
  | non=>cases ry;exact PySem.EqNone.eq_int_none (QH I q (by simp))
  | int j=>obtain⟨t',rfl⟩:=ry;exact eq_int (QH I q Qpb)
  | str j=>obtain⟨t',rfl⟩:=ry;exact PySem.EqMixed.eq_int_str (QH I q (by simp))
  | _=>exact absurd (show false=true from hs) Vf
 | str i =>
  obtain⟨t,rfl⟩:=rx;cases y with
  | non=>cases ry;exact PySem.EqNone.eq_str_none (QH I q (by simp))
  | bl j=>cases ry;exact PySem.EqMixed.eq_str_bool (QH I q (by simp))
  | int j=>obtain⟨t',rfl⟩:=ry;exact PySem.EqMixed.eq_str_int (QH I q (by simp))
  | str j=>obtain⟨t',rfl⟩:=ry;exact eq_str (QH I q Qqb)
  | _=>exact absurd (show false=true from hs) Vf
 | byt i =>
  obtain⟨t,rfl⟩:=rx;cases y with
  | byt j=>obtain⟨t',rfl⟩:=ry;exact W.eq_bytes (QH I q Qrb)
  | _=>exact absurd (show false=true from hs) Vf
 | _=>cases y <;> exact absurd (show false=true from hs) Vf
theorem Qsb:OpR X (compareOp .NotEq) rNe:=by
 intro pins s σ H x y v u Q I rx ry h;obtain⟨hs,q⟩:=h;cases x with
 | non =>
  cases rx;cases y with
  | non=>cases ry;exact PySem.EqNone.ne_none_none (QH I q (by simp))
  | bl j=>cases ry;exact PySem.EqNone.ne_none_bool (QH I q (by simp))
  | int j=>obtain⟨t',rfl⟩:=ry;exact PySem.EqNone.ne_none_int (QH I q (by simp))
  | str j=>obtain⟨t',rfl⟩:=ry;exact PySem.EqNone.ne_none_str (QH I q (by simp))
  | _=>exact absurd (show false=true from hs) Vf
 | bl i =>
  cases rx;cases y with
  | non=>cases ry;exact PySem.EqNone.ne_bool_none (QH I q (by simp))
  | bl j=>cases ry;exact ne_bool (QH I q (congrArg not Z3b))
  | str j=>obtain⟨t',rfl⟩:=ry;exact PySem.EqMixed.ne_bool_str (QH I q (by simp))
  | _=>exact absurd (show false=true from hs) Vf
 | int i =>
  obtain⟨t,rfl⟩:=rx;cases y with
  | non=>cases ry;exact PySem.EqNone.ne_int_none (QH I q (by simp))
  | int j=>obtain⟨t',rfl⟩:=ry;exact ne_int (QH I q (congrArg not Qpb))
  | str j=>obtain⟨t',rfl⟩:=ry;exact PySem.EqMixed.ne_int_str (QH I q (by simp))
  | _=>exact absurd (show false=true from hs) Vf
 | str i =>
  obtain⟨t,rfl⟩:=rx;cases y with
  | non=>cases ry;exact PySem.EqNone.ne_str_none (QH I q (by simp))
  | bl j=>cases ry;exact PySem.EqMixed.ne_str_bool (QH I q (by simp))
  | int j=>obtain⟨t',rfl⟩:=ry;exact PySem.EqMixed.ne_str_int (QH I q (by simp))
  | str j=>obtain⟨t',rfl⟩:=ry;exact ne_str (QH I q (congrArg not Qqb))
  | _=>exact absurd (show false=true from hs) Vf
 | byt i =>
  obtain⟨t,rfl⟩:=rx;cases y with
  | byt j=>obtain⟨t',rfl⟩:=ry;exact W.ne_bytes (QH I q (congrArg not Qrb))
  | _=>exact absurd (show false=true from hs) Vf
 | _=>cases y <;> exact absurd (show false=true from hs) Vf
theorem XKb:OpR X (compareOp .Lt) (rI0 fun i j=>.bl (decide (i < j))):=Zgc fun _ _ _ _ _ _ _ q=>lt_int q
theorem Z4b:OpR X (compareOp .Gt) (rI0 fun i j=>.bl (decide (j < i))):=Zgc fun _ _ _ _ _ _ _ q=>gt_int q
theorem XFa:OpR X (compareOp .Is) (fun x y H Q=>y=.non/\Q (.bl (decide (x=.non))) H):=by
 intro pins s σ H x y v u Q I rx ry h;obtain⟨rfl,q⟩:=h;cases ry;refine is_none_gen (QH I q ?_)
 cases x <;> first
  | (cases rx;rfl)
  | (obtain⟨t,rfl⟩:=rx;rfl)
theorem Qt(b:Expr){op:CmpOp}(h:op≠.In:=by decide)(h2:op≠.NotIn:=by decide):behindInMarks op b=false:=by
 have e1:(op == CmpOp.In)=false:=by cases op <;> first | rfl | exact absurd rfl h
 have e2:(op == CmpOp.NotIn)=false:=by cases op <;> first | rfl | exact absurd rfl h2
 cases b <;> simp[behindInMarks,e1,e2]
theorem JN{op:CmpOp}{r:R2}(ho:OpR X (compareOp op) r)(ha:PE X a ta)(hb:PE X b tb)(hm:behindInMarks op b=false):PE X (.Compare a [op] [b] pos) (tOp r ta tb):=by
 intro pins s σ H Q I h;exact wpAny_Compare1 (Qgc ha hb I h fun v u s2 x y H2 I2 rx ry q=>ho pins s2 σ H2 x y v u Q I2 rx ry q) hm
def XLb(t:TE):TT:=fun σ H Q=>t σ H fun x H'=>∃ k,x=.bl k/\Q k H'
theorem Qs{op:CmpOp}{r:R2}(ho:OpR X (compareOp op) r)(ha:PE X a ta)(hb:PE X b tb)(hm:behindInMarks op b=false):PT X (.Compare a [op] [b] pos) (XLb (tOp r ta tb)):=by
 intro pins s σ H Q I h;refine wpAny_isTrue_Compare1 (thn (ha pins s σ H _ I h) fun v s1 ⟨x,H1,I1,r1,q1⟩=>thn (hb pins s1 σ H1 _ I1 q1) fun u s2 ⟨y,H2,I2,r2,q2⟩ =>
  thn (ho pins s2 σ H2 x y v u _ I2 r1 r2 q2) fun c s3 ⟨z,H3,I3,r3,k,e,q3⟩=>?_) hm
 subst e;cases r3;exact wpAny_truthy_bool ⟨H3,I3,q3⟩
def Zhc(K:W.Frag)(x:V)(H:Hp)(k:Bool):Prop :=
 match x with
 | .non=>k=false
 | .bl b=>k=b
 | .int i=>k=(i != 0)
 | .str y=>y.length<=sizeLine/\k=((y.length:Int) != 0)
 | .byt y=>y.size<=sizeLine/\k=((y.size:Int) != 0)
 | .ref p=>(∃ xs,SqL K H p xs/\k=!xs.isEmpty)\/(∃ xs,SqT K H p xs/\k=!xs.isEmpty)\/∃ kvs,H p=some (.dK kvs)/\k=!kvs.isEmpty
 | _=>False
theorem XGa{κ:Type}{kvs:List (κ×V)}{vs:List (κ×Value)}(r:KV kvs vs):(!vs.isEmpty)=!kvs.isEmpty:=by
 cases r <;> rfl
theorem Zia{xs:List V}{its:List Value}(r:Qv xs its):(!its.toArray.isEmpty)=!xs.isEmpty:=by
 cases r <;> simp
theorem Zja:(sizeLine:Nat) < 2 ^ 63:=by rw[sizeLine_eq];decide
theorem Qlc:ZQc X (fun x H Q=>∃ k,Zhc X.K x H k/\Q k H):=by
 intro pins s σ H x v Q I rx h;obtain⟨k,e,q⟩:=h;have hl:=Zja;have hs:sizeLine=16777216:=sizeLine_eq;cases x with
 | non =>
  cases rx;have e':k=false:=e;subst e';exact truthy_none ⟨H,I,q⟩
 | bl b =>
  cases rx;have e':k=b:=e;subst e';exact wpAny_truthy_bool ⟨H,I,q⟩
 | int i =>
  obtain⟨t,rfl⟩:=rx;have e':k=(i != 0):=e;subst e';exact PySem.P.truthy_int ⟨H,I,q⟩
 | str y =>
  obtain⟨t,rfl⟩:=rx;obtain⟨hy,e'⟩:y.length<=sizeLine/\k=((y.length:Int) != 0):=e;subst e';exact PySem.P.truthy_str (by omega) ⟨H,I.tok _,q⟩
 | byt y =>
  obtain⟨t,rfl⟩:=rx;obtain⟨hy,e'⟩:y.size<=sizeLine/\k=((y.size:Int) != 0):=e;subst e';exact W.truthy_bytes (by omega) ⟨H,I.tok _,q⟩
 | ref p =>
  cases rx;have e':(∃ xs,SqL X.K H p xs/\k=!xs.isEmpty)\/(∃ xs,SqT X.K H p xs/\k=!xs.isEmpty)\/∃ kvs,H p=some (.dK kvs)/\k=!kvs.isEmpty:=e
  rcases e' with ⟨xs,hx,e'⟩ | ⟨xs,hx,e'⟩ | ⟨kvs,hx,e'⟩
  ·subst e'
   obtain⟨its,r,pl,hz⟩:=I.list hx;have hlen:=r.length;exact wpAny_truthy_list pl.isList (by simp only[Vn];omega) ⟨H,I.tok _,by rw[Zia r];exact q⟩
  ·subst e'
   obtain⟨its,r,pl,hz⟩:=I.tuple hx;have hlen:=r.length;exact truthy_tuple pl (by simp only[Vn];omega) ⟨H,I.tok _,by rw[Zia r];exact q⟩
  ·subst e'
   obtain⟨hz,hS,vs,r,m⟩:kvs.length<=sizeLine/\(p == sysModules)=false/\∃ vs,KV kvs vs/\s.heap.DictOf (QL X.prog X.w) p vs:=I.hok p _ hx;have hlen:kvs.length=vs.length:=Paired.length r;exact wpAny_truthy_dict hS m (by omega) ⟨H,I.tok _,by rw[XGa r];exact q⟩
 | _=>exact(show False from e).elim
theorem YGa(ha:PE X a ta)(he:∀ whole,isTrue a X.env whole=(do let v <- whole;standAt a.pos;holding [v] (truthy v))) :
 PT X a (fun σ H Q=>ta σ H fun x H'=>∃ k,Zhc X.K x H' k/\Q k H'):=by
 intro pins s σ H Q I h;exact isTrue_plain (thn (ha pins s σ H _ I h) fun v s1 ⟨x,H1,I1,r1,q1⟩=>Qlc pins s1 σ H1 x v Q I1 r1 q1) (he _)
theorem Yh:OpR X (binaryOp .Add) (fun x y H Q=>∃ i j,x=.str i/\y=.str j/\i.length+j.length<=sizeLine/\Q (.str (i++j)) H):=by
 intro pins s σ H x y v u Q I rx ry h;obtain⟨i,j,rfl,rfl,hz,q⟩:=h;obtain⟨t,rfl⟩:=rx;obtain⟨t',rfl⟩:=ry;exact add_str (fun t' tk=>⟨.str (i++j),H,I.tok _,⟨_,rfl⟩,q⟩) hz
theorem Zka{x:V}{us:List Value}(r:Qv [x] us):∃ u,us=[u]/\Qr x u:=by
 cases r with
 | cons r1 r2=>cases r2;exact⟨_,rfl,r1⟩
theorem Zic{x y:V}{us:List Value}(r:Qv [x,y] us):∃ u w',us=[u,w']/\Qr x u/\Qr y w':=by
 cases r with
 | cons r1 r2 =>
  cases r2 with
  | cons r3 r4=>cases r4;exact⟨_,_,rfl,r1,r3⟩
theorem JRa:Xp X (.type "str") (fun xs H Q=>∃ i,xs=[.int i]/\i.natAbs.log2 < 1920/\Q (.str (toString i)) H):=by
 intro pins s σ H xs us Q I r h;obtain⟨i,rfl,hz,q⟩:=h;obtain⟨u,rfl,t,rfl⟩:=Zka r;exact PySem.P.str_of_int hz ⟨.str _,H,I.tok _,⟨_,rfl⟩,q⟩
theorem Z5b:Xp X (.builtin "ord") (fun xs H Q=>∃ x,xs=[.str x]/\x.length=1/\Q (.int (x.cps.getD 0 0:Nat)) H):=by
 intro pins s σ H xs us Q I r h;obtain⟨x,rfl,hz,q⟩:=h;obtain⟨u,rfl,t,rfl⟩:=Zka r;exact ord_of_one hz ⟨.int _,H,I.tok _,⟨_,rfl⟩,q⟩
end
structure XHa(h:Heap)(x dx C:Addr)(mA:Str->Option Value):Prop where
 obj:h.get? x=some (W.instObj C dx)
 ns:h.Ns1 dx mA
 ne:dx≠x
theorem Zdb{h:Heap}{dx:Addr}{mA:Str->Option Value}(n:h.Ns1 dx mA):∃ od,h.get? dx=some od/\∀ name,W.lookIn name od=some (mA name):=by
 obtain⟨o,es,ep,ho,hd,hk,_,hm⟩:=n;refine⟨o,ho,fun name=>?_⟩
 have e:=hm name;unfold nsFind findBy at e;rw[<- Array.find?_toList]at e
 unfold W.lookIn;rw[hd];dsimp only
 split
 ·rename_i y q
  rw[q]at e;exact congrArg some e
 ·rename_i q
  rw[q]at e;have a:es.toList.any (·.refKey)=false:=by
   rw[any_eq_false];intro y hy;obtain⟨z,t,hkey⟩:=hk y (Array.mem_toList_iff.mp hy);simp[DictEntry.refKey,hkey]
  have a':¬ es.toList.any (·.refKey)=true:=by rw[a];exact Vf
  rw[if_neg a'];exact congrArg some e
theorem XHa.look{h:Heap}{x dx C:Addr}{mA:Str->Option Value}(I:XHa h x dx C mA):∃ od,W.InstAt h x (W.instObj C dx) C (some od)/\∀ name,W.lookIn name od=some (mA name) :=
 let ⟨od,ho,hl⟩:=Zdb I.ns
 ⟨od,⟨I.obj,rfl,rfl,ho⟩,hl⟩
section
variable{prog:Program}{w:World}{A:Around}{E:YQ_}{s:Shared}{K:W.Frag}{x dx C f:Addr}{mA:Str->Option Value}{name:Str}{v:Value}
theorem YRb{expr:Bool}{Q:YQ_}(X:K.In s.heap)(I:XHa s.heap x dx C mA)(hg:W.plainGet K C name=true)(hh:W.hasDictIn K C=true)
 (ha:W.findIn K (.ref C) name=some none) (hv:mA name=some v) (hv':W.handedIn v=true) (h:Q v { s with toks:=s.toks+1 }) :
 wpAny (model prog w) A (getAttr (.ref x) name expr) Q E s:=by
 obtain⟨od,J,hl⟩:=I.look;exact W.get_value X J (W.plainGet_of hg).1 (W.findObj_own hh ha rfl (by rw[hl,hv])) hv' h
theorem Z6b{pl:Sem Bool}{Q:Value×List Value->Shared->Prop}(X:K.In s.heap)(I:XHa s.heap x dx C mA)(hg:W.plainGet K C name=true)
 (hf:W.findIn K (.ref C) name=some (some (.ref f))) (ht:W.isFn K (.ref f)=true) (hv:mA name=none) (h:Q (.ref f,[.ref x]) s) :
 wpAny (model prog w) A (getMethod (.ref x) name pl) Q E s:=by
 obtain⟨od,J,hl⟩:=I.look;exact W.method_fn X J (W.plainGet_of hg).1 (W.plainGet_of hg).2 hf (beq_iff_eq.mp ht) (by show(W.lookIn name od).map (·.isSome)=some false;rw[hl,hv];rfl) h
theorem YSb{ns:List Str}{Q:Unit->Shared->Prop}(X:K.In s.heap)(I:XHa s.heap x dx C mA)
 (hs:W.findIn K (.ref C) "__setattr__"=some (some (.builtin "object.__setattr__"))) (hp:W.plainOver K C=true) (ht:W.takerIn K C name=some none) (hh:W.hasDictIn K C=true)
 (hw:PySem.Within mA ns) (hsz:ns.length<=sizeLine)
 (h:∀ h',XHa h' x dx C (fun y=>if y=name then some v else mA y)->Heap.SameBut dx s.heap h'->Q () { s with heap:=h',toks:=s.toks+2 }) :
 wpAny (model prog w) A (setAttr (.ref x) name v) Q E s:=by
 obtain⟨od,J,hl⟩:=I.look;refine W.set_plain X J hs (W.osa_open (s:={ s with toks:=s.toks+1 }) (r:=none) X J hp ht fun b=>?_)
 obtain⟨cd,hc,hd'⟩:=W.any_some hh;have hx:s.heap.get? x=some ⟨.ref C,some dx,.plain,#[]⟩:=I.obj;refine Va (Vg (Va (Va (wpAny_loadPart hx (Va (W.Looks.here (s:={ s with toks:=s.toks+1 }) (W.looks_clsIn X hc) ?_))))))
 rw[hd'];refine Vg (a:=some dx) (Va (Vg (Va ?_)))
 refine wpAny_nsSet1 (s:={ s with toks:=s.toks+1 }) I.ns fun h' hn2 hs2=>?_
 obtain⟨oD,esD,epD,hoD,hdD,hcD⟩:=hn2.count (PySem.Within.cons name v hw);refine Va (wpAny_lookBehind hoD (by rw[hdD];exact pastItsLine_dict (Vj hcD (by rw[length_cons];omega))) ?_)
 exact Vg (h _ ⟨(hs2.2 _ (Ne.symm I.ne)).trans I.obj,hn2,I.ne⟩ hs2)
theorem Z7b{R:Result->Shared->Prop}{vs:List Value}{kw:List (Str×Value)}(X:K.In s.heap)(hm:W.makesIn K C=true)
 (hi:W.findIn K (.ref C) "__init__"=some (some (.ref f))) (hf:W.typeIn K (.ref f)=some (.type "function"))
 (h:codeAny (model prog w) (A.under (.builtin "type.__call__" ⟨.ref C::vs,kw⟩)) (.call (.ref f) ⟨.ref (s.heap.objs.size+1)::vs,kw⟩) (W.InitBack (s.heap.objs.size+1) R)
  { s with heap:=(s.heap.push W.emptyDict).push (W.instObj C s.heap.objs.size) }) :
 codeAny (model prog w) A (.call (.ref C) ⟨vs,kw⟩) R s:=by
 obtain⟨hh,g,d,t,os⟩:=s;exact W.make_core (W.makes_of X hm) (W.looks_findIn X hi) (fun self=>W.bind_fn X self hf) (.inl rfl) h
end
def Zr(f:Str)(v:V):List (Str×V)->List (Str×V)
 | []=>[(f,v)]
 | (g,x)::r=>if g=f then (g,v)::r else (g,x)::Zr f v r
theorem QLa(f g:Str)(v:V):∀ fs:List (Str×V),(Zr f v fs).lookup g=if g=f then some v else fs.lookup g
 | []=>by
  show List.lookup g [(f,v)]=_
  by_cases h:g=f
  ·have hb:(g == f)=true:=beq_iff_eq.mpr h
   simp only[List.lookup,hb,if_pos h]
  ·have hb:(g == f)=false:=beq_eq_false_iff_ne.mpr h
   simp only[List.lookup,hb,if_neg h]
 | (k,x)::r=>by
  have ih:=QLa f g v r;rw[show Zr f v ((k,x)::r)=(if k=f then (k,v)::r else (k,x)::Zr f v r) from rfl]
  by_cases hk:k=f
  ·rw[if_pos hk]
   by_cases h:g=k
   ·have hb:(g == k)=true:=beq_iff_eq.mpr h
    simp only[List.lookup,hb,if_pos (h.trans hk)]
   ·have hb:(g == k)=false:=beq_eq_false_iff_ne.mpr h
    simp only[List.lookup,hb,if_neg (fun e:g=f=>h (e.trans hk.symm))]
  ·rw[if_neg hk]
   by_cases h:g=k
   ·have hb:(g == k)=true:=beq_iff_eq.mpr h
    simp only[List.lookup,hb,if_neg (fun e:g=f=>hk (h.symm.trans e))]
   ·have hb:(g == k)=false:=beq_eq_false_iff_ne.mpr h
    simp only[List.lookup,hb];exact ih
theorem Qja(f:Str)(v:V):∀ fs:List (Str×V),f∈(Zr f v fs).map (·.1)/\∀ g,g∈fs.map (·.1)->g∈(Zr f v fs).map (·.1)
 | []=>⟨by simp[Zr],fun g h=>by simp at h⟩
 | (k,x)::r=>by
  obtain⟨i1,i2⟩:=Qja f v r;rw[show Zr f v ((k,x)::r)=(if k=f then (k,v)::r else (k,x)::Zr f v r) from rfl]
  by_cases hk:k=f
  ·rw[if_pos hk]
   subst hk;exact⟨by simp,fun g h=>by simpa using h⟩
  ·rw[if_neg hk]
   refine⟨?_,fun g h=>?_⟩
   ·rw[map_cons]
    exact Vo _ i1
   ·rw[map_cons]at h ⊢
    rcases mem_cons.mp h with e | e
    ·exact mem_cons.mpr (.inl e)
    ·exact Vo _ (i2 g e)
theorem QMa(f:Str)(v:V):∀ fs:List (Str×V),(Zr f v fs).length<=fs.length+1
 | []=>by simp[Zr]
 | (k,x)::r=>by
  have ih:=QMa f v r;rw[show Zr f v ((k,x)::r)=(if k=f then (k,v)::r else (k,x)::Zr f v r) from rfl]
  by_cases hk:k=f
  ·rw[if_pos hk,length_cons,length_cons];omega
  ·rw[if_neg hk,length_cons,length_cons];omega
theorem JI.some_of{v:V}{o:Option Value}(r:JI (some v) o):∃ u,o=some u/\Qr v u:=by
 cases o with
 | none=>exact(show False from r).elim
 | some u=>exact⟨u,rfl,r⟩
theorem JI.none_of{o:Option Value}(r:JI none o):o=none:=by
 cases o with
 | none=>rfl
 | some u=>exact(show False from r).elim
theorem Zeb{v:V}{u:Value}(r:Qr v u):W.handedIn u=true:=by
 cases v with
 | non=>cases (show u=Value.none from r);rfl
 | bl b=>cases (show u=Value.bool b from r);rfl
 | int i=>obtain⟨t,e⟩:=(show ∃ t,u=Value.int i t from r);cases e;rfl
 | str x=>obtain⟨t,e⟩:=(show ∃ t,u=Value.str x t from r);cases e;rfl
 | byt b=>obtain⟨t,e⟩:=(show ∃ t,u=Value.bytes b t from r);cases e;rfl
 | flt b=>obtain⟨t,e⟩:=(show ∃ t,u=Value.float b t from r);cases e;rfl
 | ref a=>cases (show u=Value.ref a from r);rfl
 | ty n=>cases (show u=Value.type n from r);rfl
section
variable{P:Program}{w:World}{H H':Hp}{h h':Heap}{a C dx:Addr}{fs fs':List (Str×V)}
theorem Q1a(hok:HOk P w H h)(e:H a=some (.ins C dx fs)):∃ mA,XHa h a dx C mA/\(∀ f,JI (fs.lookup f) (mA f))/\PySem.Within mA (fs.map (·.1))/\fs.length<=1000/\H dx=some (.own a):=by
 obtain⟨d,z,ne,ob,mA,n,r,q⟩:=(show QB P w H h a (.ins C dx fs) from hok a _ e)
 exact⟨mA,⟨ob,n,ne⟩,r,q,z,d⟩
end
structure Cls(K:W.Frag)(C:Addr):Prop where
 pg:W.plainGet K C Str.empty=true
 hd:W.hasDictIn K C=true
 po:W.plainOver K C=true
 sa:W.findIn K (.ref C) "__setattr__"=some (some (.builtin "object.__setattr__"))
theorem Cls.get{K:W.Frag}{C:Addr}(c:Cls K C)(f:Str):W.plainGet K C f=true:=c.pg
def ZZ(K:W.Frag)(C:Addr)(f:Str):Prop:=W.findIn K (.ref C) f=some none
theorem ZZ.taker{K:W.Frag}{C:Addr}{f:Str}(n:ZZ K C f):W.takerIn K C f=some none:=by
 unfold W.takerIn;rw[show W.findIn K (.ref C) f=some none from n]
 rfl
structure Zjc(K:W.Frag)(C:Addr)(m:Str)(f:Addr):Prop where
 at_:W.findIn K (.ref C) m=some (some (.ref f))
 fn:W.isFn K (.ref f)=true
 kp:W.keepIn K (.ref f)=true
section
variable{X:Cx}{pins:YP_}{σ:St}{H:Hp}{s:Shared}{a C dx:Addr}{fs:List (Str×V)}{f:Str}{v:V}{A:Around}{E:YQ_}
theorem XIa{b:Bool}{Q:YQ_}(I:Inv X pins σ H s)(e:H a=some (.ins C dx fs))(c:Cls X.K C)(n:ZZ X.K C f)(l:fs.lookup f=some v)
 (h:∀ u s',Inv X pins σ H s'->Qr v u->Q u s'):wpAny (model X.prog X.w) A (getAttr (.ref a) f b) Q E s:=by
 obtain⟨mA,O,r,_,_,_⟩:=Q1a I.hok e;obtain⟨u,hu,ru⟩:=JI.some_of (v:=v) (o:=mA f) (by rw[<- l];exact r f)
 exact YRb I.kIn O (c.get f) c.hd n hu (Zeb ru) (h u _ (I.tok _) ru)
theorem Yi{m:Str}{g:Addr}{pl:Sem Bool}{Q:Value×List Value->Shared->Prop}(I:Inv X pins σ H s)(e:H a=some (.ins C dx fs))(c:Cls X.K C)(k:Zjc X.K C m g)(l:fs.lookup m=none)
 (h:Q (.ref g,[.ref a]) s):wpAny (model X.prog X.w) A (getMethod (.ref a) m pl) Q E s:=by
 obtain⟨mA,O,r,_,_,_⟩:=Q1a I.hok e;have hn:mA m=none:=JI.none_of (by rw[<- l];exact r m)
 exact Z6b I.kIn O (c.get m) k.at_ k.fn hn h
theorem XJa{y:V}{u:Value}{Q:Unit->Shared->Prop}(I:Inv X pins σ H s)(e:H a=some (.ins C dx fs))(c:Cls X.K C)(n:ZZ X.K C f)(hl:fs.length < 1000)(ry:Qr y u)
 (h:∀ s',Inv X pins σ (upd H a (.ins C dx (Zr f y fs))) s'->Q () s'):wpAny (model X.prog X.w) A (setAttr (.ref a) f u) Q E s:=by
 obtain⟨mA,O,r,wi,_,ho⟩:=Q1a I.hok e;have hz:(fs.map (·.1)).length<=sizeLine:=by rw[Vr,sizeLine_eq];omega
 refine YSb I.kIn O c.sa c.po n.taker c.hd wi hz fun h' O' sb=>h _ ?_
 have hd:∃ o,h'.get? dx=some o:=let ⟨o,_,_,e',_⟩:=O'.ns;⟨o,e'⟩
 refine I.write (x:=a) (e:=dx) (by rw[e];exact True.intro) (.inr ho) (fun b q hb z=>(sb.2 b hb).trans z) hd ?_
 refine⟨by rw[Qd O.ne];exact ho,?_,O.ne,O'.obj,_,O'.ns,fun g=>?_,fun g hg=>?_⟩
 ·have:=QMa f y fs;omega
 ·show JI ((Zr f y fs).lookup g) (if g=f then some u else mA g)
  rw[QLa]
  by_cases q:g=f
  ·rw[if_pos q,if_pos q];exact ry
  ·rw[if_neg q,if_neg q];exact r g
 ·by_cases q:g=f
  ·rw[q];exact(Qja f y fs).1
  ·refine(Qja f y fs).2 g (wi g fun z=>hg ?_)
   show(if g=f then some u else mA g)=none
   rw[if_neg q];exact z
theorem Inv.made(I:Inv X pins σ H s):Inv X pins σ (upd (upd H s.heap.objs.size (.own (s.heap.objs.size+1))) (s.heap.objs.size+1) (.ins C s.heap.objs.size []))
 { s with heap:=(s.heap.push W.emptyDict).push (W.instObj C s.heap.objs.size) }:=by
 have e1:(s.heap.push W.emptyDict).get? s.heap.objs.size=some W.emptyDict:=Vi s.heap rfl
 have e2:((s.heap.push W.emptyDict).push (W.instObj C s.heap.objs.size)).get? (s.heap.objs.size+1)=some (W.instObj C s.heap.objs.size):=by
  have:=Vi (s.heap.push W.emptyDict) (o:=W.instObj C s.heap.objs.size) rfl
  rwa [Heap.size_push]at this
 have e3:(s.heap.push W.emptyDict).Ns s.heap.objs.size (fun _=>none):=⟨W.emptyDict,#[],_,e1,rfl,(fun e he=>absurd he (by simp)),fun _=>rfl⟩
 have I1:=I.laid (a:=s.heap.objs.size) (o:=.own (s.heap.objs.size+1)) (h':=s.heap.push W.emptyDict) (t':=s.toks) (fun b u q=>Vd _ q) (Ve _) ⟨_,e1⟩
 refine I1.laid (a:=s.heap.objs.size+1) (o:=.ins C s.heap.objs.size []) (t':=s.toks) (fun b u q=>Vd _ q) (Nat.le_of_eq (Heap.size_push _ _)) ?_
 have ne:s.heap.objs.size≠s.heap.objs.size+1:=Nat.ne_of_lt (Nat.lt_succ_self _);refine⟨by rw[Qd ne,Qa],Vk _,ne,e2,fun _=>none,(Heap.Ns1.of_empty e3).at fun o q=>Vd _ q,fun _=>True.intro,fun y hy=>absurd rfl hy⟩
theorem YTb{prog:Program}{w:World}{env:Env}{e:Expr}{f:Str}{pos:Pos}{s:Shared}{Q:YQ_}(hb:attributeBase e f env (eval e env)=eval e env)
 (h:wpAny (model prog w) A (eval e env) (fun o s₁=>wpAny (model prog w) A (getAttr o f true) Q E s₁) E s):wpAny (model prog w) A (eval (.Attribute e f pos) env) Q E s :=
 Attribute_any_ h (by rw[arm_eval_Attribute,hb])
end
def YUb(K:W.Frag)(ta:TE)(f:Str):TE:=fun σ H Q=>ta σ H fun x H1=>∃ a C dx fs v,x=.ref a/\H1 a=some (.ins C dx fs)/\Cls K C/\ZZ K C f/\fs.lookup f=some v/\Q v H1
def Zkc(K:W.Frag)(ta tv:TE)(f:Str):TS:=fun D σ H=>tv σ H fun y H1=>ta σ H1 fun x H2=>∃ a C dx fs,x=.ref a/\H2 a=some (.ins C dx fs)/\Cls K C/\ZZ K C f/\fs.length < 1000 /\
 D.nx σ (upd H2 a (.ins C dx (Zr f y fs)))
section
variable{X:Cx}{o e value:Expr}{f:Str}{pos pos' tpos:Pos}{ta tv:TE}
theorem ZH(he:PE X e ta)(hb:attributeBase e f X.env (eval e X.env)=eval e X.env):PE X (.Attribute e f pos) (YUb X.K ta f):=by
 intro pins s σ H Q I h;refine YTb hb (thn (he pins s σ H _ I h) fun u s1 hZ=>?_)
 obtain⟨x,H1,I1,rx,a,C,dx,fs,v,ex,ea,c,n,l,q⟩:=hZ;subst ex;obtain rfl:u=Value.ref a:=rx;exact XIa I1 ea c n l fun u' s2 I2 ru=>⟨v,H1,I2,ru,q⟩
theorem YU(ha:PE X o ta)(hv:PE X value tv)(hs:swapsWith value (some (.Attribute o f pos')) pos.line X.env=pure false):PS X (.Assign [.Attribute o f pos'] value pos) (Zkc X.K ta tv f):=by
 intro pins s σ H D I h;refine plainObj_wpAny_Assign_Attribute (thn (hv pins s σ H _ I h) fun u s1 ⟨y,H1,I1,ry,q⟩=>thn (ha pins s1 σ H1 _ I1 q) fun ov s2 hZ=>?_) hs
 obtain⟨x,H2,I2,rx,a,C,dx,fs,ex,ea,c,n,l,q2⟩:=hZ;subst ex;obtain rfl:ov=Value.ref a:=rx;exact XJa I2 ea c n l ry fun s3 I3=>⟨σ,_,I3,q2⟩
end
section
variable{X:Cx}{pins:YP_}{σ:St}{H:Hp}{s:Shared}{A:Around}{E:YQ_}{Q:YQ_}{c:Value}{b:Bool}
inductive XT(K:W.Frag)(H:Hp):V->Value->Prop where
 | non:XT K H .non (.type "NoneType")
 | bl (x:Bool):XT K H (.bl x) (.type "bool")
 | int (i:Int):XT K H (.int i) (.type "int")
 | str (x:Str):XT K H (.str x) (.type "str")
 | flt (x:UInt64):XT K H (.flt x) (.type "float")
 | lst {a:Addr} {xs:List V} (e:H a=some (.lst xs)):XT K H (.ref a) (.type "list")
 | frz {a:Addr} {o:Obj} {xs:List V} (e:H a=some (.frz o (.lst xs))):XT K H (.ref a) (.type "list")
 | tup {a:Addr} {xs:List V} (e:H a=some (.tup xs)):XT K H (.ref a) (.type "tuple")
 | dK {a:Addr} {kvs:List (Key×V)} (e:H a=some (.dK kvs)):XT K H (.ref a) (.type "dict")
 | dT {a:Addr} {kvs:List (List Key×V)} (e:H a=some (.dT kvs)):XT K H (.ref a) (.type "dict")
 | ins {a C dx:Addr} {fs:List (Str×V)} (e:H a=some (.ins C dx fs)) (cl:Cls K C) (ha:W.findIn K (.ref C) "__class__"=some (some (.builtin "object.__class__")))
  (hn:W.specialIn K (.builtin "object.__class__") "__get__"=some (some (.builtin "getset_descriptor.__get__"))) (htk:W.takesIn K (.builtin "object.__class__")=some true)
  (hm:W.mroIn K C (.type "object")=some true):XT K H (.ref a) (.ref C)
theorem Zfb{x:V}{u t:Value}(I:Inv X pins σ H s)(rx:Qr x u)(ty:XT X.K H x t)(e:W.kitOne X.K t c=some b)(h:∀ tk,Q (.bool b) { s with toks:=tk }) :
 wpAny (model X.prog X.w) A (call (.builtin "isinstance") [u,c]) Q E s:=by
 cases ty with
 | non=>cases (show u=Value.none from rx);exact W.kia_one W.kitx_none I.kIn True.intro e (fun z=>nomatch z) h
 | bl y=>cases (show u=Value.bool y from rx);exact W.kia_one W.kitx_bool I.kIn True.intro e (fun z=>nomatch z) h
 | int i=>obtain⟨t,q⟩:=(show ∃ t,u=Value.int i t from rx);cases q;exact W.kia_one W.kitx_int I.kIn True.intro e (fun z=>nomatch z) h
 | str y=>obtain⟨t,q⟩:=(show ∃ t,u=Value.str y t from rx);cases q;exact W.kia_one W.kitx_str I.kIn True.intro e (fun z=>nomatch z) h
 | flt y=>obtain⟨t,q⟩:=(show ∃ t,u=Value.float y t from rx);cases q;exact W.kia_one W.kitx_float I.kIn True.intro e (fun z=>nomatch z) h
 | @lst a xs ea =>
  cases (show u=Value.ref a from rx)
  obtain⟨_,_,n,_,h1⟩:=(show QB X.prog X.w H s.heap a (.lst xs) from I.hok a _ ea)
  exact W.kia_one W.kitx_list I.kIn ⟨_,h1,rfl⟩ e (fun z=>nomatch z) h
 | @frz a ob xs ea =>
  cases (show u=Value.ref a from rx)
  obtain⟨_,_,_,n,_,h1⟩:=(show QB X.prog X.w H s.heap a (.frz ob (.lst xs)) from I.hok a _ ea)
  exact W.kia_one W.kitx_list I.kIn ⟨_,h1,rfl⟩ e (fun z=>nomatch z) h
 | @tup a xs ea =>
  cases (show u=Value.ref a from rx)
  obtain⟨_,_,_,p⟩:=(show QB X.prog X.w H s.heap a (.tup xs) from I.hok a _ ea)
  obtain⟨o,h1,h2,_⟩:=p;exact W.kia_one W.kitx_tuple I.kIn ⟨o,h1,h2⟩ e (fun z=>nomatch z) h
 | @dK a kvs ea =>
  cases (show u=Value.ref a from rx)
  obtain⟨_,_,vs,_,p⟩:=(show QB X.prog X.w H s.heap a (.dK kvs) from I.hok a _ ea)
  obtain⟨o,es,ep,h1,h2,_⟩:=p;exact W.kia_one W.kitx_dict I.kIn ⟨o,h1,h2.1⟩ e (fun z=>nomatch z) h
 | @dT a kvs ea =>
  cases (show u=Value.ref a from rx)
  obtain⟨_,_,xs,_,o,es,ep,h1,h2,_⟩:=(show QB X.prog X.w H s.heap a (.dT kvs) from I.hok a _ ea)
  exact W.kia_one W.kitx_dict I.kIn ⟨o,h1,h2.1⟩ e (fun z=>nomatch z) h
 | @ins a C dx fs ea cl ha hn htk hm =>
  cases (show u=Value.ref a from rx)
  obtain⟨mA,O,_⟩:=Q1a I.hok ea;obtain⟨od,J,_⟩:=O.look;exact W.kia_one (W.kitx_own (cl.get _) cl.hd ha hn htk hm) I.kIn J e (fun z=>nomatch z) h
end
structure Q4(k:Nat)(A:Around):Prop where
 hd:A.handled=none
 dp:A.depth+3 * k+5 < recursionLimit
 un:A.units+16 * k+200 < cLine
theorem Q4.mono{j k:Nat}{A:Around}(r:Q4 k A)(h:j<=k):Q4 j A:=⟨r.hd,by have:=r.dp;omega,by have:=r.un;omega⟩
theorem Q4.deeper{k:Nat}{A:Around}(r:Q4 (k+1) A)(env:Env):Q4 k (A.deeper env) :=
 ⟨r.hd,by have:=r.dp;show A.depth+1+3 * k+5 < _;omega,by have:=r.un;show A.units+3+16 * k+200 < _;omega⟩
theorem XKa{A:Around}{C:Addr}{us:List Value}{kw:List (Str×Value)}:(A.under (.builtin "type.__call__" ⟨.ref C::us,kw⟩)).depth=A.depth+1:=by
 first | rfl | simp[Around.under,Code.weight,Code.isCreation,Code.isGuard,Code.isCaller,Code.frames,Code.isFrame,guardIds]
theorem XLa{A:Around}{C:Addr}{us:List Value}{kw:List (Str×Value)}:(A.under (.builtin "type.__call__" ⟨.ref C::us,kw⟩)).units=A.units+1:=by
 first | rfl | simp[Around.under,Code.cUnits,Code.frames,Code.isFrame]
theorem Q4.make{k:Nat}{A:Around}(r:Q4 (k+1) A)(C:Addr)(us:List Value)(kw:List (Str×Value)):Q4 k (A.under (.builtin "type.__call__" ⟨.ref C::us,kw⟩)) :=
 ⟨r.hd,by have:=r.dp;rw[XKa];omega,by have:=r.un;rw[XLa];omega⟩
theorem Q4.depth{k:Nat}{A:Around}(r:Q4 k A):A.depth < recursionLimit:=by have:=r.dp;omega
theorem Q4.units{k:Nat}{A:Around}(r:Q4 k A):A.units+64 < cLine:=by have:=r.un;omega
theorem Q4.units0{k:Nat}{A:Around}(r:Q4 k A):A.units < cLine:=by have:=r.un;omega
def YHa:TA:=fun _ H Q=>Q [] H
def Qtb(ta:TE)(tr:TA):TA:=fun σ H Q=>ta σ H fun x H1=>tr σ H1 fun xs H2=>Q (x::xs) H2
section
variable{X:Cx}{e:Expr}{es:List Expr}{te:TE}{t:TA}{pos:Pos}
theorem Qe:PA X [] YHa:=fun _ _ _ _ H Q I h=>Calls.spliced_nil ⟨[],H,I,.nil,h⟩
theorem YVb(ha:PE X e te)(hr:PA X es t)(hs:starEach (e::es) X.env=(false,eval e X.env)::starEach es X.env:=by rfl):PA X (e::es) (Qtb te t):=by
 intro pos pins s σ H Q I h;rw[hs];show wpAny _ _ (spliced ((false,eval e X.env)::backTo pos (starEach es X.env))) _ _ s;refine Calls.spliced_cons (thn (ha pins s σ H _ I h) fun u s1 hZ=>?_)
 obtain⟨x,H1,I1,r1,q1⟩:=hZ;exact thn (hr pos pins s1 σ H1 _ I1 q1) fun us s2 ⟨xs,H2,I2,r2,q2⟩=>⟨x::xs,H2,I2,.cons r1 r2,q2⟩
def Zlc(t:TA):TE:=fun σ H Q=>t σ H fun xs H1=>xs.length<=sizeLine/\∀ p,H1 p=none->Q (.ref p) (upd H1 p (.tup xs))
def Zmc(t:TA):TE:=fun σ H Q=>t σ H fun xs H1=>xs.length<=sizeLine/\∀ p,H1 p=none->Q (.ref p) (upd H1 p (.lst xs))
theorem ZI{x1}(h:PA X es t):PE X (.Tuple es x1 pos) (Zlc t):=by
 intro pins s σ H Q I hq;refine wpAny_Tuple_spliced (thn (h pos pins s σ H _ I hq) fun us s1 ⟨xs,H1,I1,r,z,q⟩=>⟨by rw[<- r.length];exact z,?_⟩)
 have hf:H1 s1.heap.objs.size=none:=I1.hok.fresh (Ve _);refine⟨.ref s1.heap.objs.size,upd H1 s1.heap.objs.size (.tup xs),I1.laid (t':=s1.toks) (fun b u e=>Vd _ e) (Ve _) ?_,rfl,q _ hf⟩
 exact⟨⟨z,_,Vi _ rfl,rfl⟩,us,r,⟨_,Vi _ rfl,rfl,_,rfl⟩⟩
theorem Jy(h:PA X es t):PE X (.List es pos) (Zmc t):=by
 intro pins s σ H Q I hq;refine wpAny_List_spliced (thn (h pos pins s σ H _ I hq) fun us s1 ⟨xs,H1,I1,r,z,q⟩=>⟨by rw[<- r.length];exact z,?_⟩)
 have hf:H1 s1.heap.objs.size=none:=I1.hok.fresh (Ve _);refine⟨.ref s1.heap.objs.size,upd H1 s1.heap.objs.size (.lst xs),I1.laid (t':=s1.toks) (fun b u e=>Vd _ e) (Ve _) ?_,rfl,q _ hf⟩
 exact⟨z,us,0,r,Vi _ rfl⟩
end
abbrev Sp:=List V->Hp->VK->XK->Prop
abbrev CXT:=List Env->Hp->Shared->XK->YQ_
structure XMa(P:Program)(w:World)(K:W.Frag)(mg:Str->Option Value)(base:Heap)(A:Around)(outer:List Env)(s:Shared)(H:Hp):Prop where
 frames:A.frames=some outer
 mod:Mod K mg base
 bs:∀ b o,base.get? b=some o->s.heap.get? b=some o/\H b=none
 bsz:base.objs.size<=s.heap.objs.size
 funs:s.heap.FunFrames base outer
 frf:∀ b∈frs outer,H b=none
 hok:HOk P w H s.heap
 bare:AllBare s.gens
def CE(outer:List Env)(P:Program)(w:World)(H:Hp)(s:Shared)(Q:VK)(u:Value)(s':Shared):Prop :=
 ∃ v H',s'.os=s.os/\AllBare s'.gens/\Un (frs outer) [] H H' s.heap s'.heap/\HOk P w H' s'.heap/\Qr v u/\Q v H'
def CR(CX:CXT)(outer:List Env)(P:Program)(w:World)(H:Hp)(s:Shared)(Q:VK)(E:XK)(r:Result)(s':Shared):Prop :=
 match r with
 | .ok (.ret u)=>CE outer P w H s Q u s'
 | .ok _=>False
 | .error e=>CX outer H s E e s'
structure QD(P:Program)(w:World)(K:W.Frag)(mg:Str->Option Value)(base:Heap)(CX:CXT)(k:Nat)(f:Addr)(fd:FuncData)(ps:List Str)(sp:Sp):Prop where
 len:∀ vs H Q E,sp vs H Q E->vs.length=ps.length
 run:∀ (A:Around) (outer:List Env) (s:Shared) (H:Hp) (args:Args) (us:List Value) (vs:List V) (Q:VK) (E:XK),Q4 k A->XMa P w K mg base A outer s H->BindsTo s fd args (ps.zip us)->Qv vs us->sp vs H Q E ->
  codeAny (model P w) A (.call (.ref f) args) (CR CX outer P w H s Q E) s
theorem QD.mono{P:Program}{w:World}{K:W.Frag}{mg:Str->Option Value}{base:Heap}{CX:CXT}{j k:Nat}{f:Addr}{fd:FuncData}{ps:List Str}{sp:Sp}(F:QD P w K mg base CX j f fd ps sp)(h:j<=k) :
 QD P w K mg base CX k f fd ps sp:=⟨F.len,fun A outer s H args us vs Q E hr=>F.run A outer s H args us vs Q E (hr.mono h)⟩
theorem XMa.make{P:Program}{w:World}{K:W.Frag}{mg:Str->Option Value}{base:Heap}{A:Around}{outer:List Env}{s:Shared}{H:Hp}(e:XMa P w K mg base A outer s H)(C:Addr)(us:List Value)(kw:List (Str×Value)) :
 XMa P w K mg base (A.under (.builtin "type.__call__" ⟨.ref C::us,kw⟩)) outer s H:=⟨by first | exact e.frames | (simpa[Around.under,Code.envs,Code.isFrame,pushEnvs]using e.frames),e.mod,e.bs,e.bsz,e.funs,e.frf,e.hok,e.bare⟩
section
variable{X:Cx}{pins:YP_}{σ:St}{H:Hp}{s s':Shared}
theorem Inv.env0(I:Inv X pins σ H s):XMa X.prog X.w X.K X.mg X.base X.A X.stack s H :=
 ⟨I.ok.frames,I.ok.mod,I.bs,Vj I.ok.bsz I.sz,I.stack,I.stkFree,I.hok,I.bare⟩
theorem Inv.after{Q:VK}{u:Value}(I:Inv X pins σ H s)(h:CE X.stack X.prog X.w H s Q u s'):EP X pins σ Q u s':=by
 obtain⟨v,H',os,bare,un,hok,r,q⟩:=h;obtain⟨hh,g,d,t,os'⟩:=s';obtain rfl:os'=s.os:=os;exact⟨v,H',I.call (h':=hh) (g':=g) (d':=d) (t':=t) (ch:=[]) un hok bare (fun b z=>absurd z (by simp)),r,q⟩
end
def Qub(sp:Sp)(dvs:List V)(E:XK)(t:TA):TE:=fun σ H Q=>t σ H fun vs H1=>sp (vs++dvs) H1 Q E
def Qvb(C:Addr)(sp:Sp)(dvs:List V)(E:XK)(t:TA):TE:=fun σ H Q=>t σ H fun vs H1=>∀ x dx,H1 x=none->H1 dx=none->dx≠x ->
 sp (.ref x::(vs++dvs)) (upd (upd H1 dx (.own x)) x (.ins C dx [])) (fun v H2=>v=.non/\Q (.ref x) H2) E
def ZJ(K:W.Frag)(fd:FuncData)(ps:List Str)(ds:List Value):Prop :=
 ∀ (s:Shared) (us:List Value),K.In s.heap->(us++ds).length=ps.length->BindsTo s fd ⟨us,[]⟩ (ps.zip (us++ds))
theorem ZJ.all{K:W.Frag}{fd:FuncData}{ps:List Str}(h:∀ us:List Value,us.length=ps.length->bindArgs fd ⟨us,[]⟩=pure (ps.zip us)):ZJ K fd ps []:=fun s us _ hl=>by
 rw[append_nil]at hl ⊢;exact .of_eq (h us hl)
def Qka(CX:CXT)(X:Cx)(E:XK):Prop:=∀ (pins:YP_) (σ:St) (H:Hp) (s:Shared) (e:Value) (s':Shared),Inv X pins σ H s->CX X.stack H s E e s'->X.xe e s'
section
variable{X:Cx}{CX:CXT}{k:Nat}{f C:Addr}{fd:FuncData}{ps:List Str}{sp:Sp}{dvs:List V}{ds:List Value}{E:XK}{x m:Str}{p pos apos:Pos}{e o:Expr}{es:List Expr}{ta:TE}{t:TA}
theorem Z8b{pins:YP_}{σ:St}{H:Hp}{s:Shared}{Q:VK}{us:List Value}{vs:List V}(F:QD X.prog X.w X.K X.mg X.base CX k f fd ps sp)(hr:Q4 k X.A)(hb:ZJ X.K fd ps ds)(hd:Qv dvs ds)(hx:Qka CX X E)
 (I:Inv X pins σ H s) (r:Qv vs us) (h:sp (vs++dvs) H Q E):wpAny (model X.prog X.w) X.A (call (.ref f) us) (EP X pins σ Q) X.xe s:=by
 have r2:Qv (vs++dvs) (us++ds):=r.append hd;have hl:(us++ds).length=ps.length:=by rw[<- r2.length];exact F.len _ _ _ _ h
 refine wpAny_call (codeAny_mono (F.run X.A X.stack s H ⟨us,[]⟩ (us++ds) (vs++dvs) Q E hr I.env0 (hb s us I.kIn hl) r2 h) fun r s' hq=>?_)
 cases r with
 | error e=>exact hx pins σ H s e s' I hq
 | ok fl =>
  cases fl with
  | ret u=>exact I.after hq
  | next=>exact False.elim hq
  | brk=>exact False.elim hq
  | cont=>exact False.elim hq
theorem YWb(F:QD X.prog X.w X.K X.mg X.base CX k f fd ps sp)(hr:Q4 k X.A)(hg:Gl X x)(hm:X.mg x=some (.ref f))(hk:W.keepIn X.K (.ref f)=true)(hb:ZJ X.K fd ps ds)(hd:Qv dvs ds)(hx:Qka CX X E)
 (ha:PA X (e::es) t) (hdb:(x == ("__debug__":Str))=false:=by decide) (he:starEach (e::es) X.env=(false,eval e X.env)::starEach es X.env:=by rfl) (hpl:(backTo pos (starEach es X.env)).any (·.1)=false:=by rfl) :
 PE X (.Call (.Name x p) (e::es) [] pos) (Qub sp dvs E t):=by
 intro pins s σ H Q I h;refine wpAny_Call_Name_kw (JM I hg hm ?_ hdb)
 refine W.callWith_K (h₀:=X.base) I.ok.mod.kin hk (thn (ha pos pins s σ H _ I h) fun us s1 ⟨vs,H1,I1,r,q⟩=>⟨I1.kIn,?_⟩) he hpl
 exact Z8b F hr hb hd hx I1 r q
structure Mk(K:W.Frag)(C f:Addr):Prop where
 makes:W.makesIn K C=true
 init:W.findIn K (.ref C) "__init__"=some (some (.ref f))
 fn:W.isFn K (.ref f)=true
 kp:W.keepIn K (.ref C)=true
theorem YIa{pins:YP_}{σ:St}{H:Hp}{s:Shared}{Q:VK}{us:List Value}{vs:List V}(M:Mk X.K C f)(F:QD X.prog X.w X.K X.mg X.base CX k f fd ps sp)(hr:Q4 (k+1) X.A)(hb:ZJ X.K fd ps ds)(hd:Qv dvs ds)
 (hx:Qka CX X E) (I:Inv X pins σ H s) (r:Qv vs us)
 (h:∀ x dx,H x=none->H dx=none->dx≠x->sp (.ref x::(vs++dvs)) (upd (upd H dx (.own x)) x (.ins C dx [])) (fun v H2=>v=.non/\Q (.ref x) H2) E) :
 wpAny (model X.prog X.w) X.A (call (.ref C) us) (EP X pins σ Q) X.xe s:=by
 have hq:=h (s.heap.objs.size+1) s.heap.objs.size (I.hok.fresh (Nat.le_succ _)) (I.hok.fresh (Ve _)) (Nat.ne_of_lt (Nat.lt_succ_self _));have I2:=Inv.made (C:=C) I;have r2:Qv (V.ref (s.heap.objs.size+1)::(vs++dvs)) (Value.ref (s.heap.objs.size+1)::(us++ds)):=.cons rfl (r.append hd);have hl:(Value.ref (s.heap.objs.size+1)::us++ds).length=ps.length:=by
  have e:=r2.length;rw[F.len _ _ _ _ hq]at e;exact e.symm
 refine wpAny_call (Z7b (f:=f) I.kIn M.makes M.init (beq_iff_eq.mp M.fn) (codeAny_mono (F.run _ X.stack _ _ ⟨Value.ref (s.heap.objs.size+1)::us,[]⟩ (Value.ref (s.heap.objs.size+1)::(us++ds)) _ _ E (hr.make C us [])
  (I2.env0.make C us []) (hb _ (Value.ref (s.heap.objs.size+1)::us) I2.kIn hl) r2 hq) fun r s' hq'=>?_))
 cases r with
 | error e=>exact hx pins σ _ _ e s' I2 hq'
 | ok fl =>
  cases fl with
  | ret u =>
   obtain⟨v,H',I3,rv,ev,q3⟩:=I2.after hq';subst ev;exact⟨rv,⟨V.ref (s.heap.objs.size+1),H',I3,rfl,q3⟩⟩
  | next=>exact False.elim hq'
  | brk=>exact False.elim hq'
  | cont=>exact False.elim hq'
theorem YXb(M:Mk X.K C f)(F:QD X.prog X.w X.K X.mg X.base CX k f fd ps sp)(hr:Q4 (k+1) X.A)(hg:Gl X x)(hm:X.mg x=some (.ref C))(hb:ZJ X.K fd ps ds)(hd:Qv dvs ds)(hx:Qka CX X E)
 (ha:PA X (e::es) t) (hdb:(x == ("__debug__":Str))=false:=by decide) (he:starEach (e::es) X.env=(false,eval e X.env)::starEach es X.env:=by rfl) (hpl:(backTo pos (starEach es X.env)).any (·.1)=false:=by rfl) :
 PE X (.Call (.Name x p) (e::es) [] pos) (Qvb C sp dvs E t):=by
 intro pins s σ H Q I h;refine wpAny_Call_Name_kw (JM I hg hm ?_ hdb)
 refine W.callWith_K (h₀:=X.base) I.ok.mod.kin M.kp (thn (ha pos pins s σ H _ I h) fun us s1 ⟨vs,H1,I1,r,q⟩=>⟨I1.kIn,?_⟩) he hpl
 exact YIa M F hr hb hd hx I1 r q
theorem Z9b(M:Mk X.K C f)(F:QD X.prog X.w X.K X.mg X.base CX k f fd ps sp)(hr:Q4 (k+1) X.A)(hg:Gl X x)(hm:X.mg x=some (.ref C))(hb:ZJ X.K fd ps ds)(hd:Qv dvs ds)(hx:Qka CX X E)
 (hdb:(x == ("__debug__":Str))=false:=by decide):PE X (.Call (.Name x p) [] [] pos) (Qvb C sp dvs E YHa):=by
 intro pins s σ H Q I h;refine wpAny_Call_Name_kw (JM I hg hm ?_ hdb)
 exact W.callWith_K0 I.kIn M.kp (YIa (us:=[]) M F hr hb hd hx I .nil h)
end
section
variable{X:Cx}{CX:CXT}{k:Nat}{f C:Addr}{fd:FuncData}{ps ks:List Str}{sp:Sp}{E:XK}{x m:Str}{p pos apos kpos:Pos}{e o:Expr}{es:List Expr}{kws:List Keyword}{te ta:TE}{t tk:TA}{nm:Option Str}
variable{g:List Value->List Value->List Value}{gV:List V->List V->List V}
end
structure Qo(N P:List Str)(sc:Scope):Prop where
 kind:sc.kind=.function
 co:sc.isCoroutine=false
 gen:sc.isGenerator=false
 nd:N.Nodup
 pre:N.take P.length=P
 par:∀ x∈P,sc.names.lookup x=some .local\/sc.names.lookup x=some .cell
 nofree:∀ y∈sc.names,y.2≠.free
theorem Jqa{kindOf:Str->Option NameKind}{x:Str}:∀ {binds:List (Str×Value)} {m:Str->Option Value},(∀ v,(x,v)∉binds)->bindL kindOf binds m x=m x
 | [],_,_=>rfl
 | (n,v)::r,m,h=>by
  unfold bindL;rw[Jqa fun w hw=>h w (Vo _ hw)]
  split
  ·have:x≠n:=by rintro rfl;exact h v mem_cons_self
   simp[this]
  ·rfl
theorem Jra{kindOf:Str->Option NameKind}{x:Str}:∀ {binds:List (Str×Value)} {m:Str->Option Value},(∀ v,(x,v)∉binds)->bindC kindOf binds m x=m x
 | [],_,_=>rfl
 | (n,v)::r,m,h=>by
  unfold bindC;rw[Jra fun w hw=>h w (Vo _ hw)]
  split
  ·rfl
  ·have:x≠n:=by rintro rfl;exact h v mem_cons_self
   simp[this]
theorem Jsa{kindOf:Str->Option NameKind}{x:Str}{v:Value}:∀ {P:List Str} {vs:List Value} {i:Nat} {m:Str->Option Value},P.Nodup->P[i]?=some x->vs[i]?=some v->kindOf x=some .local ->
 bindL kindOf (P.zip vs) m x=some v
 | [],_,_,_,_,h,_,_=>by simp at h
 | _::_,[],_,_,_,_,h,_=>by simp at h
 | p::P,w::vs,0,m,nd,h1,h2,hk=>by
  simp at h1 h2;subst h1;subst h2;show bindL kindOf ((p,w)::P.zip vs) m p=_;unfold bindL;rw[Jqa fun v hv=>(nodup_cons.mp nd).1 (of_mem_zip hv).1,if_pos hk]
  simp
 | p::P,w::vs,i+1,m,nd,h1,h2,hk=>by
  show bindL kindOf ((p,w)::P.zip vs) m x=_;unfold bindL;exact Jsa (i:=i) (nodup_cons.mp nd).2 (by simpa using h1) (by simpa using h2) hk
theorem Jta{kindOf:Str->Option NameKind}{x:Str}{v:Value}:∀ {P:List Str} {vs:List Value} {i:Nat} {m:Str->Option Value},P.Nodup->P[i]?=some x->vs[i]?=some v->kindOf x≠some .local ->
 bindC kindOf (P.zip vs) m x=some v
 | [],_,_,_,_,h,_,_=>by simp at h
 | _::_,[],_,_,_,_,h,_=>by simp at h
 | p::P,w::vs,0,m,nd,h1,h2,hk=>by
  simp at h1 h2;subst h1;subst h2;show bindC kindOf ((p,w)::P.zip vs) m p=_;unfold bindC;rw[Jra fun v hv=>(nodup_cons.mp nd).1 (of_mem_zip hv).1,if_neg hk]
  simp
 | p::P,w::vs,i+1,m,nd,h1,h2,hk=>by
  show bindC kindOf ((p,w)::P.zip vs) m x=_;unfold bindC;exact Jta (i:=i) (nodup_cons.mp nd).2 (by simpa using h1) (by simpa using h2) hk
def XU(N:List Str)(vs:List V):St:=vs.map some++List.replicate (N.length - vs.length) none
def XV(CX:CXT)(P:Program)(w:World)(K:W.Frag)(mg:Str->Option Value)(base:Heap)(N:List Str)(qual:Str)(scope:Scope)(f:Addr)(cd:Value)(A:Around)(outer:List Env)(s:Shared)(H:Hp)(E:XK):Cx where
 prog:=P
 w:=w
 K:=K
 mg:=mg
 base:=base
 A:=A.deeper (envOfC qual scope s.heap.objs.size f cd)
 N:=N
 s₀:=s
 H₀:=H
 env:=envOfC qual scope s.heap.objs.size f cd
 outer:=outer
 stack:=envOfC qual scope s.heap.objs.size f cd::outer
 ex:=[]
 calm:=true
 fn:=fun _=>true
 pn:=[]
 xe:=fun e s'=>wpAny (model P w) (A.deeper (envOfC qual scope s.heap.objs.size f cd)) (leaving (envOfC qual scope s.heap.objs.size f cd) e) (fun _ s''=>CX outer H s E e s'') (fun e' s''=>CX outer H s E e' s'') s'
theorem YJa{sc:Scope}{n:Nat}{x:Str}(h:sc.names.lookup x=some .cell):∃ c,(cellsFrom n sc.names []).lookup x=some c:=by
 have q:=W.cellsFrom_some sc.names n [] (.inl h);exact Option.isSome_iff_exists.mp q
theorem Zgb{CX:CXT}{P:Program}{w:World}{K:W.Frag}{mg:Str->Option Value}{base:Heap}{N ps:List Str}{qual:Str}{scope:Scope}{f:Addr}{cd:Value}{A:Around}{outer:List Env}{s s1:Shared}{H:Hp}{E:XK}{us:List Value}{vs:List V}
 (S:Qo N ps scope) (hd:A.handled=none) (e0:XMa P w K mg base A outer s H) (hl:vs.length=ps.length) (r:Qv vs us)
 (x:InCallC s s.heap.objs.size (bindL (envOfC qual scope s.heap.objs.size f cd).kindOf (ps.zip us) fun _=>none) (cellsFrom (s.heap.objs.size+1) scope.names []) (bindC (envOfC qual scope s.heap.objs.size f cd).kindOf (ps.zip us) fun _=>none) s1) :
 Inv (XV CX P w K mg base N qual scope f cd A outer s H E) [] (XU N vs) H s1:=by
 have hpl:ps.length<=N.length:=by have:=congrArg List.length S.pre;rw[length_take]at this;omega
 obtain⟨h1,tk,rfl,hk⟩:=x.done;have noA:∀ b:Addr,b∉(XV CX P w K mg base N qual scope f cd A outer s H E).ex:=fun b z=>absurd (show b∈([]:List Addr) from z) (by simp)
 refine⟨⟨e0.mod,S.kind,rfl,rfl,Ve _,fun y z c h1 h2=>?_,fun y hy=>?_,fun y c _ h=>?_,fun _=>hd,Around.frames_deeper e0.frames,.inr ⟨rfl,rfl⟩,fun b z=>absurd z (noA b),e0.bs,e0.bsz,fun b _ _=>noA b,fun b z=>absurd z (noA b),e0.funs,e0.frf⟩,
  rfl,e0.bare,Un.kept hk,⟨_,x.toInCall.ns,fun i y v h1 h2 h3=>?_⟩,fun y c h=>⟨_,x.cell y c h⟩,e0.hok.fresh (Ve _),fun y c h=>?_,fun p hp=>absurd (show p∈([]:YP_) from hp) (by simp),e0.hok.kept hk,?_⟩
 ·exact name_of_addr x.apart (PySem.mem_of_lookup h1) (PySem.mem_of_lookup h2)
 ·have hy:scope.names.lookup y=some .cell\/scope.names.lookup y=some .free:=hy
  rcases hy with hy | hy
  ·exact YJa hy
  ·exact absurd rfl (S.nofree _ (PySem.mem_of_lookup hy))
 ·exact Vv (x.above y c (PySem.mem_of_lookup h))
 ·have hi:i < vs.length:=by
   unfold XU at h2
   by_cases hi:i < vs.length
   ·exact hi
   ·rw[getElem?_append_right (by simpa using hi)]at h2
    rw[getElem?_replicate]at h2
    split at h2 <;> cases h2
  have ha:vs[i]?=some v:=by
   unfold XU at h2;rw[getElem?_append_left (by simpa using hi),getElem?_map]at h2
   cases e:vs[i]? with
   | none=>rw[e]at h2;cases h2
   | some a=>rw[e]at h2;cases h2;rfl
  obtain⟨u,hu,rv⟩:=r.get ha;have hp:ps[i]?=some y:=by
   rw[<- S.pre,getElem?_take_of_lt (by omega)];exact h1
  have ndP:ps.Nodup:=by rw[<- S.pre];exact S.nd.sublist (take_sublist _ _)
  refine⟨u,rv,?_⟩
  rcases S.par y (Vm hp) with k | k
  ·exact .inl ⟨k,Jsa ndP hp hu k⟩
  ·obtain⟨c,e⟩:=YJa (n:=s.heap.objs.size+1) k
   refine .inr ⟨.inl k,c,e,?_⟩
   have q:=x.cell y c e;rw[Jta ndP hp hu (by show scope.names.lookup y≠_;rw[k];decide)]at q
   exact q
 ·exact e0.hok.fresh (Vv (x.above y c (PySem.mem_of_lookup h)))
 ·unfold XU
  show _=N.length;rw[Vs,Vr,length_replicate]
  omega
theorem XMb{CX:CXT}{P:Program}{w:World}{K:W.Frag}{mg:Str->Option Value}{base:Heap}{k:Nat}{f:Addr}{name qual:Str}{params:Arguments}{body:List Stmt}{scope:Scope}{dV kV doc pm cdv ct oc:Value}{an od:Option Addr}
 {osl:Array (Option Value)} {N ps:List Str} {sp:Sp} (lk:K.lookup f=some ⟨oc,od,.func (W.fnOf name qual params body scope dV kV doc pm an cdv ct),osl⟩) (hcd:W.codeIn K cdv qual=true) (S:Qo N ps scope)
 (len:∀ vs H Q E,sp vs H Q E->vs.length=ps.length)
 (hbody:∀ (A:Around) (outer:List Env) (s:Shared) (H:Hp) (vs:List V) (Q:VK) (E:XK),Q4 k (A.deeper (envOfC qual scope s.heap.objs.size f cdv))->sp vs H Q E ->
  ∃ t,PSs (XV CX P w K mg base N qual scope f cdv A outer s H E) body t/\t { nx:=fun _ H'=>Q .non H',rt:=Q } (XU N vs) H) :
 QD P w K mg base CX (k+1) f (W.fnOf name qual params body scope dV kV doc pm an cdv ct) ps sp:=by
 refine⟨len,fun A outer s H args us vs Q E hr e0 hb r hsp=>?_⟩
 have hl:=len _ _ _ _ hsp;have KX:K.In s.heap:=e0.mod.kin.keeps fun b o e=>(e0.bs b o e).1
 have lim:s.heap.NoLimit:=e0.mod.nolimit.keeps fun b o e=>(e0.bs b o e).1
 have hkind:∀ y∈ps.zip us,scope.names.lookup y.1=some .local\/(scope.names.lookup y.1=some .cell/\((cellsFrom (s.heap.objs.size+1) scope.names []).lookup y.1).isSome=true):=fun⟨n,v⟩ hy=>by
  rcases S.par n (of_mem_zip hy).1 with q | q
  ·exact .inl q
  ·exact .inr ⟨q,W.cellsFrom_some _ _ _ (.inl q)⟩
 refine codeAny_call_function hr.depth (KX _ _ lk) rfl S.co S.gen rfl (W.codeRec_of KX hcd) (hb _ _ _ _ ?_)
 refine wpAny_newFunctionEnv_cells S.kind hkind fun env he s1 x=>?_
 subst he;refine⟨lim.keeps x.toInCall.keep,codeAny_func ?_⟩
 obtain⟨t,ht,hq⟩:=hbody A outer s H vs Q E (hr.deeper _) hsp;have I:Inv (XV CX P w K mg base N qual scope f cdv A outer s H E) [] (XU N vs) H s1:=Zgb S hr.hd e0 hl r x;refine wpAny_mono (ht [] s1 (XU N vs) H _ I hq) (fun fl s' hs=>?_) fun e s' hs=>hs
 have fin:∀ {σ':St} {H':Hp} {v:V} {u:Value},Inv (XV CX P w K mg base N qual scope f cdv A outer s H E) [] σ' H' s'->Qr v u->Q v H'->CE outer P w H s Q u s' :=
  fun {σ' H' v u} J rv q=>⟨v,H',J.os,J.bare,J.base,J.hok,rv,q⟩
 cases fl with
 | ret u =>
  obtain⟨v,σ',H',J,rv,q⟩:=hs;exact fin J rv q
 | next =>
  obtain⟨σ',H',J,q⟩:=hs;exact fin (v:=V.non) (u:=Value.none) J rfl q
 | brk =>
  obtain⟨_,_,_,q⟩:=hs;exact False.elim q
 | cont =>
  obtain⟨_,_,_,q⟩:=hs;exact False.elim q
section
variable{X:Cx}{x:Str}{p pos:Pos}{e:Expr}{es:List Expr}{t:TA}{id T:String}{r:List V->Hp->VK->Prop}
def tCB(r:List V->Hp->VK->Prop)(t:TA):TE:=fun σ H Q=>t σ H fun vs H1=>r vs H1 Q
theorem Q5(hc:Xp X (.builtin id) r)(hg:Gl X x)(hm:X.mg x=none)(hv:bootBuiltins x=some (.builtin id))(ha:PA X (e::es) t)(hn:x≠"__name__":=by decide)(hdb:(x == ("__debug__":Str))=false:=by decide)
 (he:starEach (e::es) X.env=(false,eval e X.env)::starEach es X.env:=by rfl) (hpl:(backTo pos (starEach es X.env)).any (·.1)=false:=by rfl):PE X (.Call (.Name x p) (e::es) [] pos) (tCB r t):=by
 intro pins s σ H Q I h;refine wpAny_Call_Name_kw (Zda I hg hm hv ?_ hn hdb)
 exact PyProof.Rows.callWith_builtin1 (thn (ha pos pins s σ H _ I h) fun us s1 ⟨vs,H1,I1,r1,q1⟩=>hc pins s1 σ H1 vs us Q I1 r1 q1) he hpl
theorem QW(hc:Xp X (.type T) r)(hg:Gl X x)(hm:X.mg x=none)(hv:bootBuiltins x=some (.type T))(ha:PA X (e::es) t)(hn:x≠"__name__":=by decide)(hdb:(x == ("__debug__":Str))=false:=by decide)
 (he:starEach (e::es) X.env=(false,eval e X.env)::starEach es X.env:=by rfl) (hpl:(backTo pos (starEach es X.env)).any (·.1)=false:=by rfl):PE X (.Call (.Name x p) (e::es) [] pos) (tCB r t):=by
 intro pins s σ H Q I h;refine wpAny_Call_Name_kw (Zda I hg hm hv ?_ hn hdb)
 exact PyProof.Rows.callWith_type1 (thn (ha pos pins s σ H _ I h) fun us s1 ⟨vs,H1,I1,r1,q1⟩=>hc pins s1 σ H1 vs us Q I1 r1 q1) he hpl
end
end L2
namespace HT
open PySem PyProof.Rows
theorem Jab(A:Around)(s:Shared)(a:Int)(t:Tok)(c:Int)(u:Tok):∃ e,SeqAt.EqAt A s (.int a t) (.int c u) e/\(e=true↔a=c) :=
 ⟨(a == c),SeqAt.EqAt.int_int a t c u,by simp⟩
theorem Jbb(A:Around)(s:Shared)(a:Int)(t:Tok)(c:Int)(u:Tok)(prog:Program)(w:World)(E:YQ_)(Q:YQ_)(h:Q (.bool (decide (a < c))) s) :
 wpAny (model prog w) A (richCompare .Lt (.int a t) (.int c u)) Q E s :=
 (PyProof.Rows.lt_int h:wpAny (model prog w) A (compareOp .Lt (.int a t) (.int c u)) Q E s)
section
open PySem.SeqAt
open PySem.AutoSeq1 (wpAny_loadPart')
open PySem.MeetsSeq PySem.MeetsSeq2 PySem.MeetsSeq3
end
section
variable{prog:Program}{w:World}{A:Around}{E:YQ_}{s:Shared}
def sIx(n d:Nat):Option Int->Nat
 | none=>d
 | some v=>if v < 0 then (v+(n:Int)).toNat else min v.toNat n
theorem Qwb(n d k:Nat):sIx n d (some (k:Int))=min k n:=by
 show(if (k:Int) < 0 then ((k:Int)+(n:Int)).toNat else min (k:Int).toNat n)=min k n
 rw[if_neg (by omega),Int.toNat_natCast]
end
end HT
namespace L2
open PySem PySem.Spec PyProof.Rows
abbrev TO:=St->Hp->(Option Int->Hp->Prop)->Prop
def PO(X:Cx)(e:Option Expr)(t:TO):Prop :=
 ∀ (pins:YP_) (s:Shared) (σ:St) (H:Hp) (Q:Option Int->Hp->Prop),Inv X pins σ H s->t σ H Q ->
  wpAny (model X.prog X.w) X.A (evalPart e X.env) (fun u s'=>∃ o H',Inv X pins σ H' s'/\IsPart u o/\Q o H') X.xe s
def Qxb:TO:=fun _ H Q=>Q none H
def XNb(t:TE):TO:=fun σ H Q=>t σ H fun x H1=>∃ i,x=.int i/\Q (some i) H1
section
variable{X:Cx}{e:Expr}{te:TE}{lo hi:Option Expr}{tl th:TO}{pos p2:Pos}
theorem Qyb:PO X none Qxb:=by
 intro pins s σ H Q I h;rw[evalPart_none];exact Vg ⟨none,H,I,.none,h⟩
theorem Xg(h:PE X e te):PO X (some e) (XNb te):=by
 intro pins s σ H Q I hw;rw[evalPart_some];refine thn (h pins s σ H _ I hw) fun u s1 hZ=>?_
 obtain⟨x,H1,I1,r1,q1⟩:=hZ;obtain⟨i,rfl,q⟩:=q1;obtain⟨t,rfl⟩:=r1;exact⟨some i,H1,I1,.int i t,q⟩
def SlR(X:Cx)(r:V->Option Int->Option Int->Hp->VK->Prop):Prop :=
 ∀ (pins:YP_) (s:Shared) (σ:St) (H:Hp) (x:V) (v vl vu:Value) (lo hi:Option Int) (sl:Addr) (Q:VK),Inv X pins σ H s->Qr x v->s.heap.IsSliceOf sl vl vu .none->IsPart vl lo->IsPart vu hi->r x lo hi H Q ->
  ∃ T id,typeLookup (.type T) "__getitem__"=pure (some (.builtin id))/\s.TypeIs v T/\wpAny (model X.prog X.w) X.A (getItem v (.ref sl)) (EP X pins σ Q) X.xe s
def tSl(r:V->Option Int->Option Int->Hp->VK->Prop)(te:TE)(tl th:TO):TE:=fun σ H Q=>te σ H fun x H1=>tl σ H1 fun l H2=>th σ H2 fun u H3=>r x l u H3 Q
theorem XW{r:V->Option Int->Option Int->Hp->VK->Prop}(hr:SlR X r)(he:PE X e te)(hl:PO X lo tl)(hu:PO X hi th):PE X (.Subscript e (.Slice lo hi none p2) pos) (tSl r te tl th):=by
 intro pins s σ H Q I h;refine Subscript_ (thn (he pins s σ H _ I h) fun v s1 hZ=>?_)
 obtain⟨x,H1,I1,r1,q1⟩:=hZ;refine wpAny_Slice (thn (hl pins s1 σ H1 _ I1 q1) fun vl s2 ⟨l,H2,I2,pl,q2⟩=>thn (hu pins s2 σ H2 _ I2 q2) fun vu s3 hZ=>?_)
 obtain⟨u,H3,I3,pu,q3⟩:=hZ;rw[evalPart_none];refine Vg ?_
 have I4:Inv X pins σ H3 { s3 with heap:=s3.heap.push { cls:=.type "slice",data:=.fields #[vl,vu,.none] } }:=I3.kept (t':=s3.toks) fun b ob q=>Vd _ q
 obtain⟨T,id,hT,ht,hg⟩:=hr pins { s3 with heap:=s3.heap.push { cls:=.type "slice",data:=.fields #[vl,vu,.none] } } σ H3 x v vl vu l u s3.heap.objs.size Q I4 r1 (Heap.IsSliceOf.new ..) pl pu q3
 show wpAny (model X.prog X.w) X.A (subscriptTail e (.Slice lo hi none p2) v (.ref s3.heap.objs.size)) (EP X pins σ Q) X.xe { s3 with heap:=s3.heap.push { cls:=.type "slice",data:=.fields #[vl,vu,.none] } }
 exact tail_any (ops:=[.ref s3.heap.objs.size,v]) ht hT hg (by with_unfolding_all rfl)
def Z0a(xs:List V)(lo hi:Option Int):List V:=(xs.drop (HT.sIx xs.length 0 lo)).take (HT.sIx xs.length xs.length hi - HT.sIx xs.length 0 lo)
theorem YKa(xs:List V)(lo hi:Option Int):(Z0a xs lo hi).length<=xs.length:=by
 unfold Z0a;rw[length_take,length_drop]
 omega
end
def ixN(n:Nat)(i:Int):Option Nat:=if 0<=i then (if i < n then some i.toNat else none) else if -(n:Int)<=i then some (i+n).toNat else none
def atI{α:Type}(xs:List α)(i:Int):Option α:=(ixN xs.length i).bind fun j=>xs[j]?
theorem YYb{n:Nat}{i:Int}{j:Nat}(h:ixN n i=some j):seqIndex? i n=some j/\j < n /\ -(n:Int)<=i/\i < n:=by
 unfold ixN at h
 by_cases h0:0<=i
 ·rw[if_pos h0]at h
  by_cases h1:i < n
  ·rw[if_pos h1]at h
   have e:i.toNat=j:=Option.some.inj h;exact⟨by rw[seqIndex_of h0 h1,e],by omega,by omega,h1⟩
  ·rw[if_neg h1]at h;cases h
 ·rw[if_neg h0]at h
  by_cases h1 : -(n:Int)<=i
  ·rw[if_pos h1]at h
   have e:(i+n).toNat=j:=Option.some.inj h;exact⟨by rw[seqIndex_neg (by omega) h1,e],by omega,h1,by omega⟩
  ·rw[if_neg h1]at h;cases h
theorem JSa{α:Type}{xs:List α}{i:Int}{v:α}(h:atI xs i=some v):∃ j,seqIndex? i xs.length=some j/\xs[j]?=some v/\j < xs.length /\ -(xs.length:Int)<=i/\i < xs.length:=by
 unfold atI at h;cases e:ixN xs.length i with
 | none=>rw[e]at h;cases h
 | some j =>
  rw[e]at h;obtain⟨h1,h2,h3,h4⟩:=YYb e;exact⟨j,h1,h,h2,h3,h4⟩
theorem Jo{α:Type}{xs:List α}{j:Nat}{v:α}(h:xs[j]?=some v):atI xs (j:Int)=some v:=by
 have hj:j < xs.length:=(Vc.mp h).1
 have e:ixN xs.length (j:Int)=some j:=by
  unfold ixN;rw[if_pos (by omega),if_pos (by omega)];simp
 unfold atI;rw[e];exact h
theorem Zla{α:Type}(xs:List α)(v:α):atI (xs++[v]) (-1)=some v:=by
 have hl:(xs++[v]).length=xs.length+1:=by simp
 have e:ixN (xs++[v]).length (-1)=some xs.length:=by
  unfold ixN;rw[hl,if_neg (by decide),if_pos (by omega)]
  congr 1
  omega
 unfold atI;rw[e];show(xs++[v])[xs.length]?=some v;simp
def YZb(b:Expr):Prop:=∀ o i,subscripted b false o i=operate [o,i] (getItem o i)
def IxR(X:Cx)(r:R2):Prop :=
 ∀ (value slice:Expr) (pins:YP_) (s:Shared) (σ:St) (H:Hp) (x y:V) (v u:Value) (Q:VK),Inv X pins σ H s->Qr x v->Qr y u->r x y H Q ->
  subscripted slice false v u=operate [v,u] (getItem v u)->wpAny (model X.prog X.w) X.A (subscriptTail value slice v u) (EP X pins σ Q) X.xe s
def MtR(X:Cx)(id:String)(r:V->List V->Hp->VK->Prop):Prop :=
 ∀ (pins:YP_) (s:Shared) (σ:St) (H:Hp) (x:V) (xs:List V) (v:Value) (us:List Value) (Q:VK),Inv X pins σ H s->Qr x v->Qv xs us->r x xs H Q ->
  wpAny (model X.prog X.w) X.A (call (.builtin id) (v::us)) (EP X pins σ Q) X.xe s
section
variable{X:Cx}{a b:Expr}{ta tb:TE}{pos:Pos}
theorem QS{r:R2}(hr:IxR X r)(ha:PE X a ta)(hb:PE X b tb)(hs:YZb b):PE X (.Subscript a b pos) (tOp r ta tb):=by
 intro pins s σ H Q I h;exact Subscript_ (Qgc ha hb I h fun v u s2 x y H2 I2 rx ry q=>hr a b pins s2 σ H2 x y v u Q I2 rx ry q (hs _ _))
def Znc(K:W.Frag):R2:=fun x y H Q=>∃ p xs i v,x=.ref p/\y=.int i/\SqL K H p xs/\atI xs i=some v/\Q v H
def Z1a(K:W.Frag):R2:=fun x y H Q=>∃ p xs i v,x=.ref p/\y=.int i/\SqT K H p xs/\atI xs i=some v/\Q v H
def Zoc:R2:=fun x y H Q=>∃ z i c,x=.str z/\y=.int i/\z.length<=sizeLine/\atI z.cps.toList i=some c/\Q (.str ⟨#[c]⟩) H
theorem Yj:IxR X (Znc X.K):=by
 intro value slice pins s σ H x y v u Q I rx ry h hs;obtain⟨p,xs,i,z,rfl,rfl,hq,he,q⟩:=h;cases rx;obtain⟨t,rfl⟩:=ry;obtain⟨its,r,pl,hz⟩:=I.list hq;obtain⟨j,h1,h2,h3,h4,h5⟩:=JSa he;obtain⟨w,ew,rw'⟩:=r.get h2;have hl:=r.length;have hn:=Zja;have fin:EP X pins σ Q w s:=⟨z,H,I,rw',q⟩
 by_cases h0:0<=i
 ·have hj:i.toNat=j:=by
   rw[seqIndex_of h0 h5]at h1;exact Option.some.inj h1
  exact item_listR pl.isList h0 (by omega) (by rw[hj];simpa using ew) fin hs
 ·have hj:(i+(its.toArray.size:Int)).toNat=j:=by
   rw[seqIndex_neg (by omega) h4]at h1
   rw[Vn,<- hl];exact Option.some.inj h1
  exact subscriptTail_builtinR (x:=w) pl.isList.typeIs slot_list_getitem.lookup
   (wpAny_getItem_list_neg (Q:=fun r s'=>r=w/\EP X pins σ Q r s') pl.isList (by omega) (by rw[Vn] <;> omega) (by omega) (by rw[hj];simpa using ew) ⟨rfl,fin⟩) hs
theorem QP:IxR X (Z1a X.K):=by
 intro value slice pins s σ H x y v u Q I rx ry h hs;obtain⟨p,xs,i,z,rfl,rfl,hq,he,q⟩:=h;cases rx;obtain⟨t,rfl⟩:=ry;obtain⟨its,r,pl,hz⟩:=I.tuple hq;obtain⟨j,h1,h2,h3,h4,h5⟩:=JSa he;obtain⟨w,ew,rw'⟩:=r.get h2;have hl:=r.length;have hn:=Zja;have fin:EP X pins σ Q w s:=⟨z,H,I,rw',q⟩;exact subscriptTail_builtinR (x:=w) pl.typeIs slot_tuple_getitem.lookup
  (getItem_tuple (j:=j) (Q:=fun r s'=>r=w/\EP X pins σ Q r s') pl (by omega) (by omega) (by rw[Vn,<- hl];exact h1) (by simpa using ew) ⟨rfl,fin⟩) hs
theorem Qmc:IxR X Zoc:=by
 intro value slice pins s σ H x y v u Q I rx ry h hs;obtain⟨z,i,c,rfl,rfl,hz,he,q⟩:=h;obtain⟨t,rfl⟩:=rx;obtain⟨t',rfl⟩:=ry;obtain⟨j,h1,h2,h3,h4,h5⟩:=JSa he;have hl:z.cps.toList.length=z.length:=by simp[Str.length]
 rw[hl]at h1 h4 h5;have hn:=Zja;exact tail_any (typeIs_str s z t) slot_str_getitem.lookup (getItem_str (c:=c) (by
  have e1:decide (i < -(2 ^ 63:Int))=false:=decide_eq_false (by omega)
  have e2:decide (i >= 2 ^ 63)=false:=decide_eq_false (by omega)
  rw[e1,e2,Bool.or_false]) (by rw[h1];simpa using h2) ⟨.str ⟨#[c]⟩,H,I.tok _,⟨_,rfl⟩,q⟩) hs
theorem JTa(lo hi:Option Int)(n:Nat):(sliceBounds lo hi none n).1=((HT.sIx n 0 lo:Nat):Int)/\(sliceBounds lo hi none n).2.1=((HT.sIx n n hi:Nat):Int)/\(sliceBounds lo hi none n).2.2=1:=by
 refine⟨?_,?_,rfl⟩
 ·cases lo with
  | none=>simp[sliceBounds,HT.sIx]
  | some i =>
   simp only[sliceBounds,HT.sIx,Option.getD_none,show(1:Int) > 0 by decide,if_true]
   by_cases h:i < 0
   ·simp only[h,if_true] <;> omega
   ·simp only[h,if_false] <;> omega
 ·cases hi with
  | none=>simp[sliceBounds,HT.sIx]
  | some i =>
   simp only[sliceBounds,HT.sIx,Option.getD_none,show(1:Int) > 0 by decide,if_true]
   by_cases h:i < 0
   ·simp only[h,if_true] <;> omega
   ·simp only[h,if_false] <;> omega
theorem Z2a(its:List Value)(lo hi:Option Int):slicePick its.toArray lo hi none=((its.drop (HT.sIx its.length 0 lo)).take (HT.sIx its.length its.length hi - HT.sIx its.length 0 lo)).toArray:=by
 obtain⟨h1,h2,h3⟩:=JTa lo hi its.toArray.size;unfold slicePick;rw[h1,h2,h3];simp only[sliceRange_one,pick_run,Vn] <;> rfl
def Zpc(K:W.Frag):V->Option Int->Option Int->Hp->VK->Prop:=fun x lo hi H Q=>∃ a xs,x=.ref a/\SqL K H a xs/\∀ p,H p=none->Q (.ref p) (upd H p (.lst (Z0a xs lo hi)))
theorem Q2a:SlR X (Zpc X.K):=by
 intro pins s σ H x v vl vu lo hi sl Q I rx hs pl pu h;obtain⟨a,xs,rfl,hx,q⟩:=h;cases rx;obtain⟨its,r,ht,hz⟩:=I.list hx;have hlen:=r.length;refine⟨"list",_,slot_list_getitem.lookup,ht.isList.typeIs,?_⟩
 refine wpAny_getItem_list_slice ht.isList hs pl pu .none (by simp) ?_ (by rw[Vn] <;> omega)
 rw[Z2a,<- hlen];refine⟨.ref s.heap.objs.size,_,I.laid (t':=s.toks) (o:=.lst (Z0a xs lo hi)) (fun b ob q=>Vd _ q) (Ve _) ?_,rfl,q _ (I.hok.fresh (Ve _))⟩
 exact⟨Vj (YKa xs lo hi) hz,_,0,(r.drop (HT.sIx xs.length 0 lo)).take (HT.sIx xs.length xs.length hi - HT.sIx xs.length 0 lo),Vi _ rfl⟩
def Xq:V->Bool
 | .non=>true
 | .bl _=>true
 | .int _=>true
 | .str _=>true
 | _=>false
def eqV:V->V->Bool
 | .non,.non=>true
 | .bl a,.bl b=>a == b
 | .bl a,.int b=>(if a then 1 else 0) == b
 | .int a,.bl b=>a == (if b then 1 else 0)
 | .int a,.int b=>a == b
 | .str a,.str b=>a == b
 | _,_=>false
theorem XNa{A:Around}{s:Shared}{y x:V}{u v:Value}(ry:Qr y u)(rx:Qr x v)(fy:Xq y=true)(fx:Xq x=true):SeqAt.EqAt A s u v (eqV y x):=by
 cases y with
 | non =>
  cases ry;cases x with
  | non=>cases rx;exact SeqAt.EqAt.same _
  | bl b=>cases rx;exact SeqAt.EqAt.none_bool b
  | int b=>obtain⟨t,rfl⟩:=rx;exact SeqAt.EqAt.none_int b t
  | str b=>obtain⟨t,rfl⟩:=rx;exact SeqAt.EqAt.none_str b t
  | _=>exact absurd (show false=true from fx) Vf
 | bl a =>
  cases ry;cases x with
  | non=>cases rx;exact SeqAt.EqAt.bool_none a
  | bl b=>cases rx;exact SeqAt.EqAt.bool_bool a b
  | int b=>obtain⟨t,rfl⟩:=rx;exact SeqAt.EqAt.bool_int a b t
  | str b=>obtain⟨t,rfl⟩:=rx;exact SeqAt.EqAt.bool_str a b t
  | _=>exact absurd (show false=true from fx) Vf
 | int a =>
  obtain⟨t',rfl⟩:=ry;cases x with
  | non=>cases rx;exact SeqAt.EqAt.int_none a t'
  | bl b=>cases rx;exact SeqAt.EqAt.int_bool a t' b
  | int b=>obtain⟨t,rfl⟩:=rx;exact SeqAt.EqAt.int_int a t' b t
  | str b=>obtain⟨t,rfl⟩:=rx;exact SeqAt.EqAt.int_str a t' b t
  | _=>exact absurd (show false=true from fx) Vf
 | str a =>
  obtain⟨t',rfl⟩:=ry;cases x with
  | non=>cases rx;exact SeqAt.EqAt.str_none a t'
  | bl b=>cases rx;exact SeqAt.EqAt.str_bool a t' b
  | int b=>obtain⟨t,rfl⟩:=rx;exact SeqAt.EqAt.str_int a t' b t
  | str b=>obtain⟨t,rfl⟩:=rx;exact SeqAt.EqAt.str_str a t' b t
  | _=>exact absurd (show false=true from fx) Vf
 | _=>exact absurd (show false=true from fy) Vf
theorem Zk:Xp X (.builtin "len") (fun xs H Q=>∃ p ys,xs=[.ref p]/\(SqL X.K H p ys\/SqT X.K H p ys)/\Q (.int ys.length) H):=by
 intro pins s σ H xs us Q I r h;obtain⟨p,ys,rfl,hq,q⟩:=h;obtain⟨u,rfl,rx⟩:=Zka r;cases rx;have hn:=Zja
 rcases hq with hq | hq
 ·obtain⟨its,r',pl,hz⟩:=I.list hq
  have hlen:=r'.length;exact Calls.call_len_list pl.isList (by simp only[Vn] <;> omega) ⟨.int ys.length,H,I.tok _,⟨s.toks+1,by rw[Vn,hlen]⟩,q⟩
 ·obtain⟨its,r',pl,hz⟩:=I.tuple hq
  have hlen:=r'.length;exact len_tuple pl (by simp only[Vn] <;> omega) ⟨.int ys.length,H,I.tok _,⟨s.toks+1,by rw[Vn,hlen]⟩,q⟩
theorem Zb:Xp X (.type "list") (fun xs H Q=>∃ p ys,xs=[.ref p]/\(SqL X.K H p ys\/SqT X.K H p ys)/\∀ l,H l=none->Q (.ref l) (upd H l (.lst ys))):=by
 intro pins s σ H xs us Q I r h;obtain⟨p,ys,rfl,hq,q⟩:=h;obtain⟨u,rfl,rx⟩:=Zka r;cases rx;have fin:∀ (its:List Value),Qv ys its->ys.length<=sizeLine->∀ (h':Heap) (c':Nat),(∀ b o',s.heap.get? b=some o'->h'.get? b=some o') ->
  h'.get? s.heap.objs.size=some { cls:=.type "list",dict:=none,data:=.seq its.toArray c',slots:=#[] }->EP X pins σ Q (.ref s.heap.objs.size) { s with heap:=h' }:=fun its r' hz h' c' kp e =>
  ⟨.ref s.heap.objs.size,_,I.laid (t':=s.toks) kp (Ve _) (show QB X.prog X.w _ h' _ (.lst ys) from⟨hz,its,c',r',e⟩),rfl,q _ (I.hok.fresh (Ve _))⟩
 rcases hq with hq | hq
 ·obtain⟨its,r',pl,hz⟩:=I.list hq
  have hlen:=r'.length;obtain⟨o,ho,hc,n,hd⟩:=pl.isList;exact call_list_seq p (.inl rfl) ho hc hd (fun h' c' kp e=>fin its r' hz h' c' kp e) (by simp only[Vn] <;> omega)
 ·obtain⟨its,r',pl,hz⟩:=I.tuple hq
  have hlen:=r'.length;obtain⟨o,ho,hc,n,hd⟩:=pl;exact call_list_seq p (.inr rfl) ho hc hd (fun h' c' kp e=>fin its r' hz h' c' kp e) (by simp only[Vn] <;> omega)
theorem JV:Xp X (.type "tuple") (fun xs H Q=>∃ p ys,xs=[.ref p]/\((SqL X.K H p ys/\∀ l,H l=none->Q (.ref l) (upd H l (.tup ys)))\/(SqT X.K H p ys/\Q (.ref p) H))):=by
 intro pins s σ H xs us Q I r h;obtain⟨p,ys,rfl,h⟩:=h;obtain⟨u,rfl,rx⟩:=Zka r;cases rx
 rcases h with ⟨hq,q⟩ | ⟨hq,q⟩
 ·obtain⟨its,r',pl,hz⟩:=I.list hq
  have hlen:=r'.length;refine call_tuple_list pl.isList (fun h' kp=>?_) (by simp only[Vn] <;> omega)
  have I1:Inv X pins σ H { s with heap:=h' }:=I.kept (t':=s.toks) kp
  have I2:Inv X pins σ (upd H h'.objs.size (.tup ys)) { s with heap:=h'.push { cls:=.type "tuple",data:=.seq its.toArray } } :=
   I1.laid (t':=s.toks) (fun b o e=>Vd _ e) (Ve _) (show QB X.prog X.w _ _ _ (.tup ys) from⟨⟨hz,_,Vi _ rfl,rfl⟩,its,r',IsTup.new _ _⟩)
  exact⟨.ref h'.objs.size,_,I2,rfl,q _ (I1.hok.fresh (Ve _))⟩
 ·obtain⟨its,r',pl,hz⟩:=I.tuple hq
  exact call_tuple_same pl ⟨.ref p,H,I,rfl,q⟩
def tyV(K:W.Frag)(T:String)(x:V)(H:Hp):Prop:=match x with
 | .str _=>T="str"
 | .int _=>T="int"
 | .ref p=>(T="list"/\∃ xs,SqL K H p xs)\/(T="tuple"/\∃ o,K.lookup p=some o/\o.cls=.type "tuple"/\o.dict=none) \/
  (T="dict"/\((∃ kvs,H p=some (.dK kvs))\/∃ kvs,H p=some (.dT kvs)))\/(T="set"/\∃ S n,H p=some (.set S n))
 | _=>False
theorem Qnc{pins:YP_}{σ:St}{H:Hp}{s:Shared}{T:String}{x:V}{v:Value}(I:Inv X pins σ H s)(r:Qr x v)(ty:tyV X.K T x H) :
 s.TypeIs v T/\∀ a,v=.ref a->∃ ob,s.heap.get? a=some ob/\ob.dict=none:=by
 cases x with
 | str z =>
  obtain⟨t,rfl⟩:=r;cases (show T="str" from ty)
  exact⟨typeIs_str s z t,fun _ e=>nomatch e⟩
 | int i =>
  obtain⟨t,rfl⟩:=r;cases (show T="int" from ty)
  exact⟨typeIs_int s i t,fun _ e=>nomatch e⟩
 | ref p =>
  cases r
  rcases ty with ⟨rfl,xs,hq⟩ | ⟨rfl,o,hk,hc,hd⟩ | ⟨rfl,hk⟩ | ⟨rfl,S,n,hk⟩
  ·obtain⟨its,_,pl,_⟩:=I.list hq
   refine⟨pl.isList.typeIs,fun a e=>?_⟩
   cases e;obtain⟨o,n,e,c,hd,_⟩:=pl;exact⟨o,e,hd⟩
  ·refine⟨⟨o,I.kIn p o hk,hc⟩,fun a e=>?_⟩
   cases e;exact⟨o,I.kIn _ o hk,hd⟩
  ·have z:∃ o,s.heap.get? p=some o/\o.ExactDict:=by
    rcases hk with ⟨kvs,hk⟩ | ⟨kvs,hk⟩
    ·obtain⟨_,_,_,_,o,_,_,e,ex,_⟩:=I.hok p _ hk
     exact⟨o,e,ex⟩
    ·obtain⟨_,_,_,_,o,_,_,e,ex,_⟩:=I.hok p _ hk
     exact⟨o,e,ex⟩
   obtain⟨o,e,ex⟩:=z;refine⟨⟨o,e,ex.1⟩,fun a e2=>?_⟩
   cases e2;exact⟨o,e,ex.2.1⟩
  ·obtain⟨o,_,_,_,e,ex,_⟩:=I.hok p _ hk
   refine⟨⟨o,e,ex.1⟩,fun a e2=>?_⟩
   cases e2;exact⟨o,e,ex.2.1⟩
 | _=>exact False.elim ty
def tBM(K:W.Frag)(T:String)(r:V->List V->Hp->VK->Prop)(to:TE)(t:TA):TE:=fun σ H Q=>to σ H fun x H1=>tyV K T x H1/\t σ H1 fun xs H2=>r x xs H2 Q
variable{o e:Expr}{es:List Expr}{to:TE}{t:TA}{name:Str}{apos cpos:Pos}{T id:String}{r:V->List V->Hp->VK->Prop}
theorem Xr(pa:PlainAttrs T)(slot:Slot T name id)(hty:typeOf (.builtin id)=pure (.type "method_descriptor"))(hm:MtR X id r)(ho:PE X o to)(ha:PA X (e::es) t)
 (hbase:attributeBase o name X.env (eval o X.env)=eval o X.env:=by rfl)
 (hfew:((backTo cpos (starEach (e::es) X.env)).all (fun x=>!x.1) && (backToKw cpos (keywordEach [] X.env)).all (fun x=>x.1.isSome)
  && decide ((e::es).length+([]:List Keyword).length+(if ([]:List Keyword).isEmpty then 0 else 1) < 30))=true:=by rfl)
 (hline:(apos.endLine == cpos.line)=true:=by rfl) (hs:starEach (e::es) X.env=(false,eval e X.env)::starEach es X.env:=by rfl) (hplain:(backTo cpos (starEach es X.env)).any (·.1)=false:=by rfl) :
 PE X (.Call (.Attribute o name apos) (e::es) [] cpos) (tBM X.K T r to t):=by
 intro pins s σ H Q I h;refine wpAny_Call_method_late hbase hfew hline rfl (thn (ho pins s σ H _ I h) fun v s1 hZ=>?_)
 obtain⟨x,H1,I1,r1,ty,q1⟩:=hZ;obtain⟨h1,h2⟩:=Qnc I1 r1 ty;refine⟨T,id,pa,slot,hty,h1,h2,?_⟩
 have hA:=ha cpos pins s1 σ H1 _ I1 q1;rw[hs]at hA ⊢;refine Calls.callWith_builtin (by show(false || (backTo cpos (starEach es X.env)).any (·.1))=false;rw[hplain] <;> rfl) (Calls.evalArgs_plain ?_)
 exact thn hA fun us s2 ⟨vs,H2,I2,r2,q2⟩=>hm pins s2 σ H2 x vs v us Q I2 r1 r2 q2
end
def MtM(X:Cx)(id:String)(r:V->List V->Hp->VK->Prop):Prop :=
 ∀ (pins:YP_) (s:Shared) (σ:St) (H:Hp) (x:V) (xs:List V) (v:Value) (us:List Value) (Q:VK),Inv X pins σ H s->Qr x v->Qv xs us->r x xs H Q ->
  wpAny (model X.prog X.w) X.A (call (.builtin id) (v::us)) (EP X pins σ Q) X.xe s
theorem Qv.one:∀ {x:V} {us:List Value},Qv [x] us->∃ u,us=[u]/\Qr x u
 | _,_,.cons r .nil=>⟨_,rfl,r⟩
section
variable{X:Cx}{pins:YP_}{σ:St}{H:Hp}{s:Shared}{l b:Addr}{xs ys zs:List V}
theorem Inv.lset{its its':List Value}{n:Nat}{f:Array Value->Array Value}{t':Nat}(I:Inv X pins σ H s)(hH:H l=some (.lst xs))
 (e:s.heap.get? l=some { cls:=.type "list",data:=.seq its.toArray n }) (hf:f its.toArray=its'.toArray) (hv:Qv ys its') (hz:ys.length<=sizeLine) :
 Inv X pins σ (upd H l (.lst ys)) { s with heap:=s.heap.update l (Obj.mapSeq f),toks:=t' }:=by
 have q:=PySem.IsL.update e f;rw[hf]at q;refine I.write (x:=l) (e:=l) (by rw[hH];exact trivial) (.inl rfl) (fun b' u hb hu=>(Heap.get?_update_other s.heap (Obj.mapSeq f) (Ne.symm hb)).trans hu) ⟨_,q⟩ ?_
 exact⟨hz,its',_,hv,q⟩
theorem Inv.lnew{its:List Value}{t':Nat}(I:Inv X pins σ H s)(hv:Qv ys its)(hz:ys.length<=sizeLine) :
 Inv X pins σ (upd H s.heap.objs.size (.lst ys)) { s with heap:=s.heap.push { cls:=.type "list",data:=.seq its.toArray },toks:=t' } :=
 I.laid (fun _ _ q=>Vd _ q) (Ve _) ⟨hz,its,0,hv,Vi _ rfl⟩
theorem Inv.fresh(I:Inv X pins σ H s):H s.heap.objs.size=none:=I.hok.fresh (Ve _)
theorem Inv.lstM(I:Inv X pins σ H s)(hH:H l=some (.lst xs)):xs.length<=sizeLine/\∃ (its:List Value) (n:Nat),Qv xs its/\xs.length=its.length/\s.heap.get? l=some { cls:=.type "list",data:=.seq its.toArray n }:=by
 obtain⟨z,its,n,r,e⟩:=I.hok l _ hH;exact⟨z,its,n,r,r.length,e⟩
theorem Jcb{n:Nat}(h:n<=sizeLine):Builtin.List.listTooLong n=false:=by
 unfold Builtin.List.listTooLong;exact decide_eq_false (by omega)
end
section
variable{X:Cx}
def Qzb:V->List V->Hp->VK->Prop:=fun x vs H Q=>∃ l xs y,x=.ref l/\vs=[y]/\H l=some (.lst xs)/\xs.length < sizeLine/\Q .non (upd H l (.lst (xs++[y])))
theorem ZC:MtM X "list.append" Qzb:=by
 intro pins s σ H x vs v us Q I rx rv h;obtain⟨l,xs,y,rfl,rfl,hH,hz,q⟩:=h;cases rx;obtain⟨u,rfl,ru⟩:=rv.one;obtain⟨z,its,n,r,hl,e⟩:=I.lstM hH;refine call_meets F.slot_list_append ⟨_,e,rfl⟩ F.entry_list_append (F.args_list_append_2 _ _) (PySem.list_append l its.toArray n u (by rw[Vn];omega)) ⟨e,?_⟩
 refine⟨.non,_,I.lset (its':=its++[u]) hH e (by simp) (r.append (.cons ru .nil)) ?_,rfl,q⟩
 rw[Vs,length_singleton]
 omega
def Zqc:R2:=fun x y H Q=>∃ l b xs zs,x=.ref l/\y=.ref b/\H l=some (.lst xs)/\H b=some (.lst zs)/\xs.length+zs.length<=sizeLine/\∀ p,H p=none->Q (.ref p) (upd H p (.lst (xs++zs)))
theorem Jdb:OpR X (binaryOp .Add) Zqc:=by
 intro pins s σ H x y v u Q I rx ry h;obtain⟨l,b,xs,zs,rfl,rfl,hH,hB,hz,q⟩:=h;cases rx;cases ry;obtain⟨z,its,n,r,hl,e⟩:=I.lstM hH;obtain⟨z2,its2,n2,r2,hl2,e2⟩:=I.lstM hB;refine PySem.P.add_list e e2 ?_ (by rw[Vn,Vn];omega)
 have ea:its.toArray++its2.toArray=(its++its2).toArray:=by simp
 rw[ea];exact⟨.ref _,_,I.lnew (t':=s.toks) (r.append r2) (by rw[Vs];omega),rfl,q _ I.fresh⟩
end
section
variable{prog:Program}{w:World}{A:Around}{E:YQ_}{s:Shared}
end
section
variable{X:Cx}
end
end L2
namespace Att
open PySem PySem.W PySem.Calls PyProof.Rows
theorem QSa{P:Params}{h:Heap}:∀ (ns:List Int) (vs:List Value),WellAll P h vs (ns.map WData.int)->IntsAre vs ns:=by
 intro ns
 induction ns with
 | nil =>
  intro vs w;rw[map_nil]at w;cases w;exact .nil
 | cons n ns ih =>
  intro vs w;rw[map_cons]at w;cases w with
  | cons a b =>
   cases a;exact .cons _ _ (ih _ b)
theorem Zhb{l:OpenLaw}{n:Nat}(hn:l.most=some n){P:Params}{h:Heap}{args:List WData}{vals:List Value}
 (hpre:l.row.toRowW.claim.pre args=true) (hwl:WellAll P h vals args) :
 ∃ a vs ns,vals=[Value.ref a]/\args=[WData.list (ns.map WData.int)]/\h.get? a=some { cls:=.type "list",data:=.seq vs.toArray }/\IntsAre vs ns/\ns.length<=n:=by
 have hsh:WShape.hasAll [] args [.list .int]=true:=(pre_splitW hpre).1;have hc:l.pre.holds [] { args:=args }=true:=(pre_splitW hpre).2;obtain⟨d,r,rfl,h1,h2⟩:=hasAllW_cons hsh;obtain rfl:=hasAllW_nil h2;obtain⟨xs,rfl,h3⟩:=hasW_list h1;obtain⟨ns,rfl⟩:=items_int h3;have hlen:ns.length<=n:=by
  unfold OpenLaw.pre at hc;have h4:(WTm.not (.lt (.lit (.int (n:Int))) (.len (.arg 0)))).holds [] { args:=[.list (ns.map .int)] }=true:=by
   have h4:=(holds_andW hc).1;rw[hn]at h4;exact h4
  have h5:=condW_of h4 (w_not (w_lt w_lit (w_len_list (w_arg rfl))));rw[Vr]at h5;refine Nat.le_of_not_lt fun q=>?_
  have q':(n:Int) < ((ns.length:Nat):Int):=by omega
  first
   | (rw[decide_eq_true q']at h5;exact absurd h5 (by decide))
   | (simp at h5;omega)
 cases hwl with
 | cons w1 w2 =>
  cases w2;cases w1 with
  | list ho hall=>exact⟨_,_,ns,rfl,rfl,ho,QSa ns _ hall,hlen⟩
theorem Zib(l:OpenLaw)(args:List WData):l.row.toRowW.claim.post args (.bool true) args=true :=
 postW_of (r:=l.row.toRowW) (X:=(true == true))
  (show WShape.has [] (.bool true) .bool=true by first | rfl | decide | simp[WShape.has,WShape.arms,WShape.armsAll])
  (show(WTm.eq .res (.lit (.bool true))).value [] { args:=args,res:=some (.bool true),after:=args }=some (.bool (true == true)) from w_eq_bool (w_res rfl) w_lit) rfl
section
variable{prog:Program}{w:World}{A:Around}{E:YQ_}{s:Shared}{K:Frag}
end
end Att
namespace L2
open PySem PySem.Spec PyProof.Rows
theorem Jua:∀ {vs:List Value} {ns:List Int},IntsAre vs ns->Qv (ns.map V.int) vs
 | _,_,.nil=>.nil
 | _,_,.cons n t h=>.cons ⟨t,rfl⟩ (Jua h)
def Qoc(H:Hp):Prop:=∀ b,H b=none\/∃ o xs,H b=some (.frz o (.lst xs))
theorem Jeb{P:Program}{w:World}{K:W.Frag}{mg mb:Str->Option Value}{CX:CXT}{k:Nat}{fa a:Addr}{fd:FuncData}{x:Str}{sp:Sp}{s₁:Shared}{vs:List Value}{ns:List Int}
 (KX:K.In s₁.heap) (hns:s₁.heap.Ns mainGlobals mg) (hb:s₁.heap.Ns builtinsNs mb) (hbb:∀ x:Str,x≠"__name__"->mb x=bootBuiltins x) (hlim:s₁.heap.NoLimit) (hg:s₁.gens=#[])
 (ha:s₁.heap.get? a=some { cls:=.type "list",data:=.seq vs.toArray }) (hi:IntsAre vs ns) (hl:ns.length<=sizeLine) (hr:Q4 k callerA)
 (F:∀ base:Heap,K.In base->base.Ns mainGlobals mg->QD P w K mg base CX k fa fd [x] sp) (hbind:∀ (s:Shared) (u:Value),BindsTo s fd ⟨[u],[]⟩ [(x,u)])
 (hsp:∀ H:Hp,Qoc H->SqL K H a (ns.map V.int)->sp [.ref a] H (fun v _=>v=.bl true) fun _ _ _=>False)
 (hCX:∀ H e s',CX [] H s₁ (fun _ _ _=>False) e s'->False) :
 codeAny (model P w) callerA (.call (.ref fa) ⟨[.ref a],[]⟩) (fun r s'=>r=.ok (.ret (.bool true))/\OldK s₁.heap s'.heap/\s'.os=s₁.os/\AllBare s'.gens) s₁:=by
 have rv:=Jua hi;have lenV:=hi.length;have core:∀ H:Hp,Qoc H->SqL K H a (ns.map V.int)->HOk P w H s₁.heap->(∀ b,H b≠none->b=a)->(H a≠none->K.lookup a=none) ->
  codeAny (model P w) callerA (.call (.ref fa) ⟨[.ref a],[]⟩) (fun r s'=>r=.ok (.ret (.bool true))/\OldK s₁.heap s'.heap/\s'.os=s₁.os/\AllBare s'.gens) s₁:=by
  intro H hO hS hok hA hK;have base_of:∀ {b:Addr} {o:Obj},s₁.heap.get? b=some o->H b=none->(JNa s₁.heap H).get? b=some o:=fun e n=>ZUb e n
  have noA:∀ {b:Addr} {o:Obj} {es:Array DictEntry} {ep:Nat},s₁.heap.get? b=some o->o.data=.dict es ep->H b=none:=fun {b o es ep} e d=>by
   cases q:H b with
   | none=>rfl
   | some u =>
    have e':b=a:=hA b (by rw[q];simp)
    subst e';rw[ha]at e;cases e;have d':Data.seq vs.toArray _=Data.dict es ep:=d;cases d'
  have nsK:∀ {b:Addr} {m:Str->Option Value},s₁.heap.Ns b m->(JNa s₁.heap H).Ns b m:=fun {b m} ⟨o,es,ep,e,d,r⟩=>⟨o,es,ep,base_of e (noA e d),d,r⟩
  have hKb:K.In (JNa s₁.heap H):=fun b o e=>base_of (KX b o e) (by
   cases q:H b with
   | none=>rfl
   | some u =>
    have e':b=a:=hA b (by rw[q];simp)
    subst e';rw[hK (by rw[q];simp)]at e;cases e)
  have hM:Mod K mg (JNa s₁.heap H):=⟨hKb,nsK hns,⟨mb,nsK hb,hbb⟩,let ⟨mc,h1,h2⟩:=hlim;⟨mc,nsK h1,h2⟩⟩
  have e0:XMa P w K mg (JNa s₁.heap H) callerA [] s₁ H:=⟨rfl,hM,fun b o e=>Yxb e,Nat.le_of_eq (Q8b _ _),trivial,fun b hb=>absurd (show b∈([]:List Addr) from hb) (by simp),hok,.of_eq hg⟩
  refine codeAny_mono ((F _ hKb (nsK hns)).run callerA [] s₁ H ⟨[.ref a],[]⟩ [.ref a] [.ref a] _ _ hr e0 (hbind s₁ (.ref a)) (.cons rfl .nil) (hsp H hO hS)) fun r s' h=>?_
  cases r with
  | error e=>exact(hCX H e s' h).elim
  | ok fl =>
   cases fl with
   | next=>exact False.elim h
   | brk=>exact False.elim h
   | cont=>exact False.elim h
   | ret u =>
    obtain⟨v,H',os,bare,un,hok',r',q⟩:=h;have q':v=.bl true:=q;subst q';obtain rfl:u=Value.bool true:=r';refine⟨rfl,OldK.of_keep fun b o e=>?_,os,bare⟩
    cases q:H b with
    | none=>exact un.keep b o e q (by intro z;exact absurd (show b∈([]:List Addr) from z) (by simp)) (by simp)
    | some u =>
     rcases hO b with z | ⟨ob,xs,z⟩
     ·rw[q]at z;cases z
     ·have z2:=un.frzs b ob _ z
      obtain⟨e1,_⟩:=hok b _ z;obtain⟨e2,_⟩:=hok' b _ z2;rw[e]at e1;cases e1;exact e2
 cases hk:K.lookup a with
 | some o =>
  have e:=KX a o hk;rw[ha]at e;cases e;refine core (fun _=>none) (fun _=>.inl rfl) (.inr ⟨_,vs.toArray,_,hk,rfl,rfl,rfl,by rw[Vn,lenV];exact hl,by simpa using rv⟩) (fun b u z=>by have z':(none:Option HO)=some u:=z;cases z') (fun b z=>absurd rfl z) fun z=>absurd rfl z
 | none =>
  refine core (fun b=>if b=a then some (.frz { cls:=.type "list",data:=.seq vs.toArray } (.lst (ns.map V.int))) else none) (fun b=>?_) (.inl (.inr ⟨{ cls:=.type "list",data:=.seq vs.toArray },if_pos rfl⟩)) (fun b u z=>?_) (fun b z=>?_) fun _=>hk
  ·by_cases hb:b=a
   ·exact .inr ⟨_,_,if_pos hb⟩
   ·exact .inl (if_neg hb)
  ·by_cases hb:b=a
   ·have z':=(if_pos hb).symm.trans z
    cases z';subst hb;exact⟨ha,by rw[Vr];exact hl,vs,_,rv,ha⟩
   ·have z':=(if_neg hb).symm.trans z
    cases z'
  ·by_cases hb:b=a
   ·exact hb
   ·exact absurd (if_neg hb) z
def XX(s:Stmt):Arguments:=match s with
 | .FunctionDef _ a _ _ _ _ _ _ _ _=>a
 | _=>{ posonlyargs:=[],args:=[],vararg:=none,kwonlyargs:=[],kw_defaults:=[],kwarg:=none,defaults:=[] }
def Yk(s:Stmt):List Stmt:=match s with
 | .FunctionDef _ _ b _ _ _ _ _ _ _=>b
 | _=>[]
def Qh(s:Stmt):Scope:=match s with
 | .FunctionDef _ _ _ _ _ _ sc _ _ _=>sc
 | _=>{ kind:=.function,names:=[],isGenerator:=false,isCoroutine:=false }
abbrev CX0:CXT:=fun _ _ _ _ _ _=>False
abbrev E0:XK:=fun _ _ _=>False
theorem QAb{X:Cx}:Qka CX0 X E0:=fun _ _ _ _ _ _ _ h=>h.elim
structure Fun(K:W.Frag)(x qual:Str)(st:Stmt)(f:Addr)(fd:FuncData):Prop where
 ex:∃ (oc:Value) (od:Option Addr) (kV doc pm:Value) (an:Option Addr) (cdv ct:Value) (osl:Array (Option Value)),
  fd=W.fnOf x qual (XX st) (Yk st) (Qh st) .none kV doc pm an cdv ct/\K.lookup f=some ⟨oc,od,.func fd,osl⟩/\W.codeIn K cdv qual=true
 kp:W.keepIn K (.ref f)=true
section
variable{P:Program}{w:World}{K:W.Frag}{mg:Str->Option Value}{base:Heap}
theorem Fun.ok{x qual:Str}{st:Stmt}{f:Addr}{fd:FuncData}{N ps:List Str}{k:Nat}{sp:Sp}(F:Fun K x qual st f fd)(S:Qo N ps (Qh st))(len:∀ vs H Q E,sp vs H Q E->vs.length=ps.length)
 (hbody:∀ (cdv:Value) (A:Around) (outer:List Env) (s:Shared) (H:Hp) (vs:List V) (Q:VK) (E:XK),Q4 k (A.deeper (envOfC qual (Qh st) s.heap.objs.size f cdv))->sp vs H Q E ->
  ∃ t,PSs (XV CX0 P w K mg base N qual (Qh st) f cdv A outer s H E).nox (Yk st) t/\t { nx:=fun _ H'=>Q .non H',rt:=Q } (XU N vs) H):QD P w K mg base CX0 (k+1) f fd ps sp:=by
 obtain⟨oc,od,kV,doc,pm,an,cdv,ct,osl,rfl,lk,hcd⟩:=F.ex;refine XMb lk hcd S len fun A outer s H vs Q E hr hsp=>?_
 obtain⟨t,h,q⟩:=hbody cdv A outer s H vs Q E hr hsp;exact⟨t,h.nox,q⟩
theorem Fun.binds{x qual:Str}{st:Stmt}{f:Addr}{fd:FuncData}{ps:List Str}(F:Fun K x qual st f fd)
 (h:∀ (kV doc pm:Value) (an:Option Addr) (cdv ct:Value) (us:List Value),us.length=ps.length->bindArgs (W.fnOf x qual (XX st) (Yk st) (Qh st) .none kV doc pm an cdv ct) ⟨us,[]⟩=pure (ps.zip us)):ZJ K fd ps []:=by
 obtain⟨oc,od,kV,doc,pm,an,cdv,ct,osl,rfl,lk,hcd⟩:=F.ex;exact .all (h kV doc pm an cdv ct)
theorem Qpc{x qual:Str}{st:Stmt}{f:Addr}{oc:Value}{od an:Option Addr}{osl:Array (Option Value)}{kV doc pm cdv ct:Value}(l:K.lookup f=some ⟨oc,od,.func (W.fnOf x qual (XX st) (Yk st) (Qh st) .none kV doc pm an cdv ct),osl⟩)
 (c:W.codeIn K cdv qual=true) (k:W.keepIn K (.ref f)=true):Fun K x qual st f (W.fnOf x qual (XX st) (Yk st) (Qh st) .none kV doc pm an cdv ct):=⟨⟨oc,od,kV,doc,pm,an,cdv,ct,osl,rfl,l,c⟩,k⟩
end
theorem QN{n:Nat}(h:n<=1000):n < sizeLine:=Nat.lt_of_le_of_lt h (by decide)
section
variable{X:Cx}
theorem pv(i:Nat){x:Str}{pos:Pos}(hN:X.N[i]?=some x:=by rfl)(hv:Vis X.env.scope x:=by first | exact Or.inl rfl | exact Or.inr (Or.inl rfl) | exact Or.inr (Or.inr rfl))(hd:(x == ("__debug__":Str))=false:=by decide)
 (hcd:(x == ("__classdict__":Str))=false:=by decide):PE X (.Name x pos) (J9 i):=Qac hN hv hd hcd
end
theorem ZRc{A B:Prop}(h:A):if true=true then A else B:=by
 rw[if_pos rfl];exact h
theorem Jz{c A B:Prop}[Decidable c](h1:c->A)(h2:¬ c->B):if c then A else B:=by
 by_cases h:c
 ·rw[if_pos h]
  exact h1 h
 ·rw[if_neg h]
  exact h2 h
def Qk(H H':Hp):Prop:=∀ b o,H b=some o->H' b=some o
theorem Qk.refl(H:Hp):Qk H H:=fun _ _ h=>h
theorem Qk.trans{H H1 H2:Hp}(a:Qk H H1)(b:Qk H1 H2):Qk H H2:=fun c o h=>b c o (a c o h)
theorem Qk.seq{K:W.Frag}{H H':Hp}{a:Addr}{xs:List V}(e:Qk H H')(h:SqL K H a xs):SqL K H' a xs:=by
 rcases h with (h | ⟨o,h⟩) | h
 ·exact .inl (.inl (e _ _ h))
 ·exact .inl (.inr ⟨o,e _ _ h⟩)
 ·exact .inr h
section
variable(P:Program)(w:World)
end
section
variable{P:Program}{w:World}{H H':Hp}{h h':Heap}{a:Addr}{o:HO}
end
section
variable{P:Program}{w:World}{H:Hp}{h h':Heap}{x e:Addr}{o':HO}
end
section
variable{fs fs' ex ex':List Addr}{H H1 H2:Hp}{h h1 h2 h':Heap}{a x e:Addr}{o:HO}
end
section
variable{X:Cx}{pins:YP_}{σ:List (Option V)}{H H':Hp}{s:Shared}{h':Heap}
end
section
variable{X:Cx}
variable{a b:Expr}{ta tb:TE}{pos:Pos}
variable{tA tB':TT}{rest:List Expr}
end
section
variable{X:Cx}{pins:YP_}{σ:St}{H:Hp}{s:Shared}{a:Addr}{xs ys:List V}
end
section
variable{X:Cx}{pins:YP_}{σ:St}{H:Hp}{s:Shared}{E:YQ_}
end
section
variable{X:Cx}{st:Stmt}{rest:List Stmt}{t u:TS}{e:Expr}{te:TE}{pos:Pos}
end
section
variable{X:Cx}{pos:Pos}
end
section
variable{X:Cx}{pos:Pos}
end
section
variable{X:Cx}{tg:Expr}
end
section
variable{X:Cx}{a b c:Expr}{ta tb tc:TE}{pos:Pos}
end
section
variable{X:Cx}{a b c:Expr}{ta tb tc:TE}{pos:Pos}
end
section
variable{prog:Program}{w:World}{A:Around}{E:YQ_}{s:Shared}{K:W.Frag}{x dx C f:Addr}{mA:Str->Option Value}{name:Str}{v:Value}
end
section
variable{P:Program}{w:World}{H H':Hp}{h h':Heap}{a C dx:Addr}{fs fs':List (Str×V)}
end
section
variable{X:Cx}{pins:YP_}{σ:St}{H:Hp}{s:Shared}{a C dx:Addr}{fs:List (Str×V)}{f:Str}{v:V}{A:Around}{E:YQ_}
end
section
variable{X:Cx}{o e value:Expr}{f:Str}{pos pos' tpos:Pos}{ta tv:TE}
end
section
variable{X:Cx}{pins:YP_}{σ:St}{H:Hp}{s:Shared}{A:Around}{E:YQ_}{Q:YQ_}{c:Value}{b:Bool}
end
section
variable{X:Cx}{e:Expr}{es:List Expr}{te:TE}{t:TA}{pos:Pos}
end
section
variable{X:Cx}{pins:YP_}{σ:St}{H:Hp}{s s':Shared}
end
section
variable{X:Cx}{CX:CXT}{k:Nat}{f C:Addr}{fd:FuncData}{ps:List Str}{sp:Sp}{dvs:List V}{ds:List Value}{E:XK}{x m:Str}{p pos apos:Pos}{e o:Expr}{es:List Expr}{ta:TE}{t:TA}
end
section
variable{X:Cx}{CX:CXT}{k:Nat}{f C:Addr}{fd:FuncData}{ps ks:List Str}{sp:Sp}{E:XK}{x m:Str}{p pos apos kpos:Pos}{e o:Expr}{es:List Expr}{kws:List Keyword}{te ta:TE}{t tk:TA}{nm:Option Str}
variable{g:List Value->List Value->List Value}{gV:List V->List V->List V}
end
section
variable{X:Cx}{x:Str}{p pos:Pos}{e:Expr}{es:List Expr}{t:TA}{id T:String}{r:List V->Hp->VK->Prop}
end
section
variable{κ:Type}[DecidableEq κ]
def Zc(kvs:List (κ×V))(k:κ):Option V:=(kvs.find? fun kv=>decide (kv.1=k)).map (·.2)
def Zz(kvs:List (κ×V))(k:κ)(v:V):List (κ×V) :=
 if (kvs.any fun kv=>decide (kv.1=k))=true then kvs.map (fun kv=>if kv.1=k then (kv.1,v) else kv) else kvs++[(k,v)]
def Xs(kvs:List (κ×V))(k:κ):List (κ×V):=kvs.filter fun kv=>decide (kv.1≠k)
theorem Zma{p:κ×V}{r:List (κ×V)}{k:κ}(e:p.1=k):Zc (p::r) k=some p.2:=by simp[Zc,find?_cons,e]
theorem Zna{p:κ×V}{r:List (κ×V)}{k:κ}(e:¬ p.1=k):Zc (p::r) k=Zc r k:=by simp[Zc,find?_cons,e]
theorem Zoa(k:κ):∀ kvs:List (κ×V),(kvs.any fun kv=>decide (kv.1=k))=(Zc kvs k).isSome
 | []=>rfl
 | p::r=>by
  rw[any_cons]
  by_cases e:p.1=k
  ·simp only[Zma e,decide_eq_true e,Bool.true_or,Option.isSome_some]
  ·rw[Zna e,decide_eq_false e,Bool.false_or];exact Zoa k r
theorem QZ(kvs:List (κ×V))(k:κ)(v:V):(Zz kvs k v).length<=kvs.length+1:=by
 unfold Zz
 split
 ·rw[Vr];omega
 ·rw[Vs,length_cons,length_nil];omega
theorem YLa{kvs:List (κ×V)}{k:κ}(v:V)(h:Zc kvs k=none):Zz kvs k v=kvs++[(k,v)]:=by
 unfold Zz;rw[Zoa,h];exact if_neg (by decide)
theorem JI.isSome_eq{o:Option V}{u:Option Value}(r:JI o u):o.isSome=u.isSome:=by
 cases o with
 | none=>cases u with
  | none=>rfl
  | some _=>exact(show False from r).elim
 | some _=>cases u with
  | none=>exact(show False from r).elim
  | some _=>rfl
theorem KV.val{kvs:List (κ×V)}{vs:List (κ×Value)}(r:KV kvs vs)(k:κ):JI (Zc kvs k) (valueAt vs k):=by
 unfold KV at r
 induction r with
 | nil=>exact True.intro
 | @cons p q ps qs h t ih =>
  obtain⟨h1,h2⟩:=h
  by_cases e:p.1=k
  ·have e':q.1=k:=h1.symm.trans e
   have b:valueAt (q::qs) k=some q.2:=by simp[valueAt,find?_cons,e']
   rw[Zma e,b];exact h2
  ·have e':¬ q.1=k:=fun z=>e (h1.trans z)
   have b:valueAt (q::qs) k=valueAt qs k:=by simp[valueAt,find?_cons,e']
   rw[Zna e,b];exact ih
theorem KV.any{kvs:List (κ×V)}{vs:List (κ×Value)}(r:KV kvs vs)(k:κ):(kvs.any fun kv=>decide (kv.1=k))=vs.any fun kv=>decide (kv.1=k):=by
 unfold KV at r
 induction r with
 | nil=>rfl
 | cons h t ih=>rw[any_cons,any_cons,ih,h.1]
theorem KV.repl{kvs:List (κ×V)}{vs:List (κ×Value)}(r:KV kvs vs)(k:κ){y:V}{u:Value}(ry:Qr y u) :
 KV (kvs.map fun kv=>if kv.1=k then (kv.1,y) else kv) (vs.map fun kv=>if kv.1=k then (kv.1,u) else kv):=by
 unfold KV at r ⊢
 induction r with
 | nil=>exact .nil
 | @cons p q ps qs h t ih =>
  rw[map_cons,map_cons];refine .cons ?_ ih
  obtain⟨h1,h2⟩:=h
  by_cases e:p.1=k
  ·rw[if_pos e,if_pos (h1.symm.trans e)];exact⟨h1,ry⟩
  ·rw[if_neg e,if_neg (fun z=>e (h1.trans z))];exact⟨h1,h2⟩
theorem KV.put{kvs:List (κ×V)}{vs:List (κ×Value)}(r:KV kvs vs)(k:κ){y:V}{u:Value}(ry:Qr y u):KV (Zz kvs k y) (stored vs k u):=by
 unfold Zz stored;rw[r.any k]
 by_cases e:(vs.any fun kv=>decide (kv.1=k))=true
 ·rw[if_pos e,if_pos e];exact r.repl k ry
 ·rw[if_neg e,if_neg e];exact Paired.snoc r ⟨rfl,ry⟩
theorem KV.drop{kvs:List (κ×V)}{vs:List (κ×Value)}(r:KV kvs vs)(k:κ):KV (Xs kvs k) (without vs k):=by
 unfold KV at r ⊢;unfold Xs without
 induction r with
 | nil=>exact .nil
 | @cons p q ps qs h t ih =>
  obtain⟨h1,h2⟩:=h;rw[filter_cons,filter_cons]
  by_cases e:p.1=k
  ·have a:¬ decide (p.1≠k)=true:=by simp[e]
   have b:¬ decide (q.1≠k)=true:=by simp[h1.symm.trans e]
   rw[if_neg a,if_neg b];exact ih
  ·have e':¬ q.1=k:=fun z=>e (h1.trans z)
   have a:decide (p.1≠k)=true:=by simp[e]
   have b:decide (q.1≠k)=true:=by simp[e']
   rw[if_pos a,if_pos b];exact .cons ⟨h1,h2⟩ ih
theorem KV.length{kvs:List (κ×V)}{vs:List (κ×Value)}(r:KV kvs vs):kvs.length=vs.length:=Paired.length r
theorem YMa(kvs:List (κ×V))(k:κ):(Xs kvs k).length<=kvs.length:=length_filter_le _ _
end
theorem Zpa{P:Program}{w:World}{k:Key}{u:Value}(r:Qr (kV k) u):(QL P w).is k u=true:=by
 cases k with
 | inl i=>obtain⟨t,e⟩:=(show ∃ t,u=Value.int i t from r);subst e;exact Yya P w i t
 | inr x=>obtain⟨t,e⟩:=(show ∃ t,u=Value.str x t from r);subst e;exact Yza P w x t
theorem Jva{P:Program}{w:World}:∀ {ks:List Key} {us:List Value},Qv (ks.map kV) us->ItemsAre (QL P w) ks us
 | [],_,r=>by rw[map_nil]at r;cases r;exact .nil
 | k::ks,_,r=>by
  rw[map_cons]at r;cases r with
  | cons h t=>exact .cons (Zpa h) (Jva t)
abbrev KT(H:Hp):List (List Key×V)->List (List Key×Addr×Value)->Prop:=Paired fun p q=>p.1=q.1/\H q.2.1=some (.tup (p.1.map kV))/\Qr p.2 q.2.2
theorem KT.val{H:Hp}{kvs:List (List Key×V)}{xs:List (List Key×Addr×Value)}(r:KT H kvs xs)(k:List Key):JI (Zc kvs k) ((atKey xs k).map (·.2)):=by
 induction r with
 | nil=>exact True.intro
 | @cons p q ps qs h t ih =>
  obtain⟨h1,_,h2⟩:=h
  by_cases e:p.1=k
  ·have e':q.1=k:=h1.symm.trans e
   have b:atKey (q::qs) k=some q.2:=by simp[atKey,find?_cons,e']
   rw[Zma e,b];exact h2
  ·have e':¬ q.1=k:=fun z=>e (h1.trans z)
   have b:atKey (q::qs) k=atKey qs k:=by simp[atKey,find?_cons,e']
   rw[Zna e,b];exact ih
theorem KT.repl{H:Hp}{kvs:List (List Key×V)}{xs:List (List Key×Addr×Value)}(r:KT H kvs xs)(k:List Key){y:V}{u:Value}(ry:Qr y u) :
 KT H (kvs.map fun kv=>if kv.1=k then (kv.1,y) else kv) (xs.map (putAt k u)):=by
 induction r with
 | nil=>exact .nil
 | @cons p q ps qs h t ih =>
  rw[map_cons,map_cons];refine .cons ?_ ih
  obtain⟨h1,h2,h3⟩:=h;unfold putAt
  by_cases e:p.1=k
  ·rw[if_pos e,if_pos (h1.symm.trans e)];exact⟨h1,h2,ry⟩
  ·rw[if_neg e,if_neg (fun z=>e (h1.trans z))];exact⟨h1,h2,h3⟩
theorem KT.put{H:Hp}{kvs:List (List Key×V)}{xs:List (List Key×Addr×Value)}(r:KT H kvs xs)(k:List Key){b:Addr}{y:V}{u:Value}(hb:H b=some (.tup (k.map kV)))(ry:Qr y u) :
 KT H (Zz kvs k y) (storedH xs k b u):=by
 have e:(kvs.any fun kv=>decide (kv.1=k))=(atKey xs k).isSome:=by
  rw[Zoa,(r.val k).isSome_eq,Option.isSome_map]
 unfold Zz storedH;rw[e]
 by_cases q:(atKey xs k).isSome=true
 ·rw[if_pos q,if_pos q];exact r.repl k ry
 ·rw[if_neg q,if_neg q];exact Paired.snoc r ⟨rfl,hb,ry⟩
theorem KT.keeps{H H':Hp}{kvs:List (List Key×V)}{xs:List (List Key×Addr×Value)}(r:KT H kvs xs)(ht:∀ b ys,H b=some (.tup ys)->H' b=some (.tup ys)):KT H' kvs xs :=
 Paired.mapP r fun _ _ z=>⟨z.1,ht _ _ z.2.1,z.2.2⟩
section
variable{P:Program}{w:World}{H:Hp}{h:Heap}{a:Addr}
theorem XOb{u:HO}(ok:HOk P w H h)(e:Rd H a u):QB P w H h a u:=e.ok ok
theorem YNa{kvs:List (Key×V)}(ok:HOk P w H h)(e:Rd H a (.dK kvs)):kvs.length<=sizeLine/\(a == sysModules)=false/\∃ vs,KV kvs vs/\h.DictOf (QL P w) a vs :=
 show QB P w H h a (.dK kvs) from XOb ok e
theorem QBb{kvs:List (Key×V)}(ok:HOk P w H h)(e:H a=some (.dK kvs)):kvs.length<=sizeLine/\(a == sysModules)=false/\∃ vs,KV kvs vs/\h.DictOf (QL P w) a vs:=YNa ok (.inl e)
theorem XB{ks:List Key}(ok:HOk P w H h)(e:H a=some (.tup (ks.map kV))):(tupleKind (QL P w)).is h ks a:=by
 obtain⟨_,its,r,o,h1,h2,n,h3⟩:=(show QB P w H h a (.tup (ks.map kV)) from ok a _ e)
 exact⟨o,its.toArray,n,h1,h2,h3,by simpa using Jva r⟩
theorem YOa{kvs:List (List Key×V)}(ok:HOk P w H h)(e:Rd H a (.dT kvs)):kvs.length<=sizeLine/\(a == sysModules)=false /\
 ∃ xs,KT H kvs xs/\h.DictOfH (tupleKind (QL P w)) a xs:=by
 obtain⟨z,y,xs,r,o,es,ep,h1,h2,h3,h4,h5⟩:=(show QB P w H h a (.dT kvs) from XOb ok e)
 refine⟨z,y,xs,r,o,es,ep,h1,h2,h3,h4,fun x hx=>?_,h5⟩
 have all:∀ {l:List (List Key×V)} {m:List (List Key×Addr×Value)},KT H l m->∀ x∈m,(tupleKind (QL P w)).is h x.1 x.2.1:=by
  intro l m q
  induction q with
  | nil=>intro x hx;exact nomatch hx
  | @cons p q ps qs hq t ih =>
   intro x hx
   rcases mem_cons.mp hx with e | hx
   ·subst e
    exact XB ok (by rw[<- hq.1];exact hq.2.1)
   ·exact ih x hx
 exact all r x hx
theorem Zrc{kvs:List (List Key×V)}(ok:HOk P w H h)(e:H a=some (.dT kvs)):kvs.length<=sizeLine/\(a == sysModules)=false /\
 ∃ xs,KT H kvs xs/\h.DictOfH (tupleKind (QL P w)) a xs:=YOa ok (.inl e)
end
def Z3a(H:Hp)(a:Addr)(y:V)(r:Option V):Prop :=
 (∃ kvs k,Rd H a (.dK kvs)/\y=kV k/\r=Zc kvs k)\/∃ kvs k b,Rd H a (.dT kvs)/\y=.ref b/\H b=some (.tup (k.map kV))/\r=Zc kvs k
def JUa(H:Hp)(a:Addr)(y v:V)(H':Hp):Prop :=
 (∃ kvs k,H a=some (.dK kvs)/\y=kV k/\kvs.length < sizeLine/\H'=upd H a (.dK (Zz kvs k v))) \/
 ∃ kvs k b,H a=some (.dT kvs)/\y=.ref b/\H b=some (.tup (k.map kV))/\kvs.length < sizeLine/\H'=upd H a (.dT (Zz kvs k v))
theorem Z3a.k{H:Hp}{a:Addr}{kvs:List (Key×V)}{k:Key}(e:H a=some (.dK kvs)):Z3a H a (kV k) (Zc kvs k):=.inl ⟨kvs,k,.inl e,rfl,rfl⟩
theorem JUa.k{H:Hp}{a:Addr}{kvs:List (Key×V)}{k:Key}{v:V}(e:H a=some (.dK kvs))(hl:kvs.length < sizeLine):JUa H a (kV k) v (upd H a (.dK (Zz kvs k v))):=.inl ⟨kvs,k,e,rfl,hl,rfl⟩
section
variable{X:Cx}{pins:YP_}{σ:St}{H:Hp}{s:Shared}{a:Addr}{y v:V}{u r:Value}{o:Option V}{A:Around}{E:YQ_}
theorem Inv.big(I:Inv X pins σ H s):sysModules < s.heap.objs.size:=by
 have h:mainGlobals < s.heap.objs.size:=(I.mod.glob.keeps I.bk).lt;exact Nat.lt_trans (by decide) h
theorem Zjb{Q:YQ_}(hu:A.units+1 < cLine)(I:Inv X pins σ H s)(g:Z3a H a y (some v))(ry:Qr y u)(h:∀ w' s',Inv X pins σ H s'->Qr v w'->Q w' s') :
 wpAny (model X.prog X.w) A (getItem (.ref a) u) Q E s:=by
 rcases g with ⟨kvs,k,e,ey,l⟩ | ⟨kvs,k,b,e,ey,eb,l⟩
 ·subst ey
  obtain⟨z,hd,vs,rel,dd⟩:=YNa I.hok e;obtain⟨w',hw,rw'⟩:=JI.some_of (v:=v) (o:=valueAt vs k) (by rw[l];exact rel.val k)
  exact wpAny_getItem_of (Zpa ry) dd.mapOf hw (h w' _ (I.tok _) rw')
 ·subst ey
  cases (show u=Value.ref b from ry)
  obtain⟨z,hd,xs,rel,dd⟩:=YOa I.hok e;obtain⟨w',hw,rw'⟩:=JI.some_of (v:=v) (o:=(atKey xs k).map (·.2)) (by rw[l];exact rel.val k)
  obtain⟨p,hp,hp2⟩:=Option.map_eq_some_iff.mp hw;refine wpAny_getItem_heap (tupleKind_room_in1 hu) (XB I.hok eb) dd hp ?_
  rw[hp2];exact h w' _ (I.tok _) rw'
theorem Y0b{Q:YQ_}(hu:A.units+1 < cLine)(I:Inv X pins σ H s)(g:Z3a H a y o)(ry:Qr y u)(h:∀ s',Inv X pins σ H s'->Q (.bool (!o.isSome)) s') :
 wpAny (model X.prog X.w) A (compareOp .NotIn u (.ref a)) Q E s:=by
 rcases g with ⟨kvs,k,e,ey,l⟩ | ⟨kvs,k,b,e,ey,eb,l⟩
 ·subst ey
  obtain⟨z,hd,vs,rel,dd⟩:=YNa I.hok e;refine wpAny_notIn_of (Zpa ry) hd dd.mapOf ?_
  rw[<- (rel.val k).isSome_eq,<- l];exact h _ (I.tok _)
 ·subst ey
  cases (show u=Value.ref b from ry)
  obtain⟨z,hd,xs,rel,dd⟩:=YOa I.hok e;refine wpAny_notIn_heap (tupleKind_room_in1 hu) (XB I.hok eb) hd dd ?_
  have q:=(rel.val k).isSome_eq;rw[Option.isSome_map]at q;rw[<- q,<- l];exact h _ (I.tok _)
theorem Xh{h':Heap}{t':Nat}{ob:HO}(I:Inv X pins σ H s)(mu:Mut (H a))(hs:Heap.SameBut a s.heap h')(he:∃ q,h'.get? a=some q)(new:QB X.prog X.w (upd H a ob) h' a ob) :
 Inv X pins σ (upd H a ob) { s with heap:=h',toks:=t' } :=
 I.write (x:=a) (e:=a) mu (.inl rfl) (fun b q hb z=>(hs.2 b hb).trans z) he new
theorem XOa{P:Program}{w:World}{H':Hp}{h':Heap}{kvs:List (Key×V)}{vs:List (Key×Value)}(z:kvs.length<=sizeLine)(hd:(a == sysModules)=false)(rel:KV kvs vs)(dd:h'.DictOf (QL P w) a vs) :
 QB P w H' h' a (.dK kvs):=⟨z,hd,vs,rel,dd⟩
theorem Zkb{H':Hp}{Q:Unit->Shared->Prop}(hu:A.units+1 < cLine)(I:Inv X pins σ H s)(g:JUa H a y v H')(ry:Qr y u)(rv:Qr v r)(h:∀ s',Inv X pins σ H' s'->Q () s') :
 wpAny (model X.prog X.w) A (setItem (.ref a) u r) Q E s:=by
 rcases g with ⟨kvs,k,e,ey,l,eH⟩ | ⟨kvs,k,b,e,ey,eb,l,eH⟩
 ·subst ey eH
  obtain⟨z,hd,vs,rel,dd⟩:=QBb I.hok e;have hz:vs.length<=sizeLine:=by rw[<- rel.length];exact z
  have hl:(Zz kvs k v).length<=sizeLine:=by have:=QZ kvs k v;omega
  refine wpAny_setItem_pairs (hsz:=hz) (Zpa ry) dd fun h' dd' hs=>h _ ?_
  have he:∃ q,h'.get? a=some q:=let ⟨q,_,_,hq,_⟩:=dd';⟨q,hq⟩
  exact Xh I (by rw[e];exact True.intro) hs he (XOa hl hd (rel.put k rv) dd')
 ·subst ey eH
  cases (show u=Value.ref b from ry)
  obtain⟨z,hd,xs,rel,dd⟩:=Zrc I.hok e;have hz:xs.length<=sizeLine:=by rw[<- Paired.length rel];exact z
  have hl:(Zz kvs k v).length<=sizeLine:=by have:=QZ kvs k v;omega
  refine wpAny_setItem_heap (hsz:=hz) (tupleKind_room_in1 hu) (XB I.hok eb) dd fun h' dd' hs=>h _ ?_
  obtain⟨q,es,ep,hq,h2,h3,h4,_,h5⟩:=dd';refine Xh I (by rw[e];exact True.intro) hs ⟨q,hq⟩ ⟨hl,hd,_,(rel.put k eb rv).keeps fun c ys ec=>?_,q,es,ep,hq,h2,h3,h4,h5⟩
  rw[Qd (ZA ec e (fun z=>nomatch z))]
  exact ec
end
section
variable{X:Cx}{pins:YP_}{σ:St}{H:Hp}{s:Shared}{a:Addr}{kvs:List (Key×V)}{k:Key}{u:Value}{A:Around}{E:YQ_}
theorem Zsc{v:V}{more:List Value}{Q:YQ_}(I:Inv X pins σ H s)(e:H a=some (.dK kvs))(ry:Qr (kV k) u)(l:Zc kvs k=some v)(hm:more=[]\/∃ x,more=[x])
 (h:∀ w' s',Inv X pins σ (upd H a (.dK (Xs kvs k))) s'->Qr v w'->Q w' s'):wpAny (model X.prog X.w) A (call (.builtin "dict.pop") (.ref a::u::more)) Q E s:=by
 obtain⟨z,hd,vs,rel,dd⟩:=QBb I.hok e;obtain⟨w',hw,rw'⟩:=JI.some_of (v:=v) (o:=valueAt vs k) (by rw[<- l];exact rel.val k)
 have hp:(keyPart u).isSome=true:=by
  cases k with
  | inl i=>obtain⟨t,q⟩:=(show ∃ t,u=Value.int i t from ry);subst q;rfl
  | inr x=>obtain⟨t,q⟩:=(show ∃ t,u=Value.str x t from ry);subst q;rfl
 have ha:argsOk "dict.pop" ⟨.ref a::u::more,[]⟩:=by
  rcases hm with q | ⟨x,q⟩
  ·subst q;exact F.args_dict_pop_2 _ _
  ·subst q;exact F.args_dict_pop_3 _ _ _
 refine call_meetsIn F.slot_dict_pop dd.typeIs F.entry_dict_pop ha (meets_dict_pop_there (QL X.prog X.w) a (Zpa ry) more hm hp)
  ⟨vs,w',dd,by rw[<- rel.length];exact z,hw,fun h' dd' hs=>h w' _ ?_ rw'⟩
 have he:∃ q,h'.get? a=some q:=let ⟨q,_,_,hq,_⟩:=dd';⟨q,hq⟩
 exact Xh I (by rw[e];exact True.intro) hs he (XOa (Vj (YMa kvs k) z) hd (rel.drop k) dd')
theorem Qqc{r:Value}{Q:YQ_}(I:Inv X pins σ H s)(e:H a=some (.dK kvs))(ry:Qr (kV k) u)(l:Zc kvs k=none)(h:∀ s',Inv X pins σ H s'->Q r s') :
 wpAny (model X.prog X.w) A (call (.builtin "dict.pop") [.ref a,u,r]) Q E s:=by
 obtain⟨z,hd,vs,rel,dd⟩:=QBb I.hok e;have hn:valueAt vs k=none:=JI.none_of (by rw[<- l];exact rel.val k)
 have hp:(keyPart u).isSome=true:=by
  cases k with
  | inl i=>obtain⟨t,q⟩:=(show ∃ t,u=Value.int i t from ry);subst q;rfl
  | inr x=>obtain⟨t,q⟩:=(show ∃ t,u=Value.str x t from ry);subst q;rfl
 exact call_meetsIn F.slot_dict_pop dd.typeIs F.entry_dict_pop (F.args_dict_pop_3 _ _ _) (meets_dict_pop_default (QL X.prog X.w) a (Zpa ry) hd hp r) ⟨vs,dd,hn,h _ (I.tok _)⟩
end
def Qrc(i:Expr):Prop:=∀ ov iv,subscripted i false ov iv=operate [ov,iv] (getItem ov iv)
theorem QCb{prog:Program}{w:World}{A:Around}{E:YQ_}{s:Shared}{env:Env}{value slice:Expr}{pos:Pos}{T id:String}{Q:YQ_}
 (hl:typeLookup (.type T) "__getitem__"=pure (some (.builtin id))) (hs:Qrc slice)
 (h:wpAny (model prog w) A (eval value env) (fun o s₁=>wpAny (model prog w) A (eval slice env) (fun i s₂=>s₂.TypeIs o T/\wpAny (model prog w) A (getItem o i) Q E s₂) E s₁) E s) :
 wpAny (model prog w) A (eval (.Subscript value slice pos) env) Q E s:=by
 refine Subscript_ (wpAny_mono h (fun o s₁ h₁=>wpAny_mono h₁ (fun i s₂ h₂=>?_) fun _ _ x=>x) fun _ _ x=>x)
 obtain⟨hT,h₂⟩:=h₂;unfold subscriptTail;refine Va ?_
 rw[getitemInPython_of_ne hT.not_modules];refine Va (wpAny_specialOf hT hl ?_)
 have fin:wpAny (model prog w) A (subscripted slice false o i) (fun r s₃=>wpAny (model prog w) A (letTemporaryGo value o r >>= fun _=>pure r) Q E s₃) E s₂:=by
  rw[hs o i];exact wpAny_operating (wpAny_mono h₂ (fun r s₃ h₃=>Va (wpAny_letTemporaryGo (Vg h₃))) fun _ _ x=>x)
 first
  | exact Vg (Va fin)
  | exact Va (Vg (Va fin))
  | exact Va fin
theorem YPa{X:Cx}{pins:YP_}{σ:St}{H:Hp}{s:Shared}{a:Addr}{y:V}{o:Option V}(I:Inv X pins σ H s)(g:Z3a H a y o):s.TypeIs (.ref a) "dict":=by
 rcases g with ⟨kvs,k,e,_,_⟩ | ⟨kvs,k,b,e,_,_,_⟩
 ·obtain⟨_,_,vs,_,dd⟩:=YNa I.hok e
  exact dd.typeIs
 ·obtain⟨_,_,xs,_,dd⟩:=YOa I.hok e
  exact dd.typeIs
def XPb(td ty:TE):TE:=fun σ H Q=>td σ H fun x H1=>ty σ H1 fun y H2=>∃ a v,x=.ref a/\Z3a H2 a y (some v)/\Q v H2
def QDb(ty td:TE):TE:=fun σ H Q=>ty σ H fun y H1=>td σ H1 fun x H2=>∃ a o,x=.ref a/\Z3a H2 a y o/\Q (.bl (!o.isSome)) H2
def XQb(td ty tv:TE):TS:=fun D σ H=>tv σ H fun v H1=>td σ H1 fun x H2=>ty σ H2 fun y H3=>∃ a H4,x=.ref a/\JUa H3 a y v H4/\D.nx σ H4
section
variable{X:Cx}{o i e value:Expr}{pos pos' tpos:Pos}{td ty tv:TE}
theorem QEb(hu:X.A.units+1 < cLine)(ho:PE X o td)(hi:PE X i ty)(hs:Qrc i):PE X (.Subscript o i pos) (XPb td ty):=by
 intro pins s σ H Q I h;refine QCb F.slot_dict_getitem.lookup hs (thn (ho pins s σ H _ I h) fun u s1 ⟨x,H1,I1,rx,q1⟩=>thn (hi pins s1 σ H1 _ I1 q1) fun iv s2 hZ=>?_)
 obtain⟨y,H2,I2,ry,a,v,ex,g,q2⟩:=hZ;subst ex;obtain rfl:u=Value.ref a:=rx;exact⟨YPa I2 g,Zjb hu I2 g ry fun w' s3 I3 rw'=>⟨v,H2,I3,rw',q2⟩⟩
theorem Zlb(hu:X.A.units+1 < cLine)(hi:PE X i ty)(ho:PE X o td):PC X .NotIn i o (QDb ty td):=by
 intro pins s σ H Q I h;refine thn (hi pins s σ H _ I h) fun iv s1 ⟨y,H1,I1,ry,q1⟩=>thn (ho pins s1 σ H1 _ I1 q1) fun u s2 hZ=>?_
 obtain⟨x,H2,I2,rx,a,ov,ex,g,q2⟩:=hZ;subst ex;obtain rfl:u=Value.ref a:=rx;exact Y0b hu I2 g ry fun s3 I3=>⟨.bl (!ov.isSome),H2,I3,rfl,q2⟩
theorem XY(hu:X.A.units+1 < cLine)(ho:PE X o td)(hi:PE X i ty)(hv:PE X value tv)(hs:swapsWith value (some (.Subscript o i pos')) pos.line X.env=pure false) :
 PS X (.Assign [.Subscript o i pos'] value pos) (XQb td ty tv):=by
 intro pins s σ H D I h;refine wpAny_Assign_Subscript (thn (hv pins s σ H _ I h) fun r s1 ⟨v,H1,I1,rv,q1⟩=>thn (ho pins s1 σ H1 _ I1 q1) fun u s2 ⟨x,H2,I2,rx,q2⟩=>thn (hi pins s2 σ H2 _ I2 q2) fun iv s3 hZ=>?_) hs
 obtain⟨y,H3,I3,ry,a,H4,ex,g,q3⟩:=hZ;subst ex;obtain rfl:u=Value.ref a:=rx;exact Zkb hu I3 g ry rv fun s4 I4=>⟨σ,H4,I4,q3⟩
end
theorem Jfb{P:Program}{w:World}{H:Hp}(h:Heap)(hb:sysModules < h.objs.size):QB P w H (h.push { cls:=.type "dict",data:=.dict #[] }) h.objs.size (.dK []) :=
 ⟨Vk _,beq_eq_false_iff_ne.mpr (Ne.symm (Nat.ne_of_lt hb)),[],.nil,Heap.DictOf.new h⟩
def Jgb:TE:=fun _ H Q=>∀ p,H p=none->Q (.ref p) (upd H p (.dK []))
section
variable{X:Cx}{pos:Pos}
theorem Zqa:PE X (.Dict [] [] pos) Jgb:=fun pins s σ H Q I h =>
 wpAny_Dict_empty ⟨.ref s.heap.objs.size,_,I.laid (a:=s.heap.objs.size) (o:=.dK []) (t':=s.toks) (fun _ _ q=>Vd _ q) (Ve _) (Jfb s.heap I.big),rfl,h _ (I.hok.fresh (Ve _))⟩
end
def JW(kvs more:List (Key×V)):List (Key×V):=more.foldl (fun acc kv=>Zz acc kv.1 kv.2) kvs
theorem KV.merge:∀ {more:List (Key×V)} {rs:List (Key×Value)} {kvs:List (Key×V)} {vs:List (Key×Value)},KV more rs->KV kvs vs->KV (JW kvs more) (merged vs rs):=by
 intro more rs kvs vs r;unfold KV at r
 induction r generalizing kvs vs with
 | nil=>intro q;exact q
 | @cons p q ps qs h t ih =>
  intro r0;have e:KV (Zz kvs p.1 p.2) (stored vs q.1 q.2):=by
   have:=r0.put p.1 h.2;rw[<- h.1];exact this
  exact ih e
theorem Xt:∀ (more kvs:List (Key×V)),(JW kvs more).length<=kvs.length+more.length
 | [],kvs=>by show kvs.length<=kvs.length+0;omega
 | p::r,kvs=>by
  have h1:=Xt r (Zz kvs p.1 p.2);have h2:=QZ kvs p.1 p.2;show(JW (Zz kvs p.1 p.2) r).length<=_;rw[length_cons];omega
structure M2(X:Cx)(o:Expr)(m:Str)(apos:Pos)(e f:Expr)(cpos:Pos):Prop where
 base:attributeBase o m X.env (eval o X.env)=eval o X.env
 few:((backTo cpos (starEach [e,f] X.env)).all (fun x=>!x.1) && (backToKw cpos (keywordEach [] X.env)).all (fun x=>x.1.isSome)
  && decide (([e,f]:List Expr).length+([]:List Keyword).length+(if ([]:List Keyword).isEmpty then 0 else 1) < 30))=true
 line:(apos.endLine == cpos.line)=true
 trees:backTo cpos (starEach [e,f] X.env)=[(false,eval e X.env),(false,eval f X.env)]
def IsD(H:Hp)(a:Addr):Prop:=(∃ kvs,Rd H a (.dK kvs))\/∃ kvs,Rd H a (.dT kvs)
theorem Jhb{X:Cx}{pins:YP_}{σ:St}{H:Hp}{s:Shared}{a:Addr}(I:Inv X pins σ H s)(d:IsD H a) :
 s.TypeIs (.ref a) "dict"/\(∀ b,Value.ref a=.ref b->∃ ob,s.heap.get? b=some ob/\ob.dict=none)/\(a == sysModules)=false:=by
 rcases d with ⟨kvs,e⟩ | ⟨kvs,e⟩
 ·obtain⟨_,hd,vs,_,dd⟩:=YNa I.hok e
  refine⟨dd.typeIs,fun b q=>?_,hd⟩
  cases q;obtain⟨ob,_,_,h1,h2,_⟩:=dd;exact⟨ob,h1,h2.2.1⟩
 ·obtain⟨_,hd,xs,_,dd⟩:=YOa I.hok e
  refine⟨dd.typeIs,fun b q=>?_,hd⟩
  cases q;obtain⟨ob,_,_,h1,h2,_⟩:=dd;exact⟨ob,h1,h2.2.1⟩
section
variable{X:Cx}{pins:YP_}{σ:St}{H:Hp}{s:Shared}{a:Addr}{y d:V}{u r:Value}{o:Option V}{A:Around}{E:YQ_}
end
def Jib(td ty tx:TE):TE:=fun σ H Q=>td σ H fun x H1=>∃ a,x=.ref a/\IsD H1 a/\ty σ H1 fun y H2=>tx σ H2 fun z H3=>∃ kvs k,H3 a=some (.dK kvs)/\y=kV k /\
 (∀ v,Zc kvs k=some v->Q v (upd H3 a (.dK (Xs kvs k))))/\(Zc kvs k=none->Q z H3)
section
variable{X:Cx}{o e f:Expr}{apos cpos:Pos}{td ty tx:TE}
theorem Jjb(ho:PE X o td)(he:PE X e ty)(hf:PE X f tx)(m:M2 X o "pop" apos e f cpos):PE X (.Call (.Attribute o "pop" apos) [e,f] [] cpos) (Jib td ty tx):=by
 intro pins s σ H Q I h;refine wpAny_Call_method m.base m.few m.line F.plainAttrs_dict F.slot_dict_pop F.type_dict_pop (thn (ho pins s σ H _ I h) fun u s1 hZ=>?_)
 obtain⟨x,H1,I1,rx,a,ex,d,q1⟩:=hZ;subst ex;obtain rfl:u=Value.ref a:=rx;obtain⟨t1,t2,_⟩:=Jhb I1 d;refine⟨t1,t2,?_⟩
 rw[m.trees];refine Calls.callWith_builtin rfl (Calls.evalArgs_plain (Calls.spliced_cons (thn (he pins s1 σ H1 _ I1 q1) fun iv s2 ⟨y,H2,I2,ry,q2⟩ =>
  Calls.spliced_cons (thn (hf pins s2 σ H2 _ I2 q2) fun fv s3 ⟨z,H3,I3,rz,kvs,k,ea,ey,q3,q4⟩=>Calls.spliced_nil ?_))))
 subst ey;cases l:Zc kvs k with
 | some v=>exact Zsc I3 ea ry l (.inr ⟨fv,rfl⟩) fun w' s4 I4 rw'=>⟨v,_,I4,rw',q3 v l⟩
 | none=>exact Qqc I3 ea ry l fun s4 I4=>⟨z,H3,I4,rz,q4 l⟩
end
section
variable{X:Cx}{pins:YP_}{σ:St}{H:Hp}{s:Shared}{a:Addr}{kvs:List (Key×V)}{A:Around}{E:YQ_}
end
section
variable{X:Cx}{pins:YP_}{σ:St}{H:Hp}{s:Shared}{a:Addr}{y:V}{u:Value}{A:Around}{E:YQ_}
end
end L2
namespace Att
open PySem PySem.W PySem.Calls PyProof.Rows
section
variable{prog:Program}{w:World}{A:Around}{E:YQ_}{s:Shared}{K:Frag}
end
end Att
namespace L2
open PySem PySem.Spec PyProof.Rows
section
variable{P:Program}{w:World}{K:W.Frag}{mg:Str->Option Value}{base:Heap}
end
section
variable{X:Cx}
end
section
variable{κ:Type}[DecidableEq κ]
end
theorem YV(env:Env):∀ (l:List (Str×NameKind)) (x:Str),
 (l.map fun(n,k)=>if (k == NameKind.free && env.scope.kind == .function && env.kindOf n == some .cell) then (n,NameKind.cell) else (n,k)).lookup x
  = (l.lookup x).map fun k=>if (k == NameKind.free && env.scope.kind == .function && env.kindOf x == some .cell) then NameKind.cell else k
 | [],_=>rfl
 | (n,k)::r,x=>by
  have ih:=YV env r x;show List.lookup x ((if (k == NameKind.free && env.scope.kind == .function && env.kindOf n == some .cell)=true then (n,NameKind.cell) else (n,k))::_)=_
  cases hx:x == n with
  | true =>
   have e:x=n:=by simpa using hx
   subst e
   by_cases hc:(k == NameKind.free && env.scope.kind == .function && env.kindOf x == some .cell)=true
   ·rw[if_pos hc];simp only[lookup_cons,hx,Option.map_some,hc,if_true]
   ·rw[if_neg hc];simp only[lookup_cons,hx,Option.map_some,if_neg hc]
  | false =>
   by_cases hc:(k == NameKind.free && env.scope.kind == .function && env.kindOf n == some .cell)=true
   ·rw[if_pos hc];simp only[lookup_cons,hx];exact ih
   ·rw[if_neg hc];simp only[lookup_cons,hx];exact ih
theorem XC{env:Env}:∀ (l:List (Str×NameKind)) (acc:List (Str×Addr)),(∀ y∈l,y.2=.free->∃ c,env.cells.lookup y.1=some c)->(∀ y c,acc.lookup y=some c->env.cells.lookup y=some c) ->
 ∃ cl,(forIn l acc fun x (cs:List (Str×Addr))=>(if (x.2 == NameKind.free)=true then (do let a <- cellOf env x.1;pure (ForInStep.yield ((x.1,a)::cs))) else pure (ForInStep.yield cs):Sem (ForInStep (List (Str×Addr)))))=pure cl/\(∀ y c,cl.lookup y=some c->env.cells.lookup y=some c)/\(∀ y c,acc.lookup y=some c->∃ c',cl.lookup y=some c') /\
  ∀ y∈l,y.2=.free->∃ c,cl.lookup y.1=some c
 | [],acc,_,h2=>⟨acc,rfl,h2,fun _ c h=>⟨c,h⟩,fun _ h=>nomatch h⟩
 | (n,k)::r,acc,h1,h2=>by
  by_cases hk:k=.free
  ·subst hk
   obtain⟨c,hc⟩:=h1 (n,.free) mem_cons_self rfl;have h2':∀ y c',((n,c)::acc).lookup y=some c'->env.cells.lookup y=some c':=fun y c' h=>by
    rw[lookup_cons]at h;cases hy:y == n with
    | true=>rw[hy]at h;have e:y=n:=by simpa using hy
            subst e;cases h;exact hc
    | false=>rw[hy]at h;exact h2 y c' h
   obtain⟨cl,e,q1,q2,q3⟩:=XC r ((n,c)::acc) (fun y hy=>h1 y (Vo _ hy)) h2'
   refine⟨cl,?_,q1,fun y c' h=>?_,fun y hy hf=>?_⟩
   ·rw[forIn_cons]
    simp only[beq_self_eq_true,if_true];unfold cellOf;rw[hc];exact e
   ·cases hy:y == n with
    | true=>exact q2 y c (by rw[lookup_cons,hy])
    | false=>exact q2 y c' (by rw[lookup_cons,hy];exact h)
   ·rcases mem_cons.mp hy with e' | hy
    ·subst e'
     exact q2 n c (by simp[lookup_cons])
    ·exact q3 y hy hf
  ·have hb:(k == NameKind.free)=false:=by simpa using hk
   obtain⟨cl,e,q1,q2,q3⟩:=XC r acc (fun y hy=>h1 y (Vo _ hy)) h2
   refine⟨cl,?_,q1,q2,fun y hy hf=>?_⟩
   ·rw[forIn_cons]
    simp only[hb,Bool.false_eq_true,if_false];exact e
   ·rcases mem_cons.mp hy with e' | hy
    ·subst e';exact absurd hf hk
    ·exact q3 y hy hf
theorem XPa(env:Env)(sc:Scope)(h:∀ y∈sc.names,y.2=.free->∃ c,env.cells.lookup y.1=some c) :
 ∃ cl,closureFor sc env=pure cl/\(∀ y c,cl.lookup y=some c->env.cells.lookup y=some c)/\∀ y∈sc.names,y.2=.free->∃ c,cl.lookup y.1=some c:=by
 obtain⟨cl,e,q1,_,q3⟩:=XC (env:=env) sc.names [] h (fun y c z=>by simp at z)
 refine⟨cl,?_,q1,q3⟩
 unfold closureFor;rw[<- e];simp only[bind_pure]
def blk(X:Cx)(sc:Scope)(x:Str)(M:List Str)(cl:List (Str×Addr))(C:Addr)(s:Shared)(H:Hp)(fp:List Addr):Cx :=
 { X with N:=x::M,s₀:=s,H₀:=H,env:=compEnvC sc cl C X.env,outer:=X.stack,ex:=fp,fn:=fun _=>false,pn:=[],xe:=fun _ _=>False }
structure QFb(X:Cx)(sc:Scope)(x:Str)(M:List Str):Prop where
 kind:sc.kind=.function
 nocell:∀ y∈sc.names,y.2≠.cell
 names:∀ y∈sc.names,y.2=.local->sc.names.lookup y.1=some .local
 own:sc.names.lookup x=some .local
 nd:(x::M).Nodup
 len:M.length=X.N.length
 free:∀ y∈sc.names,y.2=.free->X.env.kindOf y.1=some .cell\/X.env.kindOf y.1=some .free
 same:∀ (i:Nat) (y:Str),M[i]?=some y->sc.names.lookup y=some .free->X.N[i]?=some y
 noloc:∀ y∈M,sc.names.lookup y≠some .local
section
variable{X:Cx}
theorem Inv.toBlk{pins:YP_}{σ:St}{H:Hp}{s:Shared}{sc:Scope}{x:Str}{M:List Str}{cl:List (Str×Addr)}{fp:List Addr}{h₁:Heap}{tk:Nat}
 (I:Inv X pins σ H s) (B:QFb X sc x M) (q1:∀ y c,cl.lookup y=some c->X.env.cells.lookup y=some c) (q3:∀ y∈sc.names,y.2=.free->∃ c,cl.lookup y.1=some c)
 (fpk:∀ b∈fp,Qia X pins H b) (fpl:∀ b∈fp,b < s.heap.objs.size) {m:Str->Option Value} (hn:h₁.Ns s.heap.objs.size m) (keep:∀ b o,s.heap.get? b=some o->h₁.get? b=some o) :
 Inv (blk X sc x M cl s.heap.objs.size s H fp) [] (none::σ) H { s with heap:=h₁,toks:=tk }:=by
 have kindOf':∀ y,(blk X sc x M cl s.heap.objs.size s H fp).env.kindOf y=(sc.names.lookup y).map fun k=>if (k == NameKind.free && X.env.scope.kind == .function && X.env.kindOf y == some .cell) then NameKind.cell else k:=fun y=>YV X.env sc.names y
 have isfree:∀ y,((blk X sc x M cl s.heap.objs.size s H fp).env.kindOf y=some .cell\/(blk X sc x M cl s.heap.objs.size s H fp).env.kindOf y=some .free)->sc.names.lookup y=some .free:=fun y hy=>by
  rw[kindOf']at hy;cases e:sc.names.lookup y with
  | none=>rw[e]at hy;simp at hy
  | some k =>
   rw[e]at hy
   by_cases hk:k=.free
   ·rw[hk]
   ·exfalso
    have hb:(k == NameKind.free)=false:=by simpa using hk
    simp only[hb,Bool.false_and,Option.map_some,Bool.false_eq_true,if_false,Option.some.injEq]at hy
    rcases hy with z | z
    ·exact B.nocell (y,k) (PySem.mem_of_lookup e) z
    ·exact hk z
 have ncell:∀ y c,X.env.cells.lookup y=some c->c < s.heap.objs.size:=fun y c e=>by
  obtain⟨v,o,ho,_⟩:=I.cell y c e;exact Vh ho
 have below:∀ b∈fp,Qia X pins H b:=fpk;refine⟨⟨I.ok.mod,B.kind,I.ok.glob,I.ok.blt,Ve _,fun y z c h1 h2=>I.ok.inj y z c (q1 y c h1) (q1 z c h2),fun y hy=>q3 _ (PySem.mem_of_lookup (isfree y hy)) rfl,fun y c h _=>absurd (show false=true from h) Vf,I.ok.hd,I.ok.frames,.inl rfl,
  fun b hb=>?_,I.bs,Vj I.ok.bsz I.sz,fun b o e hb=>?_,fun b hb z=>?_,I.stack,I.stkFree⟩,rfl,I.bare,Un.kept keep,⟨_,hn,fun i y v e1 e2 e3=>?_⟩,fun y c h=>?_,I.hok.fresh (Ve _),fun y c h=>I.freeC y c (q1 y c h),fun p hp=>absurd (show p∈([]:YP_) from hp) (by simp),I.hok.kept keep,?_⟩
 ·exact⟨Nat.ne_of_lt (fpl b hb),fun y c h=>(fpk b hb).2.2.2.2.1 y c (q1 y c h)⟩
 ·rcases(fpk b hb).2.2.2.1 with z | z
  ·exact I.ok.noex b o e z
  ·exact absurd (Vt (Vh e) (Vj I.ok.bsz z)) (Vu _)
 ·rcases mem_cons.mp (I.stkSub b z) with e | z
  ·exact(fpk b hb).2.1 e
  ·exact(fpk b hb).2.2.1 z
 ·cases i with
  | zero=>simp at e2
  | succ i =>
   have e1':M[i]?=some y:=e1;have e2':σ[i]?=some (some v):=e2;have hy:sc.names.lookup y=some .free:=by
    rcases e3 with z | z | z
    ·exfalso
     have z':(blk X sc x M cl s.heap.objs.size s H fp).env.kindOf y=some .local:=z;rw[kindOf']at z';cases e:sc.names.lookup y with
     | none=>rw[e]at z';simp at z'
     | some k =>
      rw[e]at z';simp only[Option.map_some,Option.some.injEq]at z'
      split at z'
      ·cases z'
      ·subst z'
       exact B.noloc y (Vm e1') e
    ·exact isfree y (.inl z)
    ·exact isfree y (.inr z)
   have hk:=B.free _ (PySem.mem_of_lookup hy) rfl;obtain⟨m0,hn0,hl⟩:=I.loc;obtain⟨u,r,l⟩:=hl i y v (B.same i y e1' hy) e2' (hk.elim (fun z=>.inr (.inl z)) fun z=>.inr (.inr z))
   refine⟨u,r,.inr ⟨?_,?_⟩⟩
   ·rcases e3 with z | z | z
    ·exfalso
     have z':(blk X sc x M cl s.heap.objs.size s H fp).env.kindOf y=some .local:=z;rw[kindOf',hy]at z';simp only[Option.map_some,Option.some.injEq]at z'
     split at z' <;> cases z'
    ·exact .inl z
    ·exact .inr z
   ·rcases l with ⟨k,_⟩ | ⟨_,c,e,hc⟩
    ·rcases hk with z | z <;> (have z':X.env.kindOf y=_:=z;rw[k]at z';cases z')
    ·obtain⟨c',e'⟩:=q3 _ (PySem.mem_of_lookup hy) rfl
     have e'':=q1 y c' e';rw[e]at e'';cases e'';obtain⟨o,ho,hd⟩:=hc;exact⟨c,e',o,keep c o ho,hd⟩
 ·obtain⟨v,o,ho,hd⟩:=I.cell y c (q1 y c h)
  exact⟨v,o,keep c o ho,hd⟩
 ·show(none::σ).length=(x::M).length
  rw[length_cons,length_cons,I.len,B.len]
end
def Q0(X:Cx)(ifs:List Expr)(t:TT):Prop :=
 ∀ (pins:YP_) (s:Shared) (σ:St) (H:Hp) (Q:Bool->Hp->Prop),Inv X pins σ H s->t σ H Q ->
  wpAny (model X.prog X.w) X.A (forIn ifs true fun c r=>if r=true then do let ok <- isTrue c X.env (eval c X.env);pure (ForInStep.yield ok) else pure (ForInStep.yield r)) (TP X pins σ Q) X.xe s
def YQa:TT:=fun _ H Q=>Q true H
theorem Xi{X:Cx}:Q0 X [] YQa:=fun _ _ _ H _ I h=>wpAny_tests_nil ⟨H,I,h⟩
theorem QGb{X:Cx}{c:Expr}{t:TT}(h:PT X c t):Q0 X [c] t:=fun pins s σ H Q I q=>wpAny_tests_one (h pins s σ H Q I q)
section
variable{prog:Program}{w:World}{A:Around}{E:YQ_}{R:Result->Shared->Prop}{s:Shared}
theorem YRa{elt target iter:Expr}{ifs:List Expr}{scope:Scope}{pos:Pos}{it acc:Value}{env:Env}(I:Nat->Shared->Prop)
 (turn:∀ n s,I n s->wpAny (model prog w) A (pyNext it) (fun r s₁=>match r with
  | none=>R (.ok .next) s₁
  | some v=>wpAny (model prog w) A (letOwnedTupleGo target it v) (fun _ s₁=>wpAny (model prog w) A (assign target env v) (fun _ s₂ =>
   wpAny (model prog w) A (forIn ifs true fun c r=>if r=true then do let ok <- isTrue c env (eval c env);pure (ForInStep.yield ok) else pure (ForInStep.yield r)) (fun ok s₃ =>
    if ok=true then wpAny (model prog w) A (eval elt env) (fun x s₄ =>
     wpAny (model prog w) A (call (.builtin "list.append") [acc,x]) (fun _ s₅=>∃ m,m < n/\I m s₅) (fun _ _=>False) s₄) (fun _ _=>False) s₃
    else ∃ m,m < n/\I m s₃) (fun _ _=>False) s₂) (fun _ _=>False) s₁) (fun _ _=>False) s₁) (fun _ _=>False) s)
 (n:Nat) (h:I n s) :
 codeAny (model prog w) A (.compLoop (.ListComp elt [⟨target,iter,ifs,0⟩] scope pos) 0 it acc env) R s:=by
 refine codeAny_loop rfl I (fun n s hI=>?_) n h
 show wpAny _ A ((compTurn (.ListComp elt [⟨target,iter,ifs,0⟩] scope pos) 0 it acc env).onRaise (fun x=>do noteFrame x env;theTreesLotGoes x)) _ _ s
 refine wpAny_noted ?_
 rw[compTurn_list];refine Va (wpAny_standAt (Va (wpAny_mono (turn n s hI) (fun r s₁ h₁=>?_) fun _ _ h'=>h'.elim)))
 cases r with
 | none=>exact Vg h₁
 | some v =>
  refine Va (wpAny_mono h₁ (fun _ s₁ h₁=>?_) fun _ _ h'=>h'.elim)
  refine Va (wpAny_mono h₁ (fun _ s₂ h₂=>Va (wpAny_mono h₂ (fun ok s₃ h₃=>?_) fun _ _ h'=>h'.elim)) fun _ _ h'=>h'.elim)
  cases ok with
  | false=>exact Vg ⟨rfl,h₃⟩
  | true =>
   exact Va (Va (wpAny_mono h₃ (fun x s₄ h₄=>Va (wpAny_mono h₄ (fun _ s₅ h₅=>Vg (Vg ⟨rfl,h₅⟩)) fun _ _ h'=>h'.elim)) fun _ _ h'=>h'.elim))
end
def tLc(wi:TI)(tt:TT)(te:TE):TE:=fun σ H Q=>wi σ H fun J H1=>∀ D,H1 D=none->∃ W:Nat->Nat->List V->Hp->Prop,(∃ m,W 0 m [] (upd H1 D (.lst [])))/\∀ i m ys H,W i m ys H ->
 H D=some (.lst ys)/\((J.stop i H/\Q (.ref D) H)\/(J.go i H/\ys.length < sizeLine/\∀ x H',J.yld i H x H'->tt (some x::σ) H' fun b H2=>if b=true then te (some x::σ) H2 fun v H3 =>
  H3 D=some (.lst ys)/\∃ m',m' < m/\W (i+1) m' (ys++[v]) (upd H3 D (.lst (ys++[v]))) else ∃ m',m' < m/\W (i+1) m' ys H2))
section
variable{X:Cx}
theorem XQa{sc:Scope}{x:Str}{px pos:Pos}{iter elt:Expr}{ifs:List Expr}{M:List Str}{wi:TI}{tt:TT}{te:TE}{cl:List (Str×Addr)}{RR:Value->Addr->Result->Shared->Prop}{pins:YP_}{s:Shared}{σ:St}{H:Hp}{Q:VK}
 (hc:X.calm=true) (B:QFb X sc x M) (hi:PI X (.Name x px) iter wi) (ht:∀ C s H fp,Q0 (blk X sc x M cl C s H fp) ifs tt) (he:∀ C s H fp,PE (blk X sc x M cl C s H fp) elt te)
 (q1:∀ y c,cl.lookup y=some c->X.env.cells.lookup y=some c) (q3:∀ y∈sc.names,y.2=.free->∃ c,cl.lookup y.1=some c)
 (I:Inv X pins σ H s) (h:tLc wi tt te σ H Q)
 (hRR:∀ (D C:Addr) (s':Shared) (m:Str->Option Value) (H':Hp),Inv X pins σ H' s'->s'.heap.Ns C m->Qia X pins H' C->Q (.ref D) H'->RR (.ref D) C (.ok .next) s') :
 wpAny (model X.prog X.w) X.A (eval iter X.env) (fun xv s₁=>wpAny (model X.prog X.w) X.A (pyIter xv) (fun it s₂=>wpAny (model X.prog X.w) X.A (newList []) (fun acc s₃ =>
  wpAny (model X.prog X.w) X.A (newFunctionEnv sc X.env.globals cl [] X.env.qual none .none (some X.env)) (fun cenv s₄ =>
   codeAny (model X.prog X.w) X.A (.compStart (.ListComp elt [⟨.Name x px,iter,ifs,0⟩] sc pos) 0 it acc { cenv with scope:=relabel sc X.env }) (RR acc cenv.locals) s₄) X.xe s₃) X.xe s₂) X.xe s₁) X.xe s:=by
 refine thn (hi pins s σ H _ I h) fun v s1 h1=>thn h1 fun itv s2 h2=>?_
 obtain⟨it,fp,tn,J,H2,rfl,I2,T,st2,f2,q2⟩:=h2;refine wpAny_newObj_type (wpAny_newFunctionEnv B.nocell (by intro y hy;simp at hy) (fun h₁ hns₁ hsb₁=>?_) B.kind)
 dsimp only at hns₁ hsb₁ ⊢;obtain⟨W,⟨m0,w0⟩,turn⟩:=q2 s2.heap.objs.size I2.fresh;have I3:Inv X pins σ (upd H2 s2.heap.objs.size (.lst [])) { s2 with heap:=s2.heap.push { cls:=.type "list",data:=.seq ([]:List Value).toArray },toks:=s2.toks }:=I2.lnew .nil (Vk _)
 generalize hs3:({ s2 with heap:=s2.heap.push { cls:=.type "list",data:=.seq ([]:List Value).toArray },toks:=s2.toks }:Shared)=s3 at I3
 have eh:s2.heap.push { cls:=.type "list",dict:=none,data:=.seq ([]:List Value).toArray }=s3.heap:=by rw[<- hs3]
 have fpl:∀ b∈fp,b < s2.heap.objs.size:=fun b hb=>by
  obtain⟨o,e,_⟩:=T.obj _ _ st2 b hb;exact Vh e
 have sz:s3.heap.objs.size=s2.heap.objs.size+1:=by rw[<- eh,Heap.size_push]
 have fpl3:∀ b∈fp,b < s3.heap.objs.size:=fun b hb=>by rw[sz];exact Nat.lt_succ_of_lt (fpl b hb)
 have fp3:∀ b∈fp,Qia X pins (upd H2 s2.heap.objs.size (.lst [])) b:=fun b hb=>⟨by rw[Qd (Nat.ne_of_lt (fpl b hb))];exact(f2 b hb).1,(f2 b hb).2⟩
 rw[eh]at hns₁ hsb₁ ⊢;have keep:∀ b o,s3.heap.get? b=some o->h₁.get? b=some o:=fun b o e=>hsb₁.extBut b o (Nat.ne_of_lt (Vh e)) (Vd _ e)
 have IB:=I3.toBlk (tk:=s2.toks+([]:List (Str×Value)).length) B q1 q3 fp3 fpl3 hns₁ keep;have st4:tn 0 h₁:=T.keep _ _ _ st2 fun b hb o e=>keep b o (by rw[<- eh];exact Vd _ e)
 have es:({ s3 with heap:=h₁,toks:=s2.toks+([]:List (Str×Value)).length }:Shared)={ s2 with heap:=h₁,toks:=s2.toks+([]:List (Str×Value)).length }:=by rw[<- hs3]
 rw[es]at IB;have hx':(blk X sc x M cl s3.heap.objs.size s3 (upd H2 s2.heap.objs.size (.lst [])) fp).env.scope.names.lookup x=some .local:=lookup_relabel_local B.own;have hg:PG (blk X sc x M cl s3.heap.objs.size s3 (upd H2 s2.heap.objs.size (.lst [])) fp) (.Name x px) (Qob 0):=Za B.nd rfl (.inl hx') (.inr hx');have he':=he s3.heap.objs.size s3 (upd H2 s2.heap.objs.size (.lst [])) fp;have ht':=ht s3.heap.objs.size s3 (upd H2 s2.heap.objs.size (.lst [])) fp;have loop:∀ s₄:Shared,s₄={ s2 with heap:=h₁,toks:=s2.toks+([]:List (Str×Value)).length } ->
  codeAny (model X.prog X.w) X.A (.compLoop (.ListComp elt [⟨.Name x px,iter,ifs,0⟩] sc pos) 0 (.ref it) (.ref s2.heap.objs.size) (compEnvC sc cl s3.heap.objs.size X.env)) (RR (.ref s2.heap.objs.size) s3.heap.objs.size) s₄:=by
  rintro s₄ rfl;refine YRa (fun n s'=>∃ i ys o H',Inv (blk X sc x M cl s3.heap.objs.size s3 (upd H2 s2.heap.objs.size (.lst [])) fp) [] (o::σ) H' s'/\tn i s'.heap/\(∀ b∈fp,H' b=none)/\W i n ys H') ?_ m0
   ⟨0,[],none,_,IB,st4,fun b hb=>(fp3 b hb).1,w0⟩
  rintro n s' ⟨i,ys,o,H',I',st',fr',w'⟩;have fpB:∀ {H':Hp} {pl:YP_},(∀ b∈fp,H' b=none)->∀ b∈fp,Qia (blk X sc x M cl s3.heap.objs.size s3 (upd H2 s2.heap.objs.size (.lst [])) fp) [] H' b:=fun {H' pl} hn b hb =>
   ⟨hn b hb,Nat.ne_of_lt (fpl3 b hb),fun z=>I'.ok.exfs b hb z,.inl hb,fun y c hy=>(fp3 b hb).2.2.2.2.1 y c (q1 y c hy),fun p hp=>absurd (show p∈([]:YP_) from hp) (by simp)⟩
  obtain⟨hD,⟨stop,q⟩ | ⟨go,hlen,step⟩⟩:=turn i n ys H' w'
  ·refine wpAny_mono (T.done (blk X sc x M cl s3.heap.objs.size s3 (upd H2 s2.heap.objs.size (.lst [])) fp) rfl rfl rfl hc i [] s' (o::σ) H' (fun _ _=>False) I' (fpB (pl:=[]) fr') st' stop) (fun r s4 hZ=>?_) fun _ _ f=>f.elim
   obtain⟨hr,I4⟩:=hZ;subst hr;obtain⟨m,hn,_⟩:=I4.loc;refine hRR _ _ s4 m H' (I3.call' (ch:=fp) I4.os I4.base I4.hok I4.bare fun b hb=>⟨(fp3 b hb).2.2.2.1,(fp3 b hb).2.1,(fp3 b hb).2.2.2.2.1,(fp3 b hb).2.2.2.2.2⟩) hn (I3.fpOk (Ve _) I4.free) q
  ·refine wpAny_mono (T.item (blk X sc x M cl s3.heap.objs.size s3 (upd H2 s2.heap.objs.size (.lst [])) fp) rfl rfl rfl hc i [] s' (o::σ) H' (fun _ _=>False) I' (fpB (pl:=[]) fr') st' go) (fun r s4 hZ=>?_) fun _ _ f=>f.elim
   obtain⟨u,hr,h4⟩:=hZ;subst hr;refine wpAny_mono h4 (fun _ s5 hZ=>?_) fun _ _ f=>f.elim
   obtain⟨y,H5,I5,r5,y5,st5,fr5⟩:=hZ;have I5':=I5.pinned (fpB (pl:=[]) fr5) (T.obj _ _ st5);refine wpAny_mono (hg _ s5 (o::σ) H5 y u (fun σ' H'=>σ'=some y::σ/\H'=H5) I5' r5 ⟨rfl,rfl⟩) (fun _ s6 hZ=>?_) fun _ _ f=>f.elim
   obtain⟨σ6,H6,I6,e6,e6'⟩:=hZ;subst e6 e6';have again:∀ {H7:Hp} {s7:Shared} {zs:List V} {m':Nat},Inv (blk X sc x M cl s3.heap.objs.size s3 (upd H2 s2.heap.objs.size (.lst [])) fp) ([]++Zfa fp s5.heap) (some y::σ) H7 s7->m' < n->W (i+1) m' zs H7 ->
    ∃ m,m < n/\∃ i ys o H',Inv (blk X sc x M cl s3.heap.objs.size s3 (upd H2 s2.heap.objs.size (.lst [])) fp) [] (o::σ) H' s7/\tn i s7.heap/\(∀ b∈fp,H' b=none)/\W i m ys H':=fun {H7 s7 zs m'} I7 hm w7=>by
    refine⟨m',hm,i+1,zs,some y,H7,I7.unpinned,T.keep _ _ _ st5 fun b hb o e=>(I7.pin (b,o) (Vp _ (Vp _ (Yf hb e)))).1,fun b hb=>?_,w7⟩
    obtain⟨o,e,d⟩:=T.obj _ _ st5 b hb;exact(I7.pin (b,o) (Vp _ (Vp _ (Yf hb e)))).2.1
   refine wpAny_mono (ht' _ s6 (some y::σ) H6 _ I6 (step y H6 y5)) (fun b s7 hZ=>?_) fun _ _ f=>f.elim
   obtain⟨H7,I7,q7⟩:=hZ;cases b with
   | false =>
    rw[if_neg Vf]at q7 ⊢;obtain⟨m',hm,w7⟩:=q7;exact again I7 hm w7
   | true =>
    rw[if_pos rfl]at q7 ⊢;refine wpAny_mono (he' _ s7 (some y::σ) H7 _ I7 q7) (fun u8 s8 hZ=>?_) fun _ _ f=>f.elim
    obtain⟨v8,H8,I8,r8,hD8,m',hm,w8⟩:=hZ;refine wpAny_mono (ZC (X:=blk X sc x M cl s3.heap.objs.size s3 (upd H2 s2.heap.objs.size (.lst [])) fp) _ s8 (some y::σ) H8 (.ref s2.heap.objs.size) [v8] (.ref s2.heap.objs.size) [u8] (fun _ H9=>H9=upd H8 s2.heap.objs.size (.lst (ys++[v8]))) I8 rfl (.cons r8 .nil) ⟨_,ys,v8,rfl,rfl,hD8,hlen,rfl⟩) (fun _ s9 hZ=>?_) fun _ _ f=>f.elim
    obtain⟨_,H9,I9,_,e9⟩:=hZ;subst e9;exact again I9 hm w8
 exact codeAny_compStart_list (loop _ rfl) (T.self X.A 0 _ _ _ st4 (loop _ rfl))
theorem Jc{sc:Scope}{x:Str}{px pos:Pos}{iter elt:Expr}{ifs:List Expr}(M:List Str){wi:TI}{tt:TT}{te:TE}(hc:X.calm=true)(B:QFb X sc x M)(hi:PI X (.Name x px) iter wi)
 (ht:∀ cl C s H fp,Q0 (blk X sc x M cl C s H fp) ifs tt) (he:∀ cl C s H fp,PE (blk X sc x M cl C s H fp) elt te) (hs:∀ x,foldedSetIterable iter X.env x=pure x:=by intro _;rfl) :
 PE X (.ListComp elt [⟨.Name x px,iter,ifs,0⟩] sc pos) (tLc wi tt te):=by
 intro pins s σ H Q I h;obtain⟨cl,hcl,q1,q3⟩:=XPa X.env sc (fun y hy hf=>I.ok.has y.1 (B.free y hy hf))
 rw[eval_ListComp];refine wpAny_comprehension_free (use:=none) rfl hs hcl B.kind B.names (XQa (RR:=fun acc C=>compPost (model X.prog X.w) X.A X.xe none (EP X pins σ Q) acc C) hc B hi (ht cl) (he cl) q1 q3 I h ?_)
 intro D C s' m H' I' hn fpC q;exact⟨m,hn,fun h' sb=>⟨.ref D,H',I'.turned (t':=s'.toks) (fun b o hb e=>sb.extBut b o hb e) fpC.1 fpC.2.1 fpC.2.2.2.1 fpC.2.2.2.2.1 fpC.2.2.2.2.2,rfl,q⟩⟩
end
end L2
end
section
namespace HT
open PySem PyProof.Rows L2
def Yl:List V->List V->Option Bool
 | [],[]=>some false
 | [],_::_=>some true
 | _::_,[]=>some false
 | .int i::xs,.int j::ys=>if i=j then Yl xs ys else some (decide (i < j))
 | .str i::xs,.str j::ys=>if i=j then Yl xs ys else some (decide (i.cps.toList < j.cps.toList))
 | _::_,_::_=>none
theorem JVa:Yl [] []=some false:=rfl
theorem Z4a(y:V)(ys:List V):Yl [] (y::ys)=some true:=rfl
theorem Z5a(x:V)(xs:List V):Yl (x::xs) []=some false:=by cases x <;> rfl
theorem Jkb(A:Around)(s:Shared)(a:Str)(t:Tok)(c:Str)(u:Tok)(prog:Program)(w:World)(E:YQ_)(Q:YQ_)(h:Q (.bool (decide (a.cps.toList < c.cps.toList))) s) :
 wpAny (model prog w) A (richCompare .Lt (.str a t) (.str c u)) Q E s :=
 (lt_str h:wpAny (model prog w) A (compareOp .Lt (.str a t) (.str c u)) Q E s)
section
open PySem.SeqAt
open PySem.AutoSeq1 (wpAny_loadPart')
open PySem.MeetsSeq PySem.MeetsSeq2 PySem.MeetsSeq3
theorem XRa(l b:Addr)(items items2:Array Value)(n n2:Nat)(dd dd2:Option Addr)(sl sl2:Array (Option Value))(xs ys:List V)(hi:Qv xs items.toList)(hj:Qv ys items2.toList)(r:Bool)(hr:Yl xs ys=some r) :
 Meets (Builtin.«tuple.__lt__» ⟨[.ref l,.ref b],[]⟩)
  (fun _ R s=>s.heap.get? l=some { cls:=.type "tuple",dict:=dd,data:=.seq items n,slots:=sl }/\s.heap.get? b=some { cls:=.type "tuple",dict:=dd2,data:=.seq items2 n2,slots:=sl2 } /\
   R (.ok (.ret (.bool r))) s) :=
 .of_wp fun prog w A R s h=>by
  obtain⟨hp,g,d,tk,os⟩:=s;obtain⟨hl,hb,h⟩:=h;have f2:=AutoSeq1.sub_tuple_tuple;have z1:items.size=xs.length:=by rw[hi.length];simp
  have z2:items2.size=ys.length:=by rw[hj.length];simp
  wp_walk using wpAny_loadPart' hl,wpAny_loadPart' hb,wpAny_forIn_list _ (fun rest b s'=>b.1=none/\s'=⟨hp,g,d,tk,os⟩/\∃ (vs ws:List Value) (xs' ys':List V),rest=vs.zip ws /\
   Qv xs' vs/\Qv ys' ws/\xs'.length+items2.size=ys'.length+items.size/\Yl xs' ys'=some r) _
  case turn =>
   rintro⟨y,x⟩ rest b s' ⟨hb',rfl,vs,ws,xs',ys',hz,hvi,hwi,hlen,hR⟩;cases hvi with
   | nil=>rw[zip_nil_left]at hz;cases hz
   | cons ra hvi' =>
    cases hwi with
    | nil=>rw[zip_nil_right]at hz;cases hz
    | cons rb hwi' =>
     rename_i a1 v1 l1 l2 a2 v2 l3 l4;rw[zip_cons_cons]at hz;injection hz with hyx hrest
     injection hyx with hy hx
     subst hy hx;simp only[length_cons]at hlen;cases a1 with
     | int i =>
      cases a2 with
      | int j =>
       obtain⟨t,rfl⟩:=ra;obtain⟨u,rfl⟩:=rb;simp only[Yl]at hR;obtain⟨e,he,hiff⟩:=Jab A.in1 ⟨hp,g,d,tk,os⟩ i t j u;refine Va (he prog w _ _ ?_)
       cases e with
       | true =>
        rw[if_pos (hiff.mp rfl)]at hR
        wp_walk
        exact⟨rfl,rfl,_,_,_,_,hrest,hvi',hwi',by omega,hR⟩
       | false =>
        rw[if_neg (fun q=>absurd (hiff.mpr q) Vf)]at hR
        cases hR;have hri:=Jbb A.in1 ⟨hp,g,d,tk,os⟩ i t j u prog w
        wp_walk using hri
        exact⟨_,rfl,by simpa using h⟩
      | _=>simp[Yl]at hR
     | str i =>
      cases a2 with
      | str j =>
       obtain⟨t,rfl⟩:=ra;obtain⟨u,rfl⟩:=rb;simp only[Yl]at hR;refine Va (SeqAt.EqAt.str_str (A:=A.in1) (s:=⟨hp,g,d,tk,os⟩) i t j u prog w _ _ ?_)
       cases e:(i == j) with
       | true =>
        rw[if_pos (by simpa using e)]at hR
        wp_walk
        exact⟨rfl,rfl,_,_,_,_,hrest,hvi',hwi',by omega,hR⟩
       | false =>
        rw[if_neg (by simpa using e)]at hR
        cases hR;have hri:=Jkb A.in1 ⟨hp,g,d,tk,os⟩ i t j u prog w
        wp_walk using hri
        exact⟨_,rfl,by simpa using h⟩
      | _=>simp[Yl]at hR
     | _=>cases a2 <;> simp[Yl]at hR
  case fin =>
   rintro⟨b1,b2⟩ s' ⟨hb',rfl,vs,ws,xs',ys',hz,hvi,hwi,hlen,hR⟩;simp only at hb';subst hb';have hv:r=decide (items.size < items2.size):=by
    cases hvi with
    | nil =>
     cases hwi with
     | nil =>
      simp only[length_nil]at hlen;rw[JVa]at hR;cases hR;exact(decide_eq_false (by omega)).symm
     | cons c hw =>
      simp only[length_nil,length_cons]at hlen;rw[Z4a]at hR;cases hR;exact(decide_eq_true (by omega)).symm
    | cons a hv =>
     cases hwi with
     | nil =>
      simp only[length_nil,length_cons]at hlen;rw[Z5a]at hR;cases hR;exact(decide_eq_false (by omega)).symm
     | cons c hw =>
      rw[zip_cons_cons]at hz;cases hz
   rw[hv]at h
   wp_walk
   exact⟨_,rfl,by simpa[Builtin.Tuple.tupleCompareSizes]using h⟩
  case h =>
   exact⟨rfl,rfl,items.toList,items2.toList,xs,ys,rfl,hi,hj,by omega,hr⟩
end
section
variable{prog:Program}{w:World}{A:Around}{E:YQ_}{s:Shared}
theorem Y1b{l b:Addr}{items items2:Array Value}{xs ys:List V}{r:Bool}{Q:YQ_}(hl:IsTup s.heap l items)(hb:IsTup s.heap b items2)(hi:Qv xs items.toList)(hj:Qv ys items2.toList)(hr:Yl xs ys=some r)
 (hu:A.units < cLine) (h:Q (.bool r) s):wpAny (model prog w) A (compareOp .Lt (.ref l) (.ref b)) Q E s:=by
 obtain⟨⟨cls,dd,data,sl⟩,ho,hc,n,hd⟩:=id hl;obtain⟨⟨cls2,dd2,data2,sl2⟩,ho2,hc2,n2,hd2⟩:=id hb;simp only at hc hd hc2 hd2;subst hc hd hc2 hd2;exact richCompare_meets_room (op:=.Lt) ⟨_,ho,rfl⟩ ⟨_,ho2,rfl⟩ F.slot_tuple_lt F.entry_tuple_lt (F.args_tuple_lt_2 _ _) (XRa l b items items2 n n2 dd dd2 sl sl2 xs ys hi hj r hr)
  ⟨ho,ho2,show Value.bool r≠Value.notImplemented/\Q (.bool r) s from⟨(fun x=>nomatch x),h⟩⟩ hu
end
end HT
namespace L2
open PySem PySem.Spec PyProof.Rows
section
variable{X:Cx}
def Ztc:V->Option Value
 | .ty n=>some (.type n)
 | .ref a=>some (.ref a)
 | _=>none
def Zmb(K:W.Frag):List V->Hp->VK->Prop:=fun xs H Q=>∃ x c t cv b,xs=[x,c]/\Ztc c=some cv/\XT K H x t/\W.kitOne K t cv=some b/\Q (.bl b) H
theorem JO:Xp X (.builtin "isinstance") (Zmb X.K):=by
 intro pins s σ H xs us Q I r h;obtain⟨x,c,t,cv,b,rfl,hc,ty,e,q⟩:=h;obtain⟨u,w',rfl,rx,rc⟩:=Zic r;have ec:w'=cv:=by
  cases c <;> simp[Ztc]at hc
  ·subst hc;exact rc
  ·subst hc;exact rc
 subst ec;exact Zfb I rx ty e fun tk=>⟨.bl b,H,I.tok tk,rfl,q⟩
def Zuc(K:W.Frag):R2:=fun x y H Q=>∃ a b xs ys r,x=.ref a/\y=.ref b/\SqT K H a xs/\SqT K H b ys/\HT.Yl xs ys=some r/\Q (.bl r) H
theorem Qsc(hu:X.A.units < cLine):OpR X (compareOp .Lt) (Zuc X.K):=by
 intro pins s σ H x y v u Q I rx ry h;obtain⟨a,b,xs,ys,r,rfl,rfl,ha,hb,e,q⟩:=h;cases rx;cases ry;obtain⟨its,r1,p1,_⟩:=I.tuple ha;obtain⟨its2,r2,p2,_⟩:=I.tuple hb;exact HT.Y1b p1 p2 (by simpa using r1) (by simpa using r2) e hu ⟨.bl r,H,I,rfl,q⟩
def Its(z:Str):It:=⟨fun i _=>i < z.length,fun i H x H'=>H'=H/\∃ c,z.cps[i]?=some c/\x=.str ⟨#[c]⟩,fun i _=>z.length<=i⟩
theorem Znb{P:Program}{w:World}{K:W.Frag}{tg:Expr}(it:Addr)(z:Str)(t:Tok):XAa P w K tg (Its z) [it] it (fun i h=>h.IsStrIter it "str_ascii_iterator" z t i) where
 mem:=by simp
 obj:=fun i h st b hb=>by
  have e:b=it:=by simpa using hb
  subst e;obtain⟨o,e,c,d⟩:=st;exact⟨o,e,fun v z=>by rw[d]at z;cases z⟩
 keep:=fun i h h' st k=>let ⟨o,ho,r⟩:=st;⟨o,k it (by simp) o ho,r⟩
 item:=by
  intro X hP hw hK hc i pins s σ H E I hf st hg;subst hP hw hK;obtain⟨f0,f1,f2,f3,f4,f5⟩:=hf it (by simp)
  have W:=Walks.strAscii (prog:=X.prog) (w:=X.w) (I.ok.hd hc) it z t;refine W.item i s _ _ hg st fun v h' tk hv st' kk=>?_
  obtain⟨c,u,hcu,rfl⟩:=hv;have I1:Inv X pins σ H { s with heap:=h',toks:=tk }:=I.turned (fun b o hb e=>kk b o (by simpa using hb) e) f0 f1 f3 f4 f5
  obtain⟨o,e,c',d⟩:=id st';exact⟨_,rfl,Jna (s:={ s with heap:=h',toks:=tk }) e c' d (by decide) ⟨.str ⟨#[c]⟩,H,I1,⟨_,rfl⟩,⟨rfl,c,hcu,rfl⟩,st',fun b hb=>(hf b hb).1⟩⟩
 done:=by
  intro X hP hw hK hc i pins s σ H E I hf st hg;subst hP hw hK;obtain⟨f0,f1,f2,f3,f4,f5⟩:=hf it (by simp)
  have hg':z.length<=i:=hg;exact wpAny_pyNext_ascii_end (I.ok.hd hc) st (by simpa[Str.length]using hg') fun h' eb=>⟨rfl,I.turned (t':=s.toks) (fun b o hb e=>eb b o hb e) f0 f1 f3 f4 f5⟩
 self:=fun _ _ _ _ _ st h=>wpAny_pyIter_striter_ascii st h
theorem Zob{P:Program}{w:World}{K:W.Frag}{tg:Expr}(it:Addr)(z:Str)(t:Tok):XAa P w K tg (Its z) [it] it (fun i h=>h.IsStrIter it "str_iterator" z t i) where
 mem:=by simp
 obj:=fun i h st b hb=>by
  have e:b=it:=by simpa using hb
  subst e;obtain⟨o,e,c,d⟩:=st;exact⟨o,e,fun v z=>by rw[d]at z;cases z⟩
 keep:=fun i h h' st k=>let ⟨o,ho,r⟩:=st;⟨o,k it (by simp) o ho,r⟩
 item:=by
  intro X hP hw hK hc i pins s σ H E I hf st hg;subst hP hw hK;obtain⟨f0,f1,f2,f3,f4,f5⟩:=hf it (by simp)
  have W:=Walks.strWide (prog:=X.prog) (w:=X.w) (I.ok.hd hc) it z t;refine W.item i s _ _ hg st fun v h' tk hv st' kk=>?_
  obtain⟨c,u,hcu,rfl⟩:=hv;have I1:Inv X pins σ H { s with heap:=h',toks:=tk }:=I.turned (fun b o hb e=>kk b o (by simpa using hb) e) f0 f1 f3 f4 f5
  obtain⟨o,e,c',d⟩:=id st';exact⟨_,rfl,Jna (s:={ s with heap:=h',toks:=tk }) e c' d (by decide) ⟨.str ⟨#[c]⟩,H,I1,⟨_,rfl⟩,⟨rfl,c,hcu,rfl⟩,st',fun b hb=>(hf b hb).1⟩⟩
 done:=by
  intro X hP hw hK hc i pins s σ H E I hf st hg;subst hP hw hK;obtain⟨f0,f1,f2,f3,f4,f5⟩:=hf it (by simp)
  have hg':z.length<=i:=hg;exact wpAny_pyNext_wide_end (I.ok.hd hc) st (by simpa[Str.length]using hg') fun h' eb=>⟨rfl,I.turned (t':=s.toks) (fun b o hb e=>eb b o hb e) f0 f1 f3 f4 f5⟩
 self:=fun _ _ _ _ _ st h=>wpAny_pyIter_striter_wide st h
end
section
variable{X:Cx}
def Qtc(tl:TE):TI:=fun σ H R=>tl σ H fun x H1=>∃ z,x=.str z/\R (Its z) H1
theorem Quc{tg l:Expr}{tl:TE}(hl:PE X l tl):PI X tg l (Qtc tl):=by
 intro pins s σ H R I h;refine thn (hl pins s σ H _ I h) fun v s1 hZ=>?_
 obtain⟨x,H1,I1,r1,q1⟩:=hZ;obtain⟨z,e,q⟩:=q1;subst e;obtain⟨t,rfl⟩:=r1;cases ha:z.cps.all (· < 128)
 ·refine wpAny_pyIter_wide ha ?_
  refine⟨s1.heap.objs.size,[s1.heap.objs.size],_,_,H1,rfl,I1.kept (t':=s1.toks) fun b o e=>Vd _ e,Zob _ z t,⟨_,Vi _ rfl,rfl,rfl⟩,fun b hb=>?_,q⟩
  have e:b=s1.heap.objs.size:=by simpa using hb
  subst e;exact I1.fpOk (Ve _) (I1.hok.fresh (Ve _))
 ·refine wpAny_pyIter_ascii ha ?_
  refine⟨s1.heap.objs.size,[s1.heap.objs.size],_,_,H1,rfl,I1.kept (t':=s1.toks) fun b o e=>Vd _ e,Znb _ z t,⟨_,Vi _ rfl,rfl,rfl⟩,fun b hb=>?_,q⟩
  have e:b=s1.heap.objs.size:=by simpa using hb
  subst e;exact I1.fpOk (Ve _) (I1.hok.fresh (Ve _))
theorem Y2b{z:Str}{g:TG}{tb:TS}{D:Jb}{σ:St}{H:Hp}(Pv:Nat->St->Hp->Prop)(h0:Pv 0 σ H)
 (hs:∀ i c σ H,z.cps.toList[i]?=some c->Pv i σ H->g (.str ⟨#[c]⟩) σ H fun σ2 H2=>tb { D with nx:=Pv (i+1),ct:=Pv (i+1),bk:=D.nx } σ2 H2) (hd:∀ σ H,Pv z.length σ H->D.nx σ H) :
 ∃ W:Nat->Nat->St->Hp->Prop,(∃ m,W 0 m σ H)/\∀ i m σ H,W i m σ H ->
  ((Its z).stop i H/\D.nx σ H)\/((Its z).go i H/\∃ N:St->Hp->Prop,(∀ σ' H',N σ' H'->∃ m',m' < m/\W (i+1) m' σ' H')/\∀ x H',(Its z).yld i H x H'->g x σ H' fun σ2 H2=>tb { D with nx:=N,ct:=N,bk:=D.nx } σ2 H2):=by
 refine⟨fun i m σ H=>m=z.length - i/\i<=z.length/\Pv i σ H,⟨z.length,by simp,Vk _,h0⟩,?_⟩
 rintro i m σ H ⟨rfl,hi,p⟩
 by_cases hlt:i < z.length
 ·refine .inr ⟨hlt,Pv (i+1),fun σ' H' p'=>⟨z.length - (i+1),by omega,rfl,hlt,p'⟩,fun x H' y=>?_⟩
  obtain⟨e,c,hc,e2⟩:=y;subst e e2;exact hs i c σ _ (by simpa using hc) p
 ·have e:i=z.length:=by omega
  subst e;exact .inl ⟨Ve _,hd σ H p⟩
theorem Jlb{x:V}(f:Xq x=true):eqV x x=true:=by cases x <;> simp[eqV,Xq]at *
end
theorem Qla:bootBuiltins "len"=some (.builtin "len"):=by decide +kernel
theorem Z4:bootBuiltins "isinstance"=some (.builtin "isinstance"):=by decide +kernel
theorem Qvc:bootBuiltins "ord"=some (.builtin "ord"):=by decide +kernel
theorem JWa:bootBuiltins "str"=some (.type "str"):=by decide +kernel
theorem Qwc:bootBuiltins "int"=some (.type "int"):=by decide +kernel
theorem Ym:bootBuiltins "list"=some (.type "list"):=by decide +kernel
theorem Zra:bootBuiltins "tuple"=some (.type "tuple"):=by decide +kernel
def Zvc(dsc sc:Scope)(x:Str)(N M:List Str):Bool :=
 decide (sc.kind=.function) && sc.names.all (fun y=>decide (y.2≠.cell)) && sc.names.all (fun y=>decide (y.2=.local->sc.names.lookup y.1=some .local)) && decide (sc.names.lookup x=some .local) && decide ((x::M).Nodup) &&
 decide (M.length=N.length) && sc.names.all (fun y=>decide (y.2=.free->dsc.names.lookup y.1=some .cell\/dsc.names.lookup y.1=some .free)) &&
 (List.range M.length).all (fun i=>match M[i]? with | some y=>decide (sc.names.lookup y=some .free->N[i]?=some y) | none=>true) && M.all (fun y=>decide (sc.names.lookup y≠some .local))
theorem QNa{X:Cx}{sc dsc:Scope}{x:Str}{N M:List Str}(hN:X.N=N)(hs:X.env.scope=dsc)(h:Zvc dsc sc x N M=true):QFb X sc x M:=by
 unfold Zvc at h;simp only[Bool.and_eq_true,decide_eq_true_eq,all_eq_true]at h;obtain⟨⟨⟨⟨⟨⟨⟨⟨h1,h2⟩,h3⟩,h4⟩,h5⟩,h6⟩,h7⟩,h8⟩,h9⟩:=h;refine⟨h1,h2,h3,h4,h5,by rw[hN];exact h6,fun y hy hf=>?_,fun i y hi hf=>?_,h9⟩
 ·have:=h7 y hy hf
  rw[<- hs]at this;exact this
 ·have hl:i < M.length:=(Vc.mp hi).1
  have:=h8 i (mem_range.mpr hl);rw[hi]at this;rw[hN];exact(decide_eq_true_eq.mp this) hf
def Cal(P:Program)(w:World)(K:W.Frag)(mg:Str->Option Value)(base:Heap)(k:Nat)(x:Str)(ps:List Str)(sp:Sp):Prop :=
 ∃ f fd,QD P w K mg base CX0 k f fd ps sp/\ZJ K fd ps []/\W.keepIn K (.ref f)=true/\mg x=some (.ref f)
section
variable{X:Cx}{e:Expr}{es:List Expr}{t:TA}{p pos:Pos}
theorem Qu{j k:Nat}{x:Str}{ps:List Str}{sp:Sp}(G:Cal X.prog X.w X.K X.mg X.base j x ps sp)(hr:Q4 k X.A)(hj:j<=k)(hg:Gl X x)(ha:PA X (e::es) t)(hdb:(x == ("__debug__":Str))=false:=by decide)
 (he:starEach (e::es) X.env=(false,eval e X.env)::starEach es X.env:=by rfl) (hpl:(backTo pos (starEach es X.env)).any (·.1)=false:=by rfl):PE X (.Call (.Name x p) (e::es) [] pos) (Qub sp [] E0 t):=by
 obtain⟨f,fd,F,b,kp,m⟩:=G;exact YWb F (hr.mono hj) hg m kp b .nil QAb ha hdb he hpl
theorem JXa{x:Str}{i:Int}(h:∃ t,X.mg x=some (.int i t))(hg:Gl X x)(hd:(x == ("__debug__":Str))=false:=by decide):PE X (.Name x pos) (tC (.int i)):=by
 obtain⟨t,h⟩:=h;exact YAb hg h ⟨t,rfl⟩ hd
end
theorem YW{K:W.Frag}{H:Hp}{Q:VK}{x:V}{n:String}{t:Value}{b:Bool}(ty:XT K H x t)(e:W.kitOne K t (.type n)=some b)(q:Q (.bl b) H):Zmb K [x,.ty n] H Q:=⟨x,.ty n,t,.type n,b,rfl,rfl,ty,e,q⟩
section
variable{K:W.Frag}
end
theorem Zwc{c:Bool}{p:Bool->Prop}:(∃ k,V.bl c=V.bl k/\p k)=p c:=propext ⟨fun⟨_,e,q⟩=>by cases e;exact q,fun q=>⟨c,rfl,q⟩⟩
theorem Qxc{c:Int}{p:Int->Prop}:(∃ k,V.int c=V.int k/\p k)=p c:=propext ⟨fun⟨_,e,q⟩=>by cases e;exact q,fun q=>⟨c,rfl,q⟩⟩
theorem Qyc{c:Str}{p:Str->Prop}:(∃ k,V.str c=V.str k/\p k)=p c:=propext ⟨fun⟨_,e,q⟩=>by cases e;exact q,fun q=>⟨c,rfl,q⟩⟩
theorem Qzc{c:Addr}{p:Addr->Prop}:(∃ k,V.ref c=V.ref k/\p k)=p c:=propext ⟨fun⟨_,e,q⟩=>by cases e;exact q,fun q=>⟨c,rfl,q⟩⟩
theorem Y3b{a b:Int}{p:Int->Int->Prop}:(∃ i j,V.int a=V.int i/\V.int b=V.int j/\p i j)=p a b:=propext ⟨fun⟨_,_,e,f,q⟩=>by cases e;cases f;exact q,fun q=>⟨a,b,rfl,rfl,q⟩⟩
theorem Ql{t:TS}{D:Jb}{σ σ':St}{H:Hp}(e:σ'=σ)(h:t D σ H):t D σ' H:=by rw[e];exact h
end L2
end
section
namespace Att
open PySem PySem.W PySem.Calls PyProof.Rows
theorem YSa:∀ (ns:List Int),WData.weightAll (ns.map WData.int)<=2 ^ 20->∀ n∈ns,Builtin.Int.intBits n<=2 ^ 20
 | [],_,_,h=>nomatch h
 | m::ns,hw,n,h=>by
  rw[map_cons]at hw;have e:WData.weightAll (WData.int m::ns.map WData.int)=WData.weight (.int m)+1+WData.weightAll (ns.map WData.int):=by simp only[WData.weightAll]
  rw[e]at hw
  rcases mem_cons.mp h with rfl | h
  ·have:WData.weight (.int n)<=2 ^ 20:=by omega
   simpa only[WData.weight,Builtin.Int.intBits]using this
  ·exact YSa ns (by omega) n h
theorem JYa{l:OpenLaw}{n:Nat}{q:Program}{loose:List Str}{XP:(Str->Option Value)->Heap->Prop}{YP:World->Heap->Prop}{d:DefRec}
 (hn:l.most=some n) (hdf:d.params.defaults=[])
 (call:∀ (w:World) (s₀ s₁:Shared) (mg mb:Str->Option Value) (fa:Addr) (o:Obj) (pm cd doc:Value) (a:Addr) (vs:List Value) (ns:List Int),
  Ground q loose [] XP w s₀ mg mb s₁.heap->YP w s₁.heap ->
  s₁.heap.get? fa=some o->o.data=.func (docDef d.name d.params d.body d.scope pm cd doc)->s₁.heap.CodeRec cd d.name->mg d.name=some (.ref fa) ->
  s₁.heap.get? a=some { cls:=.type "list",data:=.seq vs.toArray }->IntsAre vs ns->ns.length<=n->(∀ i∈ns,Builtin.Int.intBits i<=2 ^ 20)->s₁.gens=#[] ->
  codeAny (model l.prog w) callerA (.call (.ref fa) ⟨[.ref a],[]⟩) (fun r s'=>r=.ok (.ret (.bool true))/\OldK s₁.heap s'.heap/\s'.os=s₁.os/\AllBare s'.gens) s₁) :
 WalkO q loose XP YP l.row.toRowW d [] (fun f vs=>PySem.call f vs):=by
 intro w s₀ s₁ mg mb G Y fa o pm cd doc dV kV ho hd hcd hD hmg hg args vals as hpre hlay hrd hwl hlo;obtain rfl:dV=.none:=Dflts.none hD hdf;obtain rfl:kV=.none:=Dflts.noKw hD;obtain⟨a,vs,ns,rfl,rfl,hobj,hints,hlen⟩:=Zhb hn hpre hwl;have hb:∀ i∈ns,Builtin.Int.intBits i<=2 ^ 20:=by
  have h1:WData.layable (.list (ns.map WData.int))=true:=by
   have:=hlay;unfold WData.layableAll at this;exact all_eq_true.mp this _ mem_cons_self
  have h2:WData.weight (.list (ns.map WData.int))<=2 ^ 20:=of_decide_eq_true (Bool.and_eq_true_iff.mp h1).2;exact YSa ns (by simpa only[WData.weight]using h2)
 refine enter_call (codeAny_mono (call w s₀ s₁ mg mb fa o pm cd doc a vs ns G Y ho (fd_plain hd) hcd hmg hobj hints hlen hb hg) fun r s' hq=>?_)
 obtain⟨rfl,h2,h3,h4⟩:=hq;exact⟨.inl ⟨.bool true,.bool true,[],rfl,fun _=>rfl,.bool true,Zib l _,fun _=>⟨List.Pairwise.nil,fun _ hm=>(nomatch hm)⟩⟩,h2,h3,h4⟩
end Att
namespace L2
open PySem PySem.Spec PyProof.Rows
theorem Jmb{l:W.OpenLaw}{n k:Nat}{q:Program}{loose:List Str}{XP:(Str->Option Value)->Heap->Prop}{YP:World->Heap->Prop}{d:DefRec}{K:Params->W.Frag}{CX:World->CXT}{sp:W.Frag->Sp}{x:Str}
 (hn:l.most=some n) (hn2:n<=sizeLine) (hdf:d.params.defaults=[]) (hr:Q4 k callerA)
 (hY:∀ (w:World) (h:Heap),YP w h->(K w.params).In h)
 (F:∀ (w:World) (mg:Str->Option Value) (fa:Addr) (h:Heap),(K w.params).In h->h.Ns mainGlobals mg->mg d.name=some (.ref fa) ->
  ∃ fd:FuncData,(∀ (s:Shared) (u:Value),BindsTo s fd ⟨[u],[]⟩ [(x,u)]) /\
   ∀ base:Heap,(K w.params).In base->base.Ns mainGlobals mg->QD l.prog w (K w.params) mg base (CX w) k fa fd [x] (sp (K w.params)))
 (hsp:∀ (K:W.Frag) (H:Hp) (a:Addr) (ns:List Int),ns.length<=n->(∀ i∈ns,Builtin.Int.intBits i<=2 ^ 20)->Qoc H->SqL K H a (ns.map V.int)->sp K [.ref a] H (fun v _=>v=.bl true) fun _ _ _=>False)
 (hCX:∀ (w:World) (H:Hp) (s:Shared) (e:Value) (s':Shared),CX w [] H s (fun _ _ _=>False) e s'->False) :
 W.WalkO q loose XP YP l.row.toRowW d [] (fun f vs=>PySem.call f vs):=by
 refine Att.JYa hn hdf fun w s₀ s₁ mg mb fa o pm cd doc a vs ns G Y ho hd hcd hmg hobj hints hlen hb hg=>?_
 have KX:=hY w _ Y;obtain⟨fd,hbd,hF⟩:=F w mg fa _ KX G.T.g hmg;exact Jeb KX G.T.g G.T.b G.T.builtins G.T.nolimit hg hobj hints (Vj hlen hn2) hr hF hbd (fun H hO hS=>hsp _ H a ns hlen hb hO hS) fun H e s'=>hCX w H s₁ e s'
section
variable{X:Cx}
theorem ZK:OpR X (binaryOp .Mult) (rI IntMulOk fun i j=>.int (i * j)):=opI fun _ _ _ _ _ _ _ hc q=>mul_int q hc
end
section
variable{X:Cx}
end
theorem Qg{H:Hp}{p:Addr}(h:H p=none)(o:HO):Qk H (upd H p o):=fun b u q=>by rw[Qd (Qq q h)];exact q
theorem Qk.updL{H H':Hp}{p:Addr}(s:Qk H H')(h:H p=none)(o:HO):Qk H (upd H' p o):=fun b u q=>by rw[Qd (Qq q h)];exact s b u q
theorem Qk.seqT{K:W.Frag}{H H':Hp}{a:Addr}{xs:List V}(e:Qk H H')(h:SqT K H a xs):SqT K H' a xs:=by
 rcases h with (h | ⟨o,h⟩) | h
 ·exact .inl (.inl (e _ _ h))
 ·exact .inl (.inr ⟨o,e _ _ h⟩)
 ·exact .inr h
theorem YTa{α:Type}(f:α->V)(ns:List α)(lo hi:Option Int):∃ ms:List α,Z0a (ns.map f) lo hi=ms.map f/\ms.length<=ns.length/\∀ m∈ms,m∈ns:=by
 refine⟨(ns.drop (HT.sIx ns.length 0 lo)).take (HT.sIx ns.length ns.length hi - HT.sIx ns.length 0 lo),?_,?_,fun m h=>mem_of_mem_drop (mem_of_mem_take h)⟩
 ·unfold Z0a
  rw[Vr,<- map_drop,<- map_take]
 ·rw[length_take,length_drop]
  omega
def FoR(J:It)(g:TG)(tb:TS)(D:Jb)(σ:St)(H1:Hp):Prop:=∃ W:Nat->Nat->St->Hp->Prop,(∃ m,W 0 m σ H1)/\∀ i m σ H,W i m σ H ->
 (J.stop i H/\D.nx σ H)\/(J.go i H/\∃ N:St->Hp->Prop,(∀ σ' H',N σ' H'->∃ m',m' < m/\W (i+1) m' σ' H')/\∀ x H',J.yld i H x H'->g x σ H' fun σ2 H2=>tb { D with nx:=N,ct:=N,bk:=D.nx } σ2 H2)
def LcR(J:It)(tt:TT)(te:TE)(σ:St)(Q:VK)(H1:Hp):Prop:=∀ D,H1 D=none->∃ W:Nat->Nat->List V->Hp->Prop,(∃ m,W 0 m [] (upd H1 D (.lst [])))/\∀ i m ys H,W i m ys H ->
 H D=some (.lst ys)/\((J.stop i H/\Q (.ref D) H)\/(J.go i H/\ys.length < sizeLine/\∀ x H',J.yld i H x H'->tt (some x::σ) H' fun b H2=>if b=true then te (some x::σ) H2 fun v H3 =>
  H3 D=some (.lst ys)/\∃ m',m' < m/\W (i+1) m' (ys++[v]) (upd H3 D (.lst (ys++[v]))) else ∃ m',m' < m/\W (i+1) m' ys H2))
theorem Zpb{ta:TA}{g:TG}{tb:TS}{D:Jb}{σ:St}{H:Hp}:YFa (ZZb ta) g tb D σ H=ta σ H fun vs H1=>∃ j:Int,vs=[.int j] /\ -(2 ^ 62)<=j/\j < 2 ^ 62/\FoR (Itr 0 j.toNat) g tb D σ H1:=rfl
theorem Zqb{ta:TA}{g:TG}{tb:TS}{D:Jb}{σ:St}{H:Hp}:YFa (Z0b ta) g tb D σ H=ta σ H fun vs H1=>∃ i j:Int,vs=[.int i,.int j]/\(-(2 ^ 62)<=i/\i < 2 ^ 62 /\ -(2 ^ 62)<=j/\j < 2 ^ 62)/\FoR (Itr i (j - i).toNat) g tb D σ H1:=rfl
theorem Zrb{K:W.Frag}{tl:TE}{g:TG}{tb:TS}{D:Jb}{σ:St}{H:Hp}:YFa (ZXb K tl) g tb D σ H=tl σ H fun x H1=>∃ a,x=.ref a/\(∃ xs,SqL K H1 a xs)/\FoR (Itl K a) g tb D σ H1:=rfl
theorem Jnb{K:W.Frag}{tl:TE}{g:TG}{tb:TS}{D:Jb}{σ:St}{H:Hp}:YFa (Qfc K tl) g tb D σ H=tl σ H fun x H1=>∃ a,x=.ref a/\(∃ xs,SqT K H1 a xs)/\FoR (Itt K a) g tb D σ H1:=rfl
theorem Job{tl:TE}{g:TG}{tb:TS}{D:Jb}{σ:St}{H:Hp}:YFa (Qtc tl) g tb D σ H=tl σ H fun x H1=>∃ z,x=.str z/\FoR (Its z) g tb D σ H1:=rfl
theorem Jpb{ta:TA}{tt:TT}{te:TE}{σ:St}{H:Hp}{Q:VK}:tLc (ZZb ta) tt te σ H Q=ta σ H fun vs H1=>∃ j:Int,vs=[.int j] /\ -(2 ^ 62)<=j/\j < 2 ^ 62/\LcR (Itr 0 j.toNat) tt te σ Q H1:=rfl
theorem Jqb{K:W.Frag}{tl:TE}{tt:TT}{te:TE}{σ:St}{H:Hp}{Q:VK}:tLc (ZXb K tl) tt te σ H Q=tl σ H fun x H1=>∃ a,x=.ref a/\(∃ xs,SqL K H1 a xs)/\LcR (Itl K a) tt te σ Q H1:=rfl
theorem Y4b{K:W.Frag}{tl:TE}{tt:TT}{te:TE}{σ:St}{H:Hp}{Q:VK}:tLc (Qfc K tl) tt te σ H Q=tl σ H fun x H1=>∃ a,x=.ref a/\(∃ xs,SqT K H1 a xs)/\LcR (Itt K a) tt te σ Q H1:=rfl
theorem Y5b{tl:TE}{tt:TT}{te:TE}{σ:St}{H:Hp}{Q:VK}:tLc (Qtc tl) tt te σ H Q=tl σ H fun x H1=>∃ z,x=.str z/\LcR (Its z) tt te σ Q H1:=rfl
theorem Qma{lo:Int}{n:Nat}{g:TG}{tb:TS}{D:Jb}{σ:St}{H:Hp}(Pv:Nat->St->Hp->Prop)(h0:Pv 0 σ H)
 (hs:∀ i σ H,i < n->Pv i σ H->g (.int (lo+i)) σ H fun σ2 H2=>tb { D with nx:=Pv (i+1),ct:=Pv (i+1),bk:=D.nx } σ2 H2) (hd:∀ σ H,Pv n σ H->D.nx σ H):FoR (Itr lo n) g tb D σ H:=Zcb Pv h0 hs hd
theorem Jd{K:W.Frag}{a:Addr}(xs:List V){g:TG}{tb:TS}{D:Jb}{σ:St}{H:Hp}(Pv:Nat->St->Hp->Prop)(h0:Pv 0 σ H)(hl:∀ i σ H,i<=xs.length->Pv i σ H->SqL K H a xs)
 (hs:∀ i x σ H,xs[i]?=some x->Pv i σ H->g x σ H fun σ2 H2=>tb { D with nx:=Pv (i+1),ct:=Pv (i+1),bk:=D.nx } σ2 H2) (hd:∀ σ H,Pv xs.length σ H->D.nx σ H):FoR (Itl K a) g tb D σ H:=Z1b Pv h0 hl hs hd
theorem QHb{K:W.Frag}{a:Addr}(xs:List V){g:TG}{tb:TS}{D:Jb}{σ:St}{H:Hp}(Pv:Nat->St->Hp->Prop)(h0:Pv 0 σ H)(hl:∀ i σ H,i<=xs.length->Pv i σ H->SqT K H a xs)
 (hs:∀ i x σ H,xs[i]?=some x->Pv i σ H->g x σ H fun σ2 H2=>tb { D with nx:=Pv (i+1),ct:=Pv (i+1),bk:=D.nx } σ2 H2) (hd:∀ σ H,Pv xs.length σ H->D.nx σ H):FoR (Itt K a) g tb D σ H:=YCb Pv h0 hl hs hd
theorem Y6b{z:Str}{g:TG}{tb:TS}{D:Jb}{σ:St}{H:Hp}(Pv:Nat->St->Hp->Prop)(h0:Pv 0 σ H)
 (hs:∀ i c σ H,z.cps.toList[i]?=some c->Pv i σ H->g (.str ⟨#[c]⟩) σ H fun σ2 H2=>tb { D with nx:=Pv (i+1),ct:=Pv (i+1),bk:=D.nx } σ2 H2) (hd:∀ σ H,Pv z.length σ H->D.nx σ H):FoR (Its z) g tb D σ H:=Y2b Pv h0 hs hd
end L2
end
section
namespace SortT
open PySem PySem.W PyProof.Rows
def K(r:Nat->Nat)(p:Array Nat)(i:Nat):Nat:=r (p.getD i 0)
structure Ok(n:Nat)(p:Array Nat):Prop where
 size:p.size=n
 perm:p.Perm (List.range n).toArray
theorem Ok.lt{n:Nat}{p:Array Nat}(h:Ok n p)(hn:0 < n)(i:Nat):p.getD i 0 < n:=by
 rw[Array.getD_eq_getD_getElem?];cases e:p[i]? with
 | none=>exact hn
 | some x =>
  have hx:x∈p:=Array.mem_of_getElem? e;have:=(h.perm.mem_iff (a:=x)).mp hx
  simpa using this
def Up(r:Nat->Nat)(p:Array Nat)(m:Nat):Prop:=∀ i j,i<=j->j < m->K r p i<=K r p j
variable{n:Nat}{r:Nat->Nat}
end SortT
end
section
namespace SortB
open PySem PySem.W PyProof.Rows
def JZa:Bool->Keyed->Array Keyed->Nat->Nat->Nat->StateT SortSt Sem (Option Nat):=sortPriv% PySem.Builtin.gallop
def Jrb:Array Keyed->Array Keyed->StateT SortSt Sem (Array Keyed):=sortPriv% PySem.Builtin.mergeLo
def Jsb:Array Keyed->Array Keyed->StateT SortSt Sem (Array Keyed):=sortPriv% PySem.Builtin.mergeHi
def K(rk:Keyed->Nat)(a:Array Keyed)(i:Nat):Nat:=match a[i]? with | some p=>rk p | none=>0
theorem QT{rk:Keyed->Nat}{a:Array Keyed}{i:Nat}(h:i < a.size):K rk a i=rk a[i]:=by unfold K;rw[getElem?_pos a i h]
theorem XSa{rk:Keyed->Nat}{a b:Array Keyed}{i j:Nat}(h:a[i]?=b[j]?):K rk a i=K rk b j:=by unfold K;rw[h]
section
variable{prog:Program}{w:World}{A:Around}{E:YQ_}{s:Shared}{κ:SortKind}{rk:Keyed->Nat}{S:Keyed->Prop}
def XZ(prog:Program)(w:World)(A:Around)(E:YQ_)(s:Shared)(κ:SortKind)(rk:Keyed->Nat)(S:Keyed->Prop):Prop :=
 ∀ x y (st:SortSt) (Q:Option Bool->SortSt->Prop),kindOf st=κ->S x->S y->Q (some (decide (rk x < rk y))) st->wpS (model prog w) A E s (lt' x y) Q st
theorem Qx{a:Array Keyed}{i:Nat}{st:SortSt}{Q:Keyed->SortSt->Prop}(hi:i < a.size)(h:Q a[i] st):wpS (model prog w) A E s (elem' a i) Q st:=by
 rw[elem'_eq,getElem?_pos a i hi];exact wpS_pure h
theorem QAc(L:XZ prog w A E s κ rk S){st:SortSt}{i j:Nat}{Q:Option Bool->SortSt->Prop}(hk:kindOf st=κ)(hS:∀ x∈arrOf st,S x)(hi:i < (arrOf st).size)(hj:j < (arrOf st).size)
 (h:Q (some (decide (K rk (arrOf st) i < K rk (arrOf st) j))) st):wpS (model prog w) A E s (ltAt' i j) Q st:=by
 rw[ltAt'_eq];refine wpS_bind (wpS_get (wpS_bind (Qx hi (wpS_bind (Qx hj ?_)))))
 rw[QT hi,QT hj]at h;exact L _ _ st Q hk (hS _ (Array.getElem_mem hi)) (hS _ (Array.getElem_mem hj)) h
def bey(rk:Keyed->Nat)(left:Bool)(key:Keyed)(arr:Array Keyed)(bs i:Nat):Bool:=if left=true then decide (K rk arr (bs+i) < rk key) else !decide (rk key < K rk arr (bs+i))
theorem Zsa(L:XZ prog w A E s κ rk S){st:SortSt}{left:Bool}{key:Keyed}{arr:Array Keyed}{bs i:Nat}{Q:Option Bool->SortSt->Prop}(hk:kindOf st=κ)(hS:∀ x∈arr,S x)(hkey:S key)(hi:bs+i < arr.size)
 (h:Q (some (bey rk left key arr bs i)) st):wpS (model prog w) A E s (elem' arr (bs+i) >>= fun x=>if left=true then lt' x key else (lt' key x >>= fun r=>pure (Option.map (fun b=>!b) r))) Q st:=by
 refine wpS_bind (Qx hi ?_)
 have hx:=hS _ (Array.getElem_mem hi);unfold bey at h;rw[QT hi]at h;cases left with
 | true =>
  simp only[if_true]at h ⊢;exact L _ _ st Q hk hx hkey h
 | false =>
  simp only[Bool.false_eq_true,if_false]at h ⊢;exact wpS_bind (L _ _ st _ hk hkey hx (wpS_pure h))
theorem Jwa(L:XZ prog w A E s κ rk S){st:SortSt}{left:Bool}{key:Keyed}{arr:Array Keyed}{bs n hint:Nat}{Q:Option Nat->SortSt->Prop}(hk:kindOf st=κ)(hS:∀ x∈arr,S x)(hkey:S key)(hb:bs+n<=arr.size)(hh:hint < n)
 (mono:∀ i j,i<=j->j < n->bey rk left key arr bs j=true->bey rk left key arr bs i=true)
 (h:∀ k,k<=n->(∀ i,i < k->bey rk left key arr bs i=true)->(∀ i,k<=i->i < n->bey rk left key arr bs i=false)->Q (some k) st):wpS (model prog w) A E s (JZa left key arr bs n hint) Q st:=by
 have monf:∀ i j,i<=j->j < n->bey rk left key arr bs i=false->bey rk left key arr bs j=false:=fun i j hij hj e=>by
  cases q:bey rk left key arr bs j with
  | false=>rfl
  | true=>rw[mono i j hij hj q]at e;cases e
 refine wpS_bind (Zsa L hk hS hkey (by omega) ?_)
 dsimp only;cases e0:bey rk left key arr bs hint with
 | true =>
  rw[if_pos rfl];refine wpS_bind (wpS_mono (wpS_forRange (I:=fun x c st'=>st'=st/\∃ l o,c=(none,l,o)/\l < o/\x < o/\l+1<=n - hint/\bey rk left key arr bs (hint+l)=true)
   (Q:=fun c st'=>st'=st/\∃ l o,c=(none,l,o)/\l < o/\l+1<=n - hint/\bey rk left key arr bs (hint+l)=true/\(o < n - hint->bey rk left key arr bs (hint+o)=false)) ?step ?fin ⟨rfl,0,1,rfl,by omega,by omega,by omega,e0⟩) ?post)
  case step =>
   rintro x c st' _ hx ⟨rfl,l,o,rfl,h1,h2,h3,h4⟩;dsimp only
   by_cases hge:o >= n - hint
   ·rw[if_pos hge]
    exact wpS_pure ⟨rfl,l,o,rfl,h1,h3,h4,fun z=>absurd z (by omega)⟩
   ·rw[if_neg hge]
    refine wpS_bind (Zsa L hk hS hkey (by omega) ?_)
    cases e1:bey rk left key arr bs (hint+o) with
    | true=>exact wpS_pure ⟨rfl,o,2 * o+1,rfl,by omega,by omega,by omega,e1⟩
    | false=>exact wpS_pure ⟨rfl,l,o,rfl,h1,h3,h4,fun _=>e1⟩
  case fin =>
   rintro c st' ⟨rfl,l,o,rfl,h1,h2,h3,h4⟩;exact⟨rfl,l,o,rfl,h1,h3,h4,fun z=>absurd z (by omega)⟩
  case post =>
   rintro c st'' ⟨rfl,l,o,rfl,h1,h3,h4,h5⟩;have a1:∀ i,i < hint+l+1->bey rk left key arr bs i=true:=fun i hi=>mono i (hint+l) (by omega) (by omega) h4
   have a2:∀ i,hint+min o (n - hint)<=i->i < n->bey rk left key arr bs i=false:=fun i hi hn=>monf (hint+o) i (by omega) hn (h5 (by omega))
   have a3:hint+l+1<=hint+min o (n - hint):=by omega
   have a4:hint+min o (n - hint)<=n:=by omega
   dsimp only;generalize hint+l+1=lo at a1 a2 a3 a4 ⊢;generalize hint+min o (n - hint)=hi at a1 a2 a3 a4 ⊢;refine wpS_bind (wpS_mono (wpS_forRange (I:=fun x c st'=>st'=st''/\∃ lo hi,c=(none,lo,hi)/\lo<=hi/\hi<=n/\hi - lo<=n - x/\(∀ i,i < lo->bey rk left key arr bs i=true)/\∀ i,hi<=i->i < n->bey rk left key arr bs i=false)
    (Q:=fun c st'=>st'=st''/\∃ hi,c=(none,hi,hi)/\hi<=n/\(∀ i,i < hi->bey rk left key arr bs i=true)/\∀ i,hi<=i->i < n->bey rk left key arr bs i=false) ?_ ?_ ⟨rfl,lo,hi,rfl,a3,a4,by omega,a1,a2⟩) ?_)
   ·rintro x c st' _ hx ⟨rfl,lo,hi,rfl,b1,b2,b3,b4,b5⟩
    dsimp only
    by_cases hge:lo >= hi
    ·rw[if_pos hge]
     have:lo=hi:=by omega
     subst this;exact wpS_pure ⟨rfl,lo,rfl,b2,b4,b5⟩
    ·rw[if_neg hge]
     refine wpS_bind (Zsa L hk hS hkey (by omega) ?_)
     cases e1:bey rk left key arr bs (lo+(hi - lo) / 2) with
     | true=>exact wpS_pure ⟨rfl,_,hi,rfl,by omega,b2,by omega,fun i hi'=>mono i _ (by omega) (by omega) e1,b5⟩
     | false=>exact wpS_pure ⟨rfl,lo,_,rfl,by omega,by omega,by omega,b4,fun i h1 h2=>monf _ i h1 h2 e1⟩
   ·rintro c st' ⟨rfl,lo,hi,rfl,b1,b2,b3,b4,b5⟩
    have:lo=hi:=by omega
    subst this;exact⟨rfl,lo,rfl,b2,b4,b5⟩
   ·rintro c st' ⟨rfl,hi,rfl,b2,b4,b5⟩
    exact wpS_pure (h hi b2 b4 b5)
 | false =>
  rw[if_neg (by simp)]
  refine wpS_bind (wpS_mono (wpS_forRange (I:=fun x c st'=>st'=st/\∃ l o,c=(none,l,o)/\l < o/\x < o/\l<=hint/\bey rk left key arr bs (hint - l)=false)
   (Q:=fun c st'=>st'=st/\∃ l o,c=(none,l,o)/\l < o/\l<=hint/\bey rk left key arr bs (hint - l)=false/\(o < hint+1->bey rk left key arr bs (hint - o)=true)) ?step ?fin ⟨rfl,0,1,rfl,by omega,by omega,by omega,e0⟩) ?post)
  case step =>
   rintro x c st' _ hx ⟨rfl,l,o,rfl,h1,h2,h3,h4⟩;dsimp only
   by_cases hge:o >= hint+1
   ·rw[if_pos hge]
    exact wpS_pure ⟨rfl,l,o,rfl,h1,h3,h4,fun z=>absurd z (by omega)⟩
   ·rw[if_neg hge]
    refine wpS_bind (Zsa L hk hS hkey (by omega) ?_)
    cases e1:bey rk left key arr bs (hint - o) with
    | true=>exact wpS_pure ⟨rfl,l,o,rfl,h1,h3,h4,fun _=>e1⟩
    | false=>exact wpS_pure ⟨rfl,o,2 * o+1,rfl,by omega,by omega,by omega,e1⟩
  case fin =>
   rintro c st' ⟨rfl,l,o,rfl,h1,h2,h3,h4⟩;exact⟨rfl,l,o,rfl,h1,h3,h4,fun z=>absurd z (by omega)⟩
  case post =>
   rintro c st'' ⟨rfl,l,o,rfl,h1,h3,h4,h5⟩;have a1:∀ i,i < hint+1 - min o (hint+1)->bey rk left key arr bs i=true:=fun i hi=>mono i (hint - o) (by omega) (by omega) (h5 (by omega))
   have a2:∀ i,hint - l<=i->i < n->bey rk left key arr bs i=false:=fun i hi hn=>monf (hint - l) i hi hn h4
   have a3:hint+1 - min o (hint+1)<=hint - l:=by omega
   have a4:hint - l<=n:=by omega
   dsimp only;generalize hint+1 - min o (hint+1)=lo at a1 a2 a3 a4 ⊢;generalize hint - l=hi at a1 a2 a3 a4 ⊢;refine wpS_bind (wpS_mono (wpS_forRange (I:=fun x c st'=>st'=st''/\∃ lo hi,c=(none,lo,hi)/\lo<=hi/\hi<=n/\hi - lo<=n - x/\(∀ i,i < lo->bey rk left key arr bs i=true)/\∀ i,hi<=i->i < n->bey rk left key arr bs i=false)
    (Q:=fun c st'=>st'=st''/\∃ hi,c=(none,hi,hi)/\hi<=n/\(∀ i,i < hi->bey rk left key arr bs i=true)/\∀ i,hi<=i->i < n->bey rk left key arr bs i=false) ?_ ?_ ⟨rfl,lo,hi,rfl,a3,a4,by omega,a1,a2⟩) ?_)
   ·rintro x c st' _ hx ⟨rfl,lo,hi,rfl,b1,b2,b3,b4,b5⟩
    dsimp only
    by_cases hge:lo >= hi
    ·rw[if_pos hge]
     have:lo=hi:=by omega
     subst this;exact wpS_pure ⟨rfl,lo,rfl,b2,b4,b5⟩
    ·rw[if_neg hge]
     refine wpS_bind (Zsa L hk hS hkey (by omega) ?_)
     cases e1:bey rk left key arr bs (lo+(hi - lo) / 2) with
     | true=>exact wpS_pure ⟨rfl,_,hi,rfl,by omega,b2,by omega,fun i hi'=>mono i _ (by omega) (by omega) e1,b5⟩
     | false=>exact wpS_pure ⟨rfl,lo,_,rfl,by omega,by omega,by omega,b4,fun i h1 h2=>monf _ i h1 h2 e1⟩
   ·rintro c st' ⟨rfl,lo,hi,rfl,b1,b2,b3,b4,b5⟩
    have:lo=hi:=by omega
    subst this;exact⟨rfl,lo,rfl,b2,b4,b5⟩
   ·rintro c st' ⟨rfl,hi,rfl,b2,b4,b5⟩
    exact wpS_pure (h hi b2 b4 b5)
end
end SortB
end
section
namespace SortB
open PySem PySem.W PyProof.Rows
abbrev Rs(rk:Keyed->Nat)(l:List Keyed):Prop:=l.Pairwise fun x y=>rk x<=rk y
structure Mg(rk:Keyed->Nat)(la lb out:List Keyed)(ia ib:Nat):Prop where
 perm:out.Perm (la.take ia++lb.take ib)
 pw:Rs rk out
 ra:∀ x∈out,∀ y∈la.drop ia,rk x<=rk y
 rb:∀ x∈out,∀ y∈lb.drop ib,rk x<=rk y
section
variable{rk:Keyed->Nat}{la lb out:List Keyed}{ia ib k:Nat}
theorem Zta(l:List Keyed)(i k:Nat):l.drop i=(l.drop i).take k++l.drop (i+k):=by
 rw[<- drop_drop,take_append_drop]
theorem Mg.takeA(m:Mg rk la lb out ia ib)(pa:Rs rk la)(k:Nat)(h:∀ x∈(la.drop ia).take k,∀ y∈lb.drop ib,rk x<=rk y):Mg rk la lb (out++(la.drop ia).take k) (ia+k) ib:=by
 have pd:Rs rk (la.drop ia):=pa.sublist (drop_sublist _ _);have ps:=Zta la ia k;refine⟨?_,?_,?_,?_⟩
 ·have e:la.take (ia+k)=la.take ia++(la.drop ia).take k:=by rw[take_add]
  rw[e];refine(m.perm.append_right _).trans ?_
  rw[Vq,Vq];exact(perm_append_comm).append_left _
 ·refine pairwise_append.mpr ⟨m.pw,pd.sublist (take_sublist _ _),fun x hx y hy=>m.ra x hx y (mem_of_mem_take hy)⟩
 ·intro x hx y hy
  rcases Vl.mp hx with hx | hx
  ·exact m.ra x hx y (by rw[ps];exact Vp _ hy)
  ·rw[ps]at pd
   exact(pairwise_append.mp pd).2.2 x hx y hy
 ·intro x hx y hy
  rcases Vl.mp hx with hx | hx
  ·exact m.rb x hx y hy
  ·exact h x hx y hy
theorem Mg.swap(m:Mg rk la lb out ia ib):Mg rk lb la out ib ia:=⟨m.perm.trans perm_append_comm,m.pw,m.rb,m.ra⟩
theorem Mg.takeB(m:Mg rk la lb out ia ib)(pb:Rs rk lb)(k:Nat)(h:∀ x∈(lb.drop ib).take k,∀ y∈la.drop ia,rk x<=rk y):Mg rk la lb (out++(lb.drop ib).take k) ia (ib+k):=(m.swap.takeA pb k h).swap
theorem Mg.done(m:Mg rk la lb out ia ib)(pa:Rs rk la)(pb:Rs rk lb)(h:∀ x∈la.drop ia,∀ y∈lb.drop ib,rk x<=rk y):(out++la.drop ia++lb.drop ib).Perm (la++lb)/\Rs rk (out++la.drop ia++lb.drop ib):=by
 have e1:(la.drop ia).take la.length=la.drop ia:=take_of_length_le (by rw[length_drop];omega)
 have e2:(lb.drop ib).take lb.length=lb.drop ib:=take_of_length_le (by rw[length_drop];omega)
 have m1:=m.takeA pa la.length (by rw[e1];exact h)
 rw[e1]at m1;have z:la.drop (ia+la.length)=[]:=drop_eq_nil_of_le (by omega)
 have m2:=m1.takeB pb lb.length (by rw[z];intro _ _ _ q;cases q)
 rw[e2]at m2;refine⟨?_,m2.pw⟩
 have:=m2.perm
 rwa [take_of_length_le (by omega),take_of_length_le (by omega)]at this
theorem Mg.doneB(m:Mg rk la lb out ia ib)(pa:Rs rk la)(pb:Rs rk lb)(h:∀ x∈lb.drop ib,∀ y∈la.drop ia,rk x<=rk y):(out++lb.drop ib++la.drop ia).Perm (la++lb)/\Rs rk (out++lb.drop ib++la.drop ia):=by
 obtain⟨a,b⟩:=m.swap.done pb pa h;exact⟨a.trans perm_append_comm,b⟩
end
section
variable{rk:Keyed->Nat}{a:Array Keyed}{i j k n:Nat}{x:Keyed}
theorem Q3a(a:Array Keyed)(i:Nat):(a.extract i a.size).toList=a.toList.drop i:=by
 rw[Array.toList_extract,extract_eq_take_drop];exact take_of_length_le (by simp)
theorem Je(a:Array Keyed)(i j:Nat):(a.extract i j).toList=(a.toList.drop i).take (j - i):=by
 rw[Array.toList_extract,extract_eq_take_drop]
theorem Ya(h:i < a.size):(a.toList.drop i).take 1=[a[i]]:=by
 rw[drop_eq_getElem_cons (by simpa using h)]
 simp
theorem Yn(h:x∈(a.toList.drop i).take k):∃ j,j < k/\i+j < a.size/\rk x=K rk a (i+j):=by
 obtain⟨j,hj,e⟩:=getElem_of_mem h;have h1:j < k/\i+j < a.size:=by
  rw[length_take,length_drop,Array.length_toList]at hj
  omega
 refine⟨j,h1.1,h1.2,?_⟩
 rw[QT h1.2,<- e];simp
theorem X2(h:x∈a.toList.drop i):∃ j,i<=j/\j < a.size/\rk x=K rk a j:=by
 obtain⟨j,hj,e⟩:=getElem_of_mem h;have h1:i+j < a.size:=by
  rw[length_drop,Array.length_toList]at hj
  omega
 refine⟨i+j,by omega,h1,?_⟩
 rw[QT h1,<- e];simp
theorem Rs.le(h:Rs rk a.toList)(hij:i<=j)(hj:j < a.size):K rk a i<=K rk a j:=by
 by_cases e:i=j
 ·rw[e];exact Ve _
 ·rw[QT (show i < a.size by omega),QT hj]
  have:=pairwise_iff_getElem.mp h i j (by simp;omega) (by simp;omega) (by omega)
  simpa using this
end
abbrev ZU(st:SortSt)(g:Nat):SortSt:=SortSt.mk' (kindOf st) (arrOf st) (pendingOf st) g (failedOf st)
section
variable{prog:Program}{w:World}{A:Around}{E:YQ_}{s:Shared}{κ:SortKind}{rk:Keyed->Nat}{S:Keyed->Prop}
theorem QBc(L:XZ prog w A E s κ rk S){st:SortSt}{key:Keyed}{arr:Array Keyed}{bs n hint:Nat}{Q:Option Nat->SortSt->Prop}(hk:kindOf st=κ)(hS:∀ x∈arr,S x)(hkey:S key)(hb:bs+n<=arr.size)(hh:hint < n)
 (up:∀ i j,bs<=i->i<=j->j < bs+n->K rk arr i<=K rk arr j)
 (h:∀ k,k<=n->(∀ i,i < k->K rk arr (bs+i)<=rk key)->(∀ i,k<=i->i < n->rk key < K rk arr (bs+i))->Q (some k) st):wpS (model prog w) A E s (JZa false key arr bs n hint) Q st:=by
 have e:∀ i,bey rk false key arr bs i=!decide (rk key < K rk arr (bs+i)):=fun i=>by unfold bey;rw[if_neg (by simp)]
 refine Jwa L hk hS hkey hb hh (fun i j hij hj=>?_) fun k hk1 h1 h2=>h k hk1 (fun i hi=>?_) fun i hi hn=>?_
 ·rw[e,e]
  have:=up (bs+i) (bs+j) (by omega) (by omega) (by omega)
  simp only[Bool.not_eq_true',decide_eq_false_iff_not]
  omega
 ·have:=h1 i hi
  rw[e]at this;simp only[Bool.not_eq_true',decide_eq_false_iff_not]at this
  omega
 ·have:=h2 i hi hn
  rw[e]at this
  simpa using this
theorem QCc(L:XZ prog w A E s κ rk S){st:SortSt}{key:Keyed}{arr:Array Keyed}{bs n hint:Nat}{Q:Option Nat->SortSt->Prop}(hk:kindOf st=κ)(hS:∀ x∈arr,S x)(hkey:S key)(hb:bs+n<=arr.size)(hh:hint < n)
 (up:∀ i j,bs<=i->i<=j->j < bs+n->K rk arr i<=K rk arr j)
 (h:∀ k,k<=n->(∀ i,i < k->K rk arr (bs+i) < rk key)->(∀ i,k<=i->i < n->rk key<=K rk arr (bs+i))->Q (some k) st):wpS (model prog w) A E s (JZa true key arr bs n hint) Q st:=by
 have e:∀ i,bey rk true key arr bs i=decide (K rk arr (bs+i) < rk key):=fun i=>by unfold bey;rw[if_pos rfl]
 refine Jwa L hk hS hkey hb hh (fun i j hij hj=>?_) fun k hk1 h1 h2=>h k hk1 (fun i hi=>?_) fun i hi hn=>?_
 ·rw[e,e]
  have:=up (bs+i) (bs+j) (by omega) (by omega) (by omega)
  simp only[decide_eq_true_eq]
  omega
 ·have:=h1 i hi
  rw[e]at this
  simpa using this
 ·have:=h2 i hi hn
  rw[e]at this
  simpa using this
theorem QIb{α:Type}{m:StateT SortSt Sem α}{Q:α->SortSt->Prop}{st:SortSt}(h:∀ QQ:α->SortSt->Prop,(∀ r s,Q r s->QQ r s)->wpS (model prog w) A E s m QQ st):wpS (model prog w) A E s m Q st:=h Q fun _ _ z=>z
theorem Yo{α:Type}{c:Prop}[Decidable c]{m n:StateT SortSt Sem α}{Q:α->SortSt->Prop}{st:SortSt}(h1:c->wpS (model prog w) A E s m Q st)(h2:¬ c->wpS (model prog w) A E s n Q st):wpS (model prog w) A E s (if c then m else n) Q st:=by
 by_cases h:c
 ·rw[if_pos h];exact h1 h
 ·rw[if_neg h];exact h2 h
theorem Z5{α:Type}{x y:Nat}{m n:StateT SortSt Sem α}{Q:α->SortSt->Prop}{st:SortSt}(h1:x=y->wpS (model prog w) A E s m Q st)(h2:¬ x=y->wpS (model prog w) A E s n Q st):wpS (model prog w) A E s (if (x == y)=true then m else n) Q st :=
 Yo (fun h=>h1 (eq_of_beq h)) fun h=>h2 fun e=>h (by rw[e];exact beq_self_eq_true _)
theorem XTa(L:XZ prog w A E s κ rk S){st:SortSt}{a b:Array Keyed}{Q:Array Keyed->SortSt->Prop}(hk:kindOf st=κ)(hSa:∀ x∈a,S x)(hSb:∀ x∈b,S x)(na:0 < a.size)(nb:0 < b.size)(pa:Rs rk a.toList)(pb:Rs rk b.toList)
 (h0:K rk b 0<=K rk a 0) (hl:∀ i,i < b.size->K rk b i < K rk a (a.size - 1)) (h:∀ out g,out.toList.Perm (a.toList++b.toList)->Rs rk out.toList->Q out (ZU st g)):wpS (model prog w) A E s (Jrb a b) Q st:=by
 have ua:∀ i j,i<=j->j < a.size->K rk a i<=K rk a j:=fun i j h1 h2=>pa.le h1 h2
 have ub:∀ i j,i<=j->j < b.size->K rk b i<=K rk b j:=fun i j h1 h2=>pb.le h1 h2
 have m0:Mg rk a.toList b.toList (#[b[0]]:Array Keyed).toList 0 1:=by
  have e1:b.toList.take 1=[b[0]]:=by have:=Ya nb;simpa using this
  refine⟨by rw[e1];simp,by simp,fun x hx y hy=>?_,fun x hx y hy=>?_⟩
  ·obtain⟨j,_,hj,e⟩:=X2 (rk:=rk) hy
   have:x=b[0]:=by simpa using hx
   rw[this,e,<- QT (rk:=rk) nb];exact Vj h0 (ua 0 j (by omega) hj)
  ·obtain⟨j,_,hj,e⟩:=X2 (rk:=rk) hy
   have:x=b[0]:=by simpa using hx
   rw[this,e,<- QT (rk:=rk) nb];exact ub 0 j (by omega) hj
 have done:∀ (out:Array Keyed) (ia ib:Nat),Mg rk a.toList b.toList out.toList ia ib->ib=b.size->(out++a.extract ia a.size++b.extract ib b.size).toList.Perm (a.toList++b.toList)/\Rs rk (out++a.extract ia a.size++b.extract ib b.size).toList:=fun out ia ib m e=>by
  rw[Array.toList_append,Array.toList_append,Q3a,Q3a];exact m.done pa pb fun x _ y hy=>by
   obtain⟨j,h1,h2,_⟩:=X2 (rk:=rk) hy
   omega
 have lastA:∀ (out:Array Keyed) (ia ib:Nat),Mg rk a.toList b.toList out.toList ia ib->ia+1=a.size->(out++b.extract ib b.size++a.extract ia a.size).toList.Perm (a.toList++b.toList)/\Rs rk (out++b.extract ib b.size++a.extract ia a.size).toList:=fun out ia ib m e=>by
  rw[Array.toList_append,Array.toList_append,Q3a,Q3a];exact m.doneB pa pb fun x hx y hy=>by
   obtain⟨j,h1,h2,e1⟩:=X2 (rk:=rk) hx;obtain⟨i,h3,h4,e2⟩:=X2 (rk:=rk) hy;have:i=a.size - 1:=by omega
   rw[e1,e2,this];exact Vv (hl j h2)
 have pushA:∀ (out:Array Keyed) (ia ib:Nat) (hi:ia < a.size),Mg rk a.toList b.toList out.toList ia ib->(ib < b.size->K rk a ia<=K rk b ib)->Mg rk a.toList b.toList (out.push a[ia]).toList (ia+1) ib:=fun out ia ib hi m hle=>by
  have:=m.takeA pa 1 fun x hx y hy=>by
   obtain⟨j,h1,h2,e1⟩:=Yn (rk:=rk) hx;obtain⟨i,h3,h4,e2⟩:=X2 (rk:=rk) hy;have:j=0:=by omega
   subst this;rw[e1,e2];exact Vj (hle (by omega)) (ub ib i h3 h4)
  rwa [Ya hi,<- Array.toList_push]at this
 have pushB:∀ (out:Array Keyed) (ia ib:Nat) (hi:ib < b.size),Mg rk a.toList b.toList out.toList ia ib->(ia < a.size->K rk b ib<=K rk a ia)->Mg rk a.toList b.toList (out.push b[ib]).toList ia (ib+1):=fun out ia ib hi m hle=>by
  have:=m.takeB pb 1 fun x hx y hy=>by
   obtain⟨j,h1,h2,e1⟩:=Yn (rk:=rk) hx;obtain⟨i,h3,h4,e2⟩:=X2 (rk:=rk) hy;have:j=0:=by omega
   subst this;rw[e1,e2];exact Vj (hle (by omega)) (ua ia i h3 h4)
  rwa [Ya hi,<- Array.toList_push]at this
 refine wpS_bind (wpS_lift (wpAny_rule ⟨rfl,?_⟩))
 refine wpS_bind (Qx nb ?_)
 dsimp -zeta only
 by_cases hb1:1=b.size
 ·rw[if_pos (by simpa using hb1)]
  obtain⟨p,r⟩:=done _ 0 1 m0 hb1;exact wpS_pure (h _ (gallopOf st) p r)
 rw[if_neg (by simpa using hb1)]
 by_cases ha1:0+1=a.size
 ·rw[if_pos (by simpa using ha1)]
  obtain⟨p,r⟩:=lastA _ 0 1 m0 ha1;exact wpS_pure (h _ (gallopOf st) p r)
 rw[if_neg (by simpa using ha1)]
 refine wpS_bind (wpS_get (wpS_bind (wpS_mono (wpS_forRange
  (I:=fun x c st'=>∃ out ia ib g g',c=(none,out,ia,ib,g)/\st'=ZU st g'/\Mg rk a.toList b.toList (out:Array Keyed).toList ia ib/\ia+1 < a.size/\ib < b.size/\x<=ia+ib)
  (Q:=fun c st'=>∃ r g' z,c=(some r,z)/\st'=ZU st g'/\(r:Array Keyed).toList.Perm (a.toList++b.toList)/\Rs rk r.toList) ?step ?fin ⟨_,0,1,_,gallopOf st,rfl,rfl,m0,by omega,by omega,by omega⟩) ?post)))
 case post =>
  rintro c st' ⟨r,g',z,rfl,rfl,p,q⟩;exact wpS_pure (h r g' p q)
 case fin =>
  rintro c st' ⟨out,ia,ib,g,g',rfl,rfl,m,h1,h2,h3⟩
  omega
 case step =>
  rintro x c st' _ hx ⟨out,ia,ib,g,g',rfl,rfl,m,h1,h2,h3⟩;dsimp -zeta only;refine wpS_bind (wpS_mono (wpS_forRange
   (I:=fun y c st'=>st'=ZU st g'/\∃ out ja jb ac bc,c=(none,out,ja,jb,ac,bc)/\Mg rk a.toList b.toList (out:Array Keyed).toList ja jb/\ja+1 < a.size/\jb < b.size/\y+(ia+ib)<=ja+jb)
   (Q:=fun c st'=>st'=ZU st g'/\((∃ out ja jb ac bc,c=(none,out,ja,jb,ac,bc)/\Mg rk a.toList b.toList (out:Array Keyed).toList ja jb/\ja+1 < a.size/\jb < b.size/\ia+ib<=ja+jb)\/∃ r z,c=(some r,z)/\(r:Array Keyed).toList.Perm (a.toList++b.toList)/\Rs rk r.toList)) ?istep ?ifin ⟨rfl,out,ia,ib,0,0,rfl,m,h1,h2,by omega⟩) ?ipost)
  case ifin =>
   rintro c st' ⟨rfl,out,ja,jb,ac,bc,rfl,m,h4,h5,h6⟩
   omega
  case istep =>
   rintro y c st' _ hy ⟨rfl,out,ja,jb,ac,bc,rfl,m,h4,h5,h6⟩;dsimp -zeta only;refine wpS_bind (Qx h5 (wpS_bind (Qx (show ja < a.size by omega) (wpS_bind (L _ _ _ _ hk (hSb _ (Array.getElem_mem h5)) (hSa _ (Array.getElem_mem _)) ?_)))))
   by_cases hw:rk b[jb] < rk a[ja]
   ·have m1:=pushB out ja jb h5 m fun _=>by rw[QT h5,QT (show ja < a.size by omega)];exact Vv hw
    simp only[hw,decide_true,if_true];refine wpS_bind (Qx h5 ?_)
    by_cases he:jb+1=b.size
    ·rw[if_pos (by simpa using he)]
     exact wpS_pure ⟨rfl,.inr ⟨_,_,rfl,done _ ja (jb+1) m1 he⟩⟩
    ·rw[if_neg (by simpa using he)]
     by_cases hc:bc+1 >= g
     ·rw[if_pos hc]
      exact wpS_pure ⟨rfl,.inl ⟨_,_,_,_,_,rfl,m1,h4,by omega,by omega⟩⟩
     ·rw[if_neg hc]
      exact wpS_pure ⟨rfl,_,_,_,_,_,rfl,m1,h4,by omega,by omega⟩
   ·have m1:=pushA out ja jb (by omega) m fun _=>by rw[QT h5,QT (show ja < a.size by omega)];omega
    simp only[hw,decide_false,Bool.false_eq_true,if_false];refine wpS_bind (Qx (show ja < a.size by omega) ?_)
    by_cases he:ja+1+1=a.size
    ·rw[if_pos (by simpa using he)]
     exact wpS_pure ⟨rfl,.inr ⟨_,_,rfl,lastA _ (ja+1) jb m1 he⟩⟩
    ·rw[if_neg (by simpa using he)]
     by_cases hc:ac+1 >= g
     ·rw[if_pos hc]
      exact wpS_pure ⟨rfl,.inl ⟨_,_,_,_,_,rfl,m1,by omega,h5,by omega⟩⟩
     ·rw[if_neg hc]
      exact wpS_pure ⟨rfl,_,_,_,_,_,rfl,m1,by omega,h5,by omega⟩
  case ipost =>
   rintro c st' ⟨rfl,⟨out,ja,jb,ac,bc,rfl,m,h4,h5,h6⟩ | ⟨r,z,rfl,p,q⟩⟩
   ·dsimp -zeta only
    refine wpS_bind (wpS_lift (wpAny_rule ⟨rfl,?_⟩))
    refine wpS_bind (wpS_mono (wpS_forRange
     (I:=fun y c st'=>∃ out ka kb g g' ac bc,c=(none,out,ka,kb,g,ac,bc)/\st'=ZU st g'/\Mg rk a.toList b.toList (out:Array Keyed).toList ka kb/\ka+1 < a.size/\kb < b.size/\y+(ja+jb)<=ka+kb)
     (Q:=fun c st'=>(∃ out ka kb g g' ac bc,c=(none,out,ka,kb,g,ac,bc)/\st'=ZU st g'/\Mg rk a.toList b.toList (out:Array Keyed).toList ka kb/\ka+1 < a.size/\kb < b.size/\ja+jb+1<=ka+kb)\/∃ r z g',c=(some r,z)/\st'=ZU st g'/\(r:Array Keyed).toList.Perm (a.toList++b.toList)/\Rs rk r.toList) ?jstep ?jfin ⟨out,ja,jb,_,g',ac,bc,rfl,rfl,m,h4,h5,by omega⟩) ?jpost)
    case jfin =>
     rintro c st' ⟨out,ka,kb,g,g',ac,bc,rfl,rfl,m,h7,h8,h9⟩
     omega
    case jpost =>
     rintro c st' (⟨out,ka,kb,g,g',ac,bc,rfl,rfl,m,h7,h8,h9⟩ | ⟨r,z,g',rfl,rfl,p,q⟩)
     ·dsimp -zeta only
      refine wpS_bind (wpS_modify (wpS_pure ⟨out,ka,kb,_,g+1,rfl,rfl,m,h7,h8,by omega⟩))
     ·exact wpS_pure ⟨r,g',_,rfl,rfl,p,q⟩
    case jstep =>
     intro y c st' _ hy hZ;obtain⟨out,ka,kb,g,g',ac,bc,rfl,rfl,m,h7,h8,h9⟩:=hZ;refine QIb fun QQ hQ=>?_
     have qd:∀ (r:Array Keyed) z g',r.toList.Perm (a.toList++b.toList)/\Rs rk r.toList->QQ (.done (some r,z)) (ZU st g'):=fun r z g' p=>hQ _ _ (.inr ⟨r,z,g',rfl,rfl,p.1,p.2⟩)
     have qn:∀ (o:Array Keyed) ka' kb' g g' ac bc,Mg rk a.toList b.toList o.toList ka' kb'->ka'+1 < a.size->kb' < b.size->ka+kb+1<=ka'+kb'->QQ (.done (none,o,ka',kb',g,ac,bc)) (ZU st g')/\QQ (.yield (none,o,ka',kb',g,ac,bc)) (ZU st g'):=fun o ka' kb' g g' ac bc m z1 z2 z3=>⟨hQ _ _ (.inl ⟨o,ka',kb',g,g',ac,bc,rfl,rfl,m,z1,z2,by omega⟩),hQ _ _ ⟨o,ka',kb',g,g',ac,bc,rfl,rfl,m,z1,z2,by omega⟩⟩
     clear hQ h9 hy h4 h5 h6 h1 h2 h3 hx;dsimp -zeta only
     extract_lets -underBinder c0 o1 c1 i1 c2 i2 c3 g2 c4 a2 b2 jp mg
     have hj:∀ u g1,wpS (model prog w) A E s (jp u g1) QQ (ZU st g'):=by
      intro u g1;dsimp -zeta only [jp,b2,a2,c4,g2,c3,i2,c2,i1,c1,o1,c0];clear mg jp b2 a2 c4 g2 c3 i2 c2 i1 c1 o1 c0;refine wpS_bind (wpS_modify ?_)
      refine wpS_bind (Qx h8 (wpS_bind (QBc L hk hSa (hSb _ (Array.getElem_mem h8)) (by omega) (by omega) (fun i j h1 h2 h3=>ua i j h2 (by omega)) fun k hkn q1 q2=>?_)))
      dsimp -zeta only;rw[<- QT (rk:=rk) h8]at q1 q2;have hlt:ka+k < a.size:=by
       by_cases hz:ka+k < a.size
       ·exact hz
       ·have z1:=q1 (a.size - 1 - ka) (by omega)
        rw[show ka+(a.size - 1 - ka)=a.size - 1 by omega]at z1
        have z2:=hl kb h8
        omega
      have m1:Mg rk a.toList b.toList (out++a.extract ka (ka+k)).toList (ka+k) kb:=by
       rw[Array.toList_append,Je,show ka+k - ka=k by omega]
       refine m.takeA pa k fun x hx y hy=>?_
       obtain⟨j,hj1,hj2,e1⟩:=Yn (rk:=rk) hx;obtain⟨i,hi1,hi2,e2⟩:=X2 (rk:=rk) hy;rw[e1,e2];exact Vj (q1 j hj1) (ub kb i hi1 hi2)
      have q3:K rk b kb<=K rk a (ka+k):=Vv (q2 k (Ve _) (by omega))
      have q4:k=0->out++a.extract ka (ka+k)=out:=fun e=>by
       subst e;rw[Nat.add_zero,Array.extract_empty_of_stop_le_start (Ve _)];simp
      extract_lets -underBinder ac1 jp1 o1 i1
      have hj1:∀ u (o:Array Keyed) ka1,Mg rk a.toList b.toList o.toList ka1 kb->ka<=ka1->ka1+1 < a.size->K rk b kb<=K rk a ka1->wpS (model prog w) A E s (jp1 u o ka1) QQ (ZU st g1):=by
       intro u o ka1 m1 h11 h10 q3;dsimp -zeta only [jp1];clear o1 i1 jp1 q4 m q1 q2 hlt;clear_value ac1;have ha1:ka1 < a.size:=by omega
       refine wpS_bind (Qx h8 ?_)
       have m2:=pushB o ka1 kb h8 m1 fun _=>q3
       clear m1 q3;generalize o.push b[kb]=o2 at m2 ⊢
       extract_lets -underBinder ib2
       refine Z5 (fun he2=>wpS_pure (qd _ _ _ (done _ ka1 (kb+1) m2 he2))) fun he2=>?_
       replace he2:¬ kb+1=b.size:=he2;dsimp -zeta only [ib2];clear ib2;refine wpS_bind (Qx ha1 (wpS_bind (QCc L hk hSb (hSa _ (Array.getElem_mem ha1)) (by omega) (by omega) (fun i j h1 h2 h3=>ub i j h2 (by omega)) fun k2 hkn2 q5 q6=>?_)))
       dsimp -zeta only;rw[<- QT (rk:=rk) ha1]at q5 q6;have m3:Mg rk a.toList b.toList (o2++b.extract (kb+1) (kb+1+k2)).toList ka1 (kb+1+k2):=by
        rw[Array.toList_append,Je,show kb+1+k2 - (kb+1)=k2 by omega]
        refine m2.takeB pb k2 fun x hx y hy=>?_
        obtain⟨j,hj1,hj2,e1⟩:=Yn (rk:=rk) hx;obtain⟨i,hi1,hi2,e2⟩:=X2 (rk:=rk) hy;rw[e1,e2];exact Vj (Vv (q5 j hj1)) (ua ka1 i hi1 hi2)
       extract_lets -underBinder bc1 jp2 o3 ib3
       have hj2:∀ u (o:Array Keyed) kb1,Mg rk a.toList b.toList o.toList ka1 kb1->kb < kb1->kb1 < b.size->K rk a ka1<=K rk b kb1->wpS (model prog w) A E s (jp2 u o kb1) QQ (ZU st g1):=by
        intro u o kb1 m3 h12 h13 q7;dsimp -zeta only [jp2];clear o3 ib3 jp2;clear_value bc1;refine wpS_bind (Qx ha1 ?_)
        have m4:=pushA o ka1 kb1 ha1 m3 fun _=>q7
        refine Z5 (fun he4=>wpS_pure (qd _ _ _ (lastA _ (ka1+1) kb1 m4 he4))) fun he4=>?_
        replace he4:¬ ka1+1+1=a.size:=he4;have:=fun g gg ac bc=>qn _ _ _ g gg ac bc m4 (by omega) h13 (by omega)
        exact Yo (fun _=>wpS_pure (this _ _ _ _).1) fun _=>wpS_pure (this _ _ _ _).2
       refine Yo (fun hk2=>Z5 (fun he3=>wpS_pure (qd _ _ _ (done _ ka1 (kb+1+k2) m3 he3))) fun he3=>?_) fun hk2=>?_
       ·replace he3:¬ kb+1+k2=b.size:=he3
        exact hj2 () _ _ m3 (show kb < kb+1+k2 by omega) (show kb+1+k2 < b.size by omega) (q6 k2 (Ve _) (by omega))
       ·exact hj2 () _ _ m2 (Nat.lt_succ_self _) (by omega) (q6 0 (by omega) (by omega))
      refine Yo (fun hk0=>Z5 (fun he=>wpS_pure (qd _ _ _ (lastA _ (ka+k) kb m1 he))) fun he=>Z5 (fun he'=>?_) fun _=>?_) fun hk0=>?_
      ·exact absurd (show ka+k=a.size from he') (by omega)
      ·replace he:¬ ka+k+1=a.size:=he
       exact hj1 () _ _ m1 (by omega) (show ka+k+1 < a.size by omega) q3
      ·have hkz:k=0:=by omega
       rw[hkz]at q3;exact hj1 () _ _ m (Ve _) h7 q3
     exact Yo (fun _=>hj () _) fun _=>hj () _
   ·exact wpS_pure ⟨r,g',_,rfl,rfl,p,q⟩
end
end SortB
end
section
namespace SortB
open PySem PySem.W PyProof.Rows
structure Mh(rk:Keyed->Nat)(la lb R:List Keyed)(na nb:Nat):Prop where
 perm:R.Perm (la.drop na++lb.drop nb)
 pw:Rs rk R
 ra:∀ x∈la.take na,∀ y∈R,rk x<=rk y
 rb:∀ x∈lb.take nb,∀ y∈R,rk x<=rk y
section
variable{rk:Keyed->Nat}{la lb R:List Keyed}{na nb k:Nat}
theorem Mh.swap(m:Mh rk la lb R na nb):Mh rk lb la R nb na:=⟨m.perm.trans perm_append_comm,m.pw,m.rb,m.ra⟩
theorem YUa{l:List Keyed}{k n:Nat}(h:k<=n):l.drop k=(l.drop k).take (n - k)++l.drop n:=by
 have e:l.drop n=(l.drop k).drop (n - k):=by rw[drop_drop];congr 1;omega
 rw[e,take_append_drop]
theorem Jtb{l:List Keyed}{k n:Nat}(h:k<=n):l.take n=l.take k++(l.drop k).take (n - k):=by
 have e:n=k+(n - k):=by omega
 rw[e,take_add]
 congr 2
 omega
theorem Mh.takeA(m:Mh rk la lb R na nb)(pa:Rs rk la)(k:Nat)(hk:k<=na)(h:∀ x∈lb.take nb,∀ y∈(la.drop k).take (na - k),rk x<=rk y):Mh rk la lb ((la.drop k).take (na - k)++R) k nb:=by
 have pt:Rs rk (la.take na):=pa.sublist (take_sublist _ _);have ps:=Jtb (l:=la) hk;rw[ps]at pt;obtain⟨_,p2,p3⟩:=pairwise_append.mp pt;have sub:∀ y∈(la.drop k).take (na - k),y∈la.take na:=fun y hy=>by rw[ps];exact Vp _ hy
 refine⟨?_,?_,?_,?_⟩
 ·refine(m.perm.append_left _).trans (List.Perm.of_eq ?_)
  rw[<- Vq,<- YUa hk]
 ·exact pairwise_append.mpr ⟨p2,m.pw,fun x hx y hy=>m.ra x (sub x hx) y hy⟩
 ·intro x hx y hy
  rcases Vl.mp hy with hy | hy
  ·exact p3 x hx y hy
  ·exact m.ra x (by rw[ps];exact mem_append_left _ hx) y hy
 ·intro x hx y hy
  rcases Vl.mp hy with hy | hy
  ·exact h x hx y hy
  ·exact m.rb x hx y hy
theorem Mh.takeB(m:Mh rk la lb R na nb)(pb:Rs rk lb)(k:Nat)(hk:k<=nb)(h:∀ x∈la.take na,∀ y∈(lb.drop k).take (nb - k),rk x<=rk y):Mh rk la lb ((lb.drop k).take (nb - k)++R) na k:=(m.swap.takeA pb k hk h).swap
theorem Mh.doneB(m:Mh rk la lb R na nb)(pa:Rs rk la)(pb:Rs rk lb)(h:∀ x∈lb.take nb,∀ y∈la.take na,rk x<=rk y):(lb.take nb++la.take na++R).Perm (la++lb)/\Rs rk (lb.take nb++la.take na++R):=by
 have m1:=m.takeA pa 0 (Vk _) (by simpa using h)
 have m2:=m1.takeB pb 0 (Vk _) (by simp)
 have e:((lb.drop 0).take (nb - 0)++((la.drop 0).take (na - 0)++R))=lb.take nb++la.take na++R:=by simp
 rw[e]at m2;exact⟨by simpa using m2.perm,m2.pw⟩
theorem Mh.done(m:Mh rk la lb R na nb)(pa:Rs rk la)(pb:Rs rk lb)(h:∀ x∈la.take na,∀ y∈lb.take nb,rk x<=rk y):(la.take na++lb.take nb++R).Perm (la++lb)/\Rs rk (la.take na++lb.take nb++R):=by
 obtain⟨a,b⟩:=m.swap.doneB pb pa h;exact⟨a.trans perm_append_comm,b⟩
end
section
variable{rk:Keyed->Nat}{a:Array Keyed}{i j k n:Nat}{x:Keyed}
theorem Q4a(a:Array Keyed)(n:Nat):(a.extract 0 n).toList=a.toList.take n:=by rw[Je];simp
theorem X3(h:x∈a.toList.take n):∃ j,j < n/\j < a.size/\rk x=K rk a j:=by
 obtain⟨j,h1,h2,e⟩:=Yn (rk:=rk) (i:=0) (a:=a) (k:=n) (by simpa using h)
 exact⟨j,h1,by omega,by rw[e];congr 1;omega⟩
end
section
variable{prog:Program}{w:World}{A:Around}{E:YQ_}{s:Shared}{κ:SortKind}{rk:Keyed->Nat}{S:Keyed->Prop}
theorem XUa(L:XZ prog w A E s κ rk S){st:SortSt}{a b:Array Keyed}{Q:Array Keyed->SortSt->Prop}(hk:kindOf st=κ)(hSa:∀ x∈a,S x)(hSb:∀ x∈b,S x)(na:0 < a.size)(nb:0 < b.size)(pa:Rs rk a.toList)(pb:Rs rk b.toList)
 (h0:K rk b 0 < K rk a 0) (hl:∀ i,i < b.size->K rk b i < K rk a (a.size - 1)) (h:∀ out g,out.toList.Perm (a.toList++b.toList)->Rs rk out.toList->Q out (ZU st g)):wpS (model prog w) A E s (Jsb a b) Q st:=by
 have ua:∀ i j,i<=j->j < a.size->K rk a i<=K rk a j:=fun i j h1 h2=>pa.le h1 h2
 have ub:∀ i j,i<=j->j < b.size->K rk b i<=K rk b j:=fun i j h1 h2=>pb.le h1 h2
 have nl:a.size - 1 < a.size:=by omega
 have m0:Mh rk a.toList b.toList (#[a[a.size - 1]]:Array Keyed).toList.reverse (a.size - 1) b.size:=by
  have e1:a.toList.drop (a.size - 1)=[a[a.size - 1]]:=by
   have:=Ya nl
   rwa [take_of_length_le (by simp;omega)]at this
  refine⟨by rw[e1];simp,by simp,fun x hx y hy=>?_,fun x hx y hy=>?_⟩
  ·obtain⟨j,_,hj,e⟩:=X3 (rk:=rk) hx
   have:y=a[a.size - 1]:=by simpa using hy
   rw[this,e,<- QT (rk:=rk) nl];exact ua j _ (by omega) (by omega)
  ·obtain⟨j,_,hj,e⟩:=X3 (rk:=rk) hx
   have:y=a[a.size - 1]:=by simpa using hy
   rw[this,e,<- QT (rk:=rk) nl];exact Vv (hl j hj)
 have done:∀ (out:Array Keyed) (ia ib:Nat),Mh rk a.toList b.toList out.toList.reverse ia ib->ia=0->(a.extract 0 ia++b.extract 0 ib++out.reverse).toList.Perm (a.toList++b.toList)/\Rs rk (a.extract 0 ia++b.extract 0 ib++out.reverse).toList:=fun out ia ib m e=>by
  rw[Array.toList_append,Array.toList_append,Q4a,Q4a,Array.toList_reverse];exact m.done pa pb fun x hx y _=>by
   obtain⟨j,h1,h2,_⟩:=X3 (rk:=rk) hx
   omega
 have lastB:∀ (out:Array Keyed) (ia ib:Nat),Mh rk a.toList b.toList out.toList.reverse ia ib->ib=1->(b.extract 0 ib++a.extract 0 ia++out.reverse).toList.Perm (a.toList++b.toList)/\Rs rk (b.extract 0 ib++a.extract 0 ia++out.reverse).toList:=fun out ia ib m e=>by
  rw[Array.toList_append,Array.toList_append,Q4a,Q4a,Array.toList_reverse];exact m.doneB pa pb fun x hx y hy=>by
   obtain⟨j,h1,h2,e1⟩:=X3 (rk:=rk) hx;obtain⟨i,h3,h4,e2⟩:=X3 (rk:=rk) hy;have:j=0:=by omega
   rw[e1,e2,this];exact Vj (Vv h0) (ua 0 i (by omega) h4)
 have pushA:∀ (out:Array Keyed) (ia ib:Nat) (hi:ia < a.size),Mh rk a.toList b.toList out.toList.reverse (ia+1) ib->ib<=b.size->(0 < ib->K rk b (ib - 1)<=K rk a ia)->Mh rk a.toList b.toList (out.push a[ia]).toList.reverse ia ib:=fun out ia ib hi m hib hle=>by
  have:=m.takeA pa ia (by omega) fun x hx y hy=>by
   obtain⟨j,h1,h2,e1⟩:=X3 (rk:=rk) hx;obtain⟨i,h3,h4,e2⟩:=Yn (rk:=rk) hy;have:i=0:=by omega
   subst this;rw[e1,e2];exact Vj (ub j (ib - 1) (by omega) (by omega)) (hle (by omega))
  rw[show ia+1 - ia=1 by omega,Ya hi]at this
  rw[Array.toList_push,reverse_append];exact this
 replace pushA:∀ (out:Array Keyed) (ia ib:Nat) (hi:ia - 1 < a.size),0 < ia->Mh rk a.toList b.toList out.toList.reverse ia ib->ib<=b.size->(0 < ib->K rk b (ib - 1)<=K rk a (ia - 1))->Mh rk a.toList b.toList (out.push a[ia - 1]).toList.reverse (ia - 1) ib:=fun out ia ib hi h0 m h1 h2=>pushA out (ia - 1) ib hi (by rw[Nat.sub_add_cancel h0];exact m) h1 h2
 have pushB:∀ (out:Array Keyed) (ia ib:Nat) (hi:ib < b.size),Mh rk a.toList b.toList out.toList.reverse ia (ib+1)->ia<=a.size->(0 < ia->K rk a (ia - 1)<=K rk b ib)->Mh rk a.toList b.toList (out.push b[ib]).toList.reverse ia ib:=fun out ia ib hi m hia hle=>by
  have:=m.takeB pb ib (by omega) fun x hx y hy=>by
   obtain⟨j,h1,h2,e1⟩:=X3 (rk:=rk) hx;obtain⟨i,h3,h4,e2⟩:=Yn (rk:=rk) hy;have:i=0:=by omega
   subst this;rw[e1,e2];exact Vj (ua j (ia - 1) (by omega) (by omega)) (hle (by omega))
  rw[show ib+1 - ib=1 by omega,Ya hi]at this
  rw[Array.toList_push,reverse_append];exact this
 replace pushB:∀ (out:Array Keyed) (ia ib:Nat) (hi:ib - 1 < b.size),0 < ib->Mh rk a.toList b.toList out.toList.reverse ia ib->ia<=a.size->(0 < ia->K rk a (ia - 1)<=K rk b (ib - 1))->Mh rk a.toList b.toList (out.push b[ib - 1]).toList.reverse ia (ib - 1):=fun out ia ib hi h0 m h1 h2=>pushB out ia (ib - 1) hi (by rw[Nat.sub_add_cancel h0];exact m) h1 h2
 refine wpS_bind (wpS_lift (wpAny_rule ⟨rfl,?_⟩))
 refine wpS_bind (Qx nl ?_)
 dsimp -zeta only
 by_cases ha1:a.size - 1=0
 ·rw[if_pos (by simpa using ha1)]
  obtain⟨p,r⟩:=done _ _ b.size m0 ha1;exact wpS_pure (h _ (gallopOf st) p r)
 rw[if_neg (by simpa using ha1)]
 by_cases hb1:b.size=1
 ·rw[if_pos (by simpa using hb1)]
  obtain⟨p,r⟩:=lastB _ (a.size - 1) b.size m0 hb1;exact wpS_pure (h _ (gallopOf st) p r)
 rw[if_neg (by simpa using hb1)]
 refine wpS_bind (wpS_get (wpS_bind (wpS_mono (wpS_forRange
  (I:=fun x c st'=>∃ ia ib out g g',c=(none,ia,ib,out,g)/\st'=ZU st g'/\Mh rk a.toList b.toList (out:Array Keyed).toList.reverse ia ib/\0 < ia/\ia < a.size/\1 < ib/\ib<=b.size/\x+(ia+ib)<=a.size+b.size)
  (Q:=fun c st'=>∃ r g' z,c=(some r,z)/\st'=ZU st g'/\(r:Array Keyed).toList.Perm (a.toList++b.toList)/\Rs rk r.toList) ?step ?fin ⟨_,_,_,_,gallopOf st,rfl,rfl,m0,by omega,by omega,by omega,by omega,by omega⟩) ?post)))
 case post =>
  rintro c st' ⟨r,g',z,rfl,rfl,p,q⟩;exact wpS_pure (h r g' p q)
 case fin =>
  rintro c st' ⟨ia,ib,out,g,g',rfl,rfl,m,h1,h2,h3,h4,h5⟩
  omega
 case step =>
  rintro x c st' _ hx ⟨ia,ib,out,g,g',rfl,rfl,m,h1,h2,h3,h3',h3x⟩;dsimp -zeta only;refine wpS_bind (wpS_mono (wpS_forRange
   (I:=fun y c st'=>st'=ZU st g'/\∃ ja jb out ac bc,c=(none,ja,jb,out,ac,bc)/\Mh rk a.toList b.toList (out:Array Keyed).toList.reverse ja jb/\0 < ja/\ja < a.size/\1 < jb/\jb<=b.size/\y+(ja+jb)<=ia+ib)
   (Q:=fun c st'=>st'=ZU st g'/\((∃ ja jb out ac bc,c=(none,ja,jb,out,ac,bc)/\Mh rk a.toList b.toList (out:Array Keyed).toList.reverse ja jb/\0 < ja/\ja < a.size/\1 < jb/\jb<=b.size/\ja+jb<=ia+ib)\/∃ r z,c=(some r,z)/\(r:Array Keyed).toList.Perm (a.toList++b.toList)/\Rs rk r.toList)) ?istep ?ifin ⟨rfl,ia,ib,out,0,0,rfl,m,h1,h2,h3,h3',by omega⟩) ?ipost)
  case ifin =>
   rintro c st' ⟨rfl,ja,jb,out,ac,bc,rfl,m,h4,h5,h6,h6',h6x⟩
   omega
  case istep =>
   rintro y c st' _ hy ⟨rfl,ja,jb,out,ac,bc,rfl,m,h4,h5,h6,h6',h6x⟩;dsimp -zeta only;have ja1:ja - 1 < a.size:=by omega
   have jb1:jb - 1 < b.size:=by omega
   refine wpS_bind (Qx jb1 (wpS_bind (Qx ja1 (wpS_bind (L _ _ _ _ hk (hSb _ (Array.getElem_mem jb1)) (hSa _ (Array.getElem_mem ja1)) ?_)))))
   by_cases hw:rk b[jb - 1] < rk a[ja - 1]
   ·have m1:=pushA out ja jb ja1 h4 m h6' fun _=>by rw[QT jb1,QT ja1];exact Vv hw
    simp only[hw,decide_true,if_true];refine wpS_bind (Qx ja1 ?_)
    by_cases he:ja - 1=0
    ·rw[if_pos (by simpa using he)]
     exact wpS_pure ⟨rfl,.inr ⟨_,_,rfl,done _ (ja - 1) jb m1 he⟩⟩
    ·rw[if_neg (by simpa using he)]
     by_cases hc:ac+1 >= g
     ·rw[if_pos hc]
      exact wpS_pure ⟨rfl,.inl ⟨_,_,_,_,_,rfl,m1,by omega,by omega,h6,h6',by omega⟩⟩
     ·rw[if_neg hc]
      exact wpS_pure ⟨rfl,_,_,_,_,_,rfl,m1,by omega,by omega,h6,h6',by omega⟩
   ·have m1:=pushB out ja jb jb1 (by omega) m (by omega) fun _=>by rw[QT jb1,QT ja1];omega
    simp only[hw,decide_false,Bool.false_eq_true,if_false];refine wpS_bind (Qx jb1 ?_)
    by_cases he:jb - 1=1
    ·rw[if_pos (by simpa using he)]
     exact wpS_pure ⟨rfl,.inr ⟨_,_,rfl,lastB _ ja (jb - 1) m1 he⟩⟩
    ·rw[if_neg (by simpa using he)]
     by_cases hc:bc+1 >= g
     ·rw[if_pos hc]
      exact wpS_pure ⟨rfl,.inl ⟨_,_,_,_,_,rfl,m1,h4,h5,by omega,by omega,by omega⟩⟩
     ·rw[if_neg hc]
      exact wpS_pure ⟨rfl,_,_,_,_,_,rfl,m1,h4,h5,by omega,by omega,by omega⟩
  case ipost =>
   rintro c st' ⟨rfl,⟨ja,jb,out,ac,bc,rfl,m,h4,h5,h6,h6',h6x⟩ | ⟨r,z,rfl,p,q⟩⟩
   ·dsimp -zeta only
    refine wpS_bind (wpS_lift (wpAny_rule ⟨rfl,?_⟩))
    refine wpS_bind (wpS_mono (wpS_forRange
     (I:=fun y c st'=>∃ ka kb out g g' ac bc,c=(none,ka,kb,out,g,ac,bc)/\st'=ZU st g'/\Mh rk a.toList b.toList (out:Array Keyed).toList.reverse ka kb/\0 < ka/\ka < a.size/\1 < kb/\kb<=b.size/\y+(ka+kb)<=ja+jb)
     (Q:=fun c st'=>(∃ ka kb out g g' ac bc,c=(none,ka,kb,out,g,ac,bc)/\st'=ZU st g'/\Mh rk a.toList b.toList (out:Array Keyed).toList.reverse ka kb/\0 < ka/\ka < a.size/\1 < kb/\kb<=b.size/\ka+kb+1<=ja+jb)\/∃ r z g',c=(some r,z)/\st'=ZU st g'/\(r:Array Keyed).toList.Perm (a.toList++b.toList)/\Rs rk r.toList) ?jstep ?jfin ⟨ja,jb,out,_,g',ac,bc,rfl,rfl,m,h4,h5,h6,h6',by omega⟩) ?jpost)
    case jfin =>
     rintro c st' ⟨ka,kb,out,g,g',ac,bc,rfl,rfl,m,h7,h8,h9,h9',h9x⟩
     omega
    case jpost =>
     rintro c st' (⟨ka,kb,out,g,g',ac,bc,rfl,rfl,m,h7,h8,h9,h9',h9x⟩ | ⟨r,z,g',rfl,rfl,p,q⟩)
     ·dsimp -zeta only
      refine wpS_bind (wpS_modify (wpS_pure ⟨ka,kb,out,_,g+1,rfl,rfl,m,h7,h8,h9,h9',by omega⟩))
     ·exact wpS_pure ⟨r,g',_,rfl,rfl,p,q⟩
    case jstep =>
     intro y c st' _ hy hZ;obtain⟨ka,kb,out,g,g',ac,bc,rfl,rfl,m,h7,h8,h9,h9',h9x⟩:=hZ;refine QIb fun QQ hQ=>?_
     have qd:∀ (r:Array Keyed) z g',r.toList.Perm (a.toList++b.toList)/\Rs rk r.toList->QQ (.done (some r,z)) (ZU st g'):=fun r z g' p=>hQ _ _ (.inr ⟨r,z,g',rfl,rfl,p.1,p.2⟩)
     have qn:∀ ka' kb' (o:Array Keyed) g g' ac bc,Mh rk a.toList b.toList o.toList.reverse ka' kb'->0 < ka'->1 < kb'->ka' < ka->kb' < kb->QQ (.done (none,ka',kb',o,g,ac,bc)) (ZU st g')/\QQ (.yield (none,ka',kb',o,g,ac,bc)) (ZU st g'):=fun ka' kb' o g g' ac bc m z1 z2 z3 z4=>⟨hQ _ _ (.inl ⟨ka',kb',o,g,g',ac,bc,rfl,rfl,m,z1,by omega,z2,by omega,by omega⟩),hQ _ _ ⟨ka',kb',o,g,g',ac,bc,rfl,rfl,m,z1,by omega,z2,by omega,by omega⟩⟩
     clear hQ h9x hy h4 h5 h6 h6' h6x h1 h2 h3 h3' h3x hx;have kb1:kb - 1 < b.size:=by omega
     dsimp -zeta only
     extract_lets -underBinder c0 i1 c1 i2 c2 o1 c3 g2 c4 a2 b2 jp mg
     have hj:∀ u g1,wpS (model prog w) A E s (jp u g1) QQ (ZU st g'):=by
      intro u g1;dsimp -zeta only [jp,b2,a2,c4,g2,c3,o1,c2,i2,c1,i1,c0];clear mg jp b2 a2 c4 g2 c3 o1 c2 i2 c1 i1 c0;refine wpS_bind (wpS_modify ?_)
      refine wpS_bind (Qx kb1 (wpS_bind (QBc L hk hSa (hSb _ (Array.getElem_mem kb1)) (by omega) (by omega) (fun i j h1 h2 h3=>ua i j h2 (by omega)) fun at1 hkn q1 q2=>?_)))
      dsimp -zeta only;rw[<- QT (rk:=rk) kb1]at q1 q2;simp only[Nat.zero_add]at q1 q2;have m1:Mh rk a.toList b.toList (out++(a.extract at1 ka).reverse).toList.reverse at1 kb:=by
       rw[Array.toList_append,reverse_append,Array.toList_reverse,reverse_reverse,Je];refine m.takeA pa at1 hkn fun x hx y hy=>?_
       obtain⟨j,hj1,hj2,e1⟩:=X3 (rk:=rk) hx;obtain⟨i,hi1,hi2,e2⟩:=Yn (rk:=rk) hy;rw[e1,e2];exact Vj (ub j (kb - 1) (by omega) kb1) (Vv (q2 (at1+i) (by omega) (by omega)))
      have q3:0 < at1->K rk a (at1 - 1)<=K rk b (kb - 1):=fun hz=>q1 (at1 - 1) (by omega)
      extract_lets -underBinder k ac1 jp1 o1 i1
      have hj1:∀ u ka1 (o:Array Keyed),Mh rk a.toList b.toList o.toList.reverse ka1 kb->0 < ka1->ka1<=ka->K rk a (ka1 - 1)<=K rk b (kb - 1)->wpS (model prog w) A E s (jp1 u ka1 o) QQ (ZU st g1):=by
       intro u ka1 o m5 h10 h11 q9;dsimp -zeta only [jp1]
       clear_value ac1
       clear o1 i1 jp1 k m1 q1 q2 m hkn q3;have ha1:ka1 - 1 < a.size:=by omega
       extract_lets -underBinder nb1
       refine wpS_bind (Qx kb1 ?_)
       have m2:=pushB o ka1 kb kb1 (by omega) m5 (by omega) fun _=>q9
       clear m5 q9;dsimp -zeta only [nb1];generalize o.push b[kb - 1]=o2 at m2 ⊢;refine Z5 (fun he2=>wpS_pure (qd _ _ _ (lastB _ ka1 (kb - 1) m2 he2))) fun he2=>?_
       refine wpS_bind (Qx ha1 (wpS_bind (QCc L hk hSb (hSa _ (Array.getElem_mem ha1)) (by omega) (by omega) (fun i j h1 h2 h3=>ub i j h2 (by omega)) fun at2 hkn2 q5 q6=>?_)))
       dsimp -zeta only;rw[<- QT (rk:=rk) ha1]at q5 q6;simp only[Nat.zero_add]at q5 q6;have hat2:1<=at2:=by
        by_cases hz:1<=at2
        ·exact hz
        ·have z1:=q6 0 (by omega) (by omega)
         have z2:=ua 0 (ka1 - 1) (by omega) ha1
         omega
       have m3:Mh rk a.toList b.toList (o2++(b.extract at2 (kb - 1)).reverse).toList.reverse ka1 at2:=by
        rw[Array.toList_append,reverse_append,Array.toList_reverse,reverse_reverse,Je];refine m2.takeB pb at2 hkn2 fun x hx y hy=>?_
        obtain⟨j,hj1,hj2,e1⟩:=X3 (rk:=rk) hx;obtain⟨i,hi1,hi2,e2⟩:=Yn (rk:=rk) hy;rw[e1,e2];exact Vj (ua j (ka1 - 1) (by omega) ha1) (q6 (at2+i) (by omega) (by omega))
       extract_lets -underBinder k bc1 jp2 o3 ib3
       have hj2:∀ u kb2 (o:Array Keyed),Mh rk a.toList b.toList o.toList.reverse ka1 kb2->kb2 < kb->1 < kb2->K rk b (kb2 - 1)<=K rk a (ka1 - 1)->wpS (model prog w) A E s (jp2 u kb2 o) QQ (ZU st g1):=by
        intro u kb2 o m3 h12 h13 q7;dsimp -zeta only [jp2]
        clear_value bc1
        clear o3 ib3 jp2 k q5 q6 hat2 he2 m2 hkn2
        extract_lets -underBinder na1
        refine wpS_bind (Qx ha1 ?_)
        have m4:=pushA o ka1 kb2 ha1 h10 m3 (by omega) fun _=>q7
        refine Z5 (fun he4=>wpS_pure (qd _ _ _ (done _ (ka1 - 1) kb2 m4 he4))) fun he4=>?_
        replace he4:¬ ka1 - 1=0:=he4;have:=fun g gg ac bc=>qn _ _ _ g gg ac bc m4 (by omega) h13 (by omega) h12
        exact Yo (fun _=>wpS_pure (this _ _ _ _).1) fun _=>wpS_pure (this _ _ _ _).2
       have q7:=q5 (at2 - 1) (by omega)
       refine Yo (fun hk2=>Z5 (fun he3=>wpS_pure (qd _ _ _ (lastB _ ka1 at2 m3 he3))) fun he3=>Z5 (fun he4=>absurd (show at2=0 from he4) (by omega)) fun _=>?_) fun hk2=>?_
       ·replace he3:¬ at2=1:=he3
        exact hj2 () _ _ m3 (by omega) (by omega) (Vv q7)
       ·replace hk2:¬ kb - 1 - at2 > 0:=hk2
        rw[show at2=kb - 1 by omega]at q7
        exact hj2 () _ _ m2 (by omega) (by omega) (Vv q7)
      refine Yo (fun hk0=>Z5 (fun he=>wpS_pure (qd _ _ _ (done _ at1 kb m1 he))) fun he=>?_) fun hk0=>?_
      ·replace he:¬ at1=0:=he
       exact hj1 () _ _ m1 (by omega) hkn (q3 (by omega))
      ·replace hk0:¬ ka - at1 > 0:=hk0
       have q3:=q3 (by omega)
       rw[show at1=ka by omega]at q3
       exact hj1 () _ _ m h7 (Ve _) q3
     exact Yo (fun _=>hj () _) fun _=>hj () _
   ·exact wpS_pure ⟨r,g',_,rfl,rfl,p,q⟩
end
end SortB
end
section
namespace SortB
open PySem PySem.W PyProof.Rows
def Up(rk:Keyed->Nat)(a:Array Keyed)(lo hi:Nat):Prop:=∀ i j,lo<=i->i<=j->j < hi->K rk a i<=K rk a j
structure Ch(rk:Keyed->Nat)(lo hi:Nat)(a b:Array Keyed):Prop where
 perm:b.Perm a
 out:∀ j,j < lo\/hi<=j->K rk b j=K rk a j
section
variable{rk:Keyed->Nat}{a b c:Array Keyed}{lo hi lo' hi' i j k n:Nat}
theorem Ch.refl:Ch rk lo hi a a:=⟨Array.Perm.refl _,fun _ _=>rfl⟩
theorem Ch.size(h:Ch rk lo hi a b):b.size=a.size:=h.perm.size_eq
theorem Ch.trans(h:Ch rk lo hi a b)(h':Ch rk lo hi b c):Ch rk lo hi a c:=⟨h'.perm.trans h.perm,fun j hj=>(h'.out j hj).trans (h.out j hj)⟩
theorem Ch.mono(h:Ch rk lo hi a b)(h1:lo'<=lo)(h2:hi<=hi'):Ch rk lo' hi' a b:=⟨h.perm,fun j hj=>h.out j (by omega)⟩
theorem Ch.all{S:Keyed->Prop}(h:Ch rk lo hi a b)(hS:∀ x∈a,S x):∀ x∈b,S x:=fun x hx=>hS x (h.perm.mem_iff.mp hx)
theorem QJb(hj:j<=a.size)(k:Nat):K rk (mirror a i j ((j - i) / 2)) k=if i<=k/\k < j then K rk a (i+j - 1 - k) else K rk a k:=by
 have e:=getElem?_mirror_all (i:=i) hj k
 split at e
 ·rename_i h;rw[if_pos h];exact XSa e
 ·rename_i h;rw[if_neg h];exact XSa e
theorem Jub{src d:Nat}(hs:src < a.size)(hd:d<=src)(k:Nat):K rk (bubble a src d) k=if k=src - d then K rk a src else if src - d < k/\k<=src then K rk a (k - 1) else K rk a k:=by
 have e:=getElem?_bubble hs d hd k
 by_cases h1:k=src - d
 ·rw[if_pos h1]at e ⊢;exact XSa e
 ·rw[if_neg h1]at e ⊢
  by_cases h2:src - d < k/\k<=src
  ·rw[if_pos h2]at e ⊢;exact XSa e
  ·rw[if_neg h2]at e ⊢;exact XSa e
theorem Ch.rev(hj:j<=a.size)(h1:lo<=i)(h2:j<=hi):Ch rk lo hi a (mirror a i j ((j - i) / 2)) :=
 ⟨mirror_perm _ _ _ _,fun k hk=>by rw[QJb hj,if_neg (by omega)]⟩
theorem Ch.bub{src d:Nat}(hs:src < a.size)(hd:d<=src)(h1:lo<=src - d)(h2:src < hi):Ch rk lo hi a (bubble a src d) :=
 ⟨bubble_perm _ _ _,fun k hk=>by rw[Jub hs hd,if_neg (by omega),if_neg (by omega)]⟩
theorem Up.ext(u:Up rk a lo hi)(h:∀ i,lo<=i->i < hi->K rk b i=K rk a i):Up rk b lo hi:=fun i j h1 h2 h3=>by
 rw[h i h1 (by omega),h j (by omega) h3];exact u i j h1 h2 h3
theorem Up.rs(u:Up rk a lo hi)(hh:hi<=a.size):Rs rk (a.extract lo hi).toList:=by
 refine pairwise_iff_getElem.mpr ?_
 intro i j hi' hj' hij;simp only[Array.length_toList,Array.size_extract]at hi' hj';have:=u (lo+i) (lo+j) (by omega) (by omega) (by omega)
 rw[QT (by omega),QT (by omega)]at this
 simpa using this
theorem QKb(h:lo+i < hi)(hh:hi<=a.size):K rk (a.extract lo hi) i=K rk a (lo+i):=by
 have e:i < (a.extract lo hi).size:=by rw[Array.size_extract];omega
 rw[QT e,QT (by omega)]
 simp
theorem QLb{x:Keyed}(h:x∈a.extract lo hi):x∈a:=by
 have:=Array.mem_toList_iff.mpr h;rw[Je]at this;exact Array.mem_toList_iff.mp (mem_of_mem_drop (mem_of_mem_take this))
theorem QMb(m:List Keyed):∀ (a:Array Keyed) (sa n:Nat),sa+n+m.length<=a.size->∀ i:Nat,((m.zipIdx n).foldl (fun a (x:Keyed×Nat)=>a.setIfInBounds (sa+x.2) x.1) a)[i]?=if sa+n<=i/\i < sa+n+m.length then m[i - (sa+n)]? else a[i]?:=by
 induction m with
 | nil=>intro a sa n _ i;rw[if_neg (by simp)];simp
 | cons x m ih =>
  intro a sa n hs i;rw[length_cons]at hs ⊢;rw[zipIdx_cons,foldl_cons,ih (a.setIfInBounds (sa+n) x) sa (n+1) (by simp;omega)]
  by_cases h1:i=sa+n
  ·subst h1
   rw[if_neg (by omega),if_pos (by omega)]
   simp[show sa+n < a.size by omega]
  ·by_cases h2:sa+n<=i/\i < sa+n+(m.length+1)
   ·rw[if_pos h2,if_pos (by omega),show i - (sa+n)=(i - (sa+(n+1)))+1 by omega,getElem?_cons_succ]
   ·rw[if_neg h2,if_neg (by omega),Array.getElem?_setIfInBounds_ne (by omega)]
theorem Jvb(m:List Keyed)(a:Array Keyed)(sa:Nat)(h:sa+m.length<=a.size):(m.zipIdx.foldl (fun a (x:Keyed×Nat)=>a.setIfInBounds (sa+x.2) x.1) a).toList=a.toList.take sa++m++a.toList.drop (sa+m.length):=by
 apply ext_getElem?
 intro i;have e:=QMb m a sa 0 (by omega) i
 rw[Array.getElem?_toList,e]
 simp only[Nat.add_zero];rw[Vq]
 by_cases h1:i < sa
 ·rw[if_neg (by omega),getElem?_append_left (by simp;omega),getElem?_take_of_lt h1];simp
 ·rw[getElem?_append_right (by simp;omega)]
  have e2:(a.toList.take sa).length=sa:=by simp;omega
  rw[e2]
  by_cases h2:i < sa+m.length
  ·rw[if_pos (by omega),getElem?_append_left (by omega)]
  ·rw[if_neg (by omega),getElem?_append_right (by omega),getElem?_drop,Array.getElem?_toList]
   congr 1;omega
end
section
variable{prog:Program}{w:World}{A:Around}{E:YQ_}{s:Shared}{κ:SortKind}{rk:Keyed->Nat}{S:Keyed->Prop}
theorem Y7b{M:Model}{σ:Type}{v st:σ}{Q:PUnit->σ->Prop}(h:Q ⟨⟩ v):wpS M A E s (set v:StateT σ Sem PUnit) Q st:=by
 unfold wpS;rw[StateT.run_set];exact Vg ⟨rfl,h⟩
theorem XVa(L:XZ prog w A E s κ rk S){st:SortSt}{i sa na p nb q:Nat}{Q:Bool->SortSt->Prop}(hk:kindOf st=κ)(hf:failedOf st=none)(hS:∀ x∈arrOf st,S x)(hp1:(pendingOf st)[i]?=some (sa,na,p))(hp2:(pendingOf st)[i+1]?=some (sa+na,nb,q))
 (na0:0 < na) (nb0:0 < nb) (hsz:sa+na+nb<=(arrOf st).size) (uA:Up rk (arrOf st) sa (sa+na)) (uB:Up rk (arrOf st) (sa+na) (sa+na+nb))
 (h:∀ a' g,Ch rk sa (sa+na+nb) (arrOf st) a'->Up rk a' sa (sa+na+nb)->Q true (SortSt.mk' κ a' (((pendingOf st).setIfInBounds i (sa,na+nb,p)).eraseIdxIfInBounds (i+1)) g none)):wpS (model prog w) A E s (mergeAt' i) Q st:=by
 rcases st with ⟨kd,a,pd0,g0,f0⟩
 change kd=κ at hk;change f0=none at hf;change ∀ x∈a,S x at hS;change pd0[i]?=some (sa,na,p) at hp1;change pd0[i+1]?=some (sa+na,nb,q) at hp2;change sa+na+nb<=a.size at hsz;change Up rk a sa (sa+na) at uA;change Up rk a (sa+na) (sa+na+nb) at uB;change ∀ a' g,Ch rk sa (sa+na+nb) a a'->Up rk a' sa (sa+na+nb)->Q true (SortSt.mk' κ a' ((pd0.setIfInBounds i (sa,na+nb,p)).eraseIdxIfInBounds (i+1)) g none) at h;subst hk hf;refine wpS_bind (wpS_get ?_)
 have e1:(pd0[i]?,pd0[i+1]?)=(some (sa,na,p),some (sa+na,nb,q)):=by rw[hp1,hp2]
 dsimp only;rw[e1];dsimp only;generalize (pd0.setIfInBounds i (sa,na+nb,p)).eraseIdxIfInBounds (i+1)=pd at h ⊢;have sb1:sa+na < a.size:=by omega
 have kk:∀ (x:Array Keyed) (pd:Array (Nat×Nat×Nat)) (g:Nat) (f:Option Value),kindOf (SortSt.mk' kd x pd g f)=kd:=fun _ _ _ _=>rfl
 refine wpS_bind (Y7b (wpS_bind (Qx sb1 (wpS_bind (QBc L (kk _ _ _ _) hS (hS _ (Array.getElem_mem sb1)) (by omega) na0 (fun i j h1 h2 h3=>uA i j h1 h2 h3) fun k hkn q1 q2=>?_)))))
 rw[<- QT (rk:=rk) sb1]at q1 q2;dsimp only
 by_cases hn:na - k=0
 ·rw[if_pos (by simpa using hn)]
  refine wpS_pure (h a _ Ch.refl fun i j h1 h2 h3=>?_)
  by_cases hj:j < sa+na
  ·exact uA i j h1 h2 hj
  ·by_cases hi:i < sa+na
   ·have z:=q1 (i - sa) (by omega)
    rw[show sa+(i - sa)=i by omega]at z
    exact Vj z (uB (sa+na) j (Ve _) (by omega) h3)
   ·exact uB i j (by omega) h2 h3
 rw[if_neg (by simpa using hn)]
 have la1:sa+k+(na - k) - 1 < a.size:=by omega
 refine wpS_bind (Qx la1 (wpS_bind (QCc L (kk _ _ _ _) hS (hS _ (Array.getElem_mem la1)) (by omega) (by omega) (fun i j h1 h2 h3=>uB i j h1 h2 h3) fun nb' hkn' q3 q4=>?_)))
 rw[<- QT (rk:=rk) la1,show sa+k+(na - k) - 1=sa+na - 1 by omega]at q3 q4
 dsimp only
 by_cases hn':nb'=0
 ·rw[if_pos (by simpa using hn')]
  refine wpS_pure (h a _ Ch.refl fun i j h1 h2 h3=>?_)
  by_cases hj:j < sa+na
  ·exact uA i j h1 h2 hj
  ·by_cases hi:i < sa+na
   ·have z:=q4 (j - (sa+na)) (by omega) (by omega)
    rw[show sa+na+(j - (sa+na))=j by omega]at z
    exact Vj (uA i (sa+na - 1) h1 (by omega) (by omega)) z
   ·exact uB i j (by omega) h2 h3
 rw[if_neg (by simpa using hn')]
 have xs:(a.extract (sa+k) (sa+na)).size=na - k:=by rw[Array.size_extract];omega
 have ys:(a.extract (sa+na) (sa+na+nb')).size=nb':=by rw[Array.size_extract];omega
 have px:Rs rk (a.extract (sa+k) (sa+na)).toList:=Up.rs (fun i j h1 h2 h3=>uA i j (by omega) h2 h3) (by omega)
 have py:Rs rk (a.extract (sa+na) (sa+na+nb')).toList:=Up.rs (fun i j h1 h2 h3=>uB i j h1 h2 (by omega)) (by omega)
 have sx:∀ x∈a.extract (sa+k) (sa+na),S x:=fun x hx=>hS x (QLb hx)
 have sy:∀ x∈a.extract (sa+na) (sa+na+nb'),S x:=fun x hx=>hS x (QLb hx)
 have h0:K rk (a.extract (sa+na) (sa+na+nb')) 0 < K rk (a.extract (sa+k) (sa+na)) 0:=by
  rw[QKb (by omega) (by omega),QKb (by omega) (by omega)]
  exact q2 k (Ve _) (by omega)
 have hl:∀ i,i < (a.extract (sa+na) (sa+na+nb')).size->K rk (a.extract (sa+na) (sa+na+nb')) i < K rk (a.extract (sa+k) (sa+na)) ((a.extract (sa+k) (sa+na)).size - 1):=fun i hi=>by
  rw[ys]at hi;rw[xs,QKb (by omega) (by omega),QKb (by omega) (by omega),show sa+k+(na - k - 1)=sa+na - 1 by omega]
  exact q3 i hi
 have fin:∀ (m:Array Keyed) (g:Nat),m.toList.Perm ((a.extract (sa+k) (sa+na)).toList++(a.extract (sa+na) (sa+na+nb')).toList)->Rs rk m.toList ->
  Q true (SortSt.mk' kd (m.toList.zipIdx.foldl (fun a (x:Keyed×Nat)=>a.setIfInBounds (sa+k+x.2) x.1) a) pd g none):=fun m g pm rm=>by
  have ml:m.toList.length=na - k+nb':=by rw[pm.length_eq,Vs,Array.length_toList,Array.length_toList,xs,ys]
  have gl:=Jvb m.toList a (sa+k) (by omega)
  have gg:=QMb m.toList a (sa+k) 0 (by omega)
  simp only[Nat.add_zero]at gg;generalize hb:m.toList.zipIdx.foldl (fun a (x:Keyed×Nat)=>a.setIfInBounds (sa+k+x.2) x.1) a=b at gl gg ⊢
  have out:∀ j,j < sa+k\/sa+na+nb'<=j->K rk b j=K rk a j:=fun j hj=>XSa (by rw[gg j,if_neg (by omega)])
  have ins:∀ j,sa+k<=j->j < sa+na+nb'->K rk b j=K rk m (j - (sa+k)):=fun j h1 h2=>XSa (by rw[gg j,if_pos (by omega),Array.getElem?_toList])
  have bnd:∀ j,sa+k<=j->j < sa+na+nb'->K rk a (sa+na)<=K rk b j/\K rk b j<=K rk a (sa+na - 1):=fun j h1 h2=>by
   have hm:j - (sa+k) < m.size:=by rw[<- Array.length_toList,ml];omega
   rw[ins j h1 h2,QT hm];have hin:=pm.mem_iff.mp (Array.mem_toList_iff.mpr (Array.getElem_mem hm))
   rcases Vl.mp hin with hx | hx
   ·obtain⟨t,ht,e⟩:=getElem_of_mem hx
    rw[Array.length_toList,xs]at ht;have e':rk m[j - (sa+k)]=K rk a (sa+k+t):=by
     rw[<- e,QT (by omega)];simp
    rw[e'];exact⟨Vv (by have:=q2 (k+t) (by omega) (by omega);rwa [<- Nat.add_assoc]at this),uA _ _ (by omega) (by omega) (by omega)⟩
   ·obtain⟨t,ht,e⟩:=getElem_of_mem hx
    rw[Array.length_toList,ys]at ht;have e':rk m[j - (sa+k)]=K rk a (sa+na+t):=by
     rw[<- e,QT (by omega)];simp
    rw[e'];exact⟨uB _ _ (by omega) (by omega) (by omega),Vv (q3 t ht)⟩
  refine h b g ⟨Array.perm_iff_toList_perm.mpr ?_,fun j hj=>out j (by omega)⟩ fun i j h1 h2 h3=>?_
  ·rw[gl,ml]
   have ea:a.toList=a.toList.take (sa+k)++((a.extract (sa+k) (sa+na)).toList++(a.extract (sa+na) (sa+na+nb')).toList)++a.toList.drop (sa+k+(na - k+nb')):=by
    rw[Je,Je,Vq,Vq];rw[show sa+na+nb' - (sa+na)=nb' by omega,show sa+k+(na - k+nb')=sa+na+nb' by omega,<- Zta a.toList (sa+na) nb',<- YUa (show sa+k<=sa+na by omega),take_append_drop]
   exact((pm.append_left _).append_right _).trans (List.Perm.of_eq ea.symm)
  ·by_cases ci:i < sa+k
   ·rw[out i (by omega)]
    have z:=q1 (i - sa) (by omega)
    rw[show sa+(i - sa)=i by omega]at z
    by_cases cj:j < sa+k
    ·rw[out j (by omega)];exact uA i j h1 h2 (by omega)
    ·by_cases cj2:j < sa+na+nb'
     ·exact Vj z (bnd j (by omega) cj2).1
     ·rw[out j (by omega)]
      exact Vj z (uB _ _ (by omega) (by omega) h3)
   ·by_cases ci2:i < sa+na+nb'
    ·by_cases cj2:j < sa+na+nb'
     ·rw[ins i (by omega) ci2,ins j (by omega) cj2]
      exact rm.le (by omega) (by rw[<- Array.length_toList,ml];omega)
     ·rw[out j (by omega)]
      have z:=q4 (j - (sa+na)) (by omega) (by omega)
      rw[show sa+na+(j - (sa+na))=j by omega]at z
      exact Vj (bnd i (by omega) ci2).2 z
    ·rw[out i (by omega),out j (by omega)]
     exact uB i j (by omega) h2 h3
 split
 ·refine wpS_bind (XTa L (kk _ _ _ _) sx sy (by omega) (by omega) px py (Vv h0) hl fun m g pm rm=>?_)
  exact wpS_bind (wpS_modify (wpS_bind (wpS_get (wpS_pure (fin m g pm rm)))))
 ·refine wpS_bind (XUa L (kk _ _ _ _) sx sy (by omega) (by omega) px py h0 hl fun m g pm rm=>?_)
  exact wpS_bind (wpS_modify (wpS_bind (wpS_get (wpS_pure (fin m g pm rm)))))
end
end SortB
end
section
namespace SortB
open PySem PySem.W PyProof.Rows
section
variable{prog:Program}{w:World}{A:Around}{E:YQ_}{s:Shared}{κ:SortKind}{rk:Keyed->Nat}{S:Keyed->Prop}
abbrev mk(κ:SortKind)(a:Array Keyed)(pd:Array (Nat×Nat×Nat))(g:Nat):SortSt:=SortSt.mk' κ a pd g none
theorem Zsb(L:XZ prog w A E s κ rk S){a:Array Keyed}{pd:Array (Nat×Nat×Nat)}{g i j:Nat}{Q:Option Bool->SortSt->Prop}(hS:∀ x∈a,S x)(hi:i < a.size)(hj:j < a.size)
 (h:Q (some (decide (K rk a i < K rk a j))) (mk κ a pd g)):wpS (model prog w) A E s (ltAt' i j) Q (mk κ a pd g):=QAc L rfl hS hi hj h
theorem J0a{a:Array Keyed}{pd:Array (Nat×Nat×Nat)}{g i j:Nat}{Q:Unit->SortSt->Prop}(h:Q () (mk κ (mirror a i j ((j - i) / 2)) pd g)):wpS (model prog w) A E s (reverseSlice' i j) Q (mk κ a pd g):=wpS_modify h
def Dn(rk:Keyed->Nat)(a:Array Keyed)(lo hi:Nat):Prop:=∀ i j,lo<=i->i<=j->j < hi->K rk a j<=K rk a i
theorem Up.step{a:Array Keyed}{lo n:Nat}(u:Up rk a lo (lo+n))(hn:1<=n)(h:¬ K rk a (lo+n) < K rk a (lo+n - 1)):Up rk a lo (lo+(n+1)):=fun i j h1 h2 h3=>by
 by_cases hj:j < lo+n
 ·exact u i j h1 h2 hj
 ·have:j=lo+n:=by omega
  subst this
  by_cases hi:i=lo+n
  ·rw[hi];exact Ve _
  ·have:=u i (lo+n - 1) h1 (by omega) (by omega);omega
theorem Dn.step{a:Array Keyed}{lo n:Nat}(u:Dn rk a lo (lo+n))(hn:1<=n)(h:K rk a (lo+n)<=K rk a (lo+n - 1)):Dn rk a lo (lo+(n+1)):=fun i j h1 h2 h3=>by
 by_cases hj:j < lo+n
 ·exact u i j h1 h2 hj
 ·have:j=lo+n:=by omega
  subst this
  by_cases hi:i=lo+n
  ·rw[hi];exact Ve _
  ·have:=u i (lo+n - 1) h1 (by omega) (by omega);omega
theorem Zua{a:Array Keyed}{i j:Nat}(hj:j<=a.size)(e:∀ k,i<=k->k < j->K rk a k=K rk a (j - 1))(k:Nat):K rk (mirror a i j ((j - i) / 2)) k=K rk a k:=by
 rw[QJb hj]
 by_cases h:i<=k/\k < j
 ·rw[if_pos h,e _ (by omega) (by omega),e k h.1 h.2]
 ·rw[if_neg h]
theorem YVa(L:XZ prog w A E s κ rk S){a:Array Keyed}{pd:Array (Nat×Nat×Nat)}{g lo nrem:Nat}{Q:Option Nat->SortSt->Prop}(hS:∀ x∈a,S x)(h1:1<=nrem)(hsz:lo+nrem<=a.size)
 (h:∀ m b,1<=m->m<=nrem->Ch rk lo (lo+nrem) a b->Up rk b lo (lo+m)->Q (some m) (mk κ b pd g)):wpS (model prog w) A E s (countRun' lo nrem) Q (mk κ a pd g):=by
 have ll:lo+1 - 1=lo:=by omega
 refine wpS_bind (wpS_mono (wpS_forRange (I:=fun x c st'=>st'=mk κ a pd g/\c=(none,x)/\Up rk a lo (lo+x))
  (Q:=fun c st'=>st'=mk κ a pd g/\∃ n,c=(none,n)/\1<=n/\n<=nrem/\Up rk a lo (lo+n)/\(n=nrem\/K rk a (lo+n) < K rk a (lo+n - 1))) ?step ?fin ⟨rfl,rfl,fun i j h1 h2 h3=>by rw[show i=j by omega];exact Ve _⟩) ?post)
 case step =>
  rintro x c st' hx1 hx2 ⟨rfl,rfl,u⟩;dsimp only;refine wpS_bind (Zsb L hS (by omega) (by omega) ?_)
  by_cases hw:K rk a (lo+x) < K rk a (lo+x - 1)
  ·simp only[hw,decide_true,if_true]
   exact wpS_pure ⟨rfl,x,rfl,hx1,by omega,u,.inr hw⟩
  ·simp only[hw,decide_false,Bool.false_eq_true,if_false]
   exact wpS_pure ⟨rfl,rfl,u.step hx1 hw⟩
 case fin =>
  rintro c st' ⟨rfl,rfl,u⟩;have e:max 1 nrem=nrem:=by omega
  exact⟨rfl,_,rfl,by omega,by omega,u,.inl e⟩
 case post =>
  rintro c st' ⟨rfl,n,rfl,hn1,hn2,u,hor⟩;dsimp only
  by_cases hnn:n=nrem
  ·rw[if_pos (by simpa using hnn)]
   exact wpS_pure (h n a hn1 hn2 Ch.refl u)
  rw[if_neg (by simpa using hnn)]
  have hlt:=hor.resolve_left hnn
  suffices D:∀ b:Array Keyed,Ch rk lo (lo+nrem) a b->Dn rk b lo (lo+(n+1))->wpS (model prog w) A E s _ Q (mk κ b pd g) by
   by_cases hg:n > 1
   ·rw[if_pos hg]
    refine wpS_bind (Zsb L hS (by omega) (by omega) ?_)
    by_cases hr:K rk a lo < K rk a (lo+n - 1)
    ·simp only[hr,decide_true,if_true]
     exact wpS_pure (h n a hn1 hn2 Ch.refl u)
    ·simp only[hr,decide_false,Bool.false_eq_true,if_false]
     have eq:∀ k,lo<=k->k < lo+n->K rk a k=K rk a (lo+n - 1):=fun k h1 h2=>by
      have a1:=u lo k (Ve _) h1 h2;have a2:=u k (lo+n - 1) h1 (by omega) (by omega)
      omega
     have rs:=Zua (rk:=rk) (a:=a) (i:=lo) (j:=lo+n) (by omega) eq
     refine wpS_bind (J0a (D _ (Ch.rev (by omega) (Ve _) (by omega)) ?_))
     refine Dn.step (fun i j h1 h2 h3=>?_) hn1 ?_
     ·rw[rs,rs,eq i h1 (by omega),eq j (by omega) h3];exact Ve _
     ·rw[rs,rs];exact Vv hlt
   ·rw[if_neg hg]
    have:n=1:=by omega
    subst this;exact D a Ch.refl (Dn.step (fun i j h1 h2 h3=>by rw[show i=j by omega];exact Ve _) (Ve _) (Vv hlt))
  intro b cb db;refine wpS_bind (wpS_lift (wpAny_rule ⟨rfl,?_⟩))
  refine wpS_bind (wpS_mono (wpS_forRange (I:=fun x c st'=>∃ b' q,c=(none,x,q)/\st'=mk κ b' pd g/\Ch rk lo (lo+nrem) a b'/\Dn rk b' lo (lo+x)/\q+1<=x/\∀ i,lo+x - (q+1)<=i->i < lo+x->K rk b' i=K rk b' (lo+x - 1))
   (Q:=fun c st'=>∃ b' n' q,c=(none,n',q)/\st'=mk κ b' pd g/\n'<=nrem/\Ch rk lo (lo+nrem) a b'/\Dn rk b' lo (lo+n')/\q+1<=n'/\∀ i,lo+n' - (q+1)<=i->i < lo+n'->K rk b' i=K rk b' (lo+n' - 1)) ?dstep ?dfin ⟨b,0,rfl,rfl,cb,db,by omega,fun i h1 h2=>by congr 1;omega⟩) ?dpost)
  case dfin =>
   rintro c st' ⟨b',q,rfl,rfl,cb,db,hq,he⟩;exact⟨b',_,q,rfl,rfl,by omega,cb,db,hq,he⟩
  case dstep =>
   rintro x c st' hx1 hx2 ⟨b',q,rfl,rfl,cb,db,hq,he⟩;dsimp only;have bs:=cb.size;have hS':=cb.all hS;refine wpS_bind (Zsb L hS' (by omega) (by omega) ?_)
   by_cases hw:K rk b' (lo+x) < K rk b' (lo+x - 1)
   ·simp only[hw,decide_true,if_true]
    have one:∀ (y:Array Keyed) i,lo+(x+1) - (0+1)<=i->i < lo+(x+1)->K rk y i=K rk y (lo+(x+1) - 1):=fun y i h1 h2=>by congr 1;omega
    by_cases hq0:q > 0
    ·rw[if_pos hq0]
     have rs:=Zua (rk:=rk) (a:=b') (i:=lo+x - (q+1)) (j:=lo+x) (by omega) he
     refine wpS_bind (J0a (wpS_pure ⟨_,0,rfl,rfl,cb.trans (Ch.rev (by omega) (by omega) (by omega)),?_,by omega,one _⟩))
     refine Dn.step (fun i j h1 h2 h3=>?_) (by omega) ?_
     ·rw[rs,rs];exact db i j h1 h2 h3
     ·rw[rs,rs];exact Vv hw
    ·rw[if_neg hq0]
     exact wpS_pure ⟨b',0,rfl,rfl,cb,db.step (by omega) (Vv hw),by omega,one _⟩
   ·simp only[hw,decide_false,Bool.false_eq_true,if_false]
    refine wpS_bind (Zsb L hS' (by omega) (by omega) ?_)
    by_cases hv:K rk b' (lo+x - 1) < K rk b' (lo+x)
    ·simp only[hv,decide_true,if_true]
     exact wpS_pure ⟨b',x,q,rfl,rfl,by omega,cb,db,hq,he⟩
    ·simp only[hv,decide_false,Bool.false_eq_true,if_false]
     have e2:K rk b' (lo+x)=K rk b' (lo+x - 1):=by omega
     refine wpS_pure ⟨b',q+1,rfl,rfl,cb,db.step (by omega) (by omega),by omega,fun i h1 h2=>?_⟩
     rw[show lo+(x+1) - 1=lo+x by omega]
     by_cases hi:i=lo+x
     ·rw[hi]
     ·rw[e2];exact he i (by omega) (by omega)
  case dpost =>
   rintro c st' ⟨b',n',q,rfl,rfl,hn',cb,db,hq,he⟩;dsimp only;have bs:=cb.size
   suffices T:∀ c:Array Keyed,Ch rk lo (lo+nrem) a c->Dn rk c lo (lo+n')->wpS (model prog w) A E s _ Q (mk κ c pd g) by
    by_cases hq0:q > 0
    ·rw[if_pos hq0]
     have rs:=Zua (rk:=rk) (a:=b') (i:=lo+n' - (q+1)) (j:=lo+n') (by omega) he
     refine wpS_bind (J0a (T _ (cb.trans (Ch.rev (by omega) (by omega) (by omega))) fun i j h1 h2 h3=>?_))
     rw[rs,rs];exact db i j h1 h2 h3
    ·rw[if_neg hq0]
     exact T b' cb db
   intro c cc dc;have cs:=cc.size;refine wpS_bind (J0a ?_)
   have ce:Ch rk lo (lo+nrem) a (mirror c lo (lo+n') ((lo+n' - lo) / 2)):=cc.trans (Ch.rev (by omega) (Ve _) (by omega))
   have ue:Up rk (mirror c lo (lo+n') ((lo+n' - lo) / 2)) lo (lo+n'):=fun i j h1 h2 h3=>by
    rw[QJb (by omega),QJb (by omega),if_pos (by omega),if_pos (by omega)]
    exact dc _ _ (by omega) (by omega) (by omega)
   generalize mirror c lo (lo+n') ((lo+n' - lo) / 2)=e at ce ue ⊢;have es:=ce.size;refine wpS_bind (wpS_mono (wpS_forRange (I:=fun x c st'=>st'=mk κ e pd g/\c=(none,x)/\Up rk e lo (lo+x))
    (Q:=fun c st'=>st'=mk κ e pd g/\∃ n,c=(none,n)/\1<=n/\n<=nrem/\Up rk e lo (lo+n)) ?estep ?efin ⟨rfl,rfl,ue⟩) ?epost)
   case estep =>
    rintro x c st' hx1 hx2 ⟨rfl,rfl,u⟩;dsimp only;refine wpS_bind (Zsb L (ce.all hS) (by omega) (by omega) ?_)
    by_cases hw:K rk e (lo+x) < K rk e (lo+x - 1)
    ·simp only[hw,decide_true,if_true]
     exact wpS_pure ⟨rfl,x,rfl,by omega,by omega,u⟩
    ·simp only[hw,decide_false,Bool.false_eq_true,if_false]
     exact wpS_pure ⟨rfl,rfl,u.step (by omega) hw⟩
   case efin =>
    rintro c st' ⟨rfl,rfl,u⟩;exact⟨rfl,_,rfl,by omega,by omega,u⟩
   case epost =>
    rintro c st' ⟨rfl,m,rfl,hm1,hm2,u⟩;exact wpS_pure (h m e hm1 hm2 ce u)
theorem Z6a(L:XZ prog w A E s κ rk S){a:Array Keyed}{pd:Array (Nat×Nat×Nat)}{g lo n ok:Nat}{Q:Bool->SortSt->Prop}(hS:∀ x∈a,S x)(hsz:lo+n<=a.size)(hok:1<=ok)(hn:ok<=n)(u:Up rk a lo (lo+ok))
 (h:∀ b,Ch rk lo (lo+n) a b->Up rk b lo (lo+n)->Q true (mk κ b pd g)):wpS (model prog w) A E s (binarySort' lo n ok) Q (mk κ a pd g):=by
 refine wpS_bind (wpS_mono (wpS_forRange (I:=fun x c st'=>c=(none,())/\∃ b,st'=mk κ b pd g/\Ch rk lo (lo+n) a b/\Up rk b lo (lo+x)) (Q:=fun c st'=>c=(none,())/\∃ b,st'=mk κ b pd g/\Ch rk lo (lo+n) a b/\Up rk b lo (lo+n)) ?step ?fin ⟨rfl,a,rfl,Ch.refl,by rw[show max ok 1=ok by omega];exact u⟩) ?post)
 case fin =>
  rintro c st' ⟨rfl,b,rfl,cb,ub⟩;rw[show max (max ok 1) n=n by omega]at ub
  exact⟨rfl,b,rfl,cb,ub⟩
 case post =>
  rintro c st' ⟨rfl,b,rfl,cb,ub⟩;exact wpS_pure (h b cb ub)
 case step =>
  rintro k c st' hk1 hk2 ⟨rfl,b,rfl,cb,ub⟩;have bs:=cb.size;dsimp only;refine wpS_bind (wpS_mono (wpS_forRange (I:=fun x c st'=>st'=mk κ b pd g/\∃ l r,c=(none,l,r)/\l<=r/\r<=k/\r - l<=k - x/\(∀ i,lo<=i->i < lo+l->K rk b i<=K rk b (lo+k))/\∀ i,lo+r<=i->i < lo+k->K rk b (lo+k) < K rk b i)
   (Q:=fun c st'=>st'=mk κ b pd g/\∃ l r,c=(none,l,r)/\l<=k/\(∀ i,lo<=i->i < lo+l->K rk b i<=K rk b (lo+k))/\∀ i,lo+l<=i->i < lo+k->K rk b (lo+k) < K rk b i) ?istep ?ifin ⟨rfl,0,k,rfl,by omega,by omega,by omega,fun i h1 h2=>by omega,fun i h1 h2=>by omega⟩) ?ipost)
  case ifin =>
   rintro c st' ⟨rfl,l,r,rfl,h1,h2,h3,h4,h5⟩;have:l=r:=by omega
   subst this;exact⟨rfl,l,l,rfl,h2,h4,h5⟩
  case istep =>
   rintro x c st' _ hx ⟨rfl,l,r,rfl,h1,h2,h3,h4,h5⟩;dsimp only
   by_cases hge:l >= r
   ·rw[if_pos hge]
    have:l=r:=by omega
    subst this;exact wpS_pure ⟨rfl,l,l,rfl,h2,h4,h5⟩
   ·rw[if_neg hge]
    refine wpS_bind (Zsb L (cb.all hS) (by omega) (by omega) ?_)
    by_cases hw:K rk b (lo+k) < K rk b (lo+(l+r) / 2)
    ·simp only[hw,decide_true,if_true]
     exact wpS_pure ⟨rfl,l,_,rfl,by omega,by omega,by omega,h4,fun i a1 a2=>Vt hw (ub _ i (by omega) a1 a2)⟩
    ·simp only[hw,decide_false,Bool.false_eq_true,if_false]
     exact wpS_pure ⟨rfl,_,r,rfl,by omega,by omega,by omega,fun i a1 a2=>Vj (ub i (lo+(l+r) / 2) a1 (by omega) (by omega)) (Nat.not_lt.mp hw),h5⟩
  case ipost =>
   rintro c st' ⟨rfl,l,r,rfl,h1,h4,h5⟩;have e:lo+k - (lo+k - (lo+l))=lo+l:=by omega
   refine wpS_bind (wpS_modify (wpS_pure ⟨rfl,bubble b (lo+k) (lo+k - (lo+l)),rfl,cb.trans (Ch.bub (by omega) (by omega) (by omega) (by omega)),fun i j a1 a2 a3=>?_⟩))
   rw[Jub (by omega) (by omega),Jub (by omega) (by omega),e]
   by_cases i1:i=lo+l
   ·rw[if_pos i1]
    by_cases j1:j=lo+l
    ·rw[if_pos j1];exact Ve _
    ·rw[if_neg j1,if_pos (by omega)]
     exact Vv (h5 _ (by omega) (by omega))
   ·rw[if_neg i1]
    by_cases i2:lo+l < i/\i<=lo+k
    ·rw[if_pos i2,if_neg (by omega),if_pos (by omega)]
     exact ub _ _ (by omega) (by omega) (by omega)
    ·rw[if_neg i2]
     by_cases j1:j=lo+l
     ·rw[if_pos j1];exact h4 i a1 (by omega)
     ·rw[if_neg j1]
      by_cases j2:lo+l < j/\j<=lo+k
      ·rw[if_pos j2];exact ub _ _ (by omega) (by omega) (by omega)
      ·rw[if_neg j2];exact ub _ _ (by omega) (by omega) (by omega)
end
end SortB
end
section
namespace SortB
open PySem PySem.W PyProof.Rows
def Cov(rk:Keyed->Nat)(a:Array Keyed):List (Nat×Nat×Nat)->Nat->Nat->Prop
 | [],lo,hi=>lo=hi
 | (s,n,_)::r,lo,hi=>s=lo/\0 < n/\Up rk a lo (lo+n)/\Cov rk a r (lo+n) hi
section
variable{rk:Keyed->Nat}{a b:Array Keyed}{l r:List (Nat×Nat×Nat)}{lo hi mid:Nat}
theorem Cov.le:∀ {l:List (Nat×Nat×Nat)} {lo hi:Nat},Cov rk a l lo hi->lo+l.length<=hi
 | [],lo,hi,h=>by have:lo=hi:=h;simp;omega
 | (s,n,p)::r,lo,hi,h=>by
  obtain⟨_,h1,_,h2⟩:=h;have:=Cov.le h2;rw[length_cons];omega
theorem Cov.app:∀ {l:List (Nat×Nat×Nat)} {lo:Nat},Cov rk a (l++r) lo hi↔∃ mid,Cov rk a l lo mid/\Cov rk a r mid hi
 | [],lo=>⟨fun h=>⟨lo,rfl,h⟩,fun⟨m,e,h⟩=>by have:lo=m:=e;subst this;exact h⟩
 | (s,n,p)::l,lo=>by
  show(s=lo/\0 < n/\Up rk a lo (lo+n)/\Cov rk a (l++r) (lo+n) hi)↔∃ mid,(s=lo/\0 < n/\Up rk a lo (lo+n)/\Cov rk a l (lo+n) mid)/\Cov rk a r mid hi;rw[Cov.app];exact⟨fun⟨a1,a2,a3,m,a4,a5⟩=>⟨m,⟨a1,a2,a3,a4⟩,a5⟩,fun⟨m,⟨a1,a2,a3,a4⟩,a5⟩=>⟨a1,a2,a3,m,a4,a5⟩⟩
theorem Cov.ext:∀ {l:List (Nat×Nat×Nat)} {lo:Nat},Cov rk a l lo hi->(∀ j,lo<=j->j < hi->K rk b j=K rk a j)->Cov rk b l lo hi
 | [],_,h,_=>h
 | (s,n,p)::l,lo,h,e=>by
  obtain⟨a1,a2,a3,a4⟩:=h;have:=Cov.le a4;exact⟨a1,a2,a3.ext fun i h1 h2=>e i h1 (by omega),a4.ext fun j h1 h2=>e j (by omega) h2⟩
theorem Cov.pow:∀ {l l':List (Nat×Nat×Nat)} {lo:Nat},l.map (fun x=>(x.1,x.2.1))=l'.map (fun x=>(x.1,x.2.1))->Cov rk a l lo hi->Cov rk a l' lo hi
 | [],[],_,_,h=>h
 | [],_::_,_,e,_=>by simp at e
 | _::_,[],_,e,_=>by simp at e
 | (s,n,p)::l,(s',n',p')::l',lo,e,h=>by
  simp only[map_cons,List.cons.injEq,Prod.mk.injEq]at e;obtain⟨⟨rfl,rfl⟩,e⟩:=e;obtain⟨a1,a2,a3,a4⟩:=h;exact⟨a1,a2,a3,Cov.pow e a4⟩
theorem QDc{l:List (Nat×Nat×Nat)}{i:Nat}(h:i+1 < l.length):l=l.take i++l[i]::l[i+1]::l.drop (i+2):=by
 have e1:l.drop i=l[i]::l.drop (i+1):=drop_eq_getElem_cons (by omega)
 have e2:l.drop (i+1)=l[i+1]::l.drop (i+1+1):=drop_eq_getElem_cons h;rw[<- e2,<- e1,take_append_drop]
theorem Zxc{pd:Array (Nat×Nat×Nat)}{i:Nat}{v:Nat×Nat×Nat}(h:i+1 < pd.size):((pd.setIfInBounds i v).eraseIdxIfInBounds (i+1)).toList=pd.toList.take i++v::pd.toList.drop (i+2):=by
 have hs:i+1 < (pd.setIfInBounds i v).size:=by simpa using h
 rw[Array.eraseIdxIfInBounds_eq,dif_pos hs,Array.toList_eraseIdx,Array.toList_setIfInBounds,eraseIdx_eq_take_drop_succ];rw[set_eq_take_append_cons_drop,if_pos (by simp;omega)]
 have e1:(pd.toList.take i).length=i:=by simp;omega
 rw[take_append,drop_append,e1,take_of_length_le (by omega),drop_of_length_le (by omega:(pd.toList.take i).length<=i+1+1)]
 rw[show i+1 - i=1 by omega,show i+1+1 - i=2 by omega]
 simp
end
section
variable{prog:Program}{w:World}{A:Around}{E:YQ_}{s:Shared}{κ:SortKind}{rk:Keyed->Nat}{S:Keyed->Prop}
theorem Zva(L:XZ prog w A E s κ rk S){b:Array Keyed}{pd:Array (Nat×Nat×Nat)}{g i hi:Nat}{Q:Bool->SortSt->Prop}(hS:∀ x∈b,S x)(hsz:hi<=b.size)(cv:Cov rk b pd.toList 0 hi)(hi1:i+1 < pd.size)
 (h:∀ c pd' g',Ch rk 0 hi b c->Cov rk c pd'.toList 0 hi->pd'.size+1=pd.size->Q true (mk κ c pd' g')):wpS (model prog w) A E s (mergeAt' i) Q (mk κ b pd g):=by
 have hl:i+1 < pd.toList.length:=by simpa using hi1
 have sp:=QDc hl;rw[sp]at cv;obtain⟨mid,c1,c2⟩:=Cov.app.mp cv;have g1:pd[i]?=some pd.toList[i]:=by simp[show i < pd.size by omega]
 have g2:pd[i+1]?=some pd.toList[i+1]:=by simp[hi1]
 generalize pd.toList[i]=u at c2 g1 sp;generalize pd.toList[i+1]=v at c2 g2 sp;obtain⟨sa,na,p⟩:=u;obtain⟨sb,nb,q⟩:=v;obtain⟨rfl,n1,u1,rfl,n2,u2,c3⟩:=c2;have le3:=c3.le;refine XVa L rfl rfl hS g1 g2 n1 n2 (by show sa+na+nb<=b.size;omega) u1 u2 fun c g' ch up=>h c _ g' (ch.mono (Vk _) (by omega)) ?_ ?_
 ·show Cov rk c ((pd.setIfInBounds i (sa,na+nb,p)).eraseIdxIfInBounds (i+1)).toList 0 hi
  rw[Zxc hi1];have le1:=c1.le;refine Cov.app.mpr ⟨sa,c1.ext fun j h1 h2=>ch.out j (by omega),rfl,by omega,?_,?_⟩
  ·rw[<- Nat.add_assoc];exact up
  ·rw[<- Nat.add_assoc];exact c3.ext fun j h1 h2=>ch.out j (by omega)
 ·show((pd.setIfInBounds i (sa,na+nb,p)).eraseIdxIfInBounds (i+1)).size+1=pd.size
  rw[<- Array.length_toList,Zxc hi1];simp
  omega
theorem YWa(L:XZ prog w A E s κ rk S){a:Array Keyed}{g:Nat}{Q:Unit->SortSt->Prop}(hS:∀ x∈a,S x)(h2:2<=a.size)
 (h:∀ b pd g,b.Perm a->Up rk b 0 a.size->Q () (mk κ b pd g)):wpS (model prog w) A E s sortRuns' Q (mk κ a #[] g):=by
 have pend:∀ b pd g,pendingOf (mk κ b pd g)=pd:=fun _ _ _=>rfl
 rw[sortRuns'_eq];refine wpS_bind (wpS_get ?_)
 dsimp only;rw[show arrOf (mk κ a #[] g)=a from rfl]
 generalize minRun' a.size a.size 0=mr;refine wpS_bind (wpS_mono (wpS_forRange (I:=fun x c st'=>∃ lo b pd g,c=(none,lo)/\st'=mk κ b pd g/\b.Perm a/\lo<=a.size/\x<=lo/\Cov rk b pd.toList 0 lo)
  (Q:=fun c st'=>∃ b pd g,c=(none,a.size)/\st'=mk κ b pd g/\b.Perm a/\Cov rk b pd.toList 0 a.size) ?step ?fin ⟨0,a,#[],g,rfl,rfl,Array.Perm.refl _,by omega,by omega,rfl⟩) ?post)
 case fin =>
  rintro c st' ⟨lo,b,pd,g,rfl,rfl,pb,h1,h3,cv⟩;have:lo=a.size:=by omega
  subst this;exact⟨b,pd,g,rfl,rfl,pb,cv⟩
 case post =>
  rintro c st' ⟨b,pd,g,rfl,rfl,pb,cv⟩;dsimp only;have hlen:pd.size<=a.size:=by have:=cv.le;simpa using this
  refine wpS_bind (wpS_mono (wpS_forRange (I:=fun x c st'=>c=(none,())/\∃ b pd g,st'=mk κ b pd g/\b.Perm a/\Cov rk b pd.toList 0 a.size/\pd.size+x<=a.size) (Q:=fun c st'=>c=(none,())/\∃ b pd g,st'=mk κ b pd g/\b.Perm a/\Cov rk b pd.toList 0 a.size/\pd.size<=1) ?lstep ?lfin ⟨rfl,b,pd,g,rfl,pb,cv,hlen⟩) ?lpost)
  case lfin =>
   rintro c st' ⟨rfl,b,pd,g,rfl,pb,cv,hx⟩;exact⟨rfl,b,pd,g,rfl,pb,cv,by omega⟩
  case lpost =>
   rintro c st' ⟨rfl,b,pd,g,rfl,pb,cv,hx⟩;refine wpS_pure (h b pd g pb ?_)
   have hx':pd.toList.length<=1:=by simpa using hx
   match hpd:pd.toList,hx',cv with
   | [],_,cv=>have:0=a.size:=cv;omega
   | [(s0,n0,p0)],_,cv =>
    obtain⟨e1,_,u,e2⟩:=cv;have e2:0+n0=a.size:=e2;rw[<- e2];exact u
   | _::_::_,hx',_=>simp at hx'
  case lstep =>
   rintro x c st' _ hx ⟨rfl,b,pd,g,rfl,pb,cv,hx2⟩;refine wpS_bind (wpS_get ?_)
   rw[pend]
   by_cases hs:pd.size<=1
   ·rw[if_pos hs]
    exact wpS_pure ⟨rfl,b,pd,g,rfl,pb,cv,hs⟩
   rw[if_neg hs];refine wpS_bind (Zva L (fun x hx=>hS x (pb.mem_iff.mp hx)) (by rw[pb.size_eq];exact Ve _) cv ?_ fun c pd' g' ch cv' hsz=>?_)
   ·have hif:∀ (c:Bool) (i:Nat),(if c=true then i - 1 else i)<=i:=fun c i=>by cases c <;> simp
    exact Nat.lt_of_le_of_lt (Nat.add_le_add_right (hif _ _) 1) (by omega)
   ·exact wpS_pure ⟨rfl,c,pd',g',rfl,ch.perm.trans pb,cv',by omega⟩
 case step =>
  rintro x c st' _ hx ⟨lo,b,pd,g,rfl,rfl,pb,h1,h3,cv⟩;dsimp only
  by_cases hge:lo >= a.size
  ·rw[if_pos hge]
   have:lo=a.size:=by omega
   subst this;exact wpS_pure ⟨b,pd,g,rfl,rfl,pb,cv⟩
  rw[if_neg hge];have bsz:=pb.size_eq
  suffices T:∀ (n:Nat) (b:Array Keyed),1<=n->lo+n<=a.size->b.Perm a->Cov rk b pd.toList 0 lo->Up rk b lo (lo+n)->wpS (model prog w) A E s _ _ (mk κ b pd g) by
   refine wpS_bind (YVa L (fun x hx=>hS x (pb.mem_iff.mp hx)) (by omega) (by omega) fun found b1 f1 f2 ch1 up1=>?_)
   dsimp only;have pb1:b1.Perm a:=ch1.perm.trans pb;have cv1:Cov rk b1 pd.toList 0 lo:=cv.ext fun j _ h=>ch1.out j (by omega)
   by_cases hm:¬ found < mr
   ·rw[if_neg hm]
    exact T found b1 f1 (by omega) pb1 cv1 up1
   ·have hm:found < mr:=by omega
    rw[if_pos hm];refine wpS_bind (wpS_lift (wpAny_rule ⟨rfl,?_⟩))
    have bsz1:=pb1.size_eq;refine wpS_bind (Z6a L (fun x hx=>hS x (pb1.mem_iff.mp hx)) (by omega) f1 (by omega) up1 fun b2 ch2 up2=>?_)
    rw[if_neg (by simp)]
    exact T _ b2 (by omega) (by omega) (ch2.perm.trans pb1) (cv1.ext fun j _ h=>ch2.out j (by omega)) up2
  clear cv pb bsz;intro n b hn1 hn2 pb cv up;have bsz:=pb.size_eq;refine wpS_bind (wpS_get ?_)
  rw[pend];cases hb:pd.back? with
  | none =>
   dsimp only;refine wpS_bind (wpS_modify (wpS_pure ⟨lo+n,b,pd.push (lo,n,0),g,rfl,rfl,pb,hn2,by omega,?_⟩))
   rw[Array.toList_push];exact Cov.app.mpr ⟨lo,cv,rfl,hn1,up,rfl⟩
  | some q =>
   obtain⟨s1,n1,p1⟩:=q;dsimp only;generalize power' a.size (2 * s1+n1) (2 * s1+n1+n1+n) a.size=pw;refine wpS_bind (wpS_mono (wpS_forRange (I:=fun y c st'=>c=(none,())/\∃ b pd g,st'=mk κ b pd g/\b.Perm a/\Cov rk b pd.toList 0 lo/\Up rk b lo (lo+n)) (Q:=fun c st'=>c=(none,())/\∃ b pd g,st'=mk κ b pd g/\b.Perm a/\Cov rk b pd.toList 0 lo/\Up rk b lo (lo+n)) ?mstep (fun _ _ z=>z) ⟨rfl,b,pd,g,rfl,pb,cv,up⟩) ?mpost)
   case mstep =>
    rintro y c st' _ _ ⟨rfl,b,pd,g,rfl,pb,cv,up⟩;refine wpS_bind (wpS_get ?_)
    rw[pend];have bsz:=pb.size_eq
    by_cases hs:pd.size > 1
    ·rw[if_pos hs]
     cases hq:pd[pd.size - 2]? with
     | none=>exact wpS_pure ⟨rfl,b,pd,g,rfl,pb,cv,up⟩
     | some q =>
      obtain⟨s2,n2,p2⟩:=q;dsimp only
      by_cases ho:p2<=pw
      ·rw[if_pos ho]
       exact wpS_pure ⟨rfl,b,pd,g,rfl,pb,cv,up⟩
      ·rw[if_neg ho]
       refine wpS_bind (Zva L (fun x hx=>hS x (pb.mem_iff.mp hx)) (by omega) cv (by omega) fun c pd' g' ch cv' hsz=>?_)
       rw[if_neg (by simp)]
       exact wpS_pure ⟨rfl,c,pd',g',rfl,ch.perm.trans pb,cv',up.ext fun i h1 h2=>ch.out i (by omega)⟩
    ·rw[if_neg hs]
     exact wpS_pure ⟨rfl,b,pd,g,rfl,pb,cv,up⟩
   case mpost =>
    rintro c st' ⟨rfl,b,pd,g,rfl,pb,cv,up⟩;dsimp only;refine wpS_bind (wpS_modify (wpS_bind (wpS_modify (wpS_pure ⟨lo+n,b,_,g,rfl,rfl,pb,hn2,by omega,?_⟩))))
    show Cov rk b ((pd.modify (pd.size - 1) fun x=>(x.1,x.2.1,pw)).push (lo,n,0)).toList 0 (lo+n)
    rw[Array.toList_push];refine Cov.app.mpr ⟨lo,Cov.pow ?_ cv,rfl,hn1,up,rfl⟩
    rw[Array.toList_modify]
    apply ext_getElem?
    intro i;rw[getElem?_map,getElem?_map,getElem?_modify]
    cases pd.toList[i]? with
    | none=>rfl
    | some v=>simp only[Option.map_some];split <;> rfl
end
end SortB
end
section
namespace SortB
open PySem PySem.W PyProof.Rows
theorem Ztb{α β:Type}{f:α->β}{l' m:List β}(p:l'.Perm m):∀ l:List α,m=l.map f->∃ q:List α,q.Perm l/\l'=q.map f:=by
 induction p with
 | nil=>intro l e;exact⟨[],by rw[map_eq_nil_iff.mp e.symm],rfl⟩
 | cons x p ih =>
  intro l e;cases l with
  | nil=>simp at e
  | cons a l =>
   simp only[map_cons,List.cons.injEq]at e;obtain⟨q,hq,rfl⟩:=ih l e.2;exact⟨a::q,hq.cons a,by rw[map_cons,e.1]⟩
 | swap x y l0 =>
  intro l e
  match l,e with
  | a::b::l,e =>
   simp only[map_cons,List.cons.injEq]at e;exact⟨b::a::l,List.Perm.swap a b l,by rw[map_cons,map_cons,e.1,e.2.1,e.2.2]⟩
 | trans p1 p2 ih1 ih2 =>
  intro l e;obtain⟨q2,h2,e2⟩:=ih2 l e;obtain⟨q1,h1,e1⟩:=ih1 q2 e2;exact⟨q1,h1.trans h2,e1⟩
open Classical in
noncomputable def Y8b (it:Nat->Keyed) (n:Nat) (r:Nat->Nat) (x:Keyed):Nat:=if h:∃ i,i < n/\it i=x then r h.choose else 0
theorem J1a{it:Nat->Keyed}{n:Nat}{r:Nat->Nat}(hw:∀ i j,i < n->j < n->it i=it j->r i=r j){i:Nat}(hi:i < n):Y8b it n r (it i)=r i:=by
 unfold Y8b;have h:∃ j,j < n/\it j=it i:=⟨i,hi,rfl⟩;rw[dif_pos h];exact hw _ _ h.choose_spec.1 hi h.choose_spec.2
section
variable{prog:Program}{w:World}{A:Around}{E:YQ_}{s:Shared}{κ:SortKind}{ks vs:List Value}{r:Nat->Nat}
theorem Y9b(hl:ks.length=vs.length)(h2:2<=vs.length)(hc:∀ i j (C:Bool->Shared->Prop),i < vs.length->j < vs.length->C (decide (r i < r j)) s->kas_ask prog w A κ ks i j C s)
 (hw:∀ i j,i < vs.length->j < vs.length->ks.getD i Value.none=ks.getD j Value.none->r i=r j) :
 wpAny (model prog w) A (sortRuns'.run (SortSt.mk' κ (ks.toArray.zip vs.toArray) #[] 7 none)) (fun x s'=>∃ p:Array Nat,arrOf x.2=p.map (kas_item (ks.toArray.zip vs.toArray))/\failedOf x.2=none/\s'=s/\SortT.Ok vs.length p/\SortT.Up r p vs.length) E s:=by
 have it:∀ i,kas_item (ks.toArray.zip vs.toArray) i=(ks.getD i Value.none,vs.getD i Value.none):=kat_item hl;have sz:(ks.toArray.zip vs.toArray).size=vs.length:=by simp[hl]
 have rng:=kas_range (ks.toArray.zip vs.toArray);rw[sz]at rng;have al:(ks.toArray.zip vs.toArray).toList=(List.range vs.length).map (kas_item (ks.toArray.zip vs.toArray)):=by
  have:=congrArg Array.toList rng;rw[Array.toList_map]at this;exact this.symm
 have hw':∀ i j,i < vs.length->j < vs.length->kas_item (ks.toArray.zip vs.toArray) i=kas_item (ks.toArray.zip vs.toArray) j->r i=r j:=fun i j hi hj e=>by
  rw[it,it]at e;exact hw i j hi hj (Prod.mk.inj e).1
 have L:XZ prog w A E s κ (Y8b (kas_item (ks.toArray.zip vs.toArray)) vs.length r) (fun x=>∃ i,i < vs.length/\kas_item (ks.toArray.zip vs.toArray) i=x):=by
  rintro x y st Q hk ⟨i,hi,rfl⟩ ⟨j,hj,rfl⟩ hq;rw[J1a hw' hi,J1a hw' hj]at hq;rw[lt'_eq];refine wpS_bind (wpS_get ?_)
  rw[hk,it,it];have:=hc i j (fun b s'=>s'=s/\b=decide (r i < r j)) hi hj ⟨rfl,rfl⟩
  unfold kas_ask at this;refine wpS_bind (wpS_lift (wpAny_attempt (wpAny_mono this (fun b s' hb=>?_) fun _ _ z=>z.elim)))
  obtain⟨e1,e2⟩:=hb;subst e1 e2;exact⟨rfl,wpS_pure hq⟩
 have run:=YWa L (a:=ks.toArray.zip vs.toArray) (g:=7) (Q:=fun _ st'=>∃ p:Array Nat,arrOf st'=p.map (kas_item (ks.toArray.zip vs.toArray))/\failedOf st'=none/\SortT.Ok vs.length p/\SortT.Up r p vs.length) (fun x hx=>?_) (by omega) fun b pd g pb up=>?_
 ·unfold wpS at run
  refine wpAny_mono run (fun x s' hx=>?_) fun _ _ z=>z
  obtain⟨e,p,a1,a2,a3,a4⟩:=hx;exact⟨p,a1,a2,e,a3,a4⟩
 ·have:=Array.mem_toList_iff.mpr hx
  rw[al]at this;obtain⟨i,hi,e⟩:=mem_map.mp this;exact⟨i,mem_range.mp hi,e⟩
 ·have pl:=Array.perm_iff_toList_perm.mp pb
  obtain⟨q,hq,eq⟩:=Ztb pl _ al;have ql:q.length=vs.length:=by rw[hq.length_eq,length_range]
  have hb:b=q.toArray.map (kas_item (ks.toArray.zip vs.toArray)):=by
   apply Array.toList_inj.mp
   rw[Array.toList_map,eq]
  refine⟨q.toArray,hb,rfl,⟨by rw[Vn,ql],Array.perm_iff_toList_perm.mpr (by simpa using hq)⟩,fun i j hij hj=>?_⟩
  have hu:=up i j (Vk _) hij (by omega)
  have kk:∀ i,i < vs.length->K (Y8b (kas_item (ks.toArray.zip vs.toArray)) vs.length r) b i=SortT.K r q.toArray i:=fun i hi=>by
   have hi':i < q.length:=by omega
   have hib:i < b.size:=by rw[hb];simp;omega
   rw[QT hib];have e1:b[i]=kas_item (ks.toArray.zip vs.toArray) q[i]:=by simp[hb]
   have e2:q[i] < vs.length:=mem_range.mp (hq.mem_iff.mp (getElem_mem hi'));rw[e1,J1a hw' e2];unfold SortT.K;simp[Array.getD,hi']
  rw[kk i (by omega),kk j hj]at hu
  exact hu
end
end SortB
end
section
namespace L2
open PySem PySem.Spec PyProof.Rows PySem.W
theorem Inv.adopt{X:Cx}{pins:YP_}{σ:St}{H:Hp}{s:Shared}{h':Heap}{D:Addr}{o:HO}{t':Nat}(I:Inv X pins σ H s)(f:Qia X pins H D)(k:∀ b u,b≠D->s.heap.get? b=some u->h'.get? b=some u)
 (new:QB X.prog X.w (upd H D o) h' D o):Inv X pins σ (upd H D o) { s with heap:=h',toks:=t' }:=by
 obtain⟨f0,f1,f2,f3,f4,f5⟩:=f;have nit:∀ b u,H b=some u->b≠D:=fun b u e z=>by rw[z,f0]at e;cases e
 refine I.step (g':=s.gens) (d':=s.drawn) (ch:=[D]) (fun b hb=>?_) (fun b o _ _ hc e _=>k b o (fun z=>hc (by simp[z])) e) (fun b o _ _ hc e _=>⟨o.slots,k b o (fun z=>hc (by simp[z])) e⟩) (fun b _ hc _ n=>by rw[Qd (fun z=>hc (by simp[z]))];exact n)
  (fun b o hc e=>⟨o,k b o (fun z=>hc (by simp[z])) e⟩) (fun b _ e=>by rw[Qd (nit _ _ e)];exact e) (fun b _ _ e=>by rw[Qd (nit _ _ e)];exact e) (fun b ps e=>⟨#[],by rw[Qd (nit _ _ e),e];simp⟩) (fun m hm=>?_) (fun b u e=>?_) I.bare
 ·have e:b=D:=by simpa using hb
  subst e;exact⟨f3,f1,f4,f5⟩
 ·obtain⟨o,es,ep,ho,r⟩:=hm
  exact⟨o,es,ep,k _ o (Ne.symm f1) ho,r⟩
 ·by_cases hb:b=D
  ·subst hb;rw[Qa]at e;cases e;exact new
  ·rw[Qd hb]at e
   refine(I.hok b u e).stay (fun c v hc q=>k c v ?_ q) (fun c q=>by rw[Qd (nit _ _ q)];exact q) fun c xs q=>by rw[Qd (nit _ _ q)];exact q
   rcases hc with z | z
   ·rw[z];exact hb
   ·exact nit c _ z
theorem Qv.getD:∀ {xs:List V} {us:List Value},Qv xs us->∀ i,Qr (xs.getD i .non) (us.getD i Value.none):=fun {xs us} r i=>by
 cases e:xs[i]? with
 | none =>
  have e2:=r.none_of e;rw[getD_eq_getElem?_getD,getD_eq_getElem?_getD,e,e2]
  rfl
 | some x =>
  obtain⟨u,e2,ru⟩:=r.get e;rw[getD_eq_getElem?_getD,getD_eq_getElem?_getD,e,e2]
  exact ru
theorem Qv.pick{xs:List V}{us:List Value}(r:Qv xs us):∀ l:List Nat,Qv (l.map fun i=>xs.getD i .non) (l.map fun i=>us.getD i Value.none)
 | []=>.nil
 | i::l=>.cons (r.getD i) (r.pick l)
theorem Jxa{α:Type}{p q:α->Bool}:∀ {l:List α} {a:α},(∀ x∈l,p x=true->q x=true)->a∈l->q a=true->p a=false->l.countP p < l.countP q
 | x::l,a,h,hm,hq,hp=>by
  have mono:l.countP p<=l.countP q:=countP_mono_left fun y hy=>h y (Vo _ hy)
  rw[countP_cons,countP_cons]
  rcases mem_cons.mp hm with e | e
  ·subst e
   rw[hq,hp];simp only[Bool.false_eq_true,if_false,if_true]
   omega
  ·have ih:=Jxa (fun y hy=>h y (Vo _ hy)) e hq hp
   have hx:=h x mem_cons_self;cases hpx:p x with
   | false=>simp only[Bool.false_eq_true,if_false];split <;> omega
   | true=>rw[hx hpx];simp only[if_true];omega
structure Swo{α:Type}(xs:List α)(lt:α->α->Bool):Prop where
 irr:∀ a∈xs,lt a a=false
 tr:∀ a∈xs,∀ b∈xs,∀ c∈xs,lt a b=true->lt b c=true->lt a c=true
 neg:∀ a∈xs,∀ b∈xs,∀ c∈xs,lt a c=true->lt a b=true\/lt b c=true
theorem Swo.rank{α:Type}{xs:List α}{lt:α->α->Bool}(w:Swo xs lt){a b:α}(ha:a∈xs)(hb:b∈xs):decide (xs.countP (lt · a) < xs.countP (lt · b))=lt a b:=by
 cases e:lt a b with
 | true=>exact decide_eq_true (Jxa (fun x hx h=>w.tr x hx a ha b hb h e) ha e (w.irr a ha))
 | false =>
  refine decide_eq_false fun h=>?_
  have:xs.countP (lt · b)<=xs.countP (lt · a):=countP_mono_left fun x hx h=>(w.neg x hx a ha b hb h).elim id fun z=>by rw[e]at z;cases z
  omega
theorem YXa{α:Type}{xs:List α}{i:Nat}{d:α}(h:i < xs.length):xs.getD i d∈xs:=by
 rw[getD_eq_getElem?_getD,Vb h]
 exact getElem_mem h
theorem XWa{α:Type}{xs:List α}{d:α}{p:Array Nat}(h:SortT.Ok xs.length p):(p.toList.map fun i=>xs.getD i d).Perm xs:=by
 have h1:p.toList.Perm (List.range xs.length):=by
  have:=Array.perm_iff_toList_perm.mp h.perm
  simpa using this
 have h2:=h1.map (fun i=>xs.getD i d)
 have h3:(List.range xs.length).map (fun i=>xs.getD i d)=xs:=by
  apply ext_getElem
  ·simp
  ·intro i h1 h2
   simp[h2]
 rw[h3]at h2;exact h2
theorem Jwb{xs:List V}{lt:V->V->Bool}(w:Swo xs lt){p:Array Nat}(h:SortT.Ok xs.length p)(hn:0 < xs.length)(u:SortT.Up (fun i=>xs.countP (lt · (xs.getD i .non))) p xs.length) :
 (p.toList.map fun i=>xs.getD i V.non).Pairwise fun a b=>lt b a=false:=by
 rw[pairwise_iff_getElem];intro i j hi hj hij;have hi':i < p.size:=by simpa using hi
 have hj':j < p.size:=by simpa using hj
 have hjn:j < xs.length:=by rw[<- h.size];exact hj'
 have:=u i j (by omega) hjn
 unfold SortT.K at this;have gi:p.getD i 0=p[i]:=by simp[Array.getD,hi']
 have gj:p.getD j 0=p[j]:=by simp[Array.getD,hj']
 have li:=h.lt hn i;have lj:=h.lt hn j;rw[gi]at this li;rw[gj]at this lj;have e1:(p.toList.map fun i=>xs.getD i V.non)[i]=xs.getD p[i] .non:=by simp
 have e2:(p.toList.map fun i=>xs.getD i V.non)[j]=xs.getD p[j] .non:=by simp
 rw[e1,e2,<- w.rank (YXa lj) (YXa li)];dsimp only at this;exact decide_eq_false (by omega)
section
variable{X:Cx}{pins:YP_}{σ:St}{H:Hp}{s:Shared}{k:Nat}{f:Addr}{fd:FuncData}{p0:Str}{sp:Sp}{A:Around}{E:YQ_}
theorem Jxb{α:Type}{R:α->α->Prop}:∀ {xs:List α},xs.length < 2->xs.Pairwise R
 | [],_=>List.Pairwise.nil
 | [a],_=>pairwise_singleton _ _
end
theorem Jya:bootBuiltins "sorted"=some (.builtin "sorted"):=by decide +kernel
theorem QEc(h:Heap)(vs:List Value):((h.push (seqObj "list" #[] 0)).update h.objs.size (Obj.mapSeq (·++vs.toArray))).objs.size=h.objs.size+1 /\
 ∀ b o,h.get? b=some o->((h.push (seqObj "list" #[] 0)).update h.objs.size (Obj.mapSeq (·++vs.toArray))).get? b=some o:=by
 constructor
 ·simp only[Heap.size_update,size_push']
 ·intro b o q
  have nb:b≠h.objs.size:=Nat.ne_of_lt (Vh q);exact((Heap.SameBut.update (h.push (seqObj "list" #[] 0)) h.objs.size _).2 b nb).trans (Vd _ q)
section
variable{X:Cx}{pins:YP_}{σ:St}{H:Hp}{s:Shared}{k:Nat}{f:Addr}{fd:FuncData}{p0:Str}{sp:Sp}
end
end L2
end
section
namespace L2
open PySem PySem.Spec PyProof.Rows
section
variable{X:Cx}{e:Expr}{es:List Expr}{te:TE}{pos:Pos}
end
theorem Zub(z:Str):Str.empty++z=z:=by
 apply PyProof.Rows.ext_toList
 rw[W.KT.app_list];rfl
end L2
end
section
namespace Pl
open PySem L2
def Z0:V->Prop
 | .non=>True
 | .int i => -(10 ^ 30) < i/\i < 10 ^ 30
 | .str z=>z.length<=40
 | _=>False
def rk:V->List V
 | .non=>[.int 0,.int 0]
 | .str z=>[.int 2,.str z]
 | v=>[.int 1,v]
def ltV(a b:V):Bool:=(HT.Yl (rk a) (rk b)).getD false
theorem QFc{a b:V}(ha:Z0 a)(hb:Z0 b):HT.Yl (rk a) (rk b)=some (ltV a b):=by
 unfold ltV;cases a <;> first | exact ha.elim | skip
 all_goals (cases b <;> first | exact hb.elim | skip)
 all_goals (simp only[rk,HT.Yl];repeat' (first | rfl | split))
theorem XRb:ltV .non .non=false:=rfl
theorem XSb(i:Int):ltV .non (.int i)=true:=rfl
theorem XTb(z:Str):ltV .non (.str z)=true:=rfl
theorem XUb(i:Int):ltV (.int i) .non=false:=rfl
theorem XVb(z:Str):ltV (.str z) .non=false:=rfl
theorem Jyb(i:Int)(z:Str):ltV (.int i) (.str z)=true:=rfl
theorem XWb(i:Int)(z:Str):ltV (.str z) (.int i)=false:=rfl
theorem QNb(i j:Int):ltV (.int i) (.int j)=decide (i < j):=by
 unfold ltV;simp only[rk,HT.Yl,if_true]
 by_cases e:i=j
 ·rw[if_pos e];subst e;simp
 ·rw[if_neg e];rfl
theorem QOb(x y:Str):ltV (.str x) (.str y)=decide (x.cps.toList < y.cps.toList):=by
 unfold ltV;simp only[rk,HT.Yl,if_true]
 by_cases e:x=y
 ·rw[if_pos e];subst e
  have:¬ (x.cps.toList < x.cps.toList):=List.lt_irrefl _;simp[this]
 ·rw[if_neg e];rfl
theorem irr{a:V}(ha:Z0 a):ltV a a=false:=by
 cases a <;> first | exact ha.elim | skip
 ·rfl
 ·rw[QNb];simp
 ·rw[QOb];exact decide_eq_false (List.lt_irrefl _)
theorem tr{a b c:V}(ha:Z0 a)(hb:Z0 b)(hc:Z0 c)(h1:ltV a b=true)(h2:ltV b c=true):ltV a c=true:=by
 cases a <;> first | exact ha.elim | skip
 all_goals (cases b <;> first | exact hb.elim | skip)
 all_goals (cases c <;> first | exact hc.elim | skip)
 all_goals first | rfl | (exfalso;rw[XRb]at h1;cases h1;done) | (exfalso;rw[XUb]at h1;cases h1;done) | (exfalso;rw[XVb]at h1;cases h1;done) | (exfalso;rw[XWb]at h1;cases h1;done) | (exfalso;rw[XRb]at h2;cases h2;done) | (exfalso;rw[XUb]at h2;cases h2;done) | (exfalso;rw[XVb]at h2;cases h2;done) | (exfalso;rw[XWb]at h2;cases h2;done) | skip
 ·rw[QNb,decide_eq_true_eq]at *;omega
 ·rw[QOb,decide_eq_true_eq]at *;exact List.lt_trans h1 h2
theorem tri{a b:V}(ha:Z0 a)(hb:Z0 b)(h1:ltV a b=false)(h2:ltV b a=false):a=b:=by
 cases a <;> first | exact ha.elim | skip
 all_goals (cases b <;> first | exact hb.elim | skip)
 all_goals first | rfl | (exfalso;rw[XSb]at h1;cases h1;done) | (exfalso;rw[XTb]at h1;cases h1;done) | (exfalso;rw[Jyb]at h1;cases h1;done) | (exfalso;rw[XSb]at h2;cases h2;done) | (exfalso;rw[XTb]at h2;cases h2;done) | (exfalso;rw[Jyb]at h2;cases h2;done) | skip
 ·rw[QNb,decide_eq_false_iff_not]at *
  congr 1;omega
 ·rw[QOb,decide_eq_false_iff_not]at *
  congr 1
  exact PyProof.Rows.ext_toList (List.le_antisymm (List.not_lt.mp h2) (List.not_lt.mp h1))
end Pl
end
section
namespace L2
open PySem PySem.Spec PyProof.Rows
def Q1(H H':Hp):Prop:=∀ b xs,H b=some (.tup xs)->H' b=some (.tup xs)
theorem Qk.t{H H':Hp}(s:Qk H H'):Q1 H H':=fun b xs e=>s b _ e
theorem Q1.refl(H:Hp):Q1 H H:=fun _ _ e=>e
theorem Q1.trans{H H1 H2:Hp}(a:Q1 H H1)(b:Q1 H1 H2):Q1 H H2:=fun c xs e=>b c xs (a c xs e)
theorem Jw{H:Hp}{D:Addr}{ys zs:List V}(h:H D=some (.lst ys)):Q1 H (upd H D (.lst zs)):=fun b xs e=>by
 rw[Qd (ZA e h (by intro z;cases z))];exact e
theorem Xab{J:It}{te:TE}{σ:St}{H1:Hp}{Q:VK}(n:Nat)(item:Nat->V->Prop)(P:Hp->Nat->V->Prop)(mono:∀ H H' i v,Q1 H H'->P H i v->P H' i v)(hz:n<=sizeLine)
 (hgo:∀ i H2,i < n->Qk H1 H2->J.go i H2/\∀ x H',J.yld i H2 x H'->H'=H2/\item i x) (hst:∀ H2,Qk H1 H2->J.stop n H2)
 (he:∀ i x H2 (R:VK),item i x->Qk H1 H2->(∀ v H3,P H3 i v->Qk H2 H3->R v H3)->te (some x::σ) H2 R)
 (hq:∀ D H2 ys,H1 D=none->Qk H1 H2->H2 D=some (.lst ys)->ys.length=n->(∀ i y,ys[i]?=some y->P H2 i y)->Q (.ref D) H2):LcR J YQa te σ Q H1:=by
 intro D hD;refine⟨fun i m ys H2=>m=n - i/\i<=n/\ys.length=i/\H2 D=some (.lst ys)/\Qk H1 H2/\∀ j y,ys[j]?=some y->P H2 j y,⟨_,rfl,Vk _,rfl,Qa,Qg hD _,fun j y h=>by simp at h⟩,?_⟩
 rintro i m ys H2 ⟨rfl,hi,hl,hd,sm,hp⟩;refine⟨hd,?_⟩
 by_cases hlt:i < n
 ·obtain⟨go,yl⟩:=hgo i H2 hlt sm
  refine .inr ⟨go,by omega,fun x H' y=>?_⟩
  obtain⟨e,hx⟩:=yl x H' y;subst e;unfold YQa;refine ZRc ?_
  refine he i x _ _ hx sm fun v H3 pv s3=>⟨s3 _ _ hd,n - (i+1),by omega,rfl,hlt,by rw[Vs,hl];rfl,Qa,(sm.trans s3).updL hD _,fun j y h=>?_⟩
  have st:=Jw (zs:=ys++[v]) (s3 _ _ hd)
  by_cases hj:j < ys.length
  ·rw[getElem?_append_left hj]at h
   exact mono _ _ _ _ (s3.t.trans st) (hp j y h)
  ·rw[getElem?_append_right (by omega)]at h
   have hj2:j=i:=by
    have:=(Vc.mp h).1
    simp at this
    omega
   subst hj2;rw[hl]at h;simp at h;subst h;exact mono _ _ _ _ st pv
 ·have e:i=n:=by omega
  subst e;exact .inl ⟨hst H2 sm,hq D H2 ys hD sm hd hl hp⟩
theorem Jza{K:W.Frag}{a:Addr}(xs:List V){te:TE}{σ:St}{H1:Hp}{Q:VK}(P:Hp->Nat->V->Prop)(mono:∀ H H' i v,Q1 H H'->P H i v->P H' i v)(hx:SqL K H1 a xs)(hz:xs.length<=sizeLine)
 (he:∀ i x H2 (R:VK),xs[i]?=some x->Qk H1 H2->(∀ v H3,P H3 i v->Qk H2 H3->R v H3)->te (some x::σ) H2 R)
 (hq:∀ D H2 ys,H1 D=none->Qk H1 H2->H2 D=some (.lst ys)->ys.length=xs.length->(∀ i y,ys[i]?=some y->P H2 i y)->Q (.ref D) H2):LcR (Itl K a) YQa te σ Q H1 :=
 Xab xs.length (fun i x=>xs[i]?=some x) P mono hz (fun i H2 hi s=>⟨⟨xs,xs[i],s.seq hx,by simp[hi]⟩,fun x H' y=>⟨y.1,y.2 xs (s.seq hx)⟩⟩) (fun H2 s=>⟨xs,s.seq hx,Ve _⟩) he hq
theorem XXa{J:It}{tt:TT}{σ:St}{H1:Hp}{Q:VK}(xs:List V)(p:V->Bool)(hz:xs.length<=sizeLine)
 (hgo:∀ i H2,i < xs.length->Qk H1 H2->J.go i H2/\∀ x H',J.yld i H2 x H'->H'=H2/\xs[i]?=some x) (hst:∀ H2,Qk H1 H2->J.stop xs.length H2)
 (he:∀ (i:Nat) x H2 (R:Bool->Hp->Prop),xs[i]?=some x->Qk H1 H2->(∀ H3,Qk H2 H3->R (p x) H3)->tt (some x::σ) H2 R)
 (hq:∀ D H2,H1 D=none->Qk H1 H2->H2 D=some (.lst (xs.filter p))->Q (.ref D) H2):LcR J tt (J9 0) σ Q H1:=by
 intro D hD;refine⟨fun i m ys H2=>m=xs.length - i/\i<=xs.length/\ys=(xs.take i).filter p/\H2 D=some (.lst ys)/\Qk H1 H2,⟨_,rfl,Vk _,by simp,Qa,Qg hD _⟩,?_⟩
 rintro i m ys H2 ⟨rfl,hi,hy,hd,sm⟩;refine⟨hd,?_⟩
 by_cases hlt:i < xs.length
 ·obtain⟨go,yl⟩:=hgo i H2 hlt sm
  have hl:ys.length<=i:=by
   rw[hy];exact Vj (length_filter_le _ _) (by rw[length_take];omega)
  refine .inr ⟨go,by omega,fun x H' y=>?_⟩
  obtain⟨e,hx⟩:=yl x H' y;subst e;have ht:(xs.take (i+1)).filter p=if p x=true then ys++[x] else ys:=by
   rw[take_succ,hx,filter_append,<- hy];cases hp:p x <;> simp[hp]
  refine he i x _ _ hx sm fun H3 s3=>?_
  cases hp:p x with
  | true =>
   rw[if_pos rfl];refine⟨s3 _ _ hd,xs.length - (i+1),by omega,rfl,hlt,?_,Qa,(sm.trans s3).updL hD _⟩
   rw[ht,hp,if_pos rfl]
  | false =>
   rw[if_neg Vf];refine⟨xs.length - (i+1),by omega,rfl,hlt,?_,s3 _ _ hd,sm.trans s3⟩
   rw[ht,hp,if_neg Vf]
 ·have e:i=xs.length:=by omega
  subst e;rw[take_length]at hy;exact .inl ⟨hst H2 sm,hq D H2 hD sm (by rw[hd,hy])⟩
theorem QGc{i:Int}(h : -(10 ^ 40) < i/\i < 10 ^ 40):i.natAbs.log2 < 1920:=by
 by_cases e:i.natAbs=0
 ·rw[e];decide
 ·rw[Nat.log2_lt e]
  have:i.natAbs < 10 ^ 40:=by omega
  exact Vt this (Vj (by decide:10 ^ 40<=2 ^ 200) (Nat.pow_le_pow_right (by decide) (by decide)))
def Jzb:Expr->Bool
 | .Starred _ _=>false
 | _=>true
theorem Zvb{e:Expr}{es:List Expr}{env:Env}(h:Jzb e=true):starEach (e::es) env=(false,eval e env)::starEach es env:=by
 cases e <;> first | rfl | (exact absurd h Vf)
theorem Qi{X:Cx}{e:Expr}{es:List Expr}{te:TE}{t:TA}(ha:PE X e te)(hr:PA X es t)(hn:Jzb e=true:=by rfl):PA X (e::es) (Qtb te t):=YVb ha hr (Zvb hn)
section
variable{prog:Program}{w:World}{A:Around}{E:YQ_}{s:Shared}
variable{z TI TO i1 i2:Addr}{fp1 fp2:List Addr}{n1 n2 i:Nat}{P1 P2:Nat->Value->Prop}{S1 S2:Nat->Heap->Prop}
end
section
variable{prog:Program}{w:World}{A:Around}{E:YQ_}{s:Shared}
end
section
variable{X:Cx}{ea eb:Expr}{ua ub:TE}{p pos tpos:Pos}{elts:List Expr}{kk:Nat}
end
section
variable{X:Cx}
end
section
variable{X:Cx}
theorem JAb{ta:TA}{tt:TT}{te:TE}{σ:St}{H:Hp}{Q:VK}:tLc (Z0b ta) tt te σ H Q=ta σ H fun vs H1=>∃ i j:Int,vs=[.int i,.int j]/\(-(2 ^ 62)<=i/\i < 2 ^ 62 /\ -(2 ^ 62)<=j/\j < 2 ^ 62)/\LcR (Itr i (j - i).toNat) tt te σ Q H1:=rfl
end
end L2
namespace Th
open PySem L2 Pl
def XXb(c:Nat):Bool:=decide (32<=c/\c<=126/\c≠37)
def JBb(z:Str):Prop:=z.length<=60/\∀ c∈z.cps.toList,XXb c=true\/c=9\/c=10
def YYa:V->Prop
 | .non=>True
 | .bl _=>True
 | .int _=>True
 | .str z=>JBb z
 | _=>False
def TT:Nat->Hp->V->Prop
 | 0,H,v=>YYa v\/∃ a,v=.ref a/\((∃ xs,H a=some (.lst xs))\/H a=some (.dK [])\/∃ xs,H a=some (.tup xs)/\xs.length<=60)
 | n+1,H,v=>YYa v\/∃ a,v=.ref a/\((∃ xs,H a=some (.lst xs))\/H a=some (.dK [])\/∃ xs,H a=some (.tup xs)/\xs.length<=60/\∀ u∈xs,TT n H u)
end Th
end
section
namespace L2
open PySem PySem.Spec PyProof.Rows
def QHc(h:Heap)(Y:Addr->Prop)(e:Addr)(vs:Array Value):Option Value->Prop
 | none=>vs[1]?=some .none
 | some v=>∃ T oT ts,vs[1]?=some (.ref T)/\T≠e/\(Y T/\oT.cls=.type "traceback")/\h.get? T=some oT/\oT.data=.fields ts/\ts[3]?=some v
def JCb:YP_->Value->Prop
 | [],c=>c=.none
 | p::r,c=>c=.ref p.1/\∃ va c',p.2.data=.fields va/\va[2]?=some c'/\JCb r c'
def Lie(h:Heap)(Y:Addr->Prop)(e:Addr)(ch:YP_):Prop:=(e::ch.map (·.1)).Nodup/\∀ p∈ch,h.get? p.1=some p.2/\p.2.cls≠.type "traceback"/\(∃ va,p.2.data=.fields va)/\Y p.1
def Exc(h:Heap)(Y:Addr->Prop)(e:Addr)(cls:Value)(dx:Option Addr)(ch:YP_)(fl:Option Value):Prop :=
 ∃ oe vs,h.get? e=some oe/\oe.cls=cls/\oe.dict=dx/\oe.data=.fields vs/\((∃ c,vs[2]?=some c/\JCb ch c)/\Lie h Y e ch)/\QHc h Y e vs fl
structure XD(Y:Addr->Prop)(e:Addr)(fs:List Addr)(h h':Heap):Prop where
 keep:∀ b o,h.get? b=some o->b≠e->¬ (Y b/\o.cls=.type "traceback")->b∉fs->h'.get? b=some o
 slot:∀ b o,h.get? b=some o->(∀ vs,o.data≠.fields vs)->∃ sl,h'.get? b=some { o with slots:=sl }
 size:h.objs.size<=h'.objs.size
theorem XD.trans{Y:Addr->Prop}{e:Addr}{fs:List Addr}{h₁ h₂ h₃:Heap}(x:XD Y e fs h₁ h₂)(y:XD Y e fs h₂ h₃):XD Y e fs h₁ h₃ :=
 ⟨fun b o q a c d=>y.keep b o (x.keep b o q a c d) a c d,fun b o q n=>let ⟨_,e1⟩:=x.slot b o q n;let ⟨sl,e2⟩:=y.slot b _ e1 n;⟨sl,e2⟩,Vj x.size y.size⟩
theorem XD.funs{Y:Addr->Prop}{e:Addr}{fs:List Addr}{h h' base:Heap}{l:List Env}(x:XD Y e fs h h')(f:h.FunFrames base l):h'.FunFrames base l :=
 f.of_keeps fun b o q n=>let ⟨sl,e1⟩:=x.slot b o q n;⟨_,e1,rfl⟩
theorem Lie.stay{Y:Addr->Prop}{e:Addr}{fs:List Addr}{h h':Heap}{ch:YP_}(l:Lie h Y e ch)(st:XD Y e fs h h')(nf:∀ b∈fs,∃ o,h.get? b=some o/\∀ vs,o.data≠.fields vs):Lie h' Y e ch :=
 ⟨l.1,fun p hp=>by
  obtain⟨q,c,⟨va,d⟩,y⟩:=l.2 p hp;refine⟨st.keep p.1 p.2 q (fun z=>?_) (fun z=>c z.2) (fun z=>?_),c,⟨va,d⟩,y⟩
  ·exact(nodup_cons.mp l.1).1 (by rw[<- z];exact mem_map_of_mem hp)
  ·obtain⟨o,q',n⟩:=nf _ z
   rw[q]at q';cases q';exact n va d⟩
theorem Zwb(o:Obj)(f):(o.mapFields f).dict=o.dict:=by
 obtain⟨c,d,dt,sl⟩:=o;cases dt <;> rfl
theorem Zwa{Y:Addr->Prop}{e a:Addr}{fs:List Addr}{h:Heap}{o:Obj}{vs:Array Value}(i:Nat)(x:Value)(ho:h.get? a=some o)(hd:o.data=.fields vs)(ha:a=e\/(Y a/\o.cls=.type "traceback")) :
 XD Y e fs h (h.update a (Obj.mapFields (·.setIfInBounds i x))) where
 keep b u q n1 n2 _:=by
  rw[Heap.get?_update_other _ _ (fun z=>by subst z;rw[ho]at q;cases q;exact ha.elim n1 n2)];exact q
 slot b u q n:=⟨u.slots,by
  rw[Heap.get?_update_other _ _ (fun z=>by subst z;rw[ho]at q;cases q;exact n vs hd)];exact q⟩
 size:=by rw[Heap.size_update];exact Ve _
theorem QPb{a:Addr}{h:Heap}{o:Obj}{vs:Array Value}(i:Nat)(x:Value)(ho:h.get? a=some o)(hd:o.data=.fields vs) :
 (h.update a (Obj.mapFields (·.setIfInBounds i x))).get? a=some (o.mapFields (·.setIfInBounds i x)):=Heap.get?_update_self _ ho (Obj.isFreed_of_fields (Obj.data_mapFields hd _))
section
variable{M:Model}{A:Around}{E:YQ_}{s:Shared}{Y:Addr->Prop}{base:Heap}{env:Env}{outer:List Env}{L e:Addr}{cls:Value}{dx:Option Addr}{ch:YP_}{fl:Option Value}{Q:Unit->Shared->Prop}
theorem Xbb{fs:List Addr}{v:Value}(nf:∀ b∈fs,∃ o,s.heap.get? b=some o/\∀ vs,o.data≠.fields vs)(x:Exc s.heap Y e cls dx ch (some v))(q:∀ h',XD Y e fs s.heap h'->Exc h' Y e cls dx ch (some .none)->Q () { s with heap:=h' }):wpAny M A (setFlight (.ref e) none) Q E s:=by
 obtain⟨oe,vs,he,hc,hdx,hd,⟨lk,ll⟩,T,oT,ts,h1,hTe,hY,hT,hdT,h3⟩:=x;unfold setFlight;refine Va (wpAny_field he hd h1 ?_)
 rw[if_pos (show(Value.ref T != Value.none)=true from by simp)]
 have hsz:3 < ts.size:=(Array.getElem?_eq_some_iff.mp h3).1
 have st:=Zwa (Y:=Y) (e:=e) (fs:=fs) 3 ((none:Option Addr).elim Value.none fun f=>rawInt f) hT hdT (.inr hY)
 refine wpAny_setField hT hdT hsz (q _ st ⟨oe,vs,?_,hc,hdx,hd,⟨lk,ll.stay st nf⟩,T,_,_,h1,hTe,⟨hY.1,(Obj.cls_mapFields _ _).trans hY.2⟩,QPb 3 _ hT hdT,Obj.data_mapFields hdT _,?_⟩)
 ·rw[Heap.get?_update_other _ _ hTe];exact he
 ·simp[hsz]
theorem YZa{head:Value}{hadNext:Bool}(hfr:A.frames=some (env::outer))(hl:s.heap.FunFrames base (env::outer))(hf:env.frame=some L)(hy:∀ b,s.heap.objs.size<=b->Y b){oe:Obj}{vs:Array Value}
 (he:s.heap.get? e=some oe) (hc:oe.cls=cls) (hdx:oe.dict=dx) (hd:oe.data=.fields vs) (hsz:1 < vs.size) (lk:∃ c,vs[2]?=some c/\JCb ch c) (ll:Lie s.heap Y e ch)
 (q:∀ h',XD Y e (frs (env::outer)) s.heap h'->Exc h' Y e cls dx ch (some (rawInt L))->Q () { s with heap:=h' }) :
 wpAny M A (do let a <- frameOf env;let pl <- entryPlaceOf L hadNext;let b <- EntryCells.newEntry head a .none (rawInt L) .none pl;setField (.ref e) 1 b) Q E s:=by
 refine Va (wpAny_frameOf_fun hfr hl hf fun h₁ hs=>?_)
 refine Va (wpAny_entryPlaceOf fun pl hpl=>?_)
 unfold EntryCells.newEntry newFields;refine Va (wpAny_newObj_type ?_ (hpl.sizeOk5 _ _ _ _ _))
 have hef:e∉frs (env::outer):=fun hm=>by
  obtain⟨_,o,ho,hn⟩:=hl.mem hm;rw[he]at ho;cases ho;exact hn vs hd
 have he1:h₁.get? e=some oe:=(hs.2.1 e hef).trans he;have hne:h₁.objs.size≠e:=Nat.ne_of_gt (Vh he1);generalize htb:({ cls:=.type "traceback",dict:=none,data:=.fields ([head,.ref L,.none,rawInt L,.none]++(if pl.isEmpty then List.replicate 6 Value.none else pl)).toArray }:Obj)=tb
 have htd:tb.data=.fields ([head,.ref L,.none,rawInt L,.none]++(if pl.isEmpty then List.replicate 6 Value.none else pl)).toArray:=by rw[<- htb]
 have hfr':tb.isFreed=false:=Obj.isFreed_of_fields htd;have he2:(h₁.push tb).get? e=some oe:=Vd _ he1
 have hY:Y h₁.objs.size:=hy _ (by rw[hs.1];exact Ve _)
 have htc:tb.cls=.type "traceback":=by rw[<- htb]
 have st:XD Y e (frs (env::outer)) s.heap ((h₁.push tb).update e (Obj.mapFields (·.setIfInBounds 1 (Value.ref h₁.objs.size)))):=by
  refine XD.trans ?_ (Zwa 1 _ he2 hd (.inl rfl))
  refine⟨fun b o g _ _ n=>Vd _ ((hs.2.1 b n).trans g),fun b o g _=>?_,?_⟩
  ·obtain⟨sl,g1⟩:=hs.2.2 b o g
   exact⟨sl,Vd _ g1⟩
  ·rw[<- hs.1];cases h₁;simp[Heap.push]
 refine wpAny_setField he2 hd hsz (q _ st ⟨_,_,QPb 1 _ he2 hd,(Obj.cls_mapFields _ _).trans hc,(Zwb _ _).trans hdx,Obj.data_mapFields hd _,⟨?_,ll.stay st fun b hb=>(hl.mem hb).2⟩,h₁.objs.size,tb,_,by simp[hsz],hne,⟨hY,htc⟩,?_,htd,?_⟩)
 ·obtain⟨c,h2,l⟩:=lk
  exact⟨c,by rw[Array.getElem?_setIfInBounds_ne (by decide)];exact h2,l⟩
 ·rw[Heap.get?_update_other _ _ (Ne.symm hne)];exact Vi _ hfr'
 ·first | (simp;done) | (rcases hpl with rfl | ⟨_,_,_,_,_,_,_,rfl⟩ <;> simp)
theorem Xcb(hfr:A.frames=some (env::outer))(hl:s.heap.FunFrames base (env::outer))(hf:env.frame=some L)(hy:∀ b,s.heap.objs.size<=b->Y b)(x:Exc s.heap Y e cls dx ch fl)(hfl:fl=none\/fl=some .none)
 (q:∀ h',XD Y e (frs (env::outer)) s.heap h'->Exc h' Y e cls dx ch (some (rawInt L))->Q () { s with heap:=h' }):wpAny M A (noteFrame (.ref e) env) Q E s:=by
 obtain⟨oe,vs,he,hc,hdx,hd,⟨lk,ll⟩,hh⟩:=x;unfold noteFrame;simp only[hf]
 rcases hfl with rfl | rfl
 ·have h1:vs[1]?=some .none:=hh
  refine Va (wpAny_field he hd h1 ?_)
  rw[if_neg (by decide)]
  exact YZa hfr hl hf hy he hc hdx hd (Array.getElem?_eq_some_iff.mp h1).1 lk ll q
 ·obtain⟨T,oT,ts,h1,hTe,hY,hT,hdT,h3⟩:=hh
  refine Va (wpAny_field he hd h1 ?_)
  rw[if_pos (show(Value.ref T != Value.none)=true from by simp)]
  refine Va (wpAny_field hT hdT h3 ?_)
  rw[if_neg (show ¬ ((Value.none == rawInt L)=true) from by simp[rawInt])]
  refine Va (wpAny_setField hT hdT (Array.getElem?_eq_some_iff.mp h3).1 ?_)
  have st:XD Y e (frs (env::outer)) s.heap (s.heap.update T (Obj.mapFields (·.setIfInBounds 3 Value.none))):=Zwa 3 _ hT hdT (.inr hY);refine YZa (s:={ s with heap:=s.heap.update T (Obj.mapFields (·.setIfInBounds 3 Value.none)) }) hfr (st.funs hl) hf (fun b hb=>hy b (Vj st.size hb)) ((Heap.get?_update_other _ _ hTe).trans he) hc hdx hd (Array.getElem?_eq_some_iff.mp h1).1 lk (ll.stay st fun b hb=>(hl.mem hb).2) fun h' t x'=>q h' (st.trans t) x'
theorem JDb(hfr:A.frames=some (env::outer))(hl:s.heap.FunFrames base (env::outer))(hf:env.frame=some L)(hy:∀ b,s.heap.objs.size<=b->Y b)(x:Exc s.heap Y e cls dx ch fl)(hfl:fl=none\/fl=some .none)
 (q:∀ h',XD Y e (frs (env::outer)) s.heap h'->Exc h' Y e cls dx ch (some .none)->Q () { s with heap:=h' }):wpAny M A (leaving env (.ref e)) Q E s:=by
 unfold leaving;refine Va (Xcb hfr hl hf hy x hfl fun h₁ st x1=>?_)
 exact Xbb (s:={ s with heap:=h₁ }) (fs:=frs (env::outer)) (fun b hb=>((st.funs hl).mem hb).2) x1 fun h₂ st2 x2=>q h₂ (st.trans st2) x2
end
theorem Exc.mono{h:Heap}{Y Y':Addr->Prop}{e:Addr}{cls:Value}{dx:Option Addr}{ch:YP_}{fl:Option Value}(x:Exc h Y e cls dx ch fl)(k:∀ b,Y b->Y' b):Exc h Y' e cls dx ch fl:=by
 obtain⟨oe,vs,he,hc,hdx,hd,⟨lk,l1,l2⟩,hh⟩:=x;refine⟨oe,vs,he,hc,hdx,hd,⟨lk,l1,fun p hp=>let ⟨a,b,c,d⟩:=l2 p hp;⟨a,b,c,k _ d⟩⟩,?_⟩
 cases fl with
 | none=>exact hh
 | some v=>obtain⟨T,oT,ts,h1,h2,h3,r⟩:=hh;exact⟨T,oT,ts,h1,h2,⟨k T h3.1,h3.2⟩,r⟩
def Yg(old:Heap)(H:Hp)(b:Addr):Prop:=old.get? b=none/\H b=none
def CX1(P:Program)(w:World):CXT:=fun outer H s E e s'=>∃ ea cls dx ch H',e=.ref ea/\s'.os=s.os/\AllBare s'.gens/\Un (frs outer) [] H H' s.heap s'.heap/\HOk P w H' s'.heap /\
 Exc s'.heap (Yg s.heap H') ea cls dx ch (some .none)/\s.heap.get? ea=none/\H' ea=none/\E cls dx H'
def Zxa(X:Cx)(E:XK):Prop:=∀ (pins:YP_) (σ:St) (H:Hp) (s:Shared) (e:Addr) (cls:Value) (dx:Option Addr) (ch:YP_) (fl:Option Value),Inv X pins σ H s->Exc s.heap (Yg X.s₀.heap H) e cls dx ch fl->(fl=none\/fl=some .none) ->
 X.s₀.heap.get? e=none->H e=none->E cls dx H->X.xe (.ref e) s
section
variable{X:Cx}{E:XK}{pins:YP_}{σ:St}{H:Hp}{s:Shared}
theorem Inv.young(I:Inv X pins σ H s)(hx:X.ex=[]){b:Addr}(h:s.heap.get? b=none):X.s₀.heap.get? b=none:=by
 cases q:X.s₀.heap.get? b with
 | none=>rfl
 | some o =>
  obtain⟨o',e⟩:=I.base.there b o q (by rw[hx];simp)
  rw[h]at e;cases e
theorem JEb{env:Env}{outer:List Env}{L:Addr}(h:env.frame=some L):frs (env::outer)=L::frs outer:=by unfold frs;rw[filterMap_cons,h]
end
section
variable{P:Program}{w:World}{K:W.Frag}{mg:Str->Option Value}{base:Heap}{N:List Str}{qual:Str}{scope:Scope}{f:Addr}{cd:Value}{A:Around}{outer:List Env}{s:Shared}{H:Hp}{E:XK}
theorem Yp:Zxa (XV (CX1 P w) P w K mg base N qual scope f cd A outer s H E) E:=by
 intro pins σ H' s' e cls dx ch fl I x hfl n1 n2 hE;have n1:s.heap.get? e=none:=n1;have fr:frs (envOfC qual scope s.heap.objs.size f cd::outer)=s.heap.objs.size::frs outer:=JEb rfl;have stk:s'.heap.FunFrames base (envOfC qual scope s.heap.objs.size f cd::outer):=I.stack;have sf:∀ b∈frs (envOfC qual scope s.heap.objs.size f cd::outer),H' b=none:=I.stkFree;have ib:Un (frs outer) [] H H' s.heap s'.heap:=I.base;show wpAny (model P w) _ (leaving _ (.ref e)) _ _ s';refine JDb (base:=base) (Y:=Yg s.heap H') (L:=s.heap.objs.size) (fl:=fl) I.ok.frames stk rfl (fun b hb=>⟨Heap.get?_none_of_le (Vj I.sz hb),I.hok.fresh hb⟩) x hfl fun h' st x'=>?_
 have nf:∀ b o,s.heap.get? b=some o->b∉frs outer->b∉frs (envOfC qual scope s.heap.objs.size f cd::outer):=fun b o q hb hm=>by
  rw[fr]at hm
  rcases mem_cons.mp hm with z | z
  ·rw[z]at q;exact absurd (Vh q) (Vu _)
  ·exact hb z
 have ne:∀ b o,s.heap.get? b=some o->b≠e:=fun b o q z=>by rw[z,n1]at q;cases q
 have ny:∀ b o (o':Obj),s.heap.get? b=some o->¬ (Yg s.heap H' b/\o'.cls=.type "traceback"):=fun b o o' q y=>by rw[y.1.1]at q;cases q
 refine⟨e,cls,dx,ch,H',rfl,I.os,I.bare,⟨fun b o q n hb hx=>?_,fun b o q n hb hx=>?_,ib.free,fun b o q hx=>?_,ib.tups,ib.frzs,ib.tbls⟩,fun b u eb=>?_,x',n1,n2,hE⟩
 ·exact st.keep b o (ib.keep b o q n hb hx) (ne b o q) (ny b o _ q) (nf b o q hb)
 ·obtain⟨sl,q1⟩:=ib.slot b o q n hb hx
  obtain⟨_,o2,q2,hn⟩:=stk.mem (show b∈frs _ by rw[fr];exact Vo _ hb)
  rw[q1]at q2;cases q2;obtain⟨sl',q3⟩:=st.slot b _ q1 hn;exact⟨sl',q3⟩
 ·obtain⟨o',q1⟩:=ib.there b o q hx
  by_cases hn:∀ vs,o'.data≠.fields vs
  ·obtain⟨sl,q2⟩:=st.slot b o' q1 hn
   exact⟨_,q2⟩
  ·refine⟨o',st.keep b o' q1 (ne b o q) (ny b o _ q) fun hm=>?_⟩
   obtain⟨_,o2,q2,hn2⟩:=stk.mem hm;rw[q1]at q2;cases q2;exact hn hn2
 ·refine(I.hok b u eb).stay (fun c v hc q=>?_) (fun _ q=>q) fun _ _ q=>q
  have hc':H' c≠none:=by
   rcases hc with z | z
   ·rw[z,eb];simp
   ·rw[z];simp
  exact st.keep c v q (fun z=>hc' (by rw[z];exact n2)) (fun y=>hc' y.1.2) fun hm=>hc' (sf c hm)
theorem Zyc:PassesOwn (model P w) (XV (CX1 P w) P w K mg base N qual scope f cd A outer s H E).A (XV (CX1 P w) P w K mg base N qual scope f cd A outer s H E).env (XV (CX1 P w) P w K mg base N qual scope f cd A outer s H E).xe:=PassesOwn.leaving (Q₁:=fun e s''=>CX1 P w outer H s E e s'')
end
theorem QB.obj{P:Program}{w:World}{H:Hp}{h:Heap}{a:Addr}{o:HO}(x:QB P w H h a o):∃ ob,h.get? a=some ob:=by
 cases o with
 | lst xs=>obtain⟨_,_,_,_,e⟩:=x;exact⟨_,e⟩
 | tup xs=>obtain⟨_,_,_,p⟩:=x;obtain⟨o,e,_⟩:=p;exact⟨_,e⟩
 | dK kvs=>obtain⟨_,_,_,_,o,_,_,e,_⟩:=x;exact⟨_,e⟩
 | dT kvs=>obtain⟨_,_,_,_,o,_,_,e,_⟩:=x;exact⟨_,e⟩
 | set S n=>obtain⟨o,_,_,_,e,_⟩:=x;exact⟨_,e⟩
 | ins C dx fs=>obtain⟨_,_,_,e,_⟩:=x;exact⟨_,e⟩
 | own y=>exact x
 | xd fs=>obtain⟨_,⟨_,_,_,e,_⟩,_⟩:=x;exact⟨_,e⟩
 | rng lo hi=>obtain⟨_,_,_,e⟩:=x;exact⟨_,e⟩
 | frz ob u=>obtain⟨e,_⟩:=x;exact⟨_,e⟩
 | tbl ps=>exact⟨_,x⟩
 | met f y=>exact⟨_,x⟩
 | ext φ=>obtain⟨_,e,_⟩:=x;exact e
theorem HOk.none_of{P:Program}{w:World}{H:Hp}{h:Heap}{a:Addr}(x:HOk P w H h)(e:h.get? a=none):H a=none:=by
 cases q:H a with
 | none=>rfl
 | some u=>obtain⟨o,e'⟩:=(x a u q).obj;rw[e]at e';cases e'
structure ZSc(K:W.Frag)(C:Addr)(bm bmB:List Value)(newId:String):Prop where
 ex:∃ nm q N bs hdct sn sub ab col dd k0 k1 k2 k3 k5,K.lookup C=some (excClassObj nm q C N bs bm hdct sn sub ab col dd k0 k1 k2 k3 k5 newId)/\W.nsOkIn K N=true/\W.nsIn K N "__init__"=some none
 tail:W.tailIn K bmB bm=true
section
variable{X:Cx}{E:XK}{x:Str}{C:Addr}{bm bmB:List Value}{B newId initId:String}{np cpos pos:Pos}
end
structure Old(X:Cx)(pins:YP_)(old:Heap):Prop where
 ent:∀ b,old.get? b=none->X.s₀.heap.get? b=none
 pin:∀ p∈X.pn++pins,old.get? p.1≠none
def X1P(X:Cx)(pins:YP_)(σ:St)(E:XK)(ev:Value)(s':Shared):Prop :=
 ∃ ea cls dx ch H' old,ev=.ref ea/\Inv X pins σ H' s'/\Exc s'.heap (Yg old H') ea cls dx ch (some .none)/\Old X pins old/\(∀ b,s'.heap.objs.size<=b->old.get? b=none)/\old.get? ea=none/\H' ea=none/\E cls dx H'
abbrev TE1:=St->Hp->VK->XK->Prop
abbrev TS1:=Jb->St->Hp->XK->Prop
def PE1(X:Cx)(e:Expr)(t:TE1):Prop :=
 ∀ (pins:YP_) (s:Shared) (σ:St) (H:Hp) (Q:VK) (E:XK),Inv X pins σ H s->t σ H Q E->wpAny (model X.prog X.w) X.A (eval e X.env) (EP X pins σ Q) (X1P X pins σ E) s
section
variable{X:Cx}{E:XK}{e:Expr}{es:List Expr}{t:TA}{t1:TE1}{x:Str}{p pos:Pos}{k j:Nat}{f:Addr}{fd:FuncData}{ps:List Str}{sp:Sp}
theorem X1P.thrown{pins:YP_}{σ:St}{ev:Value}{s':Shared}(T:Zxa X E)(h:X1P X pins σ E ev s'):X.xe ev s':=by
 obtain⟨ea,cls,dx,ch,H',old,rfl,I,y,o,_,n1,n2,hE⟩:=h;exact T pins σ H' s' ea cls dx ch _ I (y.mono fun b z=>⟨o.ent b z.1,z.2⟩) (.inr rfl) (o.ent _ n1) n2 hE
theorem PE1.pe(h:PE1 X e t1)(T:Zxa X E):PE X e (fun σ H Q=>t1 σ H Q E):=fun pins s σ H Q I q=>wpAny_mono (h pins s σ H Q E I q) (fun _ _ z=>z) fun _ _ z=>z.thrown T
theorem Inv.old{pins:YP_}{σ:St}{H:Hp}{s:Shared}(I:Inv X pins σ H s)(hex:X.ex=[]):Old X pins s.heap :=
 ⟨fun b h=>I.young hex h,fun p hp h=>by rw[(I.pin p hp).1]at h;cases h⟩
theorem X4{pins:YP_}{σ:St}{H:Hp}{s:Shared}{Q:VK}{us:List Value}{vs:List V}(F:QD X.prog X.w X.K X.mg X.base (CX1 X.prog X.w) k f fd ps sp)(hr:Q4 k X.A)(hb:ZJ X.K fd ps [])(hex:X.ex=[])
 (I:Inv X pins σ H s) (r:Qv vs us) (h:sp vs H Q E):wpAny (model X.prog X.w) X.A (call (.ref f) us) (EP X pins σ Q) (X1P X pins σ E) s:=by
 have hl:(us++[]).length=ps.length:=by rw[append_nil,<- r.length];exact F.len _ _ _ _ h
 have b:=hb s us I.kIn hl;rw[append_nil]at b;refine wpAny_call (codeAny_mono (F.run X.A X.stack s H ⟨us,[]⟩ us vs Q E hr I.env0 b r h) fun res s' hq=>?_)
 cases res with
 | error ev =>
  obtain⟨ea,cls,dx,ch,H',rfl,os,bare,un,hok,y,n1,n2,hE⟩:=hq;refine⟨ea,cls,dx,ch,H',s.heap,rfl,I.call' (ch:=[]) os un hok bare (fun b z=>absurd z (by simp)),y,I.old hex,fun b hb=>?_,n1,n2,hE⟩
  cases q:s.heap.get? b with
  | none=>rfl
  | some u =>
   obtain⟨u',q'⟩:=un.there b u q (by simp)
   exact absurd (Vt (Vh q') hb) (Vu _)
 | ok fl =>
  cases fl with
  | ret u=>exact I.after hq
  | next=>exact False.elim hq
  | brk=>exact False.elim hq
  | cont=>exact False.elim hq
def XYa(sp:Sp)(t:TA):TE1:=fun σ H Q E=>t σ H fun vs H1=>sp vs H1 Q E
theorem XZa{pins:YP_}{σ:St}{H:Hp}{s:Shared}{Q:List V->Hp->Prop}{W:YQ_}(ha:PA X.nox es t)(I:Inv X pins σ H s)(q:t σ H Q):wpAny (model X.prog X.w) X.A (spliced (backTo pos (starEach es X.env))) (AP X pins σ Q) W s :=
 wpAny_mono (ha pos pins s σ H Q (I.wish _) q) (fun _ _ ⟨vs,H',I',r,z⟩=>⟨vs,H',I'.unwish,r,z⟩) fun _ _ z=>False.elim z
theorem JFb(F:QD X.prog X.w X.K X.mg X.base (CX1 X.prog X.w) k f fd ps sp)(hr:Q4 k X.A)(hg:Gl X x)(hm:X.mg x=some (.ref f))(hk:W.keepIn X.K (.ref f)=true)(hb:ZJ X.K fd ps [])(hex:X.ex=[])
 (ha:PA X.nox (e::es) t) (hdb:(x == ("__debug__":Str))=false:=by decide) (he:starEach (e::es) X.env=(false,eval e X.env)::starEach es X.env:=by rfl) (hpl:(backTo pos (starEach es X.env)).any (·.1)=false:=by rfl) :
 PE1 X (.Call (.Name x p) (e::es) [] pos) (XYa sp t):=by
 intro pins s σ H Q E I h;refine wpAny_Call_Name_kw (JM I hg hm ?_ hdb)
 refine W.callWith_K (h₀:=X.base) I.ok.mod.kin hk (thn (XZa ha I h) fun us s1 ⟨vs,H1,I1,r,q⟩=>⟨I1.kIn,?_⟩) he hpl
 exact X4 F hr hb hex I1 r q
end
section
variable{X:Cx}{pins:YP_}{σ:St}{H:Hp}{s:Shared}
end
section
variable{X:Cx}{st b₀:Stmt}{suite:List Stmt}{t1:TS1}{ts:TS}{x:Str}{C:Addr}{bm bmB:List Value}{B newId initId:String}{np hpos pos:Pos}
end
section
variable{prog:Program}{w:World}{A:Around}{s:Shared}{R:Result->Shared->Prop}{value:Value}
end
section
variable{M:Model}{A:Around}{E:YQ_}{env:Env}
variable{nm q:Str}{C N:Addr}{bs bm:List Value}{hdct:Bool}{sn:List Str}{sub:List Value}{ab:Bool}{col:Option Bool}{dd:Option Addr}{k0 k1 k2 k3 k5:Option Value}{newId:String}
end
section
variable{X:Cx}{E:XK}{x:Str}{C ea:Addr}{ps:YP_}{bm bmB:List Value}{B newId initId:String}{np cpos kpos pos:Pos}{j:Nat}
end
def MeV(P:Program)(w:World)(K:W.Frag)(mg:Str->Option Value)(base:Heap)(k:Nat)(C:Addr)(m:Str)(sp:Sp):Prop :=
 ∃ f fd ps,Zjc K C m f/\QD P w K mg base (CX1 P w) k f fd ps sp/\ZJ K fd ps []
section
variable{X:Cx}{C:Addr}{m x:Str}{k i:Nat}{sp:Sp}{ta:TE}{t:TA}{e o:Expr}{es:List Expr}{p pos apos:Pos}{pl:Sem Bool}
theorem QQb{pins:YP_}{σ:St}{H:Hp}{s:Shared}{Q:VK}{W:YQ_}(h:PE X.nox e ta)(I:Inv X pins σ H s)(q:ta σ H Q):wpAny (model X.prog X.w) X.A (eval e X.env) (EP X pins σ Q) W s :=
 wpAny_mono (h pins s σ H Q (I.wish _) q) (fun _ _ ⟨v,H',I',r,z⟩=>⟨v,H',I'.unwish,r,z⟩) fun _ _ z=>False.elim z
end
section
variable{P:Program}{w:World}{K:W.Frag}{mg:Str->Option Value}{base:Heap}
theorem Fun.ok1{x qual:Str}{st:Stmt}{f:Addr}{fd:FuncData}{N ps:List Str}{k:Nat}{sp:Sp}(F:Fun K x qual st f fd)(S:Qo N ps (Qh st))(len:∀ vs H Q E,sp vs H Q E->vs.length=ps.length)
 (hbody:∀ (cdv:Value) (A:Around) (outer:List Env) (s:Shared) (H:Hp) (vs:List V) (Q:VK) (E:XK),Q4 k (A.deeper (envOfC qual (Qh st) s.heap.objs.size f cdv))->sp vs H Q E ->
  ∃ t,PSs (XV (CX1 P w) P w K mg base N qual (Qh st) f cdv A outer s H E) (Yk st) t/\t { nx:=fun _ H'=>Q .non H',rt:=Q } (XU N vs) H):QD P w K mg base (CX1 P w) (k+1) f fd ps sp:=by
 obtain⟨oc,od,kV,doc,pm,an,cdv,ct,osl,rfl,lk,hcd⟩:=F.ex;exact XMb lk hcd S len fun A outer s H vs Q E hr hsp=>hbody cdv A outer s H vs Q E hr hsp
end
section
variable{X:Cx}
theorem Z6:Zxa X E0:=fun _ _ _ _ _ _ _ _ _ _ _ _ _ _ h=>h.elim
end
section
variable{P:Program}{w:World}{K:W.Frag}{mg:Str->Option Value}{base:Heap}{N:List Str}{qual:Str}{scope:Scope}{f:Addr}{cd:Value}{A:Around}{outer:List Env}{s:Shared}{H:Hp}{E:XK}
end
def QIc(P:Program)(w:World)(K:W.Frag)(mg:Str->Option Value)(base:Heap)(k:Nat)(x:Str)(ps:List Str)(sp:Sp):Prop :=
 ∃ f fd,QD P w K mg base (CX1 P w) k f fd ps sp/\ZJ K fd ps []/\W.keepIn K (.ref f)=true/\mg x=some (.ref f)
def MkV(P:Program)(w:World)(K:W.Frag)(mg:Str->Option Value)(base:Heap)(k:Nat)(x:Str)(C:Addr)(sp:Sp):Prop :=
 ∃ f fd ps,Mk K C f/\QD P w K mg base CX0 k f fd ps sp/\ZJ K fd ps []/\mg x=some (.ref C)
section
variable{X:Cx}{e o:Expr}{es:List Expr}{t:TA}{ta:TE}{p pos apos:Pos}{j k:Nat}{x m:Str}{ps:List Str}{sp:Sp}{C:Addr}{E:XK}{pl:Sem Bool}
theorem Q5a(G:QIc X.prog X.w X.K X.mg X.base j x ps sp)(hr:Q4 k X.A)(hj:j<=k)(hg:Gl X x)(hex:X.ex=[])(ha:PA X.nox (e::es) t)(hdb:(x == ("__debug__":Str))=false:=by decide)
 (he:starEach (e::es) X.env=(false,eval e X.env)::starEach es X.env:=by rfl) (hpl:(backTo pos (starEach es X.env)).any (·.1)=false:=by rfl):PE1 X (.Call (.Name x p) (e::es) [] pos) (XYa sp t):=by
 obtain⟨f,fd,F,b,kp,m⟩:=G;exact JFb F (hr.mono hj) hg m kp b hex ha hdb he hpl
theorem MeV.mono{P:Program}{w:World}{K:W.Frag}{mg:Str->Option Value}{base:Heap}(G:MeV P w K mg base j C m sp)(hj:j<=k):MeV P w K mg base k C m sp:=by
 obtain⟨f,fd,ps,a,F,b⟩:=G;exact⟨f,fd,ps,a,F.mono hj,b⟩
theorem XYb(G:MkV X.prog X.w X.K X.mg X.base j x C sp)(hr:Q4 k X.A)(hj:j+1<=k)(hg:Gl X x)(ha:PA X (e::es) t)(hdb:(x == ("__debug__":Str))=false:=by decide)
 (he:starEach (e::es) X.env=(false,eval e X.env)::starEach es X.env:=by rfl) (hpl:(backTo pos (starEach es X.env)).any (·.1)=false:=by rfl):PE X (.Call (.Name x p) (e::es) [] pos) (Qvb C sp [] E0 t):=by
 obtain⟨f,fd,ps,M,F,b,hm⟩:=G;exact YXb M F (hr.mono hj) hg hm b .nil QAb ha hdb he hpl
end
end L2
end
section
namespace Tg
open PySem L2 Pl
def XXb(c:Nat):Bool:=decide (32<=c/\c<=126/\c≠37)
def JBb(z:Str):Prop:=z.length<=10000000
def YYa:V->Prop
 | .non=>True
 | .bl _=>True
 | .int _=>True
 | .str z=>JBb z
 | _=>False
def TT:Nat->Hp->V->Prop
 | 0,H,v=>YYa v\/∃ a,v=.ref a/\((∃ xs,H a=some (.lst xs))\/H a=some (.dK [])\/∃ xs,H a=some (.tup xs)/\xs.length<=100000)
 | n+1,H,v=>YYa v\/∃ a,v=.ref a/\((∃ xs,H a=some (.lst xs))\/H a=some (.dK [])\/∃ xs,H a=some (.tup xs)/\xs.length<=100000/\∀ u∈xs,TT n H u)
end Tg
end
section
namespace L2
open PySem PySem.Spec PyProof.Rows
section
variable{X:Cx}
end
section
variable{X:Cx}
end
end L2
end
section
namespace PySem
section
variable{prog:Program}{w:World}{A:Around}{E:YQ_}{h:Heap}{g:Array GenState}{d:Drawn}{t:Nat}{os:OsState}
variable{nm q:Str}{C N:Addr}{bs bm bmB:List Value}{hdct:Bool}{sn:List Str}{sub:List Value}{ab:Bool}{col:Option Bool}{dd:Option Addr}{k0 k1 k2 k3 k5:Option Value}{B newId initId:String}
abbrev Qna(h:Heap)(C:Addr):Obj:={ cls:=.ref C,data:=.fields #[.ref h.objs.size,.none,.none,.none,.bool false,.none] }
abbrev Zya(rest:List Value):Obj:={ cls:=.type "tuple",data:=.seq rest.toArray }
end
end PySem
end
section
namespace PySem.W
open PySem PySem.Spec PySem.Calls PyProof.Rows PySem.Builtin PySem.Builtin.ObjectAttr
abbrev bmV:List Value:=[.type "ValueError",.type "Exception",.type "BaseException",.type "object"]
structure XCl(K:Frag)(C CT:Addr):Prop where
 cl:∃ nm q N bs sn sub ab col dd k0 k1 k2 k3 k5,K.lookup C=some (excClassObj nm q C N bs (.ref CT::bmV) true sn sub ab col dd k0 k1 k2 k3 k5 "ValueError.__new__")/\nsOkIn K N=true
 tail:tailIn K bmV (.ref CT::bmV)=true
 ga:findIn K (.ref C) "__getattribute__"=some (some (.builtin "BaseException.__getattribute__"))
 gt:findIn K (.ref C) "__getattr__"=some none
 sa:findIn K (.ref C) "__setattr__"=some (some (.builtin "object.__setattr__"))
 cc:findIn K (.ref C) "__class__"=some (some (.builtin "object.__class__"))
 cg:specialIn K (.builtin "object.__class__") "__get__"=some (some (.builtin "getset_descriptor.__get__"))
 ct:takesIn K (.builtin "object.__class__")=some true
section
variable{K:Frag}{C CT:Addr}
theorem XCl.cd(c:XCl K C CT):∃ cd,clsIn K C=some cd/\cd.mro=.ref C::.ref CT::bmV/\cd.hasDict=true:=by
 obtain⟨nm,q,N,bs,sn,sub,ab,col,dd,k0,k1,k2,k3,k5,lk,_⟩:=c.cl;have e:clsIn K C=(match (excClassObj nm q C N bs (.ref CT::bmV) true sn sub ab col dd k0 k1 k2 k3 k5 "ValueError.__new__") with | ⟨_,_,.cls cd,_⟩=>some cd | _=>none):=by unfold clsIn;rw[lk]
 exact⟨_,e,rfl,rfl⟩
theorem XCl.mro(c:XCl K C CT)(T:Value):mroIn K C T=some ((Value.ref C::.ref CT::bmV).contains T):=by
 obtain⟨cd,h,m,_⟩:=c.cd;unfold mroIn;rw[h,Option.bind_some,m];rfl
theorem XCl.mroT(c:XCl K C CT){T:String}(h:bmV.contains (.type T)=true):mroIn K C (.type T)=some true:=by
 rw[c.mro,contains_cons,contains_cons,h];rfl
end
section
variable{prog:Program}{w:World}{A:Around}{E:YQ_}{s:Shared}{K:Frag}{x C CT:Addr}{ox:Obj}{od:Option Obj}{name:Str}
theorem Q7c{tk:Tok}{fill expr:Bool}{Q:YQ_}(X:K.In s.heap)(I:InstAt s.heap x ox C od)(c:XCl K C CT)
 (h:wpAny (model prog w) A.in1 (Builtin.«object.__getattribute__» ⟨[.ref x,.str name tk],[]⟩)
  (fun fin s'=>match fin with | .done (.ret v)=>wpAny (model prog w) A (handedOut v) Q E s' | _=>False) (fun _ _=>False) s) :
 wpAny (model prog w) A (getAttrBy (.ref x) (.str name tk) fill expr) Q E s:=by
 have L0:=I.type (M:=model prog w);have L1:=looks_findIn (M:=model prog w) X c.ga;have SL:=F.attr_ValueError.ga;unfold getAttrBy;refine wpAny_holding (Va (L0.here (Va (L1.here ?_))))
 dsimp only;rw[show(onTheHeap (Value.ref C) && Value.builtin "BaseException.__getattribute__" == Value.builtin "object.__getattribute__")=false from by rw[show(Value.builtin "BaseException.__getattribute__" == Value.builtin "object.__getattribute__")=false from by decide +kernel,Bool.and_false],if_neg (by decide)]
 unfold getAttrByItsOwn;refine Va ((looks_hook (mc:=.ref C) X (r:=none) (by show(if onTheHeap (.ref C)=true then findIn K (.ref C) "__getattr__" else some none)=some none;rw[if_pos (show onTheHeap (Value.ref C)=true from rfl)];exact c.gt)).here (Va (wpAny_attempt (wpAny_holding ?_))))
 unfold callGetattribute;rw[show(expr && onTheHeap (Value.builtin "BaseException.__getattribute__"))=false from Bool.and_false _,if_neg (by decide)]
 unfold boundAndCalled;rw[SL.bind];refine Va (Vg ?_)
 show wpAny _ _ (call (.builtin "BaseException.__getattribute__") [.ref x,.str name tk]) _ _ _;refine wpAny_call ?_
 refine codeAny_call_builtin SL.plain F.entry_bexc_ga ?_
 refine @check_slot (model prog w) _ _ s "BaseException.__getattribute__" "BaseException" "__getattribute__" (.ref x) [.str name tk] [] _ (by decide +kernel) (by decide +kernel) (I.type.andThen (looks_mroIn X (c.mroT (by decide)))) (F.args_bexc_ga _ _) ?_
 refine wpAny_mono h (fun fin s' z=>?_) fun _ _ z=>z.elim
 rcases fin with (_ | _ | _ | _) | _ <;> first | exact z | exact z.elim
theorem Zxb{R:Result->Shared->Prop}{tk:Tok}{v:Value}(X:K.In s.heap)(I:InstAt s.heap x ox C od)(c:XCl K C CT)(ht:findIn K (.ref C) name=some none)
 (h:∀ b,wpAny (model prog w) A.in1 (storeInOwnDict (.ref x) (.ref C) (.str name tk) name v b)
  (fun fin s'=>match fin with | .done f=>R (.ok f) s' | .again c'=>c'.quiet=true/\codeAny (model prog w) A c' R s') (fun e s'=>R (.error e) s') s) :
 codeAny (model prog w) A (.call (.builtin "object.__setattr__") ⟨[.ref x,.str name tk,v],[]⟩) R s:=by
 have SF:=F.store_object;obtain⟨cd,hc,ho,_⟩:=c.cd;have sub:Looks (model prog w) s.heap (isInstance (.ref x) (.type "object")) true:=I.type.andThen (looks_mroIn X (c.mroT (by decide)))
 refine codeAny_call_builtin SF.slot.plain SF.entry (@check_slot (model prog w) _ _ s "object.__setattr__" "object" "__setattr__" (.ref x) [.str name tk,v] [] _ SF.kind SF.split sub (SF.args (.ref x) (.str name tk) v) ?_)
 have hm:Looks (model prog w) s.heap (mroOf (.ref C)) cd.mro:=(looks_clsIn X hc).andThen .now;rw[osa_eq,refuse_eq];refine Va (Va (I.type.here (Va (hm.here ?_))))
 rw[ho,refuseLoop_ref,refuseLoop_ref,F.store_ValueError.passes];refine Vg (Va (I.type.here (Va ((looks_findIn X ht).here (Va (Vg (a:=none) ?_))))))
 exact h _
theorem Zyb{v:Value}{Q:Unit->Shared->Prop}(X:K.In s.heap)(c:XCl K C CT)(ht:findIn K (.ref C) name=some none)(hx:s.heap.get? x=some ox)(hcl:ox.cls=.ref C)(hn:notCls ox=true)(hfr:ox.isFreed=false)
 (hd:ox.dict=none) (h:∀ h',h'.Ns1 s.heap.objs.size (fun y=>if y=name then some v else none)->h'.get? x=some { ox with dict:=some s.heap.objs.size }->(∀ b o,b≠x->s.heap.get? b=some o->h'.get? b=some o)->Q () { s with heap:=h',toks:=s.toks+2 }) :
 wpAny (model prog w) A (setAttr (.ref x) name v) Q E s:=by
 have J:InstAt s.heap x ox C none:=⟨hx,hcl,hn,by rw[hd];trivial⟩
 refine set_plain X J c.sa (Zxb (s:={ s with toks:=s.toks+1 }) X J c ht fun b=>?_)
 obtain⟨cd,hc,_,hd'⟩:=c.cd;obtain⟨oc,odi,oda,osl⟩:=ox;dsimp only at hcl hd;subst hcl hd;refine Va (Vg (Va (Va (wpAny_loadPart hx (Va (Looks.here (s:={ s with toks:=s.toks+1 }) (looks_clsIn X hc) ?_))))))
 rw[hd'];have hx₁:(s.heap.push { cls:=.type "dict",data:=.dict #[] }).get? x=some ⟨.ref C,none,oda,osl⟩:=Vd _ hx
 have hxs:x≠s.heap.objs.size:=Nat.ne_of_lt (Vh hx);rw[if_neg (by decide)]
 dsimp only;rw[if_neg (show ¬ ((!true || !typeHasDict (Value.ref C))=true) by simp[typeHasDict])]
 have hgd:((s.heap.push { cls:=.type "dict",data:=.dict #[] }).update x fun o=>{ cls:=o.cls,dict:=some s.heap.objs.size,data:=o.data,slots:=o.slots }).get? s.heap.objs.size=some { cls:=.type "dict",data:=.dict #[] } :=
  (Heap.get?_update_ne _ _ _ _ hxs.symm).trans (Heap.get?_push_at rfl rfl)
 have hnd:((s.heap.push { cls:=.type "dict",data:=.dict #[] }).update x fun o=>{ cls:=o.cls,dict:=some s.heap.objs.size,data:=o.data,slots:=o.slots }).Ns s.heap.objs.size (fun _=>none) :=
  ⟨_,#[],_,hgd,rfl,fun e he=>absurd he (by simp),fun _=>rfl⟩
 have hgx:((s.heap.push { cls:=.type "dict",data:=.dict #[] }).update x fun o=>{ cls:=o.cls,dict:=some s.heap.objs.size,data:=o.data,slots:=o.slots }).get? x=some ⟨.ref C,some s.heap.objs.size,oda,osl⟩:=by
  refine Heap.get?_update_self _ hx₁ ?_
  cases oda <;> first | rfl | exact hfr
 have core:wpAny (model prog w) A.in1 (do let d <- alloc { cls:=.type "dict",data:=.dict #[] };update x fun o=>{ cls:=o.cls,dict:=some d,data:=o.data,slots:=o.slots };dictMade (Value.ref C) x d)
  (fun a s'=>wpAny (model prog w) A.in1 (match a with | some d=>storeInDict d (Value.str name s.toks) name v | none=>noDictFor (Value.ref x) (Value.ref C) name b)
   (fun fin s'=>match fin with | .done f=>(match (Except.ok f:Result) with | .ok (.ret _)=>Q () s' | .ok _=>False | .error e=>E e s') | .again c'=>c'.quiet=true/\codeAny (model prog w) A c' (fun r s'=>match r with | .ok (.ret _)=>Q () s' | .ok _=>False | .error e=>E e s') s') (fun e s'=>E e s') s')
  (fun e s'=>E e s') { s with toks:=s.toks+1 }:=by
  refine Va (wpAny_alloc' ?_)
  refine Va (wpAny_update' hx₁ ?_)
  refine Vg ?_
  show wpAny _ _ (storeInDict s.heap.objs.size (.str name s.toks) name v) _ _ _;unfold storeInDict newKeyGuard;refine Va (Vg (Va (wpAny_nsSet1 (Heap.Ns1.of_empty hnd) fun h' hn' hs=>?_)))
  obtain⟨oD,esD,epD,hoD,hdD,hcD⟩:=hn'.count (Within.cons name v Within.nil);refine Va (wpAny_lookBehind hoD (by rw[hdD];exact pastItsLine_dict (Vj hcD (by rw[length_cons,length_nil,sizeLine_eq];omega))) ?_)
  refine Vg (h h' hn' ((hs.2 x hxs).trans hgx) fun b ob hbx hb=>?_)
  exact(hs.2 b (Nat.ne_of_lt (Vh hb))).trans ((Heap.get?_update_ne _ _ _ _ hbx).trans (Vd _ hb))
 cases oda with
 | cls c=>exact absurd hn (by simp[notCls])
 | _=>exact core
end
end PySem.W
end
section
namespace L2
open PySem PySem.Spec PyProof.Rows
abbrev Zzc(C:Addr)(dx:Option Addr)(t:Addr):Obj:={ cls:=.ref C,dict:=dx,data:=.fields #[.ref t,.none,.none,.none,.bool false,.none] }
def xN(e C:Addr)(dx:Option Addr):HO:=.ext fun h=>∃ t,h.get? e=some (Zzc C dx t)
def xD(d:Addr)(fs:List (Str×V)):HO:=.ext fun h=>∃ mA,h.Ns1 d mA/\(∀ f,JI (fs.lookup f) (mA f))/\PySem.Within mA (fs.map (·.1))
section
variable{P:Program}{w:World}{H:Hp}{h:Heap}{e C:Addr}{dx:Option Addr}{fs:List (Str×V)}
theorem JGb{t:Addr}(q:h.get? e=some (Zzc C dx t)):QB P w H h e (xN e C dx):=⟨⟨t,q⟩,⟨_,q⟩,fun h1 h2 ⟨t,q⟩ k=>⟨t,k _ q⟩⟩
theorem ZAc{mA:Str->Option Value}(q:h.Ns1 e mA)(a:∀ f,JI (fs.lookup f) (mA f))(b:PySem.Within mA (fs.map (·.1))):QB P w H h e (xD e fs) :=
 ⟨⟨mA,q,a,b⟩,let ⟨o,_,_,z,_⟩:=q;⟨o,z⟩,fun h1 h2 ⟨mA,q,r⟩ k=>⟨mA,q.at k,r⟩⟩
end
section
variable{X:Cx}{pins:YP_}{σ:St}{H:Hp}{s:Shared}{a C CT:Addr}{fs:List (Str×V)}
end
section
variable{X:Cx}{pins:YP_}{σ:St}{H H':Hp}{s:Shared}{d e:Addr}{o:HO}
theorem Inv.track(I:Inv X pins σ H s)(hn:H d=none)(y:X.s₀.heap.get? d=none)(nl:d≠X.env.locals)(nc:∀ x c,X.env.cells.lookup x=some c->c≠d)(np:∀ p∈X.pn++pins,p.1≠d)(ok:QB X.prog X.w (upd H d o) s.heap d o) :
 Inv X pins σ (upd H d o) s :=
 ⟨I.ok,I.os,I.bare,⟨I.base.keep,I.base.slot,fun b u q n hx=>by rw[Qd (fun z=>by rw[z,y]at q;cases q)];exact I.base.free b u q n hx,I.base.there,fun b xs q=>by have z:=I.base.tups b xs q;rw[Qd (Qq z hn)];exact z,
  fun b u xs q=>by have z:=I.base.frzs b u xs q;rw[Qd (Qq z hn)];exact z,fun b ps q=>by obtain⟨m,z⟩:=I.base.tbls b ps q;exact⟨m,by rw[Qd (Qq z hn)];exact z⟩⟩,
  I.loc,I.cell,by rw[Qd (Ne.symm nl)];exact I.free,fun x c q=>by rw[Qd (nc x c q)];exact I.freeC x c q,fun p hp=>by obtain⟨a,b,r⟩:=I.pin p hp;exact⟨a,by rw[Qd (np p hp)];exact b,r⟩,
  fun b u q=>by
   by_cases hb:b=d
   ·subst hb;rw[Qa]at q;cases q;exact ok
   ·rw[Qd hb]at q
    exact(I.hok b u q).stay (fun c v _ r=>r) (fun c r=>by rw[Qd (Qq r hn)];exact r) fun c xs r=>by rw[Qd (Qq r hn)];exact r,
  I.len⟩
theorem Inv.nowhere(I:Inv X pins σ H s)(hex:X.ex=[])(h:s.heap.get? d=none):H d=none/\X.s₀.heap.get? d=none/\d≠X.env.locals/\(∀ x c,X.env.cells.lookup x=some c->c≠d)/\∀ p∈X.pn++pins,p.1≠d:=by
 refine⟨I.hok.none_of h,I.young hex h,fun z=>?_,fun x c q z=>?_,fun p hp z=>?_⟩
 ·obtain⟨m,⟨o,es,ep,ho,_⟩,_⟩:=I.loc
  rw[z,ho]at h;cases h
 ·obtain⟨v,o,ho,_⟩:=I.cell x c q
  rw[z,h]at ho;cases ho
 ·have:=(I.pin p hp).1
  rw[z,h]at this;cases this
theorem Inv.off{φ:Heap->Prop}(I:Inv X pins σ H s)(he:H e=some (.ext φ))(y:X.s₀.heap.get? e=none)(h3:∀ b,b≠e->H' b=H b)(hn:H' e=none):Inv X pins σ H' s:=by
 have ne:∀ b,H b=none->b≠e:=fun b q z=>by rw[z,he]at q;cases q
 have nt:∀ b u,H b=some u->(∀ ψ,u≠.ext ψ)->b≠e:=fun b u q n z=>by rw[z,he]at q;cases q;exact n _ rfl
 have tt:∀ b xs,H b=some (.tup xs)->H' b=some (.tup xs):=fun b xs q=>(h3 b (nt b _ q (fun _ z=>by cases z))).trans q
 refine⟨I.ok,I.os,I.bare,⟨I.base.keep,I.base.slot,fun b u q n hx=>?_,I.base.there,fun b xs q=>tt b xs (I.base.tups b xs q),fun b u xs q=>?_,fun b ps q=>?_⟩,I.loc,I.cell,(h3 _ (ne _ I.free)).trans I.free,fun x c q=>(h3 _ (ne _ (I.freeC x c q))).trans (I.freeC x c q),fun p hp=>?_,fun b u q=>?_,I.len⟩
 ·have z:=I.base.free b u q n hx
  exact(h3 b (ne b z)).trans z
 ·have z:=I.base.frzs b u xs q
  exact(h3 b (nt b _ z (fun _ z=>by cases z))).trans z
 ·obtain⟨m,z⟩:=I.base.tbls b ps q
  exact⟨m,(h3 b (nt b _ z (fun _ z=>by cases z))).trans z⟩
 ·obtain⟨a,b,r⟩:=I.pin p hp
  exact⟨a,(h3 _ (ne _ b)).trans b,r⟩
 ·have hb:b≠e:=fun z=>by rw[z,hn]at q;cases q
  rw[h3 b hb]at q;exact(I.hok b u q).stay (fun c v _ r=>r) (fun c r=>(h3 c (nt c _ r (fun _ z=>by cases z))).trans r) tt
end
section
variable{X:Cx}{pins:YP_}{σ:St}{H:Hp}{s:Shared}{a C CT:Addr}{f:Str}
theorem ZBc{A:Around}{E:YQ_}{y:V}{u:Value}{Q:Unit->Shared->Prop}(I:Inv X pins σ H s)(hex:X.ex=[])(e:H a=some (xN a C none))(c:W.XCl X.K C CT)(n:ZZ X.K C f)(ry:Qr y u)
 (h:∀ d s',H d=none->d≠a->Inv X pins σ (upd (upd H a (xN a C (some d))) d (xD d [(f,y)])) s'->Q () s'):wpAny (model X.prog X.w) A (setAttr (.ref a) f u) Q E s:=by
 obtain⟨⟨t,q⟩,_,_⟩:=(show QB X.prog X.w H s.heap a (xN a C none) from I.hok a _ e)
 refine W.Zyb I.kIn c n q rfl rfl rfl rfl fun h' hns hx hk=>?_
 obtain⟨w1,w2,w3,w4,w5⟩:=I.nowhere hex (Heap.get?_none_of_le (Ve s.heap.objs.size))
 have hne:s.heap.objs.size≠a:=fun z=>by rw[z,e]at w1;cases w1
 refine h s.heap.objs.size _ w1 hne ?_
 have I1:Inv X pins σ (upd H a (xN a C (some s.heap.objs.size))) { s with heap:=h',toks:=s.toks+2 } :=
  I.write (x:=a) (e:=a) (by rw[e];exact True.intro) (.inl rfl) (fun b u hb z=>hk b u hb z) ⟨_,hx⟩ (JGb (t:=t) hx)
 refine I1.track (by rw[Qd hne];exact w1) w2 w3 w4 w5 (ZAc hns (fun g=>?_) fun g hg=>?_)
 ·by_cases hg:g=f
  ·have hb:(g == f)=true:=beq_iff_eq.mpr hg
   simp only[List.lookup,hb,if_pos hg];exact ry
  ·have hb:(g == f)=false:=beq_eq_false_iff_ne.mpr hg
   simp only[List.lookup,hb,if_neg hg];trivial
 ·by_cases z:g=f
  ·rw[z];simp
  ·rw[if_neg z]at hg;exact absurd hg (by simp)
def QJc(K:W.Frag)(CT:Addr)(ta tv:TE)(f:Str):TS:=fun D σ H=>tv σ H fun y H1=>ta σ H1 fun x H2=>∃ a C,x=.ref a/\H2 a=some (xN a C none)/\W.XCl K C CT/\ZZ K C f /\
 ∀ d,H2 d=none->d≠a->D.nx σ (upd (upd H2 a (xN a C (some d))) d (xD d [(f,y)]))
def ZCc(K:W.Frag)(CT:Addr)(ta tv:TE)(f:Str):TS:=fun D σ H=>tv σ H fun y H1=>ta σ H1 fun x H2=>∃ a C d fs,x=.ref a/\H2 a=some (xN a C (some d))/\H2 d=some (xD d fs)/\W.XCl K C CT/\ZZ K C f/\fs.length < 1000 /\
 D.nx σ (upd H2 d (xD d (Zr f y fs)))
variable{o value:Expr}{pos pos':Pos}{ta tv:TE}
theorem JHb(CT:Addr)(hex:X.ex=[])(ha:PE X o ta)(hv:PE X value tv)(hs:swapsWith value (some (.Attribute o f pos')) pos.line X.env=pure false):PS X (.Assign [.Attribute o f pos'] value pos) (QJc X.K CT ta tv f):=by
 intro pins s σ H D I h;refine plainObj_wpAny_Assign_Attribute (thn (hv pins s σ H _ I h) fun u s1 ⟨y,H1,I1,ry,q⟩=>thn (ha pins s1 σ H1 _ I1 q) fun ov s2 hZ=>?_) hs
 obtain⟨x,H2,I2,rx,a,C,ex,ea,c,n,q2⟩:=hZ;subst ex;obtain rfl:ov=Value.ref a:=rx;exact ZBc I2 hex ea c n ry fun d s3 w1 w2 I3=>⟨σ,_,I3,q2 d w1 w2⟩
structure ZDc(K:W.Frag)(mg:Str->Option Value)(x:Str)(CT:Addr):Prop where
 mg_:mg x=some (.ref CT)
 cl:ZSc K CT W.bmV W.bmV "ValueError.__new__"
 sp:W.specialIn K (.ref CT) "__getattribute__"=some (some (.builtin "type.__getattribute__"))
 rd:W.readsIn K CT (.type "type")=true
 ini:W.findCls K (.ref CT) (.type "type") "__init__"=some (.val (.builtin "ValueError.__init__"))
def tBI(K:W.Frag)(CT:Addr)(t:TA):TE:=fun σ H Q=>t σ H fun vs H1=>∃ a C ws,vs=.ref a::ws/\ws.length<=1000/\H1 a=some (xN a C none)/\W.XCl K C CT/\Q .non H1
end
end L2
end
section
namespace PySem
section
variable{prog:Program}{w:World}{A:Around}{E:YQ_}{s:Shared}{K:W.Frag}{C CT e t:Addr}{dx:Option Addr}
theorem X0a{rest:List Value}{Q:YQ_}(X:K.In s.heap)(c:W.XCl K C CT)(he:s.heap.get? e=some { cls:=.ref C,dict:=dx,data:=.fields #[.ref t,.none,.none,.none,.bool false,.none] })(hl:rest.length<=sizeLine)
 (h:∀ h' t',h'.get? e=some { cls:=.ref C,dict:=dx,data:=.fields #[.ref t',.none,.none,.none,.bool false,.none] }->(∀ b o,b≠e->s.heap.get? b=some o->h'.get? b=some o)->Q .none { s with heap:=h' }) :
 wpAny (model prog w) A (call (.builtin "ValueError.__init__") (.ref e::rest)) Q E s:=by
 obtain⟨nm,q,N,bs,sn,sub,ab,col,dd,k0,k1,k2,k3,k5,lk,ok⟩:=c.cl;have FB:=F.excBase_ValueError;have TL:OwnTail s.heap W.bmV (.ref CT::W.bmV):=W.tail_of_in X c.tail;have hC:=X _ _ lk;obtain⟨hh,g,d,tk,os⟩:=s;refine wpAny_call (codeAny_call_builtin FB.init.plain FB.initEntry (wpAny_check_init_subT FB TL hC he rfl ?_))
 wp_walk
 refine h _ hh.objs.size ?_ fun b o hb z=>?_
 ·rw[Heap.get?_update_self _ (Vd _ he) rfl]
  rfl
 ·rw[Heap.get?_update_other _ _ (Ne.symm hb)]
  exact Vd _ z
end
section
variable{prog:Program}{w:World}{A:Around}{E:YQ_}{h:Heap}{g:Array GenState}{d:Drawn}{t:Nat}{os:OsState}{K:W.Frag}{C CT:Addr}
theorem QKc(X:K.In h)(c:W.XCl K C CT){rest:List Value}{fI:Addr}{Q:Fin->Shared->Prop}(hf:W.findIn K (.ref C) "__init__"=some (some (.ref fI)))(hfn:W.isFn K (.ref fI)=true)
 (fin:∀ h' e,Heap.MadeExcOf h h' e (.ref C) rest->wpAny (model prog w) A (call (.ref fI) (.ref e::rest)) (fun r s'=>r=.none/\Q (.done (.ret (.ref e))) s') E ⟨h',g,d,t,os⟩) (short:rest.length<=sizeLine) :
 wpAny (model prog w) A (Builtin.«type.__call__» ⟨.ref C::rest,[]⟩) Q E ⟨h,g,d,t,os⟩:=by
 obtain⟨nm,q,N,bs,sn,sub,ab,col,dd,k0,k1,k2,k3,k5,lk,ok⟩:=c.cl;have FB:=F.excBase_ValueError;have TL:OwnTail h W.bmV (.ref CT::W.bmV):=W.tail_of_in X c.tail;have cl:=X _ _ lk
 repeat (first | (with_reducible refine wpAny_loadPart_at cl ?_) | (with_reducible refine wpAny_madeBy_exc cl ?_) | wp_step)
 refine codeAny_call_builtin_code (Code.quiet_builtin _ FB.quiet) (wpAny_check_new_subT FB TL cl ?_)
 refine codeAny_exc_new_subT FB TL cl ?_ short
 show wpAny _ _ _ _ _ _;have kp:∀ b o,h.get? b=some o->((h.push (Zya rest)).push (Qna h C)).get? b=some o:=fun b o e=>Vd _ (Vd _ e)
 have X1:K.In ((h.push (Zya rest)).push (Qna h C)):=X.keeps kp;have cl1:((h.push (Zya rest)).push (Qna h C)).get? C=_:=kp _ _ cl;have rec1:((h.push (Zya rest)).push (Qna h C)).get? (h.objs.size+1)=some (Qna h C):=by heap_get
 have self:(Value.ref C::.ref CT::W.bmV).contains (.ref C)=true:=by rw[contains_cons];simp
 unfold isInstance
 repeat (first | (with_reducible refine wpAny_loadPart_at rec1 ?_) | (with_reducible refine wpAny_isSubtype_exc cl1 ?_;rw[self]) | wp_step)
 show wpAny _ _ (typeLookup (.ref C) _) _ _ _;refine(W.looks_findIn (M:=model prog w) X1 hf).at ?_
 refine wpAny_holding (Va ((W.bind_fn (M:=model prog w) X1 _ (beq_iff_eq.mp hfn)).at ?_))
 have mk:Heap.MadeExcOf h ((h.push (Zya rest)).push (Qna h C)) (h.objs.size+1) (.ref C) rest :=
  ⟨kp,Heap.get?_none_of_le (Nat.le_succ _),h.objs.size,rec1,Heap.get?_none_of_le (Ve _),Vd _ (Heap.get?_push_at rfl rfl)⟩
 refine Va (wpAny_mono (fin _ (h.objs.size+1) mk) (fun r s' hr=>?_) fun _ _ z=>z)
 obtain⟨rfl,hQ⟩:=hr
 wp_walk
 exact hQ
theorem QLc(X:K.In h)(c:W.XCl K C CT){rest:List Value}{fI:Addr}{Q:YQ_}(hf:W.findIn K (.ref C) "__init__"=some (some (.ref fI)))(hfn:W.isFn K (.ref fI)=true)
 (fin:∀ h' e,Heap.MadeExcOf h h' e (.ref C) rest->wpAny (model prog w) (A.under (.builtin "type.__call__" ⟨.ref C::rest,[]⟩)) (call (.ref fI) (.ref e::rest)) (fun r s'=>r=.none/\Q (.ref e) s') E ⟨h',g,d,t,os⟩) (short:rest.length<=sizeLine) :
 wpAny (model prog w) A (call (.ref C) rest) Q E ⟨h,g,d,t,os⟩:=by
 obtain⟨nm,q,N,bs,sn,sub,ab,col,dd,k0,k1,k2,k3,k5,lk,ok⟩:=c.cl;have cl:=X _ _ lk;have l1:=tc_lookup;have l2:=tc_bind (.ref C);have ty:(⟨h,g,d,t,os⟩:Shared).TypeIs (.ref C) "type":=⟨_,cl,rfl⟩;refine wpAny_call (codeAny_of_tree ?_)
 show wpAny _ _ (callAny (.ref C) _) _ _ _
 repeat (any_goals (first | assumption | (with_reducible refine wpAny_loadPart_at cl ?_) | wp_step))
 refine⟨rfl,?_⟩
 refine codeAny_call_builtin_at (Code.quiet_builtin _ (by decide +kernel)) entry_typeCall (wpAny_check_type_call_sub cl (QKc X c hf hfn (fun h' e hm=>?_) short))
 exact fin h' e hm
end
section
variable{M:Model}{A:Around}{E:YQ_}{env:Env}
variable{nm q:Str}{C N:Addr}{bs bm:List Value}{hdct:Bool}{sn:List Str}{sub:List Value}{ab:Bool}{col:Option Bool}{dd:Option Addr}{k0 k1 k2 k3 k5:Option Value}{newId:String}
theorem Zzb{s:Shared}{x:Sem Value}{Q:Flow->Shared->Prop}(hbase:bm.contains (.type "BaseException")=true)(hh:A.handled=none)
 (h:wpAny M A x (fun v s₁=>∃ e t dx,v=.ref e/\s₁.heap.get? C=some (excClassObj nm q C N bs bm hdct sn sub ab col dd k0 k1 k2 k3 k5 newId)/\s₁.heap.get? e=some { cls:=.ref C,dict:=dx,data:=.fields #[.ref t,.none,.none,.none,.bool false,.none] }/\E (.ref e) s₁) E s) :
 wpAny M A (raiseStmt env (some x) none) Q E s:=by
 have hcB:(Value.ref C::bm).contains (.type "BaseException")=true:=by rw[contains_cons,hbase,Bool.or_true]
 unfold raiseStmt;refine Va (wpAny_mono h (fun v s₁ h₁=>?_) fun _ _ x=>x)
 obtain⟨e,t,dx,rfl,hC,he,hE⟩:=h₁;obtain⟨hp,g,d,tk,os⟩:=s₁
 repeat (first | with_reducible refine wpAny_loadPart_at he ?_ | with_reducible refine wpAny_loadPart_at hC ?_ | (with_reducible refine wpAny_isSubtype_exc hC ?_;rw[hcB]) | wp_step)
 exact wpAny_raiseNew_none hh hE
variable{nm' q':Str}{CT N':Addr}{bs' bm':List Value}{hdct':Bool}{sn':List Str}{sub':List Value}{ab':Bool}{col':Option Bool}{dd':Option Addr}{j0 j1 j2 j3 j5:Option Value}{newId':String}
end
end PySem
namespace PySem.W
open PySem
def Qoa(K:Frag)(C:Addr)(fl:List Str):Bool:=findIn K (.ref C) "__getattribute__" == some (some (.builtin "BaseException.__getattribute__")) && (findIn K (.ref C) "__getattr__" == some none && (findIn K (.ref C) "__setattr__" == some (some (.builtin "object.__setattr__")) && (findIn K (.ref C) "__class__" == some (some (.builtin "object.__class__")) && fl.all fun f=>findIn K (.ref C) f == some none)))
section
variable{K:Frag}{C CT:Addr}{fl:List Str}
theorem JAa(h:Qoa K C fl=true):findIn K (.ref C) "__getattribute__"=some (some (.builtin "BaseException.__getattribute__"))/\findIn K (.ref C) "__getattr__"=some none/\findIn K (.ref C) "__setattr__"=some (some (.builtin "object.__setattr__")) /\
 findIn K (.ref C) "__class__"=some (some (.builtin "object.__class__"))/\∀ f∈fl,findIn K (.ref C) f=some none:=by
 unfold Qoa at h;simp only[Bool.and_eq_true,beq_iff_eq,all_eq_true]at h;exact h
theorem JBa(h:Qoa K C fl=true){f:Str}(hf:f∈fl):L2.ZZ K C f:=(JAa h).2.2.2.2 f hf
theorem XCl.of(cl:∃ nm q N bs sn sub ab col dd k0 k1 k2 k3 k5,K.lookup C=some (excClassObj nm q C N bs (.ref CT::bmV) true sn sub ab col dd k0 k1 k2 k3 k5 "ValueError.__new__")/\nsOkIn K N=true)(tail:tailIn K bmV (.ref CT::bmV)=true)
 (h:Qoa K C fl=true) (cg:specialIn K (.builtin "object.__class__") "__get__"=some (some (.builtin "getset_descriptor.__get__"))) (ct:takesIn K (.builtin "object.__class__")=some true):XCl K C CT :=
 let ⟨a,b,c,d,_⟩:=JAa h;⟨cl,tail,a,b,c,d,cg,ct⟩
def JIb(K:Frag)(l:List Addr):Bool:=(List.range l.length).all fun i=>(List.range l.length).all fun j=>kitOne K (.ref (l.getD i 0)) (.ref (l.getD j 0)) == some (decide (i=j))
def QMc(K:Frag)(l:List Addr):Bool:=(List.range l.length).all fun i=>kitOne K (.ref (l.getD i 0)) (.type "ValueError") == some true
theorem Xdb{l:List Addr}(h:JIb K l=true):∀ i j,i < l.length->j < l.length->kitOne K (.ref (l.getD i 0)) (.ref (l.getD j 0))=some (decide (i=j)):=by
 unfold JIb at h;simp only[all_eq_true,mem_range,beq_iff_eq]at h;exact fun i j hi hj=>h i hi j hj
theorem QNc{l:List Addr}(h:QMc K l=true):∀ i,i < l.length->kitOne K (.ref (l.getD i 0)) (.type "ValueError")=some true:=by
 unfold QMc at h;simp only[all_eq_true,mem_range,beq_iff_eq]at h;exact h
end
end PySem.W
namespace L2
open PySem PySem.Spec PyProof.Rows
section
variable{X:Cx}{x:Str}{CT:Addr}{e:Expr}{es:List Expr}{t:TA}{p pos apos cpos np:Pos}{pl:Sem Bool}
theorem Y0a(T:ZDc X.K X.mg x CT)(hg:Gl X x)(ha:PA X (e::es) t)(hdb:(x == ("__debug__":Str))=false:=by decide)
 (he:starEach (e::es) X.env=(false,eval e X.env)::starEach es X.env:=by rfl) (hpl:(backTo pos (starEach es X.env)).any (·.1)=false:=by rfl)
 (ht:eval (.Call (.Attribute (.Name x p) "__init__" apos) (e::es) [] pos) X.env=(do
  let ov <- eval (.Name x p) X.env
  standAt apos.atName
  let (f,first) <- holding [ov] (getMethod ov "__init__" pl)
  callWith pos f first (backTo pos (starEach (e::es) X.env)) (backToKw pos (keywordEach [] X.env))):=by rfl) :
 PE X (.Call (.Attribute (.Name x p) "__init__" apos) (e::es) [] pos) (tBI X.K CT t):=by
 intro pins s σ H Q I h;refine W.methodCall_KW (pl:=pl) (JM I hg T.mg_ ?_ hdb) ht
 refine W.method_cls I.kIn T.sp (W.cls_value I.kIn T.rd T.ini (by decide +kernel) ?_)
 refine PyProof.Rows.callWith_builtin1 (thn (ha pos pins _ σ H _ (I.tok _) h) fun us s1 hZ=>?_) he hpl
 obtain⟨vs,H1,I1,r,a,C,ws,ev,hl,ea,c,q⟩:=hZ;subst ev;cases r with
 | cons r0 r1 =>
  cases (show _=Value.ref a from r0)
  obtain⟨⟨t,g⟩,_,_⟩:=(show QB X.prog X.w H1 s1.heap a (xN a C none) from I1.hok a _ ea)
  refine X0a I1.kIn c g (by rw[<- r1.length,sizeLine_eq];omega) fun h' t' g' k=>⟨.non,H1,?_,rfl,q⟩
  have I2:=I1.write (h':=h') (t':=s1.toks) (x:=a) (e:=a) (o:=xN a C none) (by rw[ea];exact True.intro) (.inl rfl) (fun b u hb z=>k b u hb z) ⟨_,g'⟩ (JGb (t:=t') g')
  have eH:upd H1 a (xN a C none)=H1:=by
   funext b
   by_cases hb:b=a
   ·rw[hb,Qa];exact ea.symm
   ·rw[Qd hb]
  rw[eH]at I2;exact I2
def Xeb(C:Addr)(fl:List Str):Sp:=fun vs H Q _=>∃ e ws,vs=.ref e::ws/\ws.length=fl.length/\H e=some (xN e C none)/\∀ d,H d=none->d≠e->Q .non (upd (upd H e (xN e C (some d))) d (xD d (fl.zip ws)))
def MkX(P:Program)(w:World)(K:W.Frag)(mg:Str->Option Value)(base:Heap)(k:Nat)(x:Str)(C CT:Addr)(fl:List Str):Prop :=
 ∃ f fd ps,QD P w K mg base CX0 k f fd ps (Xeb C fl)/\ZJ K fd ps []/\W.XCl K C CT/\W.findIn K (.ref C) "__init__"=some (some (.ref f))/\W.isFn K (.ref f)=true/\W.keepIn K (.ref C)=true/\mg x=some (.ref C)
def Xfb(E:XK)(C:Addr)(fl:List Str)(t:TA):TS:=fun _ σ H=>t σ H fun vs H1=>vs.length=fl.length/\vs.length<=1000/\∀ d,H1 d=none->E (.ref C) (some d) (upd H1 d (xD d (fl.zip vs)))
variable{E:XK}{C:Addr}{fl:List Str}{j k:Nat}
theorem JCa(T:Zxa X E)(hex:X.ex=[])(hcalm:X.calm=true)(hg:Gl X x)(G:MkX X.prog X.w X.K X.mg X.base j x C CT fl)(hr:Q4 k X.A)(hj:j+1<=k)(ha:PA X (e::es) t)(hdb:(x == ("__debug__":Str))=false:=by decide)
 (he:starEach (e::es) X.env=(false,eval e X.env)::starEach es X.env:=by rfl) (hpl:(backTo cpos (starEach es X.env)).any (·.1)=false:=by rfl) :
 PS X (.Raise (some (.Call (.Name x np) (e::es) [] cpos)) none pos) (Xfb E C fl t):=by
 intro pins s σ H D I h;obtain⟨f,fd,ps,F,hb,c,hf,hfn,kp,hm⟩:=G;obtain⟨nm,q,N,bs,sn,sub,ab,col,dd,k0,k1,k2,k3,k5,lk,ok⟩:=id c.cl;rw[arm_exec_Raise];refine Va (wpAny_standAt (Zzb (C:=C) (nm:=nm) (q:=q) (N:=N) (bs:=bs) (bm:=.ref CT::W.bmV) (hdct:=true) (sn:=sn) (sub:=sub) (ab:=ab) (col:=col) (dd:=dd) (k0:=k0) (k1:=k1) (k2:=k2) (k3:=k3) (k5:=k5) (newId:="ValueError.__new__") (by rw[contains_cons,PySem.F.excBase_ValueError.hasBase,Bool.or_true]) (I.ok.hd hcalm) ?_))
 refine Va (wpAny_mono (wpAny_Call_ofName (JM I hg hm ?_ hdb)) (fun v s₃ h₃=>Va (wpAny_standAt (Vg h₃))) fun _ _ z=>z)
 refine W.callWith_K (h₀:=X.base) I.ok.mod.kin kp (thn (ha cpos pins s σ H _ I h) fun us s1 ⟨vs,H1,I1,r,hl,hz,q⟩=>⟨I1.kIn,?_⟩) he hpl
 obtain⟨hh,g,dr,tk,os⟩:=s1;refine QLc I1.kIn c hf hfn (fun h' ea mk=>?_) (by rw[sizeLine_eq,nil_append,<- r.length];omega)
 rw[nil_append]at mk ⊢;have hC':=mk.there;obtain⟨tt,he',_⟩:=hC';obtain⟨w1,w2,w3,w4,w5⟩:=I1.nowhere hex mk.new;have I1':Inv X pins σ H1 ⟨h',g,dr,tk,os⟩:=I1.kept (t':=tk) mk.keeps;have I2:Inv X pins σ (upd H1 ea (xN ea C none)) ⟨h',g,dr,tk,os⟩:=I1'.track w1 w2 w3 w4 w5 (JGb (t:=tt) he');have hsp:Xeb C fl (.ref ea::vs) (upd H1 ea (xN ea C none)) (fun v H2=>v=.non/\∃ d,H1 d=none/\d≠ea/\H2=upd (upd (upd H1 ea (xN ea C none)) ea (xN ea C (some d))) d (xD d (fl.zip vs))) E0 :=
  ⟨ea,vs,rfl,hl,Qa,fun d hd hne=>⟨rfl,d,by rw[Qd hne]at hd;exact hd,hne,rfl⟩⟩
 have r2:Qv (V.ref ea::vs) (Value.ref ea::us):=.cons rfl r;have hlen:(Value.ref ea::us++[]).length=ps.length:=by rw[append_nil,<- r2.length];exact F.len _ _ _ _ hsp
 have b:=hb ⟨h',g,dr,tk,os⟩ (Value.ref ea::us) I2.kIn hlen;rw[append_nil]at b;refine wpAny_call (codeAny_mono (F.run _ X.stack _ _ ⟨Value.ref ea::us,[]⟩ (Value.ref ea::us) _ _ E0 ((hr.mono hj).make C us []) (I2.env0.make C us []) b r2 hsp) fun res s' hq=>?_)
 cases res with
 | error ev=>exact False.elim hq
 | ok fo =>
  cases fo with
  | next=>exact False.elim hq
  | brk=>exact False.elim hq
  | cont=>exact False.elim hq
  | ret u =>
   obtain⟨v,H3,I3,rv,ev,d,hd,hne,eH⟩:=I2.after hq;subst ev;subst eH;have e3:upd (upd (upd H1 ea (xN ea C none)) ea (xN ea C (some d))) d (xD d (fl.zip vs)) ea=some (xN ea C (some d)):=by rw[Qd (Ne.symm hne),Qa]
   obtain⟨⟨t3,g3⟩,_,_⟩:=(show QB X.prog X.w _ s'.heap ea (xN ea C (some d)) from I3.hok ea _ e3)
   have e4:upd H1 d (xD d (fl.zip vs)) ea=none:=by rw[Qd (Ne.symm hne)];exact w1
   have I4:Inv X pins σ (upd H1 d (xD d (fl.zip vs))) s':=I3.off e3 w2 (fun y hy=>by
    by_cases hyd:y=d
    ·rw[hyd,Qa,Qa]
    ·rw[Qd hyd,Qd hyd,Qd hy,Qd hy]) e4
   refine⟨rv,ea,t3,some d,rfl,I3.kIn _ _ lk,g3,?_⟩
   exact T pins σ _ s' ea (.ref C) (some d) [] none I4 ⟨_,_,g3,rfl,rfl,rfl,⟨⟨.none,rfl,rfl⟩,by simp,fun p hp=>by cases hp⟩,rfl⟩ (.inl rfl) w2 e4 (q d hd)
end
section
variable{X:Cx}{st b₀:Stmt}{suite:List Stmt}{t1:TS1}{ts:TS}{x n:Str}{CT:Addr}{np hpos pos:Pos}{i:Nat}
end
inductive Dt where
 | v (x:V)
 | t (xs:List Dt)
 | l (xs:List Dt)
instance:Inhabited Dt:=⟨.v .non⟩
mutual
def eqD:Dt->Dt->Bool
 | .v x,.v y=>eqV x y
 | .t xs,.t ys=>XE xs ys
 | .l xs,.l ys=>XE xs ys
 | _,_=>false
def XE:List Dt->List Dt->Bool
 | [],[]=>true
 | x::xs,y::ys=>eqD x y && XE xs ys
 | _,_=>false
end
inductive Rep(K:W.Frag)(H:Hp):Nat->Dt->V->Prop where
 | v {n:Nat} {x:V} (f:Xq x=true):Rep K H n (.v x) x
 | t {n:Nat} {a:Addr} {ds:List Dt} {xs:List V} (h:SqT K H a xs) (e:ds.length=xs.length) (r:∀ (i:Nat) d x,ds[i]?=some d->xs[i]?=some x->Rep K H n d x):Rep K H (n+1) (.t ds) (.ref a)
 | l {n:Nat} {a:Addr} {ds:List Dt} {xs:List V} (h:SqL K H a xs) (e:ds.length=xs.length) (r:∀ (i:Nat) d x,ds[i]?=some d->xs[i]?=some x->Rep K H n d x):Rep K H (n+1) (.l ds) (.ref a)
theorem Zza(n:Nat)(p:Nat->Bool):(List.range (n+1)).all p=(p 0 && (List.range n).all fun i=>p (i+1)):=by
 rw[range_succ_eq_map,all_cons,all_map];rfl
theorem Xj:∀ xs ys:List Dt,XE xs ys=((List.range (min xs.length ys.length)).all (fun i=>eqD (xs.getD i default) (ys.getD i default)) && (xs.length == ys.length))
 | [],[]=>by simp[XE]
 | [],y::ys=>by simp[XE]
 | x::xs,[]=>by simp[XE]
 | x::xs,y::ys=>by
  rw[XE,Xj xs ys,length_cons,length_cons,Nat.succ_min_succ,Zza];simp only[getD_cons_zero,getD_cons_succ,Bool.and_assoc];have:(xs.length+1 == ys.length+1)=(xs.length == ys.length):=by rw[Bool.eq_iff_iff,beq_iff_eq,beq_iff_eq];omega
  rw[this]
theorem YX{xs ys:List Dt}(h:xs.length=ys.length):XE xs ys=(List.range xs.length).all (fun i=>eqD (xs.getD i default) (ys.getD i default)):=by
 rw[Xj,<- h,Nat.min_self,beq_self_eq_true,Bool.and_true]
theorem J2a{xs ys:List Dt}(h:xs.length≠ys.length):XE xs ys=false:=by
 rw[Xj,beq_eq_false_iff_ne.mpr h,Bool.and_false]
section
variable{K:W.Frag}{H H':Hp}{n m:Nat}{d d':Dt}{x:V}
theorem Rep.self(r:Rep K H n d x):eqD d d=true:=by
 induction r with
 | v f=>unfold eqD;exact Jlb f
 | t h e _ ih =>
  unfold eqD;rw[YX rfl,all_eq_true];intro i hi;rename_i ds xs _;have hi:=mem_range.mp hi;have h1:ds[i]?=some ds[i]:=Vb hi
  have h2:xs[i]?=some (xs[i]'(by omega)):=Vb (by omega)
  have:=ih i _ _ h1 h2
  rwa [show ds.getD i default=ds[i] by simp[List.getD,h1]]
 | l h e _ ih =>
  unfold eqD;rw[YX rfl,all_eq_true];intro i hi;rename_i ds xs _;have hi:=mem_range.mp hi;have h1:ds[i]?=some ds[i]:=Vb hi
  have h2:xs[i]?=some (xs[i]'(by omega)):=Vb (by omega)
  have:=ih i _ _ h1 h2
  rwa [show ds.getD i default=ds[i] by simp[List.getD,h1]]
end
section
variable{X:Cx}{pins:YP_}{σ:St}{H:Hp}{s:Shared}
theorem Inv.tup_not_list{a:Addr}{xs ys:List V}(I:Inv X pins σ H s)(h:SqT X.K H a xs)(h':SqL X.K H a ys):False:=by
 obtain⟨its,r,⟨o,e,c,_⟩,_⟩:=I.tuple h;obtain⟨its',r',⟨o',n',e',c',_⟩,_⟩:=I.list h';rw[e]at e';cases e';rw[c]at c';exact absurd (Value.type.inj c') (by decide)
theorem Rep.det(I:Inv X pins σ H s):∀ {n m:Nat} {d d':Dt} {x y:V},Rep X.K H n d x->Rep X.K H m d' y->x=y->d=d':=by
 intro n m d d' x y r
 induction r generalizing m d' y with
 | v f =>
  intro r' e;subst e;cases r' with
  | v _=>rfl
  | t _ _ _=>exact absurd f (by simp[Xq])
  | l _ _ _=>exact absurd f (by simp[Xq])
 | t h e _ ih =>
  intro r' ee;cases r' with
  | v f=>subst ee;exact absurd f (by simp[Xq])
  | t h' e' r2 =>
   cases ee;have:=I.tuple_inj h h';subst this
   congr 1
   refine ext_getElem (by omega) fun i h1 h2=>?_
   exact ih i _ _ (Vb h1) (Vb (show i < _ by omega)) (r2 i _ _ (Vb h2) (Vb (by omega))) rfl
  | l h' _ _=>cases ee;exact(I.tup_not_list h h').elim
 | l h e _ ih =>
  intro r' ee;cases r' with
  | v f=>subst ee;exact absurd f (by simp[Xq])
  | l h' e' r2 =>
   cases ee;have:=I.list_inj h h';subst this
   congr 1
   refine ext_getElem (by omega) fun i h1 h2=>?_
   exact ih i _ _ (Vb h1) (Vb (show i < _ by omega)) (r2 i _ _ (Vb h2) (Vb (by omega))) rfl
  | t h' _ _=>cases ee;exact(I.tup_not_list h' h).elim
theorem JP{α:Type}{xs:List α}{i:Nat}{x d:α}(h:xs[i]?=some x):xs.getD i d=x:=by simp[List.getD,h]
theorem Y1a{A:Around}{n:Nat}(h:A.units+(n+1) < cLine):A.in1.units+n < cLine:=by show A.units+1+n < cLine;omega
theorem Rep.eqAt(I:Inv X pins σ H s):∀ (n:Nat) {A:Around} {d d':Dt} {x y:V} {u v:Value},A.units+n < cLine->Rep X.K H n d x->Rep X.K H n d' y->Qr x u->Qr y v->SeqAt.EqAt A s u v (eqD d d'):=by
 intro n
 induction n with
 | zero =>
  intro A d d' x y u v hu r r' rx ry;cases r with
  | v f =>
   cases r' with
   | v f'=>unfold eqD;exact XNa rx ry f f'
 | succ n ih =>
  intro A d d' x y u v hu r r' rx ry;have hu0:A.units < cLine:=by omega
  have elems:∀ {ds es:List Dt} {xs ys:List V} {us vs:List Value},ds.length=xs.length->es.length=ys.length->(∀ (i:Nat) d x,ds[i]?=some d->xs[i]?=some x->Rep X.K H n d x)->(∀ (i:Nat) d x,es[i]?=some d->ys[i]?=some x->Rep X.K H n d x) ->
   Qv xs us->Qv ys vs->∀ j (h1:j < us.toArray.size) (h2:j < vs.toArray.size),SeqAt.EqAt A.in1 s us.toArray[j] vs.toArray[j] (eqD (ds.getD j default) (es.getD j default)):=by
   intro ds es xs ys us vs l1 l2 r1 r2 w1 w2 j h1 h2;have m1:=w1.length;have m2:=w2.length
   have j1:j < xs.length:=by have:j < us.length:=by simpa using h1
                             omega
   have j2:j < ys.length:=by have:j < vs.length:=by simpa using h2
                             omega
   have g1:ds[j]?=some (ds[j]'(by omega)):=Vb _
   have g2:es[j]?=some (es[j]'(by omega)):=Vb _
   have x1:xs[j]?=some xs[j]:=Vb _
   have x2:ys[j]?=some ys[j]:=Vb _
   obtain⟨u1,e1,q1⟩:=w1.get x1;obtain⟨u2,e2,q2⟩:=w2.get x2;rw[JP g1,JP g2];have k1:us.toArray[j]=u1:=by
    have:us[j]?=some us[j]:=Vb _
    rw[this]at e1;simpa using e1
   have k2:vs.toArray[j]=u2:=by
    have:vs[j]?=some vs[j]:=Vb _
    rw[this]at e2;simpa using e2
   rw[k1,k2];exact ih (Y1a hu) (r1 j _ _ g1 x1) (r2 j _ _ g2 x2) q1 q2
  cases r with
  | v f =>
   cases r' with
   | v f'=>unfold eqD;exact XNa rx ry f f'
   | t h e _ =>
    cases ry;obtain⟨its,_,p,_⟩:=I.tuple h;unfold eqD;cases x <;> first | (exact(Vf f).elim) | skip
    ·cases (show u=Value.none from rx);exact .none_tuple p hu0
    ·cases (show u=Value.bool _ from rx);exact .bool_tuple _ p hu0
    ·obtain⟨t,rfl⟩:=rx;exact .int_tuple _ _ p hu0
    ·obtain⟨t,rfl⟩:=rx;exact .str_tuple _ _ p hu0
   | l h e _ =>
    cases ry;obtain⟨its,_,p,_⟩:=I.list h;unfold eqD;cases x <;> first | (exact(Vf f).elim) | skip
    ·cases (show u=Value.none from rx);exact .none_list p.isList hu0
    ·cases (show u=Value.bool _ from rx);exact .bool_list _ p.isList hu0
    ·obtain⟨t,rfl⟩:=rx;exact .int_list _ _ p.isList hu0
    ·obtain⟨t,rfl⟩:=rx;exact .str_list _ _ p.isList hu0
  | t h e r1 =>
   rename_i a ds xs;cases rx;obtain⟨its,w1,p,_⟩:=I.tuple h;cases r' with
   | v f' =>
    unfold eqD;cases y <;> first | (exact(Vf f').elim) | skip
    ·cases (show v=Value.none from ry);exact .tuple_none p hu0
    ·cases (show v=Value.bool _ from ry);exact .tuple_bool _ p hu0
    ·obtain⟨t,rfl⟩:=ry;exact .tuple_int _ _ p hu0
    ·obtain⟨t,rfl⟩:=ry;exact .tuple_str _ _ p hu0
   | t h' e' r2 =>
    rename_i b es ys;cases ry;obtain⟨its',w2,p',_⟩:=I.tuple h'
    by_cases ab:a=b
    ·subst ab
     have z:=Rep.det I (.t h e r1) (.t h' e' r2) rfl;rw[<- z,Rep.self (.t h e r1)];exact .same _
    ·have q:=SeqAt.RcAt.tuples (A:=A) (e:=fun i=>eqD (ds.getD i default) (es.getD i default)) p p' hu0 (elems e e' r1 r2 w1 w2)
     have sz:its.toArray.size=ds.length:=by rw[Vn,<- w1.length,e]
     have sz':its'.toArray.size=es.length:=by rw[Vn,<- w2.length,e']
     rw[sz,sz',<- Xj]at q;unfold eqD;exact .of_refs ab q
   | l h' _ _ =>
    cases ry;obtain⟨its',w2,p',_⟩:=I.list h';unfold eqD;exact .tuple_list p p'.isList hu0
  | l h e r1 =>
   rename_i a ds xs;cases rx;obtain⟨its,w1,p,_⟩:=I.list h;cases r' with
   | v f' =>
    unfold eqD;cases y <;> first | (exact(Vf f').elim) | skip
    ·cases (show v=Value.none from ry);exact .list_none p.isList hu0
    ·cases (show v=Value.bool _ from ry);exact .list_bool _ p.isList hu0
    ·obtain⟨t,rfl⟩:=ry;exact .list_int _ _ p.isList hu0
    ·obtain⟨t,rfl⟩:=ry;exact .list_str _ _ p.isList hu0
   | l h' e' r2 =>
    rename_i b es ys;cases ry;obtain⟨its',w2,p',_⟩:=I.list h'
    by_cases ab:a=b
    ·subst ab
     have z:=Rep.det I (.l h e r1) (.l h' e' r2) rfl;rw[<- z,Rep.self (.l h e r1)];exact .same _
    ·have sz:its.toArray.size=ds.length:=by rw[Vn,<- w1.length,e]
     have sz':its'.toArray.size=es.length:=by rw[Vn,<- w2.length,e']
     unfold eqD
     by_cases hl:ds.length=es.length
     ·have q:=SeqAt.RcAt.lists (A:=A) (e:=fun i=>eqD (ds.getD i default) (es.getD i default)) p.isList p'.isList (by omega) hu0 (elems e e' r1 r2 w1 w2)
      rw[sz,<- YX hl]at q;exact .of_refs ab q
     ·rw[J2a hl]
      exact .of_refs ab (SeqAt.RcAt.lists_lengths p.isList p'.isList (by rw[sz,sz'];exact bne_iff_ne.mpr hl) hu0)
   | t h' _ _ =>
    cases ry;obtain⟨its',w2,p',_⟩:=I.tuple h';unfold eqD;exact .list_tuple p.isList p' hu0
theorem Rep.elems(I:Inv X pins σ H s){n:Nat}{A:Around}(hu:A.units+(n+1) < cLine){ds es:List Dt}{xs ys:List V}{us vs:List Value}(l1:ds.length=xs.length)(l2:es.length=ys.length)
 (r1:∀ (i:Nat) d x,ds[i]?=some d->xs[i]?=some x->Rep X.K H n d x) (r2:∀ (i:Nat) d x,es[i]?=some d->ys[i]?=some x->Rep X.K H n d x) (w1:Qv xs us) (w2:Qv ys vs) (j:Nat) (h1:j < us.toArray.size) (h2:j < vs.toArray.size) :
 SeqAt.EqAt A.in1 s us.toArray[j] vs.toArray[j] (eqD (ds.getD j default) (es.getD j default)):=by
 have m1:=w1.length;have m2:=w2.length
 have j1:j < xs.length:=by have:j < us.length:=by simpa using h1
                           omega
 have j2:j < ys.length:=by have:j < vs.length:=by simpa using h2
                           omega
 have g1:ds[j]?=some (ds[j]'(by omega)):=Vb _
 have g2:es[j]?=some (es[j]'(by omega)):=Vb _
 have x1:xs[j]?=some xs[j]:=Vb _
 have x2:ys[j]?=some ys[j]:=Vb _
 obtain⟨u1,e1,q1⟩:=w1.get x1;obtain⟨u2,e2,q2⟩:=w2.get x2;rw[JP g1,JP g2];have k1:us.toArray[j]=u1:=by
  have:us[j]?=some us[j]:=Vb _
  rw[this]at e1;simpa using e1
 have k2:vs.toArray[j]=u2:=by
  have:vs[j]?=some vs[j]:=Vb _
  rw[this]at e2;simpa using e2
 rw[k1,k2];exact Rep.eqAt I n (Y1a hu) (r1 j _ _ g1 x1) (r2 j _ _ g2 x2) q1 q2
theorem Rep.rcAt(I:Inv X pins σ H s){n:Nat}{A:Around}{d d':Dt}{x y:V}{u v:Value}(hu:A.units+n < cLine)(r:Rep X.K H n d x)(r':Rep X.K H n d' y)(rx:Qr x u)(ry:Qr y v):SeqAt.RcAt A s u v (eqD d d'):=by
 have hu0:A.units < cLine:=by omega
 cases r with
 | v f =>
  cases r' with
  | v f' =>
   unfold eqD;cases x <;> first | (exact(Vf f).elim) | skip
   all_goals (cases y <;> first | (exact(Vf f').elim) | skip)
   ·cases (show u=Value.none from rx)
    cases (show v=Value.none from ry)
    exact SeqAt.RcAt.none_none
   ·cases (show u=Value.none from rx)
    cases (show v=Value.bool _ from ry)
    exact SeqAt.RcAt.none_bool _
   ·cases (show u=Value.none from rx)
    obtain⟨tv,rfl⟩:=ry;exact SeqAt.RcAt.none_int _ _
   ·cases (show u=Value.none from rx)
    obtain⟨tv,rfl⟩:=ry;exact SeqAt.RcAt.none_str _ _
   ·cases (show u=Value.bool _ from rx)
    cases (show v=Value.none from ry)
    exact SeqAt.RcAt.bool_none _
   ·cases (show u=Value.bool _ from rx)
    cases (show v=Value.bool _ from ry)
    exact SeqAt.RcAt.bool_bool _ _
   ·cases (show u=Value.bool _ from rx)
    obtain⟨tv,rfl⟩:=ry;exact SeqAt.RcAt.bool_int _ _ _
   ·cases (show u=Value.bool _ from rx)
    obtain⟨tv,rfl⟩:=ry;exact SeqAt.RcAt.bool_str _ _ _
   ·obtain⟨tu,rfl⟩:=rx
    cases (show v=Value.none from ry)
    exact SeqAt.RcAt.int_none _ _
   ·obtain⟨tu,rfl⟩:=rx
    cases (show v=Value.bool _ from ry)
    exact SeqAt.RcAt.int_bool _ _ _
   ·obtain⟨tu,rfl⟩:=rx
    obtain⟨tv,rfl⟩:=ry;exact SeqAt.RcAt.int_int _ _ _ _
   ·obtain⟨tu,rfl⟩:=rx
    obtain⟨tv,rfl⟩:=ry;exact SeqAt.RcAt.int_str _ _ _ _
   ·obtain⟨tu,rfl⟩:=rx
    cases (show v=Value.none from ry)
    exact SeqAt.RcAt.str_none _ _
   ·obtain⟨tu,rfl⟩:=rx
    cases (show v=Value.bool _ from ry)
    exact SeqAt.RcAt.str_bool _ _ _
   ·obtain⟨tu,rfl⟩:=rx
    obtain⟨tv,rfl⟩:=ry;exact SeqAt.RcAt.str_int _ _ _ _
   ·obtain⟨tu,rfl⟩:=rx
    obtain⟨tv,rfl⟩:=ry;exact SeqAt.RcAt.str_str _ _ _ _
  | t h e _ =>
   cases ry;obtain⟨its,_,p,_⟩:=I.tuple h;unfold eqD;cases x <;> first | (exact(Vf f).elim) | skip
   ·cases (show u=Value.none from rx)
    exact SeqAt.RcAt.none_tuple p hu0
   ·cases (show u=Value.bool _ from rx)
    exact SeqAt.RcAt.bool_tuple _ p hu0
   ·obtain⟨tu,rfl⟩:=rx
    exact SeqAt.RcAt.int_tuple _ _ p hu0
   ·obtain⟨tu,rfl⟩:=rx
    exact SeqAt.RcAt.str_tuple _ _ p hu0
  | l h e _ =>
   cases ry;obtain⟨its,_,p,_⟩:=I.list h;unfold eqD;cases x <;> first | (exact(Vf f).elim) | skip
   ·cases (show u=Value.none from rx)
    exact SeqAt.RcAt.none_list p.isList hu0
   ·cases (show u=Value.bool _ from rx)
    exact SeqAt.RcAt.bool_list _ p.isList hu0
   ·obtain⟨tu,rfl⟩:=rx
    exact SeqAt.RcAt.int_list _ _ p.isList hu0
   ·obtain⟨tu,rfl⟩:=rx
    exact SeqAt.RcAt.str_list _ _ p.isList hu0
 | t h e r1 =>
  rename_i n a ds xs;cases rx;obtain⟨its,w1,p,_⟩:=I.tuple h;cases r' with
  | v f' =>
   unfold eqD;cases y <;> first | (exact(Vf f').elim) | skip
   ·cases (show v=Value.none from ry)
    exact SeqAt.RcAt.tuple_none p hu0
   ·cases (show v=Value.bool _ from ry)
    exact SeqAt.RcAt.tuple_bool _ p hu0
   ·obtain⟨tv,rfl⟩:=ry
    exact SeqAt.RcAt.tuple_int _ _ p hu0
   ·obtain⟨tv,rfl⟩:=ry
    exact SeqAt.RcAt.tuple_str _ _ p hu0
  | t h' e' r2 =>
   rename_i b es ys;cases ry;obtain⟨its',w2,p',_⟩:=I.tuple h';have q:=SeqAt.RcAt.tuples (A:=A) (e:=fun i=>eqD (ds.getD i default) (es.getD i default)) p p' hu0 (Rep.elems I hu e e' r1 r2 w1 w2)
   have sz:its.toArray.size=ds.length:=by rw[Vn,<- w1.length,e]
   have sz':its'.toArray.size=es.length:=by rw[Vn,<- w2.length,e']
   rw[sz,sz',<- Xj]at q;unfold eqD;exact q
  | l h' _ _ =>
   cases ry;obtain⟨its',w2,p',_⟩:=I.list h';unfold eqD;exact SeqAt.RcAt.tuple_list p p'.isList hu0
 | l h e r1 =>
  rename_i n a ds xs;cases rx;obtain⟨its,w1,p,_⟩:=I.list h;cases r' with
  | v f' =>
   unfold eqD;cases y <;> first | (exact(Vf f').elim) | skip
   ·cases (show v=Value.none from ry)
    exact SeqAt.RcAt.list_none p.isList hu0
   ·cases (show v=Value.bool _ from ry)
    exact SeqAt.RcAt.list_bool _ p.isList hu0
   ·obtain⟨tv,rfl⟩:=ry
    exact SeqAt.RcAt.list_int _ _ p.isList hu0
   ·obtain⟨tv,rfl⟩:=ry
    exact SeqAt.RcAt.list_str _ _ p.isList hu0
  | l h' e' r2 =>
   rename_i b es ys;cases ry;obtain⟨its',w2,p',_⟩:=I.list h';have sz:its.toArray.size=ds.length:=by rw[Vn,<- w1.length,e]
   have sz':its'.toArray.size=es.length:=by rw[Vn,<- w2.length,e']
   unfold eqD
   by_cases hl:ds.length=es.length
   ·have q:=SeqAt.RcAt.lists (A:=A) (e:=fun i=>eqD (ds.getD i default) (es.getD i default)) p.isList p'.isList (by omega) hu0 (Rep.elems I hu e e' r1 r2 w1 w2)
    rw[sz,<- YX hl]at q;exact q
   ·rw[J2a hl]
    exact SeqAt.RcAt.lists_lengths p.isList p'.isList (by rw[sz,sz'];exact bne_iff_ne.mpr hl) hu0
  | t h' _ _ =>
   cases ry;obtain⟨its',w2,p',_⟩:=I.tuple h';unfold eqD;exact SeqAt.RcAt.list_tuple p.isList p' hu0
theorem Rep.rcNeAt(I:Inv X pins σ H s){n:Nat}{A:Around}{d d':Dt}{x y:V}{u v:Value}(hu:A.units+n < cLine)(r:Rep X.K H n d x)(r':Rep X.K H n d' y)(rx:Qr x u)(ry:Qr y v):SeqAt.RcNeAt A s u v (!eqD d d'):=by
 have hu0:A.units < cLine:=by omega
 cases r with
 | v f =>
  cases r' with
  | v f' =>
   unfold eqD;cases x <;> first | (exact(Vf f).elim) | skip
   all_goals (cases y <;> first | (exact(Vf f').elim) | skip)
   ·cases (show u=Value.none from rx)
    cases (show v=Value.none from ry)
    exact SeqAt.RcNeAt.none_none
   ·cases (show u=Value.none from rx)
    cases (show v=Value.bool _ from ry)
    exact SeqAt.RcNeAt.none_bool _
   ·cases (show u=Value.none from rx)
    obtain⟨tv,rfl⟩:=ry;exact SeqAt.RcNeAt.none_int _ _
   ·cases (show u=Value.none from rx)
    obtain⟨tv,rfl⟩:=ry;exact SeqAt.RcNeAt.none_str _ _
   ·cases (show u=Value.bool _ from rx)
    cases (show v=Value.none from ry)
    exact SeqAt.RcNeAt.bool_none _
   ·cases (show u=Value.bool _ from rx)
    cases (show v=Value.bool _ from ry)
    exact SeqAt.RcNeAt.bool_bool _ _
   ·cases (show u=Value.bool _ from rx)
    obtain⟨tv,rfl⟩:=ry;exact SeqAt.RcNeAt.bool_int _ _ _
   ·cases (show u=Value.bool _ from rx)
    obtain⟨tv,rfl⟩:=ry;exact SeqAt.RcNeAt.bool_str _ _ _
   ·obtain⟨tu,rfl⟩:=rx
    cases (show v=Value.none from ry)
    exact SeqAt.RcNeAt.int_none _ _
   ·obtain⟨tu,rfl⟩:=rx
    cases (show v=Value.bool _ from ry)
    exact SeqAt.RcNeAt.int_bool _ _ _
   ·obtain⟨tu,rfl⟩:=rx
    obtain⟨tv,rfl⟩:=ry;exact SeqAt.RcNeAt.int_int _ _ _ _
   ·obtain⟨tu,rfl⟩:=rx
    obtain⟨tv,rfl⟩:=ry;exact SeqAt.RcNeAt.int_str _ _ _ _
   ·obtain⟨tu,rfl⟩:=rx
    cases (show v=Value.none from ry)
    exact SeqAt.RcNeAt.str_none _ _
   ·obtain⟨tu,rfl⟩:=rx
    cases (show v=Value.bool _ from ry)
    exact SeqAt.RcNeAt.str_bool _ _ _
   ·obtain⟨tu,rfl⟩:=rx
    obtain⟨tv,rfl⟩:=ry;exact SeqAt.RcNeAt.str_int _ _ _ _
   ·obtain⟨tu,rfl⟩:=rx
    obtain⟨tv,rfl⟩:=ry;exact SeqAt.RcNeAt.str_str _ _ _ _
  | t h e _ =>
   cases ry;obtain⟨its,_,p,_⟩:=I.tuple h;unfold eqD;cases x <;> first | (exact(Vf f).elim) | skip
   ·cases (show u=Value.none from rx)
    exact SeqAt.RcNeAt.none_tuple p hu0
   ·cases (show u=Value.bool _ from rx)
    exact SeqAt.RcNeAt.bool_tuple _ p hu0
   ·obtain⟨tu,rfl⟩:=rx
    exact SeqAt.RcNeAt.int_tuple _ _ p hu0
   ·obtain⟨tu,rfl⟩:=rx
    exact SeqAt.RcNeAt.str_tuple _ _ p hu0
  | l h e _ =>
   cases ry;obtain⟨its,_,p,_⟩:=I.list h;unfold eqD;cases x <;> first | (exact(Vf f).elim) | skip
   ·cases (show u=Value.none from rx)
    exact SeqAt.RcNeAt.none_list p.isList hu0
   ·cases (show u=Value.bool _ from rx)
    exact SeqAt.RcNeAt.bool_list _ p.isList hu0
   ·obtain⟨tu,rfl⟩:=rx
    exact SeqAt.RcNeAt.int_list _ _ p.isList hu0
   ·obtain⟨tu,rfl⟩:=rx
    exact SeqAt.RcNeAt.str_list _ _ p.isList hu0
 | t h e r1 =>
  rename_i n a ds xs;cases rx;obtain⟨its,w1,p,_⟩:=I.tuple h;cases r' with
  | v f' =>
   unfold eqD;cases y <;> first | (exact(Vf f').elim) | skip
   ·cases (show v=Value.none from ry)
    exact SeqAt.RcNeAt.tuple_none p hu0
   ·cases (show v=Value.bool _ from ry)
    exact SeqAt.RcNeAt.tuple_bool _ p hu0
   ·obtain⟨tv,rfl⟩:=ry
    exact SeqAt.RcNeAt.tuple_int _ _ p hu0
   ·obtain⟨tv,rfl⟩:=ry
    exact SeqAt.RcNeAt.tuple_str _ _ p hu0
  | t h' e' r2 =>
   rename_i b es ys;cases ry;obtain⟨its',w2,p',_⟩:=I.tuple h';have q:=SeqAt.RcNeAt.tuples (A:=A) (e:=fun i=>eqD (ds.getD i default) (es.getD i default)) p p' hu0 (Rep.elems I hu e e' r1 r2 w1 w2)
   have sz:its.toArray.size=ds.length:=by rw[Vn,<- w1.length,e]
   have sz':its'.toArray.size=es.length:=by rw[Vn,<- w2.length,e']
   rw[sz,sz',<- Xj]at q;unfold eqD;exact q
  | l h' _ _ =>
   cases ry;obtain⟨its',w2,p',_⟩:=I.list h';unfold eqD;exact SeqAt.RcNeAt.tuple_list p p'.isList hu0
 | l h e r1 =>
  rename_i n a ds xs;cases rx;obtain⟨its,w1,p,_⟩:=I.list h;cases r' with
  | v f' =>
   unfold eqD;cases y <;> first | (exact(Vf f').elim) | skip
   ·cases (show v=Value.none from ry)
    exact SeqAt.RcNeAt.list_none p.isList hu0
   ·cases (show v=Value.bool _ from ry)
    exact SeqAt.RcNeAt.list_bool _ p.isList hu0
   ·obtain⟨tv,rfl⟩:=ry
    exact SeqAt.RcNeAt.list_int _ _ p.isList hu0
   ·obtain⟨tv,rfl⟩:=ry
    exact SeqAt.RcNeAt.list_str _ _ p.isList hu0
  | l h' e' r2 =>
   rename_i b es ys;cases ry;obtain⟨its',w2,p',_⟩:=I.list h';have sz:its.toArray.size=ds.length:=by rw[Vn,<- w1.length,e]
   have sz':its'.toArray.size=es.length:=by rw[Vn,<- w2.length,e']
   unfold eqD
   by_cases hl:ds.length=es.length
   ·have q:=SeqAt.RcNeAt.lists (A:=A) (e:=fun i=>eqD (ds.getD i default) (es.getD i default)) p.isList p'.isList (by omega) hu0 (Rep.elems I hu e e' r1 r2 w1 w2)
    rw[sz,<- YX hl]at q;exact q
   ·rw[J2a hl]
    exact SeqAt.RcNeAt.lists_lengths p.isList p'.isList (by rw[sz,sz'];exact bne_iff_ne.mpr hl) hu0
  | t h' _ _ =>
   cases ry;obtain⟨its',w2,p',_⟩:=I.tuple h';unfold eqD;exact SeqAt.RcNeAt.list_tuple p.isList p' hu0
def rD(K:W.Frag)(neg:Bool):R2:=fun x y H Q=>∃ n d d',n<=60/\Rep K H n d x/\Rep K H n d' y/\Q (.bl (if neg then !eqD d d' else eqD d d')) H
theorem J3a(hu:X.A.units+64 < cLine):OpR X (compareOp .Eq) (rD X.K false):=by
 intro pins s σ H x y v u Q I rx ry h;obtain⟨n,d,d',hn,r,r',q⟩:=h;exact Rep.rcAt I (A:=X.A) (by omega) r r' rx ry X.prog X.w X.xe _ ⟨.bl _,H,I,rfl,q⟩
theorem ZAa(hu:X.A.units+64 < cLine):OpR X (compareOp .NotEq) (rD X.K true):=by
 intro pins s σ H x y v u Q I rx ry h;obtain⟨n,d,d',hn,r,r',q⟩:=h;exact Rep.rcNeAt I (A:=X.A) (by omega) r r' rx ry X.prog X.w X.xe _ ⟨.bl _,H,I,rfl,q⟩
end
end L2
end
section
namespace L2
open PySem PySem.Spec PyProof.Rows PySem.W
structure Xgb(xs:List V)(lt:V->V->Bool):Prop where
 ty:∃ T:String,(Value.type T != Value.type "tuple")=true/\∀ v∈xs,∀ u,Qr v u->typeOf u=pure (.type T)
 ask:∀ v∈xs,∀ v'∈xs,∀ u u',Qr v u->Qr v' u'->∀ (prog:Program) (w:World) (A:Around) (E:YQ_) (s:Shared) (Q:Bool->Shared->Prop),Q (lt v v') s->wpAny (model prog w) A (keyLt' oneType' u u') Q E s
 swo:Swo xs lt
theorem JJb{v v':V}{u:Value}(a:Qr v u)(b:Qr v' u):v=v':=by
 cases v <;> cases v' <;> simp only[Qr]at a b <;> first | rfl | (subst a;cases b;done) | (subst a;cases b;rfl) | (obtain⟨t,rfl⟩:=a;obtain⟨t',e⟩:=b;cases e;done) | (obtain⟨t,rfl⟩:=a;obtain⟨t',e⟩:=b;cases e;rfl) | (subst a;obtain⟨t',e⟩:=b;cases e;done) | (obtain⟨t,rfl⟩:=a;cases b;done)
section
variable{X:Cx}{pins:YP_}{σ:St}{H:Hp}{s:Shared}{A:Around}{E:YQ_}
theorem JKb{n:Nat}(h:n<=100000):n < sizeLine:=Nat.lt_of_le_of_lt h (by decide)
theorem Y2a{l:Addr}{xs:List V}{lt:V->V->Bool}{Q:VK}(I:Inv X pins σ H s)(hl:SqL X.K H l xs)(h64:xs.length < 100000)(hK:Xgb xs lt)
 (h:∀ D H' ys,Qk H H'->H D=none->H' D=some (.lst ys)->ys.Perm xs->ys.Pairwise (fun a b=>lt b a=false)->Q (.ref D) H') :
 wpAny (model X.prog X.w) X.A (call (.builtin "sorted") [.ref l]) (EP X pins σ Q) X.xe s:=by
 obtain⟨vs,rv,pl,hz⟩:=I.list hl;have hlv:=rv.length;have hvz:vs.length<=sizeLine:=by rw[<- hlv];exact hz
 refine Calls.call_function_entry kind_sorted plain_sorted entry_sorted (args_sorted1 _) ?_
 unfold Builtin.«sorted»;refine Va (m:=checkCount "sorted" 1 1 _) (Vg ?_)
 refine Va (collect_list pl.isList ?_ hvz)
 refine Va (wpAny_newList ?_ hvz)
 obtain⟨hsz,kept1⟩:=QEc s.heap vs;have hoL:=Vi ((s.heap.push (seqObj "list" #[] 0)).update s.heap.objs.size (Obj.mapSeq (·++vs.toArray))) (o:=seqObj "list" vs.toArray 0) rfl
 rw[hsz]at hoL;have keep:=fun b o q=>Vd (seqObj "list" vs.toArray 0) (kept1 b o q)
 have I1:Inv X pins σ H { s with heap:=((s.heap.push (seqObj "list" #[] 0)).update s.heap.objs.size (Obj.mapSeq (·++vs.toArray))).push (seqObj "list" vs.toArray 0) }:=I.kept (t':=s.toks) keep
 have fD:Qia X pins H (s.heap.objs.size+1):=I.fpOk (Nat.le_succ _) (I.hok.fresh (Nat.le_succ _));show wpAny _ _ _ _ _ { s with heap:=((s.heap.push (seqObj "list" #[] 0)).update s.heap.objs.size (Obj.mapSeq (·++vs.toArray))).push (seqObj "list" vs.toArray 0) }
 rw[hsz];generalize ((s.heap.push (seqObj "list" #[] 0)).update s.heap.objs.size (Obj.mapSeq (·++vs.toArray))).push (seqObj "list" vs.toArray 0)=h1 at hoL I1;generalize s.heap.objs.size+1=D at hoL fD;refine Va (wpAny_holding (wpAny_call_entry slot_list_sort ⟨_,hoL,rfl⟩ entry_list_sort ?body (args_list_sort _)))
 case body =>
  rw[list_sort_plain];have s1:=Heap.SameBut.update h1 D (Obj.mapSeq fun _=>(#[]:Array Value))
  obtain⟨e1,ho1⟩:∃ e1,(h1.update D (Obj.mapSeq fun _=>(#[]:Array Value))).get? D=some (seqObj "list" #[] e1):=⟨_,get?_update_seq hoL fun _=>#[]⟩
  have I2:Inv X pins σ H { s with heap:=h1.update D (Obj.mapSeq fun _=>(#[]:Array Value)) }:=I1.turned (t':=s.toks) (fun b o hb q=>(s1.2 b hb).trans q) fD.1 fD.2.1 fD.2.2.2.1 fD.2.2.2.2.1 fD.2.2.2.2.2
  have I3:Inv X (pins++[(D,seqObj "list" #[] e1)]) σ H { s with heap:=h1.update D (Obj.mapSeq fun _=>(#[]:Array Value)) }:=I2.pins_of fun p hp=>(Vl.mp hp).elim (fun z=>I2.pin p (Vp _ z)) fun z=>by
   have z:p=(D,seqObj "list" #[] e1):=by simpa using z
   subst z;exact⟨ho1,fD.1,fD.2.1,fD.2.2.1,fun v q=>by cases q⟩
  have I5:Inv X (pins++[(D,seqObj "list" #[] e1)]) σ H { s with heap:=((h1.update D (Obj.mapSeq fun _=>(#[]:Array Value))).push (seqObj "tuple" vs.toArray 0)).push (seqObj "list" #[] 0) }:=I3.kept (t':=s.toks) fun b u q=>Vd _ (Vd _ q)
  refine Va (listItems_at hoL rfl ?_)
  refine Va (listUpdate_at hoL rfl ?_ (by rw[Vn];exact hvz) (Vk _))
  refine Va (seqEpoch_at ho1 rfl ?_)
  refine Va (wpAny_newTuple ?_ (by show vs.length<=_;exact hvz))
  refine Va (wpAny_newList ?_ (Vk _))
  refine wpAny_holding ?_
  show wpAny (model X.prog X.w) _ _ _ _ { s with heap:=((h1.update D (Obj.mapSeq fun _=>(#[]:Array Value))).push (seqObj "tuple" vs.toArray 0)).push (seqObj "list" #[] 0) }
  generalize ((h1.update D (Obj.mapSeq fun _=>(#[]:Array Value))).push (seqObj "tuple" vs.toArray 0)).push (seqObj "list" #[] 0)=h2 at I5
  dsimp only;have tail:∀ {st:SortSt} {out:List Value} {ys:List V},(arrOf st).map (·.2)=List.toArray out->failedOf st=none->Qv ys out->ys.length < 100000->ys.Perm xs->ys.Pairwise (fun a b=>lt b a=false) ->
   wpAny (model X.prog X.w) X.A.in1.in1 (do
    let ep <- seqEpoch D
    Builtin.List.listUpdate (Value.ref D) fun x=>Array.map (fun x=>x.snd) (arrOf st)
    match failedOf st with
    | some e=>do
     rule "list.sort.comparison-raised"
     throw e
     if (ep != e1)=true then do
         rule "list.sort.modified"
         raiseErrorWords "ValueError" "list modified during sort"
         ret Value.none
      else ret Value.none
    | x =>
     if (ep != e1)=true then do
      rule "list.sort.modified"
      raiseErrorWords "ValueError" "list modified during sort"
      ret Value.none
     else ret Value.none)
    (fun fin s'=>∃ v,fin=Fin.done (Flow.ret v)/\wpAny (model X.prog X.w) X.A.in1 (ret (Value.ref D)) (fun fin s'=>∃ v,fin=Fin.done (Flow.ret v)/\EP X pins σ Q v s') X.xe s')
    X.xe { s with heap:=h2 }:=by
   intro st out ys hout hf ro hlo p1 p2;have hD:=(I5.pin (D,seqObj "list" #[] e1) (Vp _ (Vp _ (by simp)))).1
   have s2:=Heap.SameBut.update h2 D (Obj.mapSeq fun _=>List.toArray out)
   obtain⟨c2,hc2⟩:∃ c2,(h2.update D (Obj.mapSeq fun _=>List.toArray out)).get? D=some (seqObj "list" (List.toArray out) c2):=⟨_,get?_update_seq hD fun _=>List.toArray out⟩
   have ho:out.length < 100000:=by rw[<- ro.length];exact hlo
   rw[hout];refine Va (seqEpoch_at hD rfl ?_)
   refine Va (listUpdate_at hD rfl ?_ (Vk _) (by rw[Vn];exact Nat.le_succ_of_le (Vv (JKb (by omega)))))
   rw[hf];simp only[bne_self_eq_false,Bool.false_eq_true,if_false];have I6:Inv X pins σ (upd H D (.lst ys)) { s with heap:=h2.update D (Obj.mapSeq fun _=>List.toArray out) }:=(I5.unpinned).adopt (t':=s.toks) fD (fun b u hb q=>(s2.2 b hb).trans q) ⟨Vv (JKb (by omega)),out,c2,ro,hc2⟩
   exact Vg ⟨_,rfl,Vg ⟨_,rfl,.ref D,_,I6,rfl,h D _ ys ((Qk.refl _).updL fD.1 _) fD.1 Qa p1 p2⟩⟩
  by_cases h2':vs.toArray.size < 2
  ·rw[if_pos h2',if_pos h2']
   refine Va (Vg ?_)
   rw[StateT.run_pure];refine Va (Vg ?_)
   refine tail (st:=SortSt.mk' general' (vs.toArray.zip vs.toArray) #[] 7 none) (out:=vs) ?_ rfl rv (by omega) (List.Perm.refl _) (Jxb (by rw[Vn]at h2';omega))
   apply Array.toList_inj.mp
   show(Array.map (·.2) (vs.toArray.zip vs.toArray)).toList=_;rw[Array.toList_map,ksk_zip];show List.map (·.2) (vs.zip vs)=vs;exact map_snd_zip (by omega)
  ·rw[if_neg h2',if_neg h2']
   rw[Vn]at h2';obtain⟨T,hT1,hT⟩:=hK.ty;have mem:∀ v∈vs,∃ x∈xs,Qr x v:=fun v hv=>by
    obtain⟨i,hi,rfl⟩:=mem_iff_getElem.mp hv;obtain⟨u,eu,ru⟩:=rv.get (i:=i) (x:=xs[i]'(by omega)) (Vb _)
    rw[Vb hi]at eu
    cases eu;exact⟨_,getElem_mem _,ru⟩
   refine Va (kas_kind (T:=.type T) (by omega) (fun v hv=>?_) hT1 (by simp) ?_)
   ·obtain⟨x,hx,rx⟩:=mem v hv
    exact Looks.of_pure (hT x hx v rx)
   have hn:0 < xs.length:=by omega
   have at_:∀ i,i < xs.length->Qr (xs.getD i .non) (vs.getD i Value.none)/\xs.getD i .non∈xs:=fun i hi=>by
    obtain⟨u,eu,ru⟩:=rv.get (i:=i) (x:=xs[i]) (Vb _)
    have e1:xs.getD i .non=xs[i]:=by simp[hi]
    have e2:vs.getD i Value.none=u:=by simp[List.getD,eu]
    rw[e1,e2];exact⟨ru,getElem_mem _⟩
   have run:=SortB.Y9b (prog:=X.prog) (w:=X.w) (A:=X.A.in1.in1) (E:=X.xe) (κ:=oneType') (ks:=vs) (vs:=vs) (s:={ s with heap:=h2 }) (r:=fun i=>xs.countP (lt · (xs.getD i .non))) rfl (by omega)
    (fun i j C hi hj hC=>by
     rw[<- hlv]at hi hj;rw[hK.swo.rank (at_ i hi).2 (at_ j hj).2]at hC;unfold kas_ask;exact hK.ask _ (at_ i hi).2 _ (at_ j hj).2 _ _ (at_ i hi).1 (at_ j hj).1 _ _ _ _ _ _ hC)
    (fun i j hi hj e=>by
     rw[<- hlv]at hi hj;have r1:=(at_ i hi).1;rw[e]at r1;show xs.countP (lt · (xs.getD i .non))=xs.countP (lt · (xs.getD j .non));rw[JJb r1 (at_ j hj).1])
   rw[<- hlv]at run;refine Va (wpAny_mono run ?_ fun _ _ x=>x)
   rintro⟨⟨⟩,st'⟩ s' ⟨p,har,hf,es,ok,up⟩;subst es;have hout:=kat_snds (ks:=vs) (vs:=vs) rfl har;exact tail hout hf (rv.pick p.toList) (by rw[Vr,Array.length_toList,ok.size];omega) (XWa ok) (Jwb hK.swo ok hn up)
end
def ltP:V->V->Bool
 | .int a,.int b=>decide (a < b)
 | .str a,.str b=>decide (a.cps.toList < b.cps.toList)
 | _,_=>false
theorem JLb{xs:List V}(h:∀ v∈xs,∃ n,v=.int n):Xgb xs ltP where
 ty:=⟨"int",by decide,fun v hv u r=>by obtain⟨n,rfl⟩:=h v hv;obtain⟨t,rfl⟩:=r;rfl⟩
 ask:=fun v hv v' hv' u u' r r' prog w A E s Q q=>by
  obtain⟨n,rfl⟩:=h v hv;obtain⟨t,rfl⟩:=r;obtain⟨n',rfl⟩:=h v' hv';obtain⟨t',rfl⟩:=r';exact kat_lt_int q
 swo:=⟨fun a ha=>by obtain⟨n,rfl⟩:=h a ha;simp[ltP],fun a ha b hb c hc=>by
  obtain⟨x,rfl⟩:=h a ha;obtain⟨y,rfl⟩:=h b hb;obtain⟨z,rfl⟩:=h c hc;simp only[ltP,decide_eq_true_eq];omega,fun a ha b hb c hc=>by
  obtain⟨x,rfl⟩:=h a ha;obtain⟨y,rfl⟩:=h b hb;obtain⟨z,rfl⟩:=h c hc;simp only[ltP,decide_eq_true_eq];omega⟩
theorem JMb{xs:List V}(h:∀ v∈xs,∃ z,v=.str z):Xgb xs ltP where
 ty:=⟨"str",by decide,fun v hv u r=>by obtain⟨n,rfl⟩:=h v hv;obtain⟨t,rfl⟩:=r;rfl⟩
 ask:=fun v hv v' hv' u u' r r' prog w A E s Q q=>by
  obtain⟨n,rfl⟩:=h v hv;obtain⟨t,rfl⟩:=r;obtain⟨n',rfl⟩:=h v' hv';obtain⟨t',rfl⟩:=r';exact kas_lt_str q
 swo:=⟨fun a ha=>by obtain⟨n,rfl⟩:=h a ha;simp only[ltP,decide_eq_false_iff_not];exact List.lt_irrefl _,fun a ha b hb c hc=>by
  obtain⟨x,rfl⟩:=h a ha;obtain⟨y,rfl⟩:=h b hb;obtain⟨z,rfl⟩:=h c hc;simp only[ltP,decide_eq_true_eq];exact fun p q=>List.lt_trans p q,fun a ha b hb c hc=>by
  obtain⟨x,rfl⟩:=h a ha;obtain⟨y,rfl⟩:=h b hb;obtain⟨z,rfl⟩:=h c hc;simp only[ltP,decide_eq_true_eq];intro p
  by_cases q:x.cps.toList < y.cps.toList
  ·exact .inl q
  ·exact .inr (List.lt_of_le_of_lt (List.not_lt.mp q) p)⟩
def QOc(K:W.Frag):List V->Hp->VK->Prop:=fun vs H Q=>∃ a xs lt,vs=[.ref a]/\SqL K H a xs/\xs.length < 100000/\Xgb xs lt /\
 ∀ D H' ys,Qk H H'->H D=none->H' D=some (.lst ys)->ys.Perm xs->ys.Pairwise (fun a b=>lt b a=false)->Q (.ref D) H'
theorem X5{X:Cx}:Xp X (.builtin "sorted") (QOc X.K):=by
 intro pins s σ H xs us Q I r h;obtain⟨a,ys,lt,rfl,hl,h64,hK,q⟩:=h;obtain⟨u,rfl,ru⟩:=Zka r;obtain rfl:u=Value.ref a:=ru;exact Y2a I hl h64 hK q
end L2
end
section
namespace L2
open PySem PySem.Spec PyProof.Rows
theorem QPc{k:Key}{u:Value}(h:Xo k u=true):Qr (kV k) u:=by
 rcases QV h with ⟨i,t,rfl,rfl⟩ | ⟨x,t,rfl,rfl⟩
 ·exact⟨t,rfl⟩
 ·exact⟨t,rfl⟩
def NF(X:Cx)(d:Addr):Prop:=∀ o u,X.H₀ d≠some (.frz o u)
section
variable{X:Cx}{pins:YP_}{σ:St}{H:Hp}{s:Shared}{d:Addr}{kvs:List (Key×V)}
theorem Inv.recast{u u':HO}(I:Inv X pins σ H s)(h:H d=some u)(n1:∀ xs,u≠.tup xs)(n2:∀ o v,X.H₀ d≠some (.frz o v))(n3:∀ ps,u≠.tbl ps)(n4:∀ x,u≠.own x)(ok:QB X.prog X.w (upd H d u') s.heap d u'):Inv X pins σ (upd H d u') s:=by
 have ne:∀ b,H b=none->b≠d:=fun b q z=>by rw[z,h]at q;cases q
 have nt:∀ b xs,H b=some (.tup xs)->b≠d:=fun b xs q z=>by rw[z,h]at q;exact n1 xs (Option.some.inj q)
 have no:∀ b x,H b=some (.own x)->b≠d:=fun b x q z=>by rw[z,h]at q;exact n4 x (Option.some.inj q)
 refine⟨I.ok,I.os,I.bare,⟨I.base.keep,I.base.slot,fun b v q n hx=>?_,I.base.there,fun b xs q=>?_,fun b o v q=>?_,fun b ps q=>?_⟩,I.loc,I.cell,by rw[Qd (ne _ I.free)];exact I.free,fun x c q=>by rw[Qd (ne _ (I.freeC x c q))];exact I.freeC x c q,fun p hp=>?_,fun b v q=>?_,I.len⟩
 ·have z:=I.base.free b v q n hx
  rw[Qd (ne b z)];exact z
 ·have z:=I.base.tups b xs q
  rw[Qd (nt b xs z)];exact z
 ·have z:=I.base.frzs b o v q
  rw[Qd (fun e=>by rw[e]at q;exact n2 o v q)];exact z
 ·obtain⟨m,z⟩:=I.base.tbls b ps q
  exact⟨m,by rw[Qd (fun e=>by rw[e,h]at z;exact n3 _ (Option.some.inj z))];exact z⟩
 ·obtain⟨a,b,r⟩:=I.pin p hp
  exact⟨a,by rw[Qd (ne _ b)];exact b,r⟩
 ·by_cases hb:b=d
  ·subst hb;rw[Qa]at q;cases q;exact ok
  ·rw[Qd hb]at q
   exact(I.hok b v q).stay (fun c v _ r=>r) (fun c r=>by rw[Qd (no c b r)];exact r) fun c xs r=>by rw[Qd (nt c xs r)];exact r
theorem Inv.nf(I:Inv X pins σ H s)(h:H d=some (.dK kvs)):NF X d:=fun o u q=>by
 have z:=I.base.frzs d o u q;rw[h]at z;cases z
theorem Inv.freeze(I:Inv X pins σ H s)(h:H d=some (.dK kvs)):∃ ob,s.heap.get? d=some ob/\Inv X pins σ (upd H d (.frz ob (.dK kvs))) s:=by
 obtain⟨z,y,vs,r,o,es,ep,e,c⟩:=(show QB X.prog X.w H s.heap d (.dK kvs) from I.hok d _ h)
 exact⟨o,e,I.recast h (fun _ z=>by cases z) (I.nf h) (fun _ z=>by cases z) (fun _ z=>by cases z) ⟨e,z,y,vs,r,o,es,ep,e,c⟩⟩
theorem Inv.thaw{ob:Obj}(I:Inv X pins σ H s)(nf:NF X d)(h:H d=some (.frz ob (.dK kvs))):Inv X pins σ (upd H d (.dK kvs)) s:=by
 obtain⟨_,z,y,vs,r,o,es,ep,e,c⟩:=(show QB X.prog X.w H s.heap d (.frz ob (.dK kvs)) from I.hok d _ h)
 exact I.recast h (fun _ z=>by cases z) nf (fun _ z=>by cases z) (fun _ z=>by cases z) ⟨z,y,vs,r,o,es,ep,e,c⟩
end
def Itd(d:Addr)(ob:Obj)(kvs:List (Key×V)):It :=
 ⟨fun i H=>H d=some (.frz ob (.dK kvs))/\i < kvs.length,fun i H x H'=>H'=H/\∃ k v,kvs[i]?=some (k,v)/\x=kV k,fun i H=>H d=some (.frz ob (.dK kvs))/\kvs.length<=i⟩
theorem JNb{P:Program}{w:World}{H:Hp}{h:Heap}{d:Addr}{ob:Obj}{kvs:List (Key×V)}{es:Array DictEntry}{ep:Nat}(ok:HOk P w H h)(e:H d=some (.frz ob (.dK kvs)))(hd:ob.data=.dict es ep) :
 (d == sysModules)=false/\∃ vs,KV kvs vs/\h.DictAt (QL P w) d vs ep:=by
 obtain⟨e0,z,y,vs,r,o,es',ep',e1,c1,c2,c3⟩:=(show QB P w H h d (.frz ob (.dK kvs)) from ok d _ e)
 rw[e0]at e1;cases e1;rw[hd]at c2;cases c2;exact⟨y,vs,r,ob,es,e0,c1,hd,c3⟩
theorem KV.get{kvs:List (Key×V)}{vs:List (Key×Value)}(r:KV kvs vs){i:Nat}{k:Key}{v:V}(h:kvs[i]?=some (k,v)):∃ u,vs[i]?=some (k,u)/\Qr v u:=by
 induction r generalizing i with
 | nil=>simp at h
 | cons a b ih =>
  cases i with
  | zero =>
   simp only[getElem?_cons_zero,Option.some.injEq]at h ⊢
   subst h;rename_i q _ _;obtain⟨k',u⟩:=q;exact⟨u,by rw[show k=k' from a.1],a.2⟩
  | succ j =>
   simp only[getElem?_cons_succ]at h ⊢
   exact ih h
theorem KV.len{kvs:List (Key×V)}{vs:List (Key×Value)}(r:KV kvs vs):kvs.length=vs.length:=Paired.length r
theorem ZAb{P:Program}{w:World}{K:W.Frag}{tg:Expr}(it d:Addr)(ob:Obj)(kvs:List (Key×V))(es:Array DictEntry)(ep:Nat)(hdt:ob.data=.dict es ep):XAa P w K tg (Itd d ob kvs) [it] it (fun i h=>h.IsKeyIter it d i kvs.length ep) where
 mem:=by simp
 obj:=fun i h st b hb=>by
  have e:b=it:=by simpa using hb
  subst e;obtain⟨o,e,c,dd⟩:=st;exact⟨o,e,fun v z=>by rw[dd]at z;cases z⟩
 keep:=fun i h h' st k=>let ⟨o,ho,r⟩:=st;⟨o,k it (by simp) o ho,r⟩
 item:=by
  intro X hP hw hK hc i pins s σ H E I hf st hg;subst hP hw hK;obtain⟨hz,hi⟩:=hg;obtain⟨_,vs,rv,da⟩:=JNb I.hok hz hdt;have hl:=rv.len;obtain⟨k,v,hkv⟩:∃ k v,kvs[i]?=some (k,v):=⟨kvs[i].1,kvs[i].2,Vb hi⟩
  obtain⟨u,hu,_⟩:=rv.get hkv;obtain⟨f0,f1,f2,f3,f4,f5⟩:=hf it (by simp)
  rw[hl]at st;refine wpAny_pyNext_dict_item st da hu fun key h' hk st' sb=>?_
  have I1:Inv X pins σ H { s with heap:=h' }:=I.turned (t':=s.toks) (fun b o hb e=>(sb.2 b hb).trans e) f0 f1 f3 f4 f5
  obtain⟨o,e,c,dd⟩:=id st';exact⟨key,rfl,Jna (s:={ s with heap:=h' }) e c dd (by decide) ⟨kV k,H,I1,QPc hk,⟨rfl,k,v,hkv,rfl⟩,by rw[hl];exact st',fun b hb=>(hf b hb).1⟩⟩
 done:=by
  intro X hP hw hK hc i pins s σ H E I hf st hg;subst hP hw hK;obtain⟨hz,hi⟩:=hg;obtain⟨_,vs,rv,da⟩:=JNb I.hok hz hdt;have hl:=rv.len;obtain⟨f0,f1,f2,f3,f4,f5⟩:=hf it (by simp)
  rw[hl]at st;exact wpAny_pyNext_dict_end (I.ok.hd hc) st da (getElem?_eq_none (by omega)) fun h' eb=>⟨rfl,I.turned (t':=s.toks) (fun b o hb e=>eb b o hb e) f0 f1 f3 f4 f5⟩
 self:=fun _ _ _ _ _ st h=>wpAny_pyIter_keyiter st h
def JOb(X:Cx)(tl:TE):TI:=fun σ H R=>tl σ H fun x H1=>∃ d kvs,x=.ref d/\H1 d=some (.dK kvs)/\∀ ob,NF X d->R (Itd d ob kvs) (upd H1 d (.frz ob (.dK kvs)))
section
variable{X:Cx}
theorem QRb{tg l:Expr}{tl:TE}(hl:PE X l tl):PI X tg l (JOb X tl):=by
 intro pins s σ H R I h;refine thn (hl pins s σ H _ I h) fun v s1 hZ=>?_
 obtain⟨x,H1,I1,r1,q1⟩:=hZ;obtain⟨d,kvs,e,hd,q⟩:=q1;subst e;obtain rfl:v=Value.ref d:=r1;obtain⟨ob,hob,I2⟩:=I1.freeze hd;obtain⟨z,y,vs,rv,o,es,ep,e0,c1,c2,c3⟩:=(show QB X.prog X.w H1 s1.heap d (.dK kvs) from I1.hok d _ hd)
 rw[hob]at e0;cases e0;have da:s1.heap.DictAt (QL X.prog X.w) d vs ep:=⟨ob,es,hob,c1,c2,c3⟩;refine wpAny_pyIter_dict y da ?_
 have nf:=I1.nf hd;refine⟨s1.heap.objs.size,[s1.heap.objs.size],_,_,upd H1 d (.frz ob (.dK kvs)),rfl,I2.kept (t':=s1.toks) fun b o e=>Vd _ e,ZAb _ d ob kvs es ep c2,⟨_,Vi _ rfl,rfl,?_⟩,fun b hb=>?_,q ob nf⟩
 ·rw[rv.len];rfl
 ·have e:b=s1.heap.objs.size:=by simpa using hb
  subst e;exact I2.fpOk (Ve _) (I2.hok.fresh (Ve _))
def XZb(X:Cx)(te:TE):TE:=fun σ H Q=>te σ H fun v H1=>∃ d ob kvs,NF X d/\H1 d=some (.frz ob (.dK kvs))/\Q v (upd H1 d (.dK kvs))
theorem QSb{e:Expr}{te:TE}(h:PE X e te):PE X e (XZb X te):=fun pins s σ H Q I q=>wpAny_mono (h pins s σ H _ I q) (fun u s1 ⟨v,H',I',r,d,ob,kvs,nf,e,q'⟩=>⟨v,_,I'.thaw nf e,r,q'⟩) fun _ _ z=>z
theorem ZBb{tl:TE}{g:TG}{tb:TS}{D:Jb}{σ:St}{H:Hp}:YFa (JOb X tl) g tb D σ H=tl σ H fun x H1=>∃ d kvs,x=.ref d/\H1 d=some (.dK kvs)/\∀ ob,NF X d->FoR (Itd d ob kvs) g tb D σ (upd H1 d (.frz ob (.dK kvs))):=rfl
theorem JPb{tl:TE}{tt:TT}{te:TE}{σ:St}{H:Hp}{Q:VK}:tLc (JOb X tl) tt te σ H Q=tl σ H fun x H1=>∃ d kvs,x=.ref d/\H1 d=some (.dK kvs)/\∀ ob,NF X d->LcR (Itd d ob kvs) tt te σ Q (upd H1 d (.frz ob (.dK kvs))):=rfl
end
theorem Y3a{d:Addr}{ob:Obj}{kvs:List (Key×V)}{tt:TT}{σ:St}{H1:Hp}{Q:VK}(p:V->Bool)(hz:kvs.length<=sizeLine)(hd:H1 d=some (.frz ob (.dK kvs)))
 (he:∀ k v H2 (R:Bool->Hp->Prop),(k,v)∈kvs->Qk H1 H2->(∀ H3,Qk H2 H3->R (p (kV k)) H3)->tt (some (kV k)::σ) H2 R)
 (hq:∀ D H2,H1 D=none->Qk H1 H2->H2 D=some (.lst ((kvs.map fun q=>kV q.1).filter p))->Q (.ref D) H2):LcR (Itd d ob kvs) tt (J9 0) σ Q H1 :=
 XXa (kvs.map fun q=>kV q.1) p (by rw[Vr];exact hz) (fun i H2 hi s=>⟨⟨s _ _ hd,by rwa [Vr]at hi⟩,fun x H' ⟨e,k,v,hkv,ex⟩=>⟨e,by rw[getElem?_map,hkv,ex];rfl⟩⟩)
  (fun H2 s=>⟨s _ _ hd,by rw[Vr];exact Ve _⟩) (fun i x H2 R hx s r=>by
   rw[getElem?_map]at hx
   cases e:kvs[i]? with
   | none=>rw[e]at hx;cases hx
   | some q =>
    rw[e]at hx;cases hx;exact he q.1 q.2 H2 R (Vm e) s r) hq
theorem Q4.u1{k:Nat}{A:Around}(r:Q4 k A):A.units+1 < cLine:=by have:=r.units;omega
def SqE(b:Bool)(K:W.Frag)(H:Hp)(a:Addr)(xs:List V):Prop:=if b=true then SqT K H a xs else SqL K H a xs
def ItE(b:Bool)(K:W.Frag)(a:Addr):It:=if b=true then Itt K a else Itl K a
theorem SqE.same{b:Bool}{K:W.Frag}{H H':Hp}{a:Addr}{xs:List V}(h:SqE b K H a xs)(s:Qk H H'):SqE b K H' a xs:=by
 cases b with
 | true=>exact Qk.seqT s h
 | false=>exact Qk.seq s h
def ZEc(K:W.Frag)(tl:TE):TI:=fun σ H R=>tl σ H fun x H1=>∃ a b,x=.ref a/\(∃ xs,SqE b K H1 a xs)/\R (ItE b K a) H1
section
variable{X:Cx}{tg:Expr}
theorem QQc{l:Expr}{tl:TE}(hl:PE X l tl):PI X tg l (ZEc X.K tl):=by
 intro pins s σ H R I h;refine thn (hl pins s σ H _ I h) fun v s1 hZ=>?_
 obtain⟨x,H1,I1,r1,q1⟩:=hZ;obtain⟨a,b,e,⟨xs,hq⟩,q⟩:=q1;subst e;cases r1;cases b with
 | false =>
  obtain⟨its,rv,p,hz⟩:=I1.list hq;refine wpAny_pyIter_list p.isList ?_
  refine⟨s1.heap.objs.size,[s1.heap.objs.size],_,_,H1,rfl,I1.kept (t':=s1.toks) fun b o e=>Vd _ e,Joa a _,⟨_,Vi _ rfl,rfl,rfl⟩,fun b hb=>?_,q⟩
  have e:b=s1.heap.objs.size:=by simpa using hb
  subst e;exact I1.fpOk (Ve _) (I1.hok.fresh (Ve _))
 | true =>
  obtain⟨its,rv,p,hz⟩:=I1.tuple hq;refine wpAny_pyIter_tuple (show s1.heap.IsTuple a its.toArray from p) ?_
  refine⟨s1.heap.objs.size,[s1.heap.objs.size],_,_,H1,rfl,I1.kept (t':=s1.toks) fun b o e=>Vd _ e,Zea a _,⟨_,Vi _ rfl,rfl,rfl⟩,fun b hb=>?_,q⟩
  have e:b=s1.heap.objs.size:=by simpa using hb
  subst e;exact I1.fpOk (Ve _) (I1.hok.fresh (Ve _))
end
theorem JQb{K:W.Frag}{tl:TE}{g:TG}{tb:TS}{D:Jb}{σ:St}{H:Hp}:YFa (ZEc K tl) g tb D σ H=tl σ H fun x H1=>∃ a b,x=.ref a/\(∃ xs,SqE b K H1 a xs)/\FoR (ItE b K a) g tb D σ H1:=rfl
theorem Xhb{b:Bool}{K:W.Frag}{a:Addr}(xs:List V){g:TG}{tb:TS}{D:Jb}{σ:St}{H:Hp}(Pv:Nat->St->Hp->Prop)(h0:Pv 0 σ H)(hl:∀ i σ H,i<=xs.length->Pv i σ H->SqE b K H a xs)
 (hs:∀ i x σ H,xs[i]?=some x->Pv i σ H->g x σ H fun σ2 H2=>tb { D with nx:=Pv (i+1),ct:=Pv (i+1),bk:=D.nx } σ2 H2) (hd:∀ σ H,Pv xs.length σ H->D.nx σ H):FoR (ItE b K a) g tb D σ H:=by
 cases b with
 | true=>exact QHb xs Pv h0 hl hs hd
 | false=>exact Jd xs Pv h0 hl hs hd
end L2
end
section
namespace PySem.W
open PySem
def JA(K:Frag)(C:Addr)(fl:List Str):Bool:=plainGet K C Str.empty && (hasDictIn K C && (plainOver K C && (findIn K (.ref C) "__setattr__" == some (some (.builtin "object.__setattr__")) && (findIn K (.ref C) "__class__" == some (some (.builtin "object.__class__")) && (mroIn K C (.type "object") == some true && fl.all fun f=>findIn K (.ref C) f == some none)))))
theorem Y4a{K:Frag}{C:Addr}{fl:List Str}(h:JA K C fl=true):L2.Cls K C/\findIn K (.ref C) "__class__"=some (some (.builtin "object.__class__"))/\mroIn K C (.type "object")=some true/\∀ f∈fl,L2.ZZ K C f:=by
 unfold JA at h;simp only[Bool.and_eq_true,beq_iff_eq,all_eq_true]at h;obtain⟨a,b,c,d,e,f,g⟩:=h;exact⟨⟨a,b,c,d⟩,e,f,g⟩
def JRb(K:Frag)(l:List Addr)(m:Nat->Nat->Bool):Bool:=(List.range l.length).all fun i=>(List.range l.length).all fun j=>kitOne K (.ref (l.getD i 0)) (.ref (l.getD j 0)) == some (m i j)
theorem QRc{K:Frag}{l:List Addr}{m:Nat->Nat->Bool}(h:JRb K l m=true):∀ i j,i < l.length->j < l.length->kitOne K (.ref (l.getD i 0)) (.ref (l.getD j 0))=some (m i j):=by
 unfold JRb at h;simp only[all_eq_true,mem_range,beq_iff_eq]at h;exact fun i j hi hj=>h i hi j hj
end PySem.W
namespace L2
open PySem PySem.Spec PyProof.Rows
structure ObC(K:W.Frag)(C:Addr)(fl:List Str):Prop where
 cl:Cls K C
 cc:W.findIn K (.ref C) "__class__"=some (some (.builtin "object.__class__"))
 mo:W.mroIn K C (.type "object")=some true
 no:∀ f∈fl,ZZ K C f
 cg:W.specialIn K (.builtin "object.__class__") "__get__"=some (some (.builtin "getset_descriptor.__get__"))
 ct:W.takesIn K (.builtin "object.__class__")=some true
theorem ObC.of{K:W.Frag}{C:Addr}{fl:List Str}(h:W.JA K C fl=true)(cg:W.specialIn K (.builtin "object.__class__") "__get__"=some (some (.builtin "getset_descriptor.__get__")))(ct:W.takesIn K (.builtin "object.__class__")=some true):ObC K C fl :=
 let ⟨a,b,c,d⟩:=W.Y4a h;⟨a,b,c,d,cg,ct⟩
def J4a(P:Program)(w:World)(K:W.Frag)(mg:Str->Option Value)(base:Heap)(k:Nat)(m:Str)(ta:TE)(t:TA):TE1:=fun σ H Q E=>ta σ H fun x H1=>∃ a C dx fs sp,x=.ref a/\H1 a=some (.ins C dx fs)/\fs.lookup m=none/\Cls K C/\MeV P w K mg base k C m sp/\t σ H1 fun vs H2=>sp (x::vs) H2 Q E
section
variable{X:Cx}{m:Str}{k:Nat}{ta:TE}{t:TA}{e o:Expr}{es:List Expr}{pos apos:Pos}{pl:Sem Bool}
theorem ZD(he:PE X.nox o ta)(hr:Q4 k X.A)(hex:X.ex=[])(ha:PA X.nox (e::es) t)
 (hst:starEach (e::es) X.env=(false,eval e X.env)::starEach es X.env:=by rfl) (hpl:(backTo pos (starEach es X.env)).any (·.1)=false:=by rfl)
 (ht:eval (.Call (.Attribute o m apos) (e::es) [] pos) X.env=(do
  let ov <- eval o X.env
  standAt apos.atName
  let (f,first) <- holding [ov] (getMethod ov m pl)
  callWith pos f first (backTo pos (starEach (e::es) X.env)) (backToKw pos (keywordEach [] X.env))):=by rfl) :
 PE1 X (.Call (.Attribute o m apos) (e::es) [] pos) (J4a X.prog X.w X.K X.mg X.base k m ta t):=by
 intro pins s σ H Q E I h;refine W.methodCall_KW (pl:=pl) (thn (QQb he I h) fun u s1 hZ=>?_) ht
 obtain⟨y,H1,I1,rx,a,C,dx,fs,sp,ex,ea,l,c,G,q⟩:=hZ;obtain⟨f,fd,ps,hm,F,hb⟩:=G;subst ex;obtain rfl:u=Value.ref a:=rx;refine Yi I1 ea c hm l ?_
 refine W.callWith_K (first:=[.ref a]) (h₀:=X.base) I.ok.mod.kin hm.kp (thn (XZa ha I1 q) fun us s2 ⟨vs,H2,I2,r,q2⟩=>⟨I2.kIn,?_⟩) hst hpl
 exact X4 (us:=.ref a::us) (vs:=.ref a::vs) F hr hb hex I2 (.cons rfl r) q2
theorem XF(he:PE X.nox o ta)(hr:Q4 k X.A)(hex:X.ex=[])
 (ht:eval (.Call (.Attribute o m apos) [] [] pos) X.env=(do
  let ov <- eval o X.env
  standAt apos.atName
  let (f,first) <- holding [ov] (getMethod ov m pl)
  callWith pos f first (backTo pos (starEach [] X.env)) (backToKw pos (keywordEach [] X.env))):=by rfl) :
 PE1 X (.Call (.Attribute o m apos) [] [] pos) (J4a X.prog X.w X.K X.mg X.base k m ta YHa):=by
 intro pins s σ H Q E I h;refine W.methodCall_KW (pl:=pl) (thn (QQb he I h) fun u s1 hZ=>?_) ht
 obtain⟨y,H1,I1,rx,a,C,dx,fs,sp,ex,ea,l,c,G,q⟩:=hZ;obtain⟨f,fd,ps,hm,F,hb⟩:=G;subst ex;obtain rfl:u=Value.ref a:=rx;refine Yi I1 ea c hm l ?_
 exact W.callWith_K0 (first:=[.ref a]) I1.kIn hm.kp (X4 (us:=[.ref a]) (vs:=[.ref a]) F hr hb hex I1 (.cons rfl .nil) q)
theorem JSb{j:Nat}{x:Str}{C:Addr}{sp:Sp}{p:Pos}(G:MkV X.prog X.w X.K X.mg X.base j x C sp)(hr:Q4 k X.A)(hj:j+1<=k)(hg:Gl X x)(hdb:(x == ("__debug__":Str))=false:=by decide):PE X (.Call (.Name x p) [] [] pos) (Qvb C sp [] E0 YHa):=by
 obtain⟨f,fd,ps,M,F,b,hm⟩:=G;exact Z9b M F (hr.mono hj) hg hm b .nil QAb hdb
end
theorem JX{x y:V}:[x,y].length<=sizeLine:=show 2<=sizeLine by decide
theorem QSc{J:It}{tt:TT}{te:TE}{σ:St}{H1:Hp}{Q:VK}(xs:List V)(p:V->Bool)(f:V->V)(hz:xs.length<=sizeLine)
 (hgo:∀ i H2,i < xs.length->Qk H1 H2->J.go i H2/\∀ x H',J.yld i H2 x H'->H'=H2/\xs[i]?=some x) (hst:∀ H2,Qk H1 H2->J.stop xs.length H2)
 (ht:∀ (i:Nat) x H2 (R:Bool->Hp->Prop),xs[i]?=some x->Qk H1 H2->R (p x) H2->tt (some x::σ) H2 R)
 (he:∀ (i:Nat) x H2 (R:VK),xs[i]?=some x->p x=true->Qk H1 H2->R (f x) H2->te (some x::σ) H2 R)
 (hq:∀ D H2,H1 D=none->Qk H1 H2->H2 D=some (.lst ((xs.filter p).map f))->Q (.ref D) H2):LcR J tt te σ Q H1:=by
 intro D hD;refine⟨fun i m ys H2=>m=xs.length - i/\i<=xs.length/\ys=((xs.take i).filter p).map f/\H2 D=some (.lst ys)/\Qk H1 H2,⟨_,rfl,Vk _,by simp,Qa,Qg hD _⟩,?_⟩
 rintro i m ys H2 ⟨rfl,hi,hy,hd,sm⟩;refine⟨hd,?_⟩
 by_cases hlt:i < xs.length
 ·obtain⟨go,yl⟩:=hgo i H2 hlt sm
  have hl:ys.length<=i:=by
   rw[hy,Vr];exact Vj (length_filter_le _ _) (by rw[length_take];omega)
  refine .inr ⟨go,by omega,fun x H' y=>?_⟩
  obtain⟨e,hx⟩:=yl x H' y;subst e;have hn:((xs.take (i+1)).filter p).map f=if p x=true then ys++[f x] else ys:=by
   rw[take_succ,hx,filter_append,map_append,<- hy];cases hp:p x <;> simp[hp]
  refine ht i x _ _ hx sm ?_
  cases hp:p x with
  | true =>
   rw[if_pos rfl];refine he i x _ _ hx hp sm ⟨hd,xs.length - (i+1),by omega,rfl,hlt,?_,Qa,sm.updL hD _⟩
   rw[hn,hp,if_pos rfl]
  | false =>
   rw[if_neg Vf];refine⟨xs.length - (i+1),by omega,rfl,hlt,?_,hd,sm⟩
   rw[hn,hp,if_neg Vf]
 ·have e:i=xs.length:=by omega
  subst e;rw[take_length]at hy;exact .inl ⟨hst H2 sm,hq D H2 hD sm (by rw[hd,hy])⟩
theorem Xib{K:W.Frag}{a:Addr}{tt:TT}{te:TE}{σ:St}{H1:Hp}{Q:VK}(xs:List V)(p:V->Bool)(f:V->V)(hx:SqT K H1 a xs)(hz:xs.length<=sizeLine)
 (ht:∀ (i:Nat) x H2 (R:Bool->Hp->Prop),xs[i]?=some x->Qk H1 H2->R (p x) H2->tt (some x::σ) H2 R)
 (he:∀ (i:Nat) x H2 (R:VK),xs[i]?=some x->p x=true->Qk H1 H2->R (f x) H2->te (some x::σ) H2 R)
 (hq:∀ D H2,H1 D=none->Qk H1 H2->H2 D=some (.lst ((xs.filter p).map f))->Q (.ref D) H2):LcR (Itt K a) tt te σ Q H1 :=
 QSc xs p f hz (fun i H2 hi s=>⟨⟨xs,xs[i],s.seqT hx,by simp[hi]⟩,fun x H' y=>⟨y.1,y.2 xs (s.seqT hx)⟩⟩) (fun H2 s=>⟨xs,s.seqT hx,Ve _⟩) ht he hq
def JTb(H:Hp):V->V
 | .ref a=>match H a with | some (.tup [_,w])=>w | _=>.non
 | _=>.non
theorem Y5a{H:Hp}{a:Addr}{k w:V}(h:H a=some (.tup [k,w])):JTb H (.ref a)=w:=by
 show(match H a with | some (.tup [_,w])=>w | _=>.non)=w
 rw[h]
theorem Z1{K:W.Frag}{C a dx:Addr}{fl:List Str}{f:Str}{fs:List (Str×V)}{v:V}{i:Nat}{σ:St}{H:Hp}{Q:VK}(c:ObC K C fl)(hf:f∈fl)(hs:σ[i]?=some (some (.ref a)))(ha:H a=some (.ins C dx fs))(hv:fs.lookup f=some v)(q:Q v H):YUb K (J9 i) f σ H Q :=
 QZa hs ⟨a,C,dx,fs,v,rfl,ha,c.cl,c.no f hf,hv,q⟩
theorem J5a{K:W.Frag}{C a dx:Addr}{fl:List Str}{f:Str}{fs:List (Str×V)}{i:Nat}{σ:St}{H H1:Hp}{tv:TE}{D:Jb}{y:V}(c:ObC K C fl)(hf:f∈fl)(hs:σ[i]?=some (some (.ref a)))(hv:∀ Q:VK,Q y H1->tv σ H Q)(ha:H1 a=some (.ins C dx fs))(l:fs.length < 1000)(q:D.nx σ (upd H1 a (.ins C dx (Zr f y fs)))):Zkc K (J9 i) tv f D σ H :=
 hv _ (QZa hs ⟨a,C,dx,fs,rfl,ha,c.cl,c.no f hf,l,q⟩)
theorem Y6a{H:Hp}{a b:Addr}{x y:HO}(h:a≠b):upd (upd H a x) b y=upd (upd H b y) a x:=by
 funext c
 by_cases h1:c=b
 ·subst h1;rw[Qa,Qd (Ne.symm h),Qa]
 ·by_cases h2:c=a
  ·subst h2;rw[Qa,Qd h1,Qa]
  ·rw[Qd h1,Qd h2,Qd h2,Qd h1]
def HE(b:Bool)(H:Hp)(e:Addr)(xs:List V):Prop:=H e=some (if b=true then .tup xs else .lst xs)
theorem HE.upd_ins{b:Bool}{H:Hp}{a e C dx:Addr}{o:HO}{fs:List (Str×V)}{xs:List V}(h:HE b H e xs)(ha:H a=some (.ins C dx fs)):HE b (upd H a o) e xs:=by
 have ne:e≠a:=fun z=>by
  unfold HE at h;rw[z,ha]at h;cases b <;> cases h
 unfold HE;rw[Qd ne];exact h
theorem HE.same{b:Bool}{H H':Hp}{e:Addr}{xs:List V}(h:HE b H e xs)(s:Qk H H'):HE b H' e xs:=s _ _ h
section
variable{P:Program}{w:World}{K:W.Frag}{mg:Str->Option Value}{base:Heap}{k i:Nat}{C D a dx:Addr}{m:Str}{sp:Sp}{fs:List (Str×V)}{fl:List Str}{σ:St}{H:Hp}{Q:VK}{E:XK}{t:TA}{b:Bool}
theorem Qpa(hs:σ[i]?=some (some (.ref a)))(ha:H a=some (.ins C dx fs))(l:fs.lookup m=none)(c:Cls K C)(M:MeV P w K mg base k C m sp)(q:sp [.ref a] H Q E):J4a P w K mg base k m (J9 i) YHa σ H Q E:=QZa hs ⟨a,C,dx,fs,sp,rfl,ha,l,c,M,q⟩
theorem Jf(hs:σ[i]?=some (some (.ref a)))(ha:H a=some (.ins C dx fs))(l:fs.lookup m=none)(c:Cls K C)(M:MeV P w K mg base k C m sp)(q:t σ H fun vs H2=>sp (.ref a::vs) H2 Q E):J4a P w K mg base k m (J9 i) t σ H Q E:=QZa hs ⟨a,C,dx,fs,sp,rfl,ha,l,c,M,q⟩
theorem Yq{n:Nat}{d:Dt}{x y:V}{neg:Bool}(hn:n<=60)(rx:Rep K H n d x)(ry:Rep K H n d y)(q:Q (.bl (!neg)) H):rD K neg x y H Q:=⟨n,d,d,hn,rx,ry,by
 rw[Rep.self rx];cases neg <;> exact q⟩
end
theorem X6{H H':Hp}{x dx:Addr}{o u:HO}(hx:H x=none)(hdx:H dx=none)(s:Qk (upd (upd H dx u) x o) H'):Qk H H':=fun b v hb=>s _ _ (by rw[Qd (Qq hb hx),Qd (Qq hb hdx)];exact hb)
theorem Q6{H H':Hp}{d:Addr}{o:HO}(s:Qk H H')(n:H d=none):Qk H (upd H' d o):=fun b u hb=>by
 rw[Qd (Qq hb n)];exact s b u hb
section
variable{X:Cx}{tg:Expr}
end
end L2
end
section
namespace L2
open PySem PySem.Spec PyProof.Rows PySem.W
section
variable{X:Cx}{pins:YP_}{σ:St}{H:Hp}{s:Shared}{A:Around}{E:YQ_}
end
section
variable{prog:Program}{w:World}{A:Around}{E:YQ_}{s:Shared}{T:String}{r d:Addr}{n:Nat}{P:Nat->Value->Prop}{OK:Heap->Prop}
end
section
variable{prog:Program}{w:World}{A:Around}{E:YQ_}{s:Shared}
end
section
variable{prog:Program}{w:World}{K:Type}[DecidableEq K]{knd:KeyKind prog w K}{A:Around}{E:YQ_}{s:Shared}
end
theorem Xjb{k:Key}{u:Value}(h:Qr (kV k) u):Xo k u=true/\u.scannable=true:=by
 cases k with
 | inl n=>obtain⟨t,rfl⟩:=h;exact⟨by simp[Xo,Value.isInt],rfl⟩
 | inr z=>obtain⟨t,rfl⟩:=h;exact⟨by simp[Xo,Value.isStrOf],rfl⟩
section
variable{X:Cx}{e:Expr}{te:TE}{p pos p2 pos2:Pos}{pins:YP_}{σ:St}{H:Hp}{s:Shared}
end
section
variable{X:Cx}
theorem JUb{A:Around}{prog:Program}{w:World}{s:Shared}{E:YQ_}{l b:Addr}{items items2:Array Value}{n n2:Nat}{o2:Obj}{Q:Fin->Shared->Prop}(e:s.heap.get? l=some { cls:=.type "list",data:=.seq items n })(e2:s.heap.get? b=some o2)
 (hc:o2.cls=.type "list"\/o2.cls=.type "tuple") (hd:o2.data=.seq items2 n2) (hsz:items.size+items2.size<=sizeLine) (h:Q (.done (.ret .none)) { s with heap:=s.heap.update l (Obj.mapSeq fun x=>x++items2) }) :
 wpAny (model prog w) A (Builtin.«list.extend» ⟨[.ref l,.ref b],[]⟩) Q E s:=by
 have hlong:¬ (!items.isEmpty && Builtin.List.listTooLong (items.size+items2.size))=true:=by
  rw[Jcb hsz,Bool.and_false];exact Vf
 show wpAny _ _ (Builtin.List.listExtendWith (.ref l) (.ref b) .none) _ _ s;unfold Builtin.List.listExtendWith
 rcases hc with hc | hc
 all_goals
  refine Va (wpAny_typeOf ⟨o2,e2,hc⟩ ?_)
  rw[if_pos (by simp)]
  refine Va (listItems_at e2 hd ?_)
  refine Va (listItems_at e rfl ?_)
  rw[if_neg hlong];refine Va (listUpdate_at e rfl ?_ (by omega) (by rw[Array.size_append];omega))
  exact Vg h
def Y7a(K:W.Frag):V->List V->Hp->VK->Prop:=fun x vs H Q=>∃ l b xs zs,x=.ref l/\vs=[.ref b]/\H l=some (.lst xs)/\(SqL K H b zs\/SqT K H b zs)/\xs.length+zs.length<=sizeLine/\Q .non (upd H l (.lst (xs++zs)))
theorem XG:MtM X "list.extend" (Y7a X.K):=by
 intro pins s σ H x vs v us Q I rx rv h;obtain⟨l,b,xs,zs,rfl,rfl,hH,hB,hz,q⟩:=h;cases rx;obtain⟨u,rfl,ru⟩:=rv.one;cases ru;obtain⟨z,its,n,r,hl,e⟩:=I.lstM hH;obtain⟨its2,r2,o2,n2,e2,c2,d2⟩:∃ its2,Qv zs its2/\∃ o2 n2,s.heap.get? b=some o2/\(o2.cls=.type "list"\/o2.cls=.type "tuple")/\o2.data=.seq its2.toArray n2:=by
  rcases hB with hB | hB
  ·obtain⟨its2,r2,p,_⟩:=I.list hB
   obtain⟨o,n2,eo,c,d,_⟩:=p;exact⟨its2,r2,o,n2,eo,.inl c,by first | exact d | assumption⟩
  ·obtain⟨its2,r2,⟨o,eo,c,n2,d⟩,_⟩:=I.tuple hB
   exact⟨its2,r2,o,n2,eo,.inr c,d⟩
 have hl2:=r2.length;refine wpAny_call (codeAny_call_builtin F.slot_list_extend.plain F.entry_list_extend (F.slot_list_extend.check _ _ _ _ _ _ _ _ ⟨_,e,rfl⟩ (F.args_list_extend_2 _ _) ?_))
 refine JUb e e2 c2 d2 (by rw[Vn,Vn];omega) ?_
 refine⟨.non,_,I.lset (its':=its++its2) hH e (by simp) (r.append r2) ?_,rfl,q⟩
 rw[Vs]
 omega
end
section
variable{X:Cx}{c:Expr}{a b:Stmt}{tc:TT}{ta tb:TS1}{pos:Pos}
end
end L2
end
section
namespace L2
open PySem PySem.Spec PyProof.Rows
section
variable{X:Cx}{st b₀:Stmt}{suite:List Stmt}{t1:TS1}{ts:TS}{x n:Str}{D₀ CT:Addr}{np hpos pos:Pos}{i:Nat}
end
section
variable{X:Cx}{ea:Addr}{qs:YP_}
end
end L2
end
section
namespace PySem.W
open PySem
def clI(K:Frag)(C f:Addr):Bool:=(match findCls K (.ref C) (.type "type") "__init__" with | some (.val v)=>v == .ref f | _=>false) && (specialIn K (.ref C) "__getattribute__" == some (some (.builtin "type.__getattribute__")) && readsIn K C (.type "type"))
end PySem.W
namespace L2
open PySem PySem.Spec PyProof.Rows
structure ClI(K:W.Frag)(C f:Addr):Prop where
 sp:W.specialIn K (.ref C) "__getattribute__"=some (some (.builtin "type.__getattribute__"))
 rd:W.readsIn K C (.type "type")=true
 ini:W.findCls K (.ref C) (.type "type") "__init__"=some (.val (.ref f))
theorem ClI.of{K:W.Frag}{C f:Addr}(h:W.clI K C f=true):ClI K C f:=by
 unfold W.clI at h;rw[Bool.and_eq_true,Bool.and_eq_true]at h;obtain⟨a,b,c⟩:=h;refine⟨beq_iff_eq.mp b,c,?_⟩
 split at a
 ·rename_i v e
  rw[e,beq_iff_eq.mp a]
 ·exact(Vf a).elim
def BaI(P:Program)(w:World)(K:W.Frag)(mg:Str->Option Value)(base:Heap)(k:Nat)(x:Str)(sp:Sp):Prop :=
 ∃ C f fd ps,mg x=some (.ref C)/\ClI K C f/\W.keepIn K (.ref f)=true/\QD P w K mg base CX0 k f fd ps sp/\ZJ K fd ps []
section
variable{X:Cx}{x:Str}{sp:Sp}{e:Expr}{es:List Expr}{t:TA}{p pos apos:Pos}{pl:Sem Bool}{j k:Nat}
theorem JDa(G:BaI X.prog X.w X.K X.mg X.base j x sp)(hr:Q4 k X.A)(hj:j<=k)(hg:Gl X x)(ha:PA X (e::es) t)(hdb:(x == ("__debug__":Str))=false:=by decide)
 (he:starEach (e::es) X.env=(false,eval e X.env)::starEach es X.env:=by rfl) (hpl:(backTo pos (starEach es X.env)).any (·.1)=false:=by rfl)
 (ht:eval (.Call (.Attribute (.Name x p) "__init__" apos) (e::es) [] pos) X.env=(do
  let ov <- eval (.Name x p) X.env
  standAt apos.atName
  let (f,first) <- holding [ov] (getMethod ov "__init__" pl)
  callWith pos f first (backTo pos (starEach (e::es) X.env)) (backToKw pos (keywordEach [] X.env))):=by rfl) :
 PE X (.Call (.Attribute (.Name x p) "__init__" apos) (e::es) [] pos) (Qub sp [] E0 t):=by
 obtain⟨C,f,fd,ps,hm,T,kp,F,b⟩:=G;intro pins s σ H Q I h;refine W.methodCall_KW (pl:=pl) (JM I hg hm ?_ hdb) ht
 refine W.method_cls I.kIn T.sp (W.cls_value I.kIn T.rd T.ini rfl ?_)
 refine W.callWith_K (first:=[]) (h₀:=X.base) I.ok.mod.kin kp (thn (ha pos pins _ σ H _ (I.tok _) h) fun us s1 ⟨vs,H1,I1,r,q⟩=>⟨I1.kIn,?_⟩) he hpl
 rw[nil_append];exact Z8b F (hr.mono hj) b .nil QAb I1 r q
end
noncomputable instance:DecidableEq Dt:=fun a b=>Classical.propDecidable (a=b)
def hV:V->Bool
 | .int _=>true
 | .str _=>true
 | .non=>true
 | _=>false
mutual
def hD:Dt->Bool
 | .v x=>hV x
 | .t xs=>hDs xs
 | .l _=>false
def hDs:List Dt->Bool
 | []=>true
 | x::xs=>hD x && hDs xs
end
theorem QTb:∀ {xs:List Dt},hDs xs=true->∀ x∈xs,hD x=true
 | [],_,x,h=>nomatch h
 | y::ys,h,x,hx=>by
  unfold hDs at h;rw[Bool.and_eq_true]at h
  rcases mem_cons.mp hx with e | hx
  ·rw[e];exact h.1
  ·exact QTb h.2 x hx
theorem J6a:∀ {xs:List Dt},(∀ x∈xs,hD x=true)->hDs xs=true
 | [],_=>by unfold hDs;rfl
 | y::ys,h=>by
  unfold hDs;rw[h y mem_cons_self,J6a fun x hx=>h x (Vo _ hx)];rfl
mutual
def haD(w:World):Dt->Int
 | .v (.int i)=>hashInt i
 | .v (.str x)=>hashStr w x
 | .v _=>reduceHash 0xFCA86420
 | .t xs=>reduceHash (Builtin.Tuple.tupleHashOf (J7a w xs))
 | .l _=>0
def J7a(w:World):List Dt->List Int
 | []=>[]
 | x::xs=>haD w x::J7a w xs
end
mutual
def drD:Dt->Nat
 | .v _=>1
 | .t xs=>XH xs+1
 | .l _=>0
def XH:List Dt->Nat
 | []=>0
 | x::xs=>drD x+XH xs
end
theorem Qqa(w:World)(y:Dt):∀ xs,J7a w (xs++[y])=J7a w xs++[haD w y]
 | []=>by simp[J7a]
 | x::xs=>by rw[cons_append];unfold J7a;rw[Qqa w y xs];rfl
theorem Qra(y:Dt):∀ xs,XH (xs++[y])=XH xs+drD y
 | []=>by simp[XH]
 | x::xs=>by
  rw[cons_append];have h1:XH (x::(xs++[y]))=drD x+XH (xs++[y]):=by rw[XH]
  have h2:XH (x::xs)=drD x+XH xs:=by rw[XH]
  rw[h1,h2,Qra y xs];omega
def JB(h:Heap):Nat->Dt->Value->Prop
 | 0,.v x,u=>hV x=true/\Qr x u
 | 0,.t _,_=>False
 | 0,.l _,_=>False
 | _+1,.v x,u=>hV x=true/\Qr x u
 | n+1,.t ds,u=>∃ (a:Addr) (its:List Value),u=.ref a/\IsTup h a its.toArray/\Paired (fun d v=>JB h n d v) ds its
 | _+1,.l _,_=>False
theorem JB.flat{h:Heap}{n:Nat}{x:V}{u:Value}:JB h n (.v x) u->hV x=true/\Qr x u:=by
 cases n <;> exact id
theorem JB.tup{h:Heap}{n:Nat}{ds:List Dt}{u:Value}(q:JB h n (.t ds) u):∃ m a its,n=m+1/\u=.ref a/\IsTup h a (List.toArray its)/\Paired (fun d v=>JB h m d v) ds its:=by
 cases n with
 | zero=>exact q.elim
 | succ m=>obtain⟨a,its,e,p,r⟩:=q;exact⟨m,a,its,rfl,e,p,r⟩
theorem Y8a{x y:V}{u:Value}(hx:hV x=true)(hy:hV y=true)(r:Qr x u)(q:Qr y u):x=y:=by
 cases x <;> first | exact(Vf hx).elim | skip
 all_goals (cases y <;> first | exact(Vf hy).elim | skip)
 all_goals simp only[Qr]at r q
 all_goals first
  | rfl
  | (obtain⟨t,rfl⟩:=r;obtain⟨t',e⟩:=q;cases e;rfl)
  | (obtain⟨t,rfl⟩:=r;obtain⟨t',e⟩:=q;cases e)
  | (obtain⟨t,rfl⟩:=r;cases q)
  | (subst r;obtain⟨t',e⟩:=q;cases e)
theorem ZBa{x:V}{a:Addr}(hx:hV x=true)(r:Qr x (.ref a)):False:=by
 cases x <;> first | exact(Vf hx).elim | skip
 ·cases (show Value.ref a=Value.none from r)
 ·obtain⟨t,e⟩:=r;cases e
 ·obtain⟨t,e⟩:=r;cases e
theorem ZCb{h:Heap}{a:Addr}{xs ys:List Value}(p:IsTup h a xs.toArray)(q:IsTup h a ys.toArray):xs=ys:=by
 obtain⟨o,ho,_,n,hd⟩:=p;obtain⟨o',ho',_,n',hd'⟩:=q;rw[ho]at ho';cases ho';rw[hd]at hd';injection hd' with e _
 injection e
theorem ZCa{α β:Type}{F G:α->β->Prop}(det:∀ a b u,F a u->G b u->a=b):∀ {xs ys:List α} {us:List β},Paired F xs us->Paired G ys us->xs=ys
 | _,_,_,.nil,.nil=>rfl
 | _,_,_,.cons r t,.cons r' t'=>by rw[det _ _ _ r r',ZCa det t t']
theorem JB.inj{h:Heap}:∀ (n m:Nat) (x y:Dt) (u:Value),JB h n x u->JB h m y u->x=y:=by
 intro n
 induction n with
 | zero =>
  intro m x y u p q;cases x with
  | v x =>
   cases y with
   | v y=>obtain⟨a,b⟩:=p;obtain⟨c,d⟩:=q.flat;rw[Y8a a c b d]
   | t ds=>obtain⟨m,a,its,_,rfl,_⟩:=q.tup;exact(ZBa p.1 p.2).elim
   | l _=>cases m <;> exact q.elim
  | t _=>exact p.elim
  | l _=>exact p.elim
 | succ n ih =>
  intro m x y u p q;cases x with
  | v x =>
   cases y with
   | v y=>obtain⟨a,b⟩:=p;obtain⟨c,d⟩:=q.flat;rw[Y8a a c b d]
   | t ds=>obtain⟨m,a,its,_,rfl,_⟩:=q.tup;exact(ZBa p.1 p.2).elim
   | l _=>cases m <;> exact q.elim
  | t ds =>
   obtain⟨a,its,rfl,p1,r⟩:=p;cases y with
   | v y=>obtain⟨c,d⟩:=q.flat;exact(ZBa c d).elim
   | t es =>
    obtain⟨m',a',its',_,e,p2,r2⟩:=q.tup;cases e;have:=ZCb p1 p2;subst this;rw[ZCa (fun a b u h1 h2=>ih m' a b u h1 h2) r r2]
   | l _=>cases m <;> exact q.elim
  | l _=>exact p.elim
theorem JB.keeps{h h':Heap}{e:Addr}{o:Obj}{es ep}(ho:h.get? e=some o)(hd:o.data=.dict es ep)(hs:Heap.SameBut e h h'):∀ (n:Nat) (d:Dt) (u:Value),JB h n d u->JB h' n d u:=by
 intro n
 induction n with
 | zero=>intro d u q;cases d <;> exact q
 | succ n ih =>
  intro d u q;cases d with
  | v x=>exact q
  | l x=>exact q
  | t ds =>
   obtain⟨a,its,rfl,⟨o',ho',hc,m,hd'⟩,r⟩:=q;have hne:a≠e:=by
    intro z;subst z;rw[ho]at ho';cases ho';rw[hd]at hd';exact nomatch hd'
   exact⟨a,its,rfl,⟨o',(hs.2 a hne).trans ho',hc,m,hd'⟩,Paired.mapP r fun d v z=>ih d v z⟩
section
variable{prog:Program}{w:World}{E:YQ_}
theorem JVb{A:Around}{s:Shared}{x:V}{u:Value}{Q:Int->Shared->Prop}(f:hV x=true)(r:Qr x u)(h:Q (haD w (.v x)) { s with toks:=s.toks+drD (.v x) }):wpAny (model prog w) A (pyHash u) Q E s:=by
 have e1:drD (.v x)=1:=by rw[drD]
 rw[e1]at h;cases x <;> first | exact(Vf f).elim | skip
 ·cases (show u=Value.none from r)
  rw[haD]at h;exact W.pyHash_slot (T:="NoneType") rfl F.slot_NoneType_hash F.entry_NoneType_hash (F.args_NoneType_hash_1 _) (beq_builtin_none _) (.inl rfl) (Va (Vg (Va (wpAny_mkInt (Vg ⟨_,_,rfl,h⟩)))))
  all_goals (intros;rename_i z;cases z)
 ·obtain⟨t,rfl⟩:=r
  rw[haD]at h;exact wpAny_pyHash_int h
 ·obtain⟨t,rfl⟩:=r
  rw[haD]at h;exact wpAny_pyHash_str h
theorem QTc:∀ (n:Nat) {A:Around} {s:Shared} {d:Dt} {u:Value} {Q:Int->Shared->Prop},A.units+n < cLine->JB s.heap n d u->Q (haD w d) { s with toks:=s.toks+drD d }->wpAny (model prog w) A (pyHash u) Q E s:=by
 intro n
 induction n with
 | zero =>
  intro A s d u Q hu x h;cases d with
  | v x'=>exact JVb x.1 x.2 h
  | t _=>exact x.elim
  | l _=>exact x.elim
 | succ n ih =>
  intro A s d u Q hu x h;cases d with
  | v x'=>exact JVb x.1 x.2 h
  | l _=>exact x.elim
  | t ds =>
   obtain⟨a,its,rfl,⟨o,ho,hc,m,hd⟩,r⟩:=x;refine W.pyHash_slot (T:="tuple") ⟨o,ho,hc⟩ F.slot_tuple_hash F.entry_tuple_hash (F.args_tuple_hash_1 _) (beq_builtin_none _) (.inr (by omega)) ?_
   show wpAny _ _ (Builtin.Tuple.tupleItemsOf (.ref a) >>= _) _ _ s;refine Va (wpAny_tupleItemsOf ho hd ?_)
   refine Va ?_
   rw[<- Array.forIn_toList];refine wpAny_forIn_list _
    (fun rest (b:Array Int) s'=>∃ done left,ds=done++left/\Paired (fun d v=>JB s.heap n d v) left rest/\b.toList=J7a w done/\s'={ s with toks:=s.toks+XH done })
    _ ?_ ?_ _ _ ⟨[],ds,rfl,by simpa using r,by simp[J7a],by simp[XH]⟩
   ·rintro x rest b s' ⟨done,left,rfl,hl,hb,rfl⟩
    cases hl with
    | @cons k _ ks' _ h1 hl' =>
     refine Va (ih (s:={ s with toks:=s.toks+XH done }) (by show A.units+1+n < _;omega) h1 ?_)
     first
      | exact Vg ⟨done++[k],ks',by simp,hl',by simp[hb,Qqa],by simp[Qra,Nat.add_assoc]⟩
      | exact Va (Vg (Vg ⟨done++[k],ks',by simp,hl',by simp[hb,Qqa],by simp[Qra,Nat.add_assoc]⟩))
   ·rintro b s' ⟨done,left,rfl,hl,hb,rfl⟩
    cases hl;rw[append_nil]at h;show wpAny _ _ (retInt (Builtin.Tuple.tupleHashOf b.toList)) _ _ _;rw[hb];refine Va (wpAny_mkInt (Vg ⟨_,_,rfl,?_⟩))
    have e1:haD w (.t done)=reduceHash (Builtin.Tuple.tupleHashOf (J7a w done)):=by rw[haD]
    have e2:drD (.t done)=XH done+1:=by rw[drD]
    rw[e1,e2]at h;exact h
end
theorem JWb{x y:V}(hx:hV x=true)(hy:hV y=true):eqV x y=decide (Dt.v x=Dt.v y):=by
 have:eqV x y=decide (x=y):=by
  cases x <;> first | exact(Vf hx).elim | skip
  all_goals (cases y <;> first | exact(Vf hy).elim | skip)
  all_goals first | (simp[eqV];done) | (rw[eqV,Bool.eq_iff_iff,beq_iff_eq,decide_eq_true_iff];exact⟨fun e=>by rw[e],fun e=>by injection e⟩)
 rw[this,Bool.eq_iff_iff,decide_eq_true_iff,decide_eq_true_iff];exact⟨fun e=>by rw[e],fun e=>by injection e⟩
theorem Q6a{x:V}(h:hV x=true):Xq x=true:=by
 cases x <;> first | rfl | exact(Vf h).elim
theorem JXb{ds es:List Dt}{e:Nat->Bool}(he:∀ i,i < ds.length->i < es.length->e i=decide (ds.getD i default=es.getD i default)):((List.range (min ds.length es.length)).all e && (ds.length == es.length))=decide (Dt.t ds=Dt.t es):=by
 rw[Bool.eq_iff_iff,decide_eq_true_iff,Bool.and_eq_true,beq_iff_eq,all_eq_true]
 constructor
 ·rintro⟨h1,h2⟩
  congr 1
  refine ext_getElem h2 fun i a b=>?_
  have:=h1 i (mem_range.mpr (by omega))
  rw[he i a b,decide_eq_true_iff]at this;rw[JP (Vb a),JP (Vb b)]at this
  exact this
 ·intro h
  injection h with h
  subst h;refine⟨fun i hi=>?_,rfl⟩
  have:=mem_range.mp hi;rw[he i (by omega) (by omega),decide_eq_true_iff]
theorem Qn{α β:Type}{F:α->β->Prop}:∀ {xs:List α} {us:List β} {i:Nat} {x:α} {u:β},Paired F xs us->xs[i]?=some x->us[i]?=some u->F x u
 | _,_,_,_,_,.nil,h,_=>by simp at h
 | _,_,0,_,_,.cons r _,h,h'=>by simp at h h';rw[<- h,<- h'];exact r
 | _,_,i+1,_,_,.cons _ t,h,h'=>Qn (i:=i) t (by simpa using h) (by simpa using h')
theorem ZTc:∀ (n:Nat) {A:Around} {s:Shared} {d d':Dt} {u v:Value},A.units+n < cLine->JB s.heap n d u->JB s.heap n d' v->SeqAt.EqAt A s u v (decide (d=d')):=by
 intro n;have flat:∀ {A:Around} {s:Shared} {x y:V} {u v:Value},hV x=true->Qr x u->hV y=true->Qr y v->SeqAt.EqAt A s u v (decide (Dt.v x=Dt.v y)):=fun f r f' r'=>by
  rw[<- JWb f f'];exact XNa r r' (Q6a f) (Q6a f')
 induction n with
 | zero =>
  intro A s d d' u v hu p q;cases d with
  | v x =>
   cases d' with
   | v y=>exact flat p.1 p.2 q.1 q.2
   | t _=>exact q.elim
   | l _=>exact q.elim
  | t _=>exact p.elim
  | l _=>exact p.elim
 | succ n ih =>
  intro A s d d' u v hu p q;have hu0:A.units < cLine:=by omega
  cases d with
  | l _=>exact p.elim
  | v x =>
   cases d' with
   | l _=>exact q.elim
   | v y=>exact flat p.1 p.2 q.1 q.2
   | t es =>
    obtain⟨b,its',rfl,p2,r2⟩:=q;obtain⟨f,r⟩:=p;rw[show decide (Dt.v x=Dt.t es)=false from decide_eq_false (fun z=>nomatch z)]
    cases x <;> first | exact(Vf f).elim | skip
    ·cases (show u=Value.none from r);exact .none_tuple p2 hu0
    ·obtain⟨t,rfl⟩:=r;exact .int_tuple _ _ p2 hu0
    ·obtain⟨t,rfl⟩:=r;exact .str_tuple _ _ p2 hu0
  | t ds =>
   obtain⟨a,its,rfl,p1,r1⟩:=id p;cases d' with
   | l _=>exact q.elim
   | v y =>
    obtain⟨f,r⟩:=q;rw[show decide (Dt.t ds=Dt.v y)=false from decide_eq_false (fun z=>nomatch z)]
    cases y <;> first | exact(Vf f).elim | skip
    ·cases (show v=Value.none from r);exact .tuple_none p1 hu0
    ·obtain⟨t,rfl⟩:=r;exact .tuple_int _ _ p1 hu0
    ·obtain⟨t,rfl⟩:=r;exact .tuple_str _ _ p1 hu0
   | t es =>
    obtain⟨b,its',rfl,p2,r2⟩:=id q
    by_cases ab:a=b
    ·subst ab
     rw[show decide (Dt.t ds=Dt.t es)=true from decide_eq_true (JB.inj _ _ _ _ _ p q)]
     exact .same _
    ·have l1:=Paired.length r1
     have l2:=Paired.length r2;have z:=SeqAt.RcAt.tuples (A:=A) (e:=fun i=>decide (ds.getD i default=es.getD i default)) p1 p2 hu0 fun j h1 h2=>by
      have j1:j < its.length:=by simpa using h1
      have j2:j < its'.length:=by simpa using h2
      have g1:ds[j]?=some (ds[j]'(by omega)):=Vb _
      have g2:es[j]?=some (es[j]'(by omega)):=Vb _
      have w1:=Qn r1 g1 (Vb j1)
      have w2:=Qn r2 g2 (Vb j2)
      rw[JP g1,JP g2];exact ih (A:=A.in1) (by show A.units+1+n < _;omega) w1 w2
     rw[Vn,Vn,<- l1,<- l2,JXb fun i _ _=>rfl]at z
     exact .of_refs ab z
section
variable{prog:Program}{w:World}{E:YQ_}
theorem QUb{A:Around}{s:Shared}{x:V}{u:Value}{m:Nat}{Q:Bool->Shared->Prop}(f:hV x=true)(r:Qr x u)(h:Q true s):wpAny (model prog w) A (eqIsQuiet m u) Q E s:=by
 have:carriedByValue u=true:=by
  cases x <;> first | exact(Vf f).elim | skip
  ·cases (show u=Value.none from r);rfl
  ·obtain⟨t,rfl⟩:=r;rfl
  ·obtain⟨t,rfl⟩:=r;rfl
 rw[eqIsQuiet_byValue _ this];exact Vg h
theorem Xkb:∀ (n m:Nat) {A:Around} {s:Shared} {d:Dt} {u:Value} {Q:Bool->Shared->Prop},n<=m->JB s.heap n d u->Q true s->wpAny (model prog w) A (eqIsQuiet m u) Q E s:=by
 intro n
 induction n with
 | zero =>
  intro m A s d u Q _ p h;cases d with
  | v x=>exact QUb p.1 p.2 h
  | t _=>exact p.elim
  | l _=>exact p.elim
 | succ n ih =>
  intro m A s d u Q hm p h;cases d with
  | v x=>exact QUb p.1 p.2 h
  | l _=>exact p.elim
  | t ds =>
   obtain⟨k,rfl⟩:∃ k,m=k+1:=⟨m - 1,by omega⟩
   obtain⟨a,its,rfl,⟨o,ho,hc,j,hd⟩,r⟩:=p;have hT:s.TypeIs (.ref a) "tuple":=⟨o,ho,hc⟩;unfold eqIsQuiet;refine Va (wpAny_specialOf hT F.slot_tuple_eq.lookup ?_)
   show wpAny _ _ (isInstance (.ref a) (.type "tuple") >>= _) _ _ s;refine Va (wpAny_isInstance hT isSubtype_tuple_tuple ?_)
   simp only[Bool.not_true,Bool.false_eq_true,if_false];refine Va (wpAny_seqItems ho hd ?_)
   refine Va ?_
   show wpAny _ _ (forIn its.toArray _ _) _ _ s;rw[<- Array.forIn_toList];refine wpAny_forIn_list _ (fun rest r s'=>r.1=none/\s'=s/\∃ left,Paired (fun d v=>JB s.heap n d v) left rest) _ ?_ ?_ _ _ ⟨rfl,rfl,ds,by simpa using r⟩
   ·rintro v rest r s' ⟨hr,rfl,left,hl⟩
    cases hl with
    | cons h1 hl' =>
     refine Va (ih k (by omega) h1 ?_)
     simp only[Bool.not_true,Bool.false_eq_true,if_false];exact Vg ⟨rfl,rfl,_,hl'⟩
   ·rintro⟨r1,r2⟩ s' ⟨hr,rfl,_⟩
    simp only at hr;subst hr;exact Vg h
end
noncomputable def Yb (prog:Program) (w:World):HeapKind prog w Dt where
 is:=fun h d a=>JB h 8 d (.ref a)
 hash:=haD w
 draws:=drD
 room:=fun A=>A.units+8 < cLine
 inj:=fun p q=>JB.inj _ _ _ _ _ p q
 keeps:=fun p ho hd hs=>JB.keeps ho hd hs _ _ _ p
 pyHash:=fun hu p h=>QTc 8 hu p h
 eqBool:=fun hu p q h=>ZTc 8 hu p q _ _ _ _ h
 quiet:=fun p h=>Xkb 8 8 (Ve _) p h
end L2
end
section
namespace PySem
section
variable{prog:Program}{w:World}{K:Type}[DecidableEq K]{knd:HeapKind prog w K}{A:Around}{E:YQ_}{s:Shared}
end
end PySem
namespace L2
open PySem PySem.Spec PyProof.Rows
abbrev NX:=List (Dt×Addr×V)
def NKV:NX->List (Dt×Addr×Value)->Prop:=Paired fun p q=>p.1=q.1/\p.2.1=q.2.1/\Qr p.2.2 q.2.2
def isN(P:Program)(w:World)(a:Addr)(xs:NX)(h:Heap):Prop:=xs.length<=sizeLine/\(a == sysModules)=false/\∃ ys,NKV xs ys/\∃ o es ep,h.get? a=some o/\o.ExactDict/\o.data=.dict es ep/\es.toList=ys.map (entryOfKey (Yb P w))/\(ys.map (·.1)).Nodup
def dN(P:Program)(w:World)(a:Addr)(xs:NX):HO:=.ext (isN P w a xs)
structure YY(P:Program)(w:World)(K:W.Frag)(H:Hp)(a:Addr)(xs:NX):Prop where
 at_:H a=some (dN P w a xs)
 keys:∀ x∈xs,Rep K H 8 x.1 (.ref x.2.1)/\hD x.1=true
noncomputable def Jp (xs:NX) (d:Dt):Option V:=(xs.find? fun x=>decide (x.1=d)).map (·.2.2)
theorem Qsa{α β:Type}{F:α->β->Prop}:∀ {xs:List α} {us:List β},xs.length=us.length->(∀ (i:Nat) x u,xs[i]?=some x->us[i]?=some u->F x u)->Paired F xs us
 | [],[],_,_=>.nil
 | [],_::_,h,_=>by simp at h
 | _::_,[],h,_=>by simp at h
 | x::xs,u::us,h,f=>.cons (f 0 _ _ rfl rfl) (Qsa (by simpa using h) fun i a b ha hb=>f (i+1) a b (by simpa using ha) (by simpa using hb))
theorem ZDa{P:Program}{w:World}{a:Addr}{xs:NX}(h1 h2:Heap)(p:isN P w a xs h1)(k:∀ o,h1.get? a=some o->h2.get? a=some o):isN P w a xs h2:=by
 obtain⟨z,y,ys,r,o,es,ep,e,c⟩:=p;exact⟨z,y,ys,r,o,es,ep,k o e,c⟩
section
variable{X:Cx}{pins:YP_}{σ:St}{H:Hp}{s:Shared}{a b:Addr}{xs:NX}{d:Dt}
theorem Rep.has(I:Inv X pins σ H s){n:Nat}{x:V}(r:Rep X.K H n d x):∀ {u:Value},hD d=true->Qr x u->JB s.heap n d u:=by
 induction r with
 | @v n x f =>
  intro u h r;rw[hD]at h;cases n <;> exact⟨h,r⟩
 | t h e r1 ih =>
  intro u hh r;cases (show u=Value.ref _ from r)
  rw[hD]at hh;obtain⟨its,w1,p,_⟩:=I.tuple h;have l1:=w1.length;refine⟨_,its,rfl,p,Qsa (by omega) fun i d u hd hu=>?_⟩
  have hi:=(Vc.mp hu).1
  obtain⟨u',e',r'⟩:=w1.get (i:=i) (Vb (by omega))
  rw[hu]at e';cases e';exact ih i d _ hd (Vb (by omega)) (QTb hh d (Vm hd)) r'
 | l h e _ _ =>
  intro u hh _;rw[hD]at hh;exact(Vf hh).elim
theorem YY.dict(I:Inv X pins σ H s)(g:YY X.prog X.w X.K H a xs):xs.length<=sizeLine/\(a == sysModules)=false/\∃ ys,NKV xs ys/\s.heap.DictOfH (Yb X.prog X.w) a ys:=by
 obtain⟨⟨z,y,ys,r,o,es,ep,h1,h2,h3,h4,h5⟩,_,_⟩:=(show QB X.prog X.w H s.heap a (dN X.prog X.w a xs) from I.hok a _ g.at_)
 refine⟨z,y,ys,r,o,es,ep,h1,h2,h3,h4,fun q hq=>?_,h5⟩
 obtain⟨i,hi⟩:=mem_iff_getElem?.mp hq;have l:=Paired.length r;have hp:xs[i]?=some (xs[i]'(by have:=(Vc.mp hi).1;omega)):=Vb _
 have z:=Qn r hp hi;rw[<- z.1,<- z.2.1];have k:=g.keys _ (Vm hp);exact k.1.has I k.2 rfl
theorem NKV.val{xs:NX}{ys:List (Dt×Addr×Value)}(r:NKV xs ys)(d:Dt):JI (Jp xs d) ((atKey ys d).map (·.2)):=by
 induction r with
 | nil=>exact True.intro
 | @cons p q ps qs hq t ih =>
  unfold Jp atKey;rw[find?_cons,find?_cons,<- hq.1]
  by_cases e:p.1=d
  ·rw[decide_eq_true e];exact hq.2.2
  ·rw[decide_eq_false e];exact ih
theorem NKV.none{xs:NX}{ys:List (Dt×Addr×Value)}(r:NKV xs ys){d:Dt}(h:Jp xs d=none):atKey ys d=none:=by
 have:=r.val d;rw[h]at this;cases e:atKey ys d with
 | none=>rfl
 | some p=>rw[e]at this;exact this.elim
theorem NKV.some{xs:NX}{ys:List (Dt×Addr×Value)}(r:NKV xs ys){d:Dt}:(Jp xs d).isSome=(atKey ys d).isSome:=by
 have:=(r.val d).isSome_eq;rw[Option.isSome_map]at this;exact this
variable{A:Around}{E:YQ_}
theorem ZUc{Q:YQ_}(hu:A.units+9 < cLine)(I:Inv X pins σ H s)(g:YY X.prog X.w X.K H a xs)(r:Rep X.K H 8 d (.ref b))(hd:hD d=true)(h:∀ s',Inv X pins σ H s'->Q (.bool (Jp xs d).isSome) s') :
 wpAny (model X.prog X.w) A (compareOp .In (.ref b) (.ref a)) Q E s:=by
 obtain⟨z,y,ys,rel,dd⟩:=g.dict I;refine wpAny_in_heap (knd:=Yb X.prog X.w) (show A.units+1+8 < cLine by omega) (r.has I hd rfl) y dd ?_
 rw[<- rel.some];exact h _ (I.tok _)
theorem ZFc{v:V}{Q:YQ_}(hu:A.units+9 < cLine)(I:Inv X pins σ H s)(g:YY X.prog X.w X.K H a xs)(r:Rep X.K H 8 d (.ref b))(hd:hD d=true)(l:Jp xs d=some v)(h:∀ w' s',Inv X pins σ H s'->Qr v w'->Q w' s') :
 wpAny (model X.prog X.w) A (getItem (.ref a) (.ref b)) Q E s:=by
 obtain⟨z,y,ys,rel,dd⟩:=g.dict I;obtain⟨w',hw,rw'⟩:=JI.some_of (v:=v) (o:=(atKey ys d).map (·.2)) (by rw[<- l];exact rel.val d)
 obtain⟨p,hp,hp2⟩:=Option.map_eq_some_iff.mp hw;refine wpAny_getItem_heap (knd:=Yb X.prog X.w) (show A.units+1+8 < cLine by omega) (r.has I hd rfl) dd hp ?_
 rw[hp2];exact h w' _ (I.tok _) rw'
theorem ZGc{v:V}{u:Value}{Q:Unit->Shared->Prop}(hu:A.units+9 < cLine)(I:Inv X pins σ H s)(g:YY X.prog X.w X.K H a xs)(r:Rep X.K H 8 d (.ref b))(hd:hD d=true)(l:Jp xs d=none)(hl:xs.length < sizeLine)(rv:Qr v u)
 (h:∀ s',Inv X pins σ (upd H a (dN X.prog X.w a (xs++[(d,b,v)]))) s'->Q () s'):wpAny (model X.prog X.w) A (setItem (.ref a) (.ref b) u) Q E s:=by
 obtain⟨z,y,ys,rel,dd⟩:=g.dict I;refine wpAny_setItem_heap (knd:=Yb X.prog X.w) (hsz:=by rw[<- Paired.length rel];exact z) (show A.units+1+8 < cLine by omega) (r.has I hd rfl) dd fun h' dd' hs=>h _ ?_
 obtain⟨q,es,ep,hq,h2,h3,h4,_,h5⟩:=dd';rw[storedH_new (rel.none l)]at h4 h5;refine Xh I (by rw[g.at_];exact True.intro) hs ⟨q,hq⟩ ⟨⟨by rw[Vs];exact hl,y,_,Paired.snoc rel ⟨rfl,rfl,rv⟩,q,es,ep,hq,h2,h3,h4,h5⟩,⟨q,hq⟩,ZDa⟩
theorem YY.typeIs(I:Inv X pins σ H s)(g:YY X.prog X.w X.K H a xs):s.TypeIs (.ref a) "dict":=let ⟨_,_,_,_,dd⟩:=g.dict I;dd.typeIs
theorem YY.noDict(I:Inv X pins σ H s)(g:YY X.prog X.w X.K H a xs):∀ b,Value.ref a=.ref b->∃ ob,s.heap.get? b=some ob/\ob.dict=none:=fun b q=>by
 cases q;obtain⟨_,_,_,_,ob,_,_,h1,h2,_⟩:=g.dict I;exact⟨ob,h1,h2.2.1⟩
end
def ZHc(P:Program)(w:World)(K:W.Frag)(ty td:TE):TE:=fun σ H Q=>ty σ H fun y H1=>td σ H1 fun x H2=>∃ a b xs d,x=.ref a/\y=.ref b/\YY P w K H2 a xs/\Rep K H2 8 d (.ref b)/\hD d=true/\Q (.bl (Jp xs d).isSome) H2
def X0b(P:Program)(w:World)(K:W.Frag)(td ty:TE):TE:=fun σ H Q=>td σ H fun x H1=>ty σ H1 fun y H2=>∃ a b xs d v,x=.ref a/\y=.ref b/\YY P w K H2 a xs/\Rep K H2 8 d (.ref b)/\hD d=true/\Jp xs d=some v/\Q v H2
def X1b(P:Program)(w:World)(K:W.Frag)(td ty tv:TE):TS:=fun D σ H=>tv σ H fun v H1=>td σ H1 fun x H2=>ty σ H2 fun y H3=>∃ a b xs d,x=.ref a/\y=.ref b/\YY P w K H3 a xs/\Rep K H3 8 d (.ref b)/\hD d=true/\Jp xs d=none/\xs.length < sizeLine/\D.nx σ (upd H3 a (dN P w a (xs++[(d,b,v)])))
def X2b(P:Program)(w:World):TE:=fun _ H Q=>∀ p,H p=none->Q (.ref p) (upd H p (dN P w p []))
section
variable{X:Cx}{o i e value:Expr}{pos pos' apos cpos:Pos}{td ty tv:TE}
theorem QUc(hu:X.A.units+9 < cLine)(hi:PE X i ty)(ho:PE X o td):PC X .In i o (ZHc X.prog X.w X.K ty td):=by
 intro pins s σ H Q I h;refine thn (hi pins s σ H _ I h) fun iv s1 ⟨y,H1,I1,ry,q1⟩=>thn (ho pins s1 σ H1 _ I1 q1) fun u s2 hZ=>?_
 obtain⟨x,H2,I2,rx,a,b,xs,d,ex,ey,g,r,hd,q2⟩:=hZ;subst ex ey;obtain rfl:u=Value.ref a:=rx;obtain rfl:iv=Value.ref b:=ry;exact ZUc hu I2 g r hd fun s3 I3=>⟨.bl (Jp xs d).isSome,H2,I3,rfl,q2⟩
theorem Xlb(hu:X.A.units+9 < cLine)(ho:PE X o td)(hi:PE X i ty)(hs:Qrc i):PE X (.Subscript o i pos) (X0b X.prog X.w X.K td ty):=by
 intro pins s σ H Q I h;refine QCb F.slot_dict_getitem.lookup hs (thn (ho pins s σ H _ I h) fun u s1 ⟨x,H1,I1,rx,q1⟩=>thn (hi pins s1 σ H1 _ I1 q1) fun iv s2 hZ=>?_)
 obtain⟨y,H2,I2,ry,a,b,xs,d,v,ex,ey,g,r,hd,l,q2⟩:=hZ;subst ex ey;obtain rfl:u=Value.ref a:=rx;obtain rfl:iv=Value.ref b:=ry;exact⟨g.typeIs I2,ZFc hu I2 g r hd l fun w' s3 I3 rw'=>⟨v,H2,I3,rw',q2⟩⟩
theorem Xmb(hu:X.A.units+9 < cLine)(ho:PE X o td)(hi:PE X i ty)(hv:PE X value tv)(hs:swapsWith value (some (.Subscript o i pos')) pos.line X.env=pure false) :
 PS X (.Assign [.Subscript o i pos'] value pos) (X1b X.prog X.w X.K td ty tv):=by
 intro pins s σ H D I h;refine wpAny_Assign_Subscript (thn (hv pins s σ H _ I h) fun r s1 ⟨v,H1,I1,rv,q1⟩=>thn (ho pins s1 σ H1 _ I1 q1) fun u s2 ⟨x,H2,I2,rx,q2⟩=>thn (hi pins s2 σ H2 _ I2 q2) fun iv s3 hZ=>?_) hs
 obtain⟨y,H3,I3,ry,a,b,xs,d,ex,ey,g,rp,hd,l,hl,q3⟩:=hZ;subst ex ey;obtain rfl:u=Value.ref a:=rx;obtain rfl:iv=Value.ref b:=ry;exact ZGc hu I3 g rp hd l hl rv fun s4 I4=>⟨σ,_,I4,q3⟩
theorem JYb{P:Program}{w:World}{H:Hp}(h:Heap)(hb:sysModules < h.objs.size):QB P w H (h.push { cls:=.type "dict",data:=.dict #[] }) h.objs.size (dN P w h.objs.size []) :=
 ⟨⟨Vk _,beq_eq_false_iff_ne.mpr (Ne.symm (Nat.ne_of_lt hb)),[],.nil,_,#[],0,Vi _ rfl,⟨rfl,rfl,rfl⟩,rfl,rfl,nodup_nil⟩,⟨_,Vi _ rfl⟩,ZDa⟩
theorem Y9a:PE X (.Dict [] [] pos) (X2b X.prog X.w):=fun pins s σ H Q I h =>
 wpAny_Dict_empty ⟨.ref s.heap.objs.size,_,I.laid (a:=s.heap.objs.size) (o:=dN X.prog X.w s.heap.objs.size []) (t':=s.toks) (fun _ _ q=>Vd _ q) (Ve _) (JYb s.heap I.big),rfl,h _ (I.hok.fresh (Ve _))⟩
end
theorem Q4.u9{k:Nat}{A:Around}(r:Q4 k A):A.units+9 < cLine:=by have:=r.un;omega
def TD(H:Hp):Nat->Dt->V->Prop
 | 0,.v x,y=>hV x=true/\y=x
 | 0,.t _,_=>False
 | 0,.l _,_=>False
 | _+1,.v x,y=>hV x=true/\y=x
 | n+1,.t ds,y=>∃ (a:Addr) (xs:List V),y=.ref a/\H a=some (.tup xs)/\Paired (fun d v=>TD H n d v) ds xs
 | _+1,.l _,_=>False
section
variable{H H':Hp}{K:W.Frag}
theorem TD.flat{n:Nat}{x y:V}:TD H n (.v x) y->hV x=true/\y=x:=by cases n <;> exact id
theorem TD.ofV{n:Nat}{x:V}(f:hV x=true):TD H n (.v x) x:=by cases n <;> exact⟨f,rfl⟩
theorem TD.tup{n:Nat}{ds:List Dt}{y:V}(q:TD H n (.t ds) y):∃ m a xs,n=m+1/\y=.ref a/\H a=some (.tup xs)/\Paired (fun d v=>TD H m d v) ds xs:=by
 cases n with
 | zero=>exact q.elim
 | succ m=>obtain⟨a,xs,e,h,r⟩:=q;exact⟨m,a,xs,rfl,e,h,r⟩
theorem TD.ofT{n:Nat}{a:Addr}{xs:List V}{ds:List Dt}(h:H a=some (.tup xs))(r:Paired (fun d v=>TD H n d v) ds xs):TD H (n+1) (.t ds) (.ref a):=⟨a,xs,rfl,h,r⟩
theorem TD.sameT(s:Q1 H H'):∀ (n:Nat) {d:Dt} {y:V},TD H n d y->TD H' n d y:=by
 intro n
 induction n with
 | zero=>intro d y q;cases d <;> exact q
 | succ n ih =>
  intro d y q;cases d with
  | v x=>exact q
  | l x=>exact q
  | t ds=>obtain⟨a,xs,e,h,r⟩:=q;exact⟨a,xs,e,s _ _ h,Paired.mapP r fun d v z=>ih z⟩
theorem TD.same{n:Nat}{d:Dt}{y:V}(q:TD H n d y)(s:Qk H H'):TD H' n d y:=TD.sameT s.t n q
theorem TD.mono:∀ (n:Nat) {m:Nat} {d:Dt} {y:V},n<=m->TD H n d y->TD H m d y:=by
 intro n
 induction n with
 | zero =>
  intro m d y _ q;cases d with
  | v x=>obtain⟨f,e⟩:=q;subst e;exact TD.ofV f
  | t _=>exact q.elim
  | l _=>exact q.elim
 | succ n ih =>
  intro m d y hm q;cases d with
  | v x=>obtain⟨f,e⟩:=q;subst e;exact TD.ofV f
  | l _=>exact q.elim
  | t ds =>
   obtain⟨a,xs,e,h,r⟩:=q;obtain⟨k,rfl⟩:∃ k,m=k+1:=⟨m - 1,by omega⟩
   exact⟨a,xs,e,h,Paired.mapP r fun d v z=>ih (by omega) z⟩
theorem TD.rep:∀ (n:Nat) {d:Dt} {y:V},TD H n d y->Rep K H n d y:=by
 intro n
 induction n with
 | zero =>
  intro d y q;cases d with
  | v x=>obtain⟨f,e⟩:=q;subst e;exact .v (Q6a f)
  | t _=>exact q.elim
  | l _=>exact q.elim
 | succ n ih =>
  intro d y q;cases d with
  | v x=>obtain⟨f,e⟩:=q;subst e;exact .v (Q6a f)
  | l _=>exact q.elim
  | t ds =>
   obtain⟨a,xs,e,h,r⟩:=q;subst e;exact .t (SqT.of h) (Paired.length r) fun i d x h1 h2=>ih (Qn r h1 h2)
theorem TD.h:∀ (n:Nat) {d:Dt} {y:V},TD H n d y->hD d=true:=by
 intro n
 induction n with
 | zero =>
  intro d y q;cases d with
  | v x=>rw[hD];exact q.1
  | t _=>exact q.elim
  | l _=>exact q.elim
 | succ n ih =>
  intro d y q;cases d with
  | v x=>rw[hD];exact q.1
  | l _=>exact q.elim
  | t ds =>
   obtain⟨a,xs,e,h,r⟩:=q;rw[hD];refine J6a fun x hx=>?_
   obtain⟨i,hi⟩:=mem_iff_getElem?.mp hx;have l:=Paired.length r;have hl:=(Vc.mp hi).1
   exact ih (Qn r hi (Vb (show i < xs.length by omega)))
theorem TD.pair{n:Nat}{a:Addr}{x y:V}{d e:Dt}(h:H a=some (.tup [x,y]))(hx:TD H n d x)(hy:TD H n e y):TD H (n+1) (.t [d,e]) (.ref a):=TD.ofT h (.cons hx (.cons hy .nil))
theorem TD.pair_of{n:Nat}{y:V}{d e:Dt}(q:TD H (n+1) (.t [d,e]) y):∃ a x z,y=.ref a/\H a=some (.tup [x,z])/\TD H n d x/\TD H n e z:=by
 obtain⟨a,xs,rfl,h,r⟩:=q;cases r with
 | cons r1 r2 =>
  cases r2 with
  | cons r3 r4=>cases r4;exact⟨a,_,_,rfl,h,r1,r3⟩
end
mutual
theorem QVc:∀ d e:Dt,hD d=true->hD e=true->(eqD d e=true↔d=e)
 | .v x,.v y,h,h'=>by
  rw[hD]at h h';rw[eqD,JWb h h',decide_eq_true_iff]
 | .t xs,.t ys,h,h'=>by
  rw[hD]at h h';rw[eqD,J8a xs ys h h'];exact⟨fun e=>by rw[e],fun e=>by injection e⟩
 | .v x,.t ys,_,_=>by simp[eqD]
 | .t xs,.v y,_,_=>by simp[eqD]
 | .l xs,_,h,_=>by rw[hD]at h;exact(Vf h).elim
 | .v x,.l ys,_,h=>by rw[hD]at h;exact(Vf h).elim
 | .t x,.l ys,_,h=>by rw[hD]at h;exact(Vf h).elim
theorem J8a:∀ d e:List Dt,hDs d=true->hDs e=true->(XE d e=true↔d=e)
 | [],[],_,_=>by simp[XE]
 | [],_::_,_,_=>by simp[XE]
 | _::_,[],_,_=>by simp[XE]
 | x::xs,y::ys,h,h'=>by
  rw[hDs,Bool.and_eq_true]at h h';rw[XE,Bool.and_eq_true,QVc x y h.1 h'.1,J8a xs ys h.2 h'.2];exact⟨fun e=>by rw[e.1,e.2],fun e=>by injection e with a b;exact⟨a,b⟩⟩
end
def QU(S:List Addr)(H H':Hp):Prop:=∀ b o,b∉S->H b=some o->H' b=some o
section
variable{S:List Addr}{H H' H1 H2:Hp}
theorem QU.refl(S:List Addr)(H:Hp):QU S H H:=fun _ _ _ e=>e
theorem Qk.x(s:Qk H H')(S:List Addr):QU S H H':=fun b o _ e=>s b o e
theorem QU.trans(a:QU S H H1)(b:QU S H1 H2):QU S H H2:=fun c o n e=>b c o n (a c o n e)
theorem QU.upd{a:Addr}{o:HO}(s:QU S H H')(h:a∈S):QU S H (L2.upd H' a o):=fun b u n e=>by
 rw[Qd (fun z=>n (by rw[z];exact h))];exact s b u n e
theorem QU.mono{S':List Addr}(s:QU S H H')(h:∀ a∈S,a∈S'):QU S' H H':=fun b o n e=>s b o (fun z=>n (h b z)) e
end
section
variable{α β:Type}[DecidableEq β]
theorem Yc(g:α->β):∀ {xs:List α} {x:α},(xs.map g).Nodup->x∈xs->xs.find? (fun y=>decide (g y=g x))=some x
 | [],_,_,h=>nomatch h
 | y::ys,x,nd,h=>by
  rw[map_cons,nodup_cons]at nd;rw[find?_cons]
  rcases mem_cons.mp h with e | h
  ·subst e;rw[decide_eq_true rfl]
  ·have:g y≠g x:=fun e=>nd.1 (by rw[e];exact mem_map_of_mem h)
   rw[decide_eq_false this];exact Yc g nd.2 h
theorem QVb(g:α->β){xs:List α}{b:β}(h:∀ x∈xs,g x≠b):xs.find? (fun y=>decide (g y=b))=none:=by
 rw[find?_eq_none]
 intro x hx z;exact h x hx (of_decide_eq_true z)
end
theorem JEa{α κ:Type}[DecidableEq κ](f:α->κ×V)(xs:List α)(k:κ):Zc (xs.map f) k=(xs.find? fun x=>decide ((f x).1=k)).map fun x=>(f x).2:=by
 unfold Zc;rw[find?_map,Option.map_map]
 rfl
theorem Xaa{α:Type}(f:α->Dt×Addr×V)(xs:List α)(k:Dt):Jp (xs.map f) k=(xs.find? fun x=>decide ((f x).1=k)).map fun x=>(f x).2.2:=by
 unfold Jp;rw[find?_map,Option.map_map]
 rfl
end L2
end
section
namespace L2
open PySem PySem.Spec PyProof.Rows
section
variable{X:Cx}
end
theorem TDs.of{H:Hp}{n:Nat}{Pd:Dt->Prop}:∀ {xs:List V},(∀ x∈xs,∃ d,TD H n d x/\Pd d)->∃ ds:List Dt,Paired (fun d v=>TD H n d v) ds xs/\∀ d∈ds,Pd d
 | [],_=>⟨[],.nil,fun d h=>nomatch h⟩
 | x::xs,h=>by
  obtain⟨d,hd,pd⟩:=h x mem_cons_self;obtain⟨ds,r,p⟩:=TDs.of (xs:=xs) fun y hy=>h y (Vo _ hy)
  exact⟨d::ds,.cons hd r,fun e he=>by
   rcases mem_cons.mp he with z | z
   ·rw[z];exact pd
   ·exact p e z⟩
theorem TDs.sameT{H H':Hp}{n:Nat}{es:List Dt}{xs:List V}(r:Paired (fun d v=>TD H n d v) es xs)(s:Q1 H H'):Paired (fun d v=>TD H' n d v) es xs:=Paired.mapP r fun _ _ z=>TD.sameT s n z
def X1a(P:Program)(w:World)(K:W.Frag)(mg:Str->Option Value)(base:Heap)(k:Nat)(m:Str)(ta:TE1)(t:TA):TE1:=fun σ H Q E=>ta σ H (fun x H1=>∃ a C dx fs sp,x=.ref a/\H1 a=some (.ins C dx fs)/\fs.lookup m=none/\Cls K C/\MeV P w K mg base k C m sp/\t σ H1 fun vs H2=>sp (x::vs) H2 Q E) E
section
variable{X:Cx}{m:Str}{k:Nat}{ta:TE1}{t:TA}{e o:Expr}{es:List Expr}{pos apos:Pos}{pl:Sem Bool}
theorem JFa(he:PE1 X o ta)(hr:Q4 k X.A)(hex:X.ex=[])(ha:PA X.nox (e::es) t)
 (hst:starEach (e::es) X.env=(false,eval e X.env)::starEach es X.env:=by rfl) (hpl:(backTo pos (starEach es X.env)).any (·.1)=false:=by rfl)
 (ht:eval (.Call (.Attribute o m apos) (e::es) [] pos) X.env=(do
  let ov <- eval o X.env
  standAt apos.atName
  let (f,first) <- holding [ov] (getMethod ov m pl)
  callWith pos f first (backTo pos (starEach (e::es) X.env)) (backToKw pos (keywordEach [] X.env))):=by rfl) :
 PE1 X (.Call (.Attribute o m apos) (e::es) [] pos) (X1a X.prog X.w X.K X.mg X.base k m ta t):=by
 intro pins s σ H Q E I h;refine W.methodCall_KW (pl:=pl) (thn (he pins s σ H _ E I h) fun u s1 hZ=>?_) ht
 obtain⟨y,H1,I1,rx,a,C,dx,fs,sp,ex,ea,l,c,G,q⟩:=hZ;obtain⟨f,fd,ps,hm,F,hb⟩:=G;subst ex;obtain rfl:u=Value.ref a:=rx;refine Yi I1 ea c hm l ?_
 refine W.callWith_K (first:=[.ref a]) (h₀:=X.base) I.ok.mod.kin hm.kp (thn (XZa ha I1 q) fun us s2 ⟨vs,H2,I2,r,q2⟩=>⟨I2.kIn,?_⟩) hst hpl
 exact X4 (us:=.ref a::us) (vs:=.ref a::vs) F hr hb hex I2 (.cons rfl r) q2
theorem ZEa(he:PE1 X o ta)(hr:Q4 k X.A)(hex:X.ex=[])
 (ht:eval (.Call (.Attribute o m apos) [] [] pos) X.env=(do
  let ov <- eval o X.env
  standAt apos.atName
  let (f,first) <- holding [ov] (getMethod ov m pl)
  callWith pos f first (backTo pos (starEach [] X.env)) (backToKw pos (keywordEach [] X.env))):=by rfl) :
 PE1 X (.Call (.Attribute o m apos) [] [] pos) (X1a X.prog X.w X.K X.mg X.base k m ta YHa):=by
 intro pins s σ H Q E I h;refine W.methodCall_KW (pl:=pl) (thn (he pins s σ H _ E I h) fun u s1 hZ=>?_) ht
 obtain⟨y,H1,I1,rx,a,C,dx,fs,sp,ex,ea,l,c,G,q⟩:=hZ;obtain⟨f,fd,ps,hm,F,hb⟩:=G;subst ex;obtain rfl:u=Value.ref a:=rx;refine Yi I1 ea c hm l ?_
 exact W.callWith_K0 (first:=[.ref a]) I1.kIn hm.kp (X4 (us:=[.ref a]) (vs:=[.ref a]) F hr hb hex I1 (.cons rfl .nil) q)
end
end L2
end
section
open L2
namespace Tr
def QM:Dt->V
 | .t (.v k::_)=>k
 | _=>.non
def Zl(l:Int)(es:List Dt):Dt:=.t [.v (.int l),.t es]
def ZV(k:V)(n:Int):Dt:=.t [.v k,.v (.int n)]
def JJ:List Dt->V
 | []=>.non
 | e::_=>QM e
theorem Q7{l l':Int}{es es':List Dt}(h:Zl l es=Zl l' es'):l=l'/\es=es':=by
 unfold Zl at h;injection h with h
 injection h with h1 h
 injection h with h2 h
 injection h1 with h1
 injection h1 with h1
 injection h2 with h2
 exact⟨h1,h2⟩
theorem Jg{k k':V}{n n':Int}(h:ZV k n=ZV k' n'):k=k'/\n=n':=by
 unfold ZV at h;injection h with h
 injection h with h1 h
 injection h with h2 h
 injection h1 with h1
 injection h2 with h2
 injection h2 with h2
 exact⟨h1,h2⟩
section
variable(lv:V->Nat)
def step(l:Int)(parts:List (List Dt))(e:Dt):List (List Dt) :=
 if parts=[]\/l < lv (QM e) then parts++[[e]] else parts.dropLast++[parts.getLast?.getD []++[e]]
def QJ(l:Int)(es:List Dt):List (List Dt):=es.foldl (step lv l) []
structure JK(l:Int)(es:List Dt)(parts:List (List Dt)):Prop where
 flat:parts.flatten=es
 full:∀ part∈parts,part≠[]
 head:∀ (i:Nat) x r,0 < i->parts[i]?=some (x::r)->l < lv (QM x)
 rest:∀ x r,(x::r)∈parts->∀ y∈r,(lv (QM y):Int)<=l
variable{lv}{l:Int}{es:List Dt}{parts:List (List Dt)}
theorem JK.nil:JK lv l [] []:=⟨rfl,(fun _ h=>by cases h),(fun i x r _ h=>by simp at h),(fun x r h=>by cases h)⟩
theorem JK.more{x:Dt}(c:JK lv l es parts)(h:parts=[]\/l < lv (QM x)):JK lv l (es++[x]) (parts++[[x]]) where
 flat:=by rw[flatten_append,c.flat];simp
 full:=fun part hp=>by
  rcases Vl.mp hp with z | z
  ·exact c.full part z
  ·have:part=[x]:=by simpa using z
   rw[this];simp
 head:=fun i y r hi e=>by
  by_cases hl:i < parts.length
  ·rw[getElem?_append_left hl]at e;exact c.head i y r hi e
  ·rw[getElem?_append_right (by omega)]at e
   have h0:i - parts.length=0:=by
    cases q:i - parts.length with
    | zero=>rfl
    | succ m=>rw[q]at e;simp at e
   rw[h0]at e;simp at e
   rcases h with z | z
   ·rw[z]at h0;simp at h0;omega
   ·rw[<- e.1];exact z
 rest:=fun y r hp z hz=>by
  rcases Vl.mp hp with w | w
  ·exact c.rest y r w z hz
  ·have:y::r=[x]:=by simpa using w
   cases this;cases hz
theorem JK.on{x:Dt}{ini:List (List Dt)}{last:List Dt}(c:JK lv l es (ini++[last]))(h:(lv (QM x):Int)<=l):JK lv l (es++[x]) (ini++[last++[x]]) where
 flat:=by have:=c.flat;simp at this ⊢;rw[<- this];simp
 full:=fun part hp=>by
  rcases Vl.mp hp with z | z
  ·exact c.full part (mem_append_left _ z)
  ·have:part=last++[x]:=by simpa using z
   rw[this];simp
 head:=fun i y r hi e=>by
  by_cases hl:i < ini.length
  ·rw[getElem?_append_left hl]at e
   exact c.head i y r hi (by rw[getElem?_append_left hl];exact e)
  ·rw[getElem?_append_right (by omega)]at e
   have h0:i - ini.length=0:=by
    cases q:i - ini.length with
    | zero=>rfl
    | succ m=>rw[q]at e;simp at e
   rw[h0]at e;have hne:=c.full last (by simp)
   match last,hne,e,c with
   | z::zs,_,e,c =>
    simp at e;rw[<- e.1];exact c.head i z zs hi (by rw[getElem?_append_right (by omega),h0];rfl)
 rest:=fun y r hp z hz=>by
  rcases Vl.mp hp with w | w
  ·exact c.rest y r (mem_append_left _ w) z hz
  ·have w:y::r=last++[x]:=by simpa using w
   have hne:=c.full last (by simp)
   match last,hne,w,c with
   | u::us,_,w,c =>
    simp at w;obtain⟨rfl,rfl⟩:=w
    rcases Vl.mp hz with v | v
    ·exact c.rest y us (by simp) z v
    ·have:z=x:=by simpa using v
     rw[this];exact h
theorem Yr{α:Type}:∀ {xs:List α},xs≠[]->∃ ini last,xs=ini++[last]
 | [],h=>absurd rfl h
 | [x],_=>⟨[],x,rfl⟩
 | x::y::ys,_=>by
  obtain⟨ini,last,e⟩:=Yr (xs:=y::ys) (by simp)
  exact⟨x::ini,last,by rw[e];rfl⟩
theorem JK.step{x:Dt}(c:JK lv l es parts):JK lv l (es++[x]) (step lv l parts x):=by
 unfold Tr.step
 split
 ·rename_i h;exact c.more h
 ·rename_i h
  have h1:parts≠[]:=fun z=>h (.inl z)
  obtain⟨ini,last,rfl⟩:=Yr h1;have:(lv (QM x):Int)<=l:=by have:¬ l < lv (QM x):=fun z=>h (.inr z);omega
  simpa using c.on this
theorem Jx(es:List Dt)(x:Dt):QJ lv l (es++[x])=step lv l (QJ lv l es) x:=by
 unfold QJ;rw[foldl_append];rfl
theorem YZ{α:Type}{C:List α->Prop}(h0:C [])(h1:∀ xs x,C xs->C (xs++[x]))(xs:List α):C xs:=by
 have:∀ n (xs:List α),xs.length=n->C xs:=by
  intro n
  induction n with
  | zero=>intro xs h;rw[length_eq_zero_iff.mp h];exact h0
  | succ n ih =>
   intro xs h;obtain⟨ini,last,rfl⟩:=Yr (xs:=xs) (by intro z;rw[z]at h;simp at h)
   exact h1 _ _ (ih ini (by simpa using h))
 exact this _ xs rfl
theorem QO(l:Int):∀ es,JK lv l es (QJ lv l es):=YZ JK.nil fun xs x c=>by rw[Jx];exact c.step
theorem Xk{es:List Dt}(h:es≠[]):QJ lv l es≠[]:=fun z=>h (by have:=(QO (lv:=lv) l es).flat;rw[z]at this;exact this.symm)
theorem Xba{es:List Dt}(hne:es≠[])(h:∀ e∈es,(lv (QM e):Int)<=l):QJ lv l es=[es]:=by
 have c:=QO (lv:=lv) l es
 match q:QJ lv l es with
 | []=>exact absurd q (Xk hne)
 | [p]=>rw[q]at c;have:=c.flat;simp at this;rw[this]
 | p::p2::r =>
  rw[q]at c;have hp2:=c.full p2 (by simp)
  match p2,hp2 with
  | x::xs,_ =>
   have h1:=c.head 1 x xs (by omega) rfl
   have h2:x∈es:=by rw[<- c.flat];simp
   have:=h x h2
   omega
end
structure Fn(tbl:List (Int×Dt)):Prop where
 num:∀ n d d',(n,d)∈tbl->(n,d')∈tbl->d=d'
 dat:∀ n n' d,(n,d)∈tbl->(n',d)∈tbl->n=n'
inductive QK(tbl:List (Int×Dt))(l:Int):List (List Dt)->List Dt->Prop
 | nil:QK tbl l [] []
 | cons {part:List Dt} {parts:List (List Dt)} {hs:List Dt} {n:Int} (h:(n,Zl l part)∈tbl) (r:QK tbl l parts hs):QK tbl l (part::parts) (ZV (JJ part) n::hs)
section
variable{tbl tbl':List (Int×Dt)}{l:Int}{parts:List (List Dt)}{hs:List Dt}
theorem QK.mono(h:QK tbl l parts hs)(s:∀ x∈tbl,x∈tbl'):QK tbl' l parts hs:=by
 induction h with
 | nil=>exact .nil
 | cons h _ ih=>exact .cons (s _ h) ih
theorem QK.snoc{part:List Dt}{n:Int}(h:QK tbl l parts hs)(m:(n,Zl l part)∈tbl):QK tbl l (parts++[part]) (hs++[ZV (JJ part) n]):=by
 induction h with
 | nil=>exact .cons m .nil
 | cons h _ ih=>exact .cons h ih
theorem QK.length(h:QK tbl l parts hs):hs.length=parts.length:=by
 induction h with
 | nil=>rfl
 | cons _ _ ih=>simp[ih]
theorem QK.det(f:Fn tbl)(h:QK tbl l parts hs):∀ {hs':List Dt},QK tbl l parts hs'->hs=hs':=by
 induction h with
 | nil=>intro hs' h';cases h';rfl
 | cons h _ ih =>
  intro hs' h';cases h' with
  | cons h2 r2=>rw[f.dat _ _ _ h h2,ih r2]
theorem QK.inj(f:Fn tbl)(h:QK tbl l parts hs):∀ {parts':List (List Dt)},QK tbl l parts' hs->parts=parts':=by
 induction h with
 | nil=>intro p h';cases h';rfl
 | @cons part parts hs n h r ih =>
  intro p h';generalize e:ZV (JJ part) n::hs=q at h';cases h' with
  | nil=>cases e
  | @cons part' parts' hs' n' h2 r2 =>
   injection e with e1 e2
   obtain⟨_,en⟩:=Jg e1;subst en;have:=f.num _ _ _ h h2;rw[(Q7 this).2,ih (by rw[e2];exact r2)]
end
structure Zf(lv:V->Nat)(tbl:List (Int×Dt))(rows:List Dt)(top:Nat)(L:Nat->List Dt):Prop where
 low:L 0=rows
 up:∀ j,j<=top->QK tbl j (QJ lv j (L j)) (L (j+1))
 one:(L (top+1)).length=1
 two:∀ j,1<=j->j<=top->1 < (L j).length
section
variable{lv:V->Nat}{tbl tbl':List (Int×Dt)}{rows rows':List Dt}{top top':Nat}{L L':Nat->List Dt}
theorem Zf.mono(c:Zf lv tbl rows top L)(s:∀ x∈tbl,x∈tbl'):Zf lv tbl' rows top L:=⟨c.low,fun j h=>(c.up j h).mono s,c.one,c.two⟩
theorem Zf.det(f:Fn tbl)(c:Zf lv tbl rows top L)(c':Zf lv tbl rows top' L'):top=top'/\∀ j,j<=top+1->L j=L' j:=by
 have key:∀ j,j<=top+1->j<=top'+1->L j=L' j:=by
  intro j
  induction j with
  | zero=>intro _ _;rw[c.low,c'.low]
  | succ j ih =>
   intro h h';have e:=ih (by omega) (by omega)
   have u:=c.up j (by omega)
   have u':=c'.up j (by omega)
   rw[e]at u;exact u.det f u'
 have e:top=top':=by
  rcases Nat.lt_trichotomy top top' with h | h | h
  ·have:=c'.two (top+1) (by omega) (by omega)
   rw[<- key (top+1) (by omega) (by omega),c.one]at this;omega
  ·exact h
  ·have:=c.two (top'+1) (by omega) (by omega)
   rw[key (top'+1) (by omega) (by omega),c'.one]at this;omega
 subst e;exact⟨rfl,fun j h=>key j h h⟩
theorem Zf.root(c:Zf lv tbl rows top L):∃ k n,L (top+1)=[ZV k n]/\(n,Zl top (L top))∈tbl/\QJ lv top (L top)=[L top]:=by
 have u:=c.up top (Ve _);have l:=u.length;rw[c.one]at l
 match q:QJ lv top (L top),l with
 | [p],_ =>
  have fl:=(QO (lv:=lv) (top:Int) (L top)).flat;rw[q]at fl;simp at fl;subst fl;rw[q]at u;generalize L (top+1)=hs at u;cases u with
  | cons h r=>cases r;exact⟨_,_,rfl,h,rfl⟩
theorem Zf.rows_of(f:Fn tbl)(c:Zf lv tbl rows top L)(c':Zf lv tbl rows' top' L'){k k':V}{n:Int}(e:L (top+1)=[ZV k n])(e':L' (top'+1)=[ZV k' n]):rows=rows':=by
 obtain⟨k1,n1,q1,m1,_⟩:=c.root;obtain⟨k2,n2,q2,m2,_⟩:=c'.root;rw[e]at q1;rw[e']at q2;injection q1 with q1;injection q2 with q2
 obtain⟨_,rfl⟩:=Jg q1;obtain⟨_,rfl⟩:=Jg q2;obtain⟨et,eL⟩:=Q7 (f.num _ _ _ m1 m2);have et:top=top':=by omega
 subst et;have key:∀ i,i<=top->L (top - i)=L' (top - i):=by
  intro i
  induction i with
  | zero=>intro _;exact eL
  | succ i ih =>
   intro h;have:=ih (by omega)
   have s:top - i=(top - (i+1))+1:=by omega
   rw[s]at this;have u:=c.up (top - (i+1)) (by omega)
   have u':=c'.up (top - (i+1)) (by omega)
   rw[this]at u;have p:=u.inj f u';have f1:=(QO (lv:=lv) ((top - (i+1):Nat):Int) (L (top - (i+1)))).flat;have f2:=(QO (lv:=lv) ((top - (i+1):Nat):Int) (L' (top - (i+1)))).flat;rw[<- f1,<- f2,p]
 have:=key top (Ve _);rw[Nat.sub_self,c.low,c'.low]at this;exact this
end
def Qta:Dt->Int
 | .t [_,.v (.int n)]=>n
 | _=>0
section
variable{lv:V->Nat}{tbl:List (Int×Dt)}{l:Int}{parts:List (List Dt)}{hs rows:List Dt}{top:Nat}{L:Nat->List Dt}
theorem QK.keys(h:QK tbl l parts hs):hs.map QM=parts.map JJ:=by
 induction h with
 | nil=>rfl
 | cons h r ih=>rw[map_cons,map_cons,ih];rfl
theorem QK.mem(h:QK tbl l parts hs){x:Dt}(hx:x∈hs):∃ part∈parts,∃ n,x=ZV (JJ part) n/\(n,Zl l part)∈tbl:=by
 induction h with
 | nil=>cases hx
 | @cons part parts hs n h r ih =>
  rcases mem_cons.mp hx with e | hx
  ·exact⟨part,mem_cons_self,n,e,h⟩
  ·obtain⟨p,hp,q⟩:=ih hx;exact⟨p,Vo _ hp,q⟩
end
structure Qua(lv:V->Nat)(tbl:List (Int×Dt))(rows:List Dt)(j:Nat)(L:Nat->List Dt):Prop where
 low:L 0=rows
 up:∀ i,i < j->QK tbl i (QJ lv i (L i)) (L (i+1))
 two:∀ i,1<=i->i < j->1 < (L i).length
section
variable{lv:V->Nat}{tbl tbl':List (Int×Dt)}{rows hs:List Dt}{j:Nat}{L:Nat->List Dt}
theorem Qua.start(h:QK tbl 0 (QJ lv 0 rows) hs):Qua lv tbl rows 1 (fun i=>if i=0 then rows else hs) where
 low:=rfl
 up:=fun i hi=>by
  obtain rfl:i=0:=by omega
  exact h
 two:=fun i h1 h2=>by omega
theorem Qua.next(p:Qua lv tbl rows j L)(s:∀ x∈tbl,x∈tbl')(hj:1<=j)(h2:1 < (L j).length)(h:QK tbl' j (QJ lv j (L j)) hs):Qua lv tbl' rows (j+1) (fun i=>if i=j+1 then hs else L i) where
 low:=by show(if 0=j+1 then hs else L 0)=rows;rw[if_neg (by omega)];exact p.low
 up:=fun i hi=>by
  show QK tbl' i (QJ lv i (if i=j+1 then hs else L i)) (if i+1=j+1 then hs else L (i+1))
  rw[if_neg (by omega)]
  by_cases e:i=j
  ·subst e;rw[if_pos rfl];exact h
  ·rw[if_neg (by omega)];exact(p.up i (by omega)).mono s
 two:=fun i h1 hi=>by
  show 1 < (if i=j+1 then hs else L i).length
  rw[if_neg (by omega)]
  by_cases e:i=j
  ·subst e;exact h2
  ·exact p.two i h1 (by omega)
theorem Qua.chain{top:Nat}(p:Qua lv tbl rows (top+1) L)(h:(L (top+1)).length=1):Zf lv tbl rows top L:=⟨p.low,fun i hi=>p.up i (by omega),h,fun i h1 h2=>p.two i h1 (by omega)⟩
theorem Qua.full(p:Qua lv tbl rows j L)(hr:rows≠[]):∀ i,i<=j->L i≠[]:=by
 intro i
 induction i with
 | zero=>intro _;rw[p.low];exact hr
 | succ i ih =>
  intro h z;have u:=p.up i (by omega)
  have l:=u.length;rw[z]at l;exact Xk (ih (by omega)) (length_eq_zero_iff.mp l.symm)
theorem Qua.top(p:Qua lv tbl rows j L)(h6:∀ k,lv k<=6)(hr:rows≠[])(hj:7<=j):(L 7).length=1:=by
 have u:=p.up 6 (by omega)
 rw[Xba (p.full hr 6 (by omega)) (fun e _=>by have:=h6 (QM e);omega)]at u
 rw[u.length];rfl
end
end Tr
end
section
namespace L2
open PySem PySem.Spec PyProof.Rows
inductive FzH(H:Hp):Nat->V->Prop where
 | v {n:Nat} {x:V} (f:hV x=true):FzH H n x
 | t {n:Nat} {a:Addr} {xs:List V} (h:H a=some (.tup xs)) (r:∀ x∈xs,FzH H n x):FzH H (n+1) (.ref a)
theorem FzH.sameT{H H':Hp}{n:Nat}{x:V}(r:FzH H n x)(s:Q1 H H'):FzH H' n x:=by
 induction r with
 | v f=>exact .v f
 | t h _ ih=>exact .t (s _ _ h) ih
theorem FzH.same{H H':Hp}{n:Nat}{x:V}(r:FzH H n x)(s:Qk H H'):FzH H' n x:=r.sameT s.t
theorem FzH.pair{H:Hp}{n:Nat}{a:Addr}{x y:V}(h:H a=some (.tup [x,y]))(hx:FzH H n x)(hy:FzH H n y):FzH H (n+1) (.ref a):=.t h fun z hz=>by
 rcases mem_cons.mp hz with e | hz
 ·rw[e];exact hx
 ·rw[mem_singleton.mp hz];exact hy
structure ZW(H:Hp)(n:Nat)(p:Addr)(H1:Hp)(xs:List V):Prop where
 same:Qk H H1
 at_:H1 p=some (.lst xs)
 fz:∀ x∈xs,FzH H1 n x
 new:H p=none
theorem ZW.start{H:Hp}{n:Nat}{p:Addr}(hp:H p=none):ZW H n p (upd H p (.lst [])) []:=⟨Qg hp _,Qa,(fun x hx=>by cases hx),hp⟩
theorem ZW.more{H H1 H2:Hp}{n:Nat}{p:Addr}{xs:List V}{x:V}(c:ZW H n p H1 xs)(s:Qk H1 H2)(f:FzH H2 n x):ZW H n p (upd H2 p (.lst (xs++[x]))) (xs++[x]) where
 same:=fun b o hb=>by rw[Qd (Qq hb c.new)];exact s _ _ (c.same _ _ hb)
 at_:=Qa
 fz:=fun y hy=>by
  have st:=Jw (zs:=xs++[x]) (s _ _ c.at_)
  rcases Vl.mp hy with h | h
  ·exact((c.fz y h).same s).sameT st
  ·rw[mem_singleton.mp h];exact f.sameT st
 new:=c.new
theorem ZW.pair{H H1:Hp}{n:Nat}{p q:Addr}{xs:List V}(x y:V)(c:ZW H (n+1) p H1 xs)(hq:H1 q=none)(fx:hV x=true:=by rfl)(fy:hV y=true:=by rfl):ZW H (n+1) p (upd (upd H1 q (.tup [x,y])) p (.lst (xs++[.ref q]))) (xs++[.ref q]) :=
 c.more (Qg hq _) (FzH.pair Qa (.v fx) (.v fy))
theorem ZW.nest{H H1:Hp}{n:Nat}{p a b q:Addr}{xs:List V}(z w x y:V)(c:ZW H (n+3) p H1 xs)(ha:H1 a=none)(hb:upd H1 a (.tup [x,y]) b=none)(hq:upd (upd H1 a (.tup [x,y])) b (.tup [w,.ref a]) q=none)(fx:hV x=true:=by rfl)(fy:hV y=true:=by rfl)(fz:hV z=true:=by rfl)(fw:hV w=true:=by rfl) :
 ZW H (n+3) p (upd (upd (upd (upd H1 a (.tup [x,y])) b (.tup [w,.ref a])) q (.tup [z,.ref b])) p (.lst (xs++[.ref q]))) (xs++[.ref q]):=by
 have f1:FzH (upd H1 a (.tup [x,y])) (n+1) (.ref a):=FzH.pair Qa (.v fx) (.v fy);have f2:FzH (upd (upd H1 a (.tup [x,y])) b (.tup [w,.ref a])) (n+2) (.ref b):=FzH.pair Qa (.v fw) (f1.same (Qg hb _));exact c.more ((Qg ha _).trans ((Qg hb _).trans (Qg hq _))) (FzH.pair Qa (.v fz) (f2.same (Qg hq _)))
theorem FzH.td{H:Hp}{n:Nat}{x:V}(r:FzH H n x):∃ d,TD H n d x:=by
 induction r with
 | v f=>exact⟨_,TD.ofV f⟩
 | t h _ ih =>
  obtain⟨ds,q,_⟩:=TDs.of (Pd:=fun _=>True) fun x hx=>by obtain⟨d,hd⟩:=ih x hx;exact⟨d,hd,trivial⟩
  exact⟨.t ds,TD.ofT h q⟩
section
variable{a b c d e u:TS}{D:Jb}{σ:St}{H:Hp}
theorem Q7a(h:∀ R:St->Hp->Prop,(∀ σ H,u D σ H->R σ H)->a { D with nx:=R } σ H):YR a u D σ H:=h (u D) fun _ _ z=>z
theorem Xnb(h:∀ R:St->Hp->Prop,(∀ σ H,u D σ H->R σ H)->YR a b { D with nx:=R } σ H):YR a (YR b u) D σ H:=h (u D) fun _ _ z=>z
theorem Xob(h:∀ R:St->Hp->Prop,(∀ σ H,u D σ H->R σ H)->YR a (YR b c) { D with nx:=R } σ H):YR a (YR b (YR c u)) D σ H:=h (u D) fun _ _ z=>z
theorem QWb(h:∀ R:St->Hp->Prop,(∀ σ H,u D σ H->R σ H)->YR a (YR b (YR c d)) { D with nx:=R } σ H):YR a (YR b (YR c (YR d u))) D σ H:=h (u D) fun _ _ z=>z
end
section
variable{X:Cx}
end
section
variable{X:Cx}
end
end L2
end
section
open L2 PySem
namespace Tr
def JZb(tbl:List (Int×Dt)):Nat->Dt->List Dt->Prop
 | 0,d,es=>es=[d]
 | l+1,d,es=>∃ k n part ess,d=ZV k n/\(n,Zl (l:Int) part)∈tbl/\Paired (JZb tbl l) part ess/\es=ess.flatten
def QXb(tbl:List (Int×Dt))(l:Nat)(part es:List Dt):Prop:=∃ ess,Paired (JZb tbl l) part ess/\es=ess.flatten
theorem X7{α β:Type}{F:α->β->Prop}:∀ {xs ys:List α} {us:List β},Paired F (xs++ys) us->∃ u1 u2,us=u1++u2/\Paired F xs u1/\Paired F ys u2
 | [],_,us,h=>⟨[],us,rfl,.nil,h⟩
 | x::xs,ys,_,.cons r t=>by
  obtain⟨u1,u2,e,a,b⟩:=X7 t;exact⟨_::u1,u2,by rw[e];rfl,.cons r a,b⟩
section
variable{lv:V->Nat}{tbl:List (Int×Dt)}{rows:List Dt}{top:Nat}{L:Nat->List Dt}
theorem ZDb(rows:List Dt):QXb tbl 0 rows rows:=by
 refine⟨rows.map fun d=>[d],?_,?_⟩
 ·induction rows with
  | nil=>exact .nil
  | cons d r ih=>exact .cons rfl ih
 ·induction rows with
  | nil=>rfl
  | cons d r ih=>rw[map_cons,flatten_cons,<- ih];rfl
theorem ZEb{j:Nat}{parts:List (List Dt)}{hs:List Dt}(h:QK tbl (j:Int) parts hs):∀ {ess:List (List Dt)},Paired (JZb tbl j) parts.flatten ess->∃ ess',Paired (JZb tbl (j+1)) hs ess'/\ess'.flatten=ess.flatten:=by
 induction h with
 | nil=>intro ess p;cases p;exact⟨[],.nil,rfl⟩
 | @cons part parts hs n hm r ih =>
  intro ess p;rw[flatten_cons]at p;obtain⟨u1,u2,e,a,b⟩:=X7 p;obtain⟨ess',q,f⟩:=ih b;refine⟨u1.flatten::ess',.cons ⟨_,n,part,u1,rfl,hm,a,rfl⟩ q,?_⟩
  rw[flatten_cons,f,e,flatten_append]
theorem Zf.sub(c:Zf lv tbl rows top L):∀ j,j<=top+1->QXb tbl j (L j) rows:=by
 intro j
 induction j with
 | zero=>intro _;rw[c.low];exact ZDb rows
 | succ j ih =>
  intro h;obtain⟨ess,p,e⟩:=ih (by omega)
  have u:=c.up j (by omega)
  rw[<- (QO (lv:=lv) (j:Int) (L j)).flat]at p;obtain⟨ess',q,f⟩:=ZEb u p;exact⟨ess',q,by rw[f];exact e⟩
theorem Zf.spread(c:Zf lv tbl rows top L){k:V}{n:Int}(e:L (top+1)=[ZV k n]):∃ part,(n,Zl (top:Int) part)∈tbl/\QXb tbl top part rows:=by
 obtain⟨ess,p,f⟩:=c.sub (top+1) (Ve _);rw[e]at p;cases p with
 | cons r t =>
  cases t;obtain⟨k',n',part,es2,e1,hm,q,g⟩:=r;obtain⟨_,rfl⟩:=Jg e1;exact⟨part,hm,es2,q,by rw[f,g];simp⟩
end
end Tr
end
section
namespace L2
open PySem PySem.Spec PyProof.Rows PySem.W
section
variable{prog:Program}{w:World}{A:Around}{E:YQ_}{s:Shared}
end
section
variable{X:Cx}{e:Expr}{te:TE}{p pos p2 pos2:Pos}{pins:YP_}{σ:St}{H:Hp}{s:Shared}
end
theorem J9a:typeLookup (.type "list") "keys"=pure none:=by rw[typeLookup_type,builtinLookup_eq_fast];kernel_rfl
theorem QTa:typeLookup (.type "list") "__getattr__"=pure none:=by rw[typeLookup_type,builtinLookup_eq_fast];kernel_rfl
section
variable{prog:Program}{w:World}{A:Around}{E:YQ_}{h:Heap}{g:Array GenState}{d:Drawn}{t:Nat}{os:OsState}{a:Addr}{its:Array Value}{c:Nat}
theorem QUa{tk:Tok}{Q:PySem.Fin->Shared->Prop}(hh:A.handled=none)(hx:h.get? a=some { cls:=.type "list",dict:=none,data:=.seq its c,slots:=#[] })
 (hE:∀ h' tk e,Heap.NewAttrErr h h' e (.ref a) "keys"->E (.ref e) ⟨h',g,d,tk,os⟩) :
 wpAny (model prog w) A (Builtin.«object.__getattribute__» ⟨[.ref a,.str "keys" tk],[]⟩) Q E ⟨h,g,d,t,os⟩:=by
 have hT:(⟨h,g,d,t,os⟩:Shared).TypeIs (.ref a) "list":=⟨_,hx,rfl⟩;have f4:=J9a
 repeat (any_goals (first | assumption | wp_step))
 exact wpAny_raiseAttrError hh hE (attrMsg_fits (by decide +kernel) (by decide +kernel))
theorem Yaa{tk:Tok}{Q:YQ_}(hh:A.handled=none)(hx:h.get? a=some { cls:=.type "list",dict:=none,data:=.seq its c,slots:=#[] })
 (hE:∀ h' tk e,Heap.NewAttrErr h h' e (.ref a) "keys"->E (.ref e) ⟨h',g,d,tk,os⟩) :
 wpAny (model prog w) A (getAttrBy (.ref a) (.str "keys" tk) false) Q E ⟨h,g,d,t,os⟩:=by
 have hT:(⟨h,g,d,t,os⟩:Shared).TypeIs (.ref a) "list":=⟨_,hx,rfl⟩;have f1:=sub_AttributeError;have f2:=F.slot_list_getattribute.lookup;have f3:=F.slot_list_getattribute.bind (.ref a);have f5:=QTa;unfold getAttrBy
 repeat (any_goals (first | assumption | wp_step))
 refine codeAny_call_builtin F.slot_list_getattribute.plain F.entry_list_ga (F.slot_list_getattribute.check _ _ _ _ _ _ _ _ hT (F.args_list_getattribute_2 _ _) (QUa hh hx fun h' tk' e hx'=>?_))
 obtain⟨t',u',he⟩:=hx'.there;show wpAny _ _ (getattributeRaised _ _ _ _ _ _ _) _ _ _;unfold getattributeRaised
 repeat (any_goals (first | assumption | wp_step))
 exact hE _ _ _ hx'
theorem ZFa{Q:Option Value->Shared->Prop}(hh:A.handled=none)(hx:h.get? a=some { cls:=.type "list",dict:=none,data:=.seq its c,slots:=#[] })
 (hQ:∀ h' tk,(∀ b u,h.get? b=some u->h'.get? b=some u)->Q none ⟨h',g,d,tk,os⟩):wpAny (model prog w) A (getAttr? (.ref a) "keys") Q E ⟨h,g,d,t,os⟩:=by
 unfold getAttr? getAttrBy?;refine Va (wpAny_mkText ?_)
 refine Va (wpAny_attempt (Yaa hh hx fun h' tk e hx'=>?_))
 obtain⟨t',u',he⟩:=hx'.there;have f1:=sub_AttributeError
 repeat (any_goals (first | assumption | wp_step))
 exact hQ _ _ hx'.keeps
end
theorem YN:entryFor table "dict.update.loop"=some Builtin.«dict.update.loop»:=entryFor_of_tree (by kernel_rfl)
theorem Zx:plainId "dict.update.loop"=true:=by decide +kernel
section
variable{prog:Program}{w:World}{K:Type}[DecidableEq K]{knd:KeyKind prog w K}{A:Around}{E:YQ_}{s:Shared}
def Ys(knd:KeyKind prog w K)(h:Heap)(vs:List Value)(kks:List (K×Value)):Prop:=∀ (i:Nat) k x,kks[i]?=some (k,x)->∃ t key,vs[i]?=some (.ref t)/\IsTup h t #[key,x]/\knd.is k key=true
theorem Ys.but{h h':Heap}{vs:List Value}{kks:List (K×Value)}(p:Ys knd h vs kks)(P:Addr->Prop)(hP:∀ t its,IsTup h t its->P t)(hk:∀ b o,P b->h.get? b=some o->h'.get? b=some o):Ys knd h' vs kks:=fun i k x e=>by
 obtain⟨t,key,a,b,c⟩:=p i k x e;have pt:=hP t _ b;obtain⟨o,ho,r⟩:=b;exact⟨t,key,a,⟨o,hk t o pt ho,r⟩,c⟩
theorem ZGa{it l d:Addr}{vs:List Value}{kks:List (K×Value)}(hh:A.handled=none)(hl:kks.length=vs.length)(hb:vs.length<=1000)(hne:it≠d)(hld:l≠d)(hil:l≠it) :
 ∀ (m i:Nat) (tk0:Tok) (s:Shared) (R:Result->Shared->Prop),m=vs.length - i->i<=vs.length->s.heap.IsListIter it l i->s.heap.IsList l vs.toArray->s.heap.DictOf knd d (merged [] (kks.take i))->(merged [] (kks.take i)).length<=i->Ys knd s.heap vs kks ->
  (∀ h' tk,(∀ b o,b≠it->b≠d->s.heap.get? b=some o->h'.get? b=some o)->h'.DictOf knd d (merged [] kks)->R (.ok (.ret .none)) { s with heap:=h',toks:=tk }) ->
  codeAny (model prog w) A (.builtin "dict.update.loop" ⟨[.ref d,.ref it,.int i tk0,.none],[]⟩) R s:=by
 intro m
 induction m with
 | zero =>
  intro i tk0 s R hm hi hit hli hD _ hp hR;have e:i=vs.length:=by omega
  subst e;refine codeAny_builtin YN ?_
  rw[Around.under_plainId Zx _];unfold Builtin.«dict.update.loop»;dsimp only;refine Va (wpAny_pyNext_list_end hh hit hli (by simp) fun h' eb=>?_)
  dsimp only;rw[take_of_length_le (by omega)]at hD
  show wpAny _ _ (Builtin.Dict.addKeywords d [] >>= _) _ _ _;refine Va (Vg (Vg (hR h' s.toks (fun b o h1 h2 e=>eb b o h1 e) (hD.extBut eb (Ne.symm hne)))))
 | succ m ih =>
  intro i tk0 s R hm hi hit hli hD lD hp hR;have hi':i < vs.length:=by omega
  obtain⟨k,x,hki⟩:∃ k x,kks[i]?=some (k,x):=⟨_,_,Vb (by omega)⟩
  obtain⟨t,key,hvi,ht,hkey⟩:=hp i k x hki;refine codeAny_builtin YN ?_
  rw[Around.under_plainId Zx _];unfold Builtin.«dict.update.loop»;dsimp only;refine Va (wpAny_pyNext_list_item hit hli (x:=.ref t) (by simpa using hvi) fun h' hit' sb=>?_)
  dsimp only;obtain⟨ot,hot,hct,nt,hdt⟩:=id ht;have t_it:t≠it:=fun z=>by
   obtain⟨oi,hoi,hci,_⟩:=hit;rw[z,hoi]at hot;cases hot;rw[hci]at hct;exact absurd (Value.type.inj hct) (by decide)
  have t_d:t≠d:=fun z=>by
   obtain⟨od,_,_,hod,hcd,_⟩:=hD;rw[z,hod]at hot;cases hot;have:=hcd.1;rw[this]at hct;exact absurd (Value.type.inj hct) (by decide)
  have hot':h'.get? t=some ot:=(sb.2 t t_it).trans hot;have hD':h'.DictOf knd d (merged [] (kks.take i)):=hD.sameBut sb (Ne.symm hne);refine Va (wpAny_holding (Va (wpAny_tryCatch ?_)))
  unfold Builtin.Dict.pairItems;refine Va (wpAny_typeOf (T:="tuple") ⟨_,hot',hct⟩ ?_)
  rw[if_pos (by decide)]
  refine Va (wpAny_seqItems hot' hdt (Vg ?_))
  show wpAny _ _ (holding [key,x] (dictSet d key x)) _ _ _;refine wpAny_holding (wpAny_dictSet_pairs hkey hD' (fun h2 hD2 sb2=>?_) (Vj lD (Vj (show i<=1000 by omega) (by rw[sizeLine_eq];decide))))
  have et:merged [] (kks.take (i+1))=stored (merged [] (kks.take i)) k x:=by
   unfold merged;rw[take_add_one,hki,foldl_append];rfl
  have keep:∀ b o,b≠it->b≠d->s.heap.get? b=some o->h2.get? b=some o:=fun b o h1 h2 e=>(sb2.2 b h2).trans ((sb.2 b h1).trans e)
  have tup_off:∀ t' its,IsTup s.heap t' its->t'≠it/\t'≠d:=fun t' its ⟨o',ho',hc',_⟩=>by
   constructor
   ·intro z
    obtain⟨oi,hoi,hci,_⟩:=hit;rw[z,hoi]at ho';cases ho';rw[hci]at hc';exact absurd (Value.type.inj hc') (by decide)
   ·intro z
    obtain⟨od,_,_,hod,hcd,_⟩:=hD;rw[z,hod]at ho';cases ho';rw[hcd.1]at hc';exact absurd (Value.type.inj hc') (by decide)
  refine Vg ⟨plainId_quiet Zx _,?_⟩
  refine ih (i+1) _ _ R (by omega) (by omega) ?_ ?_ (by rw[et];exact hD2) ?_ (hp.but (fun b=>b≠it/\b≠d) tup_off fun b o hb e=>keep b o hb.1 hb.2 e) fun h3 tk hk3 hD3=>?_
  ·obtain⟨o,ho,r⟩:=hit'
   exact⟨o,(sb2.2 it hne).trans ho,r⟩
  ·obtain⟨o,ho,r⟩:=hli
   exact⟨o,(sb2.2 l hld).trans ((sb.2 l hil).trans ho),r⟩
  ·rw[et]
   unfold stored
   split
   ·simp;omega
   ·simp;omega
  ·exact hR h3 tk (fun b o h1 h2 e=>hk3 b o h1 h2 (keep b o h1 h2 e)) hD3
theorem ZFb{R:Result->Shared->Prop}{D l:Addr}{vs:List Value}{kks:List (K×Value)}{c:Nat}(hh:A.handled=none)(hnew:s.heap.DictOf knd D [])(hx:s.heap.get? l=some { cls:=.type "list",dict:=none,data:=.seq vs.toArray c,slots:=#[] })(hlD:l≠D)(hl:kks.length=vs.length)(hb:vs.length<=1000)(hp:Ys knd s.heap vs kks)
 (hR:∀ h' tk,(∀ b o,b≠D->s.heap.get? b=some o->h'.get? b=some o)->h'.DictOf knd D (merged [] kks)->R (.ok (.ret .none)) { s with heap:=h',toks:=tk }) :
 wpAny (model prog w) A.in1 (Builtin.«dict.__init__» ⟨[.ref D,.ref l],[]⟩)
  (fun fin s'=>match fin with | .done f=>R (.ok f) s' | .again c'=>c'.quiet=true/\codeAny (model prog w) A c' R s') (fun e s'=>R (.error e) s') s:=by
 unfold Builtin.«dict.__init__»;refine Va ?_
 unfold Builtin.Dict.selfAndRest;refine Va (wpAny_notOrdered_dict hnew.typeIs ?_)
 show wpAny _ _ (pure (D,[Value.ref l])) _ _ _;refine Vg ?_
 show wpAny _ _ (Builtin.Dict.updateFrom "dict.__init__" D (.ref l) [] .none) _ _ _;unfold Builtin.Dict.updateFrom;refine Va (wpAny_typeOf (T:="list") ⟨_,hx,rfl⟩ ?_)
 rw[if_pos (by decide)]
 obtain⟨hp0,g,dr,tk0,os⟩:=s;refine Va (ZFa (A:=A.in1) hh hx fun h1 tk1 keep=>?_)
 rw[if_pos (by decide)]
 refine Va (wpAny_rule ?_)
 have hx1:=keep l _ hx;have hl1:h1.IsList l vs.toArray:=⟨_,hx1,rfl,c,rfl⟩;refine Va (wpAny_pyIter_list (s:=⟨h1,g,dr,tk1,os⟩) hl1 ?_)
 have kp:∀ b o,hp0.get? b=some o->(h1.push { cls:=.type "list_iterator",data:=.fields #[.ref l,.int 0 0] }).get? b=some o:=fun b o e=>Vd _ (keep b o e)
 have szle:∀ b o,hp0.get? b=some o->b < h1.objs.size:=fun b o e=>Vh (keep b o e)
 have hD2:(h1.push { cls:=.type "list_iterator",data:=.fields #[.ref l,.int 0 0] }).DictOf knd D []:=let ⟨o,es,ep,ho,r⟩:=hnew;⟨o,es,ep,kp D o ho,r⟩
 have dlt:D < h1.objs.size:=by obtain⟨o,_,_,ho,_⟩:=hnew;exact szle D o ho
 refine Vg ⟨plainId_quiet Zx _,?_⟩
 refine ZGa (knd:=knd) (A:=A) (it:=h1.objs.size) (l:=l) (d:=D) (vs:=vs) (kks:=kks) hh hl hb (Nat.ne_of_gt dlt) hlD (Nat.ne_of_lt (szle l _ hx)) vs.length 0 _ _ R (by omega) (Vk _) ⟨_,Vi _ rfl,rfl,rfl⟩ ⟨_,kp l _ hx,rfl,c,rfl⟩ hD2 (Vk _) (hp.but (fun _=>True) (fun _ _ _=>trivial) fun b o _ e=>kp b o e) fun h' tk hk hD'=>?_
 exact hR h' tk (fun b o hb e=>hk b o (Nat.ne_of_lt (szle b o e)) hb (kp b o e)) hD'
theorem ZGb{Q:YQ_}{l:Addr}{vs:List Value}{kks:List (K×Value)}{c:Nat}(hh:A.handled=none)(hx:s.heap.get? l=some { cls:=.type "list",dict:=none,data:=.seq vs.toArray c,slots:=#[] })(hl:kks.length=vs.length)(hb:vs.length<=1000)(hp:Ys knd s.heap vs kks)
 (h:∀ h' tk,(∀ b o,s.heap.get? b=some o->h'.get? b=some o)->h'.DictOf knd s.heap.objs.size (merged [] kks)->Q (.ref s.heap.objs.size) { s with heap:=h',toks:=tk }) :
 wpAny (model prog w) A (call (.type "dict") [.ref l]) Q E s:=by
 refine callType_codes (Q₁:=fun obj s₁=>obj=.ref s.heap.objs.size/\s₁={ s with heap:=s.heap.push { cls:=.type "dict",data:=.dict #[] } }) F.kt_called_dict (F.kt_typeCall_dict_1 _) F.entry_dict_init (kt_code_dict_new _ ⟨rfl,rfl⟩) fun obj s₁ h₁=>?_
 obtain⟨rfl,rfl⟩:=h₁;have hnew:(s.heap.push { cls:=.type "dict",data:=.dict #[] }).DictOf knd s.heap.objs.size []:=Heap.DictOf.new s.heap;have hlt:l < s.heap.objs.size:=Vh hx;refine⟨hnew.typeIs,F.args_dict_init_2 _ _,ZFb (A:=A.in1) (knd:=knd) hh hnew (Vd _ hx) (Nat.ne_of_lt hlt) hl hb (hp.but (fun _=>True) (fun _ _ _=>trivial) fun b o _ e=>Vd _ e) fun h' tk hk hD'=>?_⟩
 exact⟨rfl,h h' tk (fun b o e=>hk b o (Nat.ne_of_lt (Vh e)) (Vd _ e)) hD'⟩
end
def QWc:List V->Hp->VK->Prop:=fun xs H Q=>∃ (p:Addr) (ys:List V) (kvs:List (Key×V)),xs=[.ref p]/\H p=some (.lst ys)/\ys.length<=1000/\Paired (fun(kv:Key×V) y=>∃ t,y=.ref t/\H t=some (.tup [kV kv.1,kv.2])) kvs ys/\∀ D,H D=none->Q (.ref D) (upd H D (.dK (JW [] kvs)))
theorem Xca{X:Cx}{pins:YP_}{σ:St}{H:Hp}{s:Shared}(I:Inv X pins σ H s):∀ {kvs:List (Key×V)} {ys:List V} {its:List Value},Paired (fun(kv:Key×V) y=>∃ t,y=V.ref t/\H t=some (.tup [kV kv.1,kv.2])) kvs ys->Qv ys its ->
 ∃ kks:List (Key×Value),KV kvs kks/\Ys (QL X.prog X.w) s.heap its kks
 | [],_,_,.nil,v=>by cases v;exact⟨[],.nil,fun i k x e=>by simp at e⟩
 | kv::kvs,_,_,.cons r p,v=>by
  cases v with
  | cons rv v =>
   obtain⟨t,rfl,ht⟩:=r;obtain⟨kks,a,b⟩:=Xca I p v;cases rv;obtain⟨hz,jts,rj,hj⟩:=(show QB X.prog X.w H s.heap t (.tup [kV kv.1,kv.2]) from I.hok t _ ht)
   cases rj with
   | @cons _ key _ _ r1 rj =>
   cases rj with
   | @cons _ x _ _ r2 rj =>
   cases rj;refine⟨(kv.1,x)::kks,.cons ⟨rfl,r2⟩ a,fun i k y e=>?_⟩
   cases i with
   | zero =>
    simp at e;obtain⟨rfl,rfl⟩:=e;exact⟨t,key,rfl,hj,(Xjb r1).1⟩
   | succ i =>
    simp at e;obtain⟨t',key',h1,h2,h3⟩:=b i k y e;exact⟨t',key',by simpa using h1,h2,h3⟩
theorem X2a{X:Cx}(hh:X.A.handled=none):Xp X (.type "dict") QWc:=by
 intro pins s σ H xs us Q I r h;obtain⟨p,ys,kvs,rfl,hp,lz,pr,q⟩:=h;obtain⟨u,rfl,ru⟩:=Zka r;obtain rfl:u=Value.ref p:=ru;obtain⟨hz,its,n,rv,hx⟩:=(show QB X.prog X.w H s.heap p (.lst ys) from I.hok p _ hp)
 obtain⟨kks,kv,pa⟩:=Xca I pr rv;have l1:=Paired.length pr;have l2:=rv.length;have l3:=kv.length;refine ZGb (knd:=QL X.prog X.w) hh hx (by omega) (by omega) pa fun h' tk kp hD=>?_
 have hzz:(JW [] kvs).length<=sizeLine:=by
  have h1:=Xt kvs [];rw[length_nil]at h1;rw[sizeLine_eq];omega
 exact⟨.ref s.heap.objs.size,_,I.laid (a:=s.heap.objs.size) (o:=.dK (JW [] kvs)) (t':=tk) kp (Ve _) ⟨hzz,beq_eq_false_iff_ne.mpr (Ne.symm (Nat.ne_of_lt I.big)),_,kv.merge .nil,hD⟩,rfl,q _ (I.hok.fresh (Ve _))⟩
theorem Xpb:bootBuiltins "dict"=some (.type "dict"):=by rfl
section
variable{prog:Program}{w:World}{A:Around}{E:YQ_}{h:Heap}{g:Array GenState}{d:Drawn}{t:Nat}{os:OsState}{a:Addr}{its:Array Value}{c:Nat}{sl:Array (Option Value)}
end
section
variable{prog:Program}{w:World}{K:Type}[DecidableEq K]{knd:KeyKind prog w K}{A:Around}{E:YQ_}{s:Shared}
end
theorem JC{α β:Type}{F:α->β->Prop}:∀ {a:List α} {b:List β} {c:List α} {d:List β},Paired F a b->Paired F c d->Paired F (a++c) (b++d)
 | _,_,_,_,.nil,h=>h
 | _,_,_,_,.cons r t,h=>.cons r (JC t h)
section
variable{prog:Program}{w:World}{K:Type}[DecidableEq K]{knd:KeyKind prog w K}{A:Around}{E:YQ_}{s:Shared}
end
section
variable{prog:Program}{w:World}{A:Around}{E:YQ_}{s:Shared}
section
variable{it a:Addr}{i ep:Nat}{es:Array (Int×Value)}{t:SetTable}{Q:Option Value->Shared->Prop}
end
section
variable{a:Addr}{i ep slot:Nat}{es:Array (Int×Value)}{t:SetTable}{R:Option (Value×Nat)->Shared->Prop}
end
end
section
variable{prog:Program}{w:World}{A:Around}{E:YQ_}{s:Shared}
section
variable{it a tp:Addr}{ep:Nat}{es:Array (Int×Value)}{t:SetTable}
end
section
variable{a:Addr}{ep:Nat}{es:Array (Int×Value)}{t:SetTable}
end
end
section
variable{X:Cx}{pins:YP_}{σ:St}{H:Hp}{s:Shared}{A:Around}{E:YQ_}
end
section
variable{X:Cx}{e:Expr}{te:TE}{p pos p2 pos2:Pos}{pins:YP_}{σ:St}{H:Hp}{s:Shared}
end
section
variable{X:Cx}{e:Expr}{te:TE}{p pos p2 pos2:Pos}{pins:YP_}{σ:St}{H:Hp}{s:Shared}
end
end L2
end
section
namespace Rw
open PySem L2 Pl
end Rw
end
section
open L2 PySem
namespace Tr
section
variable{lv:V->Nat}{l:Int}
theorem J0b{A B:List (List Dt)}{x:Dt}(h:B≠[]):step lv l (A++B) x=A++step lv l B x:=by
 obtain⟨ini,last,rfl⟩:=Yr h;unfold step
 by_cases c:l < lv (QM x)
 ·rw[if_pos (.inr c),if_pos (.inr c),Vq]
 ·rw[if_neg (fun z=>z.elim (fun z=>by simp at z) c),if_neg (fun z=>z.elim (fun z=>by simp at z) c)]
  rw[<- Vq,dropLast_concat,dropLast_concat,getLast?_concat,getLast?_concat,Vq]
theorem Xda{X Y:List Dt}(h:X=[]\/Y=[]\/l < lv (JJ Y)):QJ lv l (X++Y)=QJ lv l X++QJ lv l Y:=by
 rcases h with h | h | h
 ·rw[h];rfl
 ·rw[h,append_nil];unfold QJ;simp
 ·by_cases hY:Y=[]
  ·rw[hY,append_nil];unfold QJ;simp
  revert h hY
  refine YZ (C:=fun Y=>l < lv (JJ Y)->Y≠[]->QJ lv l (X++Y)=QJ lv l X++QJ lv l Y) (fun _ z=>absurd rfl z) (fun Y x ih h _=>?_) Y
  rw[<- Vq,Jx,Jx]
  by_cases e:Y=[]
  ·subst e
   rw[append_nil];unfold step;rw[if_pos (.inr h),if_pos (.inl rfl)];rfl
  ·rw[ih (by cases Y with | nil=>exact absurd rfl e | cons y r=>exact h) e,J0b (Xk e)]
theorem Xea{es:List Dt}{parts:List (List Dt)}(c:JK lv l es parts):QJ lv l es=parts:=by
 revert es
 refine YZ (C:=fun parts=>∀ {es:List Dt},JK lv l es parts->QJ lv l es=parts) (fun {es} c=>?_) (fun ps p ih es c=>?_) parts
 ·have:=c.flat;simp at this;rw[this];rfl
 have hp:=c.full p (by simp)
 obtain⟨x,r,rfl⟩:∃ x r,p=x::r:=by cases p with | nil=>exact absurd rfl hp | cons x r=>exact⟨x,r,rfl⟩
 have c':JK lv l ps.flatten ps:=⟨rfl,fun q hq=>c.full q (mem_append_left _ hq),fun i y s hi e=>c.head i y s hi (by rw[getElem?_append_left (Vc.mp e).1];exact e),fun y s hy=>c.rest y s (mem_append_left _ hy)⟩
 have fl:=c.flat;rw[flatten_append]at fl;simp at fl;rw[<- fl];have h1:ps.flatten=[]\/(x::r)=[]\/l < lv (JJ (x::r)):=by
  by_cases e:ps=[]
  ·exact .inl (by rw[e];rfl)
  ·refine .inr (.inr ?_)
   exact c.head ps.length x r (length_pos_iff.mpr e) (by simp)
 rw[Xda h1,ih c']
 congr 1
 have h2:∀ y∈r,(lv (QM y):Int)<=l:=c.rest x r (by simp)
 clear fl h1 c' hp c ih
 revert h2
 refine YZ (C:=fun r=>(∀ y∈r,(lv (QM y):Int)<=l)->QJ lv l (x::r)=[x::r]) (fun _=>?_) (fun r y ih h=>?_) r
 ·unfold QJ step;simp
 ·rw[show x::(r++[y])=(x::r)++[y] from rfl,Jx,ih fun z hz=>h z (mem_append_left _ hz)]
  have:=h y (by simp)
  unfold step;rw[if_neg (fun z=>z.elim (fun z=>by simp at z) fun z=>by omega)]
  rfl
theorem JK.left{es:List Dt}{P Q:List (List Dt)}(c:JK lv l es (P++Q)):JK lv l P.flatten P:=⟨rfl,fun q hq=>c.full q (mem_append_left _ hq),fun i y s hi e=>c.head i y s hi (by rw[getElem?_append_left (Vc.mp e).1];exact e),fun y s hy=>c.rest y s (mem_append_left _ hy)⟩
theorem JK.right{es:List Dt}{P Q:List (List Dt)}(c:JK lv l es (P++Q)):JK lv l Q.flatten Q:=⟨rfl,fun q hq=>c.full q (Vp _ hq),fun i y s hi e=>c.head (P.length+i) y s (by omega) (by rw[getElem?_append_right (by omega),Nat.add_sub_cancel_left];exact e),fun y s hy=>c.rest y s (Vp _ hy)⟩
end
section
variable{tbl tbl':List (Int×Dt)}{l:Int}
theorem QK.split:∀ {hs hs':List Dt} {P:List (List Dt)},QK tbl l P (hs++hs')->∃ P1 P2,P=P1++P2/\QK tbl l P1 hs/\QK tbl l P2 hs'
 | [],hs',P,h=>⟨[],P,rfl,.nil,h⟩
 | x::hs,hs',P,h=>by
  rw[cons_append]at h;generalize e:x::(hs++hs')=q at h;cases h with
  | nil=>cases e
  | @cons part parts _ n m r =>
   injection e with e1 e2
   subst e1 e2;obtain⟨P1,P2,rfl,a,b⟩:=QK.split r;exact⟨part::P1,P2,rfl,.cons m a,b⟩
end
def Tow(lv:V->Nat)(tbl:List (Int×Dt)):Nat->List Dt->List Dt->Prop
 | 0,R,hs=>hs=R
 | l+1,R,hs=>∃ gs,Tow lv tbl l R gs/\QK tbl l (QJ lv l gs) hs
section
variable{lv:V->Nat}{tbl tbl':List (Int×Dt)}
theorem Tow.det(f:Fn tbl):∀ {l:Nat} {R hs hs':List Dt},Tow lv tbl l R hs->Tow lv tbl l R hs'->hs=hs'
 | 0,_,_,_,h,h'=>h.trans h'.symm
 | l+1,_,_,_,⟨gs,a,b⟩,⟨gs',a',b'⟩=>by
  have:=Tow.det f a a';subst this;exact b.det f b'
theorem JGa{P:List (List Dt)}{p:List Dt}(h:p≠[]):JJ ((p::P).flatten)=JJ p:=by
 cases p with
 | nil=>exact absurd rfl h
 | cons x r=>rfl
theorem Tow.fst:∀ {l:Nat} {R hs:List Dt},Tow lv tbl l R hs->(R=[]↔hs=[])/\JJ hs=JJ R
 | 0,_,_,h=>by rw[show _=_ from h];exact⟨Iff.rfl,rfl⟩
 | l+1,R,hs,⟨gs,a,b⟩=>by
  obtain⟨h1,h2⟩:=a.fst;have c:=QO (lv:=lv) (l:Int) gs;generalize QJ lv l gs=P at b c;cases b with
  | nil =>
   have:=c.flat;simp at this;subst this;exact⟨⟨fun _=>rfl,fun _=>h1.mpr rfl⟩,h2⟩
  | @cons part parts hs n m r =>
   have fu:=c.full part (by simp)
   have fl:=c.flat;refine⟨⟨fun e=>?_,fun e=>by cases e⟩,?_⟩
   ·rw[h1.mp e]at fl
    simp at fl;exact absurd fl.1 fu
   ·rw[<- h2,<- fl,JGa fu];rfl
theorem Tow.ne'{l:Nat}{R hs:List Dt}(h:Tow lv tbl l R hs)(n:hs≠[]):R≠[]:=fun z=>n (h.fst.1.mp z)
theorem Tow.split:∀ {l:Nat} {R a b:List Dt},Tow lv tbl l R (a++b)->∃ A B,R=A++B/\Tow lv tbl l A a/\Tow lv tbl l B b/\(a=[]\/b=[]\/l<=lv (JJ B))
 | 0,R,a,b,h=>⟨a,b,(show _=R from h).symm,rfl,rfl,.inr (.inr (Vk _))⟩
 | l+1,R,a,b,⟨gs,h1,h2⟩=>by
  obtain⟨P,Q,e,hP,hQ⟩:=h2.split;have c:=QO (lv:=lv) (l:Int) gs;rw[e]at c;have eg:gs=P.flatten++Q.flatten:=by rw[<- flatten_append];exact c.flat.symm
  rw[eg]at h1;obtain⟨A,B,eR,tA,tB,hc⟩:=h1.split;refine⟨A,B,eR,⟨_,tA,by rw[Xea c.left];exact hP⟩,⟨_,tB,by rw[Xea c.right];exact hQ⟩,?_⟩
  by_cases ea:a=[]
  ·exact .inl ea
  by_cases eb:b=[]
  ·exact .inr (.inl eb)
  refine .inr (.inr ?_)
  rw[<- tB.fst.2];cases hQ with
  | nil=>exact absurd rfl eb
  | @cons part parts hs n m r =>
   have fu:=c.full part (by simp)
   rw[JGa fu];have hp:0 < P.length:=by rw[<- hP.length];exact length_pos_iff.mpr ea
   obtain⟨x,s,rfl⟩:∃ x s,part=x::s:=by cases part with | nil=>exact absurd rfl fu | cons x s=>exact⟨x,s,rfl⟩
   have:=c.head P.length x s hp (by simp)
   show l+1<=lv (QM x)
   omega
theorem Tow.one{l:Nat}{R:List Dt}{h:Dt}(t:Tow lv tbl (l+1) R [h]):∃ n part,h=ZV (JJ R) n/\(n,Zl (l:Int) part)∈tbl/\Tow lv tbl l R part/\QJ lv l part=[part]:=by
 obtain⟨gs,a,b⟩:=t;have c:=QO (lv:=lv) (l:Int) gs;generalize e:QJ lv l gs=P at b c;cases b with
 | @cons part parts hs n m r =>
  cases r;have fl:=c.flat;simp at fl;subst fl;exact⟨n,part,by rw[a.fst.2],m,a,e⟩
theorem Zf.tow{rows:List Dt}{top:Nat}{L:Nat->List Dt}(c:Zf lv tbl rows top L):∀ j,j<=top+1->Tow lv tbl j rows (L j):=by
 intro j
 induction j with
 | zero=>intro _;exact c.low
 | succ j ih=>intro h;exact⟨L j,ih (by omega),c.up j (by omega)⟩
end
section
variable(lt:V->V->Prop)
def ZHb(k:V)(row:Dt)(R R':List Dt):Prop:=∃ A C,R'=A++row::C/\(R=A++C\/∃ o,R=A++o::C/\QM o=k)/\(∀ a∈A,lt (QM a) k)/\∀ c∈C,lt k (QM c)
def J1b(k:V)(R R':List Dt):Prop:=∃ A o C,R=A++o::C/\R'=A++C/\QM o=k
def UpR(R:List Dt):Prop:=R.Pairwise fun a b=>lt (QM a) (QM b)
variable{lt}
theorem UpR.left{A B:List Dt}(h:UpR lt (A++B)):UpR lt A:=(pairwise_append.mp h).1
theorem UpR.right{A B:List Dt}(h:UpR lt (A++B)):UpR lt B:=(pairwise_append.mp h).2.1
theorem UpR.across{A B:List Dt}(h:UpR lt (A++B)){a b:Dt}(ha:a∈A)(hb:b∈B):lt (QM a) (QM b):=(pairwise_append.mp h).2.2 a ha b hb
theorem ZHb.up{k:V}{row:Dt}{R R':List Dt}(h:ZHb lt k row R R')(u:UpR lt R)(hk:QM row=k)(tr:∀ {a b c},lt a b->lt b c->lt a c):UpR lt R':=by
 obtain⟨A,C,e,e2,h1,h2⟩:=h;have uAC:UpR lt A/\UpR lt C:=by
  rcases e2 with e2 | ⟨o,e2,ho⟩
  ·rw[e2]at u;exact⟨u.left,u.right⟩
  ·rw[e2]at u;exact⟨u.left,(pairwise_cons.mp u.right).2⟩
 rw[e];refine pairwise_append.mpr ⟨uAC.1,pairwise_cons.mpr ⟨fun c hc=>by rw[hk];exact h2 c hc,uAC.2⟩,fun a ha b hb=>?_⟩
 rcases mem_cons.mp hb with z | z
 ·rw[z,hk];exact h1 a ha
 ·exact tr (h1 a ha) (h2 b z)
theorem J1b.up{k:V}{R R':List Dt}(h:J1b k R R')(u:UpR lt R):UpR lt R':=by
 obtain⟨A,o,C,e,e2,h1⟩:=h;rw[e]at u;rw[e2];exact u.sublist (List.Sublist.append_left (sublist_cons_self _ _) _)
theorem ZHb.mem{k:V}{row:Dt}{R R':List Dt}(h:ZHb lt k row R R')(irr:∀ a,¬ lt a a)(x:Dt):x∈R'↔x=row\/(x∈R/\QM x≠k):=by
 obtain⟨A,C,e,e2,h1,h2⟩:=h;have ne:∀ y,y∈A\/y∈C->QM y≠k:=fun y hy z=>by
  rcases hy with hy | hy
  ·have:=h1 y hy;rw[z]at this;exact irr _ this
  ·have:=h2 y hy;rw[z]at this;exact irr _ this
 rw[e]
 constructor
 ·intro h
  rcases Vl.mp h with h | h
  ·refine .inr ⟨?_,ne x (.inl h)⟩
   rcases e2 with e2 | ⟨o,e2,_⟩ <;> rw[e2] <;> simp[h]
  ·rcases mem_cons.mp h with h | h
   ·exact .inl h
   ·refine .inr ⟨?_,ne x (.inr h)⟩
    rcases e2 with e2 | ⟨o,e2,_⟩ <;> rw[e2] <;> simp[h]
 ·rintro(h | ⟨h,hk⟩)
  ·simp[h]
  ·rcases e2 with e2 | ⟨o,e2,ho⟩
   ·rw[e2]at h
    rcases Vl.mp h with h | h <;> simp[h]
   ·rw[e2]at h
    rcases Vl.mp h with h | h
    ·simp[h]
    ·rcases mem_cons.mp h with h | h
     ·rw[h]at hk;exact absurd ho hk
     ·simp[h]
theorem J1b.mem{k:V}{R R':List Dt}(h:J1b k R R')(u:UpR lt R)(irr:∀ a,¬ lt a a)(x:Dt):x∈R'↔x∈R/\QM x≠k:=by
 obtain⟨A,o,C,e,e2,h1⟩:=h;rw[e]at u ⊢;rw[e2];have hA:∀ a∈A,QM a≠k:=fun a ha z=>by
  have:=u.across ha (mem_cons_self (a:=o) (l:=C));rw[z,h1]at this;exact irr _ this
 have hC:∀ c∈C,QM c≠k:=fun c hc z=>by
  have:=(pairwise_cons.mp u.right).1 c hc;rw[z,h1]at this;exact irr _ this
 constructor
 ·intro h
  rcases Vl.mp h with h | h
  ·exact⟨by simp[h],hA x h⟩
  ·exact⟨by simp[h],hC x h⟩
 ·rintro⟨h,hk⟩
  rcases Vl.mp h with h | h
  ·simp[h]
  ·rcases mem_cons.mp h with h | h
   ·rw[h]at hk;exact absurd h1 hk
   ·simp[h]
end
section
variable{lv:V->Nat}{tbl:List (Int×Dt)}
structure J2b(lv:V->Nat)(tbl:List (Int×Dt))(R:List Dt)(top:Nat)(n:Int):Prop where
 one:∃ k,Tow lv tbl (top+1) R [ZV k n]
 two:∀ j hs,1<=j->j<=top->Tow lv tbl j R hs->1 < hs.length
theorem Zf.toRoot{rows:List Dt}{top:Nat}{L:Nat->List Dt}{k:V}{n:Int}(f:Fn tbl)(c:Zf lv tbl rows top L)(e:L (top+1)=[ZV k n]):J2b lv tbl rows top n :=
 ⟨⟨k,by have:=c.tow (top+1) (Ve _);rw[e]at this;exact this⟩,fun j hs h1 h2 t=>by rw[t.det f (c.tow j (by omega))];exact c.two j h1 h2⟩
theorem J2b.page{R:List Dt}{top:Nat}{n:Int}(r:J2b lv tbl R top n):∃ part,(n,Zl (top:Int) part)∈tbl/\Tow lv tbl top R part/\QJ lv top part=[part]/\R≠[]:=by
 obtain⟨k,t⟩:=r.one;obtain⟨n',part,e,hm,tp,hc⟩:=t.one;obtain⟨_,rfl⟩:=Jg e;exact⟨part,hm,tp,hc,t.ne' (by simp)⟩
end
section
variable{lv:V->Nat}{tbl:List (Int×Dt)}
theorem ZHa{l:Int}{e:Dt}:∀ (r:List Dt),(QJ lv l (e::r)).map JJ=QM e::(r.map QM).filter fun k=>decide (l < lv k):=by
 refine YZ rfl fun r x ih=>?_
 rw[show e::(r++[x])=(e::r)++[x] from rfl,Jx]
 have c:=QO (lv:=lv) l (e::r);have hne:=Xk (lv:=lv) (l:=l) (es:=e::r) (by simp)
 generalize QJ lv l (e::r)=P at ih c hne;obtain⟨ini,last,rfl⟩:=Yr hne;unfold step
 by_cases h:l < lv (QM x)
 ·rw[if_pos (.inr h),map_append,ih,map_append,filter_append]
  simp[h,JJ]
 ·rw[if_neg (fun z=>z.elim (fun z=>by simp at z) h),dropLast_concat,getLast?_concat,Option.getD_some]
  rw[map_append]at ih ⊢;have fu:=c.full last (by simp)
  have e1:JJ (last++[x])=JJ last:=by cases last with | nil=>exact absurd rfl fu | cons y s=>rfl
  rw[map_cons,e1,map_nil];rw[map_cons,map_nil]at ih;rw[ih,map_append,filter_append];simp[h]
theorem Tow.keys:∀ {l:Nat} {e:Dt} {r hs:List Dt},Tow lv tbl (l+1) (e::r) hs->hs.map QM=QM e::(r.map QM).filter fun k=>decide (l < lv k)
 | 0,e,r,hs,⟨gs,a,b⟩=>by
  rw[show gs=_ from a]at b
  rw[b.keys,ZHa]
  congr 1
  exact filter_congr fun k _=>by simp
 | l+1,e,r,hs,⟨gs,a,b⟩=>by
  have ih:=Tow.keys a;rw[b.keys];cases gs with
  | nil=>cases ih
  | cons g gr =>
   rw[map_cons]at ih;injection ih with i1 i2
   rw[ZHa,i1,i2,filter_filter]
   congr 1
   refine filter_congr fun k _=>?_
   rw[<- Bool.decide_and];exact decide_eq_decide.mpr (by omega)
theorem Tow.many{l:Nat}{R hs:List Dt}(h:Tow lv tbl (l+1) R hs)(hR:R≠[]):hs.length=1+(((R.map QM).tail).filter fun k=>decide (l < lv k)).length:=by
 cases R with
 | nil=>exact absurd rfl hR
 | cons e r =>
  have:=congrArg List.length h.keys;rw[Vr,length_cons]at this;rw[this,Nat.add_comm];rfl
variable{lt:V->V->Prop}
end
section
variable(lt:V->V->Prop)(tbl:List (Int×Dt))(k:V)
end
section
variable{lt:V->V->Prop}{tbl tbl':List (Int×Dt)}{k:V}
end
section
variable{lv:V->Nat}{tbl:List (Int×Dt)}
end
end Tr
end
section
namespace L2
open PySem PySem.Spec PyProof.Rows
section
variable{X:Cx}
end
end L2
end
section
namespace L2
open PySem PySem.Spec PyProof.Rows PySem.W
section
variable{prog:Program}{w:World}{A:Around}{E:YQ_}{s:Shared}{κ:SortKind}{ks vs:List Value}{r:Nat->Nat}
end
section
variable{X:Cx}{pins:YP_}{σ:St}{H:Hp}{s:Shared}{A:Around}{E:YQ_}
end
end L2
end
section
namespace L2
open PySem PySem.Spec PyProof.Rows
section
variable{X:Cx}
end
end L2
end
section
open L2 PySem
namespace Tr
section
variable{lv:V->Nat}{tbl:List (Int×Dt)}
section
variable{lt:V->V->Prop}
end
end
end Tr
end
section
namespace L2
open PySem PySem.W PyProof.Rows
section
variable{X:Cx}{pins:YP_}{σ:St}{H:Hp}{s:Shared}
end
end L2
end
section
open L2 PySem
namespace Tr
def Pgs(tbl:List (Int×Dt))(l:Int):List Int->List Dt->Prop
 | [],es=>es=[]
 | n::ns,es=>∃ part rest,((n,Zl l part)∈tbl/\part≠[])/\Pgs tbl l ns rest/\es=part++rest
def Lev(tbl:List (Int×Dt)):Nat->List Int->List Dt->Prop
 | 0,ns,R=>Pgs tbl 0 ns R
 | l+1,ns,R=>∃ es,Pgs tbl ((l+1:Nat):Int) ns es/\(∀ d∈es,∃ k n,d=ZV k n)/\Lev tbl l (es.map Qta) R
section
variable{lv:V->Nat}{tbl:List (Int×Dt)}
theorem Pgs.det(f:Fn tbl){l:Int}:∀ {a:List Int} {A B:List Dt},Pgs tbl l a A->Pgs tbl l a B->A=B
 | [],A,B,h,h'=>by rw[show A=[] from h,show B=[] from h']
 | n::a,A,B,⟨part,rest,m,h,e⟩,⟨part',rest',m',h',e'⟩=>by
  rw[e,e',(Q7 (f.num _ _ _ m.1 m'.1)).2,Pgs.det f h h']
theorem Lev.det(f:Fn tbl):∀ {l:Nat} {a:List Int} {A B:List Dt},Lev tbl l a A->Lev tbl l a B->A=B
 | 0,a,A,B,h,h'=>Pgs.det f h h'
 | l+1,a,A,B,⟨es,p,_,h⟩,⟨es',p',_,h'⟩=>by
  have:=p.det f p';subst this;exact h.det f h'
theorem QK.pgs{l:Int}{parts:List (List Dt)}{hs:List Dt}(h:QK tbl l parts hs)(full:∀ p∈parts,p≠[]):Pgs tbl l (hs.map Qta) parts.flatten:=by
 induction h with
 | nil=>rfl
 | @cons part parts hs n h r ih=>exact⟨part,parts.flatten,⟨h,full part mem_cons_self⟩,ih fun p hp=>full p (Vo _ hp),by simp⟩
theorem Tow.lev:∀ {l:Nat} {R hs:List Dt},Tow lv tbl (l+1) R hs->Lev tbl l (hs.map Qta) R
 | 0,R,hs,⟨gs,a,b⟩=>by
  have:=b.pgs (QO (lv:=lv) _ gs).full;rw[(QO (lv:=lv) _ gs).flat,show gs=R from a]at this
  exact this
 | l+1,R,hs,⟨gs,a,b⟩=>by
  have:=b.pgs (QO (lv:=lv) _ gs).full;rw[(QO (lv:=lv) _ gs).flat]at this;obtain⟨gs',a',b'⟩:=id a;exact⟨gs,this,(fun d hd=>let ⟨part,_,n,e,_⟩:=b'.mem hd;⟨_,n,e⟩),a.lev⟩
end
end Tr
end
section
open PySem
namespace L2
section
variable{X:Cx}{pins:YP_}{σ:St}{H:Hp}{s:Shared}{a b:Addr}{kvs more:List (Key×V)}{A:Around}{E:YQ_}
end
section
variable{X:Cx}{o e:Expr}{apos cpos:Pos}{td ty:TE}
end
end L2
end
section
namespace L2
open PySem PySem.Spec PyProof.Rows
section
variable{X:Cx}{m:Str}{k:Nat}{ta:TE}{t:TA}{e o:Expr}{es:List Expr}{pos apos:Pos}{pl:Sem Bool}{f:Addr}{fd:FuncData}{ps:List Str}{sp:Sp}
end
end L2
end
section
open PySem L2
namespace Tr
section
variable{lv:V->Nat}{tbl tbl':List (Int×Dt)}
def PgR(lv:V->Nat)(tbl:List (Int×Dt))(l:Nat)(n:Int)(M:List Dt):Prop:=M≠[]/\Tow lv tbl (l+1) M [ZV (JJ M) n]
theorem PgR.page{l:Nat}{n:Int}{M:List Dt}(h:PgR lv tbl l n M):∃ part,(n,Zl (l:Int) part)∈tbl/\Tow lv tbl l M part:=by
 obtain⟨n',part,e,hm,t,_⟩:=h.2.one;obtain⟨_,rfl⟩:=Jg e;exact⟨part,hm,t⟩
theorem PgR.num{l:Nat}{n n':Int}{M:List Dt}(f:Fn tbl)(h:PgR lv tbl l n M)(h':PgR lv tbl l n' M):n=n':=by
 have:=h.2.det f h'.2;injection this with this
 exact(Jg this).2
theorem PgR.rows{l l':Nat}{n:Int}{M M':List Dt}(f:Fn tbl)(h:PgR lv tbl l n M)(h':PgR lv tbl l' n M'):l=l'/\M=M':=by
 obtain⟨p,m,_⟩:=h.page;obtain⟨p',m',_⟩:=h'.page;have e:=(Q7 (f.num _ _ _ m m')).1;obtain rfl:l=l':=by omega
 have a:Lev tbl l [n] M:=h.2.lev;have b:Lev tbl l [n] M':=h'.2.lev;exact⟨rfl,a.det f b⟩
theorem J2b.pgr{R:List Dt}{top:Nat}{n:Int}(r:J2b lv tbl R top n):PgR lv tbl top n R:=by
 obtain⟨part,hm,t,c,hR⟩:=r.page;refine⟨hR,part,t,?_⟩
 rw[c,<- t.fst.2];exact .cons hm .nil
def pre(lv:V->Nat):Nat->List Dt->List (Nat×List Dt)
 | 0,M=>[(0,M)]
 | l+1,M=>(l+1,M)::((QJ lv (l:Int) M).map (pre lv l)).flatten
theorem Xqb{l:Nat}{M:List Dt}{h:Dt}(t:Tow lv tbl (l+1) M [h]):QJ lv (l:Int) M=[M]:=by
 have hM:M≠[]:=t.ne' (by simp)
 cases M with
 | nil=>exact absurd rfl hM
 | cons e r =>
  have k:=t.keys;have c:=ZHa (lv:=lv) (l:=(l:Int)) (e:=e) r;have fl:=(QO (lv:=lv) (l:Int) (e::r)).flat;have k2:(r.map QM).filter (fun k=>decide (l < lv k))=[]:=by
   simp only[map_cons,map_nil]at k;injection k with _ k
   exact k.symm
  have k3:(r.map QM).filter (fun k=>decide ((l:Int) < (lv k:Int)))=[]:=by
   rw[<- k2]
   congr 1
   funext k
   simp
  rw[k3]at c;generalize QJ lv (l:Int) (e::r)=ps at c fl;have c:=congrArg List.length c
  match ps with
  | []=>simp at c
  | [x]=>simpa using fl
  | x::y::r=>simp at c
theorem Tow.blocks{l:Nat}:∀ {hs M:List Dt},Tow lv tbl (l+1) M hs->Paired (fun h B=>∃ n,h=ZV (JJ B) n/\PgR lv tbl l n B) hs (QJ lv (l:Int) M)
 | [],M,t=>by
  have:M=[]:=t.fst.1.mpr rfl;subst this;exact .nil
 | h::b,M,t=>by
  obtain⟨A,B,rfl,tA,tB,c⟩:=Tow.split (a:=[h]) t;have hA:A≠[]:=tA.ne' (by simp)
  obtain⟨n,part,e,_⟩:=tA.one;rw[Xda (by
   rcases c with c | c | c
   ·cases c
   ·exact .inr (.inl (tB.fst.1.mpr c))
   ·exact .inr (.inr (by omega))),Xqb tA]
  exact .cons ⟨n,e,hA,by rw[<- e];exact tA⟩ tB.blocks
theorem X8{l:Int}(M:List Dt):(QJ lv l M).flatten=M:=(QO (lv:=lv) l M).flat
def Xfa(lv:V->Nat)(tbl:List (Int×Dt))(ns:List Int)(xs:List (Nat×List Dt)):Prop:=Paired (fun n x=>PgR lv tbl x.1 n x.2) ns xs
theorem Xga{α β:Type}(f:α->List β)(w:α->Nat):∀ {xs:List α},(∀ x∈xs,(f x).length<=w x)->((xs.map f).flatten).length<=(xs.map w).sum
 | [],_=>Ve _
 | x::xs,h=>by
  have:=Xga f w (xs:=xs) fun y hy=>h y (Vo _ hy)
  have:=h x (by simp)
  simp only[map_cons,flatten_cons,Vs,sum_cons]
  omega
theorem QYb{α:Type}(c:Nat):∀ (xs:List (List α)),(xs.map fun x=>c * x.length).sum=c * xs.flatten.length
 | []=>by simp
 | x::xs=>by
  have:=QYb c xs;simp only[map_cons,sum_cons,flatten_cons,Vs,Nat.mul_add]
  omega
theorem Q8a:∀ {l:Nat} {M:List Dt},M≠[]->(pre lv l M).length<=(l+1) * M.length
 | 0,M,h=>by
  have:=length_pos_iff.mpr h;simp[pre];omega
 | l+1,M,h=>by
  have h1:=Xga (pre lv l) (fun x=>(l+1) * x.length) (xs:=QJ lv (l:Int) M) fun x hx=>Q8a ((QO (lv:=lv) (l:Int) M).full x hx)
  rw[QYb,X8]at h1;have:=length_pos_iff.mpr h;have e:(l+1+1) * M.length=(l+1) * M.length+M.length:=Nat.succ_mul _ _;simp only[pre,length_cons]
  omega
theorem QZb:∀ {l:Nat} {M:List Dt} {x:Nat×List Dt},M≠[]->x∈pre lv l M->x.1<=l/\x.2≠[]/\x.2.Sublist M
 | 0,M,x,h,hx=>by
  rw[mem_singleton.mp hx];exact⟨Ve _,h,List.Sublist.refl _⟩
 | l+1,M,x,h,hx=>by
  rcases mem_cons.mp hx with e | hx
  ·rw[e];exact⟨Ve _,h,List.Sublist.refl _⟩
  ·obtain⟨ps,hp,hx⟩:=mem_flatten.mp hx
   obtain⟨B,hB,rfl⟩:=mem_map.mp hp;obtain⟨a,b,c⟩:=QZb ((QO (lv:=lv) (l:Int) M).full B hB) hx;refine⟨by omega,b,c.trans ?_⟩
   have:=sublist_flatten_of_mem hB;rw[X8]at this;exact this
end
end Tr
end
section
namespace PySem
section
variable{prog:Program}{w:World}{K:Type}[DecidableEq K]{knd:HeapKind prog w K}{A:Around}{E:YQ_}{s:Shared}
theorem YS{d a:Addr}{xs:List (K×Addr×Value)}{k:K}{v:Value}{Q:YQ_}(hu:knd.room A)(hkey:knd.is s.heap k a)(hm:s.heap.DictOfH knd d xs)(hsz:xs.length<=sizeLine)
 (h1:∀ p,atKey xs k=some p->Q p.2 { s with toks:=s.toks+knd.draws k })
 (h2:atKey xs k=none->∀ h',h'.DictOfH knd d (storedH xs k a v)->Heap.SameBut d s.heap h'->Q v { s with heap:=h',toks:=s.toks+knd.draws k }) :
 wpAny (model prog w) A (dictSetDefault d (.ref a) v) Q E s:=by
 obtain⟨o,es,ep,ho,hc,hd,he,his,hn⟩:=hm;unfold dictSetDefault
 try with_reducible refine wpAny_holding ?_
 refine Va (knd.pyHash hu hkey ?_)
 refine Va (wpAny_dictFind_heap (s:={ s with toks:=s.toks+knd.draws k }) hu hkey ho hd he his hn ?_ ?_)
 ·intro hno
  have hnot:k∉xs.map (·.1):=not_mem_keys_of_get hno;refine Va (wpAny_rule (Va (wpAny_updateDictKeys (hz:=by have e:=size_of_entries he;omega) (s:={ s with toks:=s.toks+knd.draws k }) ho hd (Vg (h2 (atKey_none_of_get hno) _ ⟨_,_,ep+1,Heap.get?_update_self _ ho (Obj.isFreed_of_dict (Obj.data_mapDictKeys hd _)),
   hc.mapDictKeys _,Obj.data_mapDictKeys hd _,?_,?_,?_⟩ (Heap.SameBut.update ..))))))
  ·rw[storedH_new (atKey_none_of_get hno)]
   simp[he,entryOfKey]
  ·rw[storedH_new (atKey_none_of_get hno)]
   intro x hx
   rcases Vl.mp hx with hx | hx
   ·exact knd.keeps (his x hx) ho hd (Heap.SameBut.update ..)
   ·rw[mem_singleton.mp hx]
    exact knd.keeps hkey ho hd (Heap.SameBut.update ..)
  ·rw[storedH_new (atKey_none_of_get hno),map_append,nodup_append]
   refine⟨hn,by simp,fun x hx y hy e=>?_⟩
   rw[map_cons,map_nil,mem_singleton]at hy;rw[e,hy]at hx;exact hnot hx
 ·intro j p hj
  refine Va (wpAny_dictEntries (s:={ s with toks:=s.toks+knd.draws k }) ho hd ?_)
  rw[entry_at he j,hj];exact Va (wpAny_rule (Vg (h1 p (atKey_of_get hn hj))))
theorem Yt(knd:HeapKind prog w K)(d a:Addr)(hd:(d == sysModules)=false)(v:Value) :
 MeetsIn prog w (Builtin.«dict.setdefault» ⟨[.ref d,.ref a,v],[]⟩) (fun A R s=>knd.room A.in1/\∃ k xs,knd.is s.heap k a/\s.heap.DictOfH knd d xs/\xs.length<=sizeLine /\
  (∀ p,atKey xs k=some p->R (.ok (.ret p.2)) { s with toks:=s.toks+knd.draws k }) /\
  (atKey xs k=none->∀ h',h'.DictOfH knd d (storedH xs k a v)->Heap.SameBut d s.heap h'->R (.ok (.ret v)) { s with heap:=h',toks:=s.toks+knd.draws k })) :=
 .of_wp fun A R s ⟨hu,k,xs,hkey,hm,hsz,h1,h2⟩=>by
  unfold Builtin.«dict.setdefault»;refine Va ?_
  unfold Builtin.Dict.keyAndDefault;refine Va (wpAny_notOrdered_dict hm.typeIs ?_)
  show wpAny _ _ (pure (d,Value.ref a,some v)) _ _ s;refine Vg ?_
  show wpAny _ _ (if (d == sysModules)=true then _ else (dictSetDefault d (.ref a) v >>= _)) _ _ s
  rw[if_neg (by rw[hd];exact Vf)]
  exact Va (YS hu hkey hm hsz (fun p hp=>Vg ⟨_,rfl,h1 p hp⟩) fun hn h' hm' hs'=>Vg ⟨_,rfl,h2 hn h' hm' hs'⟩)
end
end PySem
namespace L2
open PySem PySem.Spec PyProof.Rows
section
variable{X:Cx}{pins:YP_}{σ:St}{H:Hp}{s:Shared}{a b:Addr}{xs:NX}{d:Dt}{A:Around}{E:YQ_}{kvs:List (Key×V)}{k:Key}{u r:Value}{v:V}
theorem J3b{Q:YQ_}(hu:A.units+9 < cLine)(I:Inv X pins σ H s)(g:YY X.prog X.w X.K H a xs)(rp:Rep X.K H 8 d (.ref b))(hd:hD d=true)(hl:xs.length < sizeLine)(rv:Qr v r)
 (h1:∀ y w' s',Jp xs d=some y->Inv X pins σ H s'->Qr y w'->Q w' s') (h2:Jp xs d=none->∀ s',Inv X pins σ (upd H a (dN X.prog X.w a (xs++[(d,b,v)]))) s'->Q r s') :
 wpAny (model X.prog X.w) A (call (.builtin "dict.setdefault") [.ref a,.ref b,r]) Q E s:=by
 obtain⟨z,y,ys,rel,dd⟩:=g.dict I;have ll:=Paired.length rel;refine call_meetsIn F.slot_dict_setdefault dd.typeIs F.entry_dict_setdefault (F.args_dict_setdefault_3 _ _ _) (Yt (Yb X.prog X.w) a b y r) ⟨show A.units+1+8 < cLine by omega,d,ys,rp.has I hd rfl,dd,by rw[<- ll];exact z,fun p hp=>?_,fun hn h' dd' hs=>?_⟩
 ·have rv:=rel.val d
  rw[hp]at rv;cases e:Jp xs d with
  | none=>rw[e]at rv;exact rv.elim
  | some y=>rw[e]at rv;exact h1 y _ _ e (I.tok _) rv
 ·have hn':Jp xs d=none:=by
   have:=rel.some (d:=d);rw[hn]at this;cases e:Jp xs d with
   | none=>rfl
   | some y=>rw[e]at this;cases this
  refine h2 hn' _ ?_
  obtain⟨q,es,ep,hq,g2,g3,g4,_,g5⟩:=dd';rw[storedH_new hn]at g4 g5;exact Xh I (by rw[g.at_];exact True.intro) hs ⟨q,hq⟩ ⟨⟨by rw[Vs];exact hl,y,_,Paired.snoc rel ⟨rfl,rfl,rv⟩,q,es,ep,hq,g2,g3,g4,g5⟩,⟨q,hq⟩,ZDa⟩
theorem J4b{Q:YQ_}(I:Inv X pins σ H s)(e:H a=some (.dK kvs))(ry:Qr (kV k) u)(rv:Qr v r)(hl:kvs.length < sizeLine)
 (h1:∀ y w' s',Zc kvs k=some y->Inv X pins σ H s'->Qr y w'->Q w' s') (h2:Zc kvs k=none->∀ s',Inv X pins σ (upd H a (.dK (Zz kvs k v))) s'->Q r s') :
 wpAny (model X.prog X.w) A (call (.builtin "dict.setdefault") [.ref a,u,r]) Q E s:=by
 obtain⟨z,hd,vs,rel,dd⟩:=QBb I.hok e;refine call_meetsIn F.slot_dict_setdefault dd.typeIs F.entry_dict_setdefault (F.args_dict_setdefault_3 _ _ _) (kt_meets_setdefault (QL X.prog X.w) a (Zpa ry) hd r) ⟨vs,dd,by rw[<- rel.length];exact z,fun w' hw=>?_,fun hn h' dd' hs=>?_⟩
 ·have rv:=rel.val k
  rw[hw]at rv;cases e:Zc kvs k with
  | none=>rw[e]at rv;exact rv.elim
  | some y=>rw[e]at rv;exact h1 y _ _ e (I.tok _) rv
 ·have hn':Zc kvs k=none:=by
   have rv:=rel.val k;rw[hn]at rv;cases e:Zc kvs k with
   | none=>rfl
   | some y=>rw[e]at rv;exact rv.elim
  have he:∃ q,h'.get? a=some q:=let ⟨q,_,_,hq,_⟩:=dd';⟨q,hq⟩
  have hl2:(Zz kvs k v).length<=sizeLine:=by have:=QZ kvs k v;omega
  exact h2 hn' _ (Xh I (by rw[e];exact True.intro) hs he (XOa hl2 hd (rel.put k rv) dd'))
end
def J5b(td ty tx:TE):TE:=fun σ H Q=>td σ H fun x H1=>∃ a,x=.ref a/\IsD H1 a/\ty σ H1 fun y H2=>tx σ H2 fun z H3=>∃ kvs k,y=kV k/\H3 a=some (.dK kvs)/\kvs.length < sizeLine/\(∀ v,Zc kvs k=some v->Q v H3)/\(Zc kvs k=none->Q z (upd H3 a (.dK (Zz kvs k z))))
def J6b(P:Program)(w:World)(K:W.Frag)(td ty tx:TE):TE:=fun σ H Q=>td σ H fun x H1=>∃ a xs0,x=.ref a/\YY P w K H1 a xs0/\ty σ H1 fun y H2=>tx σ H2 fun z H3=>∃ b xs d,y=.ref b/\YY P w K H3 a xs/\Rep K H3 8 d (.ref b)/\hD d=true/\xs.length < sizeLine/\(∀ v,Jp xs d=some v->Q v H3)/\(Jp xs d=none->Q z (upd H3 a (dN P w a (xs++[(d,b,z)]))))
section
variable{X:Cx}{o e f:Expr}{apos cpos:Pos}{td ty tx:TE}
theorem J7b(ho:PE X o td)(he:PE X e ty)(hf:PE X f tx)(m:M2 X o "setdefault" apos e f cpos):PE X (.Call (.Attribute o "setdefault" apos) [e,f] [] cpos) (J5b td ty tx):=by
 intro pins s σ H Q I h;refine wpAny_Call_method m.base m.few m.line F.plainAttrs_dict F.slot_dict_setdefault F.type_dict_setdefault (thn (ho pins s σ H _ I h) fun u s1 hZ=>?_)
 obtain⟨x,H1,I1,rx,a,ex,d,q1⟩:=hZ;subst ex;obtain rfl:u=Value.ref a:=rx;obtain⟨t1,t2,_⟩:=Jhb I1 d;refine⟨t1,t2,?_⟩
 rw[m.trees];refine Calls.callWith_builtin rfl (Calls.evalArgs_plain (Calls.spliced_cons (thn (he pins s1 σ H1 _ I1 q1) fun iv s2 ⟨y,H2,I2,ry,q2⟩ =>
  Calls.spliced_cons (thn (hf pins s2 σ H2 _ I2 q2) fun fv s3 hZ=>Calls.spliced_nil ?_))))
 obtain⟨z,H3,I3,rz,kvs,k,ey,g,hl,q3,q4⟩:=hZ;subst ey;exact J4b I3 g ry rz hl (fun y w' s4 e I4 r4=>⟨y,H3,I4,r4,q3 y e⟩) fun e s4 I4=>⟨z,_,I4,rz,q4 e⟩
theorem J8b(hu:X.A.units+9 < cLine)(ho:PE X o td)(he:PE X e ty)(hf:PE X f tx)(m:M2 X o "setdefault" apos e f cpos):PE X (.Call (.Attribute o "setdefault" apos) [e,f] [] cpos) (J6b X.prog X.w X.K td ty tx):=by
 intro pins s σ H Q I h;refine wpAny_Call_method m.base m.few m.line F.plainAttrs_dict F.slot_dict_setdefault F.type_dict_setdefault (thn (ho pins s σ H _ I h) fun u s1 hZ=>?_)
 obtain⟨x,H1,I1,rx,a,xs0,ex,g0,q1⟩:=hZ;subst ex;obtain rfl:u=Value.ref a:=rx;refine⟨g0.typeIs I1,g0.noDict I1,?_⟩
 rw[m.trees];refine Calls.callWith_builtin rfl (Calls.evalArgs_plain (Calls.spliced_cons (thn (he pins s1 σ H1 _ I1 q1) fun iv s2 ⟨y,H2,I2,ry,q2⟩ =>
  Calls.spliced_cons (thn (hf pins s2 σ H2 _ I2 q2) fun fv s3 hZ=>Calls.spliced_nil ?_))))
 obtain⟨z,H3,I3,rz,b,xs,d,ey,g,rp,hd,hl,q3,q4⟩:=hZ;subst ey;obtain rfl:iv=Value.ref b:=ry;exact J3b hu I3 g rp hd hl rz (fun y w' s4 e I4 r4=>⟨y,H3,I4,r4,q3 y e⟩) fun e s4 I4=>⟨z,_,I4,rz,q4 e⟩
end
section
variable{X:Cx}
end
end L2
end
section
namespace My
open PySem L2 Pl Th Tr
variable{CX:CXT}{P:Program}{w:World}{mg:Str->Option Value}{base:Heap}{N:List Str}{qual:Str}{scope:Scope}{a f:Addr}{cd:Value}{A:Around}{outer:List Env}{s:Shared}{H H' H1:Hp}{E:XK}{i n:Nat}{c l m:Int}{ob:Nat->Addr}{es es':List Dt}{xs:List V}{st:StL}{d:Dt}{k:Key}{lv:V->Nat}{tbl:List (Int×Dt)}{v:V}{kvs:List (Key×V)}{pr:List (Nat×List Dt)}{ns:List Int}
variable{P:Program}{w:World}{K:W.Frag}{mg:Str->Option Value}{base:Heap}{CT:Addr}{cs:Nat->Addr}{ob:Nat->Addr}{f:Addr}{fd:FuncData}
theorem QXc{K:W.Frag}:(XV CX P w K mg base N qual scope f cd A outer s H E).K=K:=rfl
theorem QYc{K:W.Frag}:(XV CX P w K mg base N qual scope f cd A outer s H E).prog=P:=rfl
theorem QZc{K:W.Frag}:(XV CX P w K mg base N qual scope f cd A outer s H E).w=w:=rfl
theorem ZIc{X:Cx}{sc:Scope}{x:Str}{M:List Str}{cl:List (Str×Addr)}{C:Addr}{fp:List Addr}:(blk X sc x M cl C s H fp).K=X.K:=rfl
theorem dly{G:Prop}(h:∀ g:Prop,(G->g)->g):G:=h G id
local macro_rules | `(tactic| walk_at "sc") => `(tactic| exact ⟨rfl, rfl, rfl, by decide +kernel, rfl, by decide +kernel, by decide +kernel⟩)
local macro_rules | `(tactic| walk_at "n") => do let h := Lean.mkIdent `h; let r := Lean.mkIdent `rfl; `(tactic| first | (cases $h:ident; subst_vars; rfl) | (repeat (first | (rcases $h:ident with ⟨$r:ident, _⟩; rfl) | rcases $h:ident with ⟨_, $h:ident⟩)))
local macro_rules | `(tactic| walk_at "rd") => do let x := ("QXc ZIc Zpb Zqb Zrb Jnb Job Jpb Jqb Y4b Y5b YR XHb Znc Z1a Zoc Zuc Zqc Zpc Int.reduceLT Int.reduceLE Int.reduceToNat Zbc XLb tB Q9c Q8c tOr XGb tOp tUn Xxa Xya tC Zac Zec Qob XIb tCB Qub Qtb YHa Zlc Zmc rI rI0 rU rEq rNe YDb YEb YFb YGb YHb YIb YJb YKb YLb YMb YNb YOb YPb YQb tBM Qzb tSl XNb Qxb Zub Jib Y7a JQb Jgb XQb XPb QDb XZb JPb ZBb QYc QZc XYa X1a ZHc X0b X1b X2b J5b J6b tIf Zdc XJb Zcc JAb YQa List.getElem?_cons_zero List.getElem?_cons_succ List.set_cons_zero List.set_cons_succ Option.some.injEq V.int.injEq V.bl.injEq V.str.injEq V.ref.injEq exists_eq_left exists_eq_left' exists_eq_right exists_and_left List.cons.injEq and_true true_and List.append_nil decide_eq_true_eq Bool.not_eq_true' decide_eq_false_iff_not Bool.not_true Bool.not_false if_true if_false Bool.true_eq_false Bool.false_eq_true reduceCtorEq exists_const exists_false false_and and_false not_true_eq_false not_false_eq_true ite_true ite_false".splitOn " ").toArray.map fun s => Lean.mkIdent s.toName; let y := ("Zwc Qxc Qyc Qzc Y3b".splitOn " ").toArray.map fun s => Lean.mkIdent s.toName; `(tactic| try simp (maxSteps := 1000000) only [$[↓$y:ident],*, $[$x:ident],*])
local macro_rules | `(tactic| walk_at "side") => `(tactic| first | omega | decide | ((first | unfold Zga | unfold Qic | (refine XCa.ok ?_; unfold XCa) | unfold XCa); first | omega | decide))
local macro_rules | `(tactic| walk_at "go") => `(tactic| (repeat refine And.intro (by walk_at "side") ?_))
def top(i:Nat):Stmt:=PySem.Challenge.pw_twigtable_k19_whole_one_tree.main.body.getD i (.Pass ⟨0,0,0,0⟩)
def Xn(i j:Nat):Stmt:=match top i with | .ClassDef _ _ _ body _ _ _ _ _ _ _=>body.getD j (.Pass ⟨0,0,0,0⟩) | s=>s
abbrev Z2:Stmt:=Xn 3 0
theorem X9:Qo ["self","key"] ["self","key"] (Qh Z2):=by walk_at "sc"
abbrev JY:Stmt:=Xn 4 0
theorem ZIa:Qo ["self","number"] ["self","number"] (Qh JY):=by walk_at "sc"
abbrev JZ:Stmt:=top 8
theorem ZL:Qo ["key","mix","sign"] ["key"] (Qh JZ):=by walk_at "sc"
abbrev Y0:Stmt:=Xn 12 0
theorem Yba:Qo ["self","level","entries"] ["self","level","entries"] (Qh Y0):=by walk_at "sc"
abbrev Y1:Stmt:=Xn 12 1
theorem Yca:Qo ["self"] ["self"] (Qh Y1):=by walk_at "sc"
abbrev Yu:Stmt:=Xn 12 2
theorem Z7a:Qo ["self"] ["self"] (Qh Yu):=by walk_at "sc"
abbrev Yv:Stmt:=Xn 12 4
theorem Z8a:Qo ["self"] ["self"] (Qh Yv):=by walk_at "sc"
abbrev J0:Stmt:=Xn 13 1
theorem ZJa:Qo ["self","pages"] ["self","pages"] (Qh J0):=by walk_at "sc"
abbrev Jq:Stmt:=Xn 14 1
theorem Z9a:Qo ["self"] ["self"] (Qh Jq):=by walk_at "sc"
abbrev Yw:Stmt:=Xn 16 0
theorem Jaa:Qo ["self"] ["self"] (Qh Yw):=by walk_at "sc"
abbrev Qva:Stmt:=top 18
theorem X3a:Qo ["value"] ["value"] (Qh Qva):=by walk_at "sc"
abbrev Y2:Stmt:=top 28
theorem Yda:Qo ["_law_script","_law_k"] ["_law_script","_law_k"] (Qh Y2):=by walk_at "sc"
abbrev Y3:Stmt:=top 29
theorem QA:Qo ["_law_cell_here","_law_signs","_law_mix","_law_many","_law_at","_law_plain","_law_found","_law_k"] ["_law_cell_here"] (Qh Y3):=by walk_at "sc"
abbrev Y4:Stmt:=top 30
theorem Yx:Qo ["_law_cell_here","_law_left","_law_found"] ["_law_cell_here"] (Qh Y4):=by walk_at "sc"
abbrev Yy:Stmt:=top 32
theorem Xu:Qo ["_law_cell_here","_law_found"] ["_law_cell_here"] (Qh Yy):=by walk_at "sc"
abbrev Zm:Stmt:=top 33
theorem J1:Qo ["_law_known","_law_numbers","_law_texts"] ["_law_known"] (Qh Zm):=by walk_at "sc"
abbrev Jj:Stmt:=top 38
theorem Q8:Qo ["_law_some","_law_numbers","_law_contents","_law_number","_law_content"] ["_law_some"] (Qh Jj):=by walk_at "sc"
abbrev Yea:Stmt:=top 9
theorem Xha:Qo ["key","mix"] ["key"] (Qh Yea):=by walk_at "sc"
abbrev Y5:Stmt:=Xn 13 0
theorem Yfa:Qo ["self","rows"] ["self","rows"] (Qh Y5):=by walk_at "sc"
abbrev Y6:Stmt:=Xn 14 0
theorem Yga:Qo ["self","level","heads"] ["self","level","heads"] (Qh Y6):=by walk_at "sc"
abbrev Yz:Stmt:=Xn 16 1
theorem J2:Qo ["self","page","told","number"] ["self","page"] (Qh Yz):=by walk_at "sc"
abbrev ZKa:Stmt:=top 19
theorem ZIb:Qo ["one","other"] ["one","other"] (Qh ZKa):=by walk_at "sc"
abbrev XI:Stmt:=top 31
theorem QOa:Qo ["_law_cell_here","_law_kind"] ["_law_cell_here"] (Qh XI):=by walk_at "sc"
abbrev XJ:Stmt:=top 10
theorem Jh:Qo ["key","rest","level"] ["key"] (Qh XJ):=by walk_at "sc"
abbrev Jk:Stmt:=Xn 16 2
theorem Qwa:Qo ["self","number"] ["self","number"] (Qh Jk):=by walk_at "sc"
abbrev Y7:Stmt:=top 34
theorem ZM:Qo ["_law_script","_law_known","_law_start","_law_k","_law_cell_here"] ["_law_script"] (Qh Y7):=by walk_at "sc"
abbrev JD:Stmt:=top 35
theorem QX:Qo ["_law_rows_here","_law_script","_law_way","_law_half","_law_known","_law_cell_here","_law_key_here"] ["_law_rows_here","_law_script"] (Qh JD):=by walk_at "sc"
abbrev Qxa:Stmt:=top 15
theorem X4a:Qo ["level","entries"] ["level","entries"] (Qh Qxa):=by walk_at "sc"
abbrev YA:Stmt:=Xn 16 4
theorem Xv:Qo ["self","number","told"] ["self","number"] (Qh YA):=by walk_at "sc"
abbrev J9b:Stmt:=top 21
theorem X5a:Qo ["entries","level","parts","entry"] ["entries","level"] (Qh J9b):=by walk_at "sc"
abbrev YB:Stmt:=Xn 16 3
theorem Xw:Qo ["self","number","told"] ["self","number"] (Qh YB):=by walk_at "sc"
abbrev XL:Stmt:=top 22
theorem JQ:Qo ["pages","level","entries","heads","part","page"] ["pages","level","entries"] (Qh XL):=by walk_at "sc"
abbrev Qya:Stmt:=top 23
theorem JE:Qo ["pages","level","heads","top","above"] ["pages","level","heads"] (Qh Qya):=by walk_at "sc"
abbrev Yha:Stmt:=top 24
theorem Xia:Qo ["pages","rows","at"] ["pages","rows"] (Qh Yha):=by walk_at "sc"
abbrev J3:Stmt:=Xn 12 5
theorem JF:Qo ["self","pages","rows","number"] ["self","pages"] (Qh J3):=by walk_at "sc"
abbrev Qza:Stmt:=top 25
theorem X6a:Qo ["pages","root"] ["pages","root"] (Qh Qza):=by walk_at "sc"
abbrev YC:Stmt:=top 26
theorem J4:Qo ["pages","root","numbers","number"] ["pages","root"] (Qh YC):=by walk_at "sc"
abbrev J5:Stmt:=top 36
theorem ZN:Qo ["_law_pages","_law_number","_law_told","_law_found","_law_head"] ["_law_pages","_law_number"] (Qh J5):=by walk_at "sc"
abbrev Jl:Stmt:=top 37
theorem Zn:Qo ["_law_pages","_law_root","_law_found","_law_number","_law_told"] ["_law_pages","_law_root"] (Qh Jl):=by walk_at "sc"
abbrev Xx:Stmt:=top 39
theorem JG:Qo ["_law_script","_law_rows_here","_law_others","_law_pages","_law_beside","_law_root","_law_second","_law_there","_law_here","_law_one","_law_two"] ["_law_script"] (Qh Xx):=by walk_at "sc"
structure Zs(mg:Str->Option Value):Prop where
 dict:mg "dict"=none
 int:mg "int"=none
 isinstance:mg "isinstance"=none
 len:mg "len"=none
 list:mg "list"=none
 ord:mg "ord"=none
 range:mg "range"=none
 sorted:mg "sorted"=none
 str:mg "str"=none
 tuple:mg "tuple"=none
 MODULUS:∃ t,mg "MODULUS"=some (.int (2147483647) t)
 TOP_LEVEL:∃ t,mg "TOP_LEVEL"=some (.int (6) t)
def ZJc(i j:Nat):Bool:=([(0,0),(1,0),(1,1),(2,0),(2,2),(3,3)]:List (Nat×Nat)).contains (i,j)
structure Tx(K:W.Frag)(mg:Str->Option Value)(CT:Addr)(cs:Nat->Addr)(ob:Nat->Addr):Prop where
 mg_Page:mg "Page"=some (.ref (ob 0))
 mg_Leaf:mg "Leaf"=some (.ref (ob 1))
 mg_Twig:mg "Twig"=some (.ref (ob 2))
 mg_Pages:mg "Pages"=some (.ref (ob 3))
 ob_:∀ i,i < 4->ObC K (ob i) ["level","rows","heads","entries","told_by_number","number_by_told","count"]
 isa:∀ i j,i < 4->j < 4->W.kitOne K (.ref (ob i)) (.ref (ob j))=some (ZJc i j)
 top:ZDc K mg "TableError" CT
 mg_NoPage:mg "NoPage"=some (.ref (cs 0))
 mg_NotRising:mg "NotRising"=some (.ref (cs 1))
 cl:∀ i,i < 2->W.XCl K (cs i) CT
 no:∀ i,i < 2->∀ f∈(["number","key"]:List Str),ZZ K (cs i) f
 tab:∀ i j,i < 2->j < 2->W.kitOne K (.ref (cs i)) (.ref (cs j))=some (decide (i=j))
 tv:∀ i,i < 2->W.kitOne K (.ref (cs i)) (.type "ValueError")=some true
seal PE PT PW PA PS PSs PI PG Q0 PGs PO in
theorem ZLa(Z:Zs mg)(T:Tx K mg CT cs ob)(F:Fun K "__init__" "NoPage.__init__" JY f fd):QD P w K mg base CX0 1 f fd ["self","number"] (Xeb (cs 0) ["number"]):=by
 refine F.ok ZIa (fun vs H Q E h=>?_) (fun cdv A outer s H vs Q E hr h=>?_)
 ·obtain⟨e,ws,rfl,hl,_⟩:=h;obtain⟨_,rfl⟩:=length_eq_one_iff.mp hl;rfl
 obtain⟨e,ws,rfl,hl,he,q⟩:=h;obtain⟨w0,rfl⟩:=length_eq_one_iff.mp hl;refine⟨_,(@Qc _ _ _ _ _ (Q9 (Y0a T.top rfl (Qi (pv 0) (Qi (pv 1) Qe))))
  (Qf (JHb CT rfl (pv 0) (pv 1) rfl))),?_⟩
 refine Ql (σ:=[some (.ref e),some w0]) rfl ?_
 walk_at "rd";simp only[tBI,QJc,ZCc];walk_at "rd";exact⟨e,cs 0,[w0],⟨rfl,rfl⟩,by show 1<=1000;decide,he,T.cl 0 (by decide),cs 0,he,T.cl 0 (by decide),(T.no 0 (by decide) _ (by decide)),fun d hd hne=>q d hd hne⟩
seal PE PT PW PA PS PSs PI PG Q0 PGs PO in
theorem Qaa(Z:Zs mg)(T:Tx K mg CT cs ob)(F:Fun K "__init__" "NotRising.__init__" Z2 f fd):QD P w K mg base CX0 1 f fd ["self","key"] (Xeb (cs 1) ["key"]):=by
 refine F.ok X9 (fun vs H Q E h=>?_) (fun cdv A outer s H vs Q E hr h=>?_)
 ·obtain⟨e,ws,rfl,hl,_⟩:=h;obtain⟨_,rfl⟩:=length_eq_one_iff.mp hl;rfl
 obtain⟨e,ws,rfl,hl,he,q⟩:=h;obtain⟨w0,rfl⟩:=length_eq_one_iff.mp hl;refine⟨_,(@Qc _ _ _ _ _ (Q9 (Y0a T.top rfl (Qi (pv 0) (Qi (pv 1) Qe))))
  (Qf (JHb CT rfl (pv 0) (pv 1) rfl))),?_⟩
 refine Ql (σ:=[some (.ref e),some w0]) rfl ?_
 walk_at "rd";simp only[tBI,QJc,ZCc];walk_at "rd";exact⟨e,cs 1,[w0],⟨rfl,rfl⟩,by show 1<=1000;decide,he,T.cl 1 (by decide),cs 1,he,T.cl 1 (by decide),(T.no 1 (by decide) _ (by decide)),fun d hd hne=>q d hd hne⟩
section
variable{K:W.Frag}
end
theorem Q0c(v:V):[v].length<=sizeLine:=show 1<=sizeLine by decide
theorem Y8(h:n<=1000):n<=sizeLine:=Vv (QN h)
theorem at0(x:V)(r:List V):atI (x::r) 0=some x:=Jo (j:=0) rfl
theorem at1(x y:V)(r:List V):atI (x::y::r) 1=some y:=Jo (j:=1) rfl
namespace M11
def p:Int:=2147483647
theorem X7a(cs:List Int):∀ (a:Int),0<=a->a < 2147483647->0<=cs.foldl (fun m c=>(m * 131+c) % 2147483647) a/\cs.foldl (fun m c=>(m * 131+c) % 2147483647) a < 2147483647:=by
 induction cs with
 | nil=>intro a h1 h2;exact⟨h1,h2⟩
 | cons c cs ih =>
  intro a h1 h2;simp only[foldl_cons]
  apply ih <;> omega
def lev:Nat->Int->Nat
 | 0,_=>0
 | n+1,m=>if m % 4=0 then lev n (m / 4)+1 else 0
theorem Xja(n:Nat)(m:Int):lev (n+1) m=if m % 4=0 then lev n (m / 4)+1 else 0:=rfl
theorem Yab:∀ (n:Nat) (m:Int),lev n m<=n
 | 0,_=>Ve _
 | n+1,m=>by
  unfold lev
  split
  ·have:=Yab n (m / 4);omega
  ·omega
theorem Ybb{r:Int}{l:Nat}(h:l+lev (n - l) r=lev n m)(hl:l < n)(e:r % 4=0):(l+1)+lev (n - (l+1)) (r / 4)=lev n m:=by
 have e1:n - l=(n - (l+1))+1:=by omega
 rw[e1,Xja,if_pos e]at h
 omega
theorem Q0b{r:Int}{l:Nat}(h:l+lev (n - l) r=lev n m)(hl:¬ (l < n/\r % 4=0))(hn:l<=n):l=lev n m:=by
 by_cases h1:l < n
 ·have h2:r % 4≠0:=fun e=>hl ⟨h1,e⟩
  have e1:n - l=(n - (l+1))+1:=by omega
  rw[e1,Xja,if_neg h2]at h
  omega
 ·have e:n - l=0:=by omega
  rw[e]at h;simp only[lev]at h
  omega
end M11
def Zo:V->Prop
 | .int n => -(10 ^ 30) < n/\n < 10 ^ 30
 | .str z=>z.length<=40
 | _=>False
def XM(z:Str):List Int:=z.cps.toList.map fun(c:Nat)=>(c:Int)
def Q1c:V->Int
 | .int n=>(n * 48271+11) % 2147483647
 | .str z=>(XM z).foldl (fun m c=>(m * 131+c) % 2147483647) 7
 | _=>0
def Yia(v:V):Int:=Builtin.bitXor (Q1c v) (Q1c v / 32768)
def QC(v:V):Nat:=M11.lev 6 (Yia v)
theorem ZJb{α β:Type}{l:List α}{c:α}{f:β->α->β}{a:β}(h:l[i]?=some c):(l.take (i+1)).foldl f a=f ((l.take i).foldl f a) c:=by
 rw[take_add_one,h];simp
theorem Xrb{z:Str}{c:Nat}(h:z.cps.toList[i]?=some c):(XM z)[i]?=some (c:Int):=by
 unfold XM;rw[getElem?_map,h]
 rfl
theorem Ycb(z:Str):(XM z).length=z.length:=by
 unfold XM;rw[Vr];simp[Str.length]
theorem Xsb{α:Type}{l:List α}{k:Int}(h0:0<=k)(h1:k < (l.length:Int)):∃ c,atI l k=some c:=by
 have hk:k.toNat < l.length:=by omega
 have ek:k=((k.toNat:Nat):Int):=by omega
 have h:=Jo (xs:=l) (j:=k.toNat) (Vb hk)
 rw[<- ek]at h;exact⟨_,h⟩
inductive JH(u0_:W.Frag)(vs:List V)(H:Hp)(Q:VK)(E:XK):Prop
 | mk:∀ v,vs=[v]->Zo v->Q (.int (Q1c v)) H->JH u0_ vs H Q E
inductive ZMa(u0_:W.Frag)(vs:List V)(H:Hp)(Q:VK)(E:XK):Prop
 | mk:∀ v,vs=[v]->Zo v->Q (.int (Yia v)) H->ZMa u0_ vs H Q E
inductive Y9(u0_:W.Frag)(vs:List V)(H:Hp)(Q:VK)(E:XK):Prop
 | mk:∀ v,vs=[v]->Zo v->Q (.int (QC v)) H->Y9 u0_ vs H Q E
theorem Xa{K:W.Frag}:W.kitOne K (.type "int") (.type "str")=some false:=by rfl
theorem Xb{K:W.Frag}:W.kitOne K (.type "str") (.type "str")=some true:=by rfl
seal PE PT PW PA PS PSs PI PG Q0 PGs PO in
theorem ZNa(Z:Zs mg)(T:Tx K mg CT cs ob)(F:Fun K "mixed_first" "mixed_first" JZ f fd):QD P w K mg base CX0 1 f fd ["key"] (JH K):=by
 refine F.ok ZL (fun vs H Q E h=>?_) (fun cdv A outer s H vs Q E hr h=>?_)
 ·walk_at "n"
 obtain⟨v,rfl,hv,q⟩:=h;refine⟨_,(@Qc _ _ _ _ _ (QR (JQa (XA (Q5 JO rfl (Z.isinstance) Z4 (Qi (pv 0) (Qi (Q0a rfl (Z.str) JWa (v:=.ty "str") rfl) Qe))) (fun _=>rfl))) (Qf (Qp (Qj Qz (Qj ZY (Qj ZK (pv 0) Qb) Qb) (JXa (Z.MODULUS) rfl)))) Qw)
  (@Qc _ _ _ _ _ (Qm (i:=1) ZL.nd rfl (Or.inl rfl) Qb)
  (@Qc _ _ _ _ _ (ZX PassesOwn.never rfl (Quc (pv 0)) (Za (i:=2) ZL.nd rfl (Or.inl rfl)) (Qf (Qm (i:=1) ZL.nd rfl (Or.inl rfl) (Qj Qz (Qj ZY (Qj ZK (pv 1) Qb) (Q5 Z5b rfl (Z.ord) Qvc (Qi (pv 2) Qe))) (JXa (Z.MODULUS) rfl)))))
  (Qf (Qp (pv 1)))))),?_⟩
 refine Ql (σ:=[some v,none,none]) rfl ?_
 walk_at "rd";cases v with
 | int n =>
  refine YW (.int n) Xa ⟨_,rfl,?_⟩
  walk_at "rd";walk_at "go";exact q
 | str z =>
  refine YW (.str z) Xb ⟨_,rfl,?_⟩
  walk_at "rd";refine Y6b (z:=z) (fun i σ' H'=>H'=H/\∃ x,σ'=[some (.str z),some (.int (((XM z).take i).foldl (fun m c=>(m * 131+c) % 2147483647) 7)),x]) ⟨rfl,_,rfl⟩ ?_ ?_
  ·rintro i c σ' H' hc ⟨rfl,x,rfl⟩
   walk_at "rd";have hr:=M11.X7a ((XM z).take i) 7 (by decide) (by decide)
   refine⟨by refine XCa.ok ?_;unfold XCa;omega,rfl,?_,_,rfl⟩
   rw[ZJb (Xrb hc)]
   rfl
  ·rintro σ' H' ⟨rfl,x,rfl⟩
   walk_at "rd";rw[take_of_length_le (by rw[Ycb];exact Ve _)]
   exact q
 | _=>exact hv.elim
seal PE PT PW PA PS PSs PI PG Q0 PGs PO in
theorem Ydb(Z:Zs mg)(T:Tx K mg CT cs ob)(Jba:Cal P w K mg base 1 "mixed_first" ["key"] (JH K))(F:Fun K "mixed" "mixed" Yea f fd):QD P w K mg base CX0 2 f fd ["key"] (ZMa K):=by
 refine F.ok Xha (fun vs H Q E h=>?_) (fun cdv A outer s H vs Q E hr h=>?_)
 ·walk_at "n"
 obtain⟨v,rfl,hv,q⟩:=h;refine⟨_,(@Qc _ _ _ _ _ (Qm (i:=1) Xha.nd rfl (Or.inl rfl) (Qu Jba (k:=1) hr (by decide) rfl (Qi (pv 0) Qe)))
  (Qf (Qp (Qj Z2b (pv 1) (Qj XEa (pv 1) Qb))))),?_⟩
 refine Ql (σ:=[some v,none]) rfl ?_
 walk_at "rd";refine⟨v,rfl,hv,?_⟩
 walk_at "rd";walk_at "go";exact q
seal PE PT PW PA PS PSs PI PG Q0 PGs PO in
theorem Xka(Z:Zs mg)(T:Tx K mg CT cs ob)(Xtb:Cal P w K mg base 2 "mixed" ["key"] (ZMa K))(F:Fun K "level_of" "level_of" XJ f fd):QD P w K mg base CX0 3 f fd ["key"] (Y9 K):=by
 refine F.ok Jh (fun vs H Q E h=>?_) (fun cdv A outer s H vs Q E hr h=>?_)
 ·walk_at "n"
 obtain⟨v,rfl,hv,q⟩:=h;refine⟨_,(@Qc _ _ _ _ _ (Qm (i:=1) Jh.nd rfl (Or.inl rfl) (Qu Xtb (k:=2) hr (by decide) rfl (Qi (pv 0) Qe)))
  (@Qc _ _ _ _ _ (Qm (i:=2) Jh.nd rfl (Or.inl rfl) Qb)
  (@Qc _ _ _ _ _ (YDa PassesOwn.never (PW.pt (Xza (Qs XKb (pv 2) (JXa (Z.TOP_LEVEL) rfl) (Qt _)) (JOa (Qs ZB (Qj Qz (pv 1) Qb) Qb (Qt _))))) (@Qc _ _ _ _ _ (Qm (i:=1) Jh.nd rfl (Or.inl rfl) (Qj XEa (pv 1) Qb))
  (Qf (Qm (i:=2) Jh.nd rfl (Or.inl rfl) (Qj ZY (pv 2) Qb)))))
  (Qf (Qp (pv 2)))))),?_⟩
 refine Ql (σ:=[some v,none,none]) rfl ?_
 walk_at "rd";refine⟨v,rfl,hv,?_⟩
 walk_at "rd";refine⟨fun m σ' H'=>H'=H/\∃ (r:Int) (l:Nat),σ'=[some v,some (.int r),some (.int l)]/\l<=6/\m=6 - l/\l+M11.lev (6 - l) r=QC v,⟨6,rfl,Yia v,0,rfl,by decide,rfl,by show 0+M11.lev 6 (Yia v)=QC v;rw[Nat.zero_add];rfl⟩,?_⟩
 rintro m σ' H' ⟨rfl,r,l,rfl,hl,rfl,e⟩;walk_at "rd"
 by_cases h1:l < 6
 ·rw[if_pos (by omega)]
  walk_at "go"
  by_cases h2:r % 4=0
  ·rw[if_pos h2]
   refine⟨fun σ2 H2=>H2=H'/\σ2=[some v,some (.int (r / 4)),some (.int ((l+1:Nat):Int))],fun σ2 H2 ⟨a,b⟩=>⟨6 - (l+1),by omega,a,r / 4,l+1,b,by omega,rfl,M11.Ybb e h1 h2⟩,?_⟩
   walk_at "rd";exact⟨rfl,by omega⟩
  ·rw[if_neg h2]
   have:=M11.Q0b e (fun z=>h2 z.2) hl
   rw[this];exact q
 ·rw[if_neg (by omega)]
  have:=M11.Q0b e (fun z=>h1 z.1) hl
  rw[this];exact q
def pgF(tw:Bool)(l:Int)(t:Addr):List (Str×V):=Zr (if tw=true then "heads" else "rows") (.ref t) (Zr "entries" (.ref t) (Zr "level" (.int l) []))
theorem Yeb{tw:Bool}:(if tw=true then 2 else 1) < 4:=by cases tw <;> decide
def PgD(ob:Nat->Addr)(H:Hp)(a:Addr)(l:Int)(es:List Dt):Prop :=
 ∃ tw dx t,tw=decide (l≠0)/\H a=some (.ins (ob (if tw=true then 2 else 1)) dx (pgF tw l t))/\TD H 7 (.t es) (.ref t)
theorem PgD.same(h:PgD ob H a l es)(s:Qk H H'):PgD ob H' a l es:=by
 obtain⟨tw,dx,t,e,h1,h2⟩:=h;exact⟨tw,dx,t,e,s _ _ h1,h2.same s⟩
section
variable{K:W.Frag}{mg:Str->Option Value}{CT:Addr}{cs ob:Nat->Addr}{a t dx:Addr}{tw:Bool}{l:Int}{i:Nat}{σ:St}{H:Hp}{Q:VK}
theorem Yfb(T:Tx K mg CT cs ob)(hs:σ[i]?=some (some (.ref a)))(ha:H a=some (.ins (ob (if tw=true then 2 else 1)) dx (pgF tw l t)))(q:Q (.int l) H):YUb K (J9 i) "level" σ H Q :=
 Z1 (T.ob_ _ Yeb) (by decide) hs ha (by cases tw <;> rfl) q
theorem ZOa(T:Tx K mg CT cs ob)(hs:σ[i]?=some (some (.ref a)))(ha:H a=some (.ins (ob (if tw=true then 2 else 1)) dx (pgF tw l t)))(q:Q (.ref t) H):YUb K (J9 i) "entries" σ H Q :=
 Z1 (T.ob_ _ Yeb) (by decide) hs ha (by cases tw <;> rfl) q
end
theorem Xub{x:V}(h:xs[0]?=some x):atI xs 0=some x:=Jo (j:=0) h
inductive QF(u0_:W.Frag)(ob:Nat->Addr)(vs:List V)(H:Hp)(Q:VK)(E:XK):Prop
 | mk:∀ a l es,vs=[.ref a]->PgD ob H a l es->(∀ r H',Qk H H'->H r=none->TD H' 8 (Zl l es) (.ref r)->Q (.ref r) H')->QF u0_ ob vs H Q E
seal PE PT PW PA PS PSs PI PG Q0 PGs PO in
theorem YD(Z:Zs mg)(T:Tx K mg CT cs ob)(F:Fun K "told" "Page.told" Y1 f fd):QD P w K mg base (CX1 P w) 1 f fd ["self"] (QF K ob):=by
 refine F.ok1 Yca (fun vs H Q E h=>?_) (fun cdv A outer s H vs Q E hr h=>?_)
 ·walk_at "n"
 obtain⟨a,l,es,rfl,hP,q⟩:=h;refine⟨_,(Qf (Qp (ZI (Qi (ZH (pv 0) rfl) (Qi (ZH (pv 0) rfl) Qe))))),?_⟩
 refine Ql (σ:=[some (.ref a)]) rfl ?_
 walk_at "rd";obtain⟨tw,dx,t,_,ha,ht⟩:=hP;exact Yfb T rfl ha (ZOa T rfl ha ⟨JX,fun p hp=>q p _ (Qg hp _) hp (TD.pair Qa (.ofV rfl) (ht.same (Qg hp _)))⟩)
inductive Zg(u0_:W.Frag)(ob:Nat->Addr)(vs:List V)(H:Hp)(Q:VK)(E:XK):Prop
 | mk:∀ a l k r es,vs=[.ref a]->PgD ob H a l (.t (.v k::r)::es)->Q k H->Zg u0_ ob vs H Q E
seal PE PT PW PA PS PSs PI PG Q0 PGs PO in
theorem J6(Z:Zs mg)(T:Tx K mg CT cs ob)(F:Fun K "first" "Page.first" Yu f fd):QD P w K mg base (CX1 P w) 1 f fd ["self"] (Zg K ob):=by
 refine F.ok1 Z7a (fun vs H Q E h=>?_) (fun cdv A outer s H vs Q E hr h=>?_)
 ·walk_at "n"
 obtain⟨a,l,k,r,es,rfl,hP,q⟩:=h;refine⟨_,(Qf (Qp (QS QP (QS QP (ZH (pv 0) rfl) Qb (fun _ _=>rfl)) Qb (fun _ _=>rfl)))),?_⟩
 refine Ql (σ:=[some (.ref a)]) rfl ?_
 walk_at "rd";obtain⟨tw,dx,t,_,ha,ht⟩:=hP;obtain⟨_,_,xs,_,e,ht',rt⟩:=ht.tup;cases e;cases rt with
 | cons r1 _ =>
  obtain⟨_,b,ys,_,rfl,hb,rb⟩:=r1.tup;cases rb with
  | cons r2 _ =>
   obtain⟨_,rfl⟩:=r2.flat;exact ZOa T rfl ha ⟨t,rfl,_,SqT.of ht',_,Xub rfl,b,rfl,_,SqT.of hb,_,Xub rfl,q⟩
inductive ZO(K:W.Frag)(ob:Nat->Addr)(vs:List V)(H:Hp)(Q:VK)(E:XK):Prop
 | mk:∀ a tw dx l e b xs,vs=[.ref a,.int l,.ref e]->H a=some (.ins (ob (if tw=true then 2 else 1)) dx [])->HE b H e xs->xs.length<=900->(∀ t H',H' a=some (.ins (ob (if tw=true then 2 else 1)) dx (Zr "entries" (.ref t) (Zr "level" (.int l) [])))->H' t=some (.tup xs)->(∀ fs,Qk (upd H a (.ins (ob (if tw=true then 2 else 1)) dx fs)) (upd H' a (.ins (ob (if tw=true then 2 else 1)) dx fs)))->Q .non H')->ZO K ob vs H Q E
seal PE PT PW PA PS PSs PI PG Q0 PGs PO in
theorem Yja(Z:Zs mg)(T:Tx K mg CT cs ob)(F:Fun K "__init__" "Page.__init__" Y0 f fd):QD P w K mg base CX0 1 f fd ["self","level","entries"] (ZO K ob):=by
 refine F.ok Yba (fun vs H Q E h=>?_) (fun cdv A outer s H vs Q E hr h=>?_)
 ·walk_at "n"
 obtain⟨a,tw,dx,l,e,b,xs,rfl,ha,he,lx,q⟩:=h;refine⟨_,(@Qc _ _ _ _ _ (YU (pv 0) (pv 1) rfl)
  (Qf (YU (pv 0) (QW JV rfl (Z.tuple) Zra (Qi (pv 2) Qe)) rfl))),?_⟩
 refine Ql (σ:=[some (.ref a),some (.int l),some (.ref e)]) rfl ?_
 walk_at "rd";have c:=T.ob_ _ (Yeb (tw:=tw));generalize ob (if tw=true then 2 else 1)=C at *
 refine J5a c (by decide) rfl (y:=.int l) (H1:=H) (fun Q q=>q) ha (by decide) ?_
 have he1:HE b _ e xs:=HE.upd_ins (o:=.ins C dx (Zr "level" (.int l) [])) he ha;have last:∀ (t:Addr) (H1:Hp),H1 a=some (.ins C dx (Zr "level" (.int l) []))->H1 t=some (.tup xs)->(∀ fs,Qk (upd H a (.ins C dx fs)) (upd H1 a (.ins C dx fs)))->Q .non (upd H1 a (.ins C dx (Zr "entries" (.ref t) (Zr "level" (.int l) [])))):=by
  intro t H1 h1 ht hsame;have ta:t≠a:=fun z=>by rw[z,h1]at ht;cases ht
  exact q t _ Qa (by rw[Qd ta];exact ht) fun fs=>by rw[JL];exact hsame fs
 cases b with
 | false =>
  refine⟨e,rfl,xs,.inl ⟨SqL.of he1,fun t ht=>⟨a,C,dx,_,rfl,Qg ht _ _ _ Qa,c.cl,c.no _ (by decide),show 1 < 1000 by decide,?_⟩⟩⟩
  have ta:t≠a:=fun z=>by rw[z,Qa]at ht;cases ht
  refine last t _ (Qg ht _ _ _ Qa) Qa fun fs=>?_
  rw[Y6a (Ne.symm ta),JL,<- Y6a (Ne.symm ta)];exact Qg (by rw[Qd ta]at ht ⊢;exact ht) _
 | true =>
  refine⟨e,rfl,xs,.inr ⟨SqT.of he1,⟨a,C,dx,_,rfl,Qa,c.cl,c.no _ (by decide),show 1 < 1000 by decide,?_⟩⟩⟩
  exact last e _ Qa he1 fun fs=>by rw[JL];exact Qk.refl _
theorem JHa{C dx C' dx':Addr}{fs fs':List (Str×V)}(ha:H a=some (.ins C dx fs))(s:Qk (upd H a (.ins C' dx' fs')) H'):Q1 H H':=fun b xs e=>s _ _ (by rw[Qd (ZA e ha (by intro z;cases z))];exact e)
inductive Jr(K:W.Frag)(ob:Nat->Addr)(vs:List V)(H:Hp)(Q:VK)(E:XK):Prop
 | mk:∀ a dx e b xs es,vs=[.ref a,.ref e]->H a=some (.ins (ob 1) dx [])->HE b H e xs->Paired (fun d v=>TD H 6 d v) es xs->xs.length<=900->(∀ dx fs H',Qk (upd H a (.ins (ob 1) dx fs)) H'->PgD ob H' a 0 es->Q .non H')->Jr K ob vs H Q E
seal PE PT PW PA PS PSs PI PG Q0 PGs PO in
theorem Yka(Z:Zs mg)(T:Tx K mg CT cs ob)(B_Page:BaI P w K mg base 1 "Page" (ZO K ob))(F:Fun K "__init__" "Leaf.__init__" Y5 f fd):QD P w K mg base CX0 2 f fd ["self","rows"] (Jr K ob):=by
 refine F.ok Yfa (fun vs H Q E h=>?_) (fun cdv A outer s H vs Q E hr h=>?_)
 ·walk_at "n"
 obtain⟨a,dx,e,b,xs,es,rfl,ha,he,re,lx,q⟩:=h;refine⟨_,(@Qc _ _ _ _ _ (Q9 (JDa B_Page (k:=1) hr (by decide) rfl (Qi (pv 0) (Qi Qb (Qi (pv 1) Qe)))))
  (Qf (YU (pv 0) (ZH (pv 0) rfl) rfl))),?_⟩
 refine Ql (σ:=[some (.ref a),some (.ref e)]) rfl ?_
 walk_at "rd";have c:=T.ob_ 1 (by decide)
 refine⟨a,false,dx,0,e,b,xs,rfl,ha,he,lx,fun t H1 h1 ht hs=>?_⟩
 have ta:t≠a:=fun z=>by rw[z,h1]at ht;cases ht
 refine J5a c (by decide) rfl (y:=.ref t) (H1:=H1) (fun Q q=>Z1 c (by decide) rfl h1 rfl q) h1 (show 2 < 1000 by decide) ?_
 exact q dx _ _ (hs _) ⟨false,dx,t,rfl,Qa,TD.ofT (by rw[Qd ta];exact ht) (TDs.sameT re (JHa ha (hs _)))⟩
inductive Js(K:W.Frag)(ob:Nat->Addr)(vs:List V)(H:Hp)(Q:VK)(E:XK):Prop
 | mk:∀ a dx l e b xs es,vs=[.ref a,.int l,.ref e]->l≠0->H a=some (.ins (ob 2) dx [])->HE b H e xs->Paired (fun d v=>TD H 6 d v) es xs->xs.length<=900->(∀ dx fs H',Qk (upd H a (.ins (ob 2) dx fs)) H'->PgD ob H' a l es->Q .non H')->Js K ob vs H Q E
seal PE PT PW PA PS PSs PI PG Q0 PGs PO in
theorem Yla(Z:Zs mg)(T:Tx K mg CT cs ob)(B_Page:BaI P w K mg base 1 "Page" (ZO K ob))(F:Fun K "__init__" "Twig.__init__" Y6 f fd):QD P w K mg base CX0 2 f fd ["self","level","heads"] (Js K ob):=by
 refine F.ok Yga (fun vs H Q E h=>?_) (fun cdv A outer s H vs Q E hr h=>?_)
 ·walk_at "n"
 obtain⟨a,dx,l,e,b,xs,es,rfl,hl,ha,he,re,lx,q⟩:=h;refine⟨_,(@Qc _ _ _ _ _ (Q9 (JDa B_Page (k:=1) hr (by decide) rfl (Qi (pv 0) (Qi (pv 1) (Qi (pv 2) Qe)))))
  (Qf (YU (pv 0) (ZH (pv 0) rfl) rfl))),?_⟩
 refine Ql (σ:=[some (.ref a),some (.int l),some (.ref e)]) rfl ?_
 walk_at "rd";have c:=T.ob_ 2 (by decide)
 refine⟨a,true,dx,l,e,b,xs,rfl,ha,he,lx,fun t H1 h1 ht hs=>?_⟩
 have ta:t≠a:=fun z=>by rw[z,h1]at ht;cases ht
 refine J5a c (by decide) rfl (y:=.ref t) (H1:=H1) (fun Q q=>Z1 c (by decide) rfl h1 rfl q) h1 (show 2 < 1000 by decide) ?_
 exact q dx _ _ (hs _) ⟨true,dx,t,(decide_eq_true hl).symm,Qa,TD.ofT (by rw[Qd ta];exact ht) (TDs.sameT re (JHa ha (hs _)))⟩
inductive YE(u0_:W.Frag)(ob:Nat->Addr)(vs:List V)(H:Hp)(Q:VK)(E:XK):Prop
 | mk:∀ l e b xs es,vs=[.int l,.ref e]->HE b H e xs->Paired (fun d v=>TD H 6 d v) es xs->xs.length<=900->(∀ a H',Qk H H'->H a=none->PgD ob H' a l es->Q (.ref a) H')->YE u0_ ob vs H Q E
seal PE PT PW PA PS PSs PI PG Q0 PGs PO in
theorem X8a(Z:Zs mg)(T:Tx K mg CT cs ob)(X9a:MkV P w K mg base 2 "Twig" (ob 2) (Js K ob))(Qab:MkV P w K mg base 2 "Leaf" (ob 1) (Jr K ob))(F:Fun K "page_of" "page_of" Qxa f fd):QD P w K mg base CX0 4 f fd ["level","entries"] (YE K ob):=by
 refine F.ok X4a (fun vs H Q E h=>?_) (fun cdv A outer s H vs Q E hr h=>?_)
 ·walk_at "n"
 obtain⟨l,e,b,xs,es,rfl,he,re,lx,q⟩:=h;refine⟨_,(@Qc _ _ _ _ _ (QR (Qs ZB (pv 0) Qb (Qt _)) (Qf (Qp (XYb Qab (k:=3) hr (by decide) rfl (Qi (pv 1) Qe)))) Qw)
  (Qf (Qp (XYb X9a (k:=3) hr (by decide) rfl (Qi (pv 0) (Qi (pv 1) Qe)))))),?_⟩
 refine Ql (σ:=[some (.int l),some (.ref e)]) rfl ?_
 walk_at "rd";have sH:∀ (x dx:Addr) (o u:HO),H x=none->H dx=none->Qk H (upd (upd H dx u) x o):=fun x dx o u h1 h2=>X6 h1 h2 (Qk.refl _)
 refine Jz (fun h=>?_) fun h=>?_
 ·refine fun x dx hx hdx hne=>⟨x,dx,e,b,xs,es,rfl,Qa,he.same (sH _ _ _ _ hx hdx),TDs.sameT re (sH _ _ _ _ hx hdx).t,lx,fun dx' fs H' s' pg=>⟨rfl,q x H' ?_ hx ?_⟩⟩
  ·rw[JL]at s';exact X6 hx hdx s'
  ·subst h;exact pg
 ·refine fun x dx hx hdx hne=>⟨x,dx,l,e,b,xs,es,rfl,h,Qa,he.same (sH _ _ _ _ hx hdx),TDs.sameT re (sH _ _ _ _ hx hdx).t,lx,fun dx' fs H' s' pg=>⟨rfl,q x H' ?_ hx pg⟩⟩
  rw[JL]at s';exact X6 hx hdx s'
abbrev StL:=List (Int×Dt×Addr)
def stF(d1 d2:Addr)(c:Int):List (Str×V):=Zr "count" (.int c) (Zr "number_by_told" (.ref d2) (Zr "told_by_number" (.ref d1) []))
def ZPa(x:Int×Dt×Addr):Key×V:=(.inl x.1,.ref x.2.2)
def Xc(x:Int×Dt×Addr):Dt×Addr×V:=(x.2.1,x.2.2,.int x.1)
def Q2c(d:Dt):Prop:=∃ l k r,∃ es:List Dt,d=Zl l (.t (.v k::r)::es)/\hV k=true/\es.length < 900
structure QI(P:Program)(w:World)(ob:Nat->Addr)(H:Hp)(p d1 d2:Addr)(st:StL)(c:Int):Prop where
 obj:∃ dx,H p=some (.ins (ob 3) dx (stF d1 d2 c))
 num:H d1=some (.dK (st.map ZPa))
 tol:H d2=some (dN P w d2 (st.map Xc))
 td:∀ x∈st,TD H 8 x.2.1 (.ref x.2.2)
 sh:∀ x∈st,Q2c x.2.1
 lt:∀ x∈st,x.1 < c
 nn:(st.map (·.1)).Nodup
 nd:(st.map (·.2.1)).Nodup
 few:st.length<=1000000
section
variable{P:Program}{w:World}{K:W.Frag}{ob:Nat->Addr}{H H':Hp}{p d1 d2:Addr}{st:StL}{c:Int}
theorem QI.pd1(h:QI P w ob H p d1 d2 st c):p≠d1:=by
 obtain⟨dx,e⟩:=h.obj;exact ZA e h.num (by intro z;cases z)
theorem QI.pd2(h:QI P w ob H p d1 d2 st c):p≠d2:=by
 obtain⟨dx,e⟩:=h.obj;exact ZA e h.tol (by intro z;cases z)
theorem QI.d12(h:QI P w ob H p d1 d2 st c):d1≠d2:=ZA h.num h.tol (by intro z;cases z)
theorem QI.keep(h:QI P w ob H p d1 d2 st c)(s:Q1 H H')(hp:H' p=H p)(h1:H' d1=H d1)(h2:H' d2=H d2):QI P w ob H' p d1 d2 st c :=
 ⟨by rw[hp];exact h.obj,by rw[h1];exact h.num,by rw[h2];exact h.tol,fun x hx=>TD.sameT s 8 (h.td x hx),h.sh,h.lt,h.nn,h.nd,h.few⟩
theorem QI.same(h:QI P w ob H p d1 d2 st c)(s:Qk H H'):QI P w ob H' p d1 d2 st c:=by
 obtain⟨dx,e⟩:=h.obj;exact h.keep s.t (by rw[s _ _ e,e]) (by rw[s _ _ h.num,h.num]) (by rw[s _ _ h.tol,h.tol])
theorem QI.dn(h:QI P w ob H p d1 d2 st c):YY P w K H d2 (st.map Xc):=⟨h.tol,fun x hx=>by
 obtain⟨y,hy,rfl⟩:=mem_map.mp hx;exact⟨(h.td y hy).rep,(h.td y hy).h⟩⟩
theorem QI.get(h:QI P w ob H p d1 d2 st c){x:Int×Dt×Addr}(hx:x∈st):Zc (st.map ZPa) (.inl x.1)=some (.ref x.2.2):=by
 rw[JEa];have:(fun y:Int×Dt×Addr=>decide ((ZPa y).1=(Sum.inl x.1:Key)))=fun y=>decide (y.1=x.1):=by
  funext y
  exact decide_eq_decide.mpr ⟨fun e=>by injection e,fun e=>by show Sum.inl _=_;rw[e]⟩
 rw[this,Yc (fun y:Int×Dt×Addr=>y.1) h.nn hx];rfl
theorem QI.getN(h:QI P w ob H p d1 d2 st c){x:Int×Dt×Addr}(hx:x∈st):Jp (st.map Xc) x.2.1=some (.int x.1):=by
 rw[Xaa];have:=Yc (fun y:Int×Dt×Addr=>y.2.1) h.nd hx
 rw[show(fun y:Int×Dt×Addr=>decide ((Xc y).1=x.2.1))=fun y=>decide (y.2.1=x.2.1) from rfl,this];rfl
theorem QI.fun_(h:QI P w ob H p d1 d2 st c){n:Int}{d d':Dt}{t t':Addr}(h1:(n,d,t)∈st)(h2:(n,d',t')∈st):d=d'/\t=t':=by
 have e1:=Yc (fun y:Int×Dt×Addr=>y.1) h.nn h1
 have e2:=Yc (fun y:Int×Dt×Addr=>y.1) h.nn h2
 have e:=e1.symm.trans e2;injection e with e
 injection e with _ e
 injection e with a b
 exact⟨a,b⟩
theorem X3b{n:Int}(h:∀ x∈st,x.1≠n):Zc (st.map ZPa) (.inl n)=none:=by
 rw[JEa];have:(fun y:Int×Dt×Addr=>decide ((ZPa y).1=(Sum.inl n:Key)))=fun y=>decide (y.1=n):=by
  funext y
  exact decide_eq_decide.mpr ⟨fun e=>by injection e,fun e=>by show Sum.inl _=_;rw[e]⟩
 rw[this,QVb (fun y:Int×Dt×Addr=>y.1) h];rfl
theorem Ygb(h:∀ x∈st,x.2.1≠d):Jp (st.map Xc) d=none:=by
 rw[Xaa];have:=QVb (fun y:Int×Dt×Addr=>y.2.1) h
 rw[show(fun y:Int×Dt×Addr=>decide ((Xc y).1=d))=fun y=>decide (y.2.1=d) from rfl,this];rfl
theorem Qba(h:QI P w ob H p d1 d2 st c)(s:QU [p,d1,d2] H H'):Q1 H H':=fun b xs e=>s b _ (fun z=>by
 obtain⟨dx,eo⟩:=h.obj
 rcases mem_cons.mp z with z | z
 ·rw[z,eo]at e;cases e
 rcases mem_cons.mp z with z | z
 ·rw[z,h.num]at e;cases e
 ·rw[mem_singleton.mp z,h.tol]at e;cases e) e
end
inductive Z7(P:Program)(w:World)(ob:Nat->Addr)(vs:List V)(H:Hp)(Q:VK)(E:XK):Prop
 | mk:∀ p dx,vs=[.ref p]->H p=some (.ins (ob 3) dx [])->(∀ d1 d2 H' dx fs,H d1=none->H d2=none->Qk (upd H p (.ins (ob 3) dx fs)) H'->QI P w ob H' p d1 d2 [] 0->Q .non H')->Z7 P w ob vs H Q E
seal PE PT PW PA PS PSs PI PG Q0 PGs PO in
theorem Jca(Z:Zs mg)(T:Tx K mg CT cs ob)(F:Fun K "__init__" "Pages.__init__" Yw f fd):QD P w K mg base CX0 1 f fd ["self"] (Z7 P w ob):=by
 refine F.ok Jaa (fun vs H Q E h=>?_) (fun cdv A outer s H vs Q E hr h=>?_)
 ·walk_at "n"
 obtain⟨a,dx,rfl,ha,q⟩:=h;refine⟨_,(@Qc _ _ _ _ _ (YU (pv 0) Zqa rfl)
  (@Qc _ _ _ _ _ (YU (pv 0) Y9a rfl)
  (Qf (YU (pv 0) Qb rfl)))),?_⟩
 refine Ql (σ:=[some (.ref a)]) rfl ?_
 walk_at "rd";have c:=T.ob_ 3 (by decide)
 intro p hp;have pa:a≠p:=fun z=>by rw[<- z,ha]at hp;cases hp
 refine⟨a,ob 3,dx,_,rfl,by rw[Qd pa];exact ha,c.cl,c.no _ (by decide),by decide,?_⟩
 intro p2 hp2;have pa2:a≠p2:=fun z=>by rw[<- z,Qa]at hp2;cases hp2
 have hp2':upd H p (.dK []) p2=none:=by rw[Qd (Ne.symm pa2)]at hp2;exact hp2
 have pp:p2≠p:=fun z=>by rw[z,Qa]at hp2';cases hp2'
 have hp2'':H p2=none:=by rw[Qd pp]at hp2';exact hp2'
 refine⟨a,ob 3,dx,Zr "told_by_number" (.ref p) [],rfl,by rw[Qd pa2];exact Qa,c.cl,c.no _ (by decide),(show 1 < 1000 by decide),?_⟩
 refine⟨a,ob 3,dx,Zr "number_by_told" (.ref p2) (Zr "told_by_number" (.ref p) []),rfl,Qa,c.cl,c.no _ (by decide),(show 2 < 1000 by decide),?_⟩
 show Q V.non _;rw[JL];refine q p p2 _ dx (stF p p2 0) hp hp2'' (fun b o hb=>?_) ⟨⟨dx,Qa⟩,?_,?_,(fun x hx=>nomatch hx),(fun x hx=>nomatch hx),(fun x hx=>nomatch hx),nodup_nil,nodup_nil,Vk _⟩
 ·by_cases e:b=a
  ·rw[e,Qa]at hb ⊢;exact hb
  ·rw[Qd e]at hb ⊢
   rw[Qd (Qq hb hp2''),Qd e,Qd (Qq hb hp)];exact hb
 ·rw[Qd (Ne.symm pa),Qd (Ne.symm pp),Qd (Ne.symm pa)];exact Qa
 ·rw[Qd (Ne.symm pa2)];exact Qa
inductive Zp(P:Program)(w:World)(cs ob:Nat->Addr)(vs:List V)(H:Hp)(Q:VK)(E:XK):Prop
 | mk:∀ p d1 d2 st c n,vs=[.ref p,.int n]->QI P w ob H p d1 d2 st c->(∀ d t,(n,d,t)∈st->Q (.ref t) H)->((∀ x∈st,x.1≠n)->∀ d,H d=none->E (.ref (cs 0)) (some d) (upd H d (xD d [("number",.int n)])))->Zp P w cs ob vs H Q E
seal PE PT PW PA PS PSs PI PG Q0 PGs PO in
theorem QAa(Z:Zs mg)(T:Tx K mg CT cs ob)(ZQa:MkX P w K mg base 1 "NoPage" (cs 0) CT ["number"])(F:Fun K "told_at" "Pages.told_at" Jk f fd):QD P w K mg base (CX1 P w) 3 f fd ["self","number"] (Zp P w cs ob):=by
 refine F.ok1 Qwa (fun vs H Q E h=>?_) (fun cdv A outer s H vs Q E hr h=>?_)
 ·walk_at "n"
 obtain⟨p,d1,d2,st,c,n,rfl,hS,q1,q2⟩:=h;refine⟨_,(@Qc _ _ _ _ _ (QR (ZVb (Zlb hr.u1 (pv 1) (ZH (pv 0) rfl))) (Qf (JCa Yp rfl rfl rfl ZQa (k:=2) hr (by decide) (Qi (pv 1) Qe))) Qw)
  (Qf (Qp (QEb hr.u1 (ZH (pv 0) rfl) (pv 1) (fun _ _=>rfl))))),?_⟩
 refine Ql (σ:=[some (.ref p),some (.int n)]) rfl ?_
 walk_at "rd";obtain⟨dx,ho⟩:=hS.obj;have cc:=T.ob_ 3 (by decide)
 refine Z1 cc (by decide) rfl ho rfl ⟨d1,rfl,_,Z3a.k (k:=.inl n) hS.num,?_⟩
 by_cases hx:∃ x∈st,x.1=n
 ·obtain⟨⟨n',d,t⟩,hm,rfl⟩:=hx
  rw[hS.get hm];rw[if_neg (by simp)]
  exact Z1 cc (by decide) rfl ho rfl ⟨d1,rfl,.ref t,by rw[<- hS.get hm];exact Z3a.k (k:=.inl _) hS.num,q1 d t hm⟩
 ·have hx':∀ x∈st,x.1≠n:=fun x h e=>hx ⟨x,h,e⟩
  rw[X3b hx',if_pos (by decide)]
  exact⟨rfl,show 1<=1000 by decide,fun d hd=>q2 hx' d hd⟩
inductive Zh(P:Program)(w:World)(cs ob:Nat->Addr)(vs:List V)(H:Hp)(Q:VK)(E:XK):Prop
 | mk:∀ p d1 d2 st c n,vs=[.ref p,.int n]->QI P w ob H p d1 d2 st c->(∀ l es t,(n,Zl l es,t)∈st->∀ a H',Qk H H'->H a=none->PgD ob H' a l es->Q (.ref a) H')->((∀ x∈st,x.1≠n)->∀ d,H d=none->E (.ref (cs 0)) (some d) (upd H d (xD d [("number",.int n)])))->Zh P w cs ob vs H Q E
seal PE PT PW PA PS PSs PI PG Q0 PGs PO in
theorem Jda(Z:Zs mg)(T:Tx K mg CT cs ob)(QBa:Cal P w K mg base 4 "page_of" ["level","entries"] (YE K ob))(QY:MeV P w K mg base 3 (ob 3) "told_at" (Zp P w cs ob))(F:Fun K "page" "Pages.page" YB f fd):QD P w K mg base (CX1 P w) 5 f fd ["self","number"] (Zh P w cs ob):=by
 refine F.ok1 Xw (fun vs H Q E h=>?_) (fun cdv A outer s H vs Q E hr h=>?_)
 ·walk_at "n"
 obtain⟨p,d1,d2,st,c,n,rfl,hS,q1,q2⟩:=h;refine⟨_,(@Qc _ _ _ _ _ (Qm (i:=2) Xw.nd rfl (Or.inl rfl) (PE1.pe (ZD (k:=4) (pv 0) hr rfl (Qi (pv 1) Qe)) Yp))
  (Qf (Qp (Qu QBa (k:=4) hr (by decide) rfl (Qi (QS QP (pv 2) Qb (fun _ _=>rfl)) (Qi (QS QP (pv 2) Qb (fun _ _=>rfl)) Qe)))))),?_⟩
 refine Ql (σ:=[some (.ref p),some (.int n),none]) rfl ?_
 walk_at "rd";obtain⟨dx,ho⟩:=hS.obj;have cc:=T.ob_ 3 (by decide)
 refine Jf rfl ho rfl cc.cl (QY.mono (by decide)) ⟨p,d1,d2,st,c,n,rfl,hS,fun d t hm=>?_,fun hx d hd=>q2 hx d hd⟩
 obtain⟨l,k,r,es,ed,hk,le⟩:=hS.sh _ hm;have td:=hS.td _ hm;dsimp only at ed td;subst ed;obtain⟨_,x,z,e,ht,t1,t2⟩:=td.pair_of;cases e;obtain⟨_,rfl⟩:=t1.flat;obtain⟨m,e',xs,em,rfl,he,re⟩:=t2.tup;obtain rfl:m=6:=by omega
 refine⟨t,rfl,_,SqT.of ht,.int l,rfl,⟨t,rfl,_,SqT.of ht,.ref e',rfl,?_⟩⟩
 exact⟨l,e',true,xs,_,rfl,he,re,by have:=Paired.length re;simp at this;omega,fun a H' s ha pg=>q1 l _ t hm a H' s ha pg⟩
inductive Z8(P:Program)(w:World)(ob:Nat->Addr)(vs:List V)(H:Hp)(Q:VK)(E:XK):Prop
 | mk:∀ p d1 d2 st c a l es,vs=[.ref p,.ref a]->QI P w ob H p d1 d2 st c->PgD ob H a l es->Q2c (Zl l es)->st.length < 1000000->(∀ n t,(n,Zl l es,t)∈st->∀ H',Qk H H'->Q (.int n) H')->((∀ x∈st,x.2.1≠Zl l es)->∀ t H',QU [p,d1,d2] H H'->QI P w ob H' p d1 d2 (st++[(c,Zl l es,t)]) (c+1)->Q (.int c) H')->Z8 P w ob vs H Q E
seal PE PT PW PA PS PSs PI PG Q0 PGs PO in
theorem Jea(Z:Zs mg)(T:Tx K mg CT cs ob)(JR:MeV P w K mg base 1 (ob 0) "told" (QF K ob))(ZE:MeV P w K mg base 1 (ob 1) "told" (QF K ob))(ZF:MeV P w K mg base 1 (ob 2) "told" (QF K ob))(F:Fun K "kept" "Pages.kept" Yz f fd):QD P w K mg base (CX1 P w) 2 f fd ["self","page"] (Z8 P w ob):=by
 refine F.ok1 J2 (fun vs H Q E h=>?_) (fun cdv A outer s H vs Q E hr h=>?_)
 ·walk_at "n"
 obtain⟨p,d1,d2,st,c,a,l,es,rfl,hS,hP,hsh,few,q1,q2⟩:=h;refine⟨_,(@Qc _ _ _ _ _ (Qm (i:=2) J2.nd rfl (Or.inl rfl) (PE1.pe (XF (k:=1) (pv 1) hr rfl) Yp))
  (@Qc _ _ _ _ _ (QR (ZVb (QUc hr.u9 (pv 2) (ZH (pv 0) rfl))) (Qf (Qp (Xlb hr.u9 (ZH (pv 0) rfl) (pv 2) (fun _ _=>rfl)))) Qw)
  (@Qc _ _ _ _ _ (Qm (i:=3) J2.nd rfl (Or.inl rfl) (ZH (pv 0) rfl))
  (@Qc _ _ _ _ _ (XY hr.u1 (ZH (pv 0) rfl) (pv 3) (pv 2) rfl)
  (@Qc _ _ _ _ _ (Xmb hr.u9 (ZH (pv 0) rfl) (pv 2) (pv 3) rfl)
  (@Qc _ _ _ _ _ (YU (pv 0) (Qj ZY (pv 3) Qb) rfl)
  (Qf (Qp (pv 3))))))))),?_⟩
 refine Ql (σ:=[some (.ref p),some (.ref a),none,none]) rfl ?_
 walk_at "rd";obtain⟨dx,ho⟩:=hS.obj;have cc:=T.ob_ 3 (by decide)
 obtain⟨tw,dxa,t0,etw,ha,ht⟩:=id hP;have Mt:MeV P w K mg base 1 (ob (if tw=true then 2 else 1)) "told" (QF K ob):=by cases tw with | true=>exact ZF | false=>exact ZE
 refine Qpa rfl ha (by cases tw <;> rfl) (T.ob_ _ Yeb).cl Mt ⟨a,l,es,rfl,hP,fun r H1 s1 hr1 t1=>?_⟩
 have hS1:=hS.same s1;have ho1:=s1 _ _ ho;refine Z1 cc (by decide) rfl ho1 rfl ⟨d2,rfl,r,rfl,_,hS1.dn,Zl l es,t1.rep,t1.h,?_⟩
 by_cases hx:∃ x∈st,x.2.1=Zl l es
 ·obtain⟨⟨n,d,t⟩,hm,e⟩:=hx
  dsimp only at e;subst e;have g:=hS1.getN hm;dsimp only at g;rw[g,if_pos (show(some (V.int n)).isSome=true from rfl)]
  exact Z1 cc (by decide) rfl ho1 rfl ⟨d2,rfl,r,rfl,_,hS1.dn,Zl l es,t1.rep,t1.h,_,g,q1 n t hm _ s1⟩
 ·have hx':∀ x∈st,x.2.1≠Zl l es:=fun x h e=>hx ⟨x,h,e⟩
  have hc:∀ x∈st,x.1≠c:=fun x h e=>by have:=hS.lt x h;omega
  rw[Ygb hx',if_neg (by decide)]
  refine Z1 cc (by decide) rfl ho1 rfl ?_
  refine Z1 cc (by decide) rfl ho1 rfl ⟨d1,rfl,_,JUa.k (k:=.inl c) hS1.num (by rw[Vr,sizeLine_eq];omega),?_⟩
  rw[YLa _ (X3b hc)];have sx2:QU [p,d1,d2] H1 (upd H1 d1 (.dK (st.map ZPa++[(.inl c,.ref r)]))):=(QU.refl _ _).upd (by simp)
  have st2:=Qba hS1 sx2;refine Z1 cc (by decide) rfl (by rw[Qd hS.pd1];exact ho1) rfl ⟨d2,rfl,r,rfl,st.map Xc,⟨by rw[Qd (Ne.symm hS.d12)];exact hS1.tol,fun x hx=>?_⟩,Zl l es,(TD.sameT st2 8 t1).rep,t1.h,Ygb hx',by rw[Vr,sizeLine_eq];omega,?_⟩
  ·obtain⟨y,hy,rfl⟩:=mem_map.mp hx
   exact⟨(TD.sameT st2 8 (hS1.td y hy)).rep,(hS1.td y hy).h⟩
  generalize e2:upd H1 d1 (.dK (st.map ZPa++[(.inl c,.ref r)]))=H2 at sx2 st2;have sx3:QU [p,d1,d2] H1 (upd H2 d2 (dN P w d2 (st.map Xc++[(Zl l es,r,.int c)]))):=sx2.upd (by simp)
  have p3:upd H2 d2 (dN P w d2 (st.map Xc++[(Zl l es,r,.int c)])) p=some (.ins (ob 3) dx (stF d1 d2 c)):=by rw[Qd hS.pd2,<- e2,Qd hS.pd1];exact ho1
  refine J5a (fs:=stF d1 d2 c) cc (by decide) rfl (y:=.int (c+1)) (H1:=upd H2 d2 (dN P w d2 (st.map Xc++[(Zl l es,r,.int c)]))) (fun Q q=>by
   simp only[tOp,Xxa,Xya,tC,rI0];exact⟨c,1,rfl,rfl,q⟩) p3 (show 3 < 1000 by decide) ?_
  have sx4:QU [p,d1,d2] H1 (upd (upd H2 d2 (dN P w d2 (st.map Xc++[(Zl l es,r,.int c)]))) p (.ins (ob 3) dx (stF d1 d2 (c+1)))):=sx3.upd (by simp)
  have st4:=Qba hS1 sx4;refine q2 hx' r _ ((s1.x _).trans sx4) ⟨⟨dx,Qa⟩,?_,?_,fun x hx=>?_,fun x hx=>?_,fun x hx=>?_,?_,?_,?_⟩
  ·rw[Qd (Ne.symm hS.pd1),Qd hS.d12,<- e2,Qa,map_append];rfl
  ·rw[Qd (Ne.symm hS.pd2),Qa,map_append];rfl
  ·rcases Vl.mp hx with h | h
   ·exact TD.sameT st4 8 (hS1.td x h)
   ·rw[mem_singleton.mp h];exact TD.sameT st4 8 t1
  ·rcases Vl.mp hx with h | h
   ·exact hS.sh x h
   ·rw[mem_singleton.mp h];exact hsh
  ·rcases Vl.mp hx with h | h
   ·have:=hS.lt x h;omega
   ·rw[mem_singleton.mp h];show c < c+1;omega
  ·rw[map_append,nodup_append]
   refine⟨hS.nn,by simp,fun a ha b hb e=>?_⟩
   obtain⟨y,hy,rfl⟩:=mem_map.mp ha;simp at hb;exact hc y hy (by rw[e,hb])
  ·rw[map_append,nodup_append]
   refine⟨hS.nd,by simp,fun a ha b hb e=>?_⟩
   obtain⟨y,hy,rfl⟩:=mem_map.mp ha;simp at hb;exact hx' y hy (by rw[e,hb])
  ·rw[Vs];show _+1<=1000000;omega
inductive J7(P:Program)(w:World)(cs ob:Nat->Addr)(vs:List V)(H:Hp)(Q:VK)(E:XK):Prop
 | mk:∀ p d1 d2 st c n,vs=[.ref p,.int n]->QI P w ob H p d1 d2 st c->(∀ l k r es t,(n,Zl l (.t (.v k::r)::es),t)∈st->∀ a H',Qk H H'->H a=none->TD H' 1 (.t [.v (.int l),.v k]) (.ref a)->Q (.ref a) H')->((∀ x∈st,x.1≠n)->∀ d,H d=none->E (.ref (cs 0)) (some d) (upd H d (xD d [("number",.int n)])))->J7 P w cs ob vs H Q E
seal PE PT PW PA PS PSs PI PG Q0 PGs PO in
theorem Jfa(Z:Zs mg)(T:Tx K mg CT cs ob)(QY:MeV P w K mg base 3 (ob 3) "told_at" (Zp P w cs ob))(F:Fun K "card" "Pages.card" YA f fd):QD P w K mg base (CX1 P w) 4 f fd ["self","number"] (J7 P w cs ob):=by
 refine F.ok1 Xv (fun vs H Q E h=>?_) (fun cdv A outer s H vs Q E hr h=>?_)
 ·walk_at "n"
 obtain⟨p,d1,d2,st,c,n,rfl,hS,q1,q2⟩:=h;refine⟨_,(@Qc _ _ _ _ _ (Qm (i:=2) Xv.nd rfl (Or.inl rfl) (PE1.pe (ZD (k:=3) (pv 0) hr rfl (Qi (pv 1) Qe)) Yp))
  (Qf (Qp (ZI (Qi (QS QP (pv 2) Qb (fun _ _=>rfl)) (Qi (QS QP (QS QP (QS QP (pv 2) Qb (fun _ _=>rfl)) Qb (fun _ _=>rfl)) Qb (fun _ _=>rfl)) Qe)))))),?_⟩
 refine Ql (σ:=[some (.ref p),some (.int n),none]) rfl ?_
 walk_at "rd";obtain⟨dx,ho⟩:=hS.obj;have cc:=T.ob_ 3 (by decide)
 refine Jf rfl ho rfl cc.cl (QY.mono (by decide)) ⟨p,d1,d2,st,c,n,rfl,hS,fun d t hm=>?_,fun hx d hd=>q2 hx d hd⟩
 obtain⟨l,k,r,es,ed,hk,le⟩:=hS.sh _ hm;have td:=hS.td _ hm;dsimp only at ed td;subst ed;obtain⟨_,x,z,e,ht,t1,t2⟩:=td.pair_of;cases e;obtain⟨_,rfl⟩:=t1.flat;obtain⟨m,e',xs,em,rfl,he,re⟩:=t2.tup;cases re with
 | cons r1 _ =>
  obtain⟨_,b,ys,_,rfl,hb,rb⟩:=r1.tup;cases rb with
  | cons r2 _ =>
   obtain⟨_,rfl⟩:=r2.flat;exact⟨t,rfl,_,SqT.of ht,.int l,rfl,t,rfl,_,SqT.of ht,.ref e',rfl,e',rfl,_,SqT.of he,.ref b,Xub rfl,b,rfl,_,SqT.of hb,_,Xub rfl,JX,fun a ha=>q1 l _ _ _ t hm a _ (Qg ha _) ha (TD.pair Qa (.ofV rfl) (.ofV hk))⟩
inductive XN(u0_:W.Frag)(vs:List V)(H:Hp)(Q:VK)(E:XK):Prop
 | mk:∀ v,vs=[v]->Z0 v->(∀ p,H p=none->Q (.ref p) (upd H p (.tup (rk v))))->XN u0_ vs H Q E
seal PE PT PW PA PS PSs PI PG Q0 PGs PO in
theorem Qbb(Z:Zs mg)(T:Tx K mg CT cs ob)(F:Fun K "rank_of" "rank_of" Qva f fd):QD P w K mg base CX0 1 f fd ["value"] (XN K):=by
 refine F.ok X3a (fun vs H Q E h=>?_) (fun cdv A outer s H vs Q E hr h=>?_)
 ·walk_at "n"
 obtain⟨v,rfl,hv,q⟩:=h;refine⟨_,(@Qc _ _ _ _ _ (QR (Qs XFa (pv 0) Qha (Qt _)) (Qf (Qp (ZI (Qi Qb (Qi Qb Qe))))) Qw)
  (@Qc _ _ _ _ _ (QR (XA (Q5 JO rfl (Z.isinstance) Z4 (Qi (pv 0) (Qi (Q0a rfl (Z.str) JWa (v:=.ty "str") rfl) Qe))) (fun _=>rfl)) (Qf (Qp (ZI (Qi Qb (Qi (pv 0) Qe))))) Qw)
  (Qf (Qp (ZI (Qi Qb (Qi (pv 0) Qe))))))),?_⟩
 refine Ql (σ:=[some v]) rfl ?_
 walk_at "rd";cases v with
 | non=>walk_at "rd";exact⟨by decide,q⟩
 | int n =>
  walk_at "rd";refine YW (.int n) Xa ⟨_,rfl,?_⟩
  walk_at "rd";exact⟨by show 2<=sizeLine;decide,q⟩
 | str z =>
  walk_at "rd";refine YW (.str z) Xb ⟨_,rfl,?_⟩
  walk_at "rd";exact⟨by show 2<=sizeLine;decide,q⟩
 | _=>exact hv.elim
inductive QCa(u0_:W.Frag)(vs:List V)(H:Hp)(Q:VK)(E:XK):Prop
 | mk:∀ a b,vs=[a,b]->Z0 a->Z0 b->(∀ H',Qk H H'->Q (.bl (ltV a b)) H')->QCa u0_ vs H Q E
seal PE PT PW PA PS PSs PI PG Q0 PGs PO in
theorem ZKb(Z:Zs mg)(T:Tx K mg CT cs ob)(JIa:Cal P w K mg base 1 "rank_of" ["value"] (XN K))(F:Fun K "before" "before" ZKa f fd):QD P w K mg base CX0 2 f fd ["one","other"] (QCa K):=by
 refine F.ok ZIb (fun vs H Q E h=>?_) (fun cdv A outer s H vs Q E hr h=>?_)
 ·walk_at "n"
 obtain⟨a,b,rfl,ha,hb,q⟩:=h;refine⟨_,(Qf (Qp (JN (Qsc (hr.units0)) (Qu JIa (k:=1) hr (by decide) rfl (Qi (pv 0) Qe)) (Qu JIa (k:=1) hr (by decide) rfl (Qi (pv 1) Qe)) (Qt _)))),?_⟩
 refine Ql (σ:=[some a,some b]) rfl ?_
 walk_at "rd";refine⟨a,rfl,ha,fun p hp=>?_⟩
 walk_at "rd";refine⟨b,rfl,hb,fun p2 hp2=>?_⟩
 walk_at "rd";exact⟨rk a,SqT.of (by rw[Qd (Qq Qa hp2)];exact Qa),rk b,SqT.of Qa,ltV a b,QFc ha hb,q _ ((Qg hp _).trans (Qg hp2 _))⟩
def Yma(d:Dt):Prop:=∃ k r,d=.t (.v k::r)/\Zo k
theorem Yhb{k:V}(h:Zo k):hV k=true:=by
 cases k with
 | int n=>rfl
 | str z=>rfl
 | _=>exact h.elim
theorem Xd{k:V}(h:Zo k):Pl.Z0 k:=by
 cases k with
 | int n=>exact h
 | str z=>exact h
 | _=>exact h.elim
theorem ZKc(k:V):QC k<=6:=M11.Yab 6 _
theorem Xl{d:Addr}{o:HO}(s:Qk H H')(n:H d=none):Qk H (upd H' d o):=fun b u hb=>by
 rw[Qd (Qq hb n)];exact s b u hb
structure Jt(H:Hp)(p:Addr)(ps:List Addr)(parts:List (List V)):Prop where
 at_:H p=some (.lst (ps.map V.ref))
 len:ps.length=parts.length
 part:∀ (i:Nat) q l,ps[i]?=some q->parts[i]?=some l->H q=some (.lst l)
 nd:(p::ps).Nodup
section
variable{H:Hp}{p:Addr}{ps:List Addr}{parts:List (List V)}
theorem Jt.more{q:Addr}{l:List V}(pa:Jt H p ps parts)(hq:H q=none):Jt (upd (upd H q (.lst l)) p (.lst ((ps++[q]).map V.ref))) p (ps++[q]) (parts++[l]):=by
 have qp:q≠p:=fun z=>by rw[z,pa.at_]at hq;cases hq
 have nps:q∉ps:=fun z=>by
  obtain⟨i,hi,e⟩:=mem_iff_getElem.mp z;have:=pa.part i q (parts[i]'(by rw[<- pa.len];exact hi)) (by rw[Vb hi,e]) (Vb _)
  rw[hq]at this;cases this
 have npp:p∉ps:=(nodup_cons.mp pa.nd).1;refine⟨Qa,by simp[pa.len],fun i r m e1 e2=>?_,?_⟩
 ·have rp:r≠p:=fun z=>by
   have hm:=Vm e1;rw[z]at hm
   rcases Vl.mp hm with w | w
   ·exact npp w
   ·exact qp (by simpa using w:p=q).symm
  rw[Qd rp]
  by_cases hl:i < ps.length
  ·rw[getElem?_append_left hl]at e1
   rw[getElem?_append_left (by rw[<- pa.len];exact hl)]at e2
   have rq:r≠q:=fun z=>nps (by rw[<- z];exact Vm e1)
   rw[Qd rq];exact pa.part i r m e1 e2
  ·rw[getElem?_append_right (by omega)]at e1
   rw[getElem?_append_right (by rw[<- pa.len];omega),<- pa.len]at e2
   have h0:i - ps.length=0:=by
    cases w:i - ps.length with
    | zero=>rfl
    | succ m=>rw[w]at e1;simp at e1
   rw[h0]at e1 e2;simp at e1 e2;subst e1 e2;exact Qa
 ·have:=pa.nd
  simp only[nodup_cons,nodup_append,Vl,mem_singleton]at this ⊢;refine⟨fun z=>z.elim npp fun z=>qp z.symm,this.2,by simp,fun a ha b hb=>?_⟩
  intro z;subst hb;subst z;exact nps ha
theorem Jt.on{ini:List Addr}{q:Addr}{li:List (List V)}{last new:List V}(pa:Jt H p (ini++[q]) (li++[last])):Jt (upd H q (.lst new)) p (ini++[q]) (li++[new]):=by
 have nd:=pa.nd;have qp:p≠q:=fun z=>(nodup_cons.mp nd).1 (by rw[z];simp)
 have nq:q∉ini:=fun z=>by
  have:=(nodup_cons.mp nd).2;rw[nodup_append]at this;exact this.2.2 q z q (by simp) rfl
 have len:ini.length=li.length:=by have:=pa.len;simp at this;exact this
 refine⟨by rw[Qd qp];exact pa.at_,by simp[len],fun i r m e1 e2=>?_,nd⟩
 by_cases hl:i < ini.length
 ·rw[getElem?_append_left hl]at e1
  rw[getElem?_append_left (by omega)]at e2
  have rq:r≠q:=fun z=>nq (by rw[<- z];exact Vm e1)
  rw[Qd rq];exact pa.part i r m (by rw[getElem?_append_left hl];exact e1) (by rw[getElem?_append_left (by omega)];exact e2)
 ·rw[getElem?_append_right (by omega)]at e1
  rw[getElem?_append_right (by omega),<- len]at e2
  have h0:i - ini.length=0:=by
   cases w:i - ini.length with
   | zero=>rfl
   | succ m=>rw[w]at e1;simp at e1
  rw[h0]at e1 e2;simp at e1 e2;subst e1 e2;exact Qa
end
abbrev PP(H:Hp):List (List Dt)->List (List V)->Prop:=Paired fun ds vs=>Paired (fun d v=>TD H 6 d v) ds vs
theorem Qca{α β:Type}{F:α->β->Prop}:∀ {xs:List α} {us:List β} {u:β},Paired F xs (us++[u])->∃ ys y,xs=ys++[y]/\Paired F ys us/\F y u
 | [],us,u,h=>by have:=Paired.length h;simp at this
 | x::xs,[],u,h=>by
  cases h with
  | cons r t=>cases t;exact⟨[],x,rfl,.nil,r⟩
 | x::xs,v::us,u,h=>by
  cases h with
  | cons r t =>
   obtain⟨ys,y,rfl,t',f⟩:=Qca t;exact⟨x::ys,y,rfl,.cons r t',f⟩
structure Ji(H H':Hp)(l:Int)(es:List Dt)(i:Nat)(p:Addr)(ps:List Addr)(parts:List (List V)):Prop where
 same:Qk H H'
 fresh:∀ q∈p::ps,H q=none
 pa:Jt H' p ps parts
 pp:PP H (QJ QC l (es.take i)) parts
 lp:parts.length<=i
 lq:∀ part∈parts,part.length<=i
section
variable{H H':Hp}{l:Int}{es rr:List Dt}{i:Nat}{p p1 q1 e:Addr}{ps ini:List Addr}{parts li:List (List V)}{last:List V}{k:V}
theorem Ji.start(hp:H p=none):Ji H (upd H p (.lst [])) l es 0 p [] [] where
 same:=Qg hp _
 fresh:=fun r hr=>by
  have:r=p:=by simpa using hr
  rw[this];exact hp
 pa:=⟨Qa,rfl,fun i r m e=>by simp at e,by simp⟩
 pp:=.nil
 lp:=Vk _
 lq:=fun x hx=>nomatch hx
theorem Yib(hd:es[i]?=some (.t (.v k::rr))):QJ QC l (es.take (i+1))=Tr.step QC l (QJ QC l (es.take i)) (.t (.v k::rr)):=by rw[take_add_one,hd];exact Jx _ _
theorem Ji.at1(c:Ji H H' l es i p ps parts)(hp1:H' p1=none):upd (upd H' p1 (.lst [])) p (.lst (ps.map V.ref++[V.ref p1])) p1=some (.lst []):=by
 have p1p:p1≠p:=fun z=>by rw[z,c.pa.at_]at hp1;cases hp1
 rw[Qd p1p];exact Qa
theorem Ji.atp(c:Ji H H' l es i p ps parts)(hp1:H' p1=none):upd H' p1 (.lst []) p=some (.lst (ps.map V.ref)):=by
 have p1p:p1≠p:=fun z=>by rw[z,c.pa.at_]at hp1;cases hp1
 rw[Qd (Ne.symm p1p)];exact c.pa.at_
theorem Ji.more(c:Ji H H' l es i p ps parts)(hd:es[i]?=some (.t (.v k::rr)))(tx:TD H 6 (.t (.v k::rr)) (.ref e))(hp1:H' p1=none)(hc:QJ QC l (es.take i)=[]\/l < (QC k:Int)) :
 Ji H (upd (upd (upd H' p1 (.lst [])) p (.lst (ps.map V.ref++[V.ref p1]))) p1 (.lst ([]++[V.ref e]))) l es (i+1) p (ps++[p1]) (parts++[[.ref e]]):=by
 have np:=c.fresh p mem_cons_self;have np1:H p1=none:=by
  cases e:H p1 with
  | none=>rfl
  | some o=>rw[c.same _ _ e]at hp1;cases hp1
 have em:ps.map V.ref++[V.ref p1]=(ps++[p1]).map V.ref:=by simp
 refine⟨Xl (Xl (Xl c.same np1) np) np1,fun r hr=>?_,?_,?_,?_,?_⟩
 ·rcases mem_cons.mp hr with z | z
  ·rw[z];exact np
  ·rcases Vl.mp z with z | z
   ·exact c.fresh r (Vo _ z)
   ·have:r=p1:=by simpa using z
    rw[this];exact np1
 ·rw[em];exact(c.pa.more (l:=[]) hp1).on (new:=[]++[.ref e])
 ·rw[Yib hd]
  unfold Tr.step;rw[if_pos (show _\/l < (QC (QM (Dt.t (Dt.v k::rr))):Int) from hc)]
  exact Paired.snoc c.pp (.cons tx .nil)
 ·have:=c.lp;simp;omega
 ·intro part hp
  rcases Vl.mp hp with z | z
  ·have:=c.lq part z;omega
  ·rw[mem_singleton.mp z];simp
theorem Ji.on(c:Ji H H' l es i p (ini++[q1]) (li++[last]))(hd:es[i]?=some (.t (.v k::rr)))(tx:TD H 6 (.t (.v k::rr)) (.ref e))(hc:¬ l < (QC k:Int)) :
 Ji H (upd H' q1 (.lst (last++[.ref e]))) l es (i+1) p (ini++[q1]) (li++[last++[.ref e]]):=by
 obtain⟨iniD,lastD,ec,co1,co2⟩:=Qca c.pp;refine⟨Xl c.same (c.fresh q1 (by simp)),c.fresh,c.pa.on,?_,?_,?_⟩
 ·rw[Yib hd,ec]
  unfold Tr.step;rw[if_neg (fun z=>z.elim (fun z=>by simp at z) fun z=>hc z)]
  simp only[dropLast_concat,getLast?_append,getLast?_singleton,Option.some_or,Option.getD_some]
  exact Paired.snoc co1 (Paired.snoc co2 tx)
 ·have:=c.lp;simp at this ⊢;omega
 ·intro part hp
  rcases Vl.mp hp with z | z
  ·have:=c.lq part (mem_append_left _ z);omega
  ·rw[mem_singleton.mp z]
   have:=c.lq last (by simp)
   simp;omega
theorem Ji.end_(c:Ji H H' l es i p ps parts)(h:ps≠[]):∃ ini q1 li last,ps=ini++[q1]/\parts=li++[last]/\H' q1=some (.lst last)/\last.length<=i:=by
 obtain⟨ini,q1,rfl⟩:=Yr h;obtain⟨li,last,rfl⟩:=Yr (xs:=parts) (fun z=>by have:=c.pa.len;rw[z]at this;simp at this)
 have len:ini.length=li.length:=by have:=c.pa.len;simp at this;exact this
 exact⟨ini,q1,li,last,rfl,rfl,c.pa.part ini.length q1 last (by simp) (by rw[len];simp),c.lq last (by simp)⟩
theorem Ji.none_(c:Ji H H' l es i p ps parts)(h:ps=[]):QJ QC l (es.take i)=[]:=eq_nil_of_length_eq_zero (by rw[Paired.length c.pp,<- c.pa.len,h];rfl)
end
inductive Qcb(K:W.Frag)(vs:List V)(H:Hp)(Q:VK)(E:XK):Prop
 | mk:∀ (a:Addr) (b:Bool) (l:Int) (xs:List V) (es:List Dt),vs=[.ref a,.int l]->SqE b K H a xs->xs.length<=900->Paired (fun d v=>TD H 6 d v) es xs->(∀ d∈es,Yma d)->(∀ p ps parts H',Qk H H'->(∀ q∈p::ps,H q=none)->Jt H' p ps parts->PP H (QJ QC l es) parts->Q (.ref p) H')->Qcb K vs H Q E
seal PE PT PW PA PS PSs PI PG Q0 PGs PO in
theorem Q3c(Z:Zs mg)(T:Tx K mg CT cs ob)(Qdb:Cal P w K mg base 3 "level_of" ["key"] (Y9 K))(F:Fun K "cut" "cut" J9b f fd):QD P w K mg base CX0 4 f fd ["entries","level"] (Qcb K):=by
 refine F.ok X5a (fun vs H Q E h=>?_) (fun cdv A outer s H vs Q E hr h=>?_)
 ·walk_at "n"
 obtain⟨a,b,l,xs,es,rfl,hS,h900,re,hent,q⟩:=h;refine⟨_,(@Qc _ _ _ _ _ (Qm (i:=2) X5a.nd rfl (Or.inl rfl) (Jy Qe))
  (@Qc _ _ _ _ _ (ZX PassesOwn.never rfl (QQc (pv 0)) (Za (i:=3) X5a.nd rfl (Or.inl rfl)) (@Qc _ _ _ _ _ (QR (PW.pt (Qnb (JQa (YGa (pv 2) (fun _=>rfl))) (JPa (Qs Z4b (Qu Qdb (k:=3) hr (by decide) rfl (Qi (QS QP (pv 3) Qb (fun _ _=>rfl)) Qe)) (pv 1) (Qt _))))) (Qf (Q9 (Xr PySem.F.plainAttrs_list PySem.F.slot_list_append PySem.F.type_list_append ZC (pv 2) (Qi (Jy Qe) Qe)))) Qw)
  (Qf (Q9 (Xr PySem.F.plainAttrs_list PySem.F.slot_list_append PySem.F.type_list_append ZC (QS Yj (pv 2) (Zfc Qkc Qb) (fun _ _=>rfl)) (Qi (pv 3) Qe))))))
  (Qf (Qp (pv 2))))),?_⟩
 refine Ql (σ:=[some (.ref a),some (.int l),none,none]) rfl ?_
 walk_at "rd";refine⟨by decide,fun p hp=>?_⟩
 refine⟨b,⟨_,hS.same (Qg hp _)⟩,?_⟩
 have le:=Paired.length re;refine Xhb xs (fun i σ' H'=>∃ (ps:List Addr) (parts:List (List V)) (x3:Option V),σ'=[some (.ref a),some (.int l),some (.ref p),x3]/\Ji H H' l es i p ps parts) ⟨[],[],_,rfl,.start hp⟩ ?_ ?_ ?_
 ·rintro i σ' H' _ ⟨_,_,_,_,c⟩
  exact hS.same c.same
 ·rintro i x σ' H' hx ⟨ps,parts,x3,rfl,c⟩
  have hi:=(Vc.mp hx).1
  have hd:es[i]?=some (es[i]'(by omega)):=Vb _
  have tx:=Qn re hd hx;obtain⟨k,rr,ed,hk⟩:=hent _ (Vm hd);generalize es[i]'(by omega)=d at hd tx ed
  subst ed;obtain⟨m,e,ws,_,rfl,he,rw_⟩:=id tx.tup;have lp:=c.lp;walk_at "rd";refine⟨_,.inl ⟨_,SqL.of c.pa.at_,rfl⟩,Jz (fun h=>?_) fun h=>?_⟩
  ·have hps:ps=[]:=by simpa using h
   refine⟨.inl ⟨rfl,_,SqL.of c.pa.at_⟩,by decide,fun p1 hp1=>?_⟩
   exact⟨_,c.atp hp1,QN (by rw[Vr,c.pa.len];omega),_,SqL.of Qa,.ref p1,Zla _ _,.inl ⟨rfl,_,SqL.of (c.at1 hp1)⟩,p1,rfl,[],c.at1 hp1,by decide,_,_,c.more hd tx hp1 (.inl (c.none_ hps))⟩
  ·have hne:ps≠[]:=fun z=>h (by rw[z];rfl)
   cases rw_ with
   | @cons _ k' _ ws' r1 rw' =>
   obtain⟨_,rfl⟩:=r1.flat;refine⟨_,SqT.of (c.same _ _ he),_,at0 _ _,_,rfl,hk,_,rfl,Jz (fun h2=>?_) fun h2=>?_⟩
   ·refine⟨.inl ⟨rfl,_,SqL.of c.pa.at_⟩,by decide,fun p1 hp1=>?_⟩
    exact⟨_,c.atp hp1,QN (by rw[Vr,c.pa.len];omega),_,SqL.of Qa,.ref p1,Zla _ _,.inl ⟨rfl,_,SqL.of (c.at1 hp1)⟩,p1,rfl,[],c.at1 hp1,by decide,_,_,c.more hd tx hp1 (.inr h2)⟩
   ·obtain⟨ini,q1,li,last,rfl,rfl,hq1,ll⟩:=c.end_ hne
    exact⟨_,SqL.of c.pa.at_,.ref q1,by rw[map_append];exact Zla _ _,.inl ⟨rfl,_,SqL.of hq1⟩,q1,rfl,last,hq1,QN (by omega),_,_,c.on hd tx h2⟩
 ·rintro σ' H' ⟨ps,parts,x3,rfl,c⟩
  walk_at "rd";have co:=c.pp;rw[take_of_length_le (by omega)]at co
  exact q p ps parts H' c.same c.fresh c.pa co
def Qy(st:StL):List (Int×Dt):=st.map fun x=>(x.1,x.2.1)
theorem QI.fn{p d1 d2:Addr}(h:QI P w ob H p d1 d2 st c):Fn (Qy st) where
 num:=fun n d d' h1 h2=>by
  obtain⟨⟨a,b,t⟩,m1,e1⟩:=mem_map.mp h1;obtain⟨⟨a',b',t'⟩,m2,e2⟩:=mem_map.mp h2;injection e1 with x1 y1
  injection e2 with x2 y2
  dsimp only at x1 y1 x2 y2;subst x1 y1 x2 y2;exact(h.fun_ m1 m2).1
 dat:=fun n n' d h1 h2=>by
  obtain⟨⟨a,b,t⟩,m1,e1⟩:=mem_map.mp h1;obtain⟨⟨a',b',t'⟩,m2,e2⟩:=mem_map.mp h2;injection e1 with x1 y1
  injection e2 with x2 y2
  dsimp only at x1 y1 x2 y2;subst x1 y1 x2 y2;have q1:=h.getN m1;have q2:=h.getN m2;dsimp only at q1 q2;rw[q1]at q2;injection q2 with q2
  injection q2
def HdD(d:Dt):Prop:=∃ k n,d=ZV k n/\Zo k
theorem HdD.ent(h:HdD d):Yma d:=by
 obtain⟨k,n,rfl,hk⟩:=h;exact⟨k,_,rfl,hk⟩
section
variable{P:Program}{w:World}{ob:Nat->Addr}{H H':Hp}{p d1 d2 a:Addr}{st:StL}{c l:Int}{es:List Dt}{Q:VK}{E:XK}
theorem Xvb(hS:QI P w ob H p d1 d2 st c)(hP:PgD ob H a l es)(hsh:Q2c (Zl l es))(few:st.length < 1000000)
 (q:∀ n H3 st3 c3,QU [p,d1,d2] H H3->QI P w ob H3 p d1 d2 st3 c3->(n,Zl l es)∈Qy st3->(∀ x∈Qy st,x∈Qy st3)->st3.length<=st.length+1->Q (.int n) H3):Z8 P w ob [.ref p,.ref a] H Q E :=
 ⟨p,d1,d2,st,c,a,l,es,rfl,hS,hP,hsh,few,fun n t hm H' s=>q n H' st c (s.x _) (hS.same s) (mem_map.mpr ⟨_,hm,rfl⟩) (fun x h=>h) (by omega),
  fun _ t H' s hS'=>q c H' _ _ s hS' (mem_map.mpr ⟨_,Vp _ (mem_singleton.mpr rfl),rfl⟩) (fun x hx=>by
   obtain⟨y,hy,ey⟩:=mem_map.mp hx;exact mem_map.mpr ⟨y,mem_append_left _ hy,ey⟩) (by rw[Vs];exact Ve _)⟩
end
structure Xla(P:Program)(w:World)(ob:Nat->Addr)(H1 H':Hp)(p d1 d2 hh:Addr)(st:StL)(l:Int)(parts:List (List Dt))(i:Nat)(st':StL)(c':Int)(hs:List Dt)(ys:List V):Prop where
 sx:QU [p,d1,d2,hh] H1 H'
 tt:Q1 H1 H'
 at_:H' hh=some (.lst ys)
 tys:Paired (fun d v=>TD H' 6 d v) hs ys
 ehs:∀ d∈hs,HdD d
 hds:QK (Qy st') l (parts.take i) hs
 stA:QI P w ob H' p d1 d2 st' c'
 sub:∀ x∈Qy st,x∈Qy st'
 len:st'.length<=st.length+i
section
variable{P:Program}{w:World}{ob:Nat->Addr}{H1 H' H2 H3:Hp}{p d1 d2 hh u:Addr}{st st' st3:StL}{l c' c3 n:Int}{parts:List (List Dt)}{i:Nat}{hs rr rest:List Dt}{ys:List V}{k:V}
theorem Xla.nhh(h:Xla P w ob H1 H' p d1 d2 hh st l parts i st' c' hs ys):hh∉[p,d1,d2]:=fun z=>by
 obtain⟨dx,ho⟩:=h.stA.obj;simp only[mem_cons,not_mem_nil,or_false]at z
 rcases z with z | z | z
 ·exact ZA h.at_ ho (by intro z;cases z) z
 ·exact ZA h.at_ h.stA.num (by intro z;cases z) z
 ·exact ZA h.at_ h.stA.tol (by intro z;cases z) z
theorem Xla.next(h:Xla P w ob H1 H' p d1 d2 hh st l parts i st' c' hs ys)(hpd:parts[i]?=some (.t (.v k::rr)::rest))(hk:Zo k)(s2:Qk H' H2)(s3:QU [p,d1,d2] H2 H3)(hS3:QI P w ob H3 p d1 d2 st3 c3)
 (hm:(n,Zl l (.t (.v k::rr)::rest))∈Qy st3) (sub3:∀ x∈Qy st',x∈Qy st3) (l3:st3.length<=st'.length+1) (hu:H3 u=none) :
 upd H3 u (.tup [k,.int n]) hh=some (.lst ys)/\Xla P w ob H1 (upd (upd H3 u (.tup [k,.int n])) hh (.lst (ys++[.ref u]))) p d1 d2 hh st l parts (i+1) st3 c3 (hs++[ZV k n]) (ys++[.ref u]):=by
 have hS2:=h.stA.same s2;have hh3:=s3 _ _ h.nhh (s2 _ _ h.at_);have hh4:upd H3 u (.tup [k,.int n]) hh=some (.lst ys):=Qg hu _ _ _ hh3;have uh:u≠hh:=fun z=>by rw[z,hh3]at hu;cases hu
 have t35:Q1 H3 (upd (upd H3 u (.tup [k,.int n])) hh (.lst (ys++[.ref u]))):=(Qg hu _).t.trans (Jw hh4);have t25:=(Qba hS2 s3).trans t35;have len:=h.len;refine⟨hh4,h.sx.trans ((s2.x _).trans ((s3.mono (by simp)).trans (((Qg hu _).x _).upd (by simp)))),h.tt.trans (s2.t.trans t25),Qa,Paired.snoc (TDs.sameT h.tys (s2.t.trans t25)) (TD.pair (by rw[Qd uh];exact Qa) (.ofV (Yhb hk)) (.ofV rfl)),fun d hd=>?_,?_,?_,fun x hx=>sub3 x (h.sub x hx),by omega⟩
 ·rcases Vl.mp hd with z | z
  ·exact h.ehs d z
  ·rw[mem_singleton.mp z];exact⟨k,_,rfl,hk⟩
 ·rw[take_add_one,hpd]
  exact(h.hds.mono sub3).snoc hm
 ·obtain⟨dx3,ho3⟩:=hS3.obj
  exact hS3.keep t35 (by rw[Qd (ZA ho3 hh3 (by intro z;cases z)),Qd (Qq ho3 hu)]) (by rw[Qd (ZA hS3.num hh3 (by intro z;cases z)),Qd (Qq hS3.num hu)]) (by rw[Qd (ZA hS3.tol hh3 (by intro z;cases z)),Qd (Qq hS3.tol hu)])
theorem Xla.few(h:Xla P w ob H1 H' p d1 d2 hh st l parts i st' c' hs ys):ys.length<=i:=by
 have h1:=Paired.length h.tys;have h2:=h.hds.length;rw[length_take]at h2
 omega
end
theorem QDa:(QJ lv l es).length<=es.length:=by
 have h1:∀ (ls:List (List Dt)),(∀ x∈ls,x≠[])->ls.length<=ls.flatten.length:=by
  intro ls
  induction ls with
  | nil=>intro _;exact Ve _
  | cons y ys ih =>
   intro h;have:=ih fun x hx=>h x (Vo _ hx)
   have:0 < y.length:=length_pos_iff.mpr (h y mem_cons_self);simp only[length_cons,flatten_cons,Vs];omega
 have c:=QO (lv:=lv) l es;have:=h1 _ c.full;rw[c.flat]at this;exact this
theorem Xwb{ps:List Addr}{parts:List (List V)}{H0:Hp}(pa:Jt H1 a ps parts)(pp:PP H0 (QJ QC l es) parts)(hent:∀ d∈es,Yma d){i:Nat}{qa:Addr}(hqa:ps[i]?=some qa) :
 ∃ k rr rest part,(QJ QC l es)[i]?=some (.t (.v k::rr)::rest)/\Zo k/\H1 qa=some (.lst part)/\Paired (fun d v=>TD H0 6 d v) (.t (.v k::rr)::rest) part/\part.length<=es.length/\rest.length < es.length:=by
 have hi:=(Vc.mp hqa).1
 have li:i < parts.length:=by rw[<- pa.len];exact hi
 have lpp:=Paired.length pp;have cok:=QO (lv:=QC) l es;have hpt:parts[i]?=some parts[i]:=Vb li
 have hpd:(QJ QC l es)[i]?=some ((QJ QC l es)[i]'(by omega)):=Vb _
 have tp:=Qn pp hpd hpt;have full:=cok.full _ (Vm hpd);have mem:∀ d∈(QJ QC l es)[i]'(by omega),d∈es:=fun d hd=>by rw[<- cok.flat];exact mem_flatten.mpr ⟨_,Vm hpd,hd⟩
 have h1:=(sublist_flatten_of_mem (Vm hpd)).length_le;rw[cok.flat]at h1;generalize (QJ QC l es)[i]'(by omega)=partD at hpd tp full mem h1
 match partD,full,hpd,tp,mem,h1 with
 | d0::rest,_,hpd,tp,mem,h1 =>
  obtain⟨k,rr,ed,hk⟩:=hent d0 (mem d0 mem_cons_self);subst ed;have h2:=Paired.length tp;exact⟨k,rr,rest,_,hpd,hk,pa.part i qa _ hqa hpt,tp,by omega,by simp at h1;omega⟩
inductive JS(P:Program)(w:World)(ob:Nat->Addr)(vs:List V)(H:Hp)(Q:VK)(E:XK):Prop
 | mk:∀ p d1 d2 st c l e b xs es,vs=[.ref p,.int l,.ref e]->QI P w ob H p d1 d2 st c->HE b H e xs->Paired (fun d v=>TD H 6 d v) es xs->(∀ d∈es,Yma d)->xs.length<=900->st.length+xs.length<=1000000->(∀ r H' st' c' hs ys,QU [p,d1,d2] H H'->H r=none->H' r=some (.lst ys)->Paired (fun d v=>TD H' 6 d v) hs ys->(∀ d∈hs,HdD d)->QK (Qy st') l (QJ QC l es) hs->QI P w ob H' p d1 d2 st' c'->(∀ x∈Qy st,x∈Qy st')->st'.length<=st.length+xs.length->Q (.ref r) H')->JS P w ob vs H Q E
seal PE PT PW PA PS PSs PI PG Q0 PGs PO in
theorem Xma(Z:Zs mg)(T:Tx K mg CT cs ob)(ZLc:Cal P w K mg base 4 "cut" ["entries","level"] (Qcb K))(QBa:Cal P w K mg base 4 "page_of" ["level","entries"] (YE K ob))(Qda:MeV P w K mg base 1 (ob 0) "first" (Zg K ob))(YF:MeV P w K mg base 1 (ob 1) "first" (Zg K ob))(YG:MeV P w K mg base 1 (ob 2) "first" (Zg K ob))(YH:MeV P w K mg base 2 (ob 3) "kept" (Z8 P w ob))(F:Fun K "heads_of" "heads_of" XL f fd):QD P w K mg base CX0 5 f fd ["pages","level","entries"] (JS P w ob):=by
 refine F.ok JQ (fun vs H Q E h=>?_) (fun cdv A outer s H vs Q E hr h=>?_)
 ·walk_at "n"
 obtain⟨p,d1,d2,st,c,l,e,b,xs,es,rfl,hS,he,re,hent,lx,few,q⟩:=h;refine⟨_,(@Qc _ _ _ _ _ (Qm (i:=3) JQ.nd rfl (Or.inl rfl) (Jy Qe))
  (@Qc _ _ _ _ _ (ZX PassesOwn.never rfl (Zw (Qu ZLc (k:=4) hr (by decide) rfl (Qi (pv 2) (Qi (pv 1) Qe)))) (Za (i:=4) JQ.nd rfl (Or.inl rfl)) (@Qc _ _ _ _ _ (Qm (i:=5) JQ.nd rfl (Or.inl rfl) (Qu QBa (k:=4) hr (by decide) rfl (Qi (pv 1) (Qi (pv 4) Qe))))
  (Qf (Q9 (Xr PySem.F.plainAttrs_list PySem.F.slot_list_append PySem.F.type_list_append ZC (pv 3) (Qi (ZI (Qi (PE1.pe (XF (k:=4) (pv 5) hr rfl) Z6) (Qi (PE1.pe (ZD (k:=4) (pv 0) hr rfl (Qi (pv 5) Qe)) Z6) Qe))) Qe))))))
  (Qf (Qp (pv 3))))),?_⟩
 refine Ql (σ:=[some (.ref p),some (.int l),some (.ref e),none,none,none]) rfl ?_
 walk_at "rd";have cc:=T.ob_ 3 (by decide)
 have lre:=Paired.length re;refine⟨by decide,fun hh hhh=>?_⟩
 have s0:=Qg hhh (.lst []);have c_hh:upd H hh (.lst []) hh=some (.lst []):=Qa;generalize upd H hh (.lst [])=H0 at s0 c_hh ⊢;have hsq:SqE b K H0 e xs:=by
  have he0:=s0 _ _ he;cases b with
  | true=>exact SqT.of he0
  | false=>exact SqL.of he0
 refine⟨e,b,l,xs,es,rfl,hsq,lx,TDs.sameT re s0.t,hent,fun a ps parts H1 s1 fr pa pp=>⟨a,rfl,⟨_,SqL.of pa.at_⟩,?_⟩⟩
 have s01:=s0.trans s1;have hS1:=hS.same s01;obtain⟨dx1,ho1⟩:=hS1.obj;have hh1:=s1 _ _ c_hh;have nin:∀ q∈a::ps,∀ o,H1 q=some (.lst o)->q∉[p,d1,d2,hh]:=fun q hq o hqo z=>by
  simp only[mem_cons,not_mem_nil,or_false]at z
  rcases z with z | z | z | z
  ·exact ZA hqo ho1 (by intro z;cases z) z
  ·exact ZA hqo hS1.num (by intro z;cases z) z
  ·exact ZA hqo hS1.tol (by intro z;cases z) z
  ·exact Qq c_hh (fr q hq) z.symm
 have lpp:=Paired.length pp;have lpl:(QJ QC l es).length<=es.length:=QDa;refine Jd (ps.map V.ref) (fun i σ' H'=>∃ st' c' hs ys x4 x5,σ'=[some (.ref p),some (.int l),some (.ref e),some (.ref hh),x4,x5]/\Xla P w ob H1 H' p d1 d2 hh st l (QJ QC l es) i st' c' hs ys)
  ⟨st,c,[],[],_,_,rfl,QU.refl _ _,Q1.refl _,hh1,.nil,(fun d h=>nomatch h),.nil,hS1,(fun x h=>h),by omega⟩ (fun i σ' H' _ ⟨_,_,_,_,_,_,_,h⟩=>SqL.of (h.sx _ _ (nin a mem_cons_self _ pa.at_) pa.at_)) ?_ ?_
 ·rintro i x σ' H' hx ⟨st',c',hs,ys,x4,x5,rfl,hd⟩
  rw[getElem?_map]at hx
  obtain⟨qa,hqa,rfl⟩:=Option.map_eq_some_iff.mp hx;have hi:=(Vc.mp hqa).1
  have hlen:=hd.len;have hfew:=hd.few;have hpl:=pa.len;obtain⟨k,rr,rest,part,hpd,hk,hq1,tp,lpart,lrest⟩:=Xwb pa pp hent hqa;have hqA:=hd.sx _ _ (nin qa (Vo _ (Vm hqa)) _ hq1) hq1;walk_at "rd";refine⟨l,qa,false,part,_,rfl,hqA,TDs.sameT tp (s1.t.trans hd.tt),by omega,fun pg H2 s2 hpg pgd=>?_⟩
  have hS2:=hd.stA.same s2;obtain⟨dx2,ho2⟩:=hS2.obj;obtain⟨tw,dxa,t0,etw,hpa,ht⟩:=id pgd;have Mf:MeV P w K mg base 1 (ob (if tw=true then 2 else 1)) "first" (Zg K ob):=by cases tw with | true=>exact YG | false=>exact YF
  refine⟨.inl ⟨rfl,_,SqL.of (s2 _ _ hd.at_)⟩,?_⟩
  refine Qpa rfl hpa (by cases tw <;> rfl) (T.ob_ _ Yeb).cl (Mf.mono (by decide)) ⟨pg,l,k,rr,rest,rfl,pgd,?_⟩
  refine Jf rfl ho2 rfl cc.cl (YH.mono (by decide)) ?_
  simp only[Qtb,Xxa,Xya,YHa];refine Xvb hS2 pgd ⟨l,k,rr,rest,rfl,Yhb hk,by omega⟩ (by omega) fun n H3 st3 c3 s3 hS3 hm sub3 l3=>?_
  show _/\_;refine⟨JX,fun u hu=>?_⟩
  obtain⟨hh4,hd'⟩:=hd.next hpd hk s2 s3 hS3 hm sub3 l3 hu;exact⟨ys,hh4,QN (by omega),st3,c3,_,_,_,_,⟨rfl,rfl⟩,hd'⟩
 ·rintro σ' H' ⟨st',c',hs,ys,x4,x5,rfl,hd⟩
  walk_at "rd";have hds:=hd.hds;have l':=hd.len;rw[Vr,take_of_length_le (by rw[lpp,<- pa.len];exact Ve _)]at hds
  rw[Vr,pa.len]at l';exact q hh H' st' c' hs ys (fun b o nb hb=>hd.sx b o (fun z=>by
   simp only[mem_cons,not_mem_nil,or_false]at z nb
   rcases z with z | z | z | z
   ·exact nb (.inl z)
   ·exact nb (.inr (.inl z))
   ·exact nb (.inr (.inr z))
   ·rw[z,hhh]at hb;cases hb) (s01 _ _ hb)) hhh hd.at_ hd.tys hd.ehs hds hd.stA hd.sub (by omega)
inductive Ups(lv:V->Nat)(tbl:List (Int×Dt))(j0:Nat)(hs0:List Dt):Nat->List Dt->Prop
 | refl:Ups lv tbl j0 hs0 j0 hs0
 | snoc {j:Nat} {hs hs':List Dt} (u:Ups lv tbl j0 hs0 j hs) (h1:1 < hs.length) (h2:QK tbl ((j+1:Nat):Int) (QJ lv ((j+1:Nat):Int) hs) hs'):Ups lv tbl j0 hs0 (j+1) hs'
theorem Ups.mono{tbl':List (Int×Dt)}{j0 j:Nat}{hs0 hs:List Dt}(u:Ups lv tbl j0 hs0 j hs)(s:∀ x∈tbl,x∈tbl'):Ups lv tbl' j0 hs0 j hs:=by
 induction u with
 | refl=>exact .refl
 | snoc _ h1 h2 ih=>exact .snoc ih h1 (h2.mono s)
theorem Ups.part{rows hs0:List Dt}(h0:QK tbl 0 (QJ lv 0 rows) hs0){j:Nat}{hs:List Dt}(u:Ups lv tbl 0 hs0 j hs):∃ L,Qua lv tbl rows (j+1) L/\L (j+1)=hs:=by
 induction u with
 | refl=>exact⟨_,Qua.start h0,rfl⟩
 | @snoc j hs hs' u h1 h2 ih =>
  obtain⟨L,p,e⟩:=ih;subst e;exact⟨_,p.next (fun x h=>h) (by omega) h1 h2,by show(if j+1+1=j+1+1 then hs' else _)=hs';rw[if_pos rfl]⟩
inductive XO(P:Program)(w:World)(ob:Nat->Addr)(vs:List V)(H:Hp)(Q:VK)(E:XK):Prop
 | mk:∀ p d1 d2 st c e hs ys,∀ j:Nat,vs=[.ref p,.int j,.ref e]->j<=6->QI P w ob H p d1 d2 st c->H e=some (.lst ys)->Paired (fun d v=>TD H 6 d v) hs ys->(∀ d∈hs,HdD d)->ys.length<=900->st.length+7 * ys.length<=1000000->(∀ H' st' c' m above v,QU [p,d1,d2] H H'->QI P w ob H' p d1 d2 st' c'->(∀ x∈Qy st,x∈Qy st')->st'.length<=st.length+7 * ys.length->Ups QC (Qy st') j hs m above->m<=7->((hs=[]/\v=.non)\/(hs≠[]/\∃ k n,above=[ZV k n]/\v=.int n))->Q v H')->XO P w ob vs H Q E
seal PE PT PW PA PS PSs PI PG Q0 PGs PO in
theorem Qeb(Z:Zs mg)(T:Tx K mg CT cs ob)(XQ:Cal P w K mg base 5 "heads_of" ["pages","level","entries"] (JS P w ob))(F:Fun K "crowned" "crowned" Qya f fd):QD P w K mg base CX0 6 f fd ["pages","level","heads"] (XO P w ob):=by
 refine F.ok JE (fun vs H Q E h=>?_) (fun cdv A outer s H vs Q E hr h=>?_)
 ·walk_at "n"
 obtain⟨p,d1,d2,st,c,e,hs,ys,j,rfl,hj,hS,he,re,hhd,ly,few,q⟩:=h;refine⟨_,(@Qc _ _ _ _ _ (Qm (i:=3) JE.nd rfl (Or.inl rfl) (pv 1))
  (@Qc _ _ _ _ _ (Qm (i:=4) JE.nd rfl (Or.inl rfl) (pv 2))
  (@Qc _ _ _ _ _ (YDa PassesOwn.never (Qs Z4b (Q5 Zk rfl (Z.len) Qla (Qi (pv 4) Qe)) Qb (Qt _)) (@Qc _ _ _ _ _ (Qm (i:=3) JE.nd rfl (Or.inl rfl) (Qj ZY (pv 3) Qb))
  (Qf (Qm (i:=4) JE.nd rfl (Or.inl rfl) (Qu XQ (k:=5) hr (by decide) rfl (Qi (pv 0) (Qi (pv 3) (Qi (pv 4) Qe))))))))
  (Qf (Qp (ZWb (YGa (pv 4) (fun _=>rfl)) (QS QP (QS Yj (pv 4) Qb (fun _ _=>rfl)) Qb (fun _ _=>rfl)) Qha)))))),?_⟩
 refine Ql (σ:=[some (.ref p),some (.int j),some (.ref e),none,none]) rfl ?_
 walk_at "rd";refine⟨fun m σ' H'=>∃ (t:Nat) (st':StL) (c':Int) (b:Addr) (above:List Dt) (zs:List V),σ'=[some (.ref p),some (.int j),some (.ref e),some (.int t),some (.ref b)]/\m=7 - t/\t<=7/\(t=7->above.length<=1)/\j<=t/\QU [p,d1,d2] H H'/\H' b=some (.lst zs)/\Paired (fun d v=>TD H' 6 d v) above zs/\(∀ d∈above,HdD d)/\zs.length<=ys.length/\QI P w ob H' p d1 d2 st' c'/\(∀ x∈Qy st,x∈Qy st')/\st'.length<=st.length+(t - j) * ys.length/\Ups QC (Qy st') j hs t above/\(hs=[]↔above=[]),
  ⟨_,j,st,c,e,hs,ys,rfl,rfl,by omega,fun z=>by omega,Ve _,QU.refl _ _,he,re,hhd,Ve _,hS,fun x h=>h,by omega,.refl,Iff.rfl⟩,?_⟩
 rintro m σ' H' ⟨t,st',c',b,above,zs,rfl,rfl,ht,h7,hjt,sx,hb,tz,hd,lz,hS',sub,l',ups,emp⟩;have laz:=Paired.length tz;have e1:((t+1:Nat):Int)=(t:Int)+1:=by omega
 walk_at "rd";refine⟨zs,.inl (SqL.of hb),Jz (fun h1=>?_) fun h1=>?_⟩
 ·have ht6:t<=6:=by
   rcases Nat.lt_or_ge t 7 with z | z
   ·omega
   ·have:=h7 (by omega);omega
  have hb1:(t - j) * ys.length<=6 * ys.length:=Nat.mul_le_mul_right _ (by omega)
  refine⟨fun σ2 H2=>∃ (t2:Nat) (st':StL) (c':Int) (b:Addr) (above:List Dt) (zs:List V),t2=t+1/\σ2=[some (.ref p),some (.int j),some (.ref e),some (.int t2),some (.ref b)]/\t2<=7/\(t2=7->above.length<=1)/\j<=t2/\QU [p,d1,d2] H H2/\H2 b=some (.lst zs)/\Paired (fun d v=>TD H2 6 d v) above zs/\(∀ d∈above,HdD d)/\zs.length<=ys.length/\QI P w ob H2 p d1 d2 st' c'/\(∀ x∈Qy st,x∈Qy st')/\st'.length<=st.length+(t2 - j) * ys.length/\Ups QC (Qy st') j hs t2 above/\(hs=[]↔above=[]),
   fun σ2 H2 hZ=>(by obtain⟨t2,a1,a2,a3,a4,a5,a6,a7,b1,b2,b3,b4,b5⟩:=hZ;exact⟨7 - t2,by omega,t2,a1,a2,a3,a7,rfl,b1,a4,b2,b3,b4,a5,b5⟩),?_⟩
  walk_at "rd";refine⟨p,d1,d2,st',c',(t:Int)+1,b,false,zs,above,rfl,hS',hb,tz,fun d h=>(hd d h).ent,by omega,by omega,fun r H2 st2 c2 hs2 ys2 sx2 hr hr2 tys2 hd2 heads2 hS2 sub2 l2=>?_⟩
  have ls2:=heads2.length;have lt2:=Paired.length tys2;have lc:=QDa (lv:=QC) (l:=(t:Int)+1) (es:=above);have ane:above≠[]:=fun z=>by rw[z]at laz;simp at laz;omega
  refine⟨st2,c2,r,⟨by omega,rfl⟩,by omega,hs2,fun z=>?_,by omega,sx.trans sx2,ys2,hr2,tys2,hd2,by omega,hS2,fun x hx=>sub2 x (sub x hx),?_,.snoc (ups.mono sub2) (by omega) (by rw[e1];exact heads2),?_⟩
  ·obtain rfl:t=6:=by omega
   rw[ls2,Xba ane (fun d _=>by have:=ZKc (QM d);omega)]
   exact Ve _
  ·have:t+1 - j=(t - j)+1:=by omega
   rw[this,Nat.succ_mul]
   omega
  ·constructor
   ·intro z;exact absurd (emp.mp z) ane
   ·intro z
    rw[z]at ls2;exact absurd (length_eq_zero_iff.mp ls2.symm) (Xk ane)
 ·have hb1:(t - j) * ys.length<=7 * ys.length:=Nat.mul_le_mul_right _ (by omega)
  cases tz with
  | nil =>
   refine⟨false,.inl ⟨_,SqL.of hb,rfl⟩,?_⟩
   rw[if_neg (by decide)]
   exact q H' st' c' t [] .non sx hS' sub (by omega) ups ht (.inl ⟨emp.mpr rfl,rfl⟩)
  | @cons d z _ _ tz tz2 =>
   cases tz2 with
   | nil =>
    obtain⟨k,n,rfl,hk⟩:=hd d mem_cons_self;obtain⟨u,x1,x2,rfl,hu,u1,u2⟩:=TD.pair_of tz;obtain⟨_,rfl⟩:=u1.flat;obtain⟨_,rfl⟩:=u2.flat;refine⟨true,.inl ⟨_,SqL.of hb,rfl⟩,?_⟩
    rw[if_pos rfl];exact⟨_,SqL.of hb,.ref u,rfl,u,rfl,_,SqT.of hu,.int n,rfl,q H' st' c' t [ZV x1 n] (.int n) sx hS' sub (by omega) ups ht (.inr ⟨(fun z=>by have:=emp.mp z;cases this),x1,n,rfl,rfl⟩)⟩
   | cons _ _=>simp at h1;omega
def Q9a(ks:List V)(i:Nat)(k:V):Prop:=ks[i+1]?=some k/\(∀ j,j < i->∀ a b,ks[j]?=some a->ks[j+1]?=some b->Pl.ltV a b=true)/\∀ a,ks[i]?=some a->Pl.ltV a k=false
theorem Yna{ks:List V}(up:ks.Pairwise fun a b=>Pl.ltV a b=true){i:Nat}{k:V}(h:Q9a ks i k):False:=by
 obtain⟨a1,b1⟩:=Vc.mp h.1
 have:=pairwise_iff_getElem.mp up i (i+1) (by omega) a1 (by omega)
 rw[b1,h.2.2 _ (Vb (show i < ks.length by omega))]at this
 cases this
inductive Qea(P:Program)(w:World)(cs ob:Nat->Addr)(vs:List V)(H:Hp)(Q:VK)(E:XK):Prop
 | mk:∀ p d1 d2 st c e xs es,vs=[.ref p,.ref e]->QI P w ob H p d1 d2 st c->H e=some (.lst xs)->Paired (fun d v=>TD H 6 d v) es xs->(∀ d∈es,Yma d)->xs.length<=900->st.length+8 * xs.length<=1000000->(((es.map QM).Pairwise (fun a b=>Pl.ltV a b=true)/\∀ H' st' c' v,QU [p,d1,d2] H H'->QI P w ob H' p d1 d2 st' c'->(∀ x∈Qy st,x∈Qy st')->st'.length<=st.length+8 * xs.length->((es=[]/\v=.non)\/(es≠[]/\∃ top L k n,top<=6/\Zf QC (Qy st') es top L/\L (top+1)=[ZV k n]/\v=.int n))->Q v H')\/∃ i k,Q9a (es.map QM) i k/\∀ H' d,Qk H H'->H' d=none->E (.ref (cs 1)) (some d) (upd H' d (xD d [("key",k)])))->Qea P w cs ob vs H Q E
seal PE PT PW PA PS PSs PI PG Q0 PGs PO in
theorem Yjb(Z:Zs mg)(T:Tx K mg CT cs ob)(ZLb:Cal P w K mg base 6 "crowned" ["pages","level","heads"] (XO P w ob))(XQ:Cal P w K mg base 5 "heads_of" ["pages","level","entries"] (JS P w ob))(Ykb:Cal P w K mg base 2 "before" ["one","other"] (QCa K))(Xe:MkX P w K mg base 1 "NotRising" (cs 1) CT ["key"])(F:Fun K "built" "built" Yha f fd):QD P w K mg base (CX1 P w) 7 f fd ["pages","rows"] (Qea P w cs ob):=by
 refine F.ok1 Xia (fun vs H Q E h=>?_) (fun cdv A outer s H vs Q E hr h=>?_)
 ·walk_at "n"
 obtain⟨p,d1,d2,st,c,e,xs,es,rfl,hS,he,re,hent,lx,few,hq⟩:=h;refine⟨_,(@Qc _ _ _ _ _ (ZX Zyc rfl (Zab rfl (Z.range) (Qi Qb (Qi (Q5 Zk rfl (Z.len) Qla (Qi (pv 1) Qe)) Qe))) (Za (i:=2) Xia.nd rfl (Or.inl rfl)) (Qf (QR (JQa (XA (Qu Ykb (k:=6) hr (by decide) rfl (Qi (QS QP (QS Yj (pv 1) (Qj JU (pv 2) Qb) (fun _ _=>rfl)) Qb (fun _ _=>rfl)) (Qi (QS QP (QS Yj (pv 1) (pv 2) (fun _ _=>rfl)) Qb (fun _ _=>rfl)) Qe))) (fun _=>rfl))) (Qf (JCa Yp rfl rfl rfl Xe (k:=6) hr (by decide) (Qi (QS QP (QS Yj (pv 1) (pv 2) (fun _ _=>rfl)) Qb (fun _ _=>rfl)) Qe))) Qw)))
  (Qf (Qp (Qu ZLb (k:=6) hr (by decide) rfl (Qi (pv 0) (Qi Qb (Qi (Qu XQ (k:=6) hr (by decide) rfl (Qi (pv 0) (Qi Qb (Qi (pv 1) Qe)))) Qe))))))),?_⟩
 refine Ql (σ:=[some (.ref p),some (.ref e),none]) rfl ?_
 walk_at "rd";have le:=Paired.length re;refine⟨xs,.inl (SqL.of he),1,_,⟨rfl,rfl⟩,⟨by decide,by decide,by omega,by omega⟩,?_⟩
 refine Qma (fun i σ' H'=>∃ x2,σ'=[some (.ref p),some (.ref e),x2]/\Qk H H'/\∀ i' k',Q9a (es.map QM) i' k'->i<=i') ⟨_,rfl,Qk.refl _,fun _ _ _=>Vk _⟩ ?_ ?_
 ·rintro i σ' H' hi ⟨x2,rfl,s1,nw⟩
  have hi':i+1 < xs.length:=by omega
  have row:∀ n,n < xs.length->∃ u k r,xs[n]?=some (.ref u)/\H' u=some (.tup (k::r))/\Zo k/\(es.map QM)[n]?=some k:=fun n hn=>by
   have hx:xs[n]?=some xs[n]:=Vb hn
   have hd:es[n]?=some (es[n]'(by omega)):=Vb _
   have tx:=Qn re hd hx;obtain⟨k,rr,ed,hk⟩:=hent _ (Vm hd);rw[ed]at tx;obtain⟨m,u,ws,_,eu,hu,rw_⟩:=tx.tup;cases rw_ with
   | @cons _ k' _ ws' r1 rw' =>
   obtain⟨_,rfl⟩:=r1.flat;exact⟨u,_,ws',by rw[hx,eu],s1 _ _ hu,hk,by rw[getElem?_map,hd,ed];rfl⟩
  obtain⟨u0,k0,r0,g0,t0,hk0,m0⟩:=row i (by omega)
  obtain⟨u1,k1,r1,g1,t1,hk1,m1⟩:=row (i+1) hi';walk_at "rd";refine⟨_,SqL.of (s1 _ _ he),.ref u0,by rw[show(1:Int)+(i:Int) - 1=((i:Nat):Int) by omega];exact Jo g0,u0,rfl,_,SqT.of t0,k0,at0 _ _,_,SqL.of (s1 _ _ he),.ref u1,by rw[show(1:Int)+(i:Int)=((i+1:Nat):Int) by omega];exact Jo g1,u1,rfl,_,SqT.of t1,k1,at0 _ _,k0,k1,rfl,Xd hk0,Xd hk1,fun H2 s2=>⟨_,rfl,?_⟩⟩
  rcases hq with ⟨up,q⟩ | ⟨iw,kw,⟨w1,w2,w3⟩,qe⟩
  ·have lt:Pl.ltV k0 k1=true:=by
    obtain⟨a0,b0⟩:=Vc.mp m0
    obtain⟨a1,b1⟩:=Vc.mp m1
    have:=pairwise_iff_getElem.mp up i (i+1) a0 a1 (by omega)
    rw[b0,b1]at this;exact this
   rw[lt,if_neg (by decide)]
   exact⟨s1.trans s2,fun i' k' h=>(Yna up h).elim⟩
  ·have wk:i<=iw:=nw iw kw ⟨w1,w2,w3⟩
   have nxt:Pl.ltV k0 k1=true->∀ i' k',Q9a (es.map QM) i' k'->i+1<=i':=fun lt i' k' h=>by
    rcases Nat.lt_or_ge i i' with z | z
    ·omega
    ·have e:i'=i:=by have:=nw i' k' h;omega
     subst e;have h1:=h.1;rw[m1]at h1;cases h1;rw[h.2.2 _ m0]at lt;cases lt
   by_cases e:i=iw
   ·subst e
    rw[m1]at w1;cases w1;rw[w3 _ m0,if_pos rfl];exact⟨e,xs,_,.ref u1,rfl,rfl,SqL.of ((s1.trans s2) _ _ he),by rw[show(1:Int)+(i:Int)=((i+1:Nat):Int) by omega];exact Jo g1,u1,_,_,k1,rfl,rfl,SqT.of (s2 _ _ t1),at0 _ _,rfl,show 1<=1000 by decide,fun d hd=>qe _ d (s1.trans s2) hd⟩
   ·have lt:=w2 i (by omega) _ _ m0 m1
    rw[lt,if_neg (by decide)]
    exact⟨s1.trans s2,nxt lt⟩
 ·rintro σ' H' ⟨x2,rfl,s1,nw⟩
  rcases hq with ⟨up,q⟩ | ⟨iw,kw,hw,qe⟩
  case inr =>
   have h1:=nw iw kw hw;have h2:=(Vc.mp hw.1).1
   rw[Vr]at h2
   omega
  walk_at "rd";refine⟨p,d1,d2,st,c,0,e,false,xs,es,rfl,hS.same s1,s1 _ _ he,TDs.sameT re s1.t,hent,lx,by omega,fun r H2 st2 c2 hs ys sx hr hr2 tys hd heads hS2 sub l2=>?_⟩
  have lh:=heads.length;have lt:=Paired.length tys;have lc:=QDa (lv:=QC) (l:=0) (es:=es);refine⟨p,d1,d2,st2,c2,r,hs,ys,0,rfl,by decide,hS2,hr2,tys,hd,by omega,by omega,fun H3 st3 c3 m above v sx3 hS3 sub3 l3 ups hm hv=>?_⟩
  refine q H3 st3 c3 v ((s1.x _).trans (sx.trans sx3)) hS3 (fun x hx=>sub3 x (sub x hx)) (by omega) ?_
  have emp:es=[]↔hs=[]:=by
   constructor
   ·intro z;exact length_eq_zero_iff.mp (by rw[lh,z];rfl)
   ·intro z
    rw[z]at lh;cases hes:es with
    | nil=>rfl
    | cons y ys'=>exact absurd (length_eq_zero_iff.mp lh.symm) (Xk (by rw[hes];simp))
  rcases hv with ⟨h1,h2⟩ | ⟨h1,k,n,ea,ev⟩
  ·exact .inl ⟨emp.mpr h1,h2⟩
  ·have hes:es≠[]:=fun z=>h1 (emp.mp z)
   obtain⟨L,pt,eL⟩:=ups.part (heads.mono sub3);have h1L:(L (m+1)).length=1:=by rw[eL,ea];rfl
   have m6:m<=6:=by
    rcases Nat.lt_or_ge m 7 with z | z
    ·omega
    ·have a:=pt.top ZKc hes (by omega)
     have b:=pt.two 7 (by omega) (by omega)
     omega
   exact .inr ⟨hes,m,L,k,n,m6,pt.chain h1L,by rw[eL,ea],ev⟩
theorem QEa{K:W.Frag}{k:Nat}{fd:FuncData}{ps:List Str}:QD P w K mg base CX k f fd ps (fun _ _ _ _=>False) :=
 ⟨fun _ _ _ _ h=>h.elim,fun _ _ _ _ _ _ _ _ _ _ _ _ _ h=>h.elim⟩
inductive Zt(u0_:W.Frag)(ob:Nat->Addr)(vs:List V)(H:Hp)(Q:VK)(E:XK):Prop
 | mk:∀ a l es,vs=[.ref a]->PgD ob H a l es->l≠0->es.length<=900->(∀ d∈es,∃ k n,d=ZV k n)->(∀ r H',Qk H H'->H r=none->H' r=some (.lst ((es.map Qta).map V.int))->Q (.ref r) H')->Zt u0_ ob vs H Q E
seal PE PT PW PA PS PSs PI PG Q0 PGs PO in
theorem Jga(Z:Zs mg)(T:Tx K mg CT cs ob)(F:Fun K "under" "Twig.under" Jq f fd):QD P w K mg base (CX1 P w) 1 f fd ["self"] (Zt K ob):=by
 refine F.ok1 Z9a (fun vs H Q E h=>?_) (fun cdv A outer s H vs Q E hr h=>?_)
 ·walk_at "n"
 obtain⟨a,l,es,rfl,hP,hl,lx,hh,q⟩:=h;refine⟨_,(Qf (Qp (Jc ["self"] rfl (QNa (N:=["self"]) (dsc:=Qh Jq) rfl rfl (by decide +kernel)) (ZYb (ZH (pv 0) rfl)) (fun _ _ _ _ _=>Xi) (fun _ _ _ _ _=>(QS (r:=Z1a K) QP (pv 0) Qb (fun _ _=>rfl)))))),?_⟩
 refine Ql (σ:=[some (.ref a)]) rfl ?_
 walk_at "rd";obtain⟨tw,dx,t,etw,ha,ht⟩:=hP;obtain rfl:tw=true:=by rw[etw];exact decide_eq_true hl
 obtain⟨m,t',xs,em,e,ht',rt⟩:=ht.tup;cases e;have le:=Paired.length rt;have hx:∀ (i:Nat) x,xs[i]?=some x->∃ b k n,x=.ref b/\H b=some (.tup [k,.int n])/\(es.map Qta)[i]?=some n:=fun i x hi=>by
  have h2:=(Vc.mp hi).1
  have hd:es[i]?=some (es[i]'(by omega)):=Vb _
  have tx:=Qn rt hd hi;obtain⟨k,n,ed⟩:=hh _ (Vm hd);rw[ed]at tx;obtain rfl:m=6:=by omega
  obtain⟨b,x1,x2,eb,hb,w1,w2⟩:=TD.pair_of tx;obtain⟨_,rfl⟩:=w2.flat;exact⟨b,x1,n,eb,hb,by rw[getElem?_map,hd,ed];rfl⟩
 have hmap:xs.map (JTb H)=(es.map Qta).map V.int:=by
  refine ext_getElem (by simp[le]) fun i g1 g2=>?_
  have b1:i < xs.length:=by simpa using g1
  obtain⟨b,k,n,ex,hb,hn⟩:=hx i _ (Vb b1)
  simp only[getElem_map];rw[ex,Y5a hb];obtain⟨_,e⟩:=Vc.mp hn
  simp only[getElem_map]at e;rw[e]
 refine Z1 (T.ob_ 2 (by decide)) (by decide) rfl ha rfl ⟨t,rfl,⟨_,SqT.of ht'⟩,Xib xs (fun _=>true) (JTb H) (SqT.of ht') (Y8 (by omega)) (fun i x H2 R _ _ r=>r) (fun i x H2 R hi _ s r=>?_) fun D H2 hD s2 hd=>?_⟩
 ·obtain⟨b,k,n,rfl,hb,_⟩:=hx i x hi
  walk_at "rd";exact⟨_,SqT.of (s _ _ hb),_,rfl,by rw[Y5a hb]at r;exact r⟩
 ·exact q D H2 s2 hD (by rw[hd,filter_eq_self.mpr (fun _ _=>rfl),hmap])
inductive Q3(u0_:W.Frag)(ob:Nat->Addr)(vs:List V)(H:Hp)(Q:VK)(E:XK):Prop
 | mk:∀ a,vs=[.ref a]->(∀ r H',Qk H H'->H r=none->H' r=some (.lst [])->Q (.ref r) H')->Q3 u0_ ob vs H Q E
seal PE PT PW PA PS PSs PI PG Q0 PGs PO in
theorem Xy(Z:Zs mg)(T:Tx K mg CT cs ob)(F:Fun K "under" "Page.under" Yv f fd):QD P w K mg base (CX1 P w) 1 f fd ["self"] (Q3 K ob):=by
 refine F.ok1 Z8a (fun vs H Q E h=>?_) (fun cdv A outer s H vs Q E hr h=>?_)
 ·walk_at "n"
 obtain⟨a,rfl,q⟩:=h;refine⟨_,(Qf (Qp (Jy Qe))),?_⟩
 refine Ql (σ:=[some (.ref a)]) rfl ?_
 walk_at "rd";exact⟨by decide,fun p hp=>q p _ (Qg hp _) hp Qa⟩
inductive ZP(u0_:Program)(u1_:World)(ob:Nat->Addr)(vs:List V)(H:Hp)(Q:VK)(E:XK):Prop
 | mk:∀ a o es,vs=[.ref a,o]->PgD ob H a 0 es->(∀ r H' xs,Qk H H'->H r=none->H' r=some (.lst xs)->Paired (fun d v=>TD H' 6 d v) es xs->Q (.ref r) H')->ZP u0_ u1_ ob vs H Q E
seal PE PT PW PA PS PSs PI PG Q0 PGs PO in
theorem ZRa(Z:Zs mg)(T:Tx K mg CT cs ob)(F:Fun K "spread" "Leaf.spread" J0 f fd):QD P w K mg base (CX1 P w) 1 f fd ["self","pages"] (ZP P w ob):=by
 refine F.ok1 ZJa (fun vs H Q E h=>?_) (fun cdv A outer s H vs Q E hr h=>?_)
 ·walk_at "n"
 obtain⟨a,o,es,rfl,hP,q⟩:=h;refine⟨_,(Qf (Qp (QW Zb rfl (Z.list) Ym (Qi (ZH (pv 0) rfl) Qe)))),?_⟩
 refine Ql (σ:=[some (.ref a),some o]) rfl ?_
 walk_at "rd";obtain⟨tw,dx,t,etw,ha,ht⟩:=hP;obtain rfl:tw=false:=by rw[etw];rfl
 obtain⟨m,t',xs,em,e,ht',rt⟩:=ht.tup;cases e;obtain rfl:m=6:=by omega
 exact Z1 (T.ob_ 1 (by decide)) (by decide) rfl ha rfl ⟨t,rfl,xs,.inr (SqT.of ht'),fun p hp=>q p _ xs (Qg hp _) hp Qa (TDs.sameT rt (Qg hp _).t)⟩
theorem Ylb:∀ {part:List Dt} {ess:List (List Dt)},Paired (JZb tbl 0) part ess->ess.flatten=part
 | [],_,.nil=>rfl
 | d::part,_,.cons (b:=x) r t=>by
  have r:x=[d]:=r;rw[flatten_cons,Ylb t,r];rfl
theorem Xz{α β:Type}{F:α->β->Prop}:∀ {xs ys:List α} {us vs:List β},Paired F xs us->Paired F ys vs->Paired F (xs++ys) (us++vs)
 | _,_,_,_,.nil,h=>h
 | _,_,_,_,.cons r t,h=>.cons r (Xz t h)
inductive YO(P:Program)(w:World)(cs ob:Nat->Addr)(n:Nat)(vs:List V)(H:Hp)(Q:VK)(E:XK):Prop
 | mk:∀ a p d1 d2 st c,∀ l:Nat,∀ part es,vs=[.ref a,.ref p]->QI P w ob H p d1 d2 st c->PgD ob H a ((l+1:Nat):Int) part->l<=n->QXb (Qy st) (l+1) part es->es.length<=900->part.length<=900->(∀ r H' xs,Qk H H'->H r=none->H' r=some (.lst xs)->Paired (fun d v=>TD H' 6 d v) es xs->Q (.ref r) H')->YO P w cs ob n vs H Q E
def ZQ(P:Program)(w:World)(cs ob:Nat->Addr):Nat->Sp
 | 0=>fun _ _ _ _=>False
 | n+1=>YO P w cs ob n
seal PE PT PW PA PS PSs PI PG Q0 PGs PO in
theorem ZSa(Z:Zs mg)(T:Tx K mg CT cs ob)(Ju:MeV P w K mg base 1 (ob 0) "under" (Q3 K ob))(Zd:MeV P w K mg base 1 (ob 1) "under" (Q3 K ob))(Q2:MeV P w K mg base 1 (ob 2) "under" (Zt K ob))(Zi:MeV P w K mg base 1 (ob 1) "spread" (ZP P w ob))(QG:MeV P w K mg base 5 (ob 3) "page" (Zh P w cs ob)){n:Nat}(IH:MeV P w K mg base (5+n) (ob 2) "spread" (ZQ P w cs ob n))(F:Fun K "spread" "Page.spread" J3 f fd):QD P w K mg base (CX1 P w) (5+n+1) f fd ["self","pages"] (ZQ P w cs ob (n+1)):=by
 refine F.ok1 JF (fun vs H Q E h=>?_) (fun cdv A outer s H vs Q E hr h=>?_)
 ·walk_at "n"
 obtain⟨a,p,d1,d2,st,c,l,part,es,rfl,hS,hP,hl,hsub,lx,lp,q⟩:=h;refine⟨_,(@Qc _ _ _ _ _ (Qm (i:=2) JF.nd rfl (Or.inl rfl) (Jy Qe))
  (@Qc _ _ _ _ _ (ZX Zyc rfl (Zw (PE1.pe (XF (k:=(5+n)) (pv 0) hr rfl) Yp)) (Za (i:=3) JF.nd rfl (Or.inl rfl)) (Qf (Q9 (Xr PySem.F.plainAttrs_list PySem.F.slot_list_extend PySem.F.type_list_extend XG (pv 2) (Qi (PE1.pe (JFa (k:=(5+n)) (ZD (k:=(5+n)) (pv 1) hr rfl (Qi (pv 3) Qe)) hr rfl (Qi (pv 1) Qe)) Yp) Qe)))))
  (Qf (Qp (pv 2))))),?_⟩
 refine Ql (σ:=[some (.ref a),some (.ref p),none,none]) rfl ?_
 walk_at "rd";refine⟨by decide,fun rp hrp=>?_⟩
 have s0:=Qg hrp (.lst []);have c_r:upd H rp (.lst []) rp=some (.lst []):=Qa;generalize upd H rp (.lst [])=H0 at s0 c_r ⊢;have hP0:=hP.same s0;obtain⟨tw,dx,t,etw,ha,ht⟩:=id hP0;obtain rfl:tw=true:=by rw[etw];exact decide_eq_true (by omega)
 obtain⟨ess,pr,ees⟩:=hsub;have lpr:=Paired.length pr;have hds:∀ d∈part,∃ k n,d=ZV k n:=fun d hd=>by
  obtain⟨i,hi⟩:=mem_iff_getElem?.mp hd;have hl:=(Vc.mp hi).1
  obtain⟨k,n,_,_,e,_⟩:=Qn pr hi (Vb (show i < ess.length by omega))
  exact⟨k,n,e⟩
 refine Qpa rfl ha rfl (T.ob_ 2 (by decide)).cl (Q2.mono (by omega)) ⟨a,_,part,rfl,hP0,by omega,lp,hds,fun u H1 s1 hu hu1=>?_⟩
 refine⟨u,rfl,⟨_,SqL.of hu1⟩,?_⟩
 have s01:=s0.trans s1;have hS1:=hS.same s01;have ru:u≠rp:=fun z=>by rw[z,c_r]at hu;cases hu
 refine Jd ((part.map Qta).map V.int) (fun i σ' H'=>∃ zs x3,σ'=[some (.ref a),some (.ref p),some (.ref rp),x3]/\Qk H H'/\H' u=some (.lst ((part.map Qta).map V.int))/\H' rp=some (.lst zs)/\Paired (fun d v=>TD H' 6 d v) (ess.take i).flatten zs) ⟨[],_,rfl,s01,hu1,s1 _ _ c_r,.nil⟩ (fun i σ' H' _ ⟨_,_,_,_,h,_⟩=>SqL.of h) ?_ ?_
 ·rintro i x σ' H' hx ⟨zs,x3,rfl,s',hu',hr',tz⟩
  rw[getElem?_map,getElem?_map]at hx
  obtain⟨m,hm,rfl⟩:=Option.map_eq_some_iff.mp hx;obtain⟨d,hd,rfl⟩:=Option.map_eq_some_iff.mp hm;have hi:=(Vc.mp hd).1
  have he:ess[i]?=some (ess[i]'(by omega)):=Vb _
  obtain⟨k,nn,part',ess',rfl,hmem,pr',ee⟩:=Qn pr hd he;generalize ess[i]'(by omega)=es' at he ee
  have les:es'.length<=es.length:=by
   rw[ees];exact(sublist_flatten_of_mem (Vm he)).length_le
  have lz:zs.length<=es.length:=by
   rw[<- Paired.length tz,ees];have:=congrArg (fun l=>(List.flatten l).length) (take_append_drop i ess)
   simp only[flatten_append,Vs]at this
   omega
  obtain⟨⟨n',pd',t'⟩,hmm,en⟩:=mem_map.mp hmem;injection en with en1 en2
  dsimp only at en1 en2;subst en1 en2;have hS':=hS.same s';obtain⟨dx',ho'⟩:=hS'.obj;have fin:∀ (w:Addr) (H2:Hp) (xs:List V),Qk H' H2->H2 w=some (.lst xs)->Paired (fun d v=>TD H2 6 d v) es' xs->H2 rp=some (.lst zs)/\(Qk H (upd H2 rp (.lst (zs++xs)))/\upd H2 rp (.lst (zs++xs)) u=some (.lst ((part.map Qta).map V.int))/\Paired (fun d v=>TD (upd H2 rp (.lst (zs++xs))) 6 d v) (ess.take (i+1)).flatten (zs++xs)):=by
   intro w H2 xs s2 hw px;have hr2:=s2 _ _ hr';have t5:Q1 H2 (upd H2 rp (.lst (zs++xs))):=Jw hr2;refine⟨hr2,Q6 (s'.trans s2) hrp,by rw[Qd ru];exact s2 _ _ hu',?_⟩
   rw[take_add_one,he];simp only[flatten_append,Option.toList_some,flatten_cons,flatten_nil,append_nil];exact Xz (TDs.sameT tz (s2.t.trans t5)) (TDs.sameT px t5)
  walk_at "rd";refine⟨.inl ⟨rfl,_,SqL.of hr'⟩,Jf rfl ho' rfl (T.ob_ 3 (by decide)).cl (QG.mono (by omega)) ⟨p,d1,d2,st,c,n',rfl,hS',fun l2 es2 t2 hm2 pg H2 s2 hpg pgd=>?_,fun z=>(z _ hmm rfl).elim⟩⟩
  obtain⟨el,ee2⟩:=Q7 (hS.fun_ hmm hm2).1;subst el ee2;have lp':part'.length<=900:=by
   obtain⟨l3,k3,r3,es3,e3,_,h3⟩:=hS.sh _ hmm;rw[(Q7 e3).2];simp;omega
  cases l with
  | zero =>
   obtain⟨tw2,dx2,t0,etw2,hpa,ht0⟩:=id pgd;obtain rfl:tw2=false:=by rw[etw2];rfl
   have e':es'=part':=by rw[ee];exact Ylb pr'
   refine⟨pg,rfl,_,dx2,_,hpa,rfl,(T.ob_ 1 (by decide)).cl,_,Zi.mono (by omega),⟨pg,.ref p,part',rfl,pgd,fun w H3 xs s3 hw hw3 px=>?_⟩⟩
   rw[<- e']at px;obtain⟨g1,g2,g3,g4⟩:=fin w H3 xs (s2.trans s3) hw3 px;have lxs:=Paired.length px;exact⟨w,rfl,zs,g1,xs,.inl (SqL.of hw3),Vj (show zs.length+xs.length<=5000 by omega) (by rw[sizeLine_eq];decide),g2,g3,_,Qa,g4⟩
  | succ l =>
   obtain⟨tw2,dx2,t0,etw2,hpa,ht0⟩:=id pgd;obtain rfl:tw2=true:=by rw[etw2];exact decide_eq_true (by omega)
   obtain⟨n0,rfl⟩:∃ n0,n=n0+1:=⟨n - 1,by omega⟩
   refine⟨pg,rfl,_,dx2,_,hpa,rfl,(T.ob_ 2 (by decide)).cl,_,IH,⟨pg,p,d1,d2,st,c,l,part',es',rfl,hS'.same s2,pgd,by omega,⟨ess',pr',ee⟩,by omega,lp',fun w H3 xs s3 hw hw3 px=>?_⟩⟩
   obtain⟨g1,g2,g3,g4⟩:=fin w H3 xs (s2.trans s3) hw3 px;have lxs:=Paired.length px;exact⟨w,rfl,zs,g1,xs,.inl (SqL.of hw3),Vj (show zs.length+xs.length<=5000 by omega) (by rw[sizeLine_eq];decide),g2,g3,_,Qa,g4⟩
 ·rintro σ' H' ⟨zs,x3,rfl,s',hu',hr',tz⟩
  walk_at "rd";rw[take_of_length_le (by rw[Vr,Vr];omega),<- ees]at tz
  exact q rp H' zs s' hrp hr' tz
def Ze(st:StL)(es:List Dt)(v:V):Prop:=(es=[]/\v=.non)\/(es≠[]/\∃ top L k n,top<=6/\Zf QC (Qy st) es top L/\L (top+1)=[ZV k n]/\v=.int n)
inductive XR(P:Program)(w:World)(cs ob:Nat->Addr)(vs:List V)(H:Hp)(Q:VK)(E:XK):Prop
 | mk:∀ p d1 d2 st c v es,vs=[.ref p,v]->QI P w ob H p d1 d2 st c->Ze st es v->es.length<=900->(∀ r H' xs,Qk H H'->H r=none->H' r=some (.lst xs)->Paired (fun d v=>TD H' 6 d v) es xs->Q (.ref r) H')->XR P w cs ob vs H Q E
seal PE PT PW PA PS PSs PI PG Q0 PGs PO in
theorem Qfb(Z:Zs mg)(T:Tx K mg CT cs ob)(J8:∀ n,MeV P w K mg base (5+n) (ob 2) "spread" (ZQ P w cs ob n))(Zi:MeV P w K mg base 1 (ob 1) "spread" (ZP P w ob))(QG:MeV P w K mg base 5 (ob 3) "page" (Zh P w cs ob))(F:Fun K "rows_of" "rows_of" Qza f fd):QD P w K mg base CX0 14 f fd ["pages","root"] (XR P w cs ob):=by
 refine F.ok X6a (fun vs H Q E h=>?_) (fun cdv A outer s H vs Q E hr h=>?_)
 ·walk_at "n"
 obtain⟨p,d1,d2,st,c,v,es,rfl,hS,hT,lx,q⟩:=h;refine⟨_,(@Qc _ _ _ _ _ (QR (Qs XFa (pv 1) Qha (Qt _)) (Qf (Qp (Jy Qe))) Qw)
  (Qf (Qp (PE1.pe (JFa (k:=13) (ZD (k:=13) (pv 0) hr rfl (Qi (pv 1) Qe)) hr rfl (Qi (pv 0) Qe)) Z6)))),?_⟩
 refine Ql (σ:=[some (.ref p),some v]) rfl ?_
 walk_at "rd"
 rcases hT with ⟨rfl,rfl⟩ | ⟨hne,top,L,k,n,h6,ch,eL,rfl⟩
 ·rw[if_pos rfl]
  exact⟨by decide,fun r hr=>q r _ [] (Qg hr _) hr Qa .nil⟩
 rw[if_neg (show ¬ V.int n=V.non from fun z=>nomatch z)]
 obtain⟨part,hmem,hsub⟩:=ch.spread eL;obtain⟨⟨n',pd',t'⟩,hmm,en⟩:=mem_map.mp hmem;injection en with en1 en2
 dsimp only at en1 en2;subst en1 en2;obtain⟨dx,ho⟩:=hS.obj;refine Jf rfl ho rfl (T.ob_ 3 (by decide)).cl (QG.mono (by decide)) ⟨p,d1,d2,st,c,n',rfl,hS,fun l2 es2 t2 hm2 pg H2 s2 hpg pgd=>?_,fun z=>(z _ hmm rfl).elim⟩
 obtain⟨el,ee2⟩:=Q7 (hS.fun_ hmm hm2).1;subst el ee2;have lp:part.length<=900:=by
  obtain⟨l3,k3,r3,es3,e3,_,h3⟩:=hS.sh _ hmm;rw[(Q7 e3).2];simp;omega
 cases top with
 | zero =>
  obtain⟨tw2,dx2,t0,etw2,hpa,ht0⟩:=id pgd;obtain rfl:tw2=false:=by rw[etw2];rfl
  obtain⟨ess,pr,ee⟩:=hsub;rw[Ylb pr]at ee;subst ee;exact⟨pg,rfl,_,dx2,_,hpa,rfl,(T.ob_ 1 (by decide)).cl,_,Zi.mono (by decide),⟨pg,.ref p,_,rfl,pgd,fun w H3 xs s3 hw hw3 px=>q w H3 xs (s2.trans s3) (by
   cases e:H w with
   | none=>rfl
   | some o=>rw[s2 _ _ e]at hw;cases hw) hw3 px⟩⟩
 | succ l =>
  obtain⟨tw2,dx2,t0,etw2,hpa,ht0⟩:=id pgd;obtain rfl:tw2=true:=by rw[etw2];exact decide_eq_true (by omega)
  exact⟨pg,rfl,_,dx2,_,hpa,rfl,(T.ob_ 2 (by decide)).cl,_,(J8 7).mono (by decide),⟨pg,p,d1,d2,st,c,l,part,es,rfl,hS.same s2,pgd,show l<=6 by omega,hsub,lx,lp,fun w H3 xs s3 hw hw3 px=>q w H3 xs (s2.trans s3) (by
   cases e:H w with
   | none=>rfl
   | some o=>rw[s2 _ _ e]at hw;cases hw) hw3 px⟩⟩
section
variable{P:Program}{w:World}{K:W.Frag}{ob:Nat->Addr}{H H':Hp}{p d1 d2:Addr}{st:StL}{c:Int}
theorem QI.off(h:QI P w ob H p d1 d2 st c){b:Addr}{o:HO}(hb:H b=some o)(h1:∀ C dx fs,o≠.ins C dx fs)(h2:∀ kvs,o≠.dK kvs)(h3:∀ φ,o≠.ext φ):b∉[p,d1,d2]:=fun z=>by
 obtain⟨dx,eo⟩:=h.obj;simp only[mem_cons,not_mem_nil,or_false]at z
 rcases z with z | z | z
 ·rw[z,eo]at hb;injection hb with hb;exact h1 _ _ _ hb.symm
 ·rw[z,h.num]at hb;injection hb with hb;exact h2 _ hb.symm
 ·rw[z,h.tol]at hb;injection hb with hb;exact h3 _ hb.symm
theorem QI.lst(h:QI P w ob H p d1 d2 st c)(s:QU [p,d1,d2] H H'){b:Addr}{xs:List V}(hb:H b=some (.lst xs)):H' b=some (.lst xs):=s _ _ (h.off hb (by intros;intro z;cases z) (by intros;intro z;cases z) (by intros;intro z;cases z)) hb
theorem QI.seq(h:QI P w ob H p d1 d2 st c)(s:QU [p,d1,d2] H H'){b:Addr}{xs:List V}(hb:SqL K H b xs):SqL K H' b xs:=by
 rcases hb with hb | hb
 ·rcases hb with hb | ⟨o,hb⟩
  ·exact .inl (.inl (h.lst s hb))
  ·exact .inl (.inr ⟨o,s _ _ (h.off hb (by intros;intro z;cases z) (by intros;intro z;cases z) (by intros;intro z;cases z)) hb⟩)
 ·exact .inr hb
end
theorem Zu{K:W.Frag}{b:Addr}(hb:H b=some (.lst xs))(re:Paired (fun d v=>TD H 6 d v) es xs):Rep K H 7 (.l es) (.ref b):=.l (SqL.of hb) (Paired.length re) fun i d x h1 h2=>(Qn re h1 h2).rep
theorem ZVc(xs:List V)(k:Nat):Z0a xs none (some (k:Int))=xs.take k:=by
 have e1:=HT.Qwb xs.length xs.length k;have e2:HT.sIx xs.length 0 none=0:=rfl;unfold Z0a;rw[e1,e2,drop_zero,Nat.sub_zero]
 rcases Nat.le_total k xs.length with h | h
 ·rw[Nat.min_eq_left h]
 ·rw[Nat.min_eq_right h,take_of_length_le (Ve _),take_of_length_le h]
theorem ZWc(xs:List V)(k:Nat):Z0a xs (some (k:Int)) none=xs.drop k:=by
 have e1:=HT.Qwb xs.length 0 k;have e2:HT.sIx xs.length xs.length none=xs.length:=rfl;unfold Z0a;rw[e1,e2]
 rcases Nat.le_total k xs.length with h | h
 ·rw[Nat.min_eq_left h,take_of_length_le (by rw[length_drop];exact Ve _)]
 ·rw[Nat.min_eq_right h,drop_of_length_le (Ve _),drop_of_length_le h];simp
theorem QPa{α β:Type}{F:α->β->Prop}:∀ {xs:List α} {us:List β} (n:Nat),Paired F xs us->Paired F (xs.take n) (us.take n)
 | _,_,0,_=>.nil
 | _,_,_+1,.nil=>.nil
 | _,_,n+1,.cons r t=>.cons r (QPa n t)
theorem QQa{α β:Type}{F:α->β->Prop}:∀ {xs:List α} {us:List β} (n:Nat),Paired F xs us->Paired F (xs.drop n) (us.drop n)
 | _,_,0,r=>r
 | _,_,_+1,.nil=>.nil
 | _,_,n+1,.cons _ t=>QQa n t
def ltK(a b:V):Prop:=Zo a/\Zo b/\Pl.ltV a b=true
theorem ltK.irr(a:V):¬ ltK a a:=fun h=>by
 have h2:=h.2.2;rw[Pl.irr (Xd h.1)]at h2;exact Vf h2
theorem ltK.tr{a b c:V}(h:ltK a b)(h':ltK b c):ltK a c:=⟨h.1,h'.2.1,Pl.tr (Xd h.1) (Xd h.2.1) (Xd h'.2.1) h.2.2 h'.2.2⟩
theorem ltK.tri{a b:V}(ha:Zo a)(hb:Zo b):ltK a b\/a=b\/ltK b a:=by
 cases h1:Pl.ltV a b with
 | true=>exact .inl ⟨ha,hb,h1⟩
 | false =>
  cases h2:Pl.ltV b a with
  | true=>exact .inr (.inr ⟨hb,ha,h2⟩)
  | false=>exact .inr (.inl (Pl.tri (Xd ha) (Xd hb) h1 h2))
theorem Yma.key(h:Yma d):Zo (QM d):=by
 obtain⟨k,r,rfl,hk⟩:=h;exact hk
def QFa(d:Dt):Prop:=∃ k c,d=.t [.v k,.t c]/\Zo k
theorem QFa.ent(h:QFa d):Yma d:=by obtain⟨k,c,rfl,hk⟩:=h;exact⟨k,_,rfl,hk⟩
structure ZXc(es:List Dt):Prop where
 row:∀ d∈es,QFa d
 up:UpR ltK es
 len:es.length<=900
theorem Ze.sc(h:Ze st es v):v=.non\/∃ n,v=.int n:=by
 rcases h with ⟨_,h⟩ | ⟨_,_,_,_,n,_,_,_,h⟩
 ·exact .inl h
 ·exact .inr ⟨n,h⟩
theorem Ze.rows(f:Fn (Qy st))(h:Ze st es v)(h':Ze st es' v):es=es':=by
 rcases h with ⟨a,b⟩ | ⟨_,top,L,k,n,_,c,e,b⟩
 ·rcases h' with ⟨a',_⟩ | ⟨_,_,_,_,n,_,_,_,b'⟩
  ·rw[a,a']
  ·rw[b]at b';cases b'
 ·rcases h' with ⟨_,b'⟩ | ⟨_,top',L',k',n',_,c',e',b'⟩
  ·rw[b]at b';cases b'
  ·rw[b]at b'
   cases b';exact c.rows_of f c' e e'
theorem Ze.det{v':V}(f:Fn (Qy st))(h:Ze st es v)(h':Ze st es v'):v=v':=by
 rcases h with ⟨a,b⟩ | ⟨a,top,L,k,n,_,c,e,b⟩
 ·rcases h' with ⟨_,b'⟩ | ⟨a',_⟩
  ·rw[b,b']
  ·exact absurd a a'
 ·rcases h' with ⟨a',_⟩ | ⟨_,top',L',k',n',_,c',e',b'⟩
  ·exact absurd a' a
  ·obtain⟨et,eL⟩:=c.det f c'
   subst et;have:=eL (top+1) (Ve _);rw[e,e']at this;injection this with this
   rw[b,b',(Jg this).2]
theorem Ze.mono{st':StL}(h:Ze st es v)(s:∀ x∈Qy st,x∈Qy st'):Ze st' es v:=by
 rcases h with h | ⟨a,top,L,k,n,b,c,d⟩
 ·exact .inl h
 ·exact .inr ⟨a,top,L,k,n,b,c.mono s,d⟩
inductive Jv(K:W.Frag)(vs:List V)(H:Hp)(Q:VK)(E:XK):Prop
 | mk:∀ (a:Addr) (ns:List Int) (k:Nat),vs=[.ref a,.int k]->SqL K H a (ns.map V.int)->ns.length<=63->(∀ c,Q (.int c) H)->Jv K vs H Q E
seal PE PT PW PA PS PSs PI PG Q0 PGs PO in
theorem Yoa(Z:Zs mg)(T:Tx K mg CT cs ob)(F:Fun K "_law_cell" "_law_cell" Y2 f fd):QD P w K mg base CX0 1 f fd ["_law_script","_law_k"] (Jv K):=by
 refine F.ok Yda (fun vs H Q E h=>?_) (fun cdv A outer s H vs Q E hr h=>?_)
 ·walk_at "n"
 obtain⟨a,ns,k,rfl,hS,hl,q⟩:=h;refine⟨_,(@Qc _ _ _ _ _ (QR (Qs XKb (pv 1) (Q5 Zk rfl (Z.len) Qla (Qi (pv 0) Qe)) (Qt _)) (Qf (Qp (QS Yj (pv 0) (pv 1) (fun _ _=>rfl)))) Qw)
  (Qf (Qp Qb))),?_⟩
 refine Ql (σ:=[some (.ref a),some (.int k)]) rfl ?_
 walk_at "rd";refine⟨_,.inl hS,Jz (fun h=>?_) fun _=>?_⟩
 ·rw[Vr]at h
  have hk:k < ns.length:=by omega
  exact⟨_,hS,.int ns[k],Jo (j:=k) (by simp[hk]),q _⟩
 ·exact q 0
theorem ZMb:(Str.ofString " !\"#$&'()*+,-./0123456789:;<=>?@ABCDEFGHIJKLMNOPQRSTUVWXYZ[\\]^_`"++Str.ofString "abcdefghijklmnopqrstuvwxyz{|}~").cps.toList.length=94:=by decide +kernel
inductive YI(u0_:W.Frag)(vs:List V)(H:Hp)(Q:VK)(E:XK):Prop
 | mk:∀ c:Int,vs=[.int c]->(∀ z:Str,z.length<=40->Q (.str z) H)->YI u0_ vs H Q E
seal PE PT PW PA PS PSs PI PG Q0 PGs PO in
theorem Ypa(Z:Zs mg)(T:Tx K mg CT cs ob)(F:Fun K "_law_text" "_law_text" Y3 f fd):QD P w K mg base CX0 1 f fd ["_law_cell_here"] (YI K):=by
 refine F.ok QA (fun vs H Q E h=>?_) (fun cdv A outer s H vs Q E hr h=>?_)
 ·walk_at "n"
 obtain⟨c,rfl,q⟩:=h;refine⟨_,(@Qc _ _ _ _ _ (Qm (i:=1) QA.nd rfl (Or.inl rfl) Ye)
  (@Qc _ _ _ _ _ (Qm (i:=1) QA.nd rfl (Or.inl rfl) (Qj Yh (pv 1) Ye))
  (@Qc _ _ _ _ _ (Qm (i:=2) QA.nd rfl (Or.inl rfl) (Qj Qz (Qj ZY (Qj ZK (Qj Qz (pv 0) Qb) Qb) Qb) Qb))
  (@Qc _ _ _ _ _ (Qm (i:=3) QA.nd rfl (Or.inl rfl) (Qj ZY Qb (Qj Qz (pv 2) Qb)))
  (@Qc _ _ _ _ _ (QR (Qs ZB (Qj Qz (Qj QE (pv 2) Qb) Qb) Qb (Qt _)) (Qf (Qm (i:=3) QA.nd rfl (Or.inl rfl) (Qj ZY Qb (Qj Qz (Qj QE (pv 2) Qb) Qb)))) Qw)
  (@Qc _ _ _ _ _ (Qm (i:=4) QA.nd rfl (Or.inl rfl) (Qj Qz (Qj QE (pv 2) Qb) (pv 3)))
  (@Qc _ _ _ _ _ (Qm (i:=5) QA.nd rfl (Or.inl rfl) (JN ZB (Qj Qz (Qj QE (pv 2) Qb) Qb) Qb (Qt _)))
  (@Qc _ _ _ _ _ (Qm (i:=6) QA.nd rfl (Or.inl rfl) Ye)
  (@Qc _ _ _ _ _ (ZX PassesOwn.never rfl (Jpa rfl (Z.range) (Qi (pv 3) Qe)) (Za (i:=7) QA.nd rfl (Or.inl rfl)) (@Qc _ _ _ _ _ (Qm (i:=2) QA.nd rfl (Or.inl rfl) (Qj Qz (Qj ZY (Qj ZK (pv 2) Qb) Qb) Qb))
  (Qf (QR (PW.pt (Xza (XA (pv 5) (fun _=>rfl)) (JOa (Qs Qsb (pv 7) (pv 4) (Qt _))))) (Qf (Qm (i:=6) QA.nd rfl (Or.inl rfl) (Qj Yh (pv 6) Ye))) (Qf (Qm (i:=6) QA.nd rfl (Or.inl rfl) (Qj Yh (pv 6) (QS Qmc (pv 1) (Qj Qz (pv 2) Qb) (fun _ _=>rfl)))))))))
  (Qf (Qp (pv 6)))))))))))),?_⟩
 refine Ql (σ:=[some (.int c),none,none,none,none,none,none,none]) rfl ?_
 walk_at "rd";refine⟨by decide,?_⟩
 walk_at "go";refine Jz (fun _=>?_) fun _=>?_
 all_goals
  walk_at "go";refine Qma (fun i σ' H'=>H'=H/\∃ (m:Int) (z:Str) (x:Option V) (many:Option V) (at':Int) (plain:Bool),σ'=[some (.int c),some (.str (Str.ofString " !\"#$&'()*+,-./0123456789:;<=>?@ABCDEFGHIJKLMNOPQRSTUVWXYZ[\\]^_`"++Str.ofString "abcdefghijklmnopqrstuvwxyz{|}~")),some (.int m),many,some (.int at'),some (.bl plain),some (.str z),x]/\0<=m/\m < 2147483629/\z.length=i/\i<=40) ⟨rfl,_,_,_,_,_,_,rfl,by omega,by omega,rfl,by decide⟩ ?_ ?_
  ·rintro i σ' H' hi ⟨rfl,m,z,x,many,at',plain,rfl,h1,h2,h3,h4⟩
   walk_at "rd";refine⟨by walk_at "side",?_⟩
   have hi40:i+1<=40:=by omega
   have sg:∃ x,atI (Str.ofString " !\"#$&'()*+,-./0123456789:;<=>?@ABCDEFGHIJKLMNOPQRSTUVWXYZ[\\]^_`"++Str.ofString "abcdefghijklmnopqrstuvwxyz{|}~").cps.toList ((m * 48271+12345) % 2147483629 % 94)=some x:=Xsb (by omega) (by rw[ZMb];omega)
   have lz:∀ y:Str,y.length=1->z.length+y.length<=sizeLine/\(z++y).length=i+1:=fun y hy=>⟨by rw[hy];exact Vv (QN (by omega)),by rw[strLen_append,hy,h3]⟩
   have one:∀ x:Nat,z.length+({ cps:=#[x] }:Str).length<=sizeLine/\(z++({ cps:=#[x] }:Str)).length=i+1:=fun x=>lz _ rfl
   obtain⟨x,hx⟩:=sg;refine Jz (fun _=>Jz (fun _=>?_) fun _=>?_) fun _=>?_
   ·exact⟨(lz _ rfl).1,_,_,_,_,_,_,⟨rfl,rfl,rfl,rfl,rfl,rfl⟩,by omega,by omega,(lz _ rfl).2,hi40⟩
   ·exact⟨by decide,x,hx,(one x).1,_,_,_,_,_,_,⟨rfl,rfl,rfl,rfl,rfl,rfl⟩,by omega,by omega,(one x).2,hi40⟩
   ·exact⟨by decide,x,hx,(one x).1,_,_,_,_,_,_,⟨rfl,rfl,rfl,rfl,rfl,rfl⟩,by omega,by omega,(one x).2,hi40⟩
  ·rintro σ' H' ⟨rfl,m,z,x,many,at',plain,rfl,h1,h2,h3,h4⟩
   exact q z (by omega)
inductive YJ(u0_:W.Frag)(vs:List V)(H:Hp)(Q:VK)(E:XK):Prop
 | mk:∀ c:Int,vs=[.int c]->(∀ i,0<=i->i < 2147483647->Q (.int i) H)->YJ u0_ vs H Q E
seal PE PT PW PA PS PSs PI PG Q0 PGs PO in
theorem Yqa(Z:Zs mg)(T:Tx K mg CT cs ob)(F:Fun K "_law_tall" "_law_tall" Y4 f fd):QD P w K mg base CX0 1 f fd ["_law_cell_here"] (YJ K):=by
 refine F.ok Yx (fun vs H Q E h=>?_) (fun cdv A outer s H vs Q E hr h=>?_)
 ·walk_at "n"
 obtain⟨c,rfl,q⟩:=h;refine⟨_,(@Qc _ _ _ _ _ (Qm (i:=1) Yx.nd rfl (Or.inl rfl) (Qj Qjc (Qj Qz (Qj QE (pv 0) Qb) Qb) (Qj ZK Qb (Qj Qz (pv 0) Qb))))
  (@Qc _ _ _ _ _ (Qm (i:=2) Yx.nd rfl (Or.inl rfl) (Qj Z2b (pv 1) (Qj XEa (pv 1) Qb)))
  (Qf (Qp (Qj Qz (Qj ZK (Qj JU (pv 2) Qb) Qb) Qb))))),?_⟩
 refine Ql (σ:=[some (.int c),none,none]) rfl ?_
 walk_at "rd";walk_at "go";exact q _ (Int.emod_nonneg _ (by decide)) (Int.emod_lt_of_pos _ (by decide))
theorem Xxb{i a b:Int}(h0:0<=i)(h1:i < 2147483647)(ha:a=0\/a=1)(hb:0<=b/\b < 10 ^ 19):Zo (.int (i - a * 2147483647 * b)):=by
 show _/\_
 rcases ha with rfl | rfl <;> omega
inductive JT(u0_:W.Frag)(vs:List V)(H:Hp)(Q:VK)(E:XK):Prop
 | mk:∀ c:Int,vs=[.int c]->(∀ v,Zo v->Q v H)->JT u0_ vs H Q E
seal PE PT PW PA PS PSs PI PG Q0 PGs PO in
theorem Xna(Z:Zs mg)(T:Tx K mg CT cs ob)(Xoa:Cal P w K mg base 1 "_law_text" ["_law_cell_here"] (YI K))(Xpa:Cal P w K mg base 1 "_law_tall" ["_law_cell_here"] (YJ K))(F:Fun K "_law_key" "_law_key" XI f fd):QD P w K mg base CX0 2 f fd ["_law_cell_here"] (JT K):=by
 refine F.ok QOa (fun vs H Q E h=>?_) (fun cdv A outer s H vs Q E hr h=>?_)
 ·walk_at "n"
 obtain⟨c,rfl,q⟩:=h;refine⟨_,(@Qc _ _ _ _ _ (Qm (i:=1) QOa.nd rfl (Or.inl rfl) (Qj Qz (pv 0) Qb))
  (@Qc _ _ _ _ _ (QR (Qs ZB (pv 1) Qb (Qt _)) (Qf (Qp (Qj JU (Qj Qz (Qj QE (pv 0) Qb) (Qj JU (Qj ZK Qb (Qj Zha Qb Qb)) Qb)) (Qj JU (Qj Zha Qb Qb) Qb)))) Qw)
  (@Qc _ _ _ _ _ (QR (Qs ZB (pv 1) Qb (Qt _)) (Qf (Qp (Qj JU (Qj Qz (Qj QE (pv 0) Qb) Qb) Qb))) Qw)
  (@Qc _ _ _ _ _ (QR (Qs ZB (pv 1) Qb (Qt _)) (Qf (Qp (Qu Xoa (k:=1) hr (by decide) rfl (Qi (Qj QE (pv 0) Qb) Qe)))) Qw)
  (Qf (Qp (Qj JU (Qu Xpa (k:=1) hr (by decide) rfl (Qi (Qj QE (pv 0) Qb) Qe)) (Qj ZK (Qj ZK (Qj JU (pv 1) Qb) Qb) (Qj Qz (Qj QE (pv 0) Qb) (Qj Zha Qb Qb)))))))))),?_⟩
 refine Ql (σ:=[some (.int c),none]) rfl ?_
 walk_at "rd";walk_at "go";refine Jz (fun _=>?_) fun _=>Jz (fun _=>?_) fun _=>Jz (fun _=>?_) fun _=>?_
 ·walk_at "go"
  exact q _ (show _/\_ by omega)
 ·walk_at "go"
  exact q _ (show _/\_ by omega)
 ·walk_at "go"
  exact⟨_,rfl,fun z hz=>q _ (show _<=_ by omega)⟩
 ·walk_at "go"
  refine⟨_,rfl,fun i h0 h1=>?_⟩
  walk_at "rd";walk_at "go";exact q _ (Xxb h0 h1 (by omega) (by omega))
theorem Qgb:∀ n:Fin 1000,(Str.ofString (toString ((n.val:Nat):Int))).length<=10:=by decide +kernel
theorem ZNb(h:0<=c/\c < 1000):(Str.ofString "x ").length+(Str.ofString (toString c)).length<=sizeLine:=by
 obtain⟨n,rfl⟩:=Int.eq_ofNat_of_zero_le h.1;have:=Qgb ⟨n,by omega⟩
 have e:(Str.ofString "x ").length=2:=by decide
 rw[e];exact Vv (QN (by simp only at this;omega))
inductive Z9(K:W.Frag)(vs:List V)(H:Hp)(Q:VK)(E:XK):Prop
 | mk:∀ (c:Int),vs=[.int c]->(∀ r H',Qk H H'->FzH H' 4 (.ref r)->Q (.ref r) H')->Z9 K vs H Q E
seal PE PT PW PA PS PSs PI PG Q0 PGs PO in
theorem Jha(Z:Zs mg)(T:Tx K mg CT cs ob)(F:Fun K "_law_cells" "_law_cells" Yy f fd):QD P w K mg base CX0 1 f fd ["_law_cell_here"] (Z9 K):=by
 refine F.ok Xu (fun vs H Q E h=>?_) (fun cdv A outer s H vs Q E hr h=>?_)
 ·walk_at "n"
 obtain⟨c,rfl,q⟩:=h;refine⟨_,(@Qc _ _ _ _ _ (Qm (i:=1) Xu.nd rfl (Or.inl rfl) (Jy Qe))
  (@Qc _ _ _ _ _ (QR (Qs ZB (Qj Qz (pv 0) Qb) Qb (Qt _)) (Qf (Q9 (Xr PySem.F.plainAttrs_list PySem.F.slot_list_append PySem.F.type_list_append ZC (pv 1) (Qi (ZI (Qi Ye (Qi (Qj JU (Qj Qz (Qj QE (pv 0) Qb) Qb) Qb) Qe))) Qe)))) Qw)
  (@Qc _ _ _ _ _ (QR (Qs ZB (Qj Qz (Qj QE (pv 0) Qb) Qb) Qb (Qt _)) (Qf (Q9 (Xr PySem.F.plainAttrs_list PySem.F.slot_list_append PySem.F.type_list_append ZC (pv 1) (Qi (ZI (Qi Ye (Qi (Qj Yh Ye (QW JRa rfl (Z.str) JWa (Qi (Qj Qz (Qj QE (pv 0) Qb) Qb) Qe))) Qe))) Qe)))) Qw)
  (@Qc _ _ _ _ _ (QR (Qs ZB (Qj Qz (Qj QE (pv 0) Qb) Qb) Qb (Qt _)) (Qf (Q9 (Xr PySem.F.plainAttrs_list PySem.F.slot_list_append PySem.F.type_list_append ZC (pv 1) (Qi (ZI (Qi Ye (Qi (ZI (Qi Qha (Qi (ZI (Qi (Qj Qz (Qj QE (pv 0) Qb) Qb) (Qi Ye Qe))) Qe))) Qe))) Qe)))) Qw)
  (Qf (Qp (QW JV rfl (Z.tuple) Zra (Qi (pv 1) Qe)))))))),?_⟩
 refine Ql (σ:=[some (.int c),none]) rfl ?_
 refine Xnb fun R hR=>?_
 have f1:∀ p H1 xs,ZW H 3 p H1 xs->xs.length<=1->R [some (.int c),some (.ref p)] H1:=by
  intro p H1 xs c1 l1;refine hR _ _ (Q7a fun R2 hR2=>?_)
  have f2:∀ H1 xs,ZW H 3 p H1 xs->xs.length<=2->R2 [some (.int c),some (.ref p)] H1:=by
   intro H1 xs c2 l2;refine hR2 _ _ (Q7a fun R3 hR3=>?_)
   have f3:∀ H1 xs,ZW H 3 p H1 xs->R3 [some (.int c),some (.ref p)] H1:=by
    intro H1 xs c3;refine hR3 _ _ ?_
    walk_at "rd";exact⟨_,.inl ⟨SqL.of c3.at_,fun r hr=>q r _ ((c3.same).trans (Qg hr _)) (.t Qa fun x hx=>(c3.fz x hx).same (Qg hr _))⟩⟩
   clear hR3 hR2;walk_at "rd";refine⟨by walk_at "side",Jz (fun _=>?_) fun _=>?_⟩
   ·refine⟨.inl ⟨rfl,_,SqL.of c2.at_⟩,by walk_at "side",JX,fun pa ha=>⟨JX,fun pb hb=>⟨JX,fun pc hc=>⟨_,Qg hc _ _ _ (Qg hb _ _ _ (Qg ha _ _ _ c2.at_)),QN (by omega),?_⟩⟩⟩⟩
    exact f3 _ _ (ZW.nest (n:=0) (.str (Str.ofString "zz")) .non (.int (c / 24 % 90)) (.str (Str.ofString "x")) c2 ha hb hc)
   ·exact f3 _ _ c2
  clear hR2 hR;walk_at "rd";refine⟨by walk_at "side",Jz (fun _=>?_) fun _=>?_⟩
  ·refine⟨.inl ⟨rfl,_,SqL.of c1.at_⟩,by walk_at "side",QGc (by omega),ZNb (by omega),JX,fun p1 hp1=>⟨_,Qg hp1 _ _ _ c1.at_,QN (by omega),?_⟩⟩
   exact f2 _ _ (ZW.pair (.str (Str.ofString "b")) (.str (Str.ofString "x "++Str.ofString (toString (c / 6 % 1000)))) c1 hp1) (by simp;omega)
  ·exact f2 _ _ c1 (by omega)
 clear hR;walk_at "rd";refine⟨by decide,fun p hp=>?_⟩
 have c0:=ZW.start (n:=3) hp;refine Jz (fun _=>?_) fun _=>?_
 ·refine⟨.inl ⟨rfl,_,SqL.of c0.at_⟩,by walk_at "side",JX,fun p0 hp0=>⟨_,Qg hp0 _ _ _ c0.at_,QN (by simp),?_⟩⟩
  exact f1 _ _ _ (ZW.pair (.str (Str.ofString "ab")) (.int (c / 2 % 2000 - 1000)) c0 hp0) (by simp)
 ·exact f1 _ _ _ c0 (by simp)
theorem XB(h:Zo v):∃ k:Key,v=kV k:=by
 cases v with
 | int n=>exact⟨.inl n,rfl⟩
 | str z=>exact⟨.inr z,rfl⟩
 | _=>exact h.elim
theorem JJa(h:Zo v):Pl.Z0 v:=by
 cases v with
 | int n=>exact h
 | str z=>exact h
 | _=>exact h.elim
theorem Ymb{p:Key×V}(h:p∈Zz kvs k v):p=(k,v)\/p∈kvs:=by
 unfold Zz at h
 split at h
 ·obtain⟨q,hq,e⟩:=mem_map.mp h
  split at e
  ·rename_i ek
   subst e;exact .inl (by rw[ek])
  ·subst e
   exact .inr hq
 ·rcases Vl.mp h with h | h
  ·exact .inr h
  ·exact .inl (by simpa using h)
theorem Qhb(h:(kvs.map Prod.fst).Nodup):((Zz kvs k v).map Prod.fst).Nodup:=by
 unfold Zz
 split
 ·rw[map_map]
  have e:kvs.map (Prod.fst ∘ fun q=>if q.1=k then (q.1,v) else q)=kvs.map Prod.fst:=map_congr_left fun q _=>by
   show(if q.1=k then (q.1,v) else q).1=q.1
   split <;> rfl
  rw[e];exact h
 ·rename_i hn
  rw[map_append,nodup_append];refine⟨h,by simp,fun a ha b hb=>?_⟩
  have hb:b=k:=by simpa using hb
  subst hb;intro z;subst z;obtain⟨q,hq,e⟩:=mem_map.mp ha;exact hn (any_eq_true.mpr ⟨q,hq,decide_eq_true e⟩)
theorem Yra{a b:Key}(h:kV a=kV b):a=b:=by
 cases a <;> cases b <;> cases h <;> rfl
def QGa:V->Bool | .int _=>true | _=>false
def QHa:V->Bool | .str _=>true | _=>false
theorem Qib{l:List V}(h:∀ v∈l,Zo v):(l.filter QGa++l.filter QHa).Perm l:=by
 have e:l.filter QHa=l.filter (fun v=>!QGa v):=filter_congr fun v hv=>by
  have:=h v hv;cases v <;> first | rfl | exact this.elim
 rw[e];exact filter_append_perm _ _
theorem Xqa{K:W.Frag}:W.kitOne K (.type "int") (.type "int")=some true:=by rfl
theorem Xra{K:W.Frag}:W.kitOne K (.type "str") (.type "int")=some false:=by rfl
theorem ZOb{K:W.Frag}{Q:VK}(q:Q (.bl (QGa (kV k))) H):Zmb K [kV k,.ty "int"] H Q:=by
 cases k with
 | inl n=>exact YW (.int n) Xqa q
 | inr z=>exact YW (.str z) Xra q
theorem ZPb{K:W.Frag}{Q:VK}(q:Q (.bl (QHa (kV k))) H):Zmb K [kV k,.ty "str"] H Q:=by
 cases k with
 | inl n=>exact YW (.int n) Xa q
 | inr z=>exact YW (.str z) Xb q
theorem ZTa{H2:Hp}{d:Addr}{x y:HO}(n:H1 d=some y)(s2:Qk (upd H1 d x) H2):Qk H1 (upd H2 d y):=fun b o hb=>by
 by_cases z:b=d
 ·subst z;rw[n]at hb;rw[Qa,hb]
 ·rw[Qd z];exact s2 b o (by rw[Qd z];exact hb)
theorem X4b{ys:List V}(hk:∀ v∈ys,Zo v)(ho:(∀ v∈ys,∃ n,v=.int n)\/∀ v∈ys,∃ z,v=.str z)(nd:ys.Nodup)(h:ys.Pairwise fun a b=>ltP b a=false):ys.Pairwise fun a b=>Pl.ltV a b=true:=by
 refine List.Pairwise.imp_of_mem (fun {a b} ha hb hab=>?_) (h.and nd)
 obtain⟨h1,h2⟩:=hab;have e:Pl.ltV b a=false:=by
  rcases ho with ho | ho
  ·obtain⟨x,rfl⟩:=ho a ha
   obtain⟨y,rfl⟩:=ho b hb;rw[Pl.QNb];exact h1
  ·obtain⟨x,rfl⟩:=ho a ha
   obtain⟨y,rfl⟩:=ho b hb;rw[Pl.QOb];exact h1
 cases e2:Pl.ltV a b with
 | true=>rfl
 | false=>exact(h2 (Pl.tri (JJa (hk a ha)) (JJa (hk b hb)) e2 e)).elim
structure Qjb(H:Hp)(kvs:List (Key×V))(ks xs:List V):Prop where
 len:xs.length=ks.length
 at_:∀ (i:Nat) x,xs[i]?=some x->∃ a k v,x=.ref a/\ks[i]?=some (kV k)/\H a=some (.tup [kV k,v])/\(k,v)∈kvs
 up:ks.Pairwise fun a b=>Pl.ltV a b=true
 perm:ks.Perm (kvs.map fun p=>kV p.1)
theorem Ynb{w':V}(h:(k,w')∈kvs):∃ w,Zc kvs k=some w/\(k,w)∈kvs:=by
 unfold Zc;cases e:kvs.find? fun kv=>decide (kv.1=k) with
 | none =>
  have:=find?_eq_none.mp e _ h
  simp at this
 | some p =>
  have h1:=find?_some e
  have h2:=mem_of_find?_eq_some e
  have h1:p.1=k:=by simpa using h1
  exact⟨p.2,rfl,by rw[<- h1];exact h2⟩
inductive Zj(K:W.Frag)(vs:List V)(H:Hp)(Q:VK)(E:XK):Prop
 | mk:∀ d kvs,vs=[.ref d]->H d=some (.dK kvs)->kvs.length<=400->(∀ p∈kvs,Zo (kV p.1))->(kvs.map Prod.fst).Nodup->(∀ r H' xs ks,Qk H H'->H r=none->H' r=some (.lst xs)->Qjb H' kvs ks xs->Q (.ref r) H')->Zj K vs H Q E
seal PE PT PW PA PS PSs PI PG Q0 PGs PO in
theorem Jia(Z:Zs mg)(T:Tx K mg CT cs ob)(F:Fun K "_law_risen" "_law_risen" Zm f fd):QD P w K mg base CX0 1 f fd ["_law_known"] (Zj K):=by
 refine F.ok J1 (fun vs H Q E h=>?_) (fun cdv A outer s H vs Q E hr h=>?_)
 ·walk_at "n"
 obtain⟨d,kvs,rfl,g1,l1,k1,nd1,q⟩:=h;refine⟨_,(@Qc _ _ _ _ _ (Qm (i:=1) J1.nd rfl (Or.inl rfl) (Q5 X5 rfl (Z.sorted) Jya (Qi (QSb (Jc ["_law_known","_law_numbers","_law_texts"] rfl (QNa (N:=["_law_known","_law_numbers","_law_texts"]) (dsc:=Qh Zm) rfl rfl (by decide +kernel)) (QRb (pv 0)) (fun _ _ _ _ _=>(QGb (XA (Q5 (r:=Zmb K) JO rfl (Z.isinstance) Z4 (Qi (pv 0) (Qi (Q0a rfl (Z.int) Qwc (v:=.ty "int") rfl) Qe))) (fun _=>rfl)))) (fun _ _ _ _ _=>(pv 0)))) Qe)))
  (@Qc _ _ _ _ _ (Qm (i:=2) J1.nd rfl (Or.inl rfl) (Q5 X5 rfl (Z.sorted) Jya (Qi (QSb (Jc ["_law_known","_law_numbers","_law_texts"] rfl (QNa (N:=["_law_known","_law_numbers","_law_texts"]) (dsc:=Qh Zm) rfl rfl (by decide +kernel)) (QRb (pv 0)) (fun _ _ _ _ _=>(QGb (XA (Q5 (r:=Zmb K) JO rfl (Z.isinstance) Z4 (Qi (pv 0) (Qi (Q0a rfl (Z.str) JWa (v:=.ty "str") rfl) Qe))) (fun _=>rfl)))) (fun _ _ _ _ _=>(pv 0)))) Qe)))
  (Qf (Qp (Jc ["_law_known","_law_numbers","_law_texts"] rfl (QNa (N:=["_law_known","_law_numbers","_law_texts"]) (dsc:=Qh Zm) rfl rfl (by decide +kernel)) (Zw (Qj Jdb (pv 1) (pv 2))) (fun _ _ _ _ _=>Xi) (fun _ _ _ _ _=>(ZI (Qi (pv 0) (Qi (QEb hr.u1 (pv 1) (pv 0) (fun _ _=>rfl)) Qe))))))))),?_⟩
 refine Ql (σ:=[some (.ref d),none,none]) rfl ?_
 walk_at "rd";have kl:∀ v∈kvs.map fun q=>kV q.1,Zo v:=fun v hv=>by
  obtain⟨r,hr,rfl⟩:=mem_map.mp hv;exact k1 r hr
 have ndl:(kvs.map fun q=>kV q.1).Nodup:=by
  have:=List.Pairwise.map (S:=(·≠·)) kV (fun a b h e=>h (Yra e)) nd1
  rw[map_map]at this;exact this
 refine⟨kvs,g1,fun ob nf=>Y3a QGa (Y8 (by omega)) Qa (fun k v H3 R hm s3 hR=>?_) fun D H2 hD s2 hy=>?_⟩
 ·walk_at "rd"
  exact ZOb ⟨_,rfl,hR _ (Qk.refl _)⟩
 have dD:D≠d:=fun z=>by rw[z,Qa]at hD;cases hD
 have lf:∀ p:V->Bool,((kvs.map fun q=>kV q.1).filter p).length<=400:=fun p=>Vj (length_filter_le _ _) (by rw[Vr];omega)
 have kf:∀ p:V->Bool,∀ v∈(kvs.map fun q=>kV q.1).filter p,Zo v/\p v=true:=fun p v hv=>by
  obtain⟨h1,h2⟩:=mem_filter.mp hv;exact⟨kl v h1,h2⟩
 have i1:∀ v∈(kvs.map fun q=>kV q.1).filter QGa,∃ n,v=.int n:=fun v hv=>by
  have:=(kf _ v hv).2;cases v <;> first | exact⟨_,rfl⟩ | cases this
 have i2:∀ v∈(kvs.map fun q=>kV q.1).filter QHa,∃ n,v=.str n:=fun v hv=>by
  have:=(kf _ v hv).2;cases v <;> first | exact⟨_,rfl⟩ | cases this
 have t2:Qk H (upd H2 d (.dK kvs)):=ZTa g1 s2;refine⟨d,nf,ob,kvs,s2 _ _ Qa,D,_,ltP,rfl,SqL.of (by rw[Qd dD];exact hy),by have:=lf QGa;omega,JLb i1,fun D2 H3 ys s3 hD2 hy2 pm so=>?_⟩
 have g3:H3 d=some (.dK kvs):=s3 _ _ Qa;have dD2:D2≠d:=fun z=>by rw[z,g3]at hy2;cases hy2
 refine⟨kvs,g3,fun ob2 nf2=>Y3a QHa (Y8 (by omega)) Qa (fun k v H3 R hm s3 hR=>?_) fun E1 H4 hE s4 hy4=>?_⟩
 ·walk_at "rd"
  exact ZPb ⟨_,rfl,hR _ (Qk.refl _)⟩
 have dE:E1≠d:=fun z=>by rw[z,Qa]at hE;cases hE
 have t4:Qk H (upd H4 d (.dK kvs)):=(t2.trans s3).trans (ZTa g3 s4);refine⟨d,nf2,ob2,kvs,s4 _ _ Qa,E1,_,ltP,rfl,SqL.of (by rw[Qd dE];exact hy4),by have:=lf QHa;omega,JMb i2,fun D3 H5 zs s5 hD3 hy5 pm2 so2=>?_⟩
 have l2:ys.length<=kvs.length:=by rw[pm.length_eq];exact Vj (length_filter_le _ _) (by rw[Vr];exact Ve _)
 have l3:zs.length<=kvs.length:=by rw[pm2.length_eq];exact Vj (length_filter_le _ _) (by rw[Vr];exact Ve _)
 have g5:H5 d=some (.dK kvs):=s5 _ _ Qa;have t5:=t4.trans s5;refine⟨D2,rfl,D3,rfl,ys,s5 _ _ (by rw[Qd dD2];exact s4 _ _ (by rw[Qd dD2];exact hy2)),zs,hy5,Y8 (by omega),fun p hp=>?_⟩
 have ks_perm:(ys++zs).Perm (kvs.map fun p=>kV p.1):=(pm.append pm2).trans (Qib kl)
 have up:(ys++zs).Pairwise fun a b=>Pl.ltV a b=true:=by
  rw[pairwise_append];refine⟨X4b (fun v hv=>(kf _ v (pm.mem_iff.mp hv)).1) (.inl fun v hv=>i1 v (pm.mem_iff.mp hv)) (pm.nodup_iff.mpr (ndl.filter _)) so,X4b (fun v hv=>(kf _ v (pm2.mem_iff.mp hv)).1) (.inr fun v hv=>i2 v (pm2.mem_iff.mp hv)) (pm2.nodup_iff.mpr (ndl.filter _)) so2,fun a ha b hb=>?_⟩
  obtain⟨x,rfl⟩:=i1 a (pm.mem_iff.mp ha);obtain⟨y,rfl⟩:=i2 b (pm2.mem_iff.mp hb);exact Pl.Jyb _ _
 have lk:(ys++zs).length<=400:=by rw[ks_perm.length_eq,Vr];exact l1
 generalize ys++zs=ks at ks_perm up lk ⊢;have s6:Qk H5 (upd H5 p (.lst ks)):=Qg hp _;have g6:upd H5 p (.lst ks) p=some (.lst ks):=Qa;have np:H p=none:=by
  cases e:H p with
  | none=>rfl
  | some o=>rw[t5 _ _ e]at hp;cases hp
 generalize upd H5 p (.lst ks)=H6 at s6 g6 ⊢;refine⟨⟨_,SqL.of g6⟩,Jza ks (fun H' i v=>∃ a k w,v=.ref a/\ks[i]?=some (kV k)/\H' a=some (.tup [kV k,w])/\(k,w)∈kvs) (fun H H' i v st ⟨a,k,w,e1,e2,e3,e4⟩=>⟨a,k,w,e1,e2,st _ _ e3,e4⟩) (SqL.of g6) (Y8 (by omega)) (fun i x H7 R hx s7 hR=>?_) fun r H7 xs hr0 s7 hr7 le pe=>?_⟩
 ·obtain⟨⟨k,w'⟩,hm,ek⟩:=mem_map.mp (ks_perm.mem_iff.mp (Vm hx))
  obtain⟨w,hw,hmw⟩:=Ynb hm;subst ek;walk_at "rd";exact⟨w,hw ▸ Z3a.k (k:=k) ((s6.trans s7) _ _ g5),JX,fun q1 hq1=>hR _ _ ⟨q1,k,w,rfl,hx,Qa,hmw⟩ (Qg hq1 _)⟩
 ·refine q r H7 xs ks (t5.trans (s6.trans s7)) ?_ hr7 ⟨le,pe,up,ks_perm⟩
  cases e:H r with
  | none=>rfl
  | some o=>rw[(t5.trans s6) _ _ e]at hr0;cases hr0
theorem Zv{d:Addr}{o:HO}(h:H d=some (.dK kvs)):Q1 H (upd H d o):=fun b xs hb=>by
 rw[Qd (ZA hb h (by intro z;cases z))];exact hb
theorem Yob{s:Int}(hi : -(10 ^ 21) < s/\s < 10 ^ 21/\i < 1000):Zo (.int (s+(0+(i:Int)) * (1+c % 5))):=by
 have h0:0<=(0+(i:Int)) * (1+c % 5):=Int.mul_nonneg (by omega) (by omega)
 have h1:(0+(i:Int)) * (1+c % 5)<=1000 * 5:=Int.mul_le_mul (by omega) (by omega) (by omega) (by decide)
 show _/\_
 omega
structure DkD(H:Hp)(kvs:List (Key×V))(es:List Dt):Prop where
 row:∀ d∈es,QFa d
 up:UpR ltK es
 nd:(kvs.map Prod.fst).Nodup
 to:∀ k w,(k,w)∈kvs->∃ c,TD H 5 (.t c) w/\Dt.t [.v (kV k),.t c]∈es
 of:∀ d∈es,∃ k w c,(k,w)∈kvs/\d=.t [.v (kV k),.t c]/\TD H 5 (.t c) w
theorem DkD.sameT(h:DkD H kvs es)(s:Q1 H H'):DkD H' kvs es :=
 ⟨h.row,h.up,h.nd,fun k w hm=>let ⟨c,t,m⟩:=h.to k w hm;⟨c,TD.sameT s 5 t,m⟩,fun d hd=>let ⟨k,w,c,a,b,t⟩:=h.of d hd;⟨k,w,c,a,b,TD.sameT s 5 t⟩⟩
theorem DkD.key(h:DkD H kvs es){k:Key}{w:V}(hm:(k,w)∈kvs):Zo (kV k):=by
 obtain⟨c,_,m⟩:=h.to k w hm;exact(h.row _ m).ent.key
theorem Q1b(nd:(kvs.map Prod.fst).Nodup){k:Key}{w:V}(h:(k,w)∈kvs):Zc kvs k=some w:=by
 have:=Yc Prod.fst nd h;unfold Zc;rw[this];rfl
theorem Ysa{w:V}(h:Zc kvs k=some w):(k,w)∈kvs:=by
 unfold Zc at h;rw[Option.map_eq_some_iff]at h;obtain⟨⟨k',w'⟩,h1,h2⟩:=h;have h3:=find?_some h1
 simp only[decide_eq_true_eq]at h3;dsimp only at h2;subst h2 h3;exact mem_of_find?_eq_some h1
theorem Xyb{k:V}{row:Dt}(hrow:∀ d∈es,QFa d)(up:UpR ltK es)(hk:Zo k):∃ es',ZHb ltK k row es es':=by
 induction es with
 | nil=>exact⟨[row],[],[],rfl,.inl rfl,(fun a h=>nomatch h),fun a h=>nomatch h⟩
 | cons x r ih =>
  have ur:=pairwise_cons.mp up
  rcases ltK.tri (hrow x (by simp)).ent.key hk with z | z | z
  ·obtain⟨es',A,C,e,e2,h1,h2⟩:=ih (fun d hd=>hrow d (Vo _ hd)) ur.2
   refine⟨x::es',x::A,C,by rw[e];rfl,?_,fun a ha=>?_,h2⟩
   ·rcases e2 with e2 | ⟨o,e2,ho⟩
    ·exact .inl (by rw[e2];rfl)
    ·exact .inr ⟨o,by rw[e2];rfl,ho⟩
   ·rcases mem_cons.mp ha with y | y
    ·rw[y];exact z
    ·exact h1 a y
  ·exact⟨row::r,[],r,rfl,.inr ⟨x,rfl,z⟩,(fun a h=>nomatch h),fun c hc=>by rw[<- z];exact ur.1 c hc⟩
  ·refine⟨row::x::r,[],x::r,rfl,.inl rfl,(fun a h=>nomatch h),fun c hc=>?_⟩
   rcases mem_cons.mp hc with y | y
   ·rw[y];exact z
   ·exact ltK.tr z (ur.1 c y)
theorem DkD.put{w:V}{c:List Dt}(h:DkD H kvs es)(hk:Zo (kV k))(t:TD H 5 (.t c) w)(p:ZHb ltK (kV k) (.t [.v (kV k),.t c]) es es'):DkD H (Zz kvs k w) es':=by
 have mem:∀ k' w',(k',w')∈Zz kvs k w↔(k'=k/\w'=w)\/(k'≠k/\(k',w')∈kvs):=fun k' w'=>by
  unfold Zz
  by_cases e:(kvs.any fun x=>decide (x.1=k))=true
  ·rw[if_pos e,mem_map]
   constructor
   ·rintro⟨⟨k2,w2⟩,hm,e2⟩
    dsimp only at e2
    split at e2
    ·rename_i z;injection e2 with a b;exact .inl ⟨by rw[<- a];exact z,b.symm⟩
    ·rename_i z;injection e2 with a b;subst a b;exact .inr ⟨z,hm⟩
   ·rintro(⟨rfl,rfl⟩ | ⟨hne,hm⟩)
    ·obtain⟨⟨k2,w2⟩,hm2,e2⟩:=any_eq_true.mp e
     have e2:k2=k':=by simpa using e2
     exact⟨(k2,w2),hm2,by dsimp only;rw[if_pos e2,e2]⟩
    ·exact⟨(k',w'),hm,by dsimp only;rw[if_neg hne]⟩
  ·rw[if_neg e,Vl,mem_singleton]
   constructor
   ·rintro(hm | e2)
    ·refine .inr ⟨fun z=>e ?_,hm⟩
     exact any_eq_true.mpr ⟨(k',w'),hm,by simpa using z⟩
    ·injection e2 with a b;exact .inl ⟨a,b⟩
   ·rintro(⟨rfl,rfl⟩ | ⟨_,hm⟩)
    ·exact .inr rfl
    ·exact .inl hm
 refine⟨fun d hd=>?_,p.up h.up rfl ltK.tr,Qhb h.nd,fun k' w' hm=>?_,fun d hd=>?_⟩
 ·rcases(p.mem ltK.irr d).mp hd with z | z
  ·rw[z];exact⟨_,c,rfl,hk⟩
  ·exact h.row d z.1
 ·rcases(mem k' w').mp hm with ⟨rfl,rfl⟩ | ⟨hne,hm⟩
  ·exact⟨c,t,(p.mem ltK.irr _).mpr (.inl rfl)⟩
  ·obtain⟨c',t',m'⟩:=h.to k' w' hm
   exact⟨c',t',(p.mem ltK.irr _).mpr (.inr ⟨m',fun z=>hne (Yra z)⟩)⟩
 ·rcases(p.mem ltK.irr d).mp hd with z | ⟨z,hne⟩
  ·exact⟨k,w,c,(mem k w).mpr (.inl ⟨rfl,rfl⟩),z,t⟩
  ·obtain⟨k',w',c',hm,rfl,t'⟩:=h.of d z
   exact⟨k',w',c',(mem k' w').mpr (.inr ⟨fun y=>hne (by rw[y];rfl),hm⟩),rfl,t'⟩
theorem DkD.drop(h:DkD H kvs es)(p:J1b (kV k) es es'):DkD H (Xs kvs k) es':=by
 have mem:∀ x,x∈Xs kvs k↔x∈kvs/\x.1≠k:=fun x=>by
  unfold Xs;rw[mem_filter];simp
 refine⟨fun d hd=>h.row d ((p.mem h.up ltK.irr d).mp hd).1,p.up h.up,?_,fun k' w' hm=>?_,fun d hd=>?_⟩
 ·unfold Xs
  exact(filter_sublist.map _).nodup h.nd
 ·obtain⟨h1,h2⟩:=(mem _).mp hm
  obtain⟨c',t',m'⟩:=h.to k' w' h1;exact⟨c',t',(p.mem h.up ltK.irr _).mpr ⟨m',fun z=>h2 (Yra z)⟩⟩
 ·obtain⟨h1,hne⟩:=(p.mem h.up ltK.irr d).mp hd
  obtain⟨k',w',c',hm,rfl,t'⟩:=h.of d h1;exact⟨k',w',c',(mem _).mpr ⟨hm,fun y=>hne (by rw[<- y];rfl)⟩,rfl,t'⟩
theorem Qjb.dk{ks:List V}(h:Qjb H kvs ks xs)(nd:(kvs.map Prod.fst).Nodup)(hk:∀ p∈kvs,Zo (kV p.1))(hc:∀ p∈kvs,∃ c,TD H 5 (.t c) p.2):∃ es,DkD H kvs es/\Paired (fun d v=>TD H 6 d v) es xs:=by
 obtain⟨es,re,pd⟩:=TDs.of (H:=H) (n:=6) (Pd:=fun d=>∃ k w c,(k,w)∈kvs/\d=Dt.t [.v (kV k),.t c]/\TD H 5 (.t c) w) (xs:=xs) fun x hx=>by
  obtain⟨i,hi⟩:=mem_iff_getElem?.mp hx;obtain⟨a,k,w,rfl,_,ha,hm⟩:=h.at_ i x hi;obtain⟨c,t⟩:=hc _ hm;exact⟨_,TD.pair ha (.ofV (Yhb (hk _ hm))) t,k,w,c,hm,rfl,t⟩
 have le:=Paired.length re;have keyAt:∀ (i:Nat) d,es[i]?=some d->ks[i]?=some (QM d):=fun i d hd=>by
  have hi:=(Vc.mp hd).1
  have hx:xs[i]?=some (xs[i]'(by omega)):=Vb _
  obtain⟨a,k,w,ex,hks,ha,hm⟩:=h.at_ i _ hx;have tx:=Qn re hd hx;obtain⟨k',w',c,_,rfl,_⟩:=pd d (Vm hd);obtain⟨a',u1,u2,ea,ha',x1,_⟩:=TD.pair_of (n:=5) tx;rw[ex]at ea;cases ea;rw[ha]at ha';cases ha';obtain⟨_,e⟩:=x1.flat;rw[hks,e];rfl
 refine⟨es,⟨fun d hd=>?_,?_,nd,fun k w hm=>?_,pd⟩,re⟩
 ·obtain⟨k,w,c,hm,rfl,_⟩:=pd d hd
  exact⟨kV k,c,rfl,hk _ hm⟩
 ·refine pairwise_iff_getElem.mpr fun i j hi hj hij=>?_
  obtain⟨li,e1⟩:=Vc.mp (keyAt i _ (Vb hi))
  obtain⟨lj,e2⟩:=Vc.mp (keyAt j _ (Vb hj))
  have:=pairwise_iff_getElem.mp h.up i j li lj hij;rw[e1,e2]at this;have kk:∀ d∈es,Zo (QM d):=fun d hd=>by obtain⟨k,w,c,hm,rfl,_⟩:=pd d hd;exact hk _ hm
  exact⟨kk _ (getElem_mem hi),kk _ (getElem_mem hj),this⟩
 ·have:kV k∈ks:=h.perm.mem_iff.mpr (mem_map.mpr ⟨(k,w),hm,rfl⟩)
  obtain⟨i,hi,e⟩:=mem_iff_getElem.mp this;have lx:=h.len;have hd:es[i]?=some (es[i]'(by omega)):=Vb _
  have hk':=keyAt i _ hd;rw[Vb hi,e]at hk'
  obtain⟨k',w',c,hm',ed,t⟩:=pd _ (Vm hd);rw[ed]at hk';injection hk' with hk'
  have ek:k=k':=Yra hk';subst ek;have ew:w=w':=by have a:=Q1b nd hm;rw[Q1b nd hm']at a;injection a with a;exact a.symm
  subst ew;exact⟨c,t,by rw[<- ed];exact Vm hd⟩
def Yd(H:Hp)(kvs:List (Key×V)):Prop:=∃ es,DkD H kvs es
theorem Yd.nil:Yd H []:=⟨[],fun d h=>(nomatch h),.nil,.nil,fun k w h=>(nomatch h),fun d h=>(nomatch h)⟩
theorem Ypb{r:Addr}(fz:FzH H 4 (.ref r)):∃ cd,TD H 4 (.t cd) (.ref r):=by
 obtain⟨d,td⟩:=fz.td;cases d with
 | v z=>obtain⟨hz,e⟩:=td.flat;rw[<- e]at hz;cases hz
 | l ds=>cases td.h
 | t cd=>exact⟨cd,td⟩
theorem Yd.put{r:Addr}(h:Yd H kvs)(s:Q1 H H')(hk:Zo (kV k))(hv:FzH H' 4 (.ref r)):Yd H' (Zz kvs k (.ref r)):=by
 obtain⟨es,dk⟩:=h;have dk':=dk.sameT s;obtain⟨cd,tc⟩:=Ypb hv;obtain⟨es',pr⟩:=Xyb (row:=.t [.v (kV k),.t cd]) dk'.row dk'.up hk;exact⟨es',DkD.put dk' hk (TD.mono 4 (by decide) tc) pr⟩
inductive YK(K:W.Frag)(vs:List V)(H:Hp)(Q:VK)(E:XK):Prop
 | mk:∀ (a:Addr) (ns:List Int),vs=[.ref a]->SqL K H a (ns.map V.int)->ns.length<=63->(∀ r H' xs es,Qk H H'->H r=none->H' r=some (.lst xs)->Paired (fun d v=>TD H' 6 d v) es xs->(∀ d∈es,QFa d)->UpR ltK es->es.length<=91->Q (.ref r) H')->YK K vs H Q E
seal PE PT PW PA PS PSs PI PG Q0 PGs PO in
theorem Yta(Z:Zs mg)(T:Tx K mg CT cs ob)(YL:Cal P w K mg base 1 "_law_risen" ["_law_known"] (Zj K))(ZG:Cal P w K mg base 1 "_law_cell" ["_law_script","_law_k"] (Jv K))(ZR:Cal P w K mg base 1 "_law_cells" ["_law_cell_here"] (Z9 K))(XS:Cal P w K mg base 2 "_law_key" ["_law_cell_here"] (JT K))(F:Fun K "_law_rows" "_law_rows" Y7 f fd):QD P w K mg base CX0 3 f fd ["_law_script"] (YK K):=by
 refine F.ok ZM (fun vs H Q E h=>?_) (fun cdv A outer s H vs Q E hr h=>?_)
 ·walk_at "n"
 obtain⟨a,ns,rfl,hS,h63,q⟩:=h;refine⟨_,(@Qc _ _ _ _ _ (Qm (i:=1) ZM.nd rfl (Or.inl rfl) Zqa)
  (@Qc _ _ _ _ _ (QR (Qs ZB (Qj Qz (Qu ZG (k:=2) hr (by decide) rfl (Qi (pv 0) (Qi Qb Qe))) Qb) Qb (Qt _)) (@Qc _ _ _ _ _ (Qm (i:=2) ZM.nd rfl (Or.inl rfl) (Qj JU (Qj Qz (Qu ZG (k:=2) hr (by decide) rfl (Qi (pv 0) (Qi Qb Qe))) (Qj Zha Qb Qb)) (Qj Zha Qb Qb)))
  (Qf (ZX PassesOwn.never rfl (Jpa rfl (Z.range) (Qi (Qj Qz (Qu ZG (k:=2) hr (by decide) rfl (Qi (pv 0) (Qi Qb Qe))) Qb) Qe)) (Za (i:=3) ZM.nd rfl (Or.inl rfl)) (Qf (XY hr.u1 (pv 1) (Qj ZY (pv 2) (Qj ZK (pv 3) (Qj ZY Qb (Qj Qz (Qu ZG (k:=2) hr (by decide) rfl (Qi (pv 0) (Qi Qb Qe))) Qb)))) (Qu ZR (k:=2) hr (by decide) rfl (Qi (Qj ZY (pv 2) (Qj ZK (pv 3) Qb)) Qe)) rfl))))) (Qf (ZX PassesOwn.never rfl (Zw (XW Q2a (pv 0) (Xg Qb) (Xg Qb))) (Za (i:=4) ZM.nd rfl (Or.inl rfl)) (Qf (XY hr.u1 (pv 1) (Qu XS (k:=2) hr (by decide) rfl (Qi (pv 4) Qe)) (Qu ZR (k:=2) hr (by decide) rfl (Qi (Qj QE (pv 4) Qb) Qe)) rfl)))))
  (Qf (Qp (Qu YL (k:=2) hr (by decide) rfl (Qi (pv 1) Qe)))))),?_⟩
 refine Ql (σ:=[some (.ref a),none,none,none,none]) rfl ?_
 walk_at "rd";intro d hd0;have s0:Qk H (upd H d (.dK [])):=Qg hd0 _;have g0:upd H d (.dK []) d=some (.dK []):=Qa;generalize upd H d (.dK [])=H0 at s0 g0 ⊢;have fin:∀ (H1:Hp) (kvs:List (Key×V)),Qk H H1->H1 d=some (.dK kvs)->kvs.length<=91->Yd H1 kvs->Zj K [.ref d] H1 Q E0:=fun H1 kvs s1 g1 l1 ⟨es,dk⟩=>⟨d,kvs,rfl,g1,by omega,fun p hp=>dk.key (w:=p.2) hp,dk.nd,fun r H' xs ks s2 hr0 hr ra=>?_⟩
 ·refine⟨a,ns,0,rfl,s0.seq hS,h63,fun c0=>⟨_,rfl,?_⟩⟩
  refine Jz (fun _=>?_) fun _=>?_
  ·refine⟨a,ns,1,rfl,s0.seq hS,h63,fun c1=>⟨by walk_at "side",_,rfl,by decide,by walk_at "side",?_⟩⟩
   refine⟨a,ns,2,rfl,s0.seq hS,h63,fun c2=>⟨_,rfl,by omega,by omega,?_⟩⟩
   refine Qma (fun i σ' H'=>∃ (kvs:List (Key×V)) (x3:Option V),σ'=[some (.ref a),some (.ref d),some (.int (c1 % 10 ^ 20 - 10 ^ 10)),x3,none]/\Qk H H'/\H' d=some (.dK kvs)/\kvs.length<=i/\Yd H' kvs) ⟨[],_,rfl,s0,g0,Vk _,Yd.nil⟩ ?_ ?_
   ·rintro i σ' H' hi ⟨kvs,x3,rfl,s1,g1,l1,k1⟩
    walk_at "rd";refine⟨by walk_at "side",_,rfl,fun r H2 s2 fz=>?_⟩
    have g2:=s2 _ _ g1;refine⟨a,ns,1,rfl,s2.seq (s1.seq hS),h63,fun c3=>⟨_,rfl,by walk_at "side",_,JUa.k (k:=.inl _) g2 (QN (by omega)),Q6 (s1.trans s2) hd0,_,Qa,Vj (QZ _ _ _) (by omega),?_⟩⟩
    exact k1.put (s2.t.trans (Zv g2)) (Yob (by omega)) (fz.sameT (Zv g2))
   ·rintro σ' H1 ⟨kvs,x3,rfl,s1,g1,l1,k1⟩
    walk_at "rd";exact fin H1 kvs s1 g1 (by omega) k1
  ·refine⟨_,s0.seq hS,fun p hp=>?_⟩
   obtain⟨ms,em,lm,hm⟩:=YTa V.int ns (some 3) (some 63);rw[em];have s00:Qk H (upd H0 p (.lst (ms.map V.int))):=s0.trans (Qg hp _);have g00:upd H0 p (.lst (ms.map V.int)) d=some (.dK []):=Qg hp _ _ _ g0;have gp:upd H0 p (.lst (ms.map V.int)) p=some (.lst (ms.map V.int)):=Qa;have dp:p≠d:=fun z=>by rw[z,g0]at hp;cases hp
   generalize upd H0 p (.lst (ms.map V.int))=H00 at s00 g00 gp ⊢;refine⟨⟨_,SqL.of gp⟩,?_⟩
   refine Jd (ms.map V.int) (fun i σ' H'=>∃ (kvs:List (Key×V)) (x4:Option V),σ'=[some (.ref a),some (.ref d),none,none,x4]/\Qk H H'/\H' p=some (.lst (ms.map V.int))/\H' d=some (.dK kvs)/\kvs.length<=i/\Yd H' kvs) ⟨[],_,rfl,s00,gp,g00,Vk _,Yd.nil⟩ (fun i σ' H' _ ⟨_,_,_,_,h,_⟩=>SqL.of h) ?_ ?_
   ·rintro i x σ' H' hx ⟨kvs,x4,rfl,s1,gp1,g1,l1,k1⟩
    have hi:i < 63:=by
     have:=(Vc.mp hx).1
     rw[Vr]at this
     omega
    rw[getElem?_map]at hx
    obtain⟨n,_,rfl⟩:=Option.map_eq_some_iff.mp hx;walk_at "rd";refine⟨by walk_at "side",_,rfl,fun r H2 s2 fz=>⟨n,rfl,fun y hy=>?_⟩⟩
    have g2:=s2 _ _ g1;obtain⟨k,rfl⟩:=XB hy;refine⟨_,JUa.k g2 (QN (by omega)),Q6 (s1.trans s2) hd0,by rw[Qd dp];exact s2 _ _ gp1,_,Qa,Vj (QZ _ _ _) (by omega),?_⟩
    exact k1.put (s2.t.trans (Zv g2)) hy (fz.sameT (Zv g2))
   ·rintro σ' H1 ⟨kvs,x4,rfl,s1,gp1,g1,l1,k1⟩
    rw[Vr]at l1;walk_at "rd";exact fin H1 kvs s1 g1 (by omega) k1
 ·obtain⟨es6,dk6,re6⟩:=ra.dk dk.nd (fun q hq=>dk.key (w:=q.2) hq) fun q hq=>by obtain⟨c,t,_⟩:=dk.to q.1 q.2 hq;exact⟨c,t.same s2⟩
  have le6:=Paired.length re6;have lks:ks.length=kvs.length:=by rw[ra.perm.length_eq,Vr]
  have lxs:=ra.len;refine q r H' xs es6 (s1.trans s2) ?_ hr re6 dk6.row dk6.up (by omega)
  cases e:H r with
  | none=>rfl
  | some o=>rw[s1 _ _ e]at hr0;cases hr0
theorem Yqb{k:V}(h:Zo k):∃ kk:Key,k=kV kk:=by
 cases k with
 | int n=>exact⟨.inl n,rfl⟩
 | str z=>exact⟨.inr z,rfl⟩
 | _=>exact h.elim
theorem Yrb(h:k∉kvs.map Prod.fst):Zc kvs k=none:=by
 cases e:Zc kvs k with
 | none=>rfl
 | some w=>exact(h (mem_map.mpr ⟨_,Ysa e,rfl⟩)).elim
theorem Qkb(nd:(kvs.map Prod.fst).Nodup):JW [] kvs=kvs:=by
 suffices h:∀ (r p:List (Key×V)),((p++r).map Prod.fst).Nodup->JW p r=p++r by exact h kvs [] (by simpa using nd)
 intro r
 induction r with
 | nil=>intro p _;simp[JW]
 | cons x r ih =>
  intro p nd;have e:p++x::r=(p++[x])++r:=by simp
  have hx:x.1∉p.map Prod.fst:=by
   rw[map_append,map_cons]at nd;intro h;exact(nodup_append.mp nd).2.2 x.1 h x.1 (by simp) rfl
  show JW (Zz p x.1 x.2) r=_;rw[YLa _ (Yrb hx),e];rw[e]at nd;exact ih _ nd
theorem Xsa:∀ {es:List Dt} {xs:List V},Paired (fun d v=>TD H 6 d v) es xs->(∀ d∈es,QFa d)->∃ kvs:List (Key×V),Paired (fun(kv:Key×V) y=>∃ t,y=.ref t/\H t=some (.tup [kV kv.1,kv.2])) kvs xs/\Paired (fun d (kv:Key×V)=>∃ c,d=.t [.v (kV kv.1),.t c]/\TD H 5 (.t c) kv.2) es kvs
 | _,_,.nil,_=>⟨[],.nil,.nil⟩
 | _,_,.cons (a:=d) (b:=x) r t,h=>by
  obtain⟨kvs,p1,p2⟩:=Xsa t fun d hd=>h d (Vo _ hd)
  obtain⟨k,c,ed,hk⟩:=h d mem_cons_self;rw[ed]at r;obtain⟨b,v1,v2,eb,hb,w1,w2⟩:=TD.pair_of r;obtain⟨_,rfl⟩:=w1.flat;obtain⟨kk,ek⟩:=Yqb hk;subst ek;exact⟨(kk,v2)::kvs,.cons ⟨b,eb,hb⟩ p1,.cons ⟨c,ed,w2⟩ p2⟩
abbrev Ysb(H:Hp)(d:Dt)(kv:Key×V):Prop:=∃ c,d=.t [.v (kV kv.1),.t c]/\TD H 5 (.t c) kv.2
theorem Ytb(p:Paired (Ysb H) es kvs)(up:UpR ltK es):(kvs.map Prod.fst).Nodup:=by
 rw[List.Nodup,pairwise_map];have l:=Paired.length p;refine pairwise_iff_getElem.mpr fun i j hi hj hij e=>?_
 have h:=pairwise_iff_getElem.mp up i j (by omega) (by omega) hij
 obtain⟨c1,e1,_⟩:=Qn p (Vb (by omega)) (Vb hi)
 obtain⟨c2,e2,_⟩:=Qn p (Vb (by omega)) (Vb hj)
 rw[e1,e2,show QM (.t [.v (kV kvs[i].1),.t c1])=kV kvs[i].1 from rfl,show QM (.t [.v (kV kvs[j].1),.t c2])=kV kvs[j].1 from rfl,e]at h
 exact ltK.irr _ h
theorem Xzb(p:Paired (Ysb H) es kvs)(row:∀ d∈es,QFa d)(up:UpR ltK es):DkD H kvs es:=by
 have l:=Paired.length p;have at_:∀ k w,(k,w)∈kvs->∃ c,TD H 5 (.t c) w/\Dt.t [.v (kV k),.t c]∈es:=fun k w hm=>by
  obtain⟨i,hi,ei⟩:=mem_iff_getElem.mp hm;obtain⟨c,e,t⟩:=Qn p (Vb (by omega)) (Vc.mpr ⟨hi,ei⟩)
  exact⟨c,t,by rw[<- e];exact getElem_mem _⟩
 refine⟨row,up,Ytb p up,at_,fun d hd=>?_⟩
 obtain⟨i,hi,ei⟩:=mem_iff_getElem.mp hd;obtain⟨c,e,t⟩:=Qn p (Vc.mpr ⟨hi,ei⟩) (Vb (by omega))
 exact⟨_,_,c,getElem_mem (by omega),e,t⟩
theorem Yua{H0:Hp}{b:Addr}(s:Qk H0 H1)(h:H1 b=none):H0 b=none:=by
 cases e:H0 b with
 | none=>rfl
 | some o=>rw[s _ _ e]at h;cases h
theorem XAb(re:Paired (fun d v=>TD H 6 d v) es xs)(hent:∀ d∈es,Yma d){i:Nat}{x:V}(hx:xs[i]?=some x):∃ d b r,es[i]?=some d/\x=.ref b/\H b=some (.tup (QM d::r))/\Zo (QM d)/\TD H 6 d x:=by
 have hi:=(Vc.mp hx).1
 have le:=Paired.length re;have hd:es[i]?=some (es[i]'(by omega)):=Vb _
 have tx:=Qn re hd hx;obtain⟨k,rr,ed,hk⟩:=hent _ (Vm hd);generalize es[i]'(by omega)=d at hd tx ed
 subst ed;obtain⟨m,b,ws,_,eb,hb,rw_⟩:=id tx.tup;cases rw_ with
 | cons r1 _ =>
  obtain⟨_,rfl⟩:=r1.flat;exact⟨_,b,_,hd,eb,hb,hk,tx⟩
theorem Yd.same(h:Yd H kvs)(s:Q1 H H'):Yd H' kvs:=let ⟨es,dk⟩:=h;⟨es,dk.sameT s⟩
theorem Yd.del{w:V}(h:Yd H kvs)(hv:Zc kvs k=some w):Yd H (Xs kvs k):=by
 obtain⟨es,dk⟩:=h;obtain⟨c,_,hm⟩:=dk.to k w (Ysa hv);obtain⟨A,C,e⟩:=append_of_mem hm;exact⟨A++C,dk.drop ⟨A,_,C,e,rfl,rfl⟩⟩
inductive Jm(K:W.Frag)(vs:List V)(H:Hp)(Q:VK)(E:XK):Prop
 | mk:∀ (r a:Addr) (xs:List V) (es:List Dt) (ns:List Int),vs=[.ref r,.ref a]->H r=some (.lst xs)->Paired (fun d v=>TD H 6 d v) es xs->(∀ d∈es,QFa d)->UpR ltK es->es.length<=91->SqL K H a (ns.map V.int)->ns.length<=63->(∀ r H' xs es,Qk H H'->H r=none->H' r=some (.lst xs)->Paired (fun d v=>TD H' 6 d v) es xs->(∀ d∈es,QFa d)->UpR ltK es->es.length<=220->Q (.ref r) H')->Jm K vs H Q E
seal PE PT PW PA PS PSs PI PG Q0 PGs PO in
theorem QVa(Z:Zs mg)(T:Tx K mg CT cs ob)(YL:Cal P w K mg base 1 "_law_risen" ["_law_known"] (Zj K))(ZG:Cal P w K mg base 1 "_law_cell" ["_law_script","_law_k"] (Jv K))(ZR:Cal P w K mg base 1 "_law_cells" ["_law_cell_here"] (Z9 K))(XS:Cal P w K mg base 2 "_law_key" ["_law_cell_here"] (JT K))(F:Fun K "_law_changed" "_law_changed" JD f fd):QD P w K mg base CX0 3 f fd ["_law_rows_here","_law_script"] (Jm K):=by
 refine F.ok QX (fun vs H Q E h=>?_) (fun cdv A outer s H vs Q E hr h=>?_)
 ·walk_at "n"
 obtain⟨r,a,xs,es,ns,rfl,hr0,re,row,up,le,hS,h63,q⟩:=h;refine⟨_,(@Qc _ _ _ _ _ (Qm (i:=2) QX.nd rfl (Or.inl rfl) (Qj Qz (Qj QE (Qu ZG (k:=2) hr (by decide) rfl (Qi (pv 1) (Qi Qb Qe))) Qb) Qb))
  (@Qc _ _ _ _ _ (Qm (i:=3) QX.nd rfl (Or.inl rfl) (Qj QE (Q5 Zk rfl (Z.len) Qla (Qi (pv 0) Qe)) Qb))
  (@Qc _ _ _ _ _ (QR (Qs ZB (pv 2) Qb (Qt _)) (Qf (Qp (QW Zb rfl (Z.list) Ym (Qi (pv 0) Qe)))) Qw)
  (@Qc _ _ _ _ _ (QR (Qs ZB (pv 2) Qb (Qt _)) (Qf (Qp (XW Q2a (pv 0) Qyb (Xg (pv 3))))) Qw)
  (@Qc _ _ _ _ _ (QR (Qs ZB (pv 2) Qb (Qt _)) (Qf (Qp (XW Q2a (pv 0) (Xg (pv 3)) Qyb))) Qw)
  (@Qc _ _ _ _ _ (Qm (i:=4) QX.nd rfl (Or.inl rfl) (QW (X2a hr.hd) rfl (Z.dict) Xpb (Qi (pv 0) Qe)))
  (@Qc _ _ _ _ _ (ZX PassesOwn.never rfl (Zw (XW Q2a (pv 1) (Xg Qb) (Xg Qb))) (Za (i:=5) QX.nd rfl (Or.inl rfl)) (@Qc _ _ _ _ _ (QR (PW.pt (Xza (Qs ZB (Qj Qz (Qj QE (pv 5) Qb) Qb) Qb (Qt _)) (JOa (Qs Z4b (Q5 Zk rfl (Z.len) Qla (Qi (pv 0) Qe)) Qb (Qt _))))) (@Qc _ _ _ _ _ (Qm (i:=6) QX.nd rfl (Or.inl rfl) (QS QP (QS Yj (pv 0) (Qj Qz (Qj QE (pv 5) Qb) (Q5 Zk rfl (Z.len) Qla (Qi (pv 0) Qe))) (fun _ _=>rfl)) Qb (fun _ _=>rfl)))
  (Qf (QR (Qs ZB (Qj Qz (Qj QE (pv 5) Qb) Qb) Qb (Qt _)) (Qf (Q9 (Jjb (pv 4) (pv 6) Qha ⟨rfl,rfl,rfl,rfl⟩))) (Qf (XY hr.u1 (pv 4) (pv 6) (Qu ZR (k:=2) hr (by decide) rfl (Qi (Qj QE (pv 5) Qb) Qe)) rfl))))) Qw)
  (Qf (QR (Qs ZB (Qj Qz (Qj QE (pv 5) Qb) Qb) Qb (Qt _)) (Qf (XY hr.u1 (pv 4) (Qu XS (k:=2) hr (by decide) rfl (Qi (Qj ZY (Qj QE (pv 5) Qb) (pv 2)) Qe)) (Qu ZR (k:=2) hr (by decide) rfl (Qi (Qj QE (pv 5) Qb) Qe)) rfl)) Qw))))
  (Qf (Qp (Qu YL (k:=2) hr (by decide) rfl (Qi (pv 4) Qe))))))))))),?_⟩
 refine Ql (σ:=[some (.ref r),some (.ref a),none,none,none,none,none]) rfl ?_
 have lx:=Paired.length re;walk_at "rd";have half:((xs.length:Int) / 2)=((xs.length / 2:Nat):Int):=by omega
 refine⟨a,ns,0,rfl,hS,h63,fun c0=>⟨c0,rfl,by unfold Zga;decide,xs,.inl (SqL.of hr0),by unfold Zga;decide,?_⟩⟩
 have c6:=Int.emod_nonneg (c0 / 4) (show(6:Int)≠0 by decide)
 refine Jz (fun _=>⟨xs,.inl (SqL.of hr0),fun l hl=>q l _ xs es (Qg hl _) hl Qa (TDs.sameT re (Qg hl _).t) row up (by omega)⟩) fun n0=>?_
 refine Jz (fun _=>⟨xs,SqL.of hr0,fun l hl=>?_⟩) fun n1=>?_
 ·rw[half,ZVc]
  exact q l _ _ (es.take (xs.length / 2)) (Qg hl _) hl Qa (QPa _ (TDs.sameT re (Qg hl _).t)) (fun d hd=>row d (mem_of_mem_take hd)) (List.Pairwise.sublist (take_sublist _ _) up) (by rw[length_take];omega)
 refine Jz (fun _=>⟨xs,SqL.of hr0,fun l hl=>?_⟩) fun n2=>?_
 ·rw[half,ZWc]
  exact q l _ _ (es.drop (xs.length / 2)) (Qg hl _) hl Qa (QQa _ (TDs.sameT re (Qg hl _).t)) (fun d hd=>row d (mem_of_mem_drop hd)) (List.Pairwise.sublist (drop_sublist _ _) up) (by rw[length_drop];omega)
 have w3:0 < c0 / 4 % 6 - 1:=by
  have e0:c0 / 4 % 6≠0:=fun z=>n0 (by rw[z])
  have e1:c0 / 4 % 6≠1:=fun z=>n1 (by rw[z])
  omega
 obtain⟨kvs0,pk1,pk2⟩:=Xsa re row;have pk2:Paired (Ysb H) es kvs0:=pk2;have lk0:=Paired.length pk2;refine⟨r,xs,kvs0,rfl,hr0,by omega,pk1,fun d hd0=>?_⟩
 rw[Qkb (Ytb pk2 up)];have s0:=Qg hd0 (.dK kvs0);have g0:upd H d (.dK kvs0) d=some (.dK kvs0):=Qa;have dk0:Yd (upd H d (.dK kvs0)) kvs0:=⟨es,(Xzb pk2 row up).sameT s0.t⟩;generalize upd H d (.dK kvs0)=H0 at s0 g0 dk0 ⊢;have fin:∀ (H1:Hp) (kvs:List (Key×V)),Qk H H1->H1 d=some (.dK kvs)->kvs.length<=220->Yd H1 kvs->Zj K [.ref d] H1 Q E0:=fun H1 kvs s1 g1 l1 ⟨es,dk⟩=>⟨d,kvs,rfl,g1,by omega,fun p hp=>dk.key (w:=p.2) hp,dk.nd,fun r H' xs ks s2 hr0 hr ra=>by
  obtain⟨es6,dk6,re6⟩:=ra.dk dk.nd (fun q hq=>dk.key (w:=q.2) hq) fun q hq=>by obtain⟨c,t,_⟩:=dk.to q.1 q.2 hq;exact⟨c,t.same s2⟩
  have le6:=Paired.length re6;have lks:ks.length=kvs.length:=by rw[ra.perm.length_eq,Vr]
  have lxs:=ra.len;exact q r H' xs es6 (s1.trans s2) (Yua s1 hr0) hr re6 dk6.row dk6.up (by omega)⟩
 refine⟨_,s0.seq hS,fun p hp=>?_⟩
 obtain⟨ms,em,lm,hm⟩:=YTa V.int ns (some 3) (some 63);rw[em];have s00:Qk H (upd H0 p (.lst (ms.map V.int))):=s0.trans (Qg hp _);have g00:upd H0 p (.lst (ms.map V.int)) d=some (.dK kvs0):=Qg hp _ _ _ g0;have gp:upd H0 p (.lst (ms.map V.int)) p=some (.lst (ms.map V.int)):=Qa;have dp:p≠d:=fun z=>by rw[z,g0]at hp;cases hp
 have dk00:=dk0.same (Qg hp (.lst (ms.map V.int))).t;generalize upd H0 p (.lst (ms.map V.int))=H00 at s00 g00 gp dk00 ⊢;refine⟨⟨_,SqL.of gp⟩,?_⟩
 refine Jd (ms.map V.int) (fun i σ' H'=>∃ (kvs:List (Key×V)) (x5 x6:Option V),σ'=[some (.ref r),some (.ref a),some (.int (c0 / 4 % 6)),some (.int ((xs.length:Int) / 2)),some (.ref d),x5,x6]/\Qk H H'/\H' p=some (.lst (ms.map V.int))/\H' d=some (.dK kvs)/\kvs.length<=91+2 * i/\Yd H' kvs) ⟨kvs0,_,_,rfl,s00,gp,g00,by omega,dk00⟩ (fun i σ' H' _ ⟨_,_,_,_,_,h,_⟩=>SqL.of h) ?_ ?_
 ·rintro i x σ' H' hx ⟨kvs,x5,x6,rfl,s1,gp1,g1,l1,k1⟩
  have hi:i < 63:=by
   have:=(Vc.mp hx).1
   rw[Vr]at this
   omega
  rw[getElem?_map]at hx
  obtain⟨n,_,rfl⟩:=Option.map_eq_some_iff.mp hx;refine Q7a (σ:=[some (.ref r),some (.ref a),some (.int (c0 / 4 % 6)),some (.int ((xs.length:Int) / 2)),some (.ref d),some (.int n),x6]) fun R hR=>?_
  have two:∀ (kvs:List (Key×V)) (x6:Option V) (H2:Hp),Qk H H2->H2 p=some (.lst (ms.map V.int))->H2 d=some (.dK kvs)->kvs.length<=91+2 * i+1->Yd H2 kvs->R [some (.ref r),some (.ref a),some (.int (c0 / 4 % 6)),some (.int ((xs.length:Int) / 2)),some (.ref d),some (.int n),x6] H2:=by
   intro kvs x6 H2 s2 gp2 g2 l2 k2;refine hR _ _ ?_
   clear hR;walk_at "rd";refine⟨by unfold Zga;decide,Jz (fun _=>⟨by unfold Zga;decide,_,rfl,fun rc H3 s3 fz=>⟨by unfold Zga;decide,_,rfl,fun y hy=>?_⟩⟩) fun _=>⟨kvs,_,_,⟨rfl,rfl⟩,s2,gp2,g2,by omega,k2⟩⟩
   have g3:=s3 _ _ g2;obtain⟨k,rfl⟩:=XB hy;exact⟨_,JUa.k g3 (QN (by omega)),_,_,_,⟨rfl,rfl⟩,Q6 (s2.trans s3) hd0,by rw[Qd dp];exact s3 _ _ gp2,Qa,Vj (QZ _ _ _) (by omega),k2.put (s3.t.trans (Zv g3)) hy (fz.sameT (Zv g3))⟩
  clear hR;walk_at "rd";have nxt:=two kvs x6 H' s1 gp1 g1 (by omega) k1
  refine⟨by unfold Zga;decide,?_⟩
  try refine⟨w3,?_⟩
  refine Jz (fun _=>⟨xs,.inl (SqL.of (s1 _ _ hr0)),Jz (fun hp=>?_) fun _=>nxt⟩) fun _=>nxt
  have h1:=Int.emod_nonneg (n / 15) (show(xs.length:Int)≠0 by omega)
  have h2:=Int.emod_lt_of_pos (n / 15) (show(0:Int) < xs.length by omega)
  have hj:(n / 15 % (xs.length:Int)).toNat < xs.length:=by omega
  have hjx:=Jo (xs:=xs) (j:=(n / 15 % (xs.length:Int)).toNat) (Vb hj)
  rw[show(((n / 15 % (xs.length:Int)).toNat:Nat):Int)=n / 15 % (xs.length:Int) by omega]at hjx
  obtain⟨e,b,ws,_,eb,hb,hkb,_⟩:=XAb re (fun d hd=>(row d hd).ent) (Vb hj)
  rw[eb]at hjx;obtain⟨k2,ek2⟩:=Yqb hkb;rw[ek2]at hb hkb;refine⟨by unfold Zga;decide,xs,.inl (SqL.of (s1 _ _ hr0)),hp,xs,SqL.of (s1 _ _ hr0),_,hjx,b,rfl,_,SqT.of (s1 _ _ hb),_,at0 _ _,by unfold Zga;decide,Jz (fun _=>?_) fun _=>?_⟩
  ·refine⟨.inl ⟨_,.inl g1⟩,kvs,g1,k2,rfl,fun v hv=>?_,fun _=>two kvs _ H' s1 gp1 g1 (by omega) k1⟩
   have ld:=YMa kvs k2;exact two _ _ _ (Q6 s1 hd0) (by rw[Qd dp];exact gp1) Qa (by omega) ((k1.del hv).same (Zv g1))
  ·refine⟨by unfold Zga;decide,_,rfl,fun rc H3 s3 fz=>?_⟩
   have g3:=s3 _ _ g1;exact⟨_,JUa.k (k:=k2) g3 (QN (by omega)),two _ _ _ (Q6 (s1.trans s3) hd0) (by rw[Qd dp];exact s3 _ _ gp1) Qa (Vj (QZ _ _ _) (by omega)) (k1.put (s3.t.trans (Zv g3)) hkb (fz.sameT (Zv g3)))⟩
 ·rintro σ' H1 ⟨kvs,x5,x6,rfl,s1,gp1,g1,l1,k1⟩
  rw[Vr]at l1;walk_at "rd";exact fin H1 kvs s1 g1 (by omega) k1
theorem Yub{K:W.Frag}{CT:Addr}{cs:Nat->Addr}(T:Tx K mg CT cs ob){k1 k2 k:Nat}(Zd:MeV P w K mg base k1 (ob 1) "under" (Q3 K ob))(Q2:MeV P w K mg base k2 (ob 2) "under" (Zt K ob))(h1:k1<=k)(h2:k2<=k)
 {H:Hp} {pg:Addr} {l:Nat} {part:List Dt} {Q:VK} {E:XK} (hP:PgD ob H pg (l:Int) part) (hds:l≠0->∀ d∈part,∃ k n,d=ZV k n) (lp:part.length<=900)
 (q:∀ u H',Qk H H'->H u=none->H' u=some (.lst ((if l=0 then [] else part.map Qta).map V.int))->Q (.ref u) H'):∃ a,V.ref pg=.ref a/\∃ C dx fs,H a=some (.ins C dx fs)/\fs.lookup ("under":Str)=none/\Cls K C/\∃ sp,MeV P w K mg base k C "under" sp/\sp [.ref pg] H Q E:=by
 obtain⟨tw,dx,t,etw,hpa,ht⟩:=id hP
 by_cases h0:l=0
 ·subst h0
  obtain rfl:tw=false:=by rw[etw];rfl
  exact⟨pg,rfl,_,dx,_,hpa,rfl,(T.ob_ 1 (by decide)).cl,_,Zd.mono h1,⟨pg,rfl,fun u H' s hu gu=>q u H' s hu gu⟩⟩
 ·obtain rfl:tw=true:=by rw[etw];exact decide_eq_true (by omega)
  rw[if_neg h0]at q;exact⟨pg,rfl,_,dx,_,hpa,rfl,(T.ob_ 2 (by decide)).cl,_,Q2.mono h2,⟨pg,_,part,rfl,hP,by omega,lp,hds h0,fun u H' s hu gu=>q u H' s hu gu⟩⟩
theorem QI.partLen{p d1 d2:Addr}{part:List Dt}{t:Addr}(hS:QI P w ob H p d1 d2 st c)(hm:(m,Zl l part,t)∈st):part.length<=900:=by
 obtain⟨l3,k3,r3,es3,e3,_,h3⟩:=hS.sh _ hm;rw[(Q7 e3).2];simp;omega
theorem Qlb{n:Int}(h:(n,d)∈Qy st):∃ t,(n,d,t)∈st:=by
 obtain⟨⟨n',pd',t'⟩,hmm,en⟩:=mem_map.mp h;injection en with en1 en2
 dsimp only at en1 en2;subst en1 en2;exact⟨t',hmm⟩
theorem PgR.under{l:Nat}{M part:List Dt}(t:Tow QC tbl l M part):∃ bs,Paired (fun k B=>PgR QC tbl (l - 1) k B) (if l=0 then [] else part.map Qta) bs/\pre QC l M=(l,M)::(bs.map (pre QC (l - 1))).flatten/\bs.flatten.length<=M.length/\(l≠0->bs.flatten=M)/\(l≠0->∀ d∈part,∃ k n,d=ZV k n):=by
 cases l with
 | zero=>exact⟨[],.nil,rfl,Vk _,fun h=>absurd rfl h,fun h=>absurd rfl h⟩
 | succ l =>
  have b:=t.blocks;refine⟨QJ QC (l:Int) M,?_,rfl,by rw[X8];exact Ve _,fun _=>X8 M,fun _ d hd=>?_⟩
  ·rw[if_neg (Nat.succ_ne_zero l)]
   clear t;generalize QJ QC (l:Int) M=bs at b
   induction b with
   | nil=>exact .nil
   | cons h _ ih =>
    obtain⟨n,e,hp⟩:=h;exact .cons (by rw[e];exact hp) ih
  ·obtain⟨i,hi⟩:=mem_iff_getElem?.mp hd
   have hl:=(Vc.mp hi).1
   have:=Paired.length b;obtain⟨n,e,_⟩:=Qn b hi (Vb (by omega))
   exact⟨_,n,e⟩
inductive Xf(P:Program)(w:World)(_cs ob:Nat->Addr)(n:Nat)(vs:List V)(H:Hp)(Q:VK)(E:XK):Prop
 | mk:∀ p d1 d2 st c v,∀ pr:List (Nat×List Dt),vs=[.ref p,v]->QI P w ob H p d1 d2 st c->((v=.non/\pr=[])\/∃ l m M,v=.int m/\l<=n/\l<=6/\PgR QC (Qy st) l m M/\M.length<=300/\pr=pre QC l M)->(∀ r H' ns,Qk H H'->H r=none->H' r=some (.lst (ns.map V.int))->Xfa QC (Qy st) ns pr->Q (.ref r) H')->Xf P w _cs ob n vs H Q E
def Ja(P:Program)(w:World)(_cs ob:Nat->Addr):Nat->Sp
 | 0=>fun _ _ _ _=>False
 | n+1=>Xf P w _cs ob n
seal PE PT PW PA PS PSs PI PG Q0 PGs PO in
theorem Jja(Z:Zs mg)(T:Tx K mg CT cs ob)(Ju:MeV P w K mg base 1 (ob 0) "under" (Q3 K ob))(Zd:MeV P w K mg base 1 (ob 1) "under" (Q3 K ob))(Q2:MeV P w K mg base 1 (ob 2) "under" (Zt K ob))(QG:MeV P w K mg base 5 (ob 3) "page" (Zh P w cs ob)){n:Nat}(IH:Cal P w K mg base (6+n) "numbers_of" ["pages","root"] (Ja P w cs ob n))(F:Fun K "numbers_of" "numbers_of" YC f fd):QD P w K mg base CX0 (6+n+1) f fd ["pages","root"] (Ja P w cs ob (n+1)):=by
 refine F.ok J4 (fun vs H Q E h=>?_) (fun cdv A outer s H vs Q E hr h=>?_)
 ·walk_at "n"
 obtain⟨p,d1,d2,st,c,v,pr,rfl,hS,hv,q⟩:=h;refine⟨_,(@Qc _ _ _ _ _ (QR (Qs XFa (pv 1) Qha (Qt _)) (Qf (Qp (Jy Qe))) Qw)
  (@Qc _ _ _ _ _ (Qm (i:=2) J4.nd rfl (Or.inl rfl) (Jy (Qi (pv 1) Qe)))
  (@Qc _ _ _ _ _ (ZX PassesOwn.never rfl (Zw (PE1.pe (ZEa (k:=(6+n)) (ZD (k:=(6+n)) (pv 0) hr rfl (Qi (pv 1) Qe)) hr rfl) Z6)) (Za (i:=3) J4.nd rfl (Or.inl rfl)) (Qf (Q9 (Xr PySem.F.plainAttrs_list PySem.F.slot_list_extend PySem.F.type_list_extend XG (pv 2) (Qi (Qu IH (k:=(6+n)) hr (by omega) rfl (Qi (pv 0) (Qi (pv 3) Qe))) Qe)))))
  (Qf (Qp (pv 2)))))),?_⟩
 refine Ql (σ:=[some (.ref p),some v,none,none]) rfl ?_
 walk_at "rd"
 rcases hv with ⟨rfl,rfl⟩ | ⟨l,m,M,rfl,hln,hl6,hpg,lM,rfl⟩
 ·rw[if_pos rfl]
  exact⟨by decide,fun r hr=>q r _ [] (Qg hr _) hr Qa .nil⟩
 rw[if_neg (show ¬ V.int m=V.non from fun z=>nomatch z)]
 refine⟨Q0c _,fun rp hrp=>?_⟩
 have s0:=Qg hrp (.lst [.int m]);have c_r:upd H rp (.lst [.int m]) rp=some (.lst [.int m]):=Qa;generalize upd H rp (.lst [.int m])=H0 at s0 c_r ⊢;have hS0:=hS.same s0;obtain⟨part,hm,tow⟩:=hpg.page;obtain⟨tt,hmm⟩:=Qlb hm;obtain⟨bs,pb,epre,lb,_,hds⟩:=PgR.under tow;obtain⟨dx,ho⟩:=hS0.obj;refine Jf rfl ho rfl (T.ob_ 3 (by decide)).cl (QG.mono (by omega)) ⟨p,d1,d2,st,c,m,rfl,hS0,fun l2 es2 t2 hm2 pg H2 s2 hpg2 pgd=>?_,fun z=>(z _ hmm rfl).elim⟩
 obtain⟨el,ee2⟩:=Q7 (hS.fun_ hmm hm2).1;subst el ee2;refine Yub T Zd Q2 (by omega) (by omega) pgd hds (hS.partLen hmm) fun u H3 s3 hu gu=>?_
 have s03:=s0.trans (s2.trans s3);have ru:u≠rp:=fun z=>by rw[z,s2 _ _ c_r]at hu;cases hu
 generalize (if l=0 then [] else part.map Qta)=ms at pb gu
 have lms:=Paired.length pb;refine⟨u,rfl,⟨_,SqL.of gu⟩,Jd (ms.map V.int) (fun i σ' H'=>∃ ns x3,σ'=[some (.ref p),some (.int m),some (.ref rp),x3]/\Qk H H'/\H' u=some (.lst (ms.map V.int))/\H' rp=some (.lst ((m::ns).map V.int))/\Xfa QC (Qy st) ns (((bs.take i).map (pre QC (l - 1))).flatten)) ⟨[],_,rfl,s03,gu,s3 _ _ (s2 _ _ c_r),.nil⟩ (fun i σ' H' _ ⟨_,_,_,_,h,_⟩=>SqL.of h) ?_ ?_⟩
 ·rintro i x σ' H' hx ⟨ns,x3,rfl,s',gu',gr',hn⟩
  rw[getElem?_map]at hx
  obtain⟨k,hk,rfl⟩:=Option.map_eq_some_iff.mp hx;have hi:=(Vc.mp hk).1
  have he:bs[i]?=some (bs[i]'(by omega)):=Vb _
  have hB:=Qn pb hk he;generalize bs[i]'(by omega)=B at he hB
  have hl0:l≠0:=fun z=>by
   subst z;have:bs=[]:=by
    cases bs with
    | nil=>rfl
    | cons b r=>simp[pre]at epre
   rw[this]at he;cases he
  obtain⟨n0,rfl⟩:∃ n0,n=n0+1:=⟨n - 1,by omega⟩
  have lB:B.length<=bs.flatten.length:=(sublist_flatten_of_mem (Vm he)).length_le;walk_at "rd";refine⟨.inl ⟨rfl,_,SqL.of gr'⟩,⟨p,d1,d2,st,c,.int k,pre QC (l - 1) B,rfl,hS.same s',.inr ⟨l - 1,k,B,rfl,by omega,by omega,hB,by omega,rfl⟩,fun r2 H4 ns2 s4 hr2 g4 hn2=>?_⟩⟩
  have hn3:Xfa QC (Qy st) (ns++ns2) (((bs.take (i+1)).map (pre QC (l - 1))).flatten):=by
   rw[take_add_one,he];simp only[map_append,flatten_append,Option.toList_some,map_cons,map_nil,flatten_cons,flatten_nil,append_nil];exact JC hn hn2
  have l3:=Paired.length hn3;have l4:=Q8a (lv:=QC) (l:=l) hpg.1;rw[epre]at l4;have l5:=congrArg (fun z=>((z.map (pre QC (l - 1))).flatten).length) (take_append_drop (i+1) bs)
  simp only[map_append,flatten_append,Vs]at l5;rw[Vs]at l3;rw[length_cons]at l4;have l6:(l+1) * M.length<=7 * 300:=Nat.mul_le_mul (by omega) lM
  refine⟨r2,rfl,_,s4 _ _ gr',_,.inl (SqL.of g4),Vj (show _<=5000 by simp only[Vr,length_cons];omega) (by rw[sizeLine_eq];decide),?_⟩
  rw[<- map_append,cons_append];exact⟨Q6 (s'.trans s4) hrp,by rw[Qd ru];exact s4 _ _ gu',ns++ns2,Qa,hn3⟩
 ·rintro σ' H' ⟨ns,x3,rfl,s',gu',gr',hn⟩
  walk_at "rd";rw[take_of_length_le (by rw[Vr];omega)]at hn
  exact q rp H' (m::ns) s' hrp gr' (by rw[epre];exact .cons hpg hn)
theorem XBb{K:W.Frag}{CT:Addr}{cs:Nat->Addr}(T:Tx K mg CT cs ob){k1 k2 k:Nat}(M1:MeV P w K mg base k1 (ob 1) "told" (QF K ob))(M2:MeV P w K mg base k2 (ob 2) "told" (QF K ob))(h1:k1<=k)(h2:k2<=k)
 {H:Hp} {pg:Addr} {l:Int} {part:List Dt} {Q:VK} {E:XK} (hP:PgD ob H pg l part)
 (q:∀ u H' e ys,Qk H H'->H' u=some (.tup [.int l,.ref e])->H' e=some (.tup ys)->Paired (fun d v=>TD H' 6 d v) part ys->Q (.ref u) H'):∃ a,V.ref pg=.ref a/\∃ C dx fs,H a=some (.ins C dx fs)/\fs.lookup ("told":Str)=none/\Cls K C/\∃ sp,MeV P w K mg base k C "told" sp/\sp [.ref pg] H Q E:=by
 obtain⟨tw,dx,t,etw,hpa,ht⟩:=id hP;have fin:QF K ob [.ref pg] H Q E:=⟨pg,l,part,rfl,hP,fun u H' s hu td=>by
  obtain⟨b,x,y,eb,hb,tx,ty⟩:=TD.pair_of td;cases eb;obtain⟨_,rfl⟩:=tx.flat;obtain⟨mm,e,ys,em,ee,he,pe⟩:=TD.tup ty;subst ee;obtain rfl:mm=6:=by omega
  exact q _ H' e ys s hb he pe⟩
 cases tw with
 | false=>exact⟨pg,rfl,_,dx,_,hpa,rfl,(T.ob_ 1 (by decide)).cl,_,M1.mono h1,fin⟩
 | true=>exact⟨pg,rfl,_,dx,_,hpa,rfl,(T.ob_ 2 (by decide)).cl,_,M2.mono h2,fin⟩
inductive YQ(P:Program)(w:World)(_cs ob:Nat->Addr)(n:Nat)(vs:List V)(H:Hp)(Q:VK)(E:XK):Prop
 | mk:∀ p d1 d2 st c m,∀ l:Nat,∀ M,vs=[.ref p,.int m]->QI P w ob H p d1 d2 st c->l<=n->PgR QC (Qy st) l m M->M.length<=300->(∀ r H' xs,Qk H H'->H r=none->H' r=some (.lst xs)->Paired (fun d v=>TD H' 6 d v) M xs->Q (.ref r) H')->YQ P w _cs ob n vs H Q E
def ZS(P:Program)(w:World)(_cs ob:Nat->Addr):Nat->Sp
 | 0=>fun _ _ _ _=>False
 | n+1=>YQ P w _cs ob n
seal PE PT PW PA PS PSs PI PG Q0 PGs PO in
theorem ZUa(Z:Zs mg)(T:Tx K mg CT cs ob)(JR:MeV P w K mg base 1 (ob 0) "told" (QF K ob))(ZE:MeV P w K mg base 1 (ob 1) "told" (QF K ob))(ZF:MeV P w K mg base 1 (ob 2) "told" (QF K ob))(QG:MeV P w K mg base 5 (ob 3) "page" (Zh P w cs ob)){n:Nat}(IH:Cal P w K mg base (6+n) "_law_spread" ["_law_pages","_law_number"] (ZS P w cs ob n))(F:Fun K "_law_spread" "_law_spread" J5 f fd):QD P w K mg base CX0 (6+n+1) f fd ["_law_pages","_law_number"] (ZS P w cs ob (n+1)):=by
 refine F.ok ZN (fun vs H Q E h=>?_) (fun cdv A outer s H vs Q E hr h=>?_)
 ·walk_at "n"
 obtain⟨p,d1,d2,st,c,m,l,M,rfl,hS,hln,hpg,lM,q⟩:=h;refine⟨_,(@Qc _ _ _ _ _ (Qm (i:=2) ZN.nd rfl (Or.inl rfl) (PE1.pe (ZEa (k:=(6+n)) (ZD (k:=(6+n)) (pv 0) hr rfl (Qi (pv 1) Qe)) hr rfl) Z6))
  (@Qc _ _ _ _ _ (QR (Qs ZB (QS QP (pv 2) Qb (fun _ _=>rfl)) Qb (Qt _)) (Qf (Qp (QW Zb rfl (Z.list) Ym (Qi (QS QP (pv 2) Qb (fun _ _=>rfl)) Qe)))) Qw)
  (@Qc _ _ _ _ _ (Qm (i:=3) ZN.nd rfl (Or.inl rfl) (Jy Qe))
  (@Qc _ _ _ _ _ (ZX PassesOwn.never rfl (ZYb (QS QP (pv 2) Qb (fun _ _=>rfl))) (Za (i:=4) ZN.nd rfl (Or.inl rfl)) (Qf (Q9 (Xr PySem.F.plainAttrs_list PySem.F.slot_list_extend PySem.F.type_list_extend XG (pv 3) (Qi (Qu IH (k:=(6+n)) hr (by omega) rfl (Qi (pv 0) (Qi (QS QP (pv 4) Qb (fun _ _=>rfl)) Qe))) Qe)))))
  (Qf (Qp (pv 3))))))),?_⟩
 refine Ql (σ:=[some (.ref p),some (.int m),none,none,none]) rfl ?_
 walk_at "rd";obtain⟨part,hm,tow⟩:=hpg.page;obtain⟨tt,hmm⟩:=Qlb hm;obtain⟨bs,pb,_,lb,fb,hds⟩:=PgR.under tow;obtain⟨dx,ho⟩:=hS.obj;refine Jf rfl ho rfl (T.ob_ 3 (by decide)).cl (QG.mono (by omega)) ⟨p,d1,d2,st,c,m,rfl,hS,fun l2 es2 t2 hm2 pg H2 s2 hpg2 pgd=>?_,fun z=>(z _ hmm rfl).elim⟩
 obtain⟨el,ee2⟩:=Q7 (hS.fun_ hmm hm2).1;subst el ee2;refine XBb T ZE ZF (by omega) (by omega) pgd fun u H3 e ys s3 gu ge py=>?_
 have s03:=s2.trans s3;have lp:=hS.partLen hmm;have lys:=Paired.length py;refine⟨u,rfl,_,SqT.of gu,_,at0 _ _,rfl,Jz (fun h0=>?_) fun h0=>?_⟩
 ·injection h0 with h0
  obtain rfl:l=0:=by omega
  obtain rfl:part=M:=tow;exact⟨u,rfl,_,SqT.of gu,_,at1 _ _ _,e,rfl,ys,.inr (SqT.of ge),fun l hl=>q l _ ys (s03.trans (Qg hl _)) (Yua s03 hl) Qa (TDs.sameT py (Qg hl _).t)⟩
 have hl0:l≠0:=fun z=>h0 (by rw[z];rfl)
 have fb:=fb hl0;have hds:=hds hl0;rw[if_neg hl0]at pb;have lms:=Paired.length pb;rw[Vr]at lms;refine⟨Vk _,fun rp hrp=>?_⟩
 have s4:=Qg hrp (.lst []);have c_r:upd H3 rp (.lst []) rp=some (.lst []):=Qa;have hr0:=Yua s03 hrp;generalize upd H3 rp (.lst [])=H4 at s4 c_r ⊢;have gu:=s4 _ _ gu;have ge:=s4 _ _ ge;have py:=TDs.sameT py s4.t;have er:e≠rp:=fun z=>by rw[z,c_r]at ge;cases ge
 refine⟨u,rfl,_,SqT.of gu,_,at1 _ _ _,e,rfl,⟨_,SqT.of ge⟩,QHb ys (fun i σ' H'=>∃ zs x4,σ'=[some (.ref p),some (.int m),some (.ref u),some (.ref rp),x4]/\Qk H H'/\H' e=some (.tup ys)/\H' rp=some (.lst zs)/\Paired (fun d v=>TD H' 6 d v) part ys/\Paired (fun d v=>TD H' 6 d v) (bs.take i).flatten zs) ⟨[],_,rfl,s03.trans s4,ge,c_r,py,.nil⟩ (fun i σ' H' _ ⟨_,_,_,_,h,_⟩=>SqT.of h) ?_ ?_⟩
 ·rintro i x σ' H' hx ⟨zs,x4,rfl,s',ge',gr',py',pz⟩
  have hi:=(Vc.mp hx).1
  have hd:part[i]?=some (part[i]'(by omega)):=Vb _
  have td:=Qn py' hd hx;obtain⟨k,nn,ed⟩:=hds _ (Vm hd);have hk:(part.map Qta)[i]?=some nn:=by rw[getElem?_map,hd,ed];rfl
  rw[ed]at td;obtain⟨b,u1,u2,rfl,hb,x1,x2⟩:=TD.pair_of td;obtain⟨_,rfl⟩:=x1.flat;obtain⟨_,rfl⟩:=x2.flat;have he:bs[i]?=some (bs[i]'(by omega)):=Vb _
  have hB:=Qn pb hk he;generalize bs[i]'(by omega)=B at he hB
  obtain⟨n0,rfl⟩:∃ n0,n=n0+1:=⟨n - 1,by omega⟩
  have lB:B.length<=bs.flatten.length:=(sublist_flatten_of_mem (Vm he)).length_le;walk_at "rd";refine⟨.inl ⟨rfl,_,SqL.of gr'⟩,_,SqT.of hb,_,at1 _ _ _,⟨p,d1,d2,st,c,nn,l - 1,B,rfl,hS.same s',by omega,hB,by omega,fun r2 H5 xs2 s5 hr2 g5 p2=>?_⟩⟩
  have gr5:=s5 _ _ gr';have t6:Q1 H5 (upd H5 rp (.lst (zs++xs2))):=Jw gr5;have l5:=congrArg (fun z=>z.flatten.length) (take_append_drop (i+1) bs)
  have pz3:Paired (fun d v=>TD (upd H5 rp (.lst (zs++xs2))) 6 d v) (bs.take (i+1)).flatten (zs++xs2):=by
   rw[take_add_one,he];simp only[flatten_append,Option.toList_some,flatten_cons,flatten_nil,append_nil];exact JC (TDs.sameT pz (s5.t.trans t6)) (TDs.sameT p2 t6)
  have l3:=Paired.length pz3;simp only[flatten_append,Vs]at l5 l3;exact⟨r2,rfl,_,gr5,_,.inl (SqL.of g5),Vj (show _<=5000 by omega) (by rw[sizeLine_eq];decide),Q6 (s'.trans s5) hr0,by rw[Qd er];exact s5 _ _ ge',_,Qa,TDs.sameT py' (s5.t.trans t6),pz3⟩
 ·rintro σ' H' ⟨zs,x4,rfl,s',ge',gr',py',pz⟩
  walk_at "rd";rw[take_of_length_le (by omega),fb]at pz
  exact q rp H' zs s' hr0 gr' pz
def ctD(x:Nat×List Dt):Dt:=.t [.v (.int x.1),.v (JJ x.2),.t x.2]
def itD(n:Int)(x:Nat×List Dt):Dt:=.t [.v (.int n),ctD x]
inductive Zq(P:Program)(w:World)(_cs ob:Nat->Addr)(vs:List V)(H:Hp)(Q:VK)(E:XK):Prop
 | mk:∀ p d1 d2 st c v,∀ pr:List (Nat×List Dt),vs=[.ref p,v]->QI P w ob H p d1 d2 st c->((v=.non/\pr=[])\/∃ l m M,v=.int m/\l<=6/\PgR QC (Qy st) l m M/\M.length<=300/\pr=pre QC l M)->(∀ r H' xs ns,Qk H H'->H r=none->H' r=some (.lst xs)->Xfa QC (Qy st) ns pr->Paired (fun y v=>TD H' 9 (itD y.1 y.2) v) (ns.zip pr) xs->Q (.ref r) H')->Zq P w _cs ob vs H Q E
seal PE PT PW PA PS PSs PI PG Q0 PGs PO in
theorem QIa(Z:Zs mg)(T:Tx K mg CT cs ob)(Yva:∀ n,Cal P w K mg base (6+n) "numbers_of" ["pages","root"] (Ja P w cs ob n))(Jka:∀ n,Cal P w K mg base (6+n) "_law_spread" ["_law_pages","_law_number"] (ZS P w cs ob n))(YM:MeV P w K mg base 4 (ob 3) "card" (J7 P w cs ob))(F:Fun K "_law_pages_of" "_law_pages_of" Jl f fd):QD P w K mg base CX0 15 f fd ["_law_pages","_law_root"] (Zq P w cs ob):=by
 refine F.ok Zn (fun vs H Q E h=>?_) (fun cdv A outer s H vs Q E hr h=>?_)
 ·walk_at "n"
 obtain⟨p,d1,d2,st,c,v,pr,rfl,hS,hv,q⟩:=h;refine⟨_,(@Qc _ _ _ _ _ (Qm (i:=2) Zn.nd rfl (Or.inl rfl) (Jy Qe))
  (@Qc _ _ _ _ _ (ZX PassesOwn.never rfl (Zw (Qu (Yva 8) (k:=14) hr (by decide) rfl (Qi (pv 0) (Qi (pv 1) Qe)))) (Za (i:=3) Zn.nd rfl (Or.inl rfl)) (@Qc _ _ _ _ _ (Qm (i:=4) Zn.nd rfl (Or.inl rfl) (PE1.pe (ZD (k:=14) (pv 0) hr rfl (Qi (pv 3) Qe)) Z6))
  (Qf (Q9 (Xr PySem.F.plainAttrs_list PySem.F.slot_list_append PySem.F.type_list_append ZC (pv 2) (Qi (ZI (Qi (pv 3) (Qi (ZI (Qi (QS QP (pv 4) Qb (fun _ _=>rfl)) (Qi (QS QP (pv 4) Qb (fun _ _=>rfl)) (Qi (QW JV rfl (Z.tuple) Zra (Qi (Qu (Jka 8) (k:=14) hr (by decide) rfl (Qi (pv 0) (Qi (pv 3) Qe))) Qe)) Qe)))) Qe))) Qe))))))
  (Qf (Qp (pv 2))))),?_⟩
 refine Ql (σ:=[some (.ref p),some v,none,none,none]) rfl ?_
 walk_at "rd";refine⟨Vk _,fun rp hrp=>?_⟩
 have s0:=Qg hrp (.lst []);have c_r:upd H rp (.lst []) rp=some (.lst []):=Qa;generalize upd H rp (.lst [])=H0 at s0 c_r ⊢;have hpr:pr.length<=2100/\∀ x∈pr,x.1<=6/\x.2.length<=300:=by
  rcases hv with ⟨_,rfl⟩ | ⟨l,m,M,_,h6,hp,lM,rfl⟩
  ·exact⟨Vk _,fun x hx=>nomatch hx⟩
  ·refine⟨Vj (Q8a hp.1) (Nat.mul_le_mul (show l+1<=7 by omega) lM),fun x hx=>?_⟩
   obtain⟨a,_,b⟩:=QZb hp.1 hx;have:=b.length_le;exact⟨by omega,by omega⟩
 obtain⟨lpr,hpr⟩:=hpr;refine⟨p,d1,d2,st,c,v,pr,rfl,hS.same s0,hv.imp id fun⟨l,m,M,a,b,r⟩=>⟨l,m,M,a,Nat.le_succ_of_le b,b,r⟩,fun u H2 ns s2 hu gu hn=>?_⟩
 have lns:=Paired.length hn;have ru:u≠rp:=fun z=>by rw[z,c_r]at hu;cases hu
 refine⟨u,rfl,⟨_,SqL.of gu⟩,Jd (ns.map V.int) (fun i σ' H'=>∃ zs x3 x4,σ'=[some (.ref p),some v,some (.ref rp),x3,x4]/\Qk H H'/\H' u=some (.lst (ns.map V.int))/\H' rp=some (.lst zs)/\Paired (fun y v=>TD H' 9 (itD y.1 y.2) v) ((ns.zip pr).take i) zs) ⟨[],_,_,rfl,s0.trans s2,gu,s2 _ _ c_r,.nil⟩ (fun i σ' H' _ ⟨_,_,_,_,_,h,_⟩=>SqL.of h) ?_ ?_⟩
 ·rintro i x σ' H' hx ⟨zs,x3,x4,rfl,s',gu',gr',pz⟩
  rw[getElem?_map]at hx
  obtain⟨n,hk,rfl⟩:=Option.map_eq_some_iff.mp hx;have hi:=(Vc.mp hk).1
  have he:pr[i]?=some (pr[i]'(by omega)):=Vb _
  have hB:=Qn hn hk he;have hb:=hpr _ (Vm he);generalize pr[i]'(by omega)=B at he hB hb
  obtain⟨lv,M⟩:=B;dsimp only at hB hb;have hz:(ns.zip pr)[i]?=some (n,lv,M):=by rw[getElem?_zip_eq_some];exact⟨hk,he⟩
  obtain⟨part,hm,tow⟩:=hB.page;obtain⟨tt,hmm⟩:=Qlb hm;have hS':=hS.same s';obtain⟨dx,ho⟩:=hS'.obj;have lz:=Paired.length pz;rw[length_take,length_zip]at lz;obtain⟨l3,k3,r3,es3,e3,hk3,_⟩:=hS.sh _ hmm;obtain⟨_,rfl⟩:=Q7 e3;walk_at "rd";refine Jf rfl ho rfl (T.ob_ 3 (by decide)).cl (YM.mono (by decide)) ⟨p,d1,d2,st,c,n,rfl,hS',fun l4 k4 r4 es4 t4 hm4 t H3 s3 ht tdt=>?_,fun z=>(z _ hmm rfl).elim⟩
  obtain⟨el,ee⟩:=Q7 (hS.fun_ hmm hm4).1;subst el;injection ee with ee _
  injection ee with ee
  injection ee with ee _
  injection ee with ee
  subst ee;have ek:JJ M=k3:=by rw[<- tow.fst.2];rfl
  obtain⟨b,x1,x2,eb,hb2,tx1,tx2⟩:=TD.pair_of tdt;cases eb;obtain⟨_,rfl⟩:=tx1.flat;obtain⟨hk4,rfl⟩:=tx2.flat;have h6:=hb.1;refine⟨.inl ⟨rfl,_,SqL.of (s3 _ _ gr')⟩,t,rfl,_,SqT.of hb2,_,at0 _ _,t,rfl,_,SqT.of hb2,_,at1 _ _ _,⟨p,d1,d2,st,c,n,lv,M,rfl,hS'.same s3,Nat.le_succ_of_le h6,hB,hb.2,fun r2 H4 xs2 s4 hr2 g4 p4=>⟨r2,rfl,xs2,.inl ⟨SqL.of g4,fun a1 ha1=>⟨show 3<=sizeLine by decide,fun a2 ha2=>⟨JX,fun a3 ha3=>?_⟩⟩⟩⟩⟩⟩
  have s5:=Qg ha1 (.tup xs2);have g5:upd H4 a1 (.tup xs2) a1=some (.tup xs2):=Qa;generalize upd H4 a1 (.tup xs2)=H5 at s5 g5 ha2 ha3 ⊢;have s6:=Qg ha2 (.tup [.int (lv:Int),x2,.ref a1]);have g6:upd H5 a2 (.tup [.int (lv:Int),x2,.ref a1]) a2=some (.tup [.int (lv:Int),x2,.ref a1]):=Qa;generalize upd H5 a2 (.tup [.int (lv:Int),x2,.ref a1])=H6 at s6 g6 ha3 ⊢;have s7:=Qg ha3 (.tup [.int n,.ref a2]);have g7:upd H6 a3 (.tup [.int n,.ref a2]) a3=some (.tup [.int n,.ref a2]):=Qa;generalize upd H6 a3 (.tup [.int n,.ref a2])=H7 at s7 g7 ⊢;have s37:=s3.trans (s4.trans (s5.trans (s6.trans s7)));have gr7:=s37 _ _ gr';have t8:Q1 H7 (upd H7 rp (.lst (zs++[.ref a3]))):=Jw gr7;have d1_:TD H7 7 (.t M) (.ref a1):=⟨a1,xs2,rfl,s7 _ _ (s6 _ _ g5),TDs.sameT p4 (s5.t.trans (s6.t.trans s7.t))⟩;have d2_:TD H7 8 (ctD (lv,M)) (.ref a2):=⟨a2,_,rfl,s7 _ _ g6,.cons (.ofV rfl) (.cons (by rw[ek];exact .ofV hk4) (.cons d1_ .nil))⟩
  have d3_:TD H7 9 (itD n (lv,M)) (.ref a3):=⟨a3,_,rfl,g7,.cons (.ofV rfl) (.cons d2_ .nil)⟩;refine⟨zs,gr7,Vt (show zs.length < 5000 by omega) (by rw[sizeLine_eq];decide),zs++[.ref a3],_,_,⟨rfl,rfl⟩,Q6 (s'.trans s37) hrp,by rw[Qd ru];exact s37 _ _ gu',Qa,?_⟩
  rw[take_add_one,hz];exact JC (Paired.mapP pz fun y v h=>TD.sameT (s37.t.trans t8) 9 h) (.cons (TD.sameT t8 9 d3_) .nil)
 ·rintro σ' H' ⟨zs,x3,x4,rfl,s',gu',gr',pz⟩
  walk_at "rd";rw[take_of_length_le (by rw[length_zip,Vr];omega)]at pz
  exact q rp H' zs ns s' hrp gr' hn pz
def Ywa(ys:List (Int×Nat×List Dt)):Prop:=∀ a∈ys,∀ b∈ys,a.1=b.1↔ctD a.2=ctD b.2
structure QJa(P:Program)(w:World)(H0 H:Hp)(r dn dc:Addr)(xs:List V)(ys:List (Int×Nat×List Dt))(nx:NX)(kvs:List (Key×V))(i:Nat):Prop where
 sm:Qk H0 H
 rl:H r=some (.lst xs)
 px:Paired (fun y v=>TD H 9 (itD y.1 y.2) v) ys xs
 an:H dn=some (dN P w dn nx)
 tn:∀ x∈nx,TD H 8 x.1 (.ref x.2.1)/\∃ y∈ys,x.1=ctD y.2/\x.2.2=.int y.1
 ln:nx.length<=i
 ac:H dc=some (.dK kvs)
 tc:∀ x∈kvs,∃ y∈ys,x.1=.inl y.1/\TD H 8 (ctD y.2) x.2
 lc:kvs.length<=i
section
variable{P:Program}{w:World}{K:W.Frag}{H0 H H':Hp}{r dn dc:Addr}{xs:List V}{ys:List (Int×Nat×List Dt)}{nx:NX}{kvs:List (Key×V)}{i j:Nat}
theorem QJa.dnAt(h:QJa P w H0 H r dn dc xs ys nx kvs i):YY P w K H dn nx:=⟨h.an,fun x hx=>⟨(h.tn x hx).1.rep,(h.tn x hx).1.h⟩⟩
theorem QJa.ndc(h:QJa P w H0 H r dn dc xs ys nx kvs i):dn≠dc:=ZA h.an h.ac (by intro z;cases z)
theorem QJa.more(h:QJa P w H0 H r dn dc xs ys nx kvs i)(l:i<=j):QJa P w H0 H r dn dc xs ys nx kvs j:=⟨h.sm,h.rl,h.px,h.an,h.tn,Vj h.ln l,h.ac,h.tc,Vj h.lc l⟩
theorem Yvb{xs:NX}(h:Jp xs d=some v):∃ x∈xs,x.1=d/\x.2.2=v:=by
 unfold Jp at h;obtain⟨x,hx,e⟩:=Option.map_eq_some_iff.mp h;have h2:=find?_some hx
 exact⟨x,mem_of_find?_eq_some hx,by simpa using h2,e⟩
theorem QJa.two{n:Int}{y:Nat×List Dt}{F:VK}(e:QJa P w H0 H r dn dc xs ys nx kvs j)(l1:nx.length<=i+1)(l2:kvs.length<=i)(li:i<=5000)(hy:(n,y)∈ys)(one:Ywa ys)(hdc:H0 dc=none)(t:TD H 8 (ctD y) (.ref a))
 (hF:∀ H3 kvs3,QJa P w H0 H3 r dn dc xs ys nx kvs3 (i+1)->F (.bl false) H3):IsD H dc/\∃ kvs' k,V.int n=kV k/\H dc=some (.dK kvs')/\kvs'.length < sizeLine/\(∀ v,Zc kvs' k=some v->rD K true v (.ref a) H F)/\(Zc kvs' k=none->rD K true (.ref a) (.ref a) (upd H dc (.dK (Zz kvs' k (.ref a)))) F):=by
 refine⟨.inl ⟨_,.inl e.ac⟩,kvs,.inl n,rfl,e.ac,Vt (show _ < 6000 by omega) (by rw[sizeLine_eq];decide),fun v hv=>?_,fun hv=>?_⟩
 ·obtain⟨y',hy',e1,t'⟩:=e.tc _ (Ysa hv)
  injection e1 with e1
  have ec:=(one _ hy _ hy').mp e1;dsimp only at ec t';rw[<- ec]at t';exact Yq (n:=8) (by decide) t'.rep t.rep (hF H kvs ⟨e.sm,e.rl,e.px,e.an,e.tn,l1,e.ac,e.tc,by omega⟩)
 ·have st:Q1 H (upd H dc (.dK (Zz kvs (.inl n) (.ref a)))):=Zv e.ac
  have nr:r≠dc:=ZA e.rl e.ac (by intro z;cases z)
  have l3:=QZ kvs (.inl n) (.ref a);refine Yq (n:=8) (by decide) (TD.sameT st 8 t).rep (TD.sameT st 8 t).rep (hF _ _ ⟨Q6 e.sm hdc,by rw[Qd nr];exact e.rl,Paired.mapP e.px fun y v h=>TD.sameT st 9 h,by rw[Qd e.ndc];exact e.an,fun x hx=>⟨TD.sameT st 8 (e.tn x hx).1,(e.tn x hx).2⟩,l1,Qa,fun x hx=>?_,by omega⟩)
  rcases(Ymb hx).symm with hx | rfl
  ·obtain⟨y',hy',e1,t'⟩:=e.tc _ hx
   exact⟨y',hy',e1,TD.sameT st 8 t'⟩
  ·exact⟨_,hy,rfl,TD.sameT st 8 t⟩
end
inductive Z3(P:Program)(w:World)(vs:List V)(H:Hp)(Q:VK)(E:XK):Prop
 | mk:∀ r xs,∀ ys:List (Int×Nat×List Dt),vs=[.ref r]->H r=some (.lst xs)->Paired (fun y v=>TD H 9 (itD y.1 y.2) v) ys xs->ys.length<=5000->Ywa ys->(∀ H',Qk H H'->Q (.bl true) H')->Z3 P w vs H Q E
seal PE PT PW PA PS PSs PI PG Q0 PGs PO in
theorem QKa(Z:Zs mg)(T:Tx K mg CT cs ob)(F:Fun K "_law_one_each" "_law_one_each" Jj f fd):QD P w K mg base CX0 1 f fd ["_law_some"] (Z3 P w):=by
 refine F.ok Q8 (fun vs H Q E h=>?_) (fun cdv A outer s H vs Q E hr h=>?_)
 ·walk_at "n"
 obtain⟨r,xs,ys,rfl,hr_,px,ly,one,q⟩:=h;refine⟨_,(@Qc _ _ _ _ _ (Qm (i:=1) Q8.nd rfl (Or.inl rfl) Y9a)
  (@Qc _ _ _ _ _ (Qm (i:=2) Q8.nd rfl (Or.inl rfl) Zqa)
  (@Qc _ _ _ _ _ (ZX PassesOwn.never rfl (Zw (pv 0)) (Qdc (n:=2) rfl (YCa (Za (i:=3) Q8.nd rfl (Or.inl rfl)) (YCa (Za (i:=4) Q8.nd rfl (Or.inl rfl)) YBb))) (Qf (QR (PW.pt (Qnb (Qs Qsb (J8b hr.u9 (pv 1) (pv 4) (pv 3) ⟨rfl,rfl,rfl,rfl⟩) (pv 3) (Qt _)) (JPa (Qs (ZAa (hr.units)) (J7b (pv 2) (pv 3) (pv 4) ⟨rfl,rfl,rfl,rfl⟩) (pv 4) (Qt _))))) (Qf (Qp Zca)) Qw)))
  (Qf (Qp Zca))))),?_⟩
 refine Ql (σ:=[some (.ref r),none,none,none,none]) rfl ?_
 walk_at "rd";intro dn hdn dc hdc;have n12:dn≠dc:=fun z=>by rw[<- z,Qa]at hdc;cases hdc
 have hdc0:H dc=none:=by rw[Qd (Ne.symm n12)]at hdc;exact hdc
 have s0:=(Qg hdn (dN P w dn [])).trans (Qg hdc (.dK []));have nr:r≠dn:=fun z=>by rw[z,hdn]at hr_;cases hr_
 have nr':r≠dc:=fun z=>by rw[z,hdc0]at hr_;cases hr_
 have E0_:QJa P w H (upd (upd H dn (dN P w dn [])) dc (.dK [])) r dn dc xs ys [] [] 0:=⟨s0,s0 _ _ hr_,Paired.mapP px fun y v h=>TD.sameT s0.t 9 h,by rw[Qd n12];exact Qa,(fun x hx=>nomatch hx),Ve _,Qa,(fun x hx=>nomatch hx),Ve _⟩
 generalize upd (upd H dn (dN P w dn [])) dc (.dK [])=H1 at E0_ ⊢;refine⟨⟨_,SqL.of E0_.rl⟩,Jd xs (fun i σ' H'=>∃ nx kvs x3 x4,σ'=[some (.ref r),some (.ref dn),some (.ref dc),x3,x4]/\QJa P w H H' r dn dc xs ys nx kvs i) ⟨_,_,_,_,rfl,E0_⟩ (fun i σ' H' _ ⟨_,_,_,_,_,h⟩=>SqL.of h.rl) ?_ ?_⟩
 ·rintro i x σ' H' hx ⟨nx,kvs,x3,x4,rfl,e⟩
  have hi:=(Vc.mp hx).1
  have lxy:=Paired.length e.px;have hy:ys[i]?=some (ys[i]'(by omega)):=Vb _
  have td:=Qn e.px hy hx;have hmy:=Vm hy;generalize ys[i]'(by omega)=y at hy td hmy
  obtain⟨n,y⟩:=y;obtain⟨b,u1,u2,rfl,hb,t1,t2⟩:=TD.pair_of td;obtain⟨_,rfl⟩:=t1.flat;obtain⟨_,a,_,_,rfl,_⟩:=TD.tup t2;have t2:TD H' 8 (ctD y) (.ref a):=t2;have ln:=e.ln;have lc:=e.lc;walk_at "rd";refine⟨_,SqT.of hb,rfl,_,_,rfl,_,_,rfl,rfl,nx,e.dnAt,a,rfl,nx,e.dnAt,ctD y,t2.rep,t2.h,Vt (show _ < 6000 by omega) (by rw[sizeLine_eq];decide),fun v hv=>?_,fun hv=>?_⟩
  ·obtain⟨z,hz,ez,rfl⟩:=Yvb hv
   obtain⟨y',hy',e1,e2⟩:=(e.tn z hz).2;have en:=(one _ hmy _ hy').mpr (by rw[<- e1,ez])
   dsimp only at en;rw[e2,<- en];refine⟨rfl,?_⟩
   rw[if_neg (by simp)]
   refine e.two (by omega) lc (by omega) hmy one hdc0 t2 fun H3 kvs3 e3=>⟨false,rfl,?_⟩
   rw[if_neg (by decide)]
   exact⟨_,_,_,_,⟨rfl,rfl⟩,e3⟩
  ·have st:Q1 H' (upd H' dn (dN P w dn (nx++[(ctD y,a,.int n)]))):=fun c zs ec=>by rw[Qd (ZA ec e.an (by intro z;cases z))];exact ec
   have nr2:r≠dn:=ZA e.rl e.an (by intro z;cases z)
   have e2:QJa P w H (upd H' dn (dN P w dn (nx++[(ctD y,a,.int n)]))) r dn dc xs ys (nx++[(ctD y,a,.int n)]) kvs (i+1):=⟨Q6 e.sm hdn,by rw[Qd nr2];exact e.rl,Paired.mapP e.px fun y v h=>TD.sameT st 9 h,Qa,fun x hx=>by
    rcases Vl.mp hx with hx | hx
    ·exact⟨TD.sameT st 8 (e.tn x hx).1,(e.tn x hx).2⟩
    ·rw[mem_singleton.mp hx]
     exact⟨TD.sameT st 8 t2,_,hmy,rfl,rfl⟩,by rw[Vs];exact Nat.succ_le_succ ln,by rw[Qd (Ne.symm e.ndc)];exact e.ac,(fun x hx=>by obtain⟨y',a1,a2,a3⟩:=e.tc x hx;exact⟨y',a1,a2,TD.sameT st 8 a3⟩),by omega⟩
   refine⟨rfl,e2.two e2.ln lc (by omega) hmy one hdc0 (TD.sameT st 8 t2) fun H3 kvs3 e3=>⟨false,rfl,?_⟩⟩
   rw[if_neg (by decide)]
   exact⟨_,_,_,_,⟨rfl,rfl⟩,e3⟩
 ·rintro σ' H' ⟨nx,kvs,x3,x4,rfl,e⟩
  walk_at "rd";exact q H' e.sm
theorem JKa{tbl':List (Int×Dt)}{R:List Dt}{top top':Nat}{L L':Nat->List Dt}(c:Zf QC tbl R top L)(c':Zf QC tbl' R top' L')(hR:R≠[]):¬ top < top':=fun h=>by
 have m1:=Tow.many (c.tow (top+1) (Ve _)) hR;have m2:=Tow.many (c'.tow (top+1) (by omega)) hR
 have:=c.one;have:=c'.two (top+1) (by omega) (by omega)
 omega
def XCb(es:List Dt)(pr:List (Nat×List Dt)):Prop:=(es=[]/\pr=[])\/(es≠[]/\∃ (tbl:List (Int×Dt)) (top:Nat) (L:Nat->List Dt),Zf QC tbl es top L/\pr=pre QC top es)
theorem XCb.det{pr':List (Nat×List Dt)}(h:XCb es pr)(h':XCb es pr'):pr=pr':=by
 rcases h with ⟨a,b⟩ | ⟨a,tbl,top,L,c,b⟩
 ·rcases h' with ⟨_,b'⟩ | ⟨a',_⟩
  ·rw[b,b']
  ·exact absurd a a'
 ·rcases h' with ⟨a',_⟩ | ⟨_,tbl',top',L',c',b'⟩
  ·exact absurd a' a
  ·have:=JKa c c' a
   have:=JKa c' c a;obtain rfl:top=top':=by omega
   rw[b,b']
theorem Ze.prOf(f:Fn (Qy st))(h:Ze st es v)(le:es.length<=300):∃ pr,XCb es pr/\((v=.non/\pr=[])\/∃ l m M,v=.int m/\l<=6/\PgR QC (Qy st) l m M/\M.length<=300/\pr=pre QC l M):=by
 rcases h with ⟨a,b⟩ | ⟨a,top,L,k,n,h6,c,e,b⟩
 ·exact⟨[],.inl ⟨a,rfl⟩,.inl ⟨b,rfl⟩⟩
 ·exact⟨_,.inr ⟨a,_,_,_,c,rfl⟩,.inr ⟨top,n,es,b,h6,(c.toRoot f e).pgr,le,rfl⟩⟩
theorem XDb{x y:Nat×List Dt}(h:ctD x=ctD y):x=y:=by
 obtain⟨a,b⟩:=x;obtain⟨c,d⟩:=y;injection h with h
 injection h with h1 h
 injection h with h2 h
 injection h with h3 _
 injection h1 with h1
 injection h1 with h1
 injection h3 with h3
 have h1:(a:Int)=(c:Int):=h1;have h3:b=d:=h3;rw[h3,show a=c by omega]
theorem ZQb(f:Fn tbl){ns ms:List Int}{pr ps:List (Nat×List Dt)}(h:Xfa QC tbl ns pr)(h':Xfa QC tbl ms ps):Ywa (ns.zip pr++ms.zip ps):=by
 have go:∀ {ns:List Int} {pr:List (Nat×List Dt)},Xfa QC tbl ns pr->∀ a∈ns.zip pr,PgR QC tbl a.2.1 a.1 a.2.2:=fun {ns pr} h a ha=>by
  obtain⟨i,hi⟩:=mem_iff_getElem?.mp ha;rw[getElem?_zip_eq_some]at hi
  have:=Qn (show Paired (fun n x=>PgR QC tbl x.1 n x.2) ns pr from h) hi.1 hi.2
  exact this
 have all:∀ a∈ns.zip pr++ms.zip ps,PgR QC tbl a.2.1 a.1 a.2.2:=fun a ha=>(Vl.mp ha).elim (go h a) (go h' a)
 intro a ha b hb;have p:=all a ha;have q:=all b hb;obtain⟨n,l,M⟩:=a;obtain⟨n',l',M'⟩:=b
 constructor
 ·intro e
  dsimp only at e p q;subst e;obtain⟨rfl,rfl⟩:=p.rows f q
  rfl
 ·intro e
  have e:=XDb e;dsimp only at e p q;cases e;exact p.num f q
section
variable{P:Program}{w:World}{K:W.Frag}{cs ob:Nat->Addr}{H H':Hp}{p d1 d2 q e1 e2 r r2:Addr}{st su:StL}{c cu:Int}{xs ys:List V}{es fs:List Dt}{Q:VK}{E:XK}
theorem QI.keepX(h:QI P w ob H q e1 e2 su cu)(s:QU [p,d1,d2] H H')(t:Q1 H H')(d:∀ z∈[q,e1,e2],z∉[p,d1,d2]):QI P w ob H' q e1 e2 su cu:=by
 obtain⟨dx,ho⟩:=h.obj;exact h.keep t (by rw[ho];exact s _ _ (d _ (by simp)) ho) (by rw[h.num];exact s _ _ (d _ (by simp)) h.num) (by rw[h.tol];exact s _ _ (d _ (by simp)) h.tol)
structure L19(P:Program)(w:World)(ob:Nat->Addr)(H:Hp)(p d1 d2 q e1 e2 r r2:Addr)(st su:StL)(c cu:Int)(xs ys:List V)(es fs:List Dt):Prop where
 sa:QI P w ob H p d1 d2 st c
 sb:QI P w ob H q e1 e2 su cu
 di:∀ z∈[q,e1,e2],z∉[p,d1,d2]
 l1:H r=some (.lst xs)
 p1:Paired (fun d v=>TD H 6 d v) es xs
 l2:H r2=some (.lst ys)
 p2:Paired (fun d v=>TD H 6 d v) fs ys
theorem L19.same(h:L19 P w ob H p d1 d2 q e1 e2 r r2 st su c cu xs ys es fs)(s:Qk H H'):L19 P w ob H' p d1 d2 q e1 e2 r r2 st su c cu xs ys es fs :=
 ⟨h.sa.same s,h.sb.same s,h.di,s _ _ h.l1,TDs.sameT h.p1 s.t,s _ _ h.l2,TDs.sameT h.p2 s.t⟩
theorem L19.turn(h:L19 P w ob H p d1 d2 q e1 e2 r r2 st su c cu xs ys es fs):L19 P w ob H q e1 e2 p d1 d2 r r2 su st cu c xs ys es fs :=
 ⟨h.sb,h.sa,fun z hz hz'=>h.di z hz' hz,h.l1,h.p1,h.l2,h.p2⟩
theorem L19.swap(h:L19 P w ob H p d1 d2 q e1 e2 r r2 st su c cu xs ys es fs):L19 P w ob H p d1 d2 q e1 e2 r2 r st su c cu ys xs fs es :=
 ⟨h.sa,h.sb,h.di,h.l2,h.p2,h.l1,h.p1⟩
theorem L19.x(h:L19 P w ob H p d1 d2 q e1 e2 r r2 st su c cu xs ys es fs){st':StL}{c':Int}(s:QU [p,d1,d2] H H')(hS:QI P w ob H' p d1 d2 st' c'):L19 P w ob H' p d1 d2 q e1 e2 r r2 st' su c' cu xs ys es fs :=
 have t:=Qba h.sa s
 ⟨hS,h.sb.keepX s t h.di,h.di,h.sa.lst s h.l1,TDs.sameT h.p1 t,h.sa.lst s h.l2,TDs.sameT h.p2 t⟩
theorem L19.built(h:L19 P w ob H p d1 d2 q e1 e2 r r2 st su c cu xs ys es fs)(row:∀ d∈es,QFa d)(up:UpR ltK es)(le:es.length<=220)(ls:st.length<=10000)
 (g:∀ H' st' c' v,L19 P w ob H' p d1 d2 q e1 e2 r r2 st' su c' cu xs ys es fs->(∀ x∈Qy st,x∈Qy st')->st'.length<=st.length+1760->Ze st' es v->Q v H'):∃ x,(SqL K H r x\/SqT K H r x)/\∀ l,H l=none->Qea P w cs ob [.ref p,.ref l] (upd H l (.lst x)) Q E:=by
 refine⟨xs,.inl (SqL.of h.l1),fun l hl=>?_⟩
 have s3:=Qg hl (.lst xs);have lx:=Paired.length h.p1;have upk:(es.map QM).Pairwise fun a b=>Pl.ltV a b=true:=by rw[pairwise_map];exact List.Pairwise.imp (fun {a b} h=>h.2.2) up
 exact⟨p,d1,d2,st,c,l,xs,es,rfl,h.sa.same s3,Qa,TDs.sameT h.p1 s3.t,(fun d hd=>(row d hd).ent),by omega,by omega,.inl ⟨upk,fun H4 st4 c4 v4 sx4 hS4 sub4 l4 ht4=>g H4 st4 c4 v4 (h.x (fun b o nb e=>sx4 b o nb (s3 _ _ e)) hS4) sub4 (by omega) ht4⟩⟩
theorem J6a:∀ {es:List Dt},(∀ d∈es,hD d=true)->hDs es=true
 | [],_=>rfl
 | d::es,h=>by rw[hDs,h d (by simp),J6a fun e he=>h e (Vo _ he)];rfl
theorem X5b(h:Paired (fun d v=>TD H n d v) es xs):hDs es=true:=by
 induction h with
 | nil=>rfl
 | cons h _ ih=>rw[hDs,TD.h _ h,ih];rfl
theorem L19.eq(h:L19 P w ob H p d1 d2 q e1 e2 r r2 st su c cu xs ys es fs)(g:Q (.bl (decide (es=fs))) H):rD K false (.ref r) (.ref r2) H Q:=by
 refine⟨7,.l es,.l fs,by decide,Zu h.l1 h.p1,Zu h.l2 h.p2,?_⟩
 rw[if_neg (by decide),show eqD (.l es) (.l fs)=decide (es=fs) by rw[eqD,Bool.eq_iff_iff,J8a _ _ (X5b h.p1) (X5b h.p2),decide_eq_true_iff]]
 exact g
theorem JLa{u:V}(h:Ze st es v)(h':Ze st fs u):YT v u=true:=by
 rcases h.sc with rfl | ⟨n,rfl⟩ <;> rcases h'.sc with rfl | ⟨m,rfl⟩ <;> rfl
theorem Q2b{u:V}(f:Fn (Qy st))(h:Ze st es v)(h':Ze st fs u):decide (v=u)=decide (es=fs):=by
 rw[decide_eq_decide]
 constructor
 ·intro e;rw[<- e]at h';exact h.rows f h'
 ·intro e;rw[<- e]at h';exact h.det f h'
theorem Q3b{σ:St}{o:Addr}(g:H o=some (.lst xs))(p:Paired (fun y v=>TD H 9 (itD y.1 y.2) v) (ns.zip pr) xs)(ln:ns.length=pr.length)(lx:xs.length<=5000)
 (q:∀ D H2 ys,Qk H H2->H2 D=some (.lst ys)->Paired (fun x v=>TD H2 8 (ctD x) v) pr ys->Q (.ref D) H2):LcR (Itl K o) YQa (tOp (Z1a K) (J9 0) (tC (V.int 1))) σ Q H:=by
 have lz:=Paired.length p;rw[length_zip]at lz;refine Jza xs (fun H' i v=>∀ x,pr[i]?=some x->TD H' 8 (ctD x) v) (fun H' H'' i v t h x e=>TD.sameT t 8 (h x e)) (SqL.of g) (Vj lx (by rw[sizeLine_eq];decide)) (fun i x H2 R hx s2 hR=>?_) fun D H2 ys hD s2 gD ly py=>q D H2 ys s2 gD (Qsa (by omega) fun i x v e1 e2=>py i v e2 x e1)
 have hi:=(Vc.mp hx).1
 have h1:pr[i]?=some (pr[i]'(by omega)):=Vb _
 have h2:ns[i]?=some (ns[i]'(by omega)):=Vb _
 have h3:(ns.zip pr)[i]?=some (ns[i]'(by omega),pr[i]'(by omega)):=by rw[getElem?_zip_eq_some];exact⟨h2,h1⟩
 have td0:=Qn p h3 hx;have td:=TD.sameT s2.t 9 td0;obtain⟨b,u1,u2,rfl,hb,t1,t2⟩:=TD.pair_of td;walk_at "rd";exact⟨_,SqT.of hb,_,at1 _ _ _,hR _ _ (fun x e=>by rw[h1]at e;cases e;exact t2) (Qk.refl _)⟩
theorem Q4b{σ:St}{o:Addr}(hS:QI P w ob H q e1 e2 su cu)(hv:(v=.non/\pr=[])\/∃ l m M,v=.int m/\l<=6/\PgR QC (Qy su) l m M/\M.length<=300/\pr=pre QC l M)(g:H o=some (.lst xs))(p:Paired (fun y v=>TD H 9 (itD y.1 y.2) v) (ns.zip pr) xs)(hn:Xfa QC tbl ns pr)(lx:pr.length<=5000)
 (k:∀ H',Qk H H'->Q (.bl false) H'):Zq P w cs ob [.ref q,v] H (fun x H1=>∃ a,x=.ref a/\(∃ xs,SqL K H1 a xs)/\LcR (Itl K a) YQa (tOp (Z1a K) (J9 0) (tC (V.int 1))) σ (fun x H1=>(∃ xs,SqL K H1 o xs)/\LcR (Itl K o) YQa (tOp (Z1a K) (J9 0) (tC (V.int 1))) σ (fun y H2=>rD K true x y H2 Q) H1) H1) E:=by
 have ln:ns.length=pr.length:=Paired.length hn;refine⟨q,e1,e2,su,cu,v,pr,rfl,hS,hv,fun a H1 zs ms s1 ha ga hm pz=>⟨a,rfl,⟨_,SqL.of ga⟩,?_⟩⟩
 have lm:ms.length=pr.length:=Paired.length hm;have lz:=Paired.length pz;have lp:=Paired.length p;rw[length_zip]at lz lp;refine Q3b ga pz lm (by omega) fun D H2 us s2 gD pu=>?_
 have g2:=s2 _ _ (s1 _ _ g);refine⟨⟨_,SqL.of g2⟩,Q3b g2 (Paired.mapP p fun y v h=>TD.sameT (s1.trans s2).t 9 h) ln (by omega) fun D2 H3 ws s3 gD2 pw=>?_⟩
 have go:∀ {A:Addr} {us:List V},H3 A=some (.lst us)->Paired (fun x v=>TD H3 8 (ctD x) v) pr us->Rep K H3 9 (.l (pr.map ctD)) (.ref A):=fun {A us} g p=>.l (SqL.of g) (by rw[Vr];exact Paired.length p) fun i d x h1 h2=>by
  rw[getElem?_map,Option.map_eq_some_iff]at h1
  obtain⟨y,hy,rfl⟩:=h1;exact(Qn p hy h2).rep
 exact Yq (n:=9) (by decide) (go (s3 _ _ gD) (Paired.mapP pu fun y v h=>TD.sameT s3.t 8 h)) (go gD2 pw) (k H3 (s1.trans (s2.trans s3)))
end
inductive ZVa(K:W.Frag)(vs:List V)(H:Hp)(Q:VK)(E:XK):Prop
 | mk:∀ (a:Addr) (ns:List Int),vs=[.ref a]->SqL K H a (ns.map V.int)->ns.length<=63->(∀ H',Q (.bl true) H')->ZVa K vs H Q E
seal PE PT PW PA PS PSs PI PG Q0 PGs PO in
theorem Q4c(Z:Zs mg)(T:Tx K mg CT cs ob)(Xta:Cal P w K mg base 3 "_law_rows" ["_law_script"] (YK K))(ZWa:Cal P w K mg base 3 "_law_changed" ["_law_rows_here","_law_script"] (Jm K))(Zaa:QIc P w K mg base 7 "built" ["pages","rows"] (Qea P w cs ob))(Zy:Cal P w K mg base 15 "_law_pages_of" ["_law_pages","_law_root"] (Zq P w cs ob))(QWa:Cal P w K mg base 1 "_law_one_each" ["_law_some"] (Z3 P w))(Xm:Cal P w K mg base 14 "rows_of" ["pages","root"] (XR P w cs ob))(Zba:MkV P w K mg base 1 "Pages" (ob 3) (Z7 P w ob))(F:Fun K "law" "law" Xx f fd):QD P w K mg base CX0 16 f fd ["_law_script"] (ZVa K):=by
 refine F.ok JG (fun vs H Q E h=>?_) (fun cdv A outer s H vs Q E hr h=>?_)
 ·walk_at "n"
 obtain⟨a,ns,rfl,hS,hl_,q⟩:=h;refine⟨_,(@Qc _ _ _ _ _ (Qm (i:=1) JG.nd rfl (Or.inl rfl) (Qu Xta (k:=15) hr (by decide) rfl (Qi (pv 0) Qe)))
  (@Qc _ _ _ _ _ (Qm (i:=2) JG.nd rfl (Or.inl rfl) (Qu ZWa (k:=15) hr (by decide) rfl (Qi (pv 1) (Qi (pv 0) Qe))))
  (@Qc _ _ _ _ _ (Qm (i:=3) JG.nd rfl (Or.inl rfl) (JSb Zba (k:=15) hr (by decide) rfl))
  (@Qc _ _ _ _ _ (Qm (i:=4) JG.nd rfl (Or.inl rfl) (JSb Zba (k:=15) hr (by decide) rfl))
  (@Qc _ _ _ _ _ (Qm (i:=5) JG.nd rfl (Or.inl rfl) (PE1.pe (Q5a Zaa (k:=15) hr (by decide) rfl rfl (Qi (pv 3) (Qi (QW Zb rfl (Z.list) Ym (Qi (pv 1) Qe)) Qe))) Z6))
  (@Qc _ _ _ _ _ (Qm (i:=6) JG.nd rfl (Or.inl rfl) (PE1.pe (Q5a Zaa (k:=15) hr (by decide) rfl rfl (Qi (pv 3) (Qi (QW Zb rfl (Z.list) Ym (Qi (pv 2) Qe)) Qe))) Z6))
  (@Qc _ _ _ _ _ (Qm (i:=7) JG.nd rfl (Or.inl rfl) (PE1.pe (Q5a Zaa (k:=15) hr (by decide) rfl rfl (Qi (pv 4) (Qi (QW Zb rfl (Z.list) Ym (Qi (pv 2) Qe)) Qe))) Z6))
  (@Qc _ _ _ _ _ (Qm (i:=8) JG.nd rfl (Or.inl rfl) (PE1.pe (Q5a Zaa (k:=15) hr (by decide) rfl rfl (Qi (pv 4) (Qi (QW Zb rfl (Z.list) Ym (Qi (pv 1) Qe)) Qe))) Z6))
  (@Qc _ _ _ _ _ (QR (PW.pt (Qnb (Qs Qsb (JN ZB (pv 5) (pv 6) (Qt _)) (JN (J3a (hr.units)) (pv 1) (pv 2) (Qt _)) (Qt _)) (JPa (Qs Qsb (JN ZB (pv 8) (pv 7) (Qt _)) (JN (J3a (hr.units)) (pv 1) (pv 2) (Qt _)) (Qt _))))) (Qf (Qp Zca)) Qw)
  (@Qc _ _ _ _ _ (Qm (i:=9) JG.nd rfl (Or.inl rfl) (Qu Zy (k:=15) hr (by decide) rfl (Qi (pv 3) (Qi (pv 5) Qe))))
  (@Qc _ _ _ _ _ (Qm (i:=10) JG.nd rfl (Or.inl rfl) (Qu Zy (k:=15) hr (by decide) rfl (Qi (pv 3) (Qi (pv 6) Qe))))
  (@Qc _ _ _ _ _ (QR (JQa (XA (Qu QWa (k:=15) hr (by decide) rfl (Qi (Qj Jdb (pv 9) (pv 10)) Qe)) (fun _=>rfl))) (Qf (Qp Zca)) Qw)
  (@Qc _ _ _ _ _ (QR (Qs (ZAa (hr.units)) (Jc ["_law_script","_law_rows_here","_law_others","_law_pages","_law_beside","_law_root","_law_second","_law_there","_law_here","_law_one","_law_two"] rfl (QNa (N:=["_law_script","_law_rows_here","_law_others","_law_pages","_law_beside","_law_root","_law_second","_law_there","_law_here","_law_one","_law_two"]) (dsc:=Qh Xx) rfl rfl (by decide +kernel)) (Zw (Qu Zy (k:=15) hr (by decide) rfl (Qi (pv 4) (Qi (pv 8) Qe)))) (fun _ _ _ _ _=>Xi) (fun _ _ _ _ _=>(QS (r:=Z1a K) QP (pv 0) Qb (fun _ _=>rfl)))) (Jc ["_law_script","_law_rows_here","_law_others","_law_pages","_law_beside","_law_root","_law_second","_law_there","_law_here","_law_one","_law_two"] rfl (QNa (N:=["_law_script","_law_rows_here","_law_others","_law_pages","_law_beside","_law_root","_law_second","_law_there","_law_here","_law_one","_law_two"]) (dsc:=Qh Xx) rfl rfl (by decide +kernel)) (Zw (pv 9)) (fun _ _ _ _ _=>Xi) (fun _ _ _ _ _=>(QS (r:=Z1a K) QP (pv 0) Qb (fun _ _=>rfl)))) (Qt _)) (Qf (Qp Zca)) Qw)
  (@Qc _ _ _ _ _ (QR (Qs (ZAa (hr.units)) (Jc ["_law_script","_law_rows_here","_law_others","_law_pages","_law_beside","_law_root","_law_second","_law_there","_law_here","_law_one","_law_two"] rfl (QNa (N:=["_law_script","_law_rows_here","_law_others","_law_pages","_law_beside","_law_root","_law_second","_law_there","_law_here","_law_one","_law_two"]) (dsc:=Qh Xx) rfl rfl (by decide +kernel)) (Zw (Qu Zy (k:=15) hr (by decide) rfl (Qi (pv 4) (Qi (pv 7) Qe)))) (fun _ _ _ _ _=>Xi) (fun _ _ _ _ _=>(QS (r:=Z1a K) QP (pv 0) Qb (fun _ _=>rfl)))) (Jc ["_law_script","_law_rows_here","_law_others","_law_pages","_law_beside","_law_root","_law_second","_law_there","_law_here","_law_one","_law_two"] rfl (QNa (N:=["_law_script","_law_rows_here","_law_others","_law_pages","_law_beside","_law_root","_law_second","_law_there","_law_here","_law_one","_law_two"]) (dsc:=Qh Xx) rfl rfl (by decide +kernel)) (Zw (pv 10)) (fun _ _ _ _ _=>Xi) (fun _ _ _ _ _=>(QS (r:=Z1a K) QP (pv 0) Qb (fun _ _=>rfl)))) (Qt _)) (Qf (Qp Zca)) Qw)
  (@Qc _ _ _ _ _ (QR (PW.pt (Qnb (Qs (ZAa (hr.units)) (Qu Xm (k:=15) hr (by decide) rfl (Qi (pv 3) (Qi (pv 5) Qe))) (pv 1) (Qt _)) (JPa (Qs (ZAa (hr.units)) (Qu Xm (k:=15) hr (by decide) rfl (Qi (pv 4) (Qi (pv 7) Qe))) (pv 2) (Qt _))))) (Qf (Qp Zca)) Qw)
  (Qf (Qp (Qcc (JN (J3a (hr.units)) (Qu Xm (k:=15) hr (by decide) rfl (Qi (pv 3) (Qi (pv 6) Qe))) (pv 2) (Qt _)) (Qbc (JN (J3a (hr.units)) (Qu Xm (k:=15) hr (by decide) rfl (Qi (pv 4) (Qi (pv 8) Qe))) (pv 1) (Qt _))))))))))))))))))))),?_⟩
 refine Ql (σ:=[some (.ref a),none,none,none,none,none,none,none,none,none,none]) rfl ?_
 refine QWb fun R hR=>?_
 have go:∀ p d1 d2 b e1 e2 r r2 xs ys es fs H1,L19 P w ob H1 p d1 d2 b e1 e2 r r2 [] [] 0 0 xs ys es fs->(∀ d∈es,QFa d)->UpR ltK es->es.length<=220->(∀ d∈fs,QFa d)->UpR ltK fs->fs.length<=220->R [some (.ref a),some (.ref r),some (.ref r2),some (.ref p),some (.ref b),none,none,none,none,none,none] H1:=by
  intro p d1 d2 b e1 e2 r r2 xs ys es fs H1 h1 row up le row' up' lf;refine hR _ _ (QWb fun R2 hR2=>?_)
  clear hR;walk_at "rd";refine h1.built row up le (by simp) fun H2 st2 c2 v h2 sub2 l2 t2=>?_
  refine h2.swap.built row' up' lf (by simp at l2;omega) fun H3 st3 c3 u h3 sub3 l3 t3=>?_
  refine h3.turn.built row' up' lf (by simp) fun H4 su4 c4 u' h4 sub4 l4 t4=>?_
  refine h4.swap.built row up le (by simp at l4;omega) fun H5 su5 c5 v' h5 sub5 l5 t5=>?_
  have h:=h5.turn;have tv:=t2.mono sub3;have tu':=t4.mono sub5;clear h1 h2 h3 h4 h5 t2 t4;refine hR2 _ _ (Q7a fun R3 hR3=>?_)
  clear hR2;walk_at "rd";refine⟨JLa tv t3,h.eq ⟨rfl,?_⟩⟩
  rw[Q2b h.sa.fn tv t3,if_neg (not_not_intro rfl)];refine⟨JLa t5 tu',h.eq ⟨rfl,?_⟩⟩
  rw[Q2b h.sb.fn t5 tu',if_neg (not_not_intro rfl)];refine hR3 _ _ (Xob fun R4 hR4=>?_)
  clear hR3;obtain⟨pr,po,hv⟩:=tv.prOf h.sa.fn (by omega)
  obtain⟨ps,qo,hu⟩:=t3.prOf h.sa.fn (by omega)
  obtain⟨ps',qo',hu'⟩:=tu'.prOf h.sb.fn (by omega)
  obtain rfl:=qo.det qo';obtain⟨pr',po',hv'⟩:=t5.prOf h.sb.fn (by omega)
  obtain rfl:=po.det po';clear qo' po';have bnd:∀ {es:List Dt} {pr:List (Nat×List Dt)} {st:StL} {v:V},((v=.non/\pr=[])\/∃ l m M,v=.int m/\l<=6/\PgR QC (Qy st) l m M/\M.length<=300/\pr=pre QC l M)->pr.length<=2100:=fun {es pr st v} hv=>by
   rcases hv with ⟨_,rfl⟩ | ⟨l,m,M,_,h6,hp,lM,rfl⟩
   ·exact Vk _
   ·exact Vj (Q8a hp.1) (Nat.mul_le_mul (show l+1<=7 by omega) lM)
  have b1:=bnd (es:=es) hv;have b2:=bnd (es:=es) hu;walk_at "rd";refine⟨p,d1,d2,st3,c3,v,pr,rfl,h.sa,hv,fun o1 H6 xs1 ns1 s6 ho1 g1 n1 p1=>?_⟩
  have h6:=h.same s6;refine⟨p,d1,d2,st3,c3,u,ps,rfl,h6.sa,hu,fun o2 H7 xs2 ns2 s7 ho2 g2 n2 p2=>?_⟩
  have h7:=h6.same s7;have g1:=s7 _ _ g1;have p1:=Paired.mapP p1 fun y v h=>TD.sameT s7.t 9 h
  have lz1:=Paired.length p1;have lz2:=Paired.length p2;rw[length_zip]at lz1 lz2;refine⟨o1,rfl,o2,rfl,xs1,g1,xs2,g2,Vj (show _<=5000 by omega) (by rw[sizeLine_eq];decide),fun l hl=>?_⟩
  have s8:=Qg hl (.lst (xs1++xs2));refine⟨l,xs1++xs2,ns1.zip pr++ns2.zip ps,rfl,Qa,JC (Paired.mapP p1 fun y v h=>TD.sameT s8.t 9 h) (Paired.mapP p2 fun y v h=>TD.sameT s8.t 9 h),by simp only[Vs,length_zip];omega,ZQb h.sa.fn n1 n2,fun H9 s9=>⟨true,rfl,?_⟩⟩
  rw[if_neg (by decide)]
  have s79:=s8.trans s9;have h9:=h7.same s79;have g1:=s79 _ _ g1;have g2:=s79 _ _ g2;have p1:=Paired.mapP p1 fun y v h=>TD.sameT s79.t 9 h
  have p2:=Paired.mapP p2 fun y v h=>TD.sameT s79.t 9 h
  refine hR4 _ _ ?_
  clear hR4;walk_at "rd";refine Q4b h9.sb hv' g1 p1 n1 (by omega) fun H10 s10=>⟨false,rfl,?_⟩
  rw[if_neg (by decide)]
  have h10:=h9.same s10;refine Q4b h10.sb hu' (s10 _ _ g2) (Paired.mapP p2 fun y v h=>TD.sameT s10.t 9 h) n2 (by omega) fun H11 s11=>⟨false,rfl,?_⟩
  rw[if_neg (by decide)]
  have h11:=h10.same s11;refine⟨p,d1,d2,_,_,v,es,rfl,h11.sa,tv,by omega,fun rr H12 zs s12 hrr g12 py=>Yq (n:=7) (by decide) (Zu g12 py) (Zu (s12 _ _ h11.l1) (TDs.sameT h11.p1 s12.t)) ⟨false,rfl,?_⟩⟩
  rw[if_neg (by decide)]
  have h12:=h11.same s12;refine⟨b,e1,e2,_,_,u',fs,rfl,h12.sb,tu',by omega,fun rr H13 zs s13 hrr g13 py=>Yq (n:=7) (by decide) (Zu g13 py) (Zu (s13 _ _ h12.l2) (TDs.sameT h12.p2 s13.t)) ⟨false,rfl,?_⟩⟩
  rw[if_neg (by decide)]
  have h13:=h12.same s13;refine⟨p,d1,d2,_,_,u,fs,rfl,h13.sa,t3,by omega,fun rr H14 zs s14 hrr g14 py=>Yq (n:=7) (by decide) (Zu g14 py) (Zu (s14 _ _ h13.l2) (TDs.sameT h13.p2 s14.t)) ⟨true,rfl,?_⟩⟩
  rw[if_pos rfl];have h14:=h13.same s14;exact⟨b,e1,e2,_,_,v',es,rfl,h14.sb,t5,by omega,fun rr H15 zs s15 hrr g15 py=>Yq (n:=7) (by decide) (Zu g15 py) (Zu (s15 _ _ h14.l1) (TDs.sameT h14.p1 s15.t)) (q _)⟩
 clear hR;walk_at "rd";refine⟨a,ns,rfl,hS,hl_,fun r H1 xs es s1 hr1 g1 re row up le=>?_⟩
 refine⟨r,a,xs,es,ns,rfl,g1,re,row,up,le,s1.seq hS,hl_,fun r2 H2 ys fs s2 hr2 g2 rf row' up' lf=>?_⟩
 intro x0 dx0 hx0 hdx0 hne0;refine⟨x0,dx0,rfl,Qa,fun d1 d2 H3 dx ff f1 f2 s3 st3=>?_⟩
 have S3:Qk H2 H3:=by rw[JL]at s3;exact X6 hx0 hdx0 s3
 clear s3 f1 f2;refine⟨rfl,?_⟩
 walk_at "rd";intro y0 dy0 hy0 hdy0 hne1;refine⟨y0,dy0,rfl,Qa,fun e1 e2 H4 dx ff f1 f2 s4 st4=>⟨rfl,?_⟩⟩
 have S4:Qk H3 H4:=by rw[JL]at s4;exact X6 hy0 hdy0 s4
 have nn:∀ {z:Addr} {o1 o2:HO},upd (upd H3 dy0 o1) y0 o2 z=none->H3 z=none:=fun {z o1 o2} hz=>by
  cases e:H3 z with
  | none=>rfl
  | some o =>
   have n1:z≠y0:=Qq e hy0;have n2:z≠dy0:=Qq e hdy0;rw[Qd n1,Qd n2,e]at hz;cases hz
 refine go _ _ _ _ _ _ _ _ _ _ _ _ _ ⟨st3.same S4,st4,fun z hz hz'=>?_,S4 _ _ (S3 _ _ (s2 _ _ g1)),TDs.sameT re (s2.trans (S3.trans S4)).t,S4 _ _ (S3 _ _ g2),TDs.sameT rf (S3.trans S4).t⟩ row up (by omega) row' up' lf
 have hn:H3 z=none:=by
  simp only[mem_cons,not_mem_nil,or_false]at hz
  rcases hz with rfl | rfl | rfl
  ·exact hy0
  ·exact nn f1
  ·exact nn f2
 obtain⟨dx',ho⟩:=st3.obj;simp only[mem_cons,not_mem_nil,or_false]at hz'
 rcases hz' with rfl | rfl | rfl
 ·rw[ho]at hn;cases hn
 ·rw[st3.num]at hn;cases hn
 ·rw[st3.tol]at hn;cases hn
theorem Q5c{K:W.Frag}(hl:ns.length<=63)(_:∀ i∈ns,Builtin.Int.intBits i<=2 ^ 20)(hS:SqL K H a (ns.map V.int)):ZVa K [.ref a] H (fun v _=>v=.bl true) fun _ _ _=>False :=
 ⟨a,ns,rfl,hS,hl,fun _=>rfl⟩
theorem Jn{α:Type}{C:List α->Prop}(h:∀ a,C [a]):∀ us:List α,us.length=1->C us:=fun us hl=>by
 match us,hl with
 | [_],_=>exact h _
theorem ZT{α:Type}{C:List α->Prop}(h:∀ a b,C [a,b]):∀ us:List α,us.length=2->C us:=fun us hl=>by
 match us,hl with
 | [_,_],_=>exact h _ _
theorem Q5b{α:Type}{C:List α->Prop}(h:∀ a b c,C [a,b,c]):∀ us:List α,us.length=3->C us:=fun us hl=>by
 match us,hl with
 | [_,_,_],_=>exact h _ _ _
theorem cq0{P:Program}{w:World}{K:W.Frag}{mg:Str->Option Value}{base h:Heap}(X:K.In h)(G:h.Ns mainGlobals mg){k:Nat}{f:Addr}{fd:FuncData}{ps:List Str}{sp:Sp}{x:Str}(F:QD P w K mg base CX0 k f fd ps sp)(b:ZJ K fd ps [])(kk:W.keepIn K (.ref f)=true)(a:W.nsIn K mainGlobals x=some (some (.ref f))):Cal P w K mg base k x ps sp:=⟨_,_,F,b,kk,W.mg_of X G a⟩
theorem cq1{P:Program}{w:World}{K:W.Frag}{mg:Str->Option Value}{base h:Heap}(X:K.In h)(G:h.Ns mainGlobals mg){k:Nat}{f:Addr}{fd:FuncData}{ps:List Str}{sp:Sp}{x:Str}(F:QD P w K mg base (CX1 P w) k f fd ps sp)(b:ZJ K fd ps [])(kk:W.keepIn K (.ref f)=true)(a:W.nsIn K mainGlobals x=some (some (.ref f))):QIc P w K mg base k x ps sp:=⟨_,_,F,b,kk,W.mg_of X G a⟩
theorem mq1{P:Program}{w:World}{K:W.Frag}{mg:Str->Option Value}{base:Heap}{k:Nat}{C f:Addr}{fd:FuncData}{ps:List Str}{sp:Sp}{m:Str}(F:QD P w K mg base (CX1 P w) k f fd ps sp)(b:ZJ K fd ps [])(a:W.findIn K (.ref C) m=some (some (.ref f)))(j:W.isFn K (.ref f)=true)(kk:W.keepIn K (.ref f)=true):MeV P w K mg base k C m sp:=⟨_,_,_,⟨a,j,kk⟩,F,b⟩
theorem Q6c{l:W.OpenLaw}{K:W.Frag}{h:Heap}{fa:Addr}(X:K.In h)(G:h.Ns mainGlobals mg)(hfa:mg "law"=some (.ref fa))
 {f1 f2 f3 f4 f5 f6 f7 f8 f9 f10 f11 f12 f13 f14 f15 f16 f17 f18 f19 f20 f21 f22 f23 f24 f25 f26 f27 f28 f29 f30 f31 f32 f33 f34 f35 f36 f37 f38 f39 f40:Addr} {d1 d2 d3 d4 d5 d6 d7 d8 d9 d10 d11 d12 d13 d14 d15 d16 d17 d18 d19 d20 d21 d22 d23 d24 d25 d26 d27 d28 d29 d30 d31 d32 d33 d34 d35 d36 d37 d38 d39 d40:FuncData}
 (ta:W.specialIn K (.builtin "object.__class__") "__get__"=some (some (.builtin "getset_descriptor.__get__"))) (tb:W.takesIn K (.builtin "object.__class__")=some true)
 {O0:Addr} (oa0:W.nsIn K mainGlobals "Page"=some (some (.ref O0))) (of0:W.JA K O0 ["level","rows","heads","entries","told_by_number","number_by_told","count"]=true)
 {O1:Addr} (oa1:W.nsIn K mainGlobals "Leaf"=some (some (.ref O1))) (of1:W.JA K O1 ["level","rows","heads","entries","told_by_number","number_by_told","count"]=true)
 (om1:W.makesIn K O1=true) (ok1:W.keepIn K (.ref O1)=true)
 {O2:Addr} (oa2:W.nsIn K mainGlobals "Twig"=some (some (.ref O2))) (of2:W.JA K O2 ["level","rows","heads","entries","told_by_number","number_by_told","count"]=true)
 (om2:W.makesIn K O2=true) (ok2:W.keepIn K (.ref O2)=true)
 {O3:Addr} (oa3:W.nsIn K mainGlobals "Pages"=some (some (.ref O3))) (of3:W.JA K O3 ["level","rows","heads","entries","told_by_number","number_by_told","count"]=true)
 (om3:W.makesIn K O3=true) (ok3:W.keepIn K (.ref O3)=true)
 (oo:W.JRb K [O0,O1,O2,O3] ZJc=true)
 {CT:Addr} {thd:Bool} {ynm yq:Str} {yN:Addr} {ybs:List Value} {ysn:List Str} {ysub:List Value} {yab:Bool} {ycol:Option Bool} {ydd:Option Addr} {yk0 yk1 yk2 yk3 yk5:Option Value}
 (t1:W.nsIn K mainGlobals "TableError"=some (some (.ref CT))) (t2:K.lookup CT=some (excClassObj ynm yq CT yN ybs W.bmV thd ysn ysub yab ycol ydd yk0 yk1 yk2 yk3 yk5 "ValueError.__new__")) (t3:W.nsOkIn K yN=true) (t4:W.nsIn K yN "__init__"=some none) (t5:W.tailIn K W.bmV W.bmV=true)
 (t6:W.specialIn K (.ref CT) "__getattribute__"=some (some (.builtin "type.__getattribute__"))) (t7:W.readsIn K CT (.type "type")=true) (t8:W.findCls K (.ref CT) (.type "type") "__init__"=some (.val (.builtin "ValueError.__init__")))
 (t9:W.tailIn K W.bmV (.ref CT::W.bmV)=true)
 {C0:Addr} {v0nm v0q:Str} {v0N:Addr} {v0bs:List Value} {v0sn:List Str} {v0sub:List Value} {v0ab:Bool} {v0col:Option Bool} {v0dd:Option Addr} {v0k0 v0k1 v0k2 v0k3 v0k5:Option Value}
 (p0:W.nsIn K mainGlobals "NoPage"=some (some (.ref C0))) (q0:K.lookup C0=some (excClassObj v0nm v0q C0 v0N v0bs (.ref CT::W.bmV) true v0sn v0sub v0ab v0col v0dd v0k0 v0k1 v0k2 v0k3 v0k5 "ValueError.__new__")) (r0:W.nsOkIn K v0N=true) (u0:W.Qoa K C0 ["number","key"]=true)
 (o0:W.keepIn K (.ref C0)=true)
 {C1:Addr} {v1nm v1q:Str} {v1N:Addr} {v1bs:List Value} {v1sn:List Str} {v1sub:List Value} {v1ab:Bool} {v1col:Option Bool} {v1dd:Option Addr} {v1k0 v1k1 v1k2 v1k3 v1k5:Option Value}
 (p1:W.nsIn K mainGlobals "NotRising"=some (some (.ref C1))) (q1:K.lookup C1=some (excClassObj v1nm v1q C1 v1N v1bs (.ref CT::W.bmV) true v1sn v1sub v1ab v1col v1dd v1k0 v1k1 v1k2 v1k3 v1k5 "ValueError.__new__")) (r1:W.nsOkIn K v1N=true) (u1:W.Qoa K C1 ["number","key"]=true)
 (o1:W.keepIn K (.ref C1)=true)
 (tt:W.JIb K [C0,C1]=true) (tu:W.QMc K [C0,C1]=true)
 (a1:W.findIn K (.ref C1) "__init__"=some (some (.ref f1))) (j1:W.isFn K (.ref f1)=true)
 (F1:Fun K "__init__" "NotRising.__init__" Z2 f1 d1)
 (a2:W.findIn K (.ref C0) "__init__"=some (some (.ref f2))) (j2:W.isFn K (.ref f2)=true)
 (F2:Fun K "__init__" "NoPage.__init__" JY f2 d2)
 (a3:W.nsIn K mainGlobals "mixed_first"=some (some (.ref f3)))
 (F3:Fun K "mixed_first" "mixed_first" JZ f3 d3)
 (a4_0:W.findIn K (.ref O0) "__init__"=some (some (.ref f4)))
 (j4:W.isFn K (.ref f4)=true)
 (F4:Fun K "__init__" "Page.__init__" Y0 f4 d4)
 (e4:W.clI K O0 f4=true)
 (a5_0:W.findIn K (.ref O0) "told"=some (some (.ref f5)))
 (a5_1:W.findIn K (.ref O1) "told"=some (some (.ref f5)))
 (a5_2:W.findIn K (.ref O2) "told"=some (some (.ref f5)))
 (j5:W.isFn K (.ref f5)=true)
 (F5:Fun K "told" "Page.told" Y1 f5 d5)
 (a6_0:W.findIn K (.ref O0) "first"=some (some (.ref f6)))
 (a6_1:W.findIn K (.ref O1) "first"=some (some (.ref f6)))
 (a6_2:W.findIn K (.ref O2) "first"=some (some (.ref f6)))
 (j6:W.isFn K (.ref f6)=true)
 (F6:Fun K "first" "Page.first" Yu f6 d6)
 (a7_0:W.findIn K (.ref O0) "under"=some (some (.ref f7)))
 (a7_1:W.findIn K (.ref O1) "under"=some (some (.ref f7)))
 (j7:W.isFn K (.ref f7)=true)
 (F7:Fun K "under" "Page.under" Yv f7 d7)
 (a8_1:W.findIn K (.ref O1) "spread"=some (some (.ref f8)))
 (j8:W.isFn K (.ref f8)=true)
 (F8:Fun K "spread" "Leaf.spread" J0 f8 d8)
 (a9_2:W.findIn K (.ref O2) "under"=some (some (.ref f9)))
 (j9:W.isFn K (.ref f9)=true)
 (F9:Fun K "under" "Twig.under" Jq f9 d9)
 (a10_3:W.findIn K (.ref O3) "__init__"=some (some (.ref f10)))
 (j10:W.isFn K (.ref f10)=true)
 (F10:Fun K "__init__" "Pages.__init__" Yw f10 d10)
 (a11:W.nsIn K mainGlobals "rank_of"=some (some (.ref f11)))
 (F11:Fun K "rank_of" "rank_of" Qva f11 d11)
 (a12:W.nsIn K mainGlobals "_law_cell"=some (some (.ref f12)))
 (F12:Fun K "_law_cell" "_law_cell" Y2 f12 d12)
 (a13:W.nsIn K mainGlobals "_law_text"=some (some (.ref f13)))
 (F13:Fun K "_law_text" "_law_text" Y3 f13 d13)
 (a14:W.nsIn K mainGlobals "_law_tall"=some (some (.ref f14)))
 (F14:Fun K "_law_tall" "_law_tall" Y4 f14 d14)
 (a15:W.nsIn K mainGlobals "_law_cells"=some (some (.ref f15)))
 (F15:Fun K "_law_cells" "_law_cells" Yy f15 d15)
 (a16:W.nsIn K mainGlobals "_law_risen"=some (some (.ref f16)))
 (F16:Fun K "_law_risen" "_law_risen" Zm f16 d16)
 (a17:W.nsIn K mainGlobals "_law_one_each"=some (some (.ref f17)))
 (F17:Fun K "_law_one_each" "_law_one_each" Jj f17 d17)
 (a18:W.nsIn K mainGlobals "mixed"=some (some (.ref f18)))
 (F18:Fun K "mixed" "mixed" Yea f18 d18)
 (a19_1:W.findIn K (.ref O1) "__init__"=some (some (.ref f19)))
 (j19:W.isFn K (.ref f19)=true)
 (F19:Fun K "__init__" "Leaf.__init__" Y5 f19 d19)
 (a20_2:W.findIn K (.ref O2) "__init__"=some (some (.ref f20)))
 (j20:W.isFn K (.ref f20)=true)
 (F20:Fun K "__init__" "Twig.__init__" Y6 f20 d20)
 (a21_3:W.findIn K (.ref O3) "kept"=some (some (.ref f21)))
 (j21:W.isFn K (.ref f21)=true)
 (F21:Fun K "kept" "Pages.kept" Yz f21 d21)
 (a22:W.nsIn K mainGlobals "before"=some (some (.ref f22)))
 (F22:Fun K "before" "before" ZKa f22 d22)
 (a23:W.nsIn K mainGlobals "_law_key"=some (some (.ref f23)))
 (F23:Fun K "_law_key" "_law_key" XI f23 d23)
 (a24:W.nsIn K mainGlobals "level_of"=some (some (.ref f24)))
 (F24:Fun K "level_of" "level_of" XJ f24 d24)
 (a25_3:W.findIn K (.ref O3) "told_at"=some (some (.ref f25)))
 (j25:W.isFn K (.ref f25)=true)
 (F25:Fun K "told_at" "Pages.told_at" Jk f25 d25)
 (a26:W.nsIn K mainGlobals "_law_rows"=some (some (.ref f26)))
 (F26:Fun K "_law_rows" "_law_rows" Y7 f26 d26)
 (a27:W.nsIn K mainGlobals "_law_changed"=some (some (.ref f27)))
 (F27:Fun K "_law_changed" "_law_changed" JD f27 d27)
 (a28:W.nsIn K mainGlobals "page_of"=some (some (.ref f28)))
 (F28:Fun K "page_of" "page_of" Qxa f28 d28)
 (a29_3:W.findIn K (.ref O3) "card"=some (some (.ref f29)))
 (j29:W.isFn K (.ref f29)=true)
 (F29:Fun K "card" "Pages.card" YA f29 d29)
 (a30:W.nsIn K mainGlobals "cut"=some (some (.ref f30)))
 (F30:Fun K "cut" "cut" J9b f30 d30)
 (a31_3:W.findIn K (.ref O3) "page"=some (some (.ref f31)))
 (j31:W.isFn K (.ref f31)=true)
 (F31:Fun K "page" "Pages.page" YB f31 d31)
 (a32:W.nsIn K mainGlobals "heads_of"=some (some (.ref f32)))
 (F32:Fun K "heads_of" "heads_of" XL f32 d32)
 (a33:W.nsIn K mainGlobals "crowned"=some (some (.ref f33)))
 (F33:Fun K "crowned" "crowned" Qya f33 d33)
 (a34:W.nsIn K mainGlobals "built"=some (some (.ref f34)))
 (F34:Fun K "built" "built" Yha f34 d34)
 (a35_0:W.findIn K (.ref O0) "spread"=some (some (.ref f35)))
 (a35_2:W.findIn K (.ref O2) "spread"=some (some (.ref f35)))
 (j35:W.isFn K (.ref f35)=true)
 (F35:Fun K "spread" "Page.spread" J3 f35 d35)
 (a36:W.nsIn K mainGlobals "rows_of"=some (some (.ref f36)))
 (F36:Fun K "rows_of" "rows_of" Qza f36 d36)
 (a37:W.nsIn K mainGlobals "numbers_of"=some (some (.ref f37)))
 (F37:Fun K "numbers_of" "numbers_of" YC f37 d37)
 (a38:W.nsIn K mainGlobals "_law_spread"=some (some (.ref f38)))
 (F38:Fun K "_law_spread" "_law_spread" J5 f38 d38)
 (a39:W.nsIn K mainGlobals "_law_pages_of"=some (some (.ref f39)))
 (F39:Fun K "_law_pages_of" "_law_pages_of" Jl f39 d39)
 (a40:W.nsIn K mainGlobals "law"=some (some (.ref f40)))
 (F40:Fun K "law" "law" Xx f40 d40)
 (z1:W.nsIn K mainGlobals "dict"=some none)
 (z2:W.nsIn K mainGlobals "int"=some none)
 (z3:W.nsIn K mainGlobals "isinstance"=some none)
 (z4:W.nsIn K mainGlobals "len"=some none)
 (z5:W.nsIn K mainGlobals "list"=some none)
 (z6:W.nsIn K mainGlobals "ord"=some none)
 (z7:W.nsIn K mainGlobals "range"=some none)
 (z8:W.nsIn K mainGlobals "sorted"=some none)
 (z9:W.nsIn K mainGlobals "str"=some none)
 (z10:W.nsIn K mainGlobals "tuple"=some none)
 {tk1:Tok} (g1:W.nsIn K mainGlobals "MODULUS"=some (some (.int (2147483647) tk1)))
 {tk2:Tok} (g2:W.nsIn K mainGlobals "TOP_LEVEL"=some (some (.int (6) tk2)))
 : ∃ fd:FuncData,(∀ (s:Shared) (v:Value),BindsTo s fd ⟨[v],[]⟩ [("_law_script",v)])/\∀ base:Heap,K.In base->base.Ns mainGlobals mg->QD l.prog w K mg base CX0 16 fa fd ["_law_script"] (ZVa K):=by
 have e:=hfa.symm.trans (W.mg_of X G a40);cases e;have k1:=F1.kp;have b1:=F1.binds (ps:=["self","key"]) fun _ _ _ _ _ _=>ZT fun _ _=>rfl
 have k2:=F2.kp;have b2:=F2.binds (ps:=["self","number"]) fun _ _ _ _ _ _=>ZT fun _ _=>rfl
 have k4:=F4.kp;have b4:=F4.binds (ps:=["self","level","entries"]) fun _ _ _ _ _ _=>Q5b fun _ _ _=>rfl
 have k5:=F5.kp;have b5:=F5.binds (ps:=["self"]) fun _ _ _ _ _ _=>Jn fun _=>rfl
 have k6:=F6.kp;have b6:=F6.binds (ps:=["self"]) fun _ _ _ _ _ _=>Jn fun _=>rfl
 have k7:=F7.kp;have b7:=F7.binds (ps:=["self"]) fun _ _ _ _ _ _=>Jn fun _=>rfl
 have k8:=F8.kp;have b8:=F8.binds (ps:=["self","pages"]) fun _ _ _ _ _ _=>ZT fun _ _=>rfl
 have k9:=F9.kp;have b9:=F9.binds (ps:=["self"]) fun _ _ _ _ _ _=>Jn fun _=>rfl
 have k10:=F10.kp;have b10:=F10.binds (ps:=["self"]) fun _ _ _ _ _ _=>Jn fun _=>rfl
 have k19:=F19.kp;have b19:=F19.binds (ps:=["self","rows"]) fun _ _ _ _ _ _=>ZT fun _ _=>rfl
 have k20:=F20.kp;have b20:=F20.binds (ps:=["self","level","heads"]) fun _ _ _ _ _ _=>Q5b fun _ _ _=>rfl
 have k21:=F21.kp;have b21:=F21.binds (ps:=["self","page"]) fun _ _ _ _ _ _=>ZT fun _ _=>rfl
 have k25:=F25.kp;have b25:=F25.binds (ps:=["self","number"]) fun _ _ _ _ _ _=>ZT fun _ _=>rfl
 have k29:=F29.kp;have b29:=F29.binds (ps:=["self","number"]) fun _ _ _ _ _ _=>ZT fun _ _=>rfl
 have k31:=F31.kp;have b31:=F31.binds (ps:=["self","number"]) fun _ _ _ _ _ _=>ZT fun _ _=>rfl
 have k35:=F35.kp;have b35:=F35.binds (ps:=["self","pages"]) fun _ _ _ _ _ _=>ZT fun _ _=>rfl
 have k37:=F37.kp;have b37:=F37.binds (ps:=["pages","root"]) fun _ _ _ _ _ _=>ZT fun _ _=>rfl
 have k38:=F38.kp;have b38:=F38.binds (ps:=["_law_pages","_law_number"]) fun _ _ _ _ _ _=>ZT fun _ _=>rfl
 have Z:Zs mg:=⟨W.mg_none_of X G z1,W.mg_none_of X G z2,W.mg_none_of X G z3,W.mg_none_of X G z4,W.mg_none_of X G z5,W.mg_none_of X G z6,W.mg_none_of X G z7,W.mg_none_of X G z8,W.mg_none_of X G z9,W.mg_none_of X G z10,⟨_,W.mg_of X G g1⟩,⟨_,W.mg_of X G g2⟩⟩;have X0:W.XCl K C0 CT:=W.XCl.of ⟨v0nm,v0q,v0N,v0bs,v0sn,v0sub,v0ab,v0col,v0dd,v0k0,v0k1,v0k2,v0k3,v0k5,q0,r0⟩ t9 u0 ta tb;have X1:W.XCl K C1 CT:=W.XCl.of ⟨v1nm,v1q,v1N,v1bs,v1sn,v1sub,v1ab,v1col,v1dd,v1k0,v1k1,v1k2,v1k3,v1k5,q1,r1⟩ t9 u1 ta tb;have T:Tx K mg CT (fun i=>[C0,C1].getD i 0) (fun i=>[O0,O1,O2,O3].getD i 0):=⟨W.mg_of X G oa0,
  W.mg_of X G oa1,
  W.mg_of X G oa2,
  W.mg_of X G oa3,
  fun i hi=>match i,hi with | 0,_=>ObC.of of0 ta tb | 1,_=>ObC.of of1 ta tb | 2,_=>ObC.of of2 ta tb | 3,_=>ObC.of of3 ta tb | m+4,h=>absurd h (by omega),
  W.QRc oo,
  ⟨W.mg_of X G t1,⟨⟨ynm,yq,yN,ybs,thd,ysn,ysub,yab,ycol,ydd,yk0,yk1,yk2,yk3,yk5,t2,t3,t4⟩,t5⟩,t6,t7,t8⟩,
  W.mg_of X G p0,
  W.mg_of X G p1,
  fun i hi=>match i,hi with | 0,_=>X0 | 1,_=>X1 | m+2,h=>absurd h (by omega),
  fun i hi=>match i,hi with | 0,_=>fun f hf=>W.JBa u0 hf | 1,_=>fun f hf=>W.JBa u1 hf | m+2,h=>absurd h (by omega),
  W.Xdb tt,
  W.QNc tu⟩
 have FL:=F40;obtain⟨_,_,kV,dc,pm,an,cdv,ct,_,rfl,_,_⟩:=FL.ex;refine⟨W.fnOf "law" "law" (XX Xx) (Yk Xx) (Qh Xx) .none kV dc pm an cdv ct,fun s v=>.of_eq rfl,fun base _ _=>?_⟩
 have c0:=@cq0 l.prog w K mg base h X G;have c1:=@cq1 l.prog w K mg base h X G;have m1:=@mq1 l.prog w K mg base;have Xe:MkX l.prog w K mg base 1 "NotRising" C1 CT ["key"]:=⟨_,_,_,Qaa Z T F1,b1,X1,a1,j1,o1,W.mg_of X G p1⟩;have ZQa:MkX l.prog w K mg base 1 "NoPage" C0 CT ["number"]:=⟨_,_,_,ZLa Z T F2,b2,X0,a2,j2,o0,W.mg_of X G p0⟩;have Jla:=c0 (ZNa Z T  F3) (F3.binds fun _ _ _ _ _ _=>Jn fun _=>rfl) F3.kp a3
 have B_Page:BaI l.prog w K mg base 1 "Page" (ZO K (fun i=>[O0,O1,O2,O3].getD i 0)):=⟨O0,_,_,_,W.mg_of X G oa0,ClI.of e4,k4,Yja Z T  F4,b4⟩
 have JR:=m1 (YD Z T  F5) b5 a5_0 j5 k5;have ZE:=m1 (YD Z T  F5) b5 a5_1 j5 k5;have ZF:=m1 (YD Z T  F5) b5 a5_2 j5 k5;have Qda:=m1 (J6 Z T  F6) b6 a6_0 j6 k6;have YF:=m1 (J6 Z T  F6) b6 a6_1 j6 k6;have YG:=m1 (J6 Z T  F6) b6 a6_2 j6 k6;have Ju:=m1 (Xy Z T  F7) b7 a7_0 j7 k7;have Zd:=m1 (Xy Z T  F7) b7 a7_1 j7 k7;have Zi:=m1 (ZRa Z T  F8) b8 a8_1 j8 k8;have Q2:=m1 (Jga Z T  F9) b9 a9_2 j9 k9;have Zba:MkV l.prog w K mg base 1 "Pages" O3 (Z7 l.prog w (fun i=>[O0,O1,O2,O3].getD i 0)):=⟨_,_,_,⟨om3,a10_3,j10,ok3⟩,Jca Z T  F10,b10,W.mg_of X G oa3⟩
 have ZRb:=c0 (Qbb Z T  F11) (F11.binds fun _ _ _ _ _ _=>Jn fun _=>rfl) F11.kp a11
 have QRa:=c0 (Yoa Z T  F12) (F12.binds fun _ _ _ _ _ _=>ZT fun _ _=>rfl) F12.kp a12
 have Xua:=c0 (Ypa Z T  F13) (F13.binds fun _ _ _ _ _ _=>Jn fun _=>rfl) F13.kp a13
 have Xva:=c0 (Yqa Z T  F14) (F14.binds fun _ _ _ _ _ _=>Jn fun _=>rfl) F14.kp a14
 have Qfa:=c0 (Jha Z T  F15) (F15.binds fun _ _ _ _ _ _=>Jn fun _=>rfl) F15.kp a15
 have Qga:=c0 (Jia Z T  F16) (F16.binds fun _ _ _ _ _ _=>Jn fun _=>rfl) F16.kp a16
 have QXa:=c0 (QKa Z T  F17) (F17.binds fun _ _ _ _ _ _=>Jn fun _=>rfl) F17.kp a17
 have XEb:=c0 (Ydb Z T Jla F18) (F18.binds fun _ _ _ _ _ _=>Jn fun _=>rfl) F18.kp a18
 have Qab:MkV l.prog w K mg base 2 "Leaf" O1 (Jr K (fun i=>[O0,O1,O2,O3].getD i 0)):=⟨_,_,_,⟨om1,a19_1,j19,ok1⟩,Yka Z T B_Page F19,b19,W.mg_of X G oa1⟩
 have X9a:MkV l.prog w K mg base 2 "Twig" O2 (Js K (fun i=>[O0,O1,O2,O3].getD i 0)):=⟨_,_,_,⟨om2,a20_2,j20,ok2⟩,Yla Z T B_Page F20,b20,W.mg_of X G oa2⟩
 have YH:=m1 (Jea Z T JR ZE ZF F21) b21 a21_3 j21 k21;have Ywb:=c0 (ZKb Z T ZRb F22) (F22.binds fun _ _ _ _ _ _=>ZT fun _ _=>rfl) F22.kp a22
 have ZXa:=c0 (Xna Z T Xua Xva F23) (F23.binds fun _ _ _ _ _ _=>Jn fun _=>rfl) F23.kp a23
 have Qmb:=c0 (Xka Z T XEb F24) (F24.binds fun _ _ _ _ _ _=>Jn fun _=>rfl) F24.kp a24
 have QY:=m1 (QAa Z T ZQa F25) b25 a25_3 j25 k25;have Xwa:=c0 (Yta Z T Qga QRa Qfa ZXa F26) (F26.binds fun _ _ _ _ _ _=>Jn fun _=>rfl) F26.kp a26
 have ZYa:=c0 (QVa Z T Qga QRa Qfa ZXa F27) (F27.binds fun _ _ _ _ _ _=>ZT fun _ _=>rfl) F27.kp a27
 have JMa:=c0 (X8a Z T X9a Qab F28) (F28.binds fun _ _ _ _ _ _=>ZT fun _ _=>rfl) F28.kp a28
 have YM:=m1 (Jfa Z T QY F29) b29 a29_3 j29 k29;have ZMc:=c0 (Q3c Z T Qmb F30) (F30.binds fun _ _ _ _ _ _=>ZT fun _ _=>rfl) F30.kp a30
 have QG:=m1 (Jda Z T JMa QY F31) b31 a31_3 j31 k31;have ZZa:=c0 (Xma Z T ZMc JMa Qda YF YG YH F32) (F32.binds fun _ _ _ _ _ _=>Q5b fun _ _ _=>rfl) F32.kp a32
 have ZSb:=c0 (Qeb Z T ZZa F33) (F33.binds fun _ _ _ _ _ _=>Q5b fun _ _ _=>rfl) F33.kp a33
 have XFb:=c1 (Yjb Z T ZSb ZZa Ywb Xe F34) (F34.binds fun _ _ _ _ _ _=>ZT fun _ _=>rfl) F34.kp a34
 have J8:∀ n,MeV l.prog w K mg base (5+n) O2 "spread" (ZQ l.prog w (fun i=>[C0,C1].getD i 0) (fun i=>[O0,O1,O2,O3].getD i 0) n):=fun n=>by
  induction n with
  | zero=>exact⟨_,_,_,⟨a35_2,j35,k35⟩,QEa,b35⟩
  | succ n ih=>exact⟨_,_,_,⟨a35_2,j35,k35⟩,ZSa Z T Ju Zd Q2 Zi QG ih F35,b35⟩
 have ZTb:=c0 (Qfb Z T J8 Zi QG F36) (F36.binds fun _ _ _ _ _ _=>ZT fun _ _=>rfl) F36.kp a36
 have Yxa:∀ n,Cal l.prog w K mg base (6+n) "numbers_of" ["pages","root"] (Ja l.prog w (fun i=>[C0,C1].getD i 0) (fun i=>[O0,O1,O2,O3].getD i 0) n):=fun n=>by
  induction n with
  | zero=>exact c0 QEa b37 k37 a37
  | succ n ih=>exact c0 (Jja Z T Ju Zd Q2 QG ih F37) b37 k37 a37
 have Jma:∀ n,Cal l.prog w K mg base (6+n) "_law_spread" ["_law_pages","_law_number"] (ZS l.prog w (fun i=>[C0,C1].getD i 0) (fun i=>[O0,O1,O2,O3].getD i 0) n):=fun n=>by
  induction n with
  | zero=>exact c0 QEa b38 k38 a38
  | succ n ih=>exact c0 (ZUa Z T JR ZE ZF QG ih F38) b38 k38 a38
 have QYa:=c0 (QIa Z T Yxa Jma YM F39) (F39.binds fun _ _ _ _ _ _=>ZT fun _ _=>rfl) F39.kp a39
 exact Q4c Z T Xwa ZYa XFb QYa QXa ZTb Zba F40
end My
namespace PySem.W.Fast
def tw4801460299540807979:Nat:=0
def tw4968849104612581773:Nat:=0
def tw5038084504975597367:Nat:=0
def tw13760793201878623587:Nat:=0
def tw17342145192788722474:Nat:=0
def tw5056168849045922111:Nat:=0
def tw2017644832797410003:Nat:=0
def tw8707631181095117857:Nat:=0
def tw7933503554139442368:Nat:=0
def tw6015831661429916061:Nat:=0
def tw8463893331388123475:Nat:=0
def tw1628020625802871118:Nat:=0
def tw12900895010427347925:Nat:=0
def tw17171566795503064380:Nat:=0
def tw4493685938949587485:Nat:=0
def tw7145017782663572864:Nat:=0
def tw7471165220441747581:Nat:=0
def tw9184597401917490754:Nat:=0
def tw15950869086354132075:Nat:=0
def tw216173164239715010:Nat:=0
def tw2732764934376684897:Nat:=0
def tw82932786685154241:Nat:=0
def tw12308734461002684391:Nat:=0
def tw16899528481759412123:Nat:=0
def tw5099649466648620088:Nat:=0
def tw12991641614878062561:Nat:=0
def tw13696329567559928417:Nat:=0
def tw14744927142133278673:Nat:=0
def tw6498353080127252706:Nat:=0
def tw17260350025863965091:Nat:=0
def tw9860465457208663785:Nat:=0
def tw10287625570622797989:Nat:=0
def tw9217853179431951294:Nat:=0
def tw2309819648371794342:Nat:=0
def tw9538183754340952184:Nat:=0
def tw1781674187163543861:Nat:=0
def tw829369011553226334:Nat:=0
def tw17326622329879862955:Nat:=0
def tw3974923214451308801:Nat:=0
def tw7163346367050712405:Nat:=0
def tw5598544188927682732:Nat:=0
def tw14318453878471095023:Nat:=0
def tw4316278552953155419:Nat:=0
def tw10091252166842228151:Nat:=0
def tw2373078206780722625:Nat:=0
def tw6960489545717386328:Nat:=0
def tw6288826360365581720:Nat:=0
def tw15820859922393972812:Nat:=0
def tw8175964187916642760:Nat:=0
def tw6801030411955362158:Nat:=0
def tw3254488795368307813:Nat:=0
def tw14941929121728347308:Nat:=0
def tw5539350428037007352:Nat:=0
def tw12645732438745068733:Nat:=0
def tw5273685708127763597:Nat:=0
def tw14920106260201160228:Nat:=0
def tw11203039916680348468:Nat:=0
def tw13428438002107767080:Nat:=0
def tw16828161324320344553:Nat:=0
def tw13164548531752487851:Nat:=0
def tw11170395435383558825:Nat:=0
def tw17007626315841534382:Nat:=0
def tw7187291274837146864:Nat:=0
def tw11915973243454646602:Nat:=0
def tw3822379775081358668:Nat:=0
def tw14713464688759149061:Nat:=0
def tw3943312787462061525:Nat:=0
def tw14206139877377526693:Nat:=0
def tw4748228066371366002:Nat:=0
def tw3031727152564521191:Nat:=0
def tw18029400338431064588:Nat:=0
def tw1833354683950554542:Nat:=0
def tw7898714218014822557:Nat:=0
def tw6390695648580604527:Nat:=0
def tw17799989725957610040:Nat:=0
def tw7185409619922910285:Nat:=0
def tw5254894899371649836:Nat:=0
def tw9337195380712066726:Nat:=0
def tw8542950225469820229:Nat:=0
def tw16808519203089946589:Nat:=0
def tw2773843028222920306:Nat:=0
def tw9432567443329078401:Nat:=0
def tw10940876957728871245:Nat:=0
def tw14310866040184335970:Nat:=0
def tw3003459429843705031:Nat:=0
def tw18244344622612442913:Nat:=0
def tw934811360444999753:Nat:=0
def tw10445514150577684535:Nat:=0
def tw18187225768199985761:Nat:=0
def tw2489763071994178033:Nat:=0
def tw5619889595966081790:Nat:=0
def tw1412014284942632997:Nat:=0
def tw16602124688618103871:Nat:=0
def tw14943664695374294745:Nat:=0
def tw11911645455589498336:Nat:=0
def tw1531083499436686669:Nat:=0
def tw16167712700666169947:Nat:=0
def tw9319376710979520916:Nat:=0
def tw17263958358474911645:Nat:=0
def tw9085523413756809882:Nat:=0
def tw5548431114391467277:Nat:=0
def tw12567853092941868428:Nat:=0
def tw11004154401327927343:Nat:=0
def tw9758860680623902599:Nat:=0
def tw14436440414512613180:Nat:=0
def tw18053633024510512082:Nat:=0
def tw5018799127597282479:Nat:=0
def tw14249889852300061578:Nat:=0
def tw11072390866616074755:Nat:=0
def tw4519766832610303411:Nat:=0
def tw5358309412731848547:Nat:=0
def tw10075884515566733906:Nat:=0
def tw5287855945478194418:Nat:=0
def tw17453123028615948718:Nat:=0
def tw10809245075492058507:Nat:=0
def tw14300846572646299964:Nat:=0
def tw14095419570895480892:Nat:=0
def tw4920151791894107346:Nat:=0
def tw1142920920225182239:Nat:=0
def tw11074263553847027280:Nat:=0
def tw13517725746616425078:Nat:=0
def tw16010073562182181373:Nat:=0
def tw7061750883028852956:Nat:=0
def tw1878051918928931506:Nat:=0
def tw2564082170928916570:Nat:=0
def tw4075844491486642525:Nat:=0
def tw17564429551289320333:Nat:=0
def tw7600782803008922596:Nat:=0
def tw17000979471283637508:Nat:=0
def tw9702197837164089716:Nat:=0
def tw1877183400470506619:Nat:=0
def tw8341630920348859733:Nat:=0
def tw9889818485726427082:Nat:=0
def tw1051515291584036133:Nat:=0
def tw5747845881352332062:Nat:=0
def tw5791640842732693563:Nat:=0
def tw17594412230735234814:Nat:=0
def tw12099681398315188374:Nat:=0
def tw16604791694348640927:Nat:=0
def tw12484943711681308203:Nat:=0
def tw12028953630353173065:Nat:=0
def tw14197939107266117177:Nat:=0
def tw2964870836469578380:Nat:=0
def tw15748480910582413470:Nat:=0
def tw12804736509804316466:Nat:=0
def tw12502890205008896916:Nat:=0
def tw8791296971005330565:Nat:=0
def tw16404294890524245732:Nat:=0
def tw1970871920002940174:Nat:=0
def tw3560036143960875746:Nat:=0
def tw5238602855032816770:Nat:=0
def tw17568799501050910910:Nat:=0
def tw14230153004850897825:Nat:=0
def tw16957483084928682958:Nat:=0
def tw7599066060776750394:Nat:=0
def tw7280250295905203313:Nat:=0
def tw532815963855561043:Nat:=0
def tw9379370110780474059:Nat:=0
def tw18361437195473896605:Nat:=0
def tw459317467235420554:Nat:=0
def tw4143033543932000647:Nat:=0
def tw12281082728838909555:Nat:=0
def tw5394744736580941431:Nat:=0
def tw9037401822094304953:Nat:=0
def tw14871122000903548143:Nat:=0
def tw15020825772697121598:Nat:=0
def tw9544546216677792659:Nat:=0
def tw893278883606020177:Nat:=0
def tw13225790549982835811:Nat:=0
def tw1085692430638297546:Nat:=0
def tw13840361523072692030:Nat:=0
def tw6096195418862119948:Nat:=0
def tw2479626965700674823:Nat:=0
def tw3143738369303521840:Nat:=0
def tw11813646223703906725:Nat:=0
def tw14114246002145165088:Nat:=0
def tw5043926768002556444:Nat:=0
def tw10849854745934758962:Nat:=0
def tw6988551504568135941:Nat:=0
def tw17271501384007970297:Nat:=0
def tw452694322568804412:Nat:=0
def tw7547911629298844891:Nat:=0
def tw683521199024396876:Nat:=0
def tw6598630649070404632:Nat:=0
def tw2614871907276472399:Nat:=0
def tw10908572371335712140:Nat:=0
def tw1588322595068801822:Nat:=0
def tw11426041697722001828:Nat:=0
def tw10084675325991064116:Nat:=0
def tw12216306618064290892:Nat:=0
def tw11255808157489774356:Nat:=0
def tw18118617049802202328:Nat:=0
def tw15445760514631240913:Nat:=0
def tw15120340050488533403:Nat:=0
def tw2785363834840143079:Nat:=0
def tw15344468890614618821:Nat:=0
def tw7462803789232445464:Nat:=0
def tw16209396822851495181:Nat:=0
def tw18108869286870872748:Nat:=0
def tw6503085065956851250:Nat:=0
def tw12980828889275217677:Nat:=0
def tw2229665766453223405:Nat:=0
def tw9937275214374057996:Nat:=0
def tw6209718496785501814:Nat:=0
def tw4420163305870115131:Nat:=0
def tw3055648569833383930:Nat:=0
def tw6292396521373503334:Nat:=0
def tw4608421493684691811:Nat:=0
def tw10015870872719870386:Nat:=0
def tw11948599032906876419:Nat:=0
def tw8926133573089655615:Nat:=0
def tw14363179700184424856:Nat:=0
def tw3660740939462234291:Nat:=0
def tw17786127683422901872:Nat:=0
def tw16895430250711079545:Nat:=0
def tw5105011326473497347:Nat:=0
def tw10872454144132855018:Nat:=0
def tw8950149027388098832:Nat:=0
def tw3183729164729151534:Nat:=0
def tw10954916945374190728:Nat:=0
def tw17677241466362115120:Nat:=0
def tw11132518391415112955:Nat:=0
def tw3568989257600352580:Nat:=0
def tw5528400614000946349:Nat:=0
def tw6733179023785166166:Nat:=0
def tw17852152904033559938:Nat:=0
def tw12198632521466804545:Nat:=0
def tw18164172857757410005:Nat:=0
def tw4833727276426075733:Nat:=0
def tw6802119988315120265:Nat:=0
def tw15875826773591099475:Nat:=0
def tw15942492381396617777:Nat:=0
def tw15883580689443243031:Nat:=0
def tw3416212929049329130:Nat:=0
def tw10619686349372511119:Nat:=0
def tw8947255571139201961:Nat:=0
def tw2015326280713931572:Nat:=0
def tw9448326202871717874:Nat:=0
def tw11653476095507891997:Nat:=0
def tw4761494205712077813:Nat:=0
def tw8284684531515190549:Nat:=0
def tw6826139500566531506:Nat:=0
def tw8534213841915044951:Nat:=0
def tw1612655795221766427:Nat:=0
def tw9327016768402434312:Nat:=0
def tw16287123466334961022:Nat:=0
def tw1410629908813459848:Nat:=0
def tw7243304822544507853:Nat:=0
def tw10991645124325818781:Nat:=0
def tw11120949049823904904:Nat:=0
def tw4830908285811835800:Nat:=0
def tw7207946269629581506:Nat:=0
def tw17020546715130888938:Nat:=0
def tw7050464875814861629:Nat:=0
def tw3098500524726597641:Nat:=0
end PySem.W.Fast
open PySem PySem.W PyProof.Rows
local macro_rules | `(tactic| walk_at "fn") => `(tactic| exact L2.Qpc (by k_is) (by k_is) (by k_is))
set_option maxRecDepth 100000 in
set_option maxHeartbeats 0 in
theorem PySem.Challenge.cw_twigtable_k19_whole_one_tree_holds : PySem.Challenge.rw_twigtable_k19_whole_one_tree.Holds := by
 w_on;o_law;k_head;(case hw=>w_witness2)
 k_fill
 refine L2.Jmb (l:=PySem.Challenge.rw_twigtable_k19_whole_one_tree) (n:=63) (k:=16) (x:="_law_script") (CX:=fun _=>L2.CX0) (sp:=My.ZVa) rfl (by decide) rfl ⟨rfl,by decide,by decide⟩ (fun w h Y=>W.kIn_of Y) ?F ?S ?C
 case F =>
  intro w mg fa h KX G hmg;refine' My.Q6c KX G hmg ?ta ?tb ?oa0 ?of0 ?oa1 ?of1 ?om1 ?ok1 ?oa2 ?of2 ?om2 ?ok2 ?oa3 ?of3 ?om3 ?ok3 ?oo ?t1 ?t2 ?t3 ?t4 ?t5 ?t6 ?t7 ?t8 ?t9 ?p0 ?q0 ?r0 ?u0 ?o0 ?p1 ?q1 ?r1 ?u1 ?o1 ?tt ?tu ?a1 ?j1 ?F1 ?a2 ?j2 ?F2 ?a3 ?F3 ?a4_0 ?j4 ?F4 ?e4 ?a5_0 ?a5_1 ?a5_2 ?j5 ?F5 ?a6_0 ?a6_1 ?a6_2 ?j6 ?F6 ?a7_0 ?a7_1 ?j7 ?F7 ?a8_1 ?j8 ?F8 ?a9_2 ?j9 ?F9 ?a10_3 ?j10 ?F10 ?a11 ?F11 ?a12 ?F12 ?a13 ?F13 ?a14 ?F14 ?a15 ?F15 ?a16 ?F16 ?a17 ?F17 ?a18 ?F18 ?a19_1 ?j19 ?F19 ?a20_2 ?j20 ?F20 ?a21_3 ?j21 ?F21 ?a22 ?F22 ?a23 ?F23 ?a24 ?F24 ?a25_3 ?j25 ?F25 ?a26 ?F26 ?a27 ?F27 ?a28 ?F28 ?a29_3 ?j29 ?F29 ?a30 ?F30 ?a31_3 ?j31 ?F31 ?a32 ?F32 ?a33 ?F33 ?a34 ?F34 ?a35_0 ?a35_2 ?j35 ?F35 ?a36 ?F36 ?a37 ?F37 ?a38 ?F38 ?a39 ?F39 ?a40 ?F40 ?z1 ?z2 ?z3 ?z4 ?z5 ?z6 ?z7 ?z8 ?z9 ?z10 ?g1 ?g2
  (case ta=>(first | rfl | kernel_rfl | decide +kernel))
  (case tb=>(first | rfl | kernel_rfl | decide +kernel))
  (case oa0=>k_is)
  (case of0=>(first | rfl | kernel_rfl | decide +kernel))
  (case oa1=>k_is)
  (case of1=>(first | rfl | kernel_rfl | decide +kernel))
  (case om1|ok1|oa2=>k_is)
  (case of2=>(first | rfl | kernel_rfl | decide +kernel))
  (case om2|ok2|oa3=>k_is)
  (case of3=>(first | rfl | kernel_rfl | decide +kernel))
  (case om3|ok3=>k_is)
  (case oo=>(first | rfl | kernel_rfl | decide +kernel))
  (case t1|t2=>k_is)
  (case t3=>(first | rfl | kernel_rfl | decide +kernel))
  (case t4=>(first | rfl | kernel_rfl | decide +kernel))
  (case t5=>(first | rfl | kernel_rfl | decide +kernel))
  (case t6=>(first | rfl | kernel_rfl | decide +kernel))
  (case t7=>(first | rfl | kernel_rfl | decide +kernel))
  (case t8=>(first | rfl | kernel_rfl | decide +kernel))
  (case t9=>(first | rfl | kernel_rfl | decide +kernel))
  (case p0|q0=>k_is)
  (case r0=>(first | rfl | kernel_rfl | decide +kernel))
  (case u0=>(first | rfl | kernel_rfl | decide +kernel))
  (case o0|p1|q1=>k_is)
  (case r1=>(first | rfl | kernel_rfl | decide +kernel))
  (case u1=>(first | rfl | kernel_rfl | decide +kernel))
  (case o1=>k_is)
  (case tt=>(first | rfl | kernel_rfl | decide +kernel))
  (case tu=>(first | rfl | kernel_rfl | decide +kernel))
  (case a1|j1|a2|j2|a3|a4_0|j4=>k_is)
  (case e4=>(first | rfl | kernel_rfl | decide +kernel))
  (case a5_0|a5_1|a5_2|j5|a6_0|a6_1|a6_2|j6|a7_0|a7_1|j7|a8_1|j8|a9_2|j9|a10_3|j10|a11|a12|a13|a14|a15|a16|a17|a18|a19_1|j19|a20_2|j20|a21_3|j21|a22|a23|a24|a25_3|j25|a26|a27|a28|a29_3|j29|a30|a31_3|j31|a32|a33|a34|a35_0|a35_2|j35|a36|a37|a38|a39|a40|z1|z2|z3|z4|z5|z6|z7|z8|z9|z10|g1|g2=>k_is)
  (case F1 | F2 | F3 | F4 | F5 | F6 | F7 | F8 | F9 | F10 | F11 | F12 | F13 | F14 | F15 | F16 | F17 | F18 | F19 | F20 | F21 | F22 | F23 | F24 | F25 | F26 | F27 | F28 | F29 | F30 | F31 | F32 | F33 | F34 | F35 | F36 | F37 | F38 | F39 | F40=>walk_at "fn")
 case S=>exact fun w H a ns hl hb hO hS=>My.Q5c hl hb hS
 case C=>exact fun _ _ _ _ _ z=>z
end
