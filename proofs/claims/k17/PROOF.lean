import PyProof.Rows.All
import Wide.All
import OpenK.AllK
import Wide.FinOn
import Lean
import PyProof.EqAt
import PyProof.EqKinds
import PyProof.TupleCall
import PyProof.NeKinds
import PyProof.StrOps2
import PySem.Challenge.RW_twigtable_k17_rows_and_numbers
local macro_rules | `(tactic| omega) => `(tactic| lia)
abbrev YQ_:=PySem.Value->PySem.Shared->Prop
abbrev YP_:=List (PySem.Addr×PySem.Obj)
open List
section
open PySem
abbrev Va:=@wpAny_bind
abbrev Vb:=@List.getElem?_eq_getElem
abbrev Vc:=@List.getElem?_eq_some_iff
abbrev Vd:=@Heap.get?_push_of_some
abbrev Ve:=@Nat.le_refl
abbrev Vf:=@Bool.false_ne_true
abbrev Vg:=@wpAny_pure
abbrev Vh:=@Heap.lt_size
abbrev Vi:=@Heap.get?_push_size
abbrev Vj:=@Nat.le_trans
abbrev Vk:=@Nat.zero_le
abbrev Vl:=@List.mem_append
abbrev Vm:=@List.mem_of_getElem?
abbrev Vn:=@List.size_toArray
abbrev Vo:=@List.mem_cons_of_mem
abbrev Vp:=@List.mem_append_right
abbrev Vq:=@List.append_assoc
abbrev Vr:=@List.length_map
abbrev Vs:=@List.length_append
abbrev Vt:=@Nat.lt_of_lt_of_le
abbrev Vu:=@Nat.lt_irrefl
abbrev Vv:=@Nat.le_of_lt
end
set_option Elab.async false
set_option linter.all false
set_option maxRecDepth 100000
set_option maxHeartbeats 4000000
section
namespace L2
open PySem PySem.Spec PyProof.Rows
abbrev Key:=Sum Int Str
def X7:Key->Value->Bool
 | .inl k,v=>Value.isInt k v
 | .inr x,v=>Value.isStrOf x v
def YZc(w:World):Key->Int
 | .inl k=>hashInt k
 | .inr x=>hashStr w x
theorem Q0:∀ {k:Key} {v:Value},X7 k v=true->(∃ i t,k=Sum.inl i/\v=Value.int i t)\/(∃ x t,k=Sum.inr x/\v=Value.str x t)
 | .inl i,v,h=>by
  obtain⟨t,e⟩:=Value.isInt_shape (k:=i) (v:=v) h;exact .inl ⟨i,t,rfl,e⟩
 | .inr x,v,h=>by
  obtain⟨t,e⟩:=Value.isStrOf_shape (x:=x) (v:=v) h;exact .inr ⟨x,t,rfl,e⟩
theorem J1b(i:Int)(t:Tok):X7 (.inl i) (.int i t)=true:=by simp[X7,Value.isInt]
theorem J2b(x:Str)(t:Tok):X7 (.inr x) (.str x t)=true:=by simp[X7,Value.isStrOf]
theorem Jec(a b:Int):decide ((Sum.inl a:Key)=Sum.inl b)=(a == b):=by
 by_cases e:a=b
 ·subst e;simp
 ·have h:¬ (Sum.inl a:Key)=Sum.inl b:=fun q=>e (Sum.inl.inj q)
  rw[decide_eq_false h];exact(beq_eq_false_iff_ne.mpr e).symm
theorem Jfc(a b:Str):decide ((Sum.inr a:Key)=Sum.inr b)=decide (a=b):=by
 by_cases e:a=b
 ·subst e;simp
 ·have h:¬ (Sum.inr a:Key)=Sum.inr b:=fun q=>e (Sum.inr.inj q)
  rw[decide_eq_false h,decide_eq_false e]
theorem Jgc(a:Int)(b:Str):decide ((Sum.inl a:Key)=Sum.inr b)=false:=decide_eq_false (fun q=>nomatch q)
theorem Jhc(a:Str)(b:Int):decide ((Sum.inr a:Key)=Sum.inl b)=false:=decide_eq_false (fun q=>nomatch q)
def QL(prog:Program)(w:World):PySem.KeyKind prog w Key where
 is:=X7
 hash:=YZc w
 inj:=fun v a b ha hb=>by
  rcases Q0 ha with ⟨i,t,rfl,rfl⟩ | ⟨x,t,rfl,rfl⟩
  ·rcases Q0 hb with ⟨j,u,rfl,e⟩ | ⟨y,u,rfl,e⟩
   ·injection e with e1 _;rw[e1]
   ·exact nomatch e
  ·rcases Q0 hb with ⟨j,u,rfl,e⟩ | ⟨y,u,rfl,e⟩
   ·exact nomatch e
   ·injection e with e1 _;rw[e1]
 byValue:=fun k v h=>by
  rcases Q0 h with ⟨i,t,rfl,rfl⟩ | ⟨x,t,rfl,rfl⟩ <;> rfl
 pyHash:=fun hv h=>by
  rcases Q0 hv with ⟨i,t,rfl,rfl⟩ | ⟨x,t,rfl,rfl⟩
  ·exact wpAny_pyHash_int h
  ·exact wpAny_pyHash_str h
 eqBool:=fun hu hv h=>by
  rcases Q0 hu with ⟨i,t,rfl,rfl⟩ | ⟨x,t,rfl,rfl⟩
  ·rcases Q0 hv with ⟨j,u,rfl,rfl⟩ | ⟨y,u,rfl,rfl⟩
   ·rw[Jec]at h;exact wpAny_eqBool_int h
   ·rw[Jgc]at h;exact SeqAt.EqAt.int_str i t y u _ _ _ _ h
  ·rcases Q0 hv with ⟨j,u,rfl,rfl⟩ | ⟨y,u,rfl,rfl⟩
   ·rw[Jhc]at h;exact SeqAt.EqAt.str_int x t j u _ _ _ _ h
   ·rw[Jfc]at h;exact wpAny_eqBool_str h
 «strs»:=fun k x t v h=>by
  rcases Q0 h with ⟨i,u,rfl,e⟩ | ⟨y,u,rfl,e⟩
  ·exact nomatch e
  ·injection e with e1 _
   subst e1;cases v <;> rfl
theorem XSa(prog:Program)(w:World)(i:Int)(t:Tok):(QL prog w).is (.inl i) (.int i t)=true:=J1b i t
theorem XTa(prog:Program)(w:World)(x:Str)(t:Tok):(QL prog w).is (.inr x) (.str x t)=true:=J2b x t
inductive V where
 | non | bl (b:Bool) | int (i:Int) | str (x:Str) | byt (b:Array UInt8) | flt (b:UInt64) | ref (a:Addr) | ty (n:String)
 deriving DecidableEq
def Qq:V->Value->Prop
 | .non,u=>u=Value.none
 | .bl b,u=>u=Value.bool b
 | .int i,u=>∃ t,u=Value.int i t
 | .str x,u=>∃ t,u=Value.str x t
 | .byt b,u=>∃ t,u=Value.bytes b t
 | .flt b,u=>∃ t,u=Value.float b t
 | .ref a,u=>u=Value.ref a
 | .ty n,u=>u=Value.type n
abbrev Qr:List V->List Value->Prop:=Paired Qq
theorem Qr.length{xs:List V}{us:List Value}(r:Qr xs us):xs.length=us.length:=Paired.length r
theorem Qr.get:∀ {xs:List V} {us:List Value} {i:Nat} {x:V},Qr xs us->xs[i]?=some x->∃ u,us[i]?=some u/\Qq x u
 | _,_,_,_,.nil,e=>by simp at e
 | _,_,0,_,.cons r _,e=>by simp at e;subst e;exact⟨_,rfl,r⟩
 | _,_,i+1,x,.cons _ t,e=>by
  obtain⟨u,h1,h2⟩:=Qr.get (i:=i) (x:=x) t (by simpa using e)
  exact⟨u,by simpa using h1,h2⟩
theorem Qr.set{x:V}{u:Value}(r:Qq x u):∀ {xs:List V} {us:List Value} (i:Nat),Qr xs us->Qr (xs.set i x) (us.set i u)
 | _,_,_,.nil=>.nil
 | _,_,0,.cons _ t=>.cons r t
 | _,_,i+1,.cons q t=>.cons q (Qr.set r i t)
theorem Qr.append:∀ {xs ys:List V} {us ws:List Value},Qr xs us->Qr ys ws->Qr (xs++ys) (us++ws)
 | _,_,_,_,.nil,s=>s
 | _,_,_,_,.cons r t,s=>.cons r (Qr.append t s)
theorem Qr.take:∀ {xs:List V} {us:List Value} (n:Nat),Qr xs us->Qr (xs.take n) (us.take n)
 | _,_,0,_=>.nil
 | _,_,_+1,.nil=>.nil
 | _,_,n+1,.cons r t=>.cons r (Qr.take n t)
theorem Qr.drop:∀ {xs:List V} {us:List Value} (n:Nat),Qr xs us->Qr (xs.drop n) (us.drop n)
 | _,_,0,r=>r
 | _,_,_+1,.nil=>.nil
 | _,_,n+1,.cons _ t=>Qr.drop n t
theorem Qr.none_of:∀ {xs:List V} {us:List Value} {i:Nat},Qr xs us->xs[i]?=none->us[i]?=none:=fun {xs us i} r e=>by
 have h1:=r.length;have h2:xs.length<=i:=List.getElem?_eq_none_iff.mp e
 exact List.getElem?_eq_none_iff.mpr (by omega)
def JS:Option V->Option Value->Prop
 | some v,some u=>Qq v u
 | none,none=>True
 | _,_=>False
def KV{κ:Type}:List (κ×V)->List (κ×Value)->Prop:=Paired fun(p:κ×V) (q:κ×Value)=>p.1=q.1/\Qq p.2 q.2
def kV:Key->V
 | .inl i=>.int i
 | .inr x=>.str x
inductive HO where
 | lst (xs:List V)
 | tup (xs:List V)
 | dK (kvs:List (Key×V)) | dT (kvs:List (List Key×V))
 | set (S:Int->Bool) (n:Nat)
 | ins (C dx:Addr) (fs:List (Str×V))
 | own (x:Addr)
 | xd (fs:List (Str×V))
 | met (f x:Addr)
 | rng (lo hi:Int)
 | frz (o:Obj) (u:HO)
 | tbl (ps:Array Value)
 | ext (φ:Heap->Prop)
abbrev Hp:=Addr->Option HO
def upd(H:Hp)(a:Addr)(o:HO):Hp:=fun b=>if b=a then some o else H b
theorem Qa{H:Hp}{a:Addr}{o:HO}:upd H a o a=some o:=by unfold upd;rw[if_pos rfl]
theorem Qe{H:Hp}{a b:Addr}{o:HO}(h:b≠a):upd H a o b=H b:=by unfold upd;rw[if_neg h]
theorem YD{H:Hp}{a:Addr}{o u:HO}:upd (upd H a o) a u=upd H a u:=by
 funext b;unfold upd;split <;> rfl
theorem Jo{H:Hp}{a b:Addr}{o u:HO}(h:H a=some o)(h':H b=some u)(d:o≠u):a≠b:=by
 intro e;subst e;rw[h]at h';exact d (Option.some.inj h')
theorem Qo{H:Hp}{a b:Addr}{o:HO}(h:H a=some o)(h':H b=none):a≠b:=by
 intro e;subst e;rw[h]at h';cases h'
section
variable(P:Program)(w:World)
def QA(H:Hp)(h:Heap)(a:Addr):HO->Prop
 | .lst xs=>xs.length<=sizeLine/\∃ (its:List Value) (n:Nat),Qr xs its/\h.get? a=some { cls:=.type "list",data:=.seq its.toArray n }
 | .tup xs=>(xs.length<=sizeLine/\∃ o,h.get? a=some o/\o.dict=none)/\∃ its:List Value,Qr xs its/\IsTup h a its.toArray
 | .dK kvs=>kvs.length<=sizeLine/\(a == sysModules)=false/\∃ vs,KV kvs vs/\h.DictOf (QL P w) a vs
 | .dT kvs=>kvs.length<=sizeLine/\(a == sysModules)=false/\∃ xs:List (List Key×Addr×Value),
  Paired (fun(p:List Key×V) (q:List Key×Addr×Value)=>p.1=q.1/\H q.2.1=some (.tup (p.1.map kV))/\Qq p.2 q.2.2) kvs xs /\
  ∃ o es ep,h.get? a=some o/\o.ExactDict/\o.data=.dict es ep/\es.toList=xs.map (entryOfKey (tupleKind (QL P w)))/\(xs.map (·.1)).Nodup
 | .set S n=>h.SetOf (intKind P w) a S n
 | .ins C dx fs=>H dx=some (.own a)/\fs.length<=1000/\dx≠a/\h.get? a=some (W.instObj C dx) /\
  ∃ mA,h.Ns1 dx mA/\(∀ f,JS (fs.lookup f) (mA f))/\PySem.Within mA (fs.map (·.1))
 | .own _=>∃ o,h.get? a=some o
 | .xd fs=>∃ mA,h.Ns1 a mA/\∀ f,JS (fs.lookup f) (mA f)
 | .rng lo hi=>∃ t u v,h.get? a=some { cls:=.type "range",data:=.fields #[.int lo t,.int hi u,.int 1 v] }
 | .frz o u=>h.get? a=some o/\QA H h a u
 | .tbl ps=>h.get? a=some { cls:=.none,data:=.fields ps }
 | .met f x=>h.get? a=some (W.methodObj (.ref f) (.ref x))
 | .ext φ=>φ h/\(∃ o,h.get? a=some o)/\∀ h1 h2:Heap,φ h1->(∀ o,h1.get? a=some o->h2.get? a=some o)->φ h2
def HOk(H:Hp)(h:Heap):Prop:=∀ a o,H a=some o->QA P w H h a o
end
section
variable{P:Program}{w:World}{H H':Hp}{h h':Heap}{a:Addr}{o:HO}
theorem QA.lt(x:QA P w H h a o):a < h.objs.size:=by
 cases o with
 | lst xs=>obtain⟨_,_,_,_,e⟩:=x;exact Vh e
 | tup xs=>obtain⟨_,_,_,p⟩:=x;exact p.lt
 | dK kvs=>obtain⟨_,_,_,_,o,_,_,e,_⟩:=x;exact Vh e
 | dT kvs=>obtain⟨_,_,_,_,o,_,_,e,_⟩:=x;exact Vh e
 | set S n=>obtain⟨o,_,_,_,e,_⟩:=x;exact Vh e
 | ins C dx fs=>obtain⟨_,_,_,e,_⟩:=x;exact Vh e
 | own y=>obtain⟨_,e⟩:=x;exact Vh e
 | xd fs=>obtain⟨_,⟨_,_,_,e,_⟩,_⟩:=x;exact Vh e
 | rng lo hi=>obtain⟨_,_,_,e⟩:=x;exact Vh e
 | frz ob u=>obtain⟨e,_⟩:=x;exact Vh e
 | tbl ps=>exact Vh (show h.get? a=some _ from x)
 | met f y=>exact Vh (show h.get? a=some _ from x)
 | ext φ=>obtain⟨_,⟨_,e⟩,_⟩:=x;exact Vh e
theorem Paired.mapP{α β:Type}{F G:α->β->Prop}:∀ {l₁:List α} {l₂:List β},Paired F l₁ l₂->(∀ a b,F a b->G a b)->Paired G l₁ l₂
 | _,_,.nil,_=>.nil
 | _,_,.cons r t,f=>.cons (f _ _ r) (Paired.mapP t f)
theorem QA.stay(x:QA P w H h a o)(k:∀ b u,(b=a\/H b=some (.own a))->h.get? b=some u->h'.get? b=some u)
 (ho:∀ b,H b=some (.own a)->H' b=some (.own a)) (ht:∀ b xs,H b=some (.tup xs)->H' b=some (.tup xs)):QA P w H' h' a o:=by
 induction o with
 | lst xs=>obtain⟨z,its,n,r,e⟩:=x;exact⟨z,its,n,r,k _ _ (.inl rfl) e⟩
 | tup xs=>obtain⟨⟨z,o1,e1,d1⟩,its,r,ob,e,c⟩:=x;exact⟨⟨z,o1,k _ _ (.inl rfl) e1,d1⟩,its,r,ob,k _ _ (.inl rfl) e,c⟩
 | dK kvs=>obtain⟨z,y,vs,r,ob,es,ep,e,c⟩:=x;exact⟨z,y,vs,r,ob,es,ep,k _ _ (.inl rfl) e,c⟩
 | dT kvs =>
  obtain⟨z,y,xs,r,ob,es,ep,e,c⟩:=x;exact⟨z,y,xs,Paired.mapP r fun p q z=>⟨z.1,ht _ _ z.2.1,z.2.2⟩,ob,es,ep,k _ _ (.inl rfl) e,c⟩
 | set S n=>obtain⟨ob,es,ep,t,e,c⟩:=x;exact⟨ob,es,ep,t,k _ _ (.inl rfl) e,c⟩
 | ins C dx fs =>
  obtain⟨d,z,ne,e,mA,⟨od,es,ep,e2,c⟩,r⟩:=x;exact⟨ho _ d,z,ne,k _ _ (.inl rfl) e,mA,⟨od,es,ep,k _ _ (.inr d) e2,c⟩,r⟩
 | own y=>obtain⟨ob,e⟩:=x;exact⟨ob,k _ _ (.inl rfl) e⟩
 | xd fs=>obtain⟨mA,⟨od,es,ep,e,c⟩,r⟩:=x;exact⟨mA,⟨od,es,ep,k _ _ (.inl rfl) e,c⟩,r⟩
 | rng lo hi=>obtain⟨t,u,v,e⟩:=x;exact⟨t,u,v,k _ _ (.inl rfl) e⟩
 | frz ob u ih=>obtain⟨e,q⟩:=x;exact⟨k _ _ (.inl rfl) e,ih q⟩
 | tbl ps =>
  have e:h.get? a=some { cls:=.none,data:=.fields ps }:=x;show h'.get? a=some { cls:=.none,data:=.fields ps };exact k a _ (.inl rfl) e
 | met f y =>
  have e:h.get? a=some (W.methodObj (.ref f) (.ref y)):=x;show h'.get? a=some (W.methodObj (.ref f) (.ref y));exact k a _ (.inl rfl) e
 | ext φ=>obtain⟨p,⟨o,e⟩,st⟩:=x;exact⟨st _ _ p fun o q=>k _ _ (.inl rfl) q,⟨o,k _ _ (.inl rfl) e⟩,st⟩
theorem HOk.lt(x:HOk P w H h)(e:H a=some o):a < h.objs.size:=(x a o e).lt
theorem HOk.fresh(x:HOk P w H h)(e:h.objs.size<=a):H a=none:=by
 cases q:H a with
 | none=>rfl
 | some u=>exact absurd (Vt (x.lt q) e) (Vu _)
theorem HOk.kept(x:HOk P w H h)(k:∀ b u,h.get? b=some u->h'.get? b=some u):HOk P w H h':=fun a o e =>
 (x a o e).stay (fun b u _ q=>k b u q) (fun _ q=>q) fun _ _ q=>q
theorem HOk.laid(x:HOk P w H h)(k:∀ b u,h.get? b=some u->h'.get? b=some u)(hp:h.objs.size<=a)(new:QA P w (upd H a o) h' a o):HOk P w (upd H a o) h':=fun b u e=>by
 have hn:=x.fresh hp
 by_cases hb:b=a
 ·subst hb;rw[Qa]at e;cases e;exact new
 ·rw[Qe hb]at e
  exact(x b u e).stay (fun c v _ q=>k c v q) (fun c q=>by rw[Qe (Qo q hn)];exact q) fun c xs q=>by rw[Qe (Qo q hn)];exact q
end
def Rd(H:Hp)(a:Addr)(u:HO):Prop:=H a=some u\/∃ o,H a=some (.frz o u)
theorem Rd.ok{P:Program}{w:World}{H:Hp}{h:Heap}{a:Addr}{u:HO}(r:Rd H a u)(x:HOk P w H h):QA P w H h a u:=by
 rcases r with r | ⟨o,r⟩
 ·exact x a u r
 ·obtain⟨_,q⟩:=x a _ r
  exact q
def Mut:Option HO->Prop
 | some (.lst _)=>True
 | some (.dK _)=>True
 | some (.dT _)=>True
 | some (.set _ _)=>True
 | some (.ins _ _ _)=>True
 | some (.ext _)=>True
 | _=>False
section
variable{P:Program}{w:World}{H:Hp}{h h':Heap}{x e:Addr}{o':HO}
theorem HOk.write(ok:HOk P w H h)(mu:Mut (H x))(he:e=x\/H e=some (.own x))(k:∀ b u,b≠e->h.get? b=some u->h'.get? b=some u)(heo:∃ u,h'.get? e=some u)
 (new:QA P w (upd H x o') h' x o'):HOk P w (upd H x o') h':=fun b u q=>by
 have nown:∀ c y,H c=some (.own y)->c≠x:=fun c y r z=>by subst z;rw[r]at mu;exact mu
 have ntup:∀ c xs,H c=some (.tup xs)->c≠x:=fun c xs r z=>by subst z;rw[r]at mu;exact mu
 by_cases hb:b=x
 ·subst hb;rw[Qa]at q;cases q;exact new
 ·rw[Qe hb]at q
  by_cases hbe:b=e
  ·have q':H b=some (.own x):=by
    rcases he with z | z
    ·exact absurd (hbe.trans z) hb
    ·rw[hbe];exact z
   rw[q]at q';cases q';obtain⟨v,hv⟩:=heo;exact⟨v,by rw[hbe];exact hv⟩
  ·refine(ok b u q).stay (fun c v hc r=>k c v ?_ r) (fun c r=>by rw[Qe (nown c b r)];exact r) fun c xs r=>by rw[Qe (ntup c xs r)];exact r
   rcases hc with rfl | hc
   ·exact hbe
   ·rintro rfl
    rcases he with z | z
    ·exact nown c b hc z
    ·rw[hc]at z;cases z;exact hb rfl
end
structure Un(fs ex:List Addr)(H H':Hp)(h h':Heap):Prop where
 keep:∀ b o,h.get? b=some o->H b=none->b∉fs->b∉ex->h'.get? b=some o
 slot:∀ b o,h.get? b=some o->H b=none->b∈fs->b∉ex->∃ sl,h'.get? b=some { o with slots:=sl }
 free:∀ b o,h.get? b=some o->H b=none->b∉ex->H' b=none
 there:∀ b o,h.get? b=some o->b∉ex->∃ o',h'.get? b=some o'
 tups:∀ b xs,H b=some (.tup xs)->H' b=some (.tup xs)
 frzs:∀ b o u,H b=some (.frz o u)->H' b=some (.frz o u)
 tbls:∀ b ps,H b=some (.tbl ps)->∃ more,H' b=some (.tbl (ps++more))
section
variable{fs fs' ex ex':List Addr}{H H1 H2:Hp}{h h1 h2 h':Heap}{a x e:Addr}{o:HO}
theorem Un.any(u:Un fs ex H H1 h h1){b:Addr}{ob:Obj}(q:h.get? b=some ob)(n:H b=none)(hx:b∉ex):∃ sl,h1.get? b=some { ob with slots:=sl }:=by
 by_cases hb:b∈fs
 ·exact u.slot b ob q n hb hx
 ·exact⟨ob.slots,u.keep b ob q n hb hx⟩
theorem Un.kept(k:∀ b u,h.get? b=some u->h'.get? b=some u):Un fs ex H H h h' :=
 ⟨fun b ob q _ _ _=>k b ob q,fun b ob q _ _ _=>⟨ob.slots,k b ob q⟩,fun _ _ _ n _=>n,fun b ob q _=>⟨ob,k b ob q⟩,fun _ _ q=>q,fun _ _ _ q=>q,fun _ ps q=>⟨#[],by rw[q];simp⟩⟩
theorem Un.refl:Un fs ex H H h h:=Un.kept fun _ _ q=>q
theorem Un.laid(k:∀ b u,h.get? b=some u->h'.get? b=some u)(hp:h.objs.size<=a)(hn:H a=none):Un fs ex H (upd H a o) h h' where
 keep:=fun b u q _ _ _=>k b u q
 slot:=fun b u q _ _ _=>⟨u.slots,k b u q⟩
 free:=fun b u q n _=>by rw[Qe (Nat.ne_of_lt (Vt (Vh q) hp))];exact n
 there:=fun b u q _=>⟨u,k b u q⟩
 tups:=fun b xs q=>by rw[Qe (Qo q hn)];exact q
 frzs:=fun b u xs q=>by rw[Qe (Qo q hn)];exact q
 tbls:=fun b ps q=>⟨#[],by rw[Qe (Qo q hn),q];simp⟩
theorem Un.write(mu:Mut (H x))(he:e=x\/H e=some (.own x))(k:∀ b u,b≠e->h.get? b=some u->h'.get? b=some u)(heo:∃ u,h'.get? e=some u):Un fs ex H (upd H x o) h h':=by
 have hx:∀ b,H b=none->b≠x:=fun b n z=>by subst z;rw[n]at mu;exact mu
 have hb:∀ b,H b=none->b≠e:=fun b n z=>by
  subst z
  rcases he with r | r
  ·exact hx b n r
  ·rw[n]at r;cases r
 have hm:∀ b u,H b=some u->¬ Mut (some u)->b≠x:=fun b u q nm z=>by subst z;rw[q]at mu;exact nm mu
 refine⟨fun b u q n _ _=>k b u (hb b n) q,fun b u q n _ _=>⟨u.slots,k b u (hb b n) q⟩,fun b u q n _=>by rw[Qe (hx b n)];exact n,fun b u q _=>?_,
  fun b xs q=>by rw[Qe (hm b _ q fun z=>z)];exact q,fun b u xs q=>by rw[Qe (hm b _ q fun z=>z)];exact q,fun b ps q=>⟨#[],by rw[Qe (hm b _ q fun z=>z),q];simp⟩⟩
 by_cases hbe:b=e
 ·subst hbe;exact heo
 ·exact⟨u,k b u hbe q⟩
end
def trk(h:Heap)(H:Hp):List Addr:=(List.range h.objs.size).filter fun a=>(H a).isSome
def Y1a(h:Heap)(H:Hp):Heap:=W.hideAll h (trk h H)
theorem J3b(h:Heap)(H:Hp):(Y1a h H).objs.size=h.objs.size:=W.hideAll_size _ _
theorem YVb{h:Heap}{H:Hp}{b:Addr}{o:Obj}(e:h.get? b=some o)(n:H b=none):(Y1a h H).get? b=some o :=
 W.hideAll_get _ e fun hm=>by
  have q:(H b).isSome=true:=(mem_filter.mp hm).2;rw[n]at q;simp at q
theorem QGc{h:Heap}{H:Hp}{b:Addr}{o:Obj}(e:(Y1a h H).get? b=some o):h.get? b=some o/\H b=none:=by
 have e':h.get? b=some o:=W.of_hideAll (trk h H) e;refine⟨e',?_⟩
 cases q:H b with
 | none=>rfl
 | some x =>
  have hm:b∈trk h H:=mem_filter.mpr ⟨mem_range.mpr (Vh e'),by simp[q]⟩
  have z:(Y1a h H).get? b=none:=W.hideAll_none (trk h H) hm;rw[z]at e;cases e
def QHc(g h:Heap)(L:Addr):YP_:=(List.range h.objs.size).filterMap fun a=>if a=L\/(g.get? a).isSome=true then none else (h.get? a).map fun o=>(a,o)
def rest(g h:Heap)(L d:Addr):YP_:=(QHc g h L).filter fun p=>decide (p.1≠d)
structure Mod(K:W.Frag)(mg:Str->Option Value)(base:Heap):Prop where
 kin:K.In base
 glob:base.Ns mainGlobals mg
 blt:∃ mb,base.Ns builtinsNs mb/\∀ x:Str,x≠"__name__"->mb x=bootBuiltins x
 nolimit:base.NoLimit
structure Cx where
 prog:Program
 w:World
 K:W.Frag
 mg:Str->Option Value
 base:Heap
 A:Around
 N:List Str
 s₀:Shared
 H₀:Hp
 env:Env
 outer:List Env
 stack:List Env
 ex:List Addr
 fn:Str->Bool
 calm:Bool
 pn:YP_
 xe:YQ_
def frs(l:List Env):List Addr:=l.filterMap (·.frame)
abbrev Cx.fs(X:Cx):List Addr:=frs X.outer
def Vis(sc:Scope)(x:Str):Prop:=sc.names.lookup x=some .local\/sc.names.lookup x=some .cell\/sc.names.lookup x=some .free
def Loc(sc:Scope)(x:Str):Prop:=sc.names.lookup x=some .local\/sc.names.lookup x=some .cell
def Y0c(env:Env)(h:Heap)(m:Str->Option Value)(x:Str)(u:Value):Prop :=
 (env.kindOf x=some .local/\m x=some u)\/((env.kindOf x=some .cell\/env.kindOf x=some .free)/\∃ c,env.cells.lookup x=some c/\h.IsCell c (some u))
structure Cx.Ok(X:Cx):Prop where
 mod:Mod X.K X.mg X.base
 kind:X.env.scope.kind=.function
 glob:X.env.globals=mainGlobals
 blt:X.env.builtins=builtinsNs
 above:X.s₀.heap.objs.size<=X.env.locals
 inj:∀ x y c,X.env.cells.lookup x=some c->X.env.cells.lookup y=some c->x=y
 has:∀ x,(X.env.kindOf x=some .cell\/X.env.kindOf x=some .free)->∃ c,X.env.cells.lookup x=some c
 cab:∀ x c,X.fn x=true->X.env.cells.lookup x=some c->X.s₀.heap.objs.size<=c
 hd:X.calm=true->X.A.handled=none
 frames:X.A.frames=some X.stack
 stk:X.stack=X.outer\/(X.stack=X.env::X.outer/\X.env.frame=some X.env.locals)
 exf:∀ b∈X.ex,b≠X.env.locals/\∀ x c,X.env.cells.lookup x=some c->c≠b
 bs:∀ b o,X.base.get? b=some o->X.s₀.heap.get? b=some o/\X.H₀ b=none
 bsz:X.base.objs.size<=X.s₀.heap.objs.size
 noex:∀ b o,X.base.get? b=some o->b∉X.ex
 exfs:∀ b∈X.ex,b∉X.fs
 funs:X.s₀.heap.FunFrames X.base X.outer
 frf:∀ b∈X.fs,X.H₀ b=none
structure Inv(X:Cx)(pins:YP_)(σ:List (Option V))(H:Hp)(s:Shared):Prop where
 ok:X.Ok
 os:s.os=X.s₀.os
 bare:AllBare s.gens
 base:Un X.fs X.ex X.H₀ H X.s₀.heap s.heap
 loc:∃ m,s.heap.Ns X.env.locals m/\∀ (i:Nat) (x:Str) (v:V),X.N[i]?=some x->σ[i]?=some (some v)->Vis X.env.scope x->∃ u,Qq v u/\Y0c X.env s.heap m x u
 cell:∀ x c,X.env.cells.lookup x=some c->∃ v,s.heap.IsCell c v
 free:H X.env.locals=none
 freeC:∀ x c,X.env.cells.lookup x=some c->H c=none
 pin:∀ p∈X.pn++pins,s.heap.get? p.1=some p.2/\H p.1=none/\p.1≠X.env.locals/\p.1∉X.fs/\∀ v,p.2.data≠.cell v
 hok:HOk X.prog X.w H s.heap
 len:σ.length=X.N.length
section
variable{X:Cx}{pins:YP_}{σ:List (Option V)}{H H':Hp}{s:Shared}{h':Heap}
theorem Cx.Ok.nofr(ok:X.Ok){b:Addr}{o:Obj}(e:X.base.get? b=some o):b∉X.fs:=fun hb=>by
 have:=(ok.funs.mem hb).1;rw[e]at this;cases this
theorem Inv.bs(I:Inv X pins σ H s):∀ b o,X.base.get? b=some o->s.heap.get? b=some o/\H b=none:=fun b o e =>
 ⟨I.base.keep b o (I.ok.bs b o e).1 (I.ok.bs b o e).2 (I.ok.nofr e) (I.ok.noex b o e),I.base.free b o (I.ok.bs b o e).1 (I.ok.bs b o e).2 (I.ok.noex b o e)⟩
theorem Inv.bk(I:Inv X pins σ H s):∀ b o,X.base.get? b=some o->s.heap.get? b=some o:=fun b o e=>(I.bs b o e).1
theorem Inv.mod(I:Inv X pins σ H s):Mod X.K X.mg X.base:=I.ok.mod
theorem Inv.kIn(I:Inv X pins σ H s):X.K.In s.heap:=I.ok.mod.kin.keeps I.bk
theorem Inv.lt(I:Inv X pins σ H s):X.env.locals < s.heap.objs.size:=let ⟨_,hn,_⟩:=I.loc;hn.lt
theorem Inv.sz(I:Inv X pins σ H s):X.s₀.heap.objs.size<=s.heap.objs.size:=Vj I.ok.above (Vv I.lt)
theorem Inv.nofs(I:Inv X pins σ H s){a:Addr}(h:s.heap.objs.size<=a):a∉X.fs:=fun hb=>by
 obtain⟨_,o,ho,_⟩:=I.ok.funs.mem hb;exact absurd (Vt (Vh ho) (Vj I.sz h)) (Vu _)
theorem Inv.cne(I:Inv X pins σ H s):∀ x c,X.env.cells.lookup x=some c->c≠X.env.locals:=fun x c e z=>by
 obtain⟨v,o,ho,hd⟩:=I.cell x c e;obtain⟨m,⟨o',es,ep,ho',hd',_⟩,_⟩:=I.loc;rw[z,ho']at ho;cases ho;rw[hd']at hd;cases hd
theorem Inv.funs(I:Inv X pins σ H s):s.heap.FunFrames X.base X.outer:=by
 have all:∀ (l:List Env),(∀ b∈frs l,b∈X.fs)->X.s₀.heap.FunFrames X.base l->s.heap.FunFrames X.base l:=by
  intro l
  induction l with
  | nil=>intro _ _;trivial
  | cons env r ih =>
   intro hs hl;obtain⟨hk,⟨L,o,hf,hn,ho,hd⟩,hr⟩:=hl;have hL:L∈X.fs:=hs L (by unfold frs;rw[filterMap_cons,hf];exact mem_cons_self)
   obtain⟨sl,e⟩:=I.base.slot L o ho (I.ok.frf L hL) hL fun z=>I.ok.exfs L z hL
   exact⟨hk,⟨L,_,hf,hn,e,hd⟩,ih (fun b hb=>hs b (by unfold frs;rw[filterMap_cons,hf];exact Vo _ hb)) hr⟩
 exact all X.outer (fun _ hb=>hb) I.ok.funs
theorem Inv.stack(I:Inv X pins σ H s):s.heap.FunFrames X.base X.stack:=by
 rcases I.ok.stk with e | ⟨e,hf⟩
 ·rw[e];exact I.funs
 ·rw[e]
  obtain⟨m,hn,_⟩:=I.loc;refine .cons (by rw[I.ok.kind];decide) hf hn ?_ I.funs
  exact Heap.get?_none_of_le (Vj I.ok.bsz I.ok.above)
theorem Inv.stkSub(I:Inv X pins σ H s):∀ b∈frs X.stack,b∈X.env.locals::X.fs:=fun b hb=>by
 rcases I.ok.stk with e | ⟨e,hf⟩
 ·rw[e]at hb;exact Vo _ hb
 ·rw[e]at hb
  unfold frs at hb;rw[filterMap_cons,hf]at hb;exact hb
theorem Inv.stkFree(I:Inv X pins σ H s):∀ b∈frs X.stack,H b=none:=fun b hb=>by
 rcases mem_cons.mp (I.stkSub b hb) with e | hb
 ·rw[e];exact I.free
 ·obtain⟨_,o,ho,_⟩:=I.ok.funs.mem hb
  exact I.base.free b o ho (I.ok.frf b hb) fun z=>I.ok.exfs b z hb
theorem Inv.step{g':Array GenState}{t':Nat}{d':Drawn}{ch:List Addr}(I:Inv X pins σ H s)
 (hch:∀ b∈ch,(b∈X.ex\/X.s₀.heap.objs.size<=b)/\b≠X.env.locals/\(∀ x c,X.env.cells.lookup x=some c->c≠b)/\∀ p∈X.pn++pins,p.1≠b)
 (keep:∀ b o,b≠X.env.locals->b∉X.fs->b∉ch->s.heap.get? b=some o->H b=none->h'.get? b=some o)
 (slot:∀ b o,b≠X.env.locals->b∈X.fs->b∉ch->s.heap.get? b=some o->H b=none->∃ sl,h'.get? b=some { o with slots:=sl }) (free:∀ b o,b∉ch->s.heap.get? b=some o->H b=none->H' b=none)
 (there:∀ b o,b∉ch->s.heap.get? b=some o->∃ o',h'.get? b=some o')
 (tups:∀ b xs,H b=some (.tup xs)->H' b=some (.tup xs)) (frzs:∀ b o u,H b=some (.frz o u)->H' b=some (.frz o u)) (tbls:∀ b ps,H b=some (.tbl ps)->∃ more,H' b=some (.tbl (ps++more)))
 (ns:∀ m,s.heap.Ns X.env.locals m->h'.Ns X.env.locals m) (hok:HOk X.prog X.w H' h') (hg:AllBare g') :
 Inv X pins σ H' { s with heap:=h',gens:=g',drawn:=d',toks:=t' }:=by
 have neL:∀ b o,X.s₀.heap.get? b=some o->b≠X.env.locals:=fun b o e=>Nat.ne_of_lt (Vt (Vh e) I.ok.above)
 have neC:∀ b o,X.s₀.heap.get? b=some o->b∉X.ex->b∉ch:=fun b o e hx hb=>by
  rcases(hch b hb).1 with z | z
  ·exact hx z
  ·exact absurd (Vt (Vh e) z) (Vu _)
 have cellK:∀ x c,X.env.cells.lookup x=some c->∀ v,s.heap.IsCell c v->h'.IsCell c v:=fun x c e v ⟨o,ho,hd⟩=>by
  have nch:c∉ch:=fun z=>(hch c z).2.2.1 x c e rfl
  by_cases hc:c∈X.fs
  ·obtain⟨sl,q⟩:=slot c o (I.cne x c e) hc nch ho (I.freeC x c e)
   exact⟨_,q,hd⟩
  ·exact⟨o,keep c o (I.cne x c e) hc nch ho (I.freeC x c e),hd⟩
 refine⟨I.ok,I.os,hg,⟨fun b o e n hb hx=>?_,fun b o e n hb hx=>?_,fun b o e n hx=>?_,fun b o e hx=>?_,fun b xs e=>tups b xs (I.base.tups b xs e),fun b o xs e=>frzs b o xs (I.base.frzs b o xs e),fun b ps e=>?_⟩,?_,fun x c e=>?_,?_,fun x c e=>?_,fun p hp=>?_,hok,I.len⟩
 ·exact keep b o (neL b o e) hb (neC b o e hx) (I.base.keep b o e n hb hx) (I.base.free b o e n hx)
 ·obtain⟨sl,e1⟩:=I.base.slot b o e n hb hx
  obtain⟨sl',e2⟩:=slot b _ (neL b o e) hb (neC b o e hx) e1 (I.base.free b o e n hx);exact⟨sl',e2⟩
 ·obtain⟨o',e1⟩:=I.base.there b o e hx
  exact free b o' (neC b o e hx) e1 (I.base.free b o e n hx)
 ·obtain⟨o',e1⟩:=I.base.there b o e hx
  exact there b o' (neC b o e hx) e1
 ·obtain⟨m1,e1⟩:=I.base.tbls b ps e
  obtain⟨m2,e2⟩:=tbls b _ e1;exact⟨m1++m2,by rw[e2,Array.append_assoc]⟩
 ·obtain⟨m,hn,hl⟩:=I.loc
  refine⟨m,ns m hn,fun i x v e1 e2 e3=>?_⟩
  obtain⟨u,r,l⟩:=hl i x v e1 e2 e3;refine⟨u,r,?_⟩
  rcases l with l | ⟨k,c,e,z⟩
  ·exact .inl l
  ·exact .inr ⟨k,c,e,cellK x c e _ z⟩
 ·obtain⟨v,z⟩:=I.cell x c e
  exact⟨v,cellK x c e v z⟩
 ·obtain⟨m,⟨o,_,_,ho,_⟩,_⟩:=I.loc
  exact free _ o (fun z=>(hch _ z).2.1 rfl) ho I.free
 ·obtain⟨v,o,ho,hd⟩:=I.cell x c e
  exact free c o (fun z=>(hch c z).2.2.1 x c e rfl) ho (I.freeC x c e)
 ·obtain⟨e,n,ne,nf,d⟩:=I.pin p hp
  have nch:p.1∉ch:=fun z=>(hch p.1 z).2.2.2 p hp rfl
  exact⟨keep p.1 p.2 ne nf nch e n,free p.1 p.2 nch e n,ne,nf,d⟩
theorem Inv.un{t':Nat}(I:Inv X pins σ H s)(u:Un X.fs [] H H' s.heap h')(hok:HOk X.prog X.w H' h'):Inv X pins σ H' { s with heap:=h',toks:=t' }:=by
 obtain⟨m,⟨o,es,ep,ho,r⟩,_⟩:=id I.loc;obtain⟨sl,hL⟩:=u.any ho I.free (by simp)
 exact I.step (g':=s.gens) (d':=s.drawn) (ch:=[]) (fun _ z=>nomatch z) (fun b o _ hb _ e n=>u.keep b o e n hb (by simp)) (fun b o _ hb _ e n=>u.slot b o e n hb (by simp)) (fun b o _ e n=>u.free b o e n (by simp)) (fun b o _ e=>u.there b o e (by simp)) u.tups u.frzs u.tbls (fun m' hm=>by
  obtain⟨o',es',ep',ho',r'⟩:=hm;rw[ho]at ho';cases ho';exact⟨_,es',ep',hL,r'⟩) hok I.bare
theorem Inv.call{g':Array GenState}{t':Nat}{d':Drawn}{ch:List Addr}(I:Inv X pins σ H s)(u:Un (frs X.stack) ch H H' s.heap h')(hok:HOk X.prog X.w H' h')(hg:AllBare g')
 (hch:∀ b∈ch,(b∈X.ex\/X.s₀.heap.objs.size<=b)/\b≠X.env.locals/\(∀ x c,X.env.cells.lookup x=some c->c≠b)/\∀ p∈X.pn++pins,p.1≠b) :
 Inv X pins σ H' { s with heap:=h',gens:=g',drawn:=d',toks:=t' }:=by
 obtain⟨m,⟨o,es,ep,ho,r⟩,_⟩:=id I.loc;obtain⟨sl,hL⟩:=u.any ho I.free fun z=>(hch _ z).2.1 rfl
 exact I.step (ch:=ch) hch (fun b o hL hb hc e n=>u.keep b o e n (fun z=>(mem_cons.mp (I.stkSub b z)).elim hL hb) hc) (fun b o _ _ hc e n=>u.any e n hc) (fun b o hc e n=>u.free b o e n hc) (fun b o hc e=>u.there b o e hc) u.tups u.frzs u.tbls (fun m' hm=>by
  obtain⟨o',es',ep',ho',r'⟩:=hm;rw[ho]at ho';cases ho';exact⟨_,es',ep',hL,r'⟩) hok hg
theorem Inv.turned{t':Nat}{it:Addr}(I:Inv X pins σ H s)(k:∀ b o,b≠it->s.heap.get? b=some o->h'.get? b=some o)(hn:H it=none)(hL:it≠X.env.locals)
 (h1:it∈X.ex\/X.s₀.heap.objs.size<=it) (h2:∀ x c,X.env.cells.lookup x=some c->c≠it) (h3:∀ p∈X.pn++pins,p.1≠it):Inv X pins σ H { s with heap:=h',toks:=t' }:=by
 have nit:∀ b u,H b=some u->b≠it:=fun b u e z=>by rw[z,hn]at e;cases e
 refine I.step (g':=s.gens) (d':=s.drawn) (ch:=[it]) (fun b hb=>?_) (fun b o _ _ hc e _=>k b o (fun z=>hc (by simp[z])) e) (fun b o _ _ hc e _=>⟨o.slots,k b o (fun z=>hc (by simp[z])) e⟩) (fun _ _ _ _ n=>n)
  (fun b o hc e=>⟨o,k b o (fun z=>hc (by simp[z])) e⟩) (fun _ _ e=>e) (fun _ _ _ e=>e) (fun b ps e=>⟨#[],by rw[e];simp⟩) (fun m hm=>?_) (fun b u e=>?_) I.bare
 ·have e:b=it:=by simpa using hb
  subst e;exact⟨h1,hL,h2,h3⟩
 ·obtain⟨o,es,ep,ho,r⟩:=hm
  exact⟨o,es,ep,k _ o (Ne.symm hL) ho,r⟩
 ·refine(I.hok b u e).stay (fun c v hc q=>k c v ?_ q) (fun _ q=>q) fun _ _ q=>q
  rcases hc with z | z
  ·rw[z];exact nit b u e
  ·exact nit c _ z
theorem Inv.tok(I:Inv X pins σ H s)(t:Nat):Inv X pins σ H { s with toks:=t }:=I.un (h':=s.heap) (t':=t) Un.refl I.hok
theorem Inv.kept{t':Nat}(I:Inv X pins σ H s)(k:∀ b u,s.heap.get? b=some u->h'.get? b=some u):Inv X pins σ H { s with heap:=h',toks:=t' }:=I.un (Un.kept k) (I.hok.kept k)
theorem Inv.laid{a:Addr}{o:HO}{t':Nat}(I:Inv X pins σ H s)(k:∀ b u,s.heap.get? b=some u->h'.get? b=some u)(hp:s.heap.objs.size<=a)(new:QA X.prog X.w (upd H a o) h' a o) :
 Inv X pins σ (upd H a o) { s with heap:=h',toks:=t' }:=I.un (Un.laid k hp (I.hok.fresh hp)) (I.hok.laid k hp new)
theorem Inv.write{x e:Addr}{o:HO}{t':Nat}(I:Inv X pins σ H s)(mu:Mut (H x))(he:e=x\/H e=some (.own x))(k:∀ b u,b≠e->s.heap.get? b=some u->h'.get? b=some u)(heo:∃ u,h'.get? e=some u)
 (new:QA X.prog X.w (upd H x o) h' x o):Inv X pins σ (upd H x o) { s with heap:=h',toks:=t' }:=I.un (Un.write mu he k heo) (I.hok.write mu he k heo new)
theorem Inv.pins_of{pins':YP_}(I:Inv X pins σ H s)(h:∀ p∈pins',s.heap.get? p.1=some p.2/\H p.1=none/\p.1≠X.env.locals/\p.1∉X.fs/\∀ v,p.2.data≠.cell v):Inv X pins' σ H s :=
 ⟨I.ok,I.os,I.bare,I.base,I.loc,I.cell,I.free,I.freeC,fun p hp=>(Vl.mp hp).elim (fun z=>I.pin p (mem_append_left _ z)) (h p),I.hok,I.len⟩
theorem ZSa{N:List Str}(hN:N.Nodup){i j:Nat}{x:Str}(a:N[i]?=some x)(b:N[j]?=some x):i=j:=by
 obtain⟨h1,e1⟩:=Vc.mp a
 obtain⟨h2,e2⟩:=Vc.mp b
 exact(getElem_inj hN).mp (e1.trans e2.symm)
theorem Yra{M:Model}{A:Around}{E:YQ_}{i:Nat}{x:Str}{v:V}{u:Value}{Q:Unit->Shared->Prop}(I:Inv X pins σ H s)(hN:X.N.Nodup)(hi:X.N[i]?=some x)(hx:Loc X.env.scope x)(r:Qq v u)
 (h:∀ s',Inv X pins (σ.set i (some v)) H s'->(∃ a,Heap.SameBut a s.heap s'.heap/\(a=X.env.locals\/X.env.cells.lookup x=some a))->Q () s') (hf:X.fn x=true\/X.env.scope.names.lookup x=some .local:=by first | exact .inl rfl | exact .inr rfl | assumption):wpAny M A (storeName X.env x u) Q E s:=by
 obtain⟨m,hn,hl⟩:=id I.loc;have hcls:(X.env.scope.kind == .class || (X.env.scope.kind == .module && X.env.locals != X.env.globals))=false:=by rw[I.ok.kind];rfl
 have hiσ:i < σ.length:=by rw[I.len];exact(Vc.mp hi).1
 have cne:=I.cne;have tracked:∀ {a:Addr} {h':Heap},(∃ o,s.heap.get? a=some o/\H a=none)->Heap.SameBut a s.heap h'->HOk X.prog X.w H h':=fun {a h'} ha hs b ob e=>by
  obtain⟨_,_,hfree⟩:=ha;refine(I.hok b ob e).stay (fun c w' hc q=>(hs.2 c ?_).trans q) (fun _ q=>q) fun _ _ q=>q
  rintro rfl
  rcases hc with rfl | hc
  ·rw[hfree]at e;cases e
  ·rw[hfree]at hc;cases hc
 rcases hx with hk | hk
 ·refine wpAny_storeName_local hk hn (fun h' hn' hs=>?_) hcls
  obtain⟨oL,_,_,hoL,_⟩:=id hn;refine h _ ⟨I.ok,I.os,I.bare,⟨fun b o e n hb hx=>?_,fun b o e n hb hx=>?_,I.base.free,fun b o e hx=>?_,I.base.tups,I.base.frzs,I.base.tbls⟩,⟨_,hn',fun j y v' e1 e2 e3=>?_⟩,fun y c e=>?_,I.free,I.freeC,fun p hp=>?_,tracked ⟨oL,hoL,I.free⟩ hs,by simpa using I.len⟩ ⟨_,hs,.inl rfl⟩
  ·exact(hs.2 b (Nat.ne_of_lt (Vt (Vh e) I.ok.above))).trans (I.base.keep b o e n hb hx)
  ·obtain⟨sl,e1⟩:=I.base.slot b o e n hb hx
   exact⟨sl,(hs.2 b (Nat.ne_of_lt (Vt (Vh e) I.ok.above))).trans e1⟩
  ·obtain⟨o',e1⟩:=I.base.there b o e hx
   exact⟨o',(hs.2 b (Nat.ne_of_lt (Vt (Vh e) I.ok.above))).trans e1⟩
  ·by_cases hj:j=i
   ·subst hj
    rw[hi]at e1;cases e1;rw[getElem?_set_self hiσ]at e2
    cases e2;exact⟨u,r,.inl ⟨hk,by simp⟩⟩
   ·rw[getElem?_set_ne (Ne.symm hj)]at e2
    obtain⟨u',r',q⟩:=hl j y v' e1 e2 e3;refine⟨u',r',?_⟩
    rcases q with ⟨k,e⟩ | ⟨k,c,e,z⟩
    ·refine .inl ⟨k,?_⟩
     have:y≠x:=fun e=>hj (ZSa hN e1 (e ▸ hi))
     simp[this,e]
    ·exact .inr ⟨k,c,e,z.sameBut hs (cne y c e)⟩
  ·obtain⟨w',z⟩:=I.cell y c e
   exact⟨w',z.sameBut hs (cne y c e)⟩
  ·obtain⟨e,n,ne,nf,d⟩:=I.pin p hp
   exact⟨(hs.2 p.1 ne).trans e,n,ne,nf,d⟩
 ·have hfn:X.fn x=true:=by
   rcases hf with z | z
   ·exact z
   ·rw[z]at hk;cases hk
  obtain⟨c,hc⟩:=I.ok.has x (.inl hk);obtain⟨w',z⟩:=I.cell x c hc;refine wpAny_storeName_cell I.ok.kind hk hc z (fun h' hc' hs=>?_)
  obtain⟨oc,hoc,hocd⟩:=id z;refine h { s with heap:=h' } ⟨I.ok,I.os,I.bare,⟨fun b o e n hb hx=>?_,fun b o e n hb hx=>?_,I.base.free,fun b o e hx=>?_,I.base.tups,I.base.frzs,I.base.tbls⟩,⟨m,hn.sameBut hs (Ne.symm (cne x c hc)),fun j y v' e1 e2 e3=>?_⟩,fun y c' e=>?_,I.free,I.freeC,fun p hp=>?_,tracked ⟨oc,hoc,I.freeC x c hc⟩ hs,by simpa using I.len⟩ ⟨c,hs,.inr hc⟩
  ·exact(hs.2 b (Nat.ne_of_lt (Vt (Vh e) (I.ok.cab x c hfn hc)))).trans (I.base.keep b o e n hb hx)
  ·obtain⟨sl,e1⟩:=I.base.slot b o e n hb hx
   exact⟨sl,(hs.2 b (Nat.ne_of_lt (Vt (Vh e) (I.ok.cab x c hfn hc)))).trans e1⟩
  ·obtain⟨o',e1⟩:=I.base.there b o e hx
   exact⟨o',(hs.2 b (Nat.ne_of_lt (Vt (Vh e) (I.ok.cab x c hfn hc)))).trans e1⟩
  ·by_cases hj:j=i
   ·subst hj
    rw[hi]at e1;cases e1;rw[getElem?_set_self hiσ]at e2
    cases e2;exact⟨u,r,.inr ⟨.inl hk,c,hc,hc'⟩⟩
   ·rw[getElem?_set_ne (Ne.symm hj)]at e2
    obtain⟨u',r',q⟩:=hl j y v' e1 e2 e3;refine⟨u',r',?_⟩
    rcases q with q | ⟨k,c',e,z'⟩
    ·exact .inl q
    ·refine .inr ⟨k,c',e,z'.sameBut hs ?_⟩
     rintro rfl;exact hj (ZSa hN e1 (I.ok.inj _ _ _ e hc ▸ hi))
  ·by_cases hcc:c'=c
   ·subst hcc;exact⟨_,hc'⟩
   ·obtain⟨w2,z2⟩:=I.cell y c' e
    exact⟨w2,z2.sameBut hs hcc⟩
  ·obtain⟨e,n,ne,nf,d⟩:=I.pin p hp
   refine⟨(hs.2 p.1 ?_).trans e,n,ne,nf,d⟩
   intro q;rw[q,hoc]at e;have q':oc=p.2:=Option.some.inj e;exact d w' (by rw[<- q'];exact hocd)
theorem ZTa{M:Model}{A:Around}{E:YQ_}{i:Nat}{x:Str}{v:V}{u:Value}{Q:Unit->Shared->Prop}(I:Inv X pins σ H s)(hN:X.N.Nodup)(hi:X.N[i]?=some x)(hx:Loc X.env.scope x)(r:Qq v u)
 (h:∀ s',Inv X pins (σ.set i (some v)) H s'->Q () s') (hf:X.fn x=true\/X.env.scope.names.lookup x=some .local:=by first | exact .inl rfl | exact .inr rfl | assumption):wpAny M A (storeName X.env x u) Q E s :=
 Yra I hN hi hx r (fun s' I' _=>h s' I') hf
theorem Inv.call'{s':Shared}{ch:List Addr}(I:Inv X pins σ H s)(ho:s'.os=s.os)(u:Un (frs X.stack) ch H H' s.heap s'.heap)(hok:HOk X.prog X.w H' s'.heap)(hg:AllBare s'.gens)
 (hch:∀ b∈ch,(b∈X.ex\/X.s₀.heap.objs.size<=b)/\b≠X.env.locals/\(∀ x c,X.env.cells.lookup x=some c->c≠b)/\∀ p∈X.pn++pins,p.1≠b):Inv X pins σ H' s':=by
 obtain⟨h',g',d',t',o'⟩:=s';have e:o'=s.os:=ho;subst e;exact I.call (g':=g') (t':=t') (d':=d') u hok hg hch
end
abbrev XK:=Value->Option Addr->Hp->Prop
abbrev St:=List (Option V)
abbrev VK:=V->Hp->Prop
abbrev TE:=St->Hp->VK->Prop
abbrev TT:=St->Hp->(Bool->Hp->Prop)->Prop
abbrev TA:=St->Hp->(List V->Hp->Prop)->Prop
structure Zq where
 nx:St->Hp->Prop
 rt:VK
 bk:St->Hp->Prop:=fun _ _=>False
 ct:St->Hp->Prop:=fun _ _=>False
abbrev TS:=Zq->St->Hp->Prop
def EP(X:Cx)(pins:YP_)(σ:St)(Q:VK)(u:Value)(s':Shared):Prop:=∃ v H',Inv X pins σ H' s'/\Qq v u/\Q v H'
def TP(X:Cx)(pins:YP_)(σ:St)(Q:Bool->Hp->Prop)(b:Bool)(s':Shared):Prop:=∃ H',Inv X pins σ H' s'/\Q b H'
def AP(X:Cx)(pins:YP_)(σ:St)(Q:List V->Hp->Prop)(us:List Value)(s':Shared):Prop:=∃ vs H',Inv X pins σ H' s'/\Qr vs us/\Q vs H'
def SP(X:Cx)(pins:YP_)(D:Zq)(f:Flow)(s':Shared):Prop :=
 match f with
 | .next=>∃ σ' H',Inv X pins σ' H' s'/\D.nx σ' H'
 | .brk=>∃ σ' H',Inv X pins σ' H' s'/\D.bk σ' H'
 | .cont=>∃ σ' H',Inv X pins σ' H' s'/\D.ct σ' H'
 | .ret u=>∃ v σ' H',Inv X pins σ' H' s'/\Qq v u/\D.rt v H'
def PE(X:Cx)(e:Expr)(t:TE):Prop :=
 ∀ (pins:YP_) (s:Shared) (σ:St) (H:Hp) (Q:VK),Inv X pins σ H s->t σ H Q->wpAny (model X.prog X.w) X.A (eval e X.env) (EP X pins σ Q) X.xe s
def PT(X:Cx)(e:Expr)(t:TT):Prop :=
 ∀ (pins:YP_) (s:Shared) (σ:St) (H:Hp) (Q:Bool->Hp->Prop),Inv X pins σ H s->t σ H Q->wpAny (model X.prog X.w) X.A (isTrue e X.env (eval e X.env)) (TP X pins σ Q) X.xe s
def PW(X:Cx)(e:Expr)(t:TT):Prop :=
 ∀ (whole:Sem Value) (pins:YP_) (s:Shared) (σ:St) (H:Hp) (Q:Bool->Hp->Prop),Inv X pins σ H s->t σ H Q->wpAny (model X.prog X.w) X.A (isTrue e X.env whole) (TP X pins σ Q) X.xe s
theorem PW.pt{X:Cx}{e:Expr}{t:TT}(h:PW X e t):PT X e t:=h _
def PA(X:Cx)(es:List Expr)(t:TA):Prop :=
 ∀ (pos:Pos) (pins:YP_) (s:Shared) (σ:St) (H:Hp) (Q:List V->Hp->Prop),Inv X pins σ H s->t σ H Q->wpAny (model X.prog X.w) X.A (spliced (backTo pos (starEach es X.env))) (AP X pins σ Q) X.xe s
def PS(X:Cx)(st:Stmt)(t:TS):Prop :=
 ∀ (pins:YP_) (s:Shared) (σ:St) (H:Hp) (D:Zq),Inv X pins σ H s->t D σ H->wpAny (model X.prog X.w) X.A (exec st X.env) (SP X pins D) X.xe s
def PSs(X:Cx)(st:List Stmt)(t:TS):Prop :=
 ∀ (pins:YP_) (s:Shared) (σ:St) (H:Hp) (D:Zq),Inv X pins σ H s->t D σ H->wpAny (model X.prog X.w) X.A (execs st X.env) (SP X pins D) X.xe s
theorem thn{α:Type}{t:Sem α}{Q Q':α->Shared->Prop}{M:Model}{A:Around}{E:YQ_}{s:Shared}(h:wpAny M A t Q E s)(hQ:∀ a s,Q a s->Q' a s):wpAny M A t Q' E s:=wpAny_mono h hQ fun _ _ x=>x
section
variable{X:Cx}
def YE(i:Nat):TE:=fun σ H Q=>match σ[i]? with | some (some v)=>Q v H | _=>False
theorem QIc{i:Nat}{σ:St}{H:Hp}{Q:VK}(h:YE i σ H Q):∃ v,σ[i]?=some (some v)/\Q v H:=by
 unfold YE at h
 split at h
 ·exact⟨_,‹_›,h⟩
 ·exact h.elim
theorem Qxa{i:Nat}{σ:St}{H:Hp}{Q:VK}{v:V}(e:σ[i]?=some (some v))(q:Q v H):YE i σ H Q:=by
 unfold YE;rw[e];exact q
theorem Q4b{σ:St}{H:Hp}{Q:VK}{v:V}:YE 0 (some v::σ) H Q=Q v H:=rfl
theorem Q5b{σ:St}{H:Hp}{Q:VK}{i:Nat}{x:Option V}:YE (i+1) (x::σ) H Q=YE i σ H Q:=rfl
def tC(v:V):TE:=fun _ H Q=>Q v H
theorem Jic{i:Nat}{x:Str}{pos:Pos}(hN:X.N[i]?=some x)(hv:Vis X.env.scope x)(hd:(x == ("__debug__":Str))=false:=by decide)(hcd:(x == ("__classdict__":Str))=false:=by decide):PE X (.Name x pos) (YE i):=by
 intro pins s σ H Q I h;obtain⟨v,e,h⟩:=QIc h;obtain⟨m,hn,hl⟩:=I.loc;obtain⟨u,r,l⟩:=hl i x v hN e hv;have fin:EP X pins σ Q u s:=⟨v,H,I,r,h⟩
 rcases l with ⟨hk,hm⟩ | ⟨hk,c,hc,hcell⟩
 ·exact wpAny_Name (wpAny_loadName_local I.ok.kind hk hn hm fin) hd
 ·rcases hk with hk | hk
  ·exact wpAny_Name (wpAny_loadName_cell I.ok.kind hk hc hcell fin) hd
  ·exact wpAny_Name (wpAny_loadName_free I.ok.kind hk hc hcell fin hcd) hd
theorem Qc{i j pos}:PE X (.Constant (.int i) j pos) (tC (.int i)):=fun _ _ _ H _ I h=>wpAny_Constant_int ⟨.int i,H,I.tok _,⟨_,rfl⟩,h⟩
theorem Xq{b j pos}:PE X (.Constant (.bool b) j pos) (tC (.bl b)):=fun _ _ _ H _ I h=>Constant_bool ⟨.bl b,H,I,rfl,h⟩
theorem JH{j pos}:PE X (.Constant .none j pos) (tC .non):=fun _ _ _ H _ I h=>Constant_none ⟨.non,H,I,rfl,h⟩
theorem YF{x j pos}:PE X (.Constant (.str x) j pos) (tC (.str x)):=fun _ _ _ H _ I h=>Calls.Constant_str ⟨.str x,H,I.tok _,⟨_,rfl⟩,h⟩
def Gl(X:Cx)(x:Str):Prop:=X.env.kindOf x=some .globalImplicit
theorem Jp{E:YQ_}{pins:YP_}{s:Shared}{σ:St}{H:Hp}{x:Str}{u:Value}{pos:Pos}{Q:YQ_}(I:Inv X pins σ H s)(hg:Gl X x)(hm:X.mg x=some u)(h:Q u s)
 (hd:(x == ("__debug__":Str))=false:=by decide):wpAny (model X.prog X.w) X.A (eval (.Name x pos) X.env) Q E s :=
 Calls.Name_function_global I.ok.kind hg (Calls.loadGlobal_global (by rw[I.ok.glob];exact I.mod.glob.keeps I.bk) hm h) hd
theorem YG{E:YQ_}{pins:YP_}{s:Shared}{σ:St}{H:Hp}{x:Str}{u:Value}{pos:Pos}{Q:YQ_}(I:Inv X pins σ H s)(hg:Gl X x)(hm:X.mg x=none)(hv:bootBuiltins x=some u)(h:Q u s)
 (hn:x≠"__name__":=by decide) (hd:(x == ("__debug__":Str))=false:=by decide):wpAny (model X.prog X.w) X.A (eval (.Name x pos) X.env) Q E s:=by
 obtain⟨mb,h1,h2⟩:=I.mod.blt;exact Calls.Name_function_global I.ok.kind hg (Calls.loadGlobal_builtin (by rw[I.ok.glob];exact I.mod.glob.keeps I.bk) hm (by rw[I.ok.blt];exact h1.keeps I.bk) ((h2 x hn).trans hv) h) hd
theorem Jdb{x:Str}{v:V}{u:Value}{pos:Pos}(hg:Gl X x)(hm:X.mg x=some u)(r:Qq v u)(hd:(x == ("__debug__":Str))=false:=by decide):PE X (.Name x pos) (tC v) :=
 fun _ _ _ H _ I h=>Jp I hg hm ⟨v,H,I,r,h⟩ hd
theorem JX{x:Str}{v:V}{u:Value}{pos:Pos}(hg:Gl X x)(hm:X.mg x=none)(hv:bootBuiltins x=some u)(r:Qq v u)(hn:x≠"__name__":=by decide)(hd:(x == ("__debug__":Str))=false:=by decide):PE X (.Name x pos) (tC v) :=
 fun _ _ _ H _ I h=>YG I hg hm hv ⟨v,H,I,r,h⟩ hn hd
variable{a b:Expr}{ta tb:TE}{pos:Pos}
def PC(X:Cx)(op:CmpOp)(a b:Expr)(t:TE):Prop :=
 ∀ (pins:YP_) (s:Shared) (σ:St) (H:Hp) (Q:VK),Inv X pins σ H s->t σ H Q ->
  wpAny (model X.prog X.w) X.A (eval a X.env) (fun v s₁=>wpAny (model X.prog X.w) X.A (eval b X.env) (fun u s₂=>wpAny (model X.prog X.w) X.A (compareOp op v u) (EP X pins σ Q) X.xe s₂) X.xe s₁) X.xe s
def tB(t:TE):TT:=fun σ H Q=>t σ H fun x H1=>∃ c,x=.bl c/\Q c H1
theorem YWb{op:CmpOp}{t:TE}(h:PC X op a b t)(h1:behindInMarks op b=false:=by first | exact nobehind _ (by decide) (by decide) | rfl):PT X (.Compare a [op] [b] pos) (tB t):=by
 intro pins s σ H Q I hw;refine wpAny_isTrue_Compare1 (thn (h pins s σ H _ I hw) fun v s1 h1=>thn h1 fun u s2 h2=>thn h2 fun c s3 hZ=>?_) h1
 obtain⟨x,H1,I1,r1,q1⟩:=hZ;obtain⟨d,rfl,q⟩:=q1;cases r1;exact wpAny_truthy_bool ⟨H1,I1,q⟩
theorem ZO{e:Expr}{t:TE}(h:PE X e t)(he:∀ whole,isTrue e X.env whole=(do let v <- whole;standAt e.pos;holding [v] (truthy v)):=by intro _;rfl):PT X e (tB t):=by
 intro pins s σ H Q I hw;refine isTrue_plain (thn (h pins s σ H _ I hw) fun v s1 hZ=>?_) (he _)
 obtain⟨x,H1,I1,r1,q1⟩:=hZ;obtain⟨d,rfl,q⟩:=q1;cases r1;exact wpAny_truthy_bool ⟨H1,I1,q⟩
variable{tA tB':TT}{rest:List Expr}
def Yic(t u:TT):TT:=fun σ H Q=>t σ H fun c H1=>if c=true then u σ H1 Q else Q false H1
def tOr(t u:TT):TT:=fun σ H Q=>t σ H fun c H1=>if c=true then Q true H1 else u σ H1 Q
def Yjc(t:TT):TT:=fun σ H Q=>t σ H fun c H1=>Q (!c) H1
theorem Jeb(ha:PT X a tA):PW X (.BoolOp .And [a] pos) tA:=by
 intro wh pins s σ H Q I h;refine isTrue_and (thn (ha pins s σ H Q I h) fun c s1 e=>?_)
 cases c with
 | true=>exact isTrue_and_nil e
 | false=>exact e
theorem QZa(ha:PT X a tA):PW X (.BoolOp .Or [a] pos) tA:=by
 intro wh pins s σ H Q I h;refine isTrue_or (thn (ha pins s σ H Q I h) fun c s1 e=>?_)
 cases c with
 | false=>exact isTrue_or_nil e
 | true=>exact e
theorem YXb(ha:PT X a tA)(hb:PW X (.BoolOp .And (b::rest) pos) tB'):PW X (.BoolOp .And (a::b::rest) pos) (Yic tA tB'):=by
 intro wh pins s σ H Q I h;refine isTrue_and (thn (ha pins s σ H _ I h) fun c s1 hZ=>?_)
 obtain⟨H1,I1,q1⟩:=hZ;cases c with
 | true=>exact hb wh pins s1 σ H1 Q I1 q1
 | false=>exact⟨H1,I1,q1⟩
theorem Zxa(ha:PT X a tA)(hb:PW X (.BoolOp .Or (b::rest) pos) tB'):PW X (.BoolOp .Or (a::b::rest) pos) (tOr tA tB'):=by
 intro wh pins s σ H Q I h;refine isTrue_or (thn (ha pins s σ H _ I h) fun c s1 hZ=>?_)
 obtain⟨H1,I1,q1⟩:=hZ;cases c with
 | true=>exact⟨H1,I1,q1⟩
 | false=>exact hb wh pins s1 σ H1 Q I1 q1
theorem Yb(ha:PT X a tA):PT X (.UnaryOp .Not a pos) (Yjc tA):=by
 intro pins s σ H Q I h;exact isTrue_not (ha pins s σ H (fun c H1=>Q (!c) H1) I h)
def ZMc(ta tb:TE):TE:=fun σ H Q=>ta σ H fun x H1=>∃ c,x=.bl c/\if c=true then tb σ H1 Q else Q (.bl false) H1
theorem Q6b{op}{t:TE}(h:PE X a t):PE X (.BoolOp op [a] pos) t:=fun pins s σ H Q I hw=>BoolOp_one (h pins s σ H Q I hw)
theorem Y2a(ha:PE X a ta)(hb:PE X (.BoolOp .And (b::rest) pos) tb):PE X (.BoolOp .And (a::b::rest) pos) (ZMc ta tb):=by
 intro pins s σ H Q I h;refine BoolOp_and (thn (ha pins s σ H _ I h) fun v s1 hZ=>?_)
 obtain⟨x,H1,I1,r1,q1⟩:=hZ;obtain⟨c,rfl,q1⟩:=q1;cases r1;refine wpAny_truthy_bool ?_
 cases c with
 | true=>exact hb pins s1 σ H1 Q I1 q1
 | false=>exact⟨.bl false,H1,I1,rfl,q1⟩
def tIf(t:TT)(ta tb:TE):TE:=fun σ H Q=>t σ H fun c H1=>if c=true then ta σ H1 Q else tb σ H1 Q
theorem YYb{c:Expr}(hc:PT X c tA)(ha:PE X a ta)(hb:PE X b tb):PE X (.IfExp c a b pos) (tIf tA ta tb):=by
 intro pins s σ H Q I h;refine wpAny_IfExp (thn (hc pins s σ H _ I h) fun d s1 hZ=>?_)
 obtain⟨H1,I1,q1⟩:=hZ;cases d with
 | true=>exact ha pins s1 σ H1 Q I1 q1
 | false=>exact hb pins s1 σ H1 Q I1 q1
end
def SqL(K:W.Frag)(H:Hp)(a:Addr)(xs:List V):Prop :=
 Rd H a (.lst xs) \/
  ∃ (o:Obj) (its:Array Value) (n:Nat),K.lookup a=some o/\o.cls=.type "list"/\o.dict=none/\o.data=.seq its n/\its.size<=sizeLine/\Qr xs its.toList
def SqT(K:W.Frag)(H:Hp)(a:Addr)(xs:List V):Prop :=
 Rd H a (.tup xs) \/
  ∃ (o:Obj) (its:Array Value) (n:Nat),K.lookup a=some o/\o.cls=.type "tuple"/\o.data=.seq its n/\its.size<=sizeLine/\Qr xs its.toList
def Y1c:Value->Option V
 | .none=>some .non
 | .bool b=>some (.bl b)
 | .int i _=>some (.int i)
 | .str x _=>some (.str x)
 | .bytes b _=>some (.byt b)
 | .float b _=>some (.flt b)
 | .ref a=>some (.ref a)
 | .type n=>some (.ty n)
 | _=>none
theorem Qq.abs{x:V}{u:Value}(r:Qq x u):Y1c u=some x:=by
 cases x with
 | non=>cases r;rfl
 | bl _=>cases r;rfl
 | int _=>obtain⟨t,rfl⟩:=r;rfl
 | str _=>obtain⟨t,rfl⟩:=r;rfl
 | byt _=>obtain⟨t,rfl⟩:=r;rfl
 | flt _=>obtain⟨t,rfl⟩:=r;rfl
 | ref _=>cases r;rfl
 | ty _=>cases r;rfl
theorem Qq.inj{x y:V}{u:Value}(r:Qq x u)(q:Qq y u):x=y:=Option.some.inj (r.abs.symm.trans q.abs)
theorem Qr.inj:∀ {xs ys:List V} {us:List Value},Qr xs us->Qr ys us->xs=ys
 | _,_,_,.nil,.nil=>rfl
 | _,_,_,.cons r t,.cons r' t'=>by rw[r.inj r',Qr.inj t t']
section
variable{X:Cx}{pins:YP_}{σ:St}{H:Hp}{s:Shared}{a:Addr}{xs ys:List V}
theorem SqL.of{K:W.Frag}(h:H a=some (.lst xs)):SqL K H a xs:=.inl (.inl h)
theorem SqT.of{K:W.Frag}(h:H a=some (.tup xs)):SqT K H a xs:=.inl (.inl h)
theorem Inv.list(I:Inv X pins σ H s)(h:SqL X.K H a xs):∃ its:List Value,Qr xs its/\PlainL s.heap a its.toArray/\xs.length<=sizeLine:=by
 rcases h with h | ⟨o,its,n,hk,hc,hd,hs,hz,r⟩
 ·obtain⟨z,its,n,r,e⟩:=h.ok I.hok
  exact⟨its,r,⟨_,n,e,rfl,rfl,rfl⟩,z⟩
 ·refine⟨its.toList,r,⟨o,n,I.kIn a o hk,hc,hd,by simpa using hs⟩,?_⟩
  have e:=r.length;simp only[Array.length_toList]at e
  omega
theorem Inv.tuple(I:Inv X pins σ H s)(h:SqT X.K H a xs):∃ its:List Value,Qr xs its/\IsTup s.heap a its.toArray/\xs.length<=sizeLine:=by
 rcases h with h | ⟨o,its,n,hk,hc,hs,hz,r⟩
 ·obtain⟨⟨z,_⟩,its,r,p⟩:=h.ok I.hok
  exact⟨its,r,p,z⟩
 ·refine⟨its.toList,r,⟨o,I.kIn a o hk,hc,n,by simpa using hs⟩,?_⟩
  have e:=r.length;simp only[Array.length_toList]at e
  omega
theorem Inv.list_inj(I:Inv X pins σ H s)(h:SqL X.K H a xs)(h':SqL X.K H a ys):xs=ys:=by
 obtain⟨its,r,⟨o,n,e,_,_,d⟩,_⟩:=I.list h;obtain⟨its',r',⟨o',n',e',_,_,d'⟩,_⟩:=I.list h';rw[e]at e';cases e';rw[d]at d';injection d' with d1 _
 have:its=its':=by simpa using congrArg Array.toList d1
 subst this;exact r.inj r'
theorem Inv.tuple_inj(I:Inv X pins σ H s)(h:SqT X.K H a xs)(h':SqT X.K H a ys):xs=ys:=by
 obtain⟨its,r,⟨o,e,_,n,d⟩,_⟩:=I.tuple h;obtain⟨its',r',⟨o',e',_,n',d'⟩,_⟩:=I.tuple h';rw[e]at e';cases e';rw[d]at d';injection d' with d1 _
 have:its=its':=by simpa using congrArg Array.toList d1
 subst this;exact r.inj r'
end
abbrev Cx.wish(X:Cx)(E:YQ_):Cx:={ X with xe:=E }
abbrev Cx.nox(X:Cx):Cx:=X.wish fun _ _=>False
theorem Cx.Ok.wish{X:Cx}(ok:X.Ok)(E:YQ_):(X.wish E).Ok :=
 ⟨ok.mod,ok.kind,ok.glob,ok.blt,ok.above,ok.inj,ok.has,ok.cab,ok.hd,ok.frames,ok.stk,ok.exf,ok.bs,ok.bsz,ok.noex,ok.exfs,ok.funs,ok.frf⟩
theorem Cx.Ok.unwish{X:Cx}{E:YQ_}(ok:(X.wish E).Ok):X.Ok :=
 ⟨ok.mod,ok.kind,ok.glob,ok.blt,ok.above,ok.inj,ok.has,ok.cab,ok.hd,ok.frames,ok.stk,ok.exf,ok.bs,ok.bsz,ok.noex,ok.exfs,ok.funs,ok.frf⟩
section
variable{X:Cx}{pins:YP_}{σ:St}{H:Hp}{s:Shared}{E:YQ_}
theorem Inv.wish(I:Inv X pins σ H s)(E:YQ_):Inv (X.wish E) pins σ H s:=⟨I.ok.wish E,I.os,I.bare,I.base,I.loc,I.cell,I.free,I.freeC,I.pin,I.hok,I.len⟩
theorem Inv.unwish(I:Inv (X.wish E) pins σ H s):Inv X pins σ H s:=⟨I.ok.unwish,I.os,I.bare,I.base,I.loc,I.cell,I.free,I.freeC,I.pin,I.hok,I.len⟩
theorem SP.unwish{D:Zq}{f:Flow}{s':Shared}(h:SP (X.wish E) pins D f s'):SP X pins D f s':=by
 cases f with
 | next=>obtain⟨σ',H',I,q⟩:=h;exact⟨σ',H',I.unwish,q⟩
 | brk=>obtain⟨σ',H',I,q⟩:=h;exact⟨σ',H',I.unwish,q⟩
 | cont=>obtain⟨σ',H',I,q⟩:=h;exact⟨σ',H',I.unwish,q⟩
 | ret u=>obtain⟨v,σ',H',I,r,q⟩:=h;exact⟨v,σ',H',I.unwish,r,q⟩
theorem PSs.nox{st:List Stmt}{t:TS}(h:PSs X.nox st t):PSs X st t:=fun pins s σ H D I hw =>
 wpAny_mono (h pins s σ H D (I.wish _) hw) (fun _ _ q=>q.unwish) fun _ _ z=>False.elim z
end
section
variable{X:Cx}{st:Stmt}{rest:List Stmt}{t u:TS}{e:Expr}{te:TE}{pos:Pos}
def ZNc:TS:=fun D σ H=>D.nx σ H
def Xn(t u:TS):TS:=fun D σ H=>t { D with nx:=u D } σ H
theorem QC:PSs X [] ZNc:=fun _ _ σ H _ I h=>wpAny_execs_nil ⟨σ,H,I,h⟩
theorem Qb(h1:PS X st t)(h2:PSs X rest u):PSs X (st::rest) (Xn t u):=by
 intro pins s σ H D I h;refine wpAny_execs_cons (thn (h1 pins s σ H { D with nx:=u D } I h) fun f s1 q=>?_)
 cases f with
 | next =>
  obtain⟨σ',H',I',q⟩:=q;exact h2 pins s1 σ' H' D I' q
 | ret v=>exact q
 | brk=>exact q
 | cont=>exact q
theorem Qf(h1:PS X st t):PSs X [st] t:=by
 intro pins s σ H D I h;refine wpAny_execs_cons (thn (h1 pins s σ H D I h) fun f s1 q=>?_)
 cases f with
 | next=>exact wpAny_execs_nil q
 | ret v=>exact q
 | brk=>exact q
 | cont=>exact q
theorem Inv.quiet{pins:YP_}{σ:St}{H:Hp}{s:Shared}(I:Inv X pins σ H s):interactive X.env=false:=by simp[interactive,I.ok.kind]
def ZOc(te:TE):TS:=fun D σ H=>te σ H fun _ H1=>D.nx σ H1
theorem Q7(he:PE X e te)(hs:swapsWith e none pos.line X.env=pure false:=by rfl):PS X (.Expr e pos) (ZOc te):=by
 intro pins s σ H D I h;exact wpAny_Expr_any (thn (he pins s σ H _ I h) fun v s1 ⟨x,H1,I1,r1,q1⟩=>⟨σ,H1,I1,q1⟩) I.quiet hs
def Ykc(te:TE):TS:=fun D σ H=>te σ H D.rt
theorem Qp(he:PE X e te):PS X (.Return (some e) pos) (Ykc te):=by
 intro pins s σ H D I h;exact wpAny_Return_some (thn (he pins s σ H _ I h) fun v s1 ⟨x,H1,I1,r1,q1⟩=>⟨x,σ,H1,I1,r1,q1⟩)
def Ylc(c:TT)(t u:TS):TS:=fun D σ H=>c σ H fun b H1=>if b=true then t D σ H1 else u D σ H1
theorem Q4{c:Expr}{a b:List Stmt}{tc:TT}(hc:PT X c tc)(ha:PSs X a t)(hb:PSs X b u):PS X (.If c a b pos) (Ylc tc t u):=by
 intro pins s σ H D I h;refine wpAny_If (thn (hc pins s σ H _ I h) fun d s1 hZ=>?_)
 obtain⟨H1,I1,q1⟩:=hZ;cases d with
 | true=>exact ha pins s1 σ H1 D I1 q1
 | false=>exact hb pins s1 σ H1 D I1 q1
end
abbrev TG:=V->St->Hp->(St->Hp->Prop)->Prop
abbrev TGs:=List V->St->Hp->(St->Hp->Prop)->Prop
def PG(X:Cx)(target:Expr)(t:TG):Prop :=
 ∀ (pins:YP_) (s:Shared) (σ:St) (H:Hp) (v:V) (u:Value) (Q:St->Hp->Prop),Inv X pins σ H s->Qq v u->t v σ H Q ->
  wpAny (model X.prog X.w) X.A (assign target X.env u) (fun _ s'=>∃ σ' H',Inv X pins σ' H' s'/\Q σ' H') X.xe s
def PGs(X:Cx)(ts:List Expr)(t:TGs):Prop :=
 ∀ (pins:YP_) (s:Shared) (σ:St) (H:Hp) (vs:List V) (us:List Value) (Q:St->Hp->Prop),Inv X pins σ H s->Qr vs us->t vs σ H Q ->
  wpAny (model X.prog X.w) X.A (assignInOrder ((assignEach ts X.env).map (·.2)) us) (fun _ s'=>∃ σ' H',Inv X pins σ' H' s'/\Q σ' H') X.xe s
abbrev Jjc:=V->V->V->Hp->(Hp->Prop)->Prop
def Ymc(X:Cx)(t:Jjc):Prop :=
 ∀ (pins:YP_) (s:Shared) (σ:St) (H:Hp) (o i v:V) (ov iv u:Value) (Q:Hp->Prop),Inv X pins σ H s->Qq o ov->Qq i iv->Qq v u->t o i v H Q ->
  wpAny (model X.prog X.w) X.A (setItem ov iv u) (fun _ s'=>∃ H',Inv X pins σ H' s'/\Q H') X.xe s
section
variable{X:Cx}{pos:Pos}
def Jfb(i:Nat):TG:=fun v σ H Q=>Q (σ.set i (some v)) H
theorem Ze{i:Nat}{x:Str}(hN:X.N.Nodup)(hi:X.N[i]?=some x)(hx:Loc X.env.scope x)(hf:X.fn x=true\/X.env.scope.names.lookup x=some .local:=by first | exact .inl rfl | exact .inr rfl | assumption):PG X (.Name x pos) (Jfb i):=by
 intro pins s σ H v u Q I r h;exact wpAny_assign_Name (ZTa I hN hi hx r (fun s' I'=>⟨_,H,I',h⟩) hf)
def Jkc(to ti:TE)(t:Jjc):TG:=fun v σ H Q=>to σ H fun o H1=>ti σ H1 fun i H2=>t o i v H2 fun H3=>Q σ H3
theorem YZb{o i:Expr}{to ti:TE}{t:Jjc}(ho:PE X o to)(hi:PE X i ti)(hs:Ymc X t)
 (ha:∀ v,assign (.Subscript o i pos) X.env v=(do
  let ov <- holding [v] (eval o X.env)
  let iv <- holding [v,ov] (eval i X.env)
  standAt pos
  holding [v,ov,iv] (setItem ov iv v)
  release [v,ov,iv] []):=by intro _;rfl):PG X (.Subscript o i pos) (Jkc to ti t):=by
 intro pins s σ H v u Q I r h;rw[ha];refine Va (wpAny_holding (thn (ho pins s σ H _ I h) fun ov s1 hZ=>?_))
 obtain⟨x,H1,I1,r1,q1⟩:=hZ;refine Va (wpAny_holding (thn (hi pins s1 σ H1 _ I1 q1) fun iv s2 hZ=>?_))
 obtain⟨y,H2,I2,r2,q2⟩:=hZ;refine Va (wpAny_standAt (Va (wpAny_holding (thn (hs pins s2 σ H2 x y v ov iv u _ I2 r1 r2 r q2) fun _ s3 hZ=>?_))))
 obtain⟨H3,I3,q3⟩:=hZ;exact wpAny_release ⟨σ,H3,I3,q3⟩
def Jlc(te:TE)(g:TG):TS:=fun D σ H=>te σ H fun x H1=>g x σ H1 D.nx
theorem Y0b{tg e:Expr}{te:TE}{g:TG}(he:PE X e te)(hg:PG X tg g)(hs:swapsWithSole [tg] e pos.line X.env=pure false:=by rfl)(hw:swappedStores [tg] e X.env=pure none:=by rfl)
 (h1:(assignEach [tg] X.env).map (·.2)=[assign tg X.env]:=by rfl):PS X (.Assign [tg] e pos) (Jlc te g):=by
 intro pins s σ H D I h;refine wpAny_Assign_stores (thn (he pins s σ H _ I h) fun v s1 hZ=>?_) hs hw
 obtain⟨x,H1,I1,r1,q1⟩:=hZ;rw[h1];exact thn (hg pins s1 σ H1 x v _ I1 r1 q1) fun _ s2 q=>q
theorem Ql{i:Nat}{x:Str}{e:Expr}{te:TE}{pos':Pos}(hN:X.N.Nodup)(hi:X.N[i]?=some x)(hx:Loc X.env.scope x)(he:PE X e te)(hs:swapsWith e (some (.Name x pos')) pos.line X.env=pure false:=by rfl)(hf:X.fn x=true\/X.env.scope.names.lookup x=some .local:=by first | exact .inl rfl | exact .inr rfl | assumption) :
 PS X (.Assign [.Name x pos'] e pos) (Jlc te (Jfb i)):=by
 intro pins s σ H D I h;refine wpAny_Assign_Name (thn (he pins s σ H _ I h) fun v s1 hZ=>?_) hs
 obtain⟨y,H1,I1,r1,q1⟩:=hZ;exact ZTa I1 hN hi hx r1 (fun s2 I2=>⟨_,H1,I2,q1⟩) hf
end
section
variable{X:Cx}{pos:Pos}
def Jmc(c:TT)(tb:TS):TS:=fun D σ H=>∃ W:Nat->St->Hp->Prop,(∃ m,W m σ H)/\∀ m σ H,W m σ H ->
 c σ H fun b H1=>if b=true then ∃ N:St->Hp->Prop,(∀ σ' H',N σ' H'->∃ m',m' < m/\W m' σ' H')/\tb { D with nx:=N,ct:=N,bk:=D.nx } σ H1 else D.nx σ H1
theorem XUa{c:Expr}{body:List Stmt}{tc:TT}{tb:TS}(hp:PassesOwn (model X.prog X.w) X.A X.env X.xe)(hc:PT X c tc)(hb:PSs X body tb):PS X (.While c body [] pos) (Jmc tc tb):=by
 intro pins s σ H D I h;obtain⟨W,⟨m0,w0⟩,turn⟩:=h;refine wpAny_While (codeAny_whileLoop (fun n s'=>∃ σ' H',Inv X pins σ' H' s'/\W n σ' H') ?_ m0 ⟨σ,H,I,w0⟩)
 rintro n s1 ⟨σ1,H1,I1,w1⟩;refine wpAny_passesOwn hp (thn (hc pins s1 σ1 H1 _ I1 (turn n σ1 H1 w1)) fun b s2 hZ=>?_)
 obtain⟨H2,I2,q2⟩:=hZ;cases b with
 | true =>
  obtain⟨N,hN,q2⟩:=q2;rw[if_pos rfl];refine wpAny_passesOwn hp (thn (hb pins s2 σ1 H2 _ I2 q2) fun f s3 q3=>?_)
  cases f with
  | next =>
   obtain⟨σ3,H3,I3,n3⟩:=q3;obtain⟨m',hm,w3⟩:=hN σ3 H3 n3;exact⟨m',hm,σ3,H3,I3,w3⟩
  | cont =>
   obtain⟨σ3,H3,I3,n3⟩:=q3;obtain⟨m',hm,w3⟩:=hN σ3 H3 n3;exact⟨m',hm,σ3,H3,I3,w3⟩
  | brk=>exact q3
  | ret v=>exact q3
 | false =>
  rw[if_neg Vf];exact wpAny_execs_nil ⟨σ1,H2,I2,q2⟩
end
structure It where
 go:Nat->Hp->Prop
 yld:Nat->Hp->V->Hp->Prop
 stop:Nat->Hp->Prop
def Qja(X:Cx)(pins:YP_)(H:Hp)(b:Addr):Prop :=
 H b=none/\b≠X.env.locals/\b∉X.fs/\(b∈X.ex\/X.s₀.heap.objs.size<=b)/\(∀ x c,X.env.cells.lookup x=some c->c≠b)/\∀ p∈X.pn++pins,p.1≠b
theorem Inv.fpOk{X:Cx}{pins:YP_}{σ:St}{H H':Hp}{s:Shared}{b:Addr}(I:Inv X pins σ H s)(hb:s.heap.objs.size<=b)(hn:H' b=none):Qja X pins H' b:=by
 refine⟨hn,Nat.ne_of_gt (Vt I.lt hb),I.nofs hb,.inr (Vj I.sz hb),fun x c e z=>?_,fun p hp z=>?_⟩
 ·obtain⟨v,q⟩:=I.cell x c e
  exact absurd (Vt q.lt (by rw[z];exact hb)) (Vu _)
 ·exact absurd (Vt (Vh (I.pin p hp).1) (by rw[z];exact hb)) (Vu _)
structure Q7b(P:Program)(w:World)(K:W.Frag)(tg:Expr)(J:It)(fp:List Addr)(it:Addr)(tn:Nat->Heap->Prop):Prop where
 mem:it∈fp
 obj:∀ i h,tn i h->∀ b∈fp,∃ o,h.get? b=some o/\∀ v,o.data≠.cell v
 keep:∀ i h h',tn i h->(∀ b∈fp,∀ o,h.get? b=some o->h'.get? b=some o)->tn i h'
 item:∀ (X:Cx),X.prog=P->X.w=w->X.K=K->X.calm=true->∀ (i:Nat) (pins:YP_) (s:Shared) (σ:St) (H:Hp) (E:YQ_),Inv X pins σ H s->(∀ b∈fp,Qja X pins H b)->tn i s.heap->J.go i H ->
  wpAny (model P w) X.A (pyNext (.ref it)) (fun r s1=>∃ u,r=some u /\
   wpAny (model P w) X.A (letOwnedTupleGo tg (.ref it) u) (fun _ s2=>∃ x H',Inv X pins σ H' s2/\Qq x u/\J.yld i H x H'/\tn (i+1) s2.heap/\∀ b∈fp,H' b=none) E s1) E s
 done:∀ (X:Cx),X.prog=P->X.w=w->X.K=K->X.calm=true->∀ (i:Nat) (pins:YP_) (s:Shared) (σ:St) (H:Hp) (E:YQ_),Inv X pins σ H s->(∀ b∈fp,Qja X pins H b)->tn i s.heap->J.stop i H ->
  wpAny (model P w) X.A (pyNext (.ref it)) (fun r s1=>r=none/\Inv X pins σ H s1) E s
 self:∀ (A:Around) (i:Nat) (s:Shared) (Q:YQ_) (E:YQ_),tn i s.heap->Q (.ref it) s->wpAny (model P w) A (pyIter (.ref it)) Q E s
abbrev TI:=St->Hp->(It->Hp->Prop)->Prop
def PIE(X:Cx)(pins:YP_)(σ:St)(tg:Expr)(R:It->Hp->Prop)(itv:Value)(s2:Shared):Prop :=
 ∃ (it:Addr) (fp:List Addr) (tn:Nat->Heap->Prop) (J:It) (H':Hp),itv=.ref it/\Inv X pins σ H' s2/\Q7b X.prog X.w X.K tg J fp it tn/\tn 0 s2.heap/\(∀ b∈fp,Qja X pins H' b)/\R J H'
def PI(X:Cx)(tg iter:Expr)(wi:TI):Prop :=
 ∀ (pins:YP_) (s:Shared) (σ:St) (H:Hp) (R:It->Hp->Prop),Inv X pins σ H s->wi σ H R ->
  wpAny (model X.prog X.w) X.A (eval iter X.env) (fun v s1=>wpAny (model X.prog X.w) X.A (pyIter v) (PIE X pins σ tg R) X.xe s1) X.xe s
theorem Ysa{M:Model}{A:Around}{E:YQ_}{s:Shared}{tg:Expr}{it:Addr}{u:Value}{o:Obj}{n:String}{vs:Array Value}{Q:Unit->Shared->Prop}(ho:s.heap.get? it=some o)(hc:o.cls=.type n)(hd:o.data=.fields vs)
 (hn:["enumerate","zip","dict_itemiterator","dict_reverseitemiterator","odict_iterator","itertools.zip_longest","itertools.pairwise"].contains n=false) (hQ:Q () s):wpAny M A (letOwnedTupleGo tg (.ref it) u) Q E s:=by
 unfold letOwnedTupleGo;cases tg <;> first
  | exact Vg hQ
  | (cases u <;> first
   | exact Vg hQ
   | (refine Va (wpAny_load ho ?_)
      rw[hc,hd];show wpAny M A (if (["enumerate","zip","dict_itemiterator","dict_reverseitemiterator","odict_iterator","itertools.zip_longest","itertools.pairwise"].contains n && vs[0]? == some (rawInt _))=true then _ else _) Q E s
      rw[if_neg (by intro h;rw[hn,Bool.false_and]at h;cases h)]
      exact Vg hQ))
def Itl(K:W.Frag)(a:Addr):It :=
 ⟨fun i H=>∃ xs x,SqL K H a xs/\xs[i]?=some x,fun i H x H'=>H'=H/\∀ xs,SqL K H a xs->xs[i]?=some x,fun i H=>∃ xs,SqL K H a xs/\xs.length<=i⟩
def Itt(K:W.Frag)(a:Addr):It :=
 ⟨fun i H=>∃ xs x,SqT K H a xs/\xs[i]?=some x,fun i H x H'=>H'=H/\∀ xs,SqT K H a xs->xs[i]?=some x,fun i H=>∃ xs,SqT K H a xs/\xs.length<=i⟩
def Itr(lo:Int)(n:Nat):It:=⟨fun i _=>i < n,fun i H x H'=>H'=H/\x=.int (lo+i),fun i _=>n<=i⟩
theorem Yta{P:Program}{w:World}{K:W.Frag}{tg:Expr}(a it:Addr):Q7b P w K tg (Itl K a) [it] it (fun i h=>h.IsListIter it a i) where
 mem:=by simp
 obj:=fun i h st b hb=>by
  have e:b=it:=by simpa using hb
  subst e;obtain⟨o,e,c,d⟩:=st;exact⟨o,e,fun v z=>by rw[d]at z;cases z⟩
 keep:=fun i h h' st k=>st.at fun o e=>k it (by simp) o e
 item:=by
  intro X hP hw hK hc i pins s σ H E I hf st hg;subst hP hw hK;obtain⟨xs,x,hq,hx⟩:=hg;obtain⟨its,rv,p,hz⟩:=I.list hq;obtain⟨u,hu,ru⟩:=rv.get hx;obtain⟨f0,f1,f2,f3,f4,f5⟩:=hf it (by simp)
  refine wpAny_pyNext_list_item st p.isList (x:=u) (by simpa using hu) fun h' st' sb=>?_
  have I1:Inv X pins σ H { s with heap:=h' }:=I.turned (t':=s.toks) (fun b o hb e=>(sb.2 b hb).trans e) f0 f1 f3 f4 f5
  obtain⟨o,e,c,d⟩:=id st';exact⟨u,rfl,Ysa (s:={ s with heap:=h' }) e c d (by decide) ⟨x,H,I1,ru,⟨rfl,fun ys hy=>by rw[I.list_inj hy hq];exact hx⟩,st',fun b hb=>(hf b hb).1⟩⟩
 done:=by
  intro X hP hw hK hc i pins s σ H E I hf st hg;subst hP hw hK;obtain⟨xs,hq,hx⟩:=hg;obtain⟨its,rv,p,hz⟩:=I.list hq;obtain⟨f0,f1,f2,f3,f4,f5⟩:=hf it (by simp)
  have hl:=rv.length;exact wpAny_pyNext_list_end (I.ok.hd hc) st p.isList (by simp;omega) fun h' eb=>⟨rfl,I.turned (t':=s.toks) (fun b o hb e=>eb b o hb e) f0 f1 f3 f4 f5⟩
 self:=fun _ _ _ _ _ st h=>wpAny_pyIter_listiter st h
theorem ZUa{P:Program}{w:World}{K:W.Frag}{tg:Expr}(a it:Addr):Q7b P w K tg (Itt K a) [it] it (fun i h=>h.IsTupleIter it a i) where
 mem:=by simp
 obj:=fun i h st b hb=>by
  have e:b=it:=by simpa using hb
  subst e;obtain⟨o,e,c,d⟩:=st;exact⟨o,e,fun v z=>by rw[d]at z;cases z⟩
 keep:=fun i h h' st k=>st.at fun o e=>k it (by simp) o e
 item:=by
  intro X hP hw hK hc i pins s σ H E I hf st hg;subst hP hw hK;obtain⟨xs,x,hq,hx⟩:=hg;obtain⟨its,rv,p,hz⟩:=I.tuple hq;obtain⟨u,hu,ru⟩:=rv.get hx;obtain⟨f0,f1,f2,f3,f4,f5⟩:=hf it (by simp)
  refine wpAny_pyNext_tuple_item st (show s.heap.IsTuple a its.toArray from p) (x:=u) (by simpa using hu) fun h' st' sb=>?_
  have I1:Inv X pins σ H { s with heap:=h' }:=I.turned (t':=s.toks) (fun b o hb e=>(sb.2 b hb).trans e) f0 f1 f3 f4 f5
  obtain⟨o,e,c,d⟩:=id st';exact⟨u,rfl,Ysa (s:={ s with heap:=h' }) e c d (by decide) ⟨x,H,I1,ru,⟨rfl,fun ys hy=>by rw[I.tuple_inj hy hq];exact hx⟩,st',fun b hb=>(hf b hb).1⟩⟩
 done:=by
  intro X hP hw hK hc i pins s σ H E I hf st hg;subst hP hw hK;obtain⟨xs,hq,hx⟩:=hg;obtain⟨its,rv,p,hz⟩:=I.tuple hq;obtain⟨f0,f1,f2,f3,f4,f5⟩:=hf it (by simp)
  have hl:=rv.length;exact wpAny_pyNext_tuple_end (I.ok.hd hc) st (show s.heap.IsTuple a its.toArray from p) (by simp;omega) fun h' eb=>⟨rfl,I.turned (t':=s.toks) (fun b o hb e=>eb b o hb e) f0 f1 f3 f4 f5⟩
 self:=fun _ _ _ _ _ st h=>wpAny_pyIter_tupleiter st h
theorem Q8b{P:Program}{w:World}{K:W.Frag}{tg:Expr}(it:Addr)(lo:Int)(n:Nat):Q7b P w K tg (Itr lo n) [it] it (fun i h=>IsRangeIter h it (lo+(i:Nat) * 1) ((n:Int) - (i:Nat)) 1) where
 mem:=by simp
 obj:=fun i h st b hb=>by
  have e:b=it:=by simpa using hb
  subst e;exact⟨_,st,fun v z=>by
   have z':Data.fields _=Data.cell v:=z;cases z'⟩
 keep:=fun i h h' st k=>k it (by simp) _ st
 item:=by
  intro X hP hw hK hc i pins s σ H E I hf st hg;subst hP hw hK;obtain⟨f0,f1,f2,f3,f4,f5⟩:=hf it (by simp)
  have W:=Walks.range (prog:=X.prog) (w:=X.w) (I.ok.hd hc) it lo 1 n;refine W.item i s _ _ hg st fun v h' tk hv st' kk=>?_
  obtain⟨t,rfl⟩:=hv;have I1:Inv X pins σ H { s with heap:=h',toks:=tk }:=I.turned (fun b o hb e=>kk b o (by simpa using hb) e) f0 f1 f3 f4 f5
  refine⟨_,rfl,Ysa (s:={ s with heap:=h',toks:=tk }) (n:="range_iterator") st' rfl rfl (by decide) ⟨.int (lo+i),H,I1,⟨t,?_⟩,⟨rfl,rfl⟩,st',fun b hb=>(hf b hb).1⟩⟩
  rw[Int.mul_one]
 done:=by
  intro X hP hw hK hc i pins s σ H E I hf st hg;subst hP hw hK;obtain⟨f0,f1,f2,f3,f4,f5⟩:=hf it (by simp)
  exact wpAny_pyNext_range_end (I.ok.hd hc) st (by have:n<=i:=hg;omega) fun h' eb=>⟨rfl,I.turned (t':=s.toks) (fun b o hb e=>eb b o hb e) f0 f1 f3 f4 f5⟩
 self:=fun _ _ _ _ _ st h=>wpAny_pyIter_rangeiter st h
section
variable{X:Cx}{tg:Expr}
def Y1b(K:W.Frag)(tl:TE):TI:=fun σ H R=>tl σ H fun x H1=>∃ a,x=.ref a/\(∃ xs,SqL K H1 a xs)/\R (Itl K a) H1
def Jnc(K:W.Frag)(tl:TE):TI:=fun σ H R=>tl σ H fun x H1=>∃ a,x=.ref a/\(∃ xs,SqT K H1 a xs)/\R (Itt K a) H1
theorem Jq{l:Expr}{tl:TE}(hl:PE X l tl):PI X tg l (Y1b X.K tl):=by
 intro pins s σ H R I h;refine thn (hl pins s σ H _ I h) fun v s1 hZ=>?_
 obtain⟨x,H1,I1,r1,q1⟩:=hZ;obtain⟨a,e,⟨xs,hq⟩,q⟩:=q1;subst e;cases r1;obtain⟨its,rv,p,hz⟩:=I1.list hq;refine wpAny_pyIter_list p.isList ?_
 refine⟨s1.heap.objs.size,[s1.heap.objs.size],_,_,H1,rfl,I1.kept (t':=s1.toks) fun b o e=>Vd _ e,Yta a _,⟨_,Vi _ rfl,rfl,rfl⟩,fun b hb=>?_,q⟩
 have e:b=s1.heap.objs.size:=by simpa using hb
 subst e;exact I1.fpOk (Ve _) (I1.hok.fresh (Ve _))
theorem Y2b{l:Expr}{tl:TE}(hl:PE X l tl):PI X tg l (Jnc X.K tl):=by
 intro pins s σ H R I h;refine thn (hl pins s σ H _ I h) fun v s1 hZ=>?_
 obtain⟨x,H1,I1,r1,q1⟩:=hZ;obtain⟨a,e,⟨xs,hq⟩,q⟩:=q1;subst e;cases r1;obtain⟨its,rv,p,hz⟩:=I1.tuple hq;refine wpAny_pyIter_tuple (show s1.heap.IsTuple a its.toArray from p) ?_
 refine⟨s1.heap.objs.size,[s1.heap.objs.size],_,_,H1,rfl,I1.kept (t':=s1.toks) fun b o e=>Vd _ e,ZUa a _,⟨_,Vi _ rfl,rfl,rfl⟩,fun b hb=>?_,q⟩
 have e:b=s1.heap.objs.size:=by simpa using hb
 subst e;exact I1.fpOk (Ve _) (I1.hok.fresh (Ve _))
theorem XVa{pins:YP_}{σ:St}{H:Hp}{s:Shared}{R:It->Hp->Prop}{E:YQ_}{lo hi:Int}{t u v:Tok}{tk:Nat}(I:Inv X pins σ H s)(h1 : -(2 ^ 62)<=lo)(h2:lo < 2 ^ 62)(h3 : -(2 ^ 62)<=hi)(h4:hi < 2 ^ 62)
 (q:R (Itr lo (hi - lo).toNat) H):wpAny (model X.prog X.w) X.A (pyIter (.ref s.heap.objs.size)) (PIE X pins σ tg R) E { s with heap:=s.heap.push { cls:=.type "range",data:=.fields #[.int lo t,.int hi u,.int 1 v] },toks:=tk }:=by
 refine wpAny_pyIter_range (IsRange.new ..) (small_one h1 h2 h3 h4) ?_
 have I1:Inv X pins σ H { s with heap:=s.heap.push { cls:=.type "range",data:=.fields #[.int lo t,.int hi u,.int 1 v] },toks:=tk }:=I.kept fun b o e=>Vd _ e
 refine⟨(s.heap.push { cls:=.type "range",data:=.fields #[.int lo t,.int hi u,.int 1 v] }).objs.size,[(s.heap.push { cls:=.type "range",data:=.fields #[.int lo t,.int hi u,.int 1 v] }).objs.size],_,_,H,rfl,
  I1.kept (t':=tk) fun b o e=>Vd _ e,Q8b _ lo (hi - lo).toNat,?_,fun b hb=>?_,q⟩
 ·have e1:lo+((0:Nat):Int) * 1=lo:=by simp
  have e2:(((hi - lo).toNat:Nat):Int) - ((0:Nat):Int)=Builtin.Range.rangeSize lo hi 1:=by rw[rangeSize_one];split <;> omega
  show IsRangeIter _ _ (lo+((0:Nat):Int) * 1) ((((hi - lo).toNat:Nat):Int) - ((0:Nat):Int)) 1;rw[e1,e2];exact Vi _ rfl
 ·have e:b=(s.heap.push { cls:=.type "range",data:=.fields #[.int lo t,.int hi u,.int 1 v] }).objs.size:=by simpa using hb
  subst e;exact I1.fpOk (Ve _) (I1.hok.fresh (Ve _))
def Y3b(ta:TA):TI:=fun σ H R=>ta σ H fun vs H1=>∃ j:Int,vs=[.int j] /\ -(2 ^ 62)<=j/\j < 2 ^ 62/\R (Itr 0 j.toNat) H1
def Y4b(ta:TA):TI:=fun σ H R=>ta σ H fun vs H1=>∃ i j:Int,vs=[.int i,.int j]/\(-(2 ^ 62)<=i/\i < 2 ^ 62 /\ -(2 ^ 62)<=j/\j < 2 ^ 62)/\R (Itr i (j - i).toNat) H1
theorem XT{a:Expr}{ta:TA}{p pos:Pos}(hg:Gl X "range")(hm:X.mg "range"=none)(ha:PA X [a] ta)(hs:starEach [a] X.env=[(false,eval a X.env)]:=by rfl):PI X tg (.Call (.Name "range" p) [a] [] pos) (Y3b ta):=by
 intro pins s σ H R I h;refine Call_ (YG I hg hm boot_range (PyProof.Rows.callWith_type1 (thn (ha pos pins s σ H _ I h) fun us s1 hZ=>?_) hs rfl))
 obtain⟨vs,H1,I1,r1,q1⟩:=hZ;obtain⟨j,e,q1,q2,q⟩:=q1;subst e;cases r1 with
 | cons r rr =>
  cases rr;obtain⟨t,rfl⟩:=r;exact call_range_1 (XVa I1 (by omega) (by omega) q1 q2 (by simpa using q))
theorem J4b{a b:Expr}{ta:TA}{p pos:Pos}(hg:Gl X "range")(hm:X.mg "range"=none)(ha:PA X [a,b] ta)(hs:starEach [a,b] X.env=[(false,eval a X.env),(false,eval b X.env)]:=by rfl)(hs2:starEach [b] X.env=[(false,eval b X.env)]:=by rfl) :
 PI X tg (.Call (.Name "range" p) [a,b] [] pos) (Y4b ta):=by
 intro pins s σ H R I h;refine Call_ (YG I hg hm boot_range (PyProof.Rows.callWith_type1 (thn (ha pos pins s σ H _ I h) fun us s1 ⟨vs,H1,I1,r1,q1⟩=>?_) (by rw[hs,hs2]) (by rw[hs2];rfl)))
 obtain⟨i,j,e,⟨q1,q2,q3,q4⟩,q⟩:=q1;subst e;cases r1 with
 | cons r rr =>
  cases rr with
  | cons r' rr =>
   cases rr;obtain⟨t,rfl⟩:=r;obtain⟨t',rfl⟩:=r';exact call_range_2 (XVa I1 q1 q2 q3 q4 q)
def XWa(wi:TI)(g:TG)(tb:TS):TS:=fun D σ H=>wi σ H fun J H1=>∃ W:Nat->Nat->St->Hp->Prop,(∃ m,W 0 m σ H1)/\∀ i m σ H,W i m σ H ->
 (J.stop i H/\D.nx σ H)\/(J.go i H/\∃ N:St->Hp->Prop,(∀ σ' H',N σ' H'->∃ m',m' < m/\W (i+1) m' σ' H')/\∀ x H',J.yld i H x H'->g x σ H' fun σ2 H2=>tb { D with nx:=N,ct:=N,bk:=D.nx } σ2 H2)
def ZVa(fp:List Addr)(h:Heap):YP_:=fp.filterMap fun b=>(h.get? b).map fun o=>(b,o)
theorem YH{fp:List Addr}{h:Heap}{b:Addr}{o:Obj}(hb:b∈fp)(e:h.get? b=some o):(b,o)∈ZVa fp h:=mem_filterMap.mpr ⟨b,hb,by rw[e];rfl⟩
theorem J5b{fp:List Addr}{h:Heap}{p:Addr×Obj}(hp:p∈ZVa fp h):p.1∈fp/\h.get? p.1=some p.2:=by
 obtain⟨b,hb,e⟩:=mem_filterMap.mp hp;cases q:h.get? b with
 | none=>rw[q]at e;cases e
 | some o =>
  rw[q]at e;have e':(b,o)=p:=Option.some.inj e;subst e';exact⟨hb,q⟩
theorem Inv.pinned{pins:YP_}{σ:St}{H:Hp}{s:Shared}{fp:List Addr}(I:Inv X pins σ H s)(hf:∀ b∈fp,Qja X pins H b)(ho:∀ b∈fp,∃ o,s.heap.get? b=some o/\∀ v,o.data≠.cell v):Inv X (pins++ZVa fp s.heap) σ H s :=
 I.pins_of fun p hp=>(Vl.mp hp).elim (fun z=>I.pin p (Vp _ z)) fun z=>by
  obtain⟨hb,e⟩:=J5b z;obtain⟨f0,f1,f2,_⟩:=hf p.1 hb;obtain⟨o,e',d⟩:=ho p.1 hb;rw[e]at e';cases e';exact⟨e,f0,f1,f2,d⟩
theorem Inv.unpinned{pins pl:YP_}{σ:St}{H:Hp}{s:Shared}(I:Inv X (pins++pl) σ H s):Inv X pins σ H s:=I.pins_of fun p hp=>I.pin p (Vp _ (mem_append_left _ hp))
theorem ZL{iter:Expr}{body:List Stmt}{wi:TI}{g:TG}{tb:TS}{pos:Pos}(hp:PassesOwn (model X.prog X.w) X.A X.env X.xe)(hc:X.calm=true)(hi:PI X tg iter wi)(hg:PG X tg g)(hb:PSs X body tb)
 (hs:∀ x,foldedSetIterable iter X.env x=pure x:=by intro _;rfl):PS X (.For tg iter body [] pos) (XWa wi g tb):=by
 intro pins s σ H D I h;refine wpAny_For (thn (hi pins s σ H _ I h) fun v s1 h1=>thn h1 fun itv s2 h2=>?_) hs
 obtain⟨it,fp,tn,J,H2,e,I2,T,st2,f2,W,⟨m0,w0⟩,turn⟩:=h2;subst e;have stat:∀ {H':Hp},(∀ b∈fp,H' b=none)->∀ b∈fp,Qja X pins H' b:=fun hn b hb=>⟨hn b hb,(f2 b hb).2⟩
 refine codeAny_forLoop_any (fun n s'=>∃ i σ' H',Inv X pins σ' H' s'/\tn i s'.heap/\(∀ b∈fp,H' b=none)/\W i n σ' H') ?_ m0 ⟨0,σ,H2,I2,st2,fun b hb=>(f2 b hb).1,w0⟩
 rintro n s3 ⟨i,σ3,H3,I3,st3,fr3,w3⟩
 rcases turn i n σ3 H3 w3 with ⟨stop,qn⟩ | ⟨go,N,hN,step⟩
 ·refine wpAny_passesOwn hp (thn (T.done X rfl rfl rfl hc i pins s3 σ3 H3 X.xe I3 (stat fr3) st3 stop) fun r s4 hZ=>?_)
  obtain⟨hr,I4⟩:=hZ;subst hr;exact wpAny_execs_nil ⟨σ3,H3,I4,qn⟩
 ·refine wpAny_passesOwn hp (thn (T.item X rfl rfl rfl hc i pins s3 σ3 H3 X.xe I3 (stat fr3) st3 go) fun r s4 hZ=>?_)
  obtain⟨u,hr,h4⟩:=hZ;subst hr;refine wpAny_passesOwn hp (thn h4 fun _ s5 hZ=>?_)
  obtain⟨x,H5,I5,r5,y5,st5,fr5⟩:=hZ;have I5':=I5.pinned (stat fr5) (T.obj _ _ st5);refine wpAny_passesOwn hp (thn (hg _ s5 σ3 H5 x u _ I5' r5 (step x H5 y5)) fun _ s6 hZ=>?_)
  obtain⟨σ6,H6,I6,q6⟩:=hZ;refine wpAny_passesOwn hp (thn (hb _ s6 σ6 H6 _ I6 q6) fun f s7 q7=>?_)
  have again:∀ {σ7:St} {H7:Hp},Inv X (pins++ZVa fp s5.heap) σ7 H7 s7->N σ7 H7->∃ m,m < n/\∃ i σ' H',Inv X pins σ' H' s7/\tn i s7.heap/\(∀ b∈fp,H' b=none)/\W i m σ' H':=fun {σ7 H7} I7 n7=>by
   obtain⟨m',hm,w7⟩:=hN σ7 H7 n7;refine⟨m',hm,i+1,σ7,H7,I7.unpinned,T.keep _ _ _ st5 fun b hb o e=>(I7.pin (b,o) (Vp _ (Vp _ (YH hb e)))).1,fun b hb=>?_,w7⟩
   obtain⟨o,e,d⟩:=T.obj _ _ st5 b hb;exact(I7.pin (b,o) (Vp _ (Vp _ (YH hb e)))).2.1
  cases f with
  | next=>obtain⟨σ7,H7,I7,n7⟩:=q7;exact again I7 n7
  | cont=>obtain⟨σ7,H7,I7,n7⟩:=q7;exact again I7 n7
  | brk=>obtain⟨σ7,H7,I7,q7⟩:=q7;exact⟨σ7,H7,I7.unpinned,q7⟩
  | ret v=>obtain⟨x7,σ7,H7,I7,r7,q7⟩:=q7;exact⟨x7,σ7,H7,I7.unpinned,r7,q7⟩
end
theorem Y5b{K:W.Frag}{a:Addr}{xs:List V}{g:TG}{tb:TS}{D:Zq}{σ:St}{H:Hp}(Pv:Nat->St->Hp->Prop)(h0:Pv 0 σ H)(hl:∀ i σ H,i<=xs.length->Pv i σ H->SqL K H a xs)
 (hs:∀ i x σ H,xs[i]?=some x->Pv i σ H->g x σ H fun σ2 H2=>tb { D with nx:=Pv (i+1),ct:=Pv (i+1),bk:=D.nx } σ2 H2) (hd:∀ σ H,Pv xs.length σ H->D.nx σ H) :
 ∃ W:Nat->Nat->St->Hp->Prop,(∃ m,W 0 m σ H)/\∀ i m σ H,W i m σ H ->
  ((Itl K a).stop i H/\D.nx σ H)\/((Itl K a).go i H/\∃ N:St->Hp->Prop,(∀ σ' H',N σ' H'->∃ m',m' < m/\W (i+1) m' σ' H')/\∀ x H',(Itl K a).yld i H x H'->g x σ H' fun σ2 H2=>tb { D with nx:=N,ct:=N,bk:=D.nx } σ2 H2):=by
 refine⟨fun i m σ H=>m=xs.length - i/\i<=xs.length/\Pv i σ H,⟨xs.length,by simp,Vk _,h0⟩,?_⟩
 rintro i m σ H ⟨rfl,hi,p⟩;have q:=hl i σ H hi p
 by_cases hlt:i < xs.length
 ·refine .inr ⟨⟨xs,xs[i],q,by simp[hlt]⟩,Pv (i+1),fun σ' H' p'=>⟨xs.length - (i+1),by omega,rfl,hlt,p'⟩,fun x H' y=>?_⟩
  obtain⟨e,y⟩:=y;subst e;exact hs i x σ _ (y xs q) p
 ·have e:i=xs.length:=by omega
  subst e;exact .inl ⟨⟨xs,q,Ve _⟩,hd σ H p⟩
theorem QJc{K:W.Frag}{a:Addr}{xs:List V}{g:TG}{tb:TS}{D:Zq}{σ:St}{H:Hp}(Pv:Nat->St->Hp->Prop)(h0:Pv 0 σ H)(hl:∀ i σ H,i<=xs.length->Pv i σ H->SqT K H a xs)
 (hs:∀ i x σ H,xs[i]?=some x->Pv i σ H->g x σ H fun σ2 H2=>tb { D with nx:=Pv (i+1),ct:=Pv (i+1),bk:=D.nx } σ2 H2) (hd:∀ σ H,Pv xs.length σ H->D.nx σ H) :
 ∃ W:Nat->Nat->St->Hp->Prop,(∃ m,W 0 m σ H)/\∀ i m σ H,W i m σ H ->
  ((Itt K a).stop i H/\D.nx σ H)\/((Itt K a).go i H/\∃ N:St->Hp->Prop,(∀ σ' H',N σ' H'->∃ m',m' < m/\W (i+1) m' σ' H')/\∀ x H',(Itt K a).yld i H x H'->g x σ H' fun σ2 H2=>tb { D with nx:=N,ct:=N,bk:=D.nx } σ2 H2):=by
 refine⟨fun i m σ H=>m=xs.length - i/\i<=xs.length/\Pv i σ H,⟨xs.length,by simp,Vk _,h0⟩,?_⟩
 rintro i m σ H ⟨rfl,hi,p⟩;have q:=hl i σ H hi p
 by_cases hlt:i < xs.length
 ·refine .inr ⟨⟨xs,xs[i],q,by simp[hlt]⟩,Pv (i+1),fun σ' H' p'=>⟨xs.length - (i+1),by omega,rfl,hlt,p'⟩,fun x H' y=>?_⟩
  obtain⟨e,y⟩:=y;subst e;exact hs i x σ _ (y xs q) p
 ·have e:i=xs.length:=by omega
  subst e;exact .inl ⟨⟨xs,q,Ve _⟩,hd σ H p⟩
theorem J6b{lo:Int}{n:Nat}{g:TG}{tb:TS}{D:Zq}{σ:St}{H:Hp}(Pv:Nat->St->Hp->Prop)(h0:Pv 0 σ H)
 (hs:∀ i σ H,i < n->Pv i σ H->g (.int (lo+i)) σ H fun σ2 H2=>tb { D with nx:=Pv (i+1),ct:=Pv (i+1),bk:=D.nx } σ2 H2) (hd:∀ σ H,Pv n σ H->D.nx σ H) :
 ∃ W:Nat->Nat->St->Hp->Prop,(∃ m,W 0 m σ H)/\∀ i m σ H,W i m σ H ->
  ((Itr lo n).stop i H/\D.nx σ H)\/((Itr lo n).go i H/\∃ N:St->Hp->Prop,(∀ σ' H',N σ' H'->∃ m',m' < m/\W (i+1) m' σ' H')/\∀ x H',(Itr lo n).yld i H x H'->g x σ H' fun σ2 H2=>tb { D with nx:=N,ct:=N,bk:=D.nx } σ2 H2):=by
 refine⟨fun i m σ H=>m=n - i/\i<=n/\Pv i σ H,⟨n,by simp,Vk _,h0⟩,?_⟩
 rintro i m σ H ⟨rfl,hi,p⟩
 by_cases hlt:i < n
 ·refine .inr ⟨hlt,Pv (i+1),fun σ' H' p'=>⟨n - (i+1),by omega,rfl,hlt,p'⟩,fun x H' y=>?_⟩
  obtain⟨e,y⟩:=y;subst e y;exact hs i σ _ hlt p
 ·have e:i=n:=by omega
  subst e;exact .inl ⟨Ve _,hd σ H p⟩
abbrev R2:=V->V->Hp->VK->Prop
def OpR(X:Cx)(f:Value->Value->Sem Value)(r:R2):Prop :=
 ∀ (pins:YP_) (s:Shared) (σ:St) (H:Hp) (x y:V) (v u:Value) (Q:VK),Inv X pins σ H s->Qq x v->Qq y u->r x y H Q ->
  wpAny (model X.prog X.w) X.A (f v u) (EP X pins σ Q) X.xe s
def UnR(X:Cx)(f:Value->Sem Value)(r:V->Hp->VK->Prop):Prop :=
 ∀ (pins:YP_) (s:Shared) (σ:St) (H:Hp) (x:V) (v:Value) (Q:VK),Inv X pins σ H s->Qq x v->r x H Q ->
  wpAny (model X.prog X.w) X.A (f v) (EP X pins σ Q) X.xe s
def JY(X:Cx)(f:Value)(r:List V->Hp->VK->Prop):Prop :=
 ∀ (pins:YP_) (s:Shared) (σ:St) (H:Hp) (xs:List V) (us:List Value) (Q:VK),Inv X pins σ H s->Qr xs us->r xs H Q ->
  wpAny (model X.prog X.w) X.A (call f us) (EP X pins σ Q) X.xe s
def Y2c(X:Cx)(r:V->Hp->(Bool->Hp->Prop)->Prop):Prop :=
 ∀ (pins:YP_) (s:Shared) (σ:St) (H:Hp) (x:V) (v:Value) (Q:Bool->Hp->Prop),Inv X pins σ H s->Qq x v->r x H Q ->
  wpAny (model X.prog X.w) X.A (truthy v) (TP X pins σ Q) X.xe s
def tOp(r:R2)(ta tb:TE):TE:=fun σ H Q=>ta σ H fun x H1=>tb σ H1 fun y H2=>r x y H2 Q
def tUn(r:V->Hp->VK->Prop)(ta:TE):TE:=fun σ H Q=>ta σ H fun x H1=>r x H1 Q
def rI(C:Int->Int->Prop)(g:Int->Int->V):R2:=fun x y H Q=>∃ i j,x=.int i/\y=.int j/\C i j/\Q (g i j) H
def rI0(g:Int->Int->V):R2:=fun x y H Q=>∃ i j,x=.int i/\y=.int j/\Q (g i j) H
def rU(g:Int->V):V->Hp->VK->Prop:=fun x H Q=>∃ i,x=.int i/\Q (g i) H
section
variable{X:Cx}{a b c:Expr}{ta tb tc:TE}{pos:Pos}
theorem Joc(ha:PE X a ta)(hb:PE X b tb){pins:YP_}{s:Shared}{σ:St}{H:Hp}{R:V->V->Hp->Prop}(I:Inv X pins σ H s)
 (h:ta σ H fun x H1=>tb σ H1 fun y H2=>R x y H2) {Q:YQ_} {f:Value->Value->Sem Value}
 (hf:∀ v u s2 x y H2,Inv X pins σ H2 s2->Qq x v->Qq y u->R x y H2->wpAny (model X.prog X.w) X.A (f v u) Q X.xe s2) :
 wpAny (model X.prog X.w) X.A (eval a X.env) (fun v s₁=>wpAny (model X.prog X.w) X.A (eval b X.env) (fun u s₂=>wpAny (model X.prog X.w) X.A (f v u) Q X.xe s₂) X.xe s₁) X.xe s:=by
 refine thn (ha pins s σ H _ I h) fun v s1 hZ=>?_
 obtain⟨x,H1,I1,r1,q1⟩:=hZ;refine thn (hb pins s1 σ H1 _ I1 q1) fun u s2 hZ=>?_
 obtain⟨y,H2,I2,r2,q2⟩:=hZ;exact hf v u s2 x y H2 I2 r1 r2 q2
theorem Qj{op:Operator}{r:R2}(ho:OpR X (binaryOp op) r)(ha:PE X a ta)(hb:PE X b tb):PE X (.BinOp a op b pos) (tOp r ta tb):=by
 intro pins s σ H Q I h;exact wpAny_BinOp (Joc ha hb I h fun v u s2 x y H2 I2 rx ry q=>ho pins s2 σ H2 x y v u Q I2 rx ry q)
theorem Ync{op:UnaryOp}{r:V->Hp->VK->Prop}(ho:UnR X (unaryOp op) r)(ha:PE X a ta):PE X (.UnaryOp op a pos) (tUn r ta):=by
 intro pins s σ H Q I h;exact UnaryOp_ (thn (ha pins s σ H _ I h) fun v s1 ⟨x,H1,I1,r1,q1⟩=>ho pins s1 σ H1 x v Q I1 r1 q1)
theorem opI{f:Value->Value->Sem Value}{C:Int->Int->Prop}{g:Int->Int->Int}
 (rule:∀ (i j:Int) (t u:Tok) (s:Shared) (Q:YQ_) (E:YQ_),C i j->Q (.int (g i j) s.toks) { s with toks:=s.toks+1 }->wpAny (model X.prog X.w) X.A (f (.int i t) (.int j u)) Q E s) :
 OpR X f (rI C fun i j=>.int (g i j)):=by
 intro pins s σ H x y v u Q I rx ry h;obtain⟨i,j,rfl,rfl,hc,q⟩:=h;obtain⟨t,rfl⟩:=rx;obtain⟨t',rfl⟩:=ry;exact rule i j t t' s _ _ hc ⟨.int (g i j),H,I.tok _,⟨_,rfl⟩,q⟩
theorem Jpc{f:Value->Value->Sem Value}{g:Int->Int->Int}
 (rule:∀ (i j:Int) (t u:Tok) (s:Shared) (Q:YQ_) (E:YQ_),Q (.int (g i j) s.toks) { s with toks:=s.toks+1 }->wpAny (model X.prog X.w) X.A (f (.int i t) (.int j u)) Q E s) :
 OpR X f (rI0 fun i j=>.int (g i j)):=by
 intro pins s σ H x y v u Q I rx ry h;obtain⟨i,j,rfl,rfl,q⟩:=h;obtain⟨t,rfl⟩:=rx;obtain⟨t',rfl⟩:=ry;exact rule i j t t' s _ _ ⟨.int (g i j),H,I.tok _,⟨_,rfl⟩,q⟩
theorem Yoc{f:Value->Value->Sem Value}{g:Int->Int->Bool}
 (rule:∀ (i j:Int) (t u:Tok) (s:Shared) (Q:YQ_) (E:YQ_),Q (.bool (g i j)) s->wpAny (model X.prog X.w) X.A (f (.int i t) (.int j u)) Q E s) :
 OpR X f (rI0 fun i j=>.bl (g i j)):=by
 intro pins s σ H x y v u Q I rx ry h;obtain⟨i,j,rfl,rfl,q⟩:=h;obtain⟨t,rfl⟩:=rx;obtain⟨t',rfl⟩:=ry;exact rule i j t t' s _ _ ⟨.bl (g i j),H,I,rfl,q⟩
def QKc(i j:Int):Prop:=0 < j/\j < 1073741824
def Jqc(i j:Int):Prop:=0<=j/\j<=1000000/\i.natAbs < 2 ^ 64
def Y3a(i j:Int):Prop:=(-(2 ^ 64) < i/\i < 2 ^ 64)\/(-(2 ^ 64) < j/\j < 2 ^ 64)
theorem Y3a.ok{i j:Int}(h:Y3a i j):IntMulOk i j:=by
 rcases h with ⟨h1,h2⟩ | ⟨h1,h2⟩
 ·exact .of_left (intBits_le_64 h1 h2)
 ·exact .of_right (intBits_le_64 h1 h2)
theorem Q9b(k:Nat):(0:Int)<=2 ^ k:=by
 rw[two_pow_cast];exact Int.natCast_nonneg _
theorem Zr:OpR X (binaryOp .Add) (rI0 fun i j=>.int (i+j)):=Jpc fun _ _ _ _ _ _ _ q=>add_int q
theorem Yc:OpR X (binaryOp .Sub) (rI0 fun i j=>.int (i - j)):=Jpc fun _ _ _ _ _ _ _ q=>sub_int q
theorem QX:OpR X (binaryOp .FloorDiv) (rI QKc fun i j=>.int (i / j)):=opI fun i j _ _ _ _ _ hc q=>by
 have h1:(0:Int) < j:=hc.1;have h2:j < 1073741824:=hc.2;exact floordiv_int (by omega) (by rw[Int.fdiv_eq_ediv_of_nonneg i (by omega)];exact q) (.inl (PyProof.noPylong_small (by omega)))
theorem QI:OpR X (binaryOp .Mod) (rI (fun _ j=>0 < j) fun i j=>.int (i % j)):=opI fun i j _ _ _ _ _ hc q=>by
 have h1:(0:Int) < j:=hc;exact mod_int' (by omega) (by rw[Int.fmod_eq_emod_of_nonneg i (by omega)];exact q)
theorem ZWa:OpR X (binaryOp .Pow) (rI Jqc fun i j=>.int (i ^ j.toNat)):=opI fun _ _ _ _ _ _ _ hc q=>pow_int_small hc.1 hc.2.1 hc.2.2 q
theorem Jrc:OpR X (binaryOp .LShift) (rI Jqc fun i j=>.int (i * 2 ^ j.toNat)):=opI fun _ _ _ _ _ _ _ hc q=>lshift_int_small hc.1 hc.2.1 hc.2.2 q
theorem Zab:OpR X (binaryOp .RShift) (rI (fun _ j=>0<=j) fun i j=>.int (i / 2 ^ j.toNat)):=opI fun i j _ _ _ _ _ hc q =>
 rshift_int hc (by rw[Int.fdiv_eq_ediv_of_nonneg i (Q9b _)];exact q)
theorem Zbb:OpR X (binaryOp .BitXor) (rI0 fun i j=>.int (Builtin.bitXor i j)):=Jpc fun _ _ _ _ _ _ _ q=>xor_int q
theorem unI{f:Value->Sem Value}{g:Int->Int}
 (rule:∀ (i:Int) (t:Tok) (s:Shared) (Q:YQ_) (E:YQ_),Q (.int (g i) s.toks) { s with toks:=s.toks+1 }->wpAny (model X.prog X.w) X.A (f (.int i t)) Q E s) :
 UnR X f (rU fun i=>.int (g i)):=by
 intro pins s σ H x v Q I rx h;obtain⟨i,rfl,q⟩:=h;obtain⟨t,rfl⟩:=rx;exact rule i t s _ _ ⟨.int (g i),H,I.tok _,⟨_,rfl⟩,q⟩
theorem Jsc:UnR X (unaryOp .USub) (rU fun i=>.int (-i)):=unI fun _ _ _ _ _ q=>neg_int q
end
def X5:V->V->Bool
 | .non,.non=>true | .non,.int _=>true | .int _,.non=>true | .non,.bl _=>true | .bl _,.non=>true | .non,.str _=>true | .str _,.non=>true
 | .int _,.int _=>true | .bl _,.bl _=>true | .str _,.str _=>true | .byt _,.byt _=>true
 | .int _,.str _=>true | .str _,.int _=>true | .bl _,.str _=>true | .str _,.bl _=>true
 | _,_=>false
theorem QLc:X5 .non .non=true:=rfl
theorem QMc{b:Int}:X5 .non (.int b)=true:=rfl
theorem QNc{a:Int}:X5 (.int a) .non=true:=rfl
theorem QOc{b:Bool}:X5 .non (.bl b)=true:=rfl
theorem QPc{a:Bool}:X5 (.bl a) .non=true:=rfl
theorem QQc{b:Str}:X5 .non (.str b)=true:=rfl
theorem QRc{a:Str}:X5 (.str a) .non=true:=rfl
theorem QSc{a:Int}{b:Int}:X5 (.int a) (.int b)=true:=rfl
theorem QTc{a:Bool}{b:Bool}:X5 (.bl a) (.bl b)=true:=rfl
theorem QUc{a:Str}{b:Str}:X5 (.str a) (.str b)=true:=rfl
theorem QVc{a:Int}{b:Str}:X5 (.int a) (.str b)=true:=rfl
theorem QWc{a:Str}{b:Int}:X5 (.str a) (.int b)=true:=rfl
theorem QXc{a:Bool}{b:Str}:X5 (.bl a) (.str b)=true:=rfl
theorem QYc{a:Str}{b:Bool}:X5 (.str a) (.bl b)=true:=rfl
def rEq:R2:=fun x y H Q=>X5 x y=true/\Q (.bl (decide (x=y))) H
def rNe:R2:=fun x y H Q=>X5 x y=true/\Q (.bl (!decide (x=y))) H
theorem Jgb{i j:Int}:decide (V.int i=V.int j)=(i == j):=by
 rw[Bool.eq_iff_iff];simp
theorem Y6b{i j:Bool}:decide (V.bl i=V.bl j)=(i == j):=by
 rw[Bool.eq_iff_iff];simp
theorem Jhb{i j:Str}:decide (V.str i=V.str j)=(i == j):=by
 rw[Bool.eq_iff_iff];simp
theorem Jib{i j:Array UInt8}:decide (V.byt i=V.byt j)=(i.toList == j.toList):=by
 rw[Bool.eq_iff_iff];cases i;cases j;simp
section
variable{X:Cx}{a b c:Expr}{ta tb tc:TE}{pos:Pos}
theorem QO{pins:YP_}{σ:St}{H:Hp}{s:Shared}{Q:VK}{k k':Bool}(I:Inv X pins σ H s)(q:Q (.bl k) H)(e:k=k'):EP X pins σ Q (.bool k') s:=by
 subst e;exact⟨.bl k,H,I,rfl,q⟩
theorem Xj:OpR X (compareOp .Eq) rEq:=by
 intro pins s σ H x y v u Q I rx ry h;obtain⟨hs,q⟩:=h;cases x with
 | non =>
  cases rx;cases y with
  | non=>cases ry;exact PySem.EqNone.eq_none_none (QO I q (by simp))
  | bl j=>cases ry;exact PySem.EqNone.eq_none_bool (QO I q (by simp))
  | int j=>obtain⟨t',rfl⟩:=ry;exact PySem.EqNone.eq_none_int (QO I q (by simp))
  | str j=>obtain⟨t',rfl⟩:=ry;exact PySem.EqNone.eq_none_str (QO I q (by simp))
  | _=>exact absurd (show false=true from hs) Vf
 | bl i =>
  cases rx;cases y with
  | non=>cases ry;exact PySem.EqNone.eq_bool_none (QO I q (by simp))
  | bl j=>cases ry;exact eq_bool (QO I q Y6b)
  | str j=>obtain⟨t',rfl⟩:=ry;exact PySem.EqMixed.eq_bool_str (QO I q (by simp))
  | _=>exact absurd (show false=true from hs) Vf
 | int i =>
  obtain⟨t,rfl⟩:=rx;cases y with
  | non=>cases ry;exact PySem.EqNone.eq_int_none (QO I q (by simp))
  | int j=>obtain⟨t',rfl⟩:=ry;exact eq_int (QO I q Jgb)
  | str j=>obtain⟨t',rfl⟩:=ry;exact PySem.EqMixed.eq_int_str (QO I q (by simp))
  | _=>exact absurd (show false=true from hs) Vf
 | str i =>
  obtain⟨t,rfl⟩:=rx;cases y with
  | non=>cases ry;exact PySem.EqNone.eq_str_none (QO I q (by simp))
  | bl j=>cases ry;exact PySem.EqMixed.eq_str_bool (QO I q (by simp))
  | int j=>obtain⟨t',rfl⟩:=ry;exact PySem.EqMixed.eq_str_int (QO I q (by simp))
  | str j=>obtain⟨t',rfl⟩:=ry;exact eq_str (QO I q Jhb)
  | _=>exact absurd (show false=true from hs) Vf
 | byt i =>
  obtain⟨t,rfl⟩:=rx;cases y with
  | byt j=>obtain⟨t',rfl⟩:=ry;exact W.eq_bytes (QO I q Jib)
  | _=>exact absurd (show false=true from hs) Vf
 | _=>cases y <;> exact absurd (show false=true from hs) Vf
theorem Y7b:OpR X (compareOp .NotEq) rNe:=by
 intro pins s σ H x y v u Q I rx ry h;obtain⟨hs,q⟩:=h;cases x with
 | non =>
  cases rx;cases y with
  | non=>cases ry;exact PySem.EqNone.ne_none_none (QO I q (by simp))
  | bl j=>cases ry;exact PySem.EqNone.ne_none_bool (QO I q (by simp))
  | int j=>obtain⟨t',rfl⟩:=ry;exact PySem.EqNone.ne_none_int (QO I q (by simp))
  | str j=>obtain⟨t',rfl⟩:=ry;exact PySem.EqNone.ne_none_str (QO I q (by simp))
  | _=>exact absurd (show false=true from hs) Vf
 | bl i =>
  cases rx;cases y with
  | non=>cases ry;exact PySem.EqNone.ne_bool_none (QO I q (by simp))
  | bl j=>cases ry;exact ne_bool (QO I q (congrArg not Y6b))
  | str j=>obtain⟨t',rfl⟩:=ry;exact PySem.EqMixed.ne_bool_str (QO I q (by simp))
  | _=>exact absurd (show false=true from hs) Vf
 | int i =>
  obtain⟨t,rfl⟩:=rx;cases y with
  | non=>cases ry;exact PySem.EqNone.ne_int_none (QO I q (by simp))
  | int j=>obtain⟨t',rfl⟩:=ry;exact ne_int (QO I q (congrArg not Jgb))
  | str j=>obtain⟨t',rfl⟩:=ry;exact PySem.EqMixed.ne_int_str (QO I q (by simp))
  | _=>exact absurd (show false=true from hs) Vf
 | str i =>
  obtain⟨t,rfl⟩:=rx;cases y with
  | non=>cases ry;exact PySem.EqNone.ne_str_none (QO I q (by simp))
  | bl j=>cases ry;exact PySem.EqMixed.ne_str_bool (QO I q (by simp))
  | int j=>obtain⟨t',rfl⟩:=ry;exact PySem.EqMixed.ne_str_int (QO I q (by simp))
  | str j=>obtain⟨t',rfl⟩:=ry;exact ne_str (QO I q (congrArg not Jhb))
  | _=>exact absurd (show false=true from hs) Vf
 | byt i =>
  obtain⟨t,rfl⟩:=rx;cases y with
  | byt j=>obtain⟨t',rfl⟩:=ry;exact W.ne_bytes (QO I q (congrArg not Jib))
  | _=>exact absurd (show false=true from hs) Vf
 | _=>cases y <;> exact absurd (show false=true from hs) Vf
theorem ZPc:OpR X (compareOp .Lt) (rI0 fun i j=>.bl (decide (i < j))):=Yoc fun _ _ _ _ _ _ _ q=>lt_int q
theorem Jjb:OpR X (compareOp .Gt) (rI0 fun i j=>.bl (decide (j < i))):=Yoc fun _ _ _ _ _ _ _ q=>gt_int q
theorem Y4a:OpR X (compareOp .Is) (fun x y H Q=>y=.non/\Q (.bl (decide (x=.non))) H):=by
 intro pins s σ H x y v u Q I rx ry h;obtain⟨rfl,q⟩:=h;cases ry;refine is_none_gen (QO I q ?_)
 cases x <;> first
  | (cases rx;rfl)
  | (obtain⟨t,rfl⟩:=rx;rfl)
theorem Qy(b:Expr){op:CmpOp}(h:op≠.In:=by decide)(h2:op≠.NotIn:=by decide):behindInMarks op b=false:=by
 have e1:(op == CmpOp.In)=false:=by cases op <;> first | rfl | exact absurd rfl h
 have e2:(op == CmpOp.NotIn)=false:=by cases op <;> first | rfl | exact absurd rfl h2
 cases b <;> simp[behindInMarks,e1,e2]
theorem Jr{op:CmpOp}{r:R2}(ho:OpR X (compareOp op) r)(ha:PE X a ta)(hb:PE X b tb)(hm:behindInMarks op b=false):PE X (.Compare a [op] [b] pos) (tOp r ta tb):=by
 intro pins s σ H Q I h;exact wpAny_Compare1 (Joc ha hb I h fun v u s2 x y H2 I2 rx ry q=>ho pins s2 σ H2 x y v u Q I2 rx ry q) hm
def ZQc(t:TE):TT:=fun σ H Q=>t σ H fun x H'=>∃ k,x=.bl k/\Q k H'
theorem Qz{op:CmpOp}{r:R2}(ho:OpR X (compareOp op) r)(ha:PE X a ta)(hb:PE X b tb)(hm:behindInMarks op b=false):PT X (.Compare a [op] [b] pos) (ZQc (tOp r ta tb)):=by
 intro pins s σ H Q I h;refine wpAny_isTrue_Compare1 (thn (ha pins s σ H _ I h) fun v s1 ⟨x,H1,I1,r1,q1⟩=>thn (hb pins s1 σ H1 _ I1 q1) fun u s2 ⟨y,H2,I2,r2,q2⟩ =>
  thn (ho pins s2 σ H2 x y v u _ I2 r1 r2 q2) fun c s3 ⟨z,H3,I3,r3,k,e,q3⟩=>?_) hm
 subst e;cases r3;exact wpAny_truthy_bool ⟨H3,I3,q3⟩
def Ypc(K:W.Frag)(x:V)(H:Hp)(k:Bool):Prop :=
 match x with
 | .non=>k=false
 | .bl b=>k=b
 | .int i=>k=(i != 0)
 | .str y=>y.length<=sizeLine/\k=((y.length:Int) != 0)
 | .byt y=>y.size<=sizeLine/\k=((y.size:Int) != 0)
 | .ref p=>(∃ xs,SqL K H p xs/\k=!xs.isEmpty)\/(∃ xs,SqT K H p xs/\k=!xs.isEmpty)\/∃ kvs,H p=some (.dK kvs)/\k=!kvs.isEmpty
 | _=>False
theorem Zcb{κ:Type}{kvs:List (κ×V)}{vs:List (κ×Value)}(r:KV kvs vs):(!vs.isEmpty)=!kvs.isEmpty:=by
 cases r <;> rfl
theorem ZXa{xs:List V}{its:List Value}(r:Qr xs its):(!its.toArray.isEmpty)=!xs.isEmpty:=by
 cases r <;> simp
theorem Q0a:(sizeLine:Nat) < 2 ^ 63:=by rw[sizeLine_eq];decide
theorem Jtc:Y2c X (fun x H Q=>∃ k,Ypc X.K x H k/\Q k H):=by
 intro pins s σ H x v Q I rx h;obtain⟨k,e,q⟩:=h;have hl:=Q0a;have hs:sizeLine=16777216:=sizeLine_eq;cases x with
 | non =>
  cases rx;have e':k=false:=e;subst e';exact truthy_none ⟨H,I,q⟩
 | bl b =>
  cases rx;have e':k=b:=e;subst e';exact wpAny_truthy_bool ⟨H,I,q⟩
 | int i =>
  obtain⟨t,rfl⟩:=rx;have e':k=(i != 0):=e;subst e';exact PySem.P.truthy_int ⟨H,I,q⟩
 | str y =>
  obtain⟨t,rfl⟩:=rx;obtain⟨hy,e'⟩:y.length<=sizeLine/\k=((y.length:Int) != 0):=e;subst e';exact PySem.P.truthy_str (by omega) ⟨H,I.tok _,q⟩
 | byt y =>
  obtain⟨t,rfl⟩:=rx;obtain⟨hy,e'⟩:y.size<=sizeLine/\k=((y.size:Int) != 0):=e;subst e';exact W.truthy_bytes (by omega) ⟨H,I.tok _,q⟩
 | ref p =>
  cases rx;have e':(∃ xs,SqL X.K H p xs/\k=!xs.isEmpty)\/(∃ xs,SqT X.K H p xs/\k=!xs.isEmpty)\/∃ kvs,H p=some (.dK kvs)/\k=!kvs.isEmpty:=e
  rcases e' with ⟨xs,hx,e'⟩ | ⟨xs,hx,e'⟩ | ⟨kvs,hx,e'⟩
  ·subst e'
   obtain⟨its,r,pl,hz⟩:=I.list hx;have hlen:=r.length;exact wpAny_truthy_list pl.isList (by simp only[Vn];omega) ⟨H,I.tok _,by rw[ZXa r];exact q⟩
  ·subst e'
   obtain⟨its,r,pl,hz⟩:=I.tuple hx;have hlen:=r.length;exact truthy_tuple pl (by simp only[Vn];omega) ⟨H,I.tok _,by rw[ZXa r];exact q⟩
  ·subst e'
   obtain⟨hz,hS,vs,r,m⟩:kvs.length<=sizeLine/\(p == sysModules)=false/\∃ vs,KV kvs vs/\s.heap.DictOf (QL X.prog X.w) p vs:=I.hok p _ hx;have hlen:kvs.length=vs.length:=Paired.length r;exact wpAny_truthy_dict hS m (by omega) ⟨H,I.tok _,by rw[Zcb r];exact q⟩
 | _=>exact(show False from e).elim
theorem XXa(ha:PE X a ta)(he:∀ whole,isTrue a X.env whole=(do let v <- whole;standAt a.pos;holding [v] (truthy v))) :
 PT X a (fun σ H Q=>ta σ H fun x H'=>∃ k,Ypc X.K x H' k/\Q k H'):=by
 intro pins s σ H Q I h;exact isTrue_plain (thn (ha pins s σ H _ I h) fun v s1 ⟨x,H1,I1,r1,q1⟩=>Jtc pins s1 σ H1 x v Q I1 r1 q1) (he _)
theorem YI:OpR X (binaryOp .Add) (fun x y H Q=>∃ i j,x=.str i/\y=.str j/\i.length+j.length<=sizeLine/\Q (.str (i++j)) H):=by
 intro pins s σ H x y v u Q I rx ry h;obtain⟨i,j,rfl,rfl,hz,q⟩:=h;obtain⟨t,rfl⟩:=rx;obtain⟨t',rfl⟩:=ry;exact add_str (fun t' tk=>⟨.str (i++j),H,I.tok _,⟨_,rfl⟩,q⟩) hz
theorem Qya{x:V}{us:List Value}(r:Qr [x] us):∃ u,us=[u]/\Qq x u:=by
 cases r with
 | cons r1 r2=>cases r2;exact⟨_,rfl,r1⟩
theorem ZRc{x y:V}{us:List Value}(r:Qr [x,y] us):∃ u w',us=[u,w']/\Qq x u/\Qq y w':=by
 cases r with
 | cons r1 r2 =>
  cases r2 with
  | cons r3 r4=>cases r4;exact⟨_,_,rfl,r1,r3⟩
theorem Y5a:JY X (.type "str") (fun xs H Q=>∃ i,xs=[.int i]/\i.natAbs.log2 < 1920/\Q (.str (toString i)) H):=by
 intro pins s σ H xs us Q I r h;obtain⟨i,rfl,hz,q⟩:=h;obtain⟨u,rfl,t,rfl⟩:=Qya r;exact PySem.P.str_of_int hz ⟨.str _,H,I.tok _,⟨_,rfl⟩,q⟩
theorem XYa:JY X (.builtin "ord") (fun xs H Q=>∃ x,xs=[.str x]/\x.length=1/\Q (.int (x.cps.getD 0 0:Nat)) H):=by
 intro pins s σ H xs us Q I r h;obtain⟨x,rfl,hz,q⟩:=h;obtain⟨u,rfl,t,rfl⟩:=Qya r;exact ord_of_one hz ⟨.int _,H,I.tok _,⟨_,rfl⟩,q⟩
end
structure Zdb(h:Heap)(x dx C:Addr)(mA:Str->Option Value):Prop where
 obj:h.get? x=some (W.instObj C dx)
 ns:h.Ns1 dx mA
 ne:dx≠x
theorem Yua{h:Heap}{dx:Addr}{mA:Str->Option Value}(n:h.Ns1 dx mA):∃ od,h.get? dx=some od/\∀ name,W.lookIn name od=some (mA name):=by
 obtain⟨o,es,ep,ho,hd,hk,_,hm⟩:=n;refine⟨o,ho,fun name=>?_⟩
 have e:=hm name;unfold nsFind findBy at e;rw[<- Array.find?_toList]at e
 unfold W.lookIn;rw[hd];dsimp only
 split
 ·rename_i y q
  rw[q]at e;exact congrArg some e
 ·rename_i q
  rw[q]at e;have a:es.toList.any (·.refKey)=false:=by
   rw[any_eq_false];intro y hy;obtain⟨z,t,hkey⟩:=hk y (Array.mem_toList_iff.mp hy);simp[DictEntry.refKey,hkey]
  have a':¬ es.toList.any (·.refKey)=true:=by rw[a];exact Vf
  rw[if_neg a'];exact congrArg some e
theorem Zdb.look{h:Heap}{x dx C:Addr}{mA:Str->Option Value}(I:Zdb h x dx C mA):∃ od,W.InstAt h x (W.instObj C dx) C (some od)/\∀ name,W.lookIn name od=some (mA name) :=
 let ⟨od,ho,hl⟩:=Yua I.ns
 ⟨od,⟨I.obj,rfl,rfl,ho⟩,hl⟩
section
variable{prog:Program}{w:World}{A:Around}{E:YQ_}{s:Shared}{K:W.Frag}{x dx C f:Addr}{mA:Str->Option Value}{name:Str}{v:Value}
theorem QZc{expr:Bool}{Q:YQ_}(X:K.In s.heap)(I:Zdb s.heap x dx C mA)(hg:W.plainGet K C name=true)(hh:W.hasDictIn K C=true)
 (ha:W.findIn K (.ref C) name=some none) (hv:mA name=some v) (hv':W.handedIn v=true) (h:Q v { s with toks:=s.toks+1 }) :
 wpAny (model prog w) A (getAttr (.ref x) name expr) Q E s:=by
 obtain⟨od,J,hl⟩:=I.look;exact W.get_value X J (W.plainGet_of hg).1 (W.findObj_own hh ha rfl (by rw[hl,hv])) hv' h
theorem Y8b{pl:Sem Bool}{Q:Value×List Value->Shared->Prop}(X:K.In s.heap)(I:Zdb s.heap x dx C mA)(hg:W.plainGet K C name=true)
 (hf:W.findIn K (.ref C) name=some (some (.ref f))) (ht:W.isFn K (.ref f)=true) (hv:mA name=none) (h:Q (.ref f,[.ref x]) s) :
 wpAny (model prog w) A (getMethod (.ref x) name pl) Q E s:=by
 obtain⟨od,J,hl⟩:=I.look;exact W.method_fn X J (W.plainGet_of hg).1 (W.plainGet_of hg).2 hf (beq_iff_eq.mp ht) (by show(W.lookIn name od).map (·.isSome)=some false;rw[hl,hv];rfl) h
theorem Q0c{ns:List Str}{Q:Unit->Shared->Prop}(X:K.In s.heap)(I:Zdb s.heap x dx C mA)
 (hs:W.findIn K (.ref C) "__setattr__"=some (some (.builtin "object.__setattr__"))) (hp:W.plainOver K C=true) (ht:W.takerIn K C name=some none) (hh:W.hasDictIn K C=true)
 (hw:PySem.Within mA ns) (hsz:ns.length<=sizeLine)
 (h:∀ h',Zdb h' x dx C (fun y=>if y=name then some v else mA y)->Heap.SameBut dx s.heap h'->Q () { s with heap:=h',toks:=s.toks+2 }) :
 wpAny (model prog w) A (setAttr (.ref x) name v) Q E s:=by
 obtain⟨od,J,hl⟩:=I.look;refine W.set_plain X J hs (W.osa_open (s:={ s with toks:=s.toks+1 }) (r:=none) X J hp ht fun b=>?_)
 obtain⟨cd,hc,hd'⟩:=W.any_some hh;have hx:s.heap.get? x=some ⟨.ref C,some dx,.plain,#[]⟩:=I.obj;refine Va (Vg (Va (Va (wpAny_loadPart hx (Va (W.Looks.here (s:={ s with toks:=s.toks+1 }) (W.looks_clsIn X hc) ?_))))))
 rw[hd'];refine Vg (a:=some dx) (Va (Vg (Va ?_)))
 refine wpAny_nsSet1 (s:={ s with toks:=s.toks+1 }) I.ns fun h' hn2 hs2=>?_
 obtain⟨oD,esD,epD,hoD,hdD,hcD⟩:=hn2.count (PySem.Within.cons name v hw);refine Va (wpAny_lookBehind hoD (by rw[hdD];exact pastItsLine_dict (Vj hcD (by rw[length_cons];omega))) ?_)
 exact Vg (h _ ⟨(hs2.2 _ (Ne.symm I.ne)).trans I.obj,hn2,I.ne⟩ hs2)
theorem Y9b{R:Result->Shared->Prop}{vs:List Value}{kw:List (Str×Value)}(X:K.In s.heap)(hm:W.makesIn K C=true)
 (hi:W.findIn K (.ref C) "__init__"=some (some (.ref f))) (hf:W.typeIn K (.ref f)=some (.type "function"))
 (h:codeAny (model prog w) (A.under (.builtin "type.__call__" ⟨.ref C::vs,kw⟩)) (.call (.ref f) ⟨.ref (s.heap.objs.size+1)::vs,kw⟩) (W.InitBack (s.heap.objs.size+1) R)
  { s with heap:=(s.heap.push W.emptyDict).push (W.instObj C s.heap.objs.size) }) :
 codeAny (model prog w) A (.call (.ref C) ⟨vs,kw⟩) R s:=by
 obtain⟨hh,g,d,t,os⟩:=s;exact W.make_core (W.makes_of X hm) (W.looks_findIn X hi) (fun self=>W.bind_fn X self hf) (.inl rfl) h
end
def ZE(f:Str)(v:V):List (Str×V)->List (Str×V)
 | []=>[(f,v)]
 | (g,x)::r=>if g=f then (g,v)::r else (g,x)::ZE f v r
theorem Zya(f g:Str)(v:V):∀ fs:List (Str×V),(ZE f v fs).lookup g=if g=f then some v else fs.lookup g
 | []=>by
  show List.lookup g [(f,v)]=_
  by_cases h:g=f
  ·have hb:(g == f)=true:=beq_iff_eq.mpr h
   simp only[List.lookup,hb,if_pos h]
  ·have hb:(g == f)=false:=beq_eq_false_iff_ne.mpr h
   simp only[List.lookup,hb,if_neg h]
 | (k,x)::r=>by
  have ih:=Zya f g v r;rw[show ZE f v ((k,x)::r)=(if k=f then (k,v)::r else (k,x)::ZE f v r) from rfl]
  by_cases hk:k=f
  ·rw[if_pos hk]
   by_cases h:g=k
   ·have hb:(g == k)=true:=beq_iff_eq.mpr h
    simp only[List.lookup,hb,if_pos (h.trans hk)]
   ·have hb:(g == k)=false:=beq_eq_false_iff_ne.mpr h
    simp only[List.lookup,hb,if_neg (fun e:g=f=>h (e.trans hk.symm))]
  ·rw[if_neg hk]
   by_cases h:g=k
   ·have hb:(g == k)=true:=beq_iff_eq.mpr h
    simp only[List.lookup,hb,if_neg (fun e:g=f=>hk (h.symm.trans e))]
   ·have hb:(g == k)=false:=beq_eq_false_iff_ne.mpr h
    simp only[List.lookup,hb];exact ih
theorem Q1a(f:Str)(v:V):∀ fs:List (Str×V),f∈(ZE f v fs).map (·.1)/\∀ g,g∈fs.map (·.1)->g∈(ZE f v fs).map (·.1)
 | []=>⟨by simp[ZE],fun g h=>by simp at h⟩
 | (k,x)::r=>by
  obtain⟨i1,i2⟩:=Q1a f v r;rw[show ZE f v ((k,x)::r)=(if k=f then (k,v)::r else (k,x)::ZE f v r) from rfl]
  by_cases hk:k=f
  ·rw[if_pos hk]
   subst hk;exact⟨by simp,fun g h=>by simpa using h⟩
  ·rw[if_neg hk]
   refine⟨?_,fun g h=>?_⟩
   ·rw[map_cons]
    exact Vo _ i1
   ·rw[map_cons]at h ⊢
    rcases mem_cons.mp h with e | e
    ·exact mem_cons.mpr (.inl e)
    ·exact Vo _ (i2 g e)
theorem Zza(f:Str)(v:V):∀ fs:List (Str×V),(ZE f v fs).length<=fs.length+1
 | []=>by simp[ZE]
 | (k,x)::r=>by
  have ih:=Zza f v r;rw[show ZE f v ((k,x)::r)=(if k=f then (k,v)::r else (k,x)::ZE f v r) from rfl]
  by_cases hk:k=f
  ·rw[if_pos hk,length_cons,length_cons];omega
  ·rw[if_neg hk,length_cons,length_cons];omega
theorem JS.some_of{v:V}{o:Option Value}(r:JS (some v) o):∃ u,o=some u/\Qq v u:=by
 cases o with
 | none=>exact(show False from r).elim
 | some u=>exact⟨u,rfl,r⟩
theorem JS.none_of{o:Option Value}(r:JS none o):o=none:=by
 cases o with
 | none=>rfl
 | some u=>exact(show False from r).elim
theorem Yva{v:V}{u:Value}(r:Qq v u):W.handedIn u=true:=by
 cases v with
 | non=>cases (show u=Value.none from r);rfl
 | bl b=>cases (show u=Value.bool b from r);rfl
 | int i=>obtain⟨t,e⟩:=(show ∃ t,u=Value.int i t from r);cases e;rfl
 | str x=>obtain⟨t,e⟩:=(show ∃ t,u=Value.str x t from r);cases e;rfl
 | byt b=>obtain⟨t,e⟩:=(show ∃ t,u=Value.bytes b t from r);cases e;rfl
 | flt b=>obtain⟨t,e⟩:=(show ∃ t,u=Value.float b t from r);cases e;rfl
 | ref a=>cases (show u=Value.ref a from r);rfl
 | ty n=>cases (show u=Value.type n from r);rfl
section
variable{P:Program}{w:World}{H H':Hp}{h h':Heap}{a C dx:Addr}{fs fs':List (Str×V)}
theorem ZLa(hok:HOk P w H h)(e:H a=some (.ins C dx fs)):∃ mA,Zdb h a dx C mA/\(∀ f,JS (fs.lookup f) (mA f))/\PySem.Within mA (fs.map (·.1))/\fs.length<=1000/\H dx=some (.own a):=by
 obtain⟨d,z,ne,ob,mA,n,r,q⟩:=(show QA P w H h a (.ins C dx fs) from hok a _ e)
 exact⟨mA,⟨ob,n,ne⟩,r,q,z,d⟩
end
structure Cls(K:W.Frag)(C:Addr):Prop where
 pg:W.plainGet K C Str.empty=true
 hd:W.hasDictIn K C=true
 po:W.plainOver K C=true
 sa:W.findIn K (.ref C) "__setattr__"=some (some (.builtin "object.__setattr__"))
theorem Cls.get{K:W.Frag}{C:Addr}(c:Cls K C)(f:Str):W.plainGet K C f=true:=c.pg
def ZP(K:W.Frag)(C:Addr)(f:Str):Prop:=W.findIn K (.ref C) f=some none
theorem ZP.taker{K:W.Frag}{C:Addr}{f:Str}(n:ZP K C f):W.takerIn K C f=some none:=by
 unfold W.takerIn;rw[show W.findIn K (.ref C) f=some none from n]
 rfl
structure Yqc(K:W.Frag)(C:Addr)(m:Str)(f:Addr):Prop where
 at_:W.findIn K (.ref C) m=some (some (.ref f))
 fn:W.isFn K (.ref f)=true
 kp:W.keepIn K (.ref f)=true
section
variable{X:Cx}{pins:YP_}{σ:St}{H:Hp}{s:Shared}{a C dx:Addr}{fs:List (Str×V)}{f:Str}{v:V}{A:Around}{E:YQ_}
theorem Zeb{b:Bool}{Q:YQ_}(I:Inv X pins σ H s)(e:H a=some (.ins C dx fs))(c:Cls X.K C)(n:ZP X.K C f)(l:fs.lookup f=some v)
 (h:∀ u s',Inv X pins σ H s'->Qq v u->Q u s'):wpAny (model X.prog X.w) A (getAttr (.ref a) f b) Q E s:=by
 obtain⟨mA,O,r,_,_,_⟩:=ZLa I.hok e;obtain⟨u,hu,ru⟩:=JS.some_of (v:=v) (o:=mA f) (by rw[<- l];exact r f)
 exact QZc I.kIn O (c.get f) c.hd n hu (Yva ru) (h u _ (I.tok _) ru)
theorem YJ{m:Str}{g:Addr}{pl:Sem Bool}{Q:Value×List Value->Shared->Prop}(I:Inv X pins σ H s)(e:H a=some (.ins C dx fs))(c:Cls X.K C)(k:Yqc X.K C m g)(l:fs.lookup m=none)
 (h:Q (.ref g,[.ref a]) s):wpAny (model X.prog X.w) A (getMethod (.ref a) m pl) Q E s:=by
 obtain⟨mA,O,r,_,_,_⟩:=ZLa I.hok e;have hn:mA m=none:=JS.none_of (by rw[<- l];exact r m)
 exact Y8b I.kIn O (c.get m) k.at_ k.fn hn h
theorem Zfb{y:V}{u:Value}{Q:Unit->Shared->Prop}(I:Inv X pins σ H s)(e:H a=some (.ins C dx fs))(c:Cls X.K C)(n:ZP X.K C f)(hl:fs.length < 1000)(ry:Qq y u)
 (h:∀ s',Inv X pins σ (upd H a (.ins C dx (ZE f y fs))) s'->Q () s'):wpAny (model X.prog X.w) A (setAttr (.ref a) f u) Q E s:=by
 obtain⟨mA,O,r,wi,_,ho⟩:=ZLa I.hok e;have hz:(fs.map (·.1)).length<=sizeLine:=by rw[Vr,sizeLine_eq];omega
 refine Q0c I.kIn O c.sa c.po n.taker c.hd wi hz fun h' O' sb=>h _ ?_
 have hd:∃ o,h'.get? dx=some o:=let ⟨o,_,_,e',_⟩:=O'.ns;⟨o,e'⟩
 refine I.write (x:=a) (e:=dx) (by rw[e];exact True.intro) (.inr ho) (fun b q hb z=>(sb.2 b hb).trans z) hd ?_
 refine⟨by rw[Qe O.ne];exact ho,?_,O.ne,O'.obj,_,O'.ns,fun g=>?_,fun g hg=>?_⟩
 ·have:=Zza f y fs;omega
 ·show JS ((ZE f y fs).lookup g) (if g=f then some u else mA g)
  rw[Zya]
  by_cases q:g=f
  ·rw[if_pos q,if_pos q];exact ry
  ·rw[if_neg q,if_neg q];exact r g
 ·by_cases q:g=f
  ·rw[q];exact(Q1a f y fs).1
  ·refine(Q1a f y fs).2 g (wi g fun z=>hg ?_)
   show(if g=f then some u else mA g)=none
   rw[if_neg q];exact z
theorem Inv.made(I:Inv X pins σ H s):Inv X pins σ (upd (upd H s.heap.objs.size (.own (s.heap.objs.size+1))) (s.heap.objs.size+1) (.ins C s.heap.objs.size []))
 { s with heap:=(s.heap.push W.emptyDict).push (W.instObj C s.heap.objs.size) }:=by
 have e1:(s.heap.push W.emptyDict).get? s.heap.objs.size=some W.emptyDict:=Vi s.heap rfl
 have e2:((s.heap.push W.emptyDict).push (W.instObj C s.heap.objs.size)).get? (s.heap.objs.size+1)=some (W.instObj C s.heap.objs.size):=by
  have:=Vi (s.heap.push W.emptyDict) (o:=W.instObj C s.heap.objs.size) rfl
  rwa [Heap.size_push]at this
 have e3:(s.heap.push W.emptyDict).Ns s.heap.objs.size (fun _=>none):=⟨W.emptyDict,#[],_,e1,rfl,(fun e he=>absurd he (by simp)),fun _=>rfl⟩
 have I1:=I.laid (a:=s.heap.objs.size) (o:=.own (s.heap.objs.size+1)) (h':=s.heap.push W.emptyDict) (t':=s.toks) (fun b u q=>Vd _ q) (Ve _) ⟨_,e1⟩
 refine I1.laid (a:=s.heap.objs.size+1) (o:=.ins C s.heap.objs.size []) (t':=s.toks) (fun b u q=>Vd _ q) (Nat.le_of_eq (Heap.size_push _ _)) ?_
 have ne:s.heap.objs.size≠s.heap.objs.size+1:=Nat.ne_of_lt (Nat.lt_succ_self _);refine⟨by rw[Qe ne,Qa],Vk _,ne,e2,fun _=>none,(Heap.Ns1.of_empty e3).at fun o q=>Vd _ q,fun _=>True.intro,fun y hy=>absurd rfl hy⟩
theorem Jkb{prog:Program}{w:World}{env:Env}{e:Expr}{f:Str}{pos:Pos}{s:Shared}{Q:YQ_}(hb:attributeBase e f env (eval e env)=eval e env)
 (h:wpAny (model prog w) A (eval e env) (fun o s₁=>wpAny (model prog w) A (getAttr o f true) Q E s₁) E s):wpAny (model prog w) A (eval (.Attribute e f pos) env) Q E s :=
 Attribute_any_ h (by rw[arm_eval_Attribute,hb])
end
def Xab(K:W.Frag)(ta:TE)(f:Str):TE:=fun σ H Q=>ta σ H fun x H1=>∃ a C dx fs v,x=.ref a/\H1 a=some (.ins C dx fs)/\Cls K C/\ZP K C f/\fs.lookup f=some v/\Q v H1
def Yrc(K:W.Frag)(ta tv:TE)(f:Str):TS:=fun D σ H=>tv σ H fun y H1=>ta σ H1 fun x H2=>∃ a C dx fs,x=.ref a/\H2 a=some (.ins C dx fs)/\Cls K C/\ZP K C f/\fs.length < 1000 /\
 D.nx σ (upd H2 a (.ins C dx (ZE f y fs)))
section
variable{X:Cx}{o e value:Expr}{f:Str}{pos pos' tpos:Pos}{ta tv:TE}
theorem Zt(he:PE X e ta)(hb:attributeBase e f X.env (eval e X.env)=eval e X.env):PE X (.Attribute e f pos) (Xab X.K ta f):=by
 intro pins s σ H Q I h;refine Jkb hb (thn (he pins s σ H _ I h) fun u s1 hZ=>?_)
 obtain⟨x,H1,I1,rx,a,C,dx,fs,v,ex,ea,c,n,l,q⟩:=hZ;subst ex;obtain rfl:u=Value.ref a:=rx;exact Zeb I1 ea c n l fun u' s2 I2 ru=>⟨v,H1,I2,ru,q⟩
theorem Xr(ha:PE X o ta)(hv:PE X value tv)(hs:swapsWith value (some (.Attribute o f pos')) pos.line X.env=pure false):PS X (.Assign [.Attribute o f pos'] value pos) (Yrc X.K ta tv f):=by
 intro pins s σ H D I h;refine plainObj_wpAny_Assign_Attribute (thn (hv pins s σ H _ I h) fun u s1 ⟨y,H1,I1,ry,q⟩=>thn (ha pins s1 σ H1 _ I1 q) fun ov s2 hZ=>?_) hs
 obtain⟨x,H2,I2,rx,a,C,dx,fs,ex,ea,c,n,l,q2⟩:=hZ;subst ex;obtain rfl:ov=Value.ref a:=rx;exact Zfb I2 ea c n l ry fun s3 I3=>⟨σ,_,I3,q2⟩
end
section
variable{X:Cx}{pins:YP_}{σ:St}{H:Hp}{s:Shared}{A:Around}{E:YQ_}{Q:YQ_}{c:Value}{b:Bool}
inductive Qza(K:W.Frag)(H:Hp):V->Value->Prop where
 | non:Qza K H .non (.type "NoneType")
 | bl (x:Bool):Qza K H (.bl x) (.type "bool")
 | int (i:Int):Qza K H (.int i) (.type "int")
 | str (x:Str):Qza K H (.str x) (.type "str")
 | flt (x:UInt64):Qza K H (.flt x) (.type "float")
 | lst {a:Addr} {xs:List V} (e:H a=some (.lst xs)):Qza K H (.ref a) (.type "list")
 | frz {a:Addr} {o:Obj} {xs:List V} (e:H a=some (.frz o (.lst xs))):Qza K H (.ref a) (.type "list")
 | tup {a:Addr} {xs:List V} (e:H a=some (.tup xs)):Qza K H (.ref a) (.type "tuple")
 | dK {a:Addr} {kvs:List (Key×V)} (e:H a=some (.dK kvs)):Qza K H (.ref a) (.type "dict")
 | dT {a:Addr} {kvs:List (List Key×V)} (e:H a=some (.dT kvs)):Qza K H (.ref a) (.type "dict")
 | ins {a C dx:Addr} {fs:List (Str×V)} (e:H a=some (.ins C dx fs)) (cl:Cls K C) (ha:W.findIn K (.ref C) "__class__"=some (some (.builtin "object.__class__")))
  (hn:W.specialIn K (.builtin "object.__class__") "__get__"=some (some (.builtin "getset_descriptor.__get__"))) (htk:W.takesIn K (.builtin "object.__class__")=some true)
  (hm:W.mroIn K C (.type "object")=some true):Qza K H (.ref a) (.ref C)
theorem J7b{x:V}{u t:Value}(I:Inv X pins σ H s)(rx:Qq x u)(ty:Qza X.K H x t)(e:W.kitOne X.K t c=some b)(h:∀ tk,Q (.bool b) { s with toks:=tk }) :
 wpAny (model X.prog X.w) A (call (.builtin "isinstance") [u,c]) Q E s:=by
 cases ty with
 | non=>cases (show u=Value.none from rx);exact W.kia_one W.kitx_none I.kIn True.intro e (fun z=>nomatch z) h
 | bl y=>cases (show u=Value.bool y from rx);exact W.kia_one W.kitx_bool I.kIn True.intro e (fun z=>nomatch z) h
 | int i=>obtain⟨t,q⟩:=(show ∃ t,u=Value.int i t from rx);cases q;exact W.kia_one W.kitx_int I.kIn True.intro e (fun z=>nomatch z) h
 | str y=>obtain⟨t,q⟩:=(show ∃ t,u=Value.str y t from rx);cases q;exact W.kia_one W.kitx_str I.kIn True.intro e (fun z=>nomatch z) h
 | flt y=>obtain⟨t,q⟩:=(show ∃ t,u=Value.float y t from rx);cases q;exact W.kia_one W.kitx_float I.kIn True.intro e (fun z=>nomatch z) h
 | @lst a xs ea =>
  cases (show u=Value.ref a from rx)
  obtain⟨_,_,n,_,h1⟩:=(show QA X.prog X.w H s.heap a (.lst xs) from I.hok a _ ea)
  exact W.kia_one W.kitx_list I.kIn ⟨_,h1,rfl⟩ e (fun z=>nomatch z) h
 | @frz a ob xs ea =>
  cases (show u=Value.ref a from rx)
  obtain⟨_,_,_,n,_,h1⟩:=(show QA X.prog X.w H s.heap a (.frz ob (.lst xs)) from I.hok a _ ea)
  exact W.kia_one W.kitx_list I.kIn ⟨_,h1,rfl⟩ e (fun z=>nomatch z) h
 | @tup a xs ea =>
  cases (show u=Value.ref a from rx)
  obtain⟨_,_,_,p⟩:=(show QA X.prog X.w H s.heap a (.tup xs) from I.hok a _ ea)
  obtain⟨o,h1,h2,_⟩:=p;exact W.kia_one W.kitx_tuple I.kIn ⟨o,h1,h2⟩ e (fun z=>nomatch z) h
 | @dK a kvs ea =>
  cases (show u=Value.ref a from rx)
  obtain⟨_,_,vs,_,p⟩:=(show QA X.prog X.w H s.heap a (.dK kvs) from I.hok a _ ea)
  obtain⟨o,es,ep,h1,h2,_⟩:=p;exact W.kia_one W.kitx_dict I.kIn ⟨o,h1,h2.1⟩ e (fun z=>nomatch z) h
 | @dT a kvs ea =>
  cases (show u=Value.ref a from rx)
  obtain⟨_,_,xs,_,o,es,ep,h1,h2,_⟩:=(show QA X.prog X.w H s.heap a (.dT kvs) from I.hok a _ ea)
  exact W.kia_one W.kitx_dict I.kIn ⟨o,h1,h2.1⟩ e (fun z=>nomatch z) h
 | @ins a C dx fs ea cl ha hn htk hm =>
  cases (show u=Value.ref a from rx)
  obtain⟨mA,O,_⟩:=ZLa I.hok ea;obtain⟨od,J,_⟩:=O.look;exact W.kia_one (W.kitx_own (cl.get _) cl.hd ha hn htk hm) I.kIn J e (fun z=>nomatch z) h
end
structure Zd(k:Nat)(A:Around):Prop where
 hd:A.handled=none
 dp:A.depth+3 * k+5 < recursionLimit
 un:A.units+16 * k+200 < cLine
theorem Zd.mono{j k:Nat}{A:Around}(r:Zd k A)(h:j<=k):Zd j A:=⟨r.hd,by have:=r.dp;omega,by have:=r.un;omega⟩
theorem Zd.deeper{k:Nat}{A:Around}(r:Zd (k+1) A)(env:Env):Zd k (A.deeper env) :=
 ⟨r.hd,by have:=r.dp;show A.depth+1+3 * k+5 < _;omega,by have:=r.un;show A.units+3+16 * k+200 < _;omega⟩
theorem Zgb{A:Around}{C:Addr}{us:List Value}{kw:List (Str×Value)}:(A.under (.builtin "type.__call__" ⟨.ref C::us,kw⟩)).depth=A.depth+1:=by
 first | rfl | simp[Around.under,Code.weight,Code.isCreation,Code.isGuard,Code.isCaller,Code.frames,Code.isFrame,guardIds]
theorem Zhb{A:Around}{C:Addr}{us:List Value}{kw:List (Str×Value)}:(A.under (.builtin "type.__call__" ⟨.ref C::us,kw⟩)).units=A.units+1:=by
 first | rfl | simp[Around.under,Code.cUnits,Code.frames,Code.isFrame]
theorem Zd.make{k:Nat}{A:Around}(r:Zd (k+1) A)(C:Addr)(us:List Value)(kw:List (Str×Value)):Zd k (A.under (.builtin "type.__call__" ⟨.ref C::us,kw⟩)) :=
 ⟨r.hd,by have:=r.dp;rw[Zgb];omega,by have:=r.un;rw[Zhb];omega⟩
theorem Zd.depth{k:Nat}{A:Around}(r:Zd k A):A.depth < recursionLimit:=by have:=r.dp;omega
theorem Zd.units{k:Nat}{A:Around}(r:Zd k A):A.units+64 < cLine:=by have:=r.un;omega
theorem Zd.units0{k:Nat}{A:Around}(r:Zd k A):A.units < cLine:=by have:=r.un;omega
def XZa:TA:=fun _ H Q=>Q [] H
def Jlb(ta:TE)(tr:TA):TA:=fun σ H Q=>ta σ H fun x H1=>tr σ H1 fun xs H2=>Q (x::xs) H2
section
variable{X:Cx}{e:Expr}{es:List Expr}{te:TE}{t:TA}{pos:Pos}
theorem Qd:PA X [] XZa:=fun _ _ _ _ H Q I h=>Calls.spliced_nil ⟨[],H,I,.nil,h⟩
theorem Q1c(ha:PE X e te)(hr:PA X es t)(hs:starEach (e::es) X.env=(false,eval e X.env)::starEach es X.env:=by rfl):PA X (e::es) (Jlb te t):=by
 intro pos pins s σ H Q I h;rw[hs];show wpAny _ _ (spliced ((false,eval e X.env)::backTo pos (starEach es X.env))) _ _ s;refine Calls.spliced_cons (thn (ha pins s σ H _ I h) fun u s1 hZ=>?_)
 obtain⟨x,H1,I1,r1,q1⟩:=hZ;exact thn (hr pos pins s1 σ H1 _ I1 q1) fun us s2 ⟨xs,H2,I2,r2,q2⟩=>⟨x::xs,H2,I2,.cons r1 r2,q2⟩
def Ysc(t:TA):TE:=fun σ H Q=>t σ H fun xs H1=>xs.length<=sizeLine/\∀ p,H1 p=none->Q (.ref p) (upd H1 p (.tup xs))
def Ytc(t:TA):TE:=fun σ H Q=>t σ H fun xs H1=>xs.length<=sizeLine/\∀ p,H1 p=none->Q (.ref p) (upd H1 p (.lst xs))
theorem Zu{x1}(h:PA X es t):PE X (.Tuple es x1 pos) (Ysc t):=by
 intro pins s σ H Q I hq;refine wpAny_Tuple_spliced (thn (h pos pins s σ H _ I hq) fun us s1 ⟨xs,H1,I1,r,z,q⟩=>⟨by rw[<- r.length];exact z,?_⟩)
 have hf:H1 s1.heap.objs.size=none:=I1.hok.fresh (Ve _);refine⟨.ref s1.heap.objs.size,upd H1 s1.heap.objs.size (.tup xs),I1.laid (t':=s1.toks) (fun b u e=>Vd _ e) (Ve _) ?_,rfl,q _ hf⟩
 exact⟨⟨z,_,Vi _ rfl,rfl⟩,us,r,⟨_,Vi _ rfl,rfl,_,rfl⟩⟩
theorem Zv(h:PA X es t):PE X (.List es pos) (Ytc t):=by
 intro pins s σ H Q I hq;refine wpAny_List_spliced (thn (h pos pins s σ H _ I hq) fun us s1 ⟨xs,H1,I1,r,z,q⟩=>⟨by rw[<- r.length];exact z,?_⟩)
 have hf:H1 s1.heap.objs.size=none:=I1.hok.fresh (Ve _);refine⟨.ref s1.heap.objs.size,upd H1 s1.heap.objs.size (.lst xs),I1.laid (t':=s1.toks) (fun b u e=>Vd _ e) (Ve _) ?_,rfl,q _ hf⟩
 exact⟨z,us,0,r,Vi _ rfl⟩
end
abbrev Sp:=List V->Hp->VK->XK->Prop
abbrev CXT:=List Env->Hp->Shared->XK->YQ_
structure Zib(P:Program)(w:World)(K:W.Frag)(mg:Str->Option Value)(base:Heap)(A:Around)(outer:List Env)(s:Shared)(H:Hp):Prop where
 frames:A.frames=some outer
 mod:Mod K mg base
 bs:∀ b o,base.get? b=some o->s.heap.get? b=some o/\H b=none
 bsz:base.objs.size<=s.heap.objs.size
 funs:s.heap.FunFrames base outer
 frf:∀ b∈frs outer,H b=none
 hok:HOk P w H s.heap
 bare:AllBare s.gens
def CE(outer:List Env)(P:Program)(w:World)(H:Hp)(s:Shared)(Q:VK)(u:Value)(s':Shared):Prop :=
 ∃ v H',s'.os=s.os/\AllBare s'.gens/\Un (frs outer) [] H H' s.heap s'.heap/\HOk P w H' s'.heap/\Qq v u/\Q v H'
def CR(CX:CXT)(outer:List Env)(P:Program)(w:World)(H:Hp)(s:Shared)(Q:VK)(E:XK)(r:Result)(s':Shared):Prop :=
 match r with
 | .ok (.ret u)=>CE outer P w H s Q u s'
 | .ok _=>False
 | .error e=>CX outer H s E e s'
structure QF(P:Program)(w:World)(K:W.Frag)(mg:Str->Option Value)(base:Heap)(CX:CXT)(k:Nat)(f:Addr)(fd:FuncData)(ps:List Str)(sp:Sp):Prop where
 len:∀ vs H Q E,sp vs H Q E->vs.length=ps.length
 run:∀ (A:Around) (outer:List Env) (s:Shared) (H:Hp) (args:Args) (us:List Value) (vs:List V) (Q:VK) (E:XK),Zd k A->Zib P w K mg base A outer s H->BindsTo s fd args (ps.zip us)->Qr vs us->sp vs H Q E ->
  codeAny (model P w) A (.call (.ref f) args) (CR CX outer P w H s Q E) s
theorem QF.mono{P:Program}{w:World}{K:W.Frag}{mg:Str->Option Value}{base:Heap}{CX:CXT}{j k:Nat}{f:Addr}{fd:FuncData}{ps:List Str}{sp:Sp}(F:QF P w K mg base CX j f fd ps sp)(h:j<=k) :
 QF P w K mg base CX k f fd ps sp:=⟨F.len,fun A outer s H args us vs Q E hr=>F.run A outer s H args us vs Q E (hr.mono h)⟩
theorem Zib.make{P:Program}{w:World}{K:W.Frag}{mg:Str->Option Value}{base:Heap}{A:Around}{outer:List Env}{s:Shared}{H:Hp}(e:Zib P w K mg base A outer s H)(C:Addr)(us:List Value)(kw:List (Str×Value)) :
 Zib P w K mg base (A.under (.builtin "type.__call__" ⟨.ref C::us,kw⟩)) outer s H:=⟨by first | exact e.frames | (simpa[Around.under,Code.envs,Code.isFrame,pushEnvs]using e.frames),e.mod,e.bs,e.bsz,e.funs,e.frf,e.hok,e.bare⟩
section
variable{X:Cx}{pins:YP_}{σ:St}{H:Hp}{s s':Shared}
theorem Inv.env0(I:Inv X pins σ H s):Zib X.prog X.w X.K X.mg X.base X.A X.stack s H :=
 ⟨I.ok.frames,I.ok.mod,I.bs,Vj I.ok.bsz I.sz,I.stack,I.stkFree,I.hok,I.bare⟩
theorem Inv.after{Q:VK}{u:Value}(I:Inv X pins σ H s)(h:CE X.stack X.prog X.w H s Q u s'):EP X pins σ Q u s':=by
 obtain⟨v,H',os,bare,un,hok,r,q⟩:=h;obtain⟨hh,g,d,t,os'⟩:=s';obtain rfl:os'=s.os:=os;exact⟨v,H',I.call (h':=hh) (g':=g) (d':=d) (t':=t) (ch:=[]) un hok bare (fun b z=>absurd z (by simp)),r,q⟩
end
def Jmb(sp:Sp)(dvs:List V)(E:XK)(t:TA):TE:=fun σ H Q=>t σ H fun vs H1=>sp (vs++dvs) H1 Q E
def Jnb(C:Addr)(sp:Sp)(dvs:List V)(E:XK)(t:TA):TE:=fun σ H Q=>t σ H fun vs H1=>∀ x dx,H1 x=none->H1 dx=none->dx≠x ->
 sp (.ref x::(vs++dvs)) (upd (upd H1 dx (.own x)) x (.ins C dx [])) (fun v H2=>v=.non/\Q (.ref x) H2) E
def ZQ(K:W.Frag)(fd:FuncData)(ps:List Str)(ds:List Value):Prop :=
 ∀ (s:Shared) (us:List Value),K.In s.heap->(us++ds).length=ps.length->BindsTo s fd ⟨us,[]⟩ (ps.zip (us++ds))
theorem ZQ.all{K:W.Frag}{fd:FuncData}{ps:List Str}(h:∀ us:List Value,us.length=ps.length->bindArgs fd ⟨us,[]⟩=pure (ps.zip us)):ZQ K fd ps []:=fun s us _ hl=>by
 rw[append_nil]at hl ⊢;exact .of_eq (h us hl)
def Q2a(CX:CXT)(X:Cx)(E:XK):Prop:=∀ (pins:YP_) (σ:St) (H:Hp) (s:Shared) (e:Value) (s':Shared),Inv X pins σ H s->CX X.stack H s E e s'->X.xe e s'
section
variable{X:Cx}{CX:CXT}{k:Nat}{f C:Addr}{fd:FuncData}{ps:List Str}{sp:Sp}{dvs:List V}{ds:List Value}{E:XK}{x m:Str}{p pos apos:Pos}{e o:Expr}{es:List Expr}{ta:TE}{t:TA}
theorem Xbb{pins:YP_}{σ:St}{H:Hp}{s:Shared}{Q:VK}{us:List Value}{vs:List V}(F:QF X.prog X.w X.K X.mg X.base CX k f fd ps sp)(hr:Zd k X.A)(hb:ZQ X.K fd ps ds)(hd:Qr dvs ds)(hx:Q2a CX X E)
 (I:Inv X pins σ H s) (r:Qr vs us) (h:sp (vs++dvs) H Q E):wpAny (model X.prog X.w) X.A (call (.ref f) us) (EP X pins σ Q) X.xe s:=by
 have r2:Qr (vs++dvs) (us++ds):=r.append hd;have hl:(us++ds).length=ps.length:=by rw[<- r2.length];exact F.len _ _ _ _ h
 refine wpAny_call (codeAny_mono (F.run X.A X.stack s H ⟨us,[]⟩ (us++ds) (vs++dvs) Q E hr I.env0 (hb s us I.kIn hl) r2 h) fun r s' hq=>?_)
 cases r with
 | error e=>exact hx pins σ H s e s' I hq
 | ok fl =>
  cases fl with
  | ret u=>exact I.after hq
  | next=>exact False.elim hq
  | brk=>exact False.elim hq
  | cont=>exact False.elim hq
theorem Q2c(F:QF X.prog X.w X.K X.mg X.base CX k f fd ps sp)(hr:Zd k X.A)(hg:Gl X x)(hm:X.mg x=some (.ref f))(hk:W.keepIn X.K (.ref f)=true)(hb:ZQ X.K fd ps ds)(hd:Qr dvs ds)(hx:Q2a CX X E)
 (ha:PA X (e::es) t) (hdb:(x == ("__debug__":Str))=false:=by decide) (he:starEach (e::es) X.env=(false,eval e X.env)::starEach es X.env:=by rfl) (hpl:(backTo pos (starEach es X.env)).any (·.1)=false:=by rfl) :
 PE X (.Call (.Name x p) (e::es) [] pos) (Jmb sp dvs E t):=by
 intro pins s σ H Q I h;refine wpAny_Call_Name_kw (Jp I hg hm ?_ hdb)
 refine W.callWith_K (h₀:=X.base) I.ok.mod.kin hk (thn (ha pos pins s σ H _ I h) fun us s1 ⟨vs,H1,I1,r,q⟩=>⟨I1.kIn,?_⟩) he hpl
 exact Xbb F hr hb hd hx I1 r q
structure Mk(K:W.Frag)(C f:Addr):Prop where
 makes:W.makesIn K C=true
 init:W.findIn K (.ref C) "__init__"=some (some (.ref f))
 fn:W.isFn K (.ref f)=true
 kp:W.keepIn K (.ref C)=true
theorem X0a{pins:YP_}{σ:St}{H:Hp}{s:Shared}{Q:VK}{us:List Value}{vs:List V}(M:Mk X.K C f)(F:QF X.prog X.w X.K X.mg X.base CX k f fd ps sp)(hr:Zd (k+1) X.A)(hb:ZQ X.K fd ps ds)(hd:Qr dvs ds)
 (hx:Q2a CX X E) (I:Inv X pins σ H s) (r:Qr vs us)
 (h:∀ x dx,H x=none->H dx=none->dx≠x->sp (.ref x::(vs++dvs)) (upd (upd H dx (.own x)) x (.ins C dx [])) (fun v H2=>v=.non/\Q (.ref x) H2) E) :
 wpAny (model X.prog X.w) X.A (call (.ref C) us) (EP X pins σ Q) X.xe s:=by
 have hq:=h (s.heap.objs.size+1) s.heap.objs.size (I.hok.fresh (Nat.le_succ _)) (I.hok.fresh (Ve _)) (Nat.ne_of_lt (Nat.lt_succ_self _));have I2:=Inv.made (C:=C) I;have r2:Qr (V.ref (s.heap.objs.size+1)::(vs++dvs)) (Value.ref (s.heap.objs.size+1)::(us++ds)):=.cons rfl (r.append hd);have hl:(Value.ref (s.heap.objs.size+1)::us++ds).length=ps.length:=by
  have e:=r2.length;rw[F.len _ _ _ _ hq]at e;exact e.symm
 refine wpAny_call (Y9b (f:=f) I.kIn M.makes M.init (beq_iff_eq.mp M.fn) (codeAny_mono (F.run _ X.stack _ _ ⟨Value.ref (s.heap.objs.size+1)::us,[]⟩ (Value.ref (s.heap.objs.size+1)::(us++ds)) _ _ E (hr.make C us [])
  (I2.env0.make C us []) (hb _ (Value.ref (s.heap.objs.size+1)::us) I2.kIn hl) r2 hq) fun r s' hq'=>?_))
 cases r with
 | error e=>exact hx pins σ _ _ e s' I2 hq'
 | ok fl =>
  cases fl with
  | ret u =>
   obtain⟨v,H',I3,rv,ev,q3⟩:=I2.after hq';subst ev;exact⟨rv,⟨V.ref (s.heap.objs.size+1),H',I3,rfl,q3⟩⟩
  | next=>exact False.elim hq'
  | brk=>exact False.elim hq'
  | cont=>exact False.elim hq'
theorem Q3c(M:Mk X.K C f)(F:QF X.prog X.w X.K X.mg X.base CX k f fd ps sp)(hr:Zd (k+1) X.A)(hg:Gl X x)(hm:X.mg x=some (.ref C))(hb:ZQ X.K fd ps ds)(hd:Qr dvs ds)(hx:Q2a CX X E)
 (ha:PA X (e::es) t) (hdb:(x == ("__debug__":Str))=false:=by decide) (he:starEach (e::es) X.env=(false,eval e X.env)::starEach es X.env:=by rfl) (hpl:(backTo pos (starEach es X.env)).any (·.1)=false:=by rfl) :
 PE X (.Call (.Name x p) (e::es) [] pos) (Jnb C sp dvs E t):=by
 intro pins s σ H Q I h;refine wpAny_Call_Name_kw (Jp I hg hm ?_ hdb)
 refine W.callWith_K (h₀:=X.base) I.ok.mod.kin M.kp (thn (ha pos pins s σ H _ I h) fun us s1 ⟨vs,H1,I1,r,q⟩=>⟨I1.kIn,?_⟩) he hpl
 exact X0a M F hr hb hd hx I1 r q
theorem Xcb(M:Mk X.K C f)(F:QF X.prog X.w X.K X.mg X.base CX k f fd ps sp)(hr:Zd (k+1) X.A)(hg:Gl X x)(hm:X.mg x=some (.ref C))(hb:ZQ X.K fd ps ds)(hd:Qr dvs ds)(hx:Q2a CX X E)
 (hdb:(x == ("__debug__":Str))=false:=by decide):PE X (.Call (.Name x p) [] [] pos) (Jnb C sp dvs E XZa):=by
 intro pins s σ H Q I h;refine wpAny_Call_Name_kw (Jp I hg hm ?_ hdb)
 exact W.callWith_K0 I.kIn M.kp (X0a (us:=[]) M F hr hb hd hx I .nil h)
end
section
variable{X:Cx}{CX:CXT}{k:Nat}{f C:Addr}{fd:FuncData}{ps ks:List Str}{sp:Sp}{E:XK}{x m:Str}{p pos apos kpos:Pos}{e o:Expr}{es:List Expr}{kws:List Keyword}{te ta:TE}{t tk:TA}{nm:Option Str}
variable{g:List Value->List Value->List Value}{gV:List V->List V->List V}
end
structure Qn(N P:List Str)(sc:Scope):Prop where
 kind:sc.kind=.function
 co:sc.isCoroutine=false
 gen:sc.isGenerator=false
 nd:N.Nodup
 pre:N.take P.length=P
 par:∀ x∈P,sc.names.lookup x=some .local\/sc.names.lookup x=some .cell
 nofree:∀ y∈sc.names,y.2≠.free
theorem Ywa{kindOf:Str->Option NameKind}{x:Str}:∀ {binds:List (Str×Value)} {m:Str->Option Value},(∀ v,(x,v)∉binds)->bindL kindOf binds m x=m x
 | [],_,_=>rfl
 | (n,v)::r,m,h=>by
  unfold bindL;rw[Ywa fun w hw=>h w (Vo _ hw)]
  split
  ·have:x≠n:=by rintro rfl;exact h v mem_cons_self
   simp[this]
  ·rfl
theorem Yxa{kindOf:Str->Option NameKind}{x:Str}:∀ {binds:List (Str×Value)} {m:Str->Option Value},(∀ v,(x,v)∉binds)->bindC kindOf binds m x=m x
 | [],_,_=>rfl
 | (n,v)::r,m,h=>by
  unfold bindC;rw[Yxa fun w hw=>h w (Vo _ hw)]
  split
  ·rfl
  ·have:x≠n:=by rintro rfl;exact h v mem_cons_self
   simp[this]
theorem Yya{kindOf:Str->Option NameKind}{x:Str}{v:Value}:∀ {P:List Str} {vs:List Value} {i:Nat} {m:Str->Option Value},P.Nodup->P[i]?=some x->vs[i]?=some v->kindOf x=some .local ->
 bindL kindOf (P.zip vs) m x=some v
 | [],_,_,_,_,h,_,_=>by simp at h
 | _::_,[],_,_,_,_,h,_=>by simp at h
 | p::P,w::vs,0,m,nd,h1,h2,hk=>by
  simp at h1 h2;subst h1;subst h2;show bindL kindOf ((p,w)::P.zip vs) m p=_;unfold bindL;rw[Ywa fun v hv=>(nodup_cons.mp nd).1 (of_mem_zip hv).1,if_pos hk]
  simp
 | p::P,w::vs,i+1,m,nd,h1,h2,hk=>by
  show bindL kindOf ((p,w)::P.zip vs) m x=_;unfold bindL;exact Yya (i:=i) (nodup_cons.mp nd).2 (by simpa using h1) (by simpa using h2) hk
theorem Yza{kindOf:Str->Option NameKind}{x:Str}{v:Value}:∀ {P:List Str} {vs:List Value} {i:Nat} {m:Str->Option Value},P.Nodup->P[i]?=some x->vs[i]?=some v->kindOf x≠some .local ->
 bindC kindOf (P.zip vs) m x=some v
 | [],_,_,_,_,h,_,_=>by simp at h
 | _::_,[],_,_,_,_,h,_=>by simp at h
 | p::P,w::vs,0,m,nd,h1,h2,hk=>by
  simp at h1 h2;subst h1;subst h2;show bindC kindOf ((p,w)::P.zip vs) m p=_;unfold bindC;rw[Yxa fun v hv=>(nodup_cons.mp nd).1 (of_mem_zip hv).1,if_neg hk]
  simp
 | p::P,w::vs,i+1,m,nd,h1,h2,hk=>by
  show bindC kindOf ((p,w)::P.zip vs) m x=_;unfold bindC;exact Yza (i:=i) (nodup_cons.mp nd).2 (by simpa using h1) (by simpa using h2) hk
def QAa(N:List Str)(vs:List V):St:=vs.map some++List.replicate (N.length - vs.length) none
def QBa(CX:CXT)(P:Program)(w:World)(K:W.Frag)(mg:Str->Option Value)(base:Heap)(N:List Str)(qual:Str)(scope:Scope)(f:Addr)(cd:Value)(A:Around)(outer:List Env)(s:Shared)(H:Hp)(E:XK):Cx where
 prog:=P
 w:=w
 K:=K
 mg:=mg
 base:=base
 A:=A.deeper (envOfC qual scope s.heap.objs.size f cd)
 N:=N
 s₀:=s
 H₀:=H
 env:=envOfC qual scope s.heap.objs.size f cd
 outer:=outer
 stack:=envOfC qual scope s.heap.objs.size f cd::outer
 ex:=[]
 calm:=true
 fn:=fun _=>true
 pn:=[]
 xe:=fun e s'=>wpAny (model P w) (A.deeper (envOfC qual scope s.heap.objs.size f cd)) (leaving (envOfC qual scope s.heap.objs.size f cd) e) (fun _ s''=>CX outer H s E e s'') (fun e' s''=>CX outer H s E e' s'') s'
theorem X1a{sc:Scope}{n:Nat}{x:Str}(h:sc.names.lookup x=some .cell):∃ c,(cellsFrom n sc.names []).lookup x=some c:=by
 have q:=W.cellsFrom_some sc.names n [] (.inl h);exact Option.isSome_iff_exists.mp q
theorem J8b{CX:CXT}{P:Program}{w:World}{K:W.Frag}{mg:Str->Option Value}{base:Heap}{N ps:List Str}{qual:Str}{scope:Scope}{f:Addr}{cd:Value}{A:Around}{outer:List Env}{s s1:Shared}{H:Hp}{E:XK}{us:List Value}{vs:List V}
 (S:Qn N ps scope) (hd:A.handled=none) (e0:Zib P w K mg base A outer s H) (hl:vs.length=ps.length) (r:Qr vs us)
 (x:InCallC s s.heap.objs.size (bindL (envOfC qual scope s.heap.objs.size f cd).kindOf (ps.zip us) fun _=>none) (cellsFrom (s.heap.objs.size+1) scope.names []) (bindC (envOfC qual scope s.heap.objs.size f cd).kindOf (ps.zip us) fun _=>none) s1) :
 Inv (QBa CX P w K mg base N qual scope f cd A outer s H E) [] (QAa N vs) H s1:=by
 have hpl:ps.length<=N.length:=by have:=congrArg List.length S.pre;rw[length_take]at this;omega
 obtain⟨h1,tk,rfl,hk⟩:=x.done;have noA:∀ b:Addr,b∉(QBa CX P w K mg base N qual scope f cd A outer s H E).ex:=fun b z=>absurd (show b∈([]:List Addr) from z) (by simp)
 refine⟨⟨e0.mod,S.kind,rfl,rfl,Ve _,fun y z c h1 h2=>?_,fun y hy=>?_,fun y c _ h=>?_,fun _=>hd,Around.frames_deeper e0.frames,.inr ⟨rfl,rfl⟩,fun b z=>absurd z (noA b),e0.bs,e0.bsz,fun b _ _=>noA b,fun b z=>absurd z (noA b),e0.funs,e0.frf⟩,
  rfl,e0.bare,Un.kept hk,⟨_,x.toInCall.ns,fun i y v h1 h2 h3=>?_⟩,fun y c h=>⟨_,x.cell y c h⟩,e0.hok.fresh (Ve _),fun y c h=>?_,fun p hp=>absurd (show p∈([]:YP_) from hp) (by simp),e0.hok.kept hk,?_⟩
 ·exact name_of_addr x.apart (PySem.mem_of_lookup h1) (PySem.mem_of_lookup h2)
 ·have hy:scope.names.lookup y=some .cell\/scope.names.lookup y=some .free:=hy
  rcases hy with hy | hy
  ·exact X1a hy
  ·exact absurd rfl (S.nofree _ (PySem.mem_of_lookup hy))
 ·exact Vv (x.above y c (PySem.mem_of_lookup h))
 ·have hi:i < vs.length:=by
   unfold QAa at h2
   by_cases hi:i < vs.length
   ·exact hi
   ·rw[getElem?_append_right (by simpa using hi)]at h2
    rw[getElem?_replicate]at h2
    split at h2 <;> cases h2
  have ha:vs[i]?=some v:=by
   unfold QAa at h2;rw[getElem?_append_left (by simpa using hi),getElem?_map]at h2
   cases e:vs[i]? with
   | none=>rw[e]at h2;cases h2
   | some a=>rw[e]at h2;cases h2;rfl
  obtain⟨u,hu,rv⟩:=r.get ha;have hp:ps[i]?=some y:=by
   rw[<- S.pre,getElem?_take_of_lt (by omega)];exact h1
  have ndP:ps.Nodup:=by rw[<- S.pre];exact S.nd.sublist (take_sublist _ _)
  refine⟨u,rv,?_⟩
  rcases S.par y (Vm hp) with k | k
  ·exact .inl ⟨k,Yya ndP hp hu k⟩
  ·obtain⟨c,e⟩:=X1a (n:=s.heap.objs.size+1) k
   refine .inr ⟨.inl k,c,e,?_⟩
   have q:=x.cell y c e;rw[Yza ndP hp hu (by show scope.names.lookup y≠_;rw[k];decide)]at q
   exact q
 ·exact e0.hok.fresh (Vv (x.above y c (PySem.mem_of_lookup h)))
 ·unfold QAa
  show _=N.length;rw[Vs,Vr,length_replicate]
  omega
theorem ZSc{CX:CXT}{P:Program}{w:World}{K:W.Frag}{mg:Str->Option Value}{base:Heap}{k:Nat}{f:Addr}{name qual:Str}{params:Arguments}{body:List Stmt}{scope:Scope}{dV kV doc pm cdv ct oc:Value}{an od:Option Addr}
 {osl:Array (Option Value)} {N ps:List Str} {sp:Sp} (lk:K.lookup f=some ⟨oc,od,.func (W.fnOf name qual params body scope dV kV doc pm an cdv ct),osl⟩) (hcd:W.codeIn K cdv qual=true) (S:Qn N ps scope)
 (len:∀ vs H Q E,sp vs H Q E->vs.length=ps.length)
 (hbody:∀ (A:Around) (outer:List Env) (s:Shared) (H:Hp) (vs:List V) (Q:VK) (E:XK),Zd k (A.deeper (envOfC qual scope s.heap.objs.size f cdv))->sp vs H Q E ->
  ∃ t,PSs (QBa CX P w K mg base N qual scope f cdv A outer s H E) body t/\t { nx:=fun _ H'=>Q .non H',rt:=Q } (QAa N vs) H) :
 QF P w K mg base CX (k+1) f (W.fnOf name qual params body scope dV kV doc pm an cdv ct) ps sp:=by
 refine⟨len,fun A outer s H args us vs Q E hr e0 hb r hsp=>?_⟩
 have hl:=len _ _ _ _ hsp;have KX:K.In s.heap:=e0.mod.kin.keeps fun b o e=>(e0.bs b o e).1
 have lim:s.heap.NoLimit:=e0.mod.nolimit.keeps fun b o e=>(e0.bs b o e).1
 have hkind:∀ y∈ps.zip us,scope.names.lookup y.1=some .local\/(scope.names.lookup y.1=some .cell/\((cellsFrom (s.heap.objs.size+1) scope.names []).lookup y.1).isSome=true):=fun⟨n,v⟩ hy=>by
  rcases S.par n (of_mem_zip hy).1 with q | q
  ·exact .inl q
  ·exact .inr ⟨q,W.cellsFrom_some _ _ _ (.inl q)⟩
 refine codeAny_call_function hr.depth (KX _ _ lk) rfl S.co S.gen rfl (W.codeRec_of KX hcd) (hb _ _ _ _ ?_)
 refine wpAny_newFunctionEnv_cells S.kind hkind fun env he s1 x=>?_
 subst he;refine⟨lim.keeps x.toInCall.keep,codeAny_func ?_⟩
 obtain⟨t,ht,hq⟩:=hbody A outer s H vs Q E (hr.deeper _) hsp;have I:Inv (QBa CX P w K mg base N qual scope f cdv A outer s H E) [] (QAa N vs) H s1:=J8b S hr.hd e0 hl r x;refine wpAny_mono (ht [] s1 (QAa N vs) H _ I hq) (fun fl s' hs=>?_) fun e s' hs=>hs
 have fin:∀ {σ':St} {H':Hp} {v:V} {u:Value},Inv (QBa CX P w K mg base N qual scope f cdv A outer s H E) [] σ' H' s'->Qq v u->Q v H'->CE outer P w H s Q u s' :=
  fun {σ' H' v u} J rv q=>⟨v,H',J.os,J.bare,J.base,J.hok,rv,q⟩
 cases fl with
 | ret u =>
  obtain⟨v,σ',H',J,rv,q⟩:=hs;exact fin J rv q
 | next =>
  obtain⟨σ',H',J,q⟩:=hs;exact fin (v:=V.non) (u:=Value.none) J rfl q
 | brk =>
  obtain⟨_,_,_,q⟩:=hs;exact False.elim q
 | cont =>
  obtain⟨_,_,_,q⟩:=hs;exact False.elim q
section
variable{X:Cx}{x:Str}{p pos:Pos}{e:Expr}{es:List Expr}{t:TA}{id T:String}{r:List V->Hp->VK->Prop}
def tCB(r:List V->Hp->VK->Prop)(t:TA):TE:=fun σ H Q=>t σ H fun vs H1=>r vs H1 Q
theorem Qt(hc:JY X (.builtin id) r)(hg:Gl X x)(hm:X.mg x=none)(hv:bootBuiltins x=some (.builtin id))(ha:PA X (e::es) t)(hn:x≠"__name__":=by decide)(hdb:(x == ("__debug__":Str))=false:=by decide)
 (he:starEach (e::es) X.env=(false,eval e X.env)::starEach es X.env:=by rfl) (hpl:(backTo pos (starEach es X.env)).any (·.1)=false:=by rfl):PE X (.Call (.Name x p) (e::es) [] pos) (tCB r t):=by
 intro pins s σ H Q I h;refine wpAny_Call_Name_kw (YG I hg hm hv ?_ hn hdb)
 exact PyProof.Rows.callWith_builtin1 (thn (ha pos pins s σ H _ I h) fun us s1 ⟨vs,H1,I1,r1,q1⟩=>hc pins s1 σ H1 vs us Q I1 r1 q1) he hpl
theorem JB(hc:JY X (.type T) r)(hg:Gl X x)(hm:X.mg x=none)(hv:bootBuiltins x=some (.type T))(ha:PA X (e::es) t)(hn:x≠"__name__":=by decide)(hdb:(x == ("__debug__":Str))=false:=by decide)
 (he:starEach (e::es) X.env=(false,eval e X.env)::starEach es X.env:=by rfl) (hpl:(backTo pos (starEach es X.env)).any (·.1)=false:=by rfl):PE X (.Call (.Name x p) (e::es) [] pos) (tCB r t):=by
 intro pins s σ H Q I h;refine wpAny_Call_Name_kw (YG I hg hm hv ?_ hn hdb)
 exact PyProof.Rows.callWith_type1 (thn (ha pos pins s σ H _ I h) fun us s1 ⟨vs,H1,I1,r1,q1⟩=>hc pins s1 σ H1 vs us Q I1 r1 q1) he hpl
end
end L2
namespace HT
open PySem PyProof.Rows
theorem Xdb(A:Around)(s:Shared)(a:Int)(t:Tok)(c:Int)(u:Tok):∃ e,SeqAt.EqAt A s (.int a t) (.int c u) e/\(e=true↔a=c) :=
 ⟨(a == c),SeqAt.EqAt.int_int a t c u,by simp⟩
theorem Xeb(A:Around)(s:Shared)(a:Int)(t:Tok)(c:Int)(u:Tok)(prog:Program)(w:World)(E:YQ_)(Q:YQ_)(h:Q (.bool (decide (a < c))) s) :
 wpAny (model prog w) A (richCompare .Lt (.int a t) (.int c u)) Q E s :=
 (PyProof.Rows.lt_int h:wpAny (model prog w) A (compareOp .Lt (.int a t) (.int c u)) Q E s)
section
open PySem.SeqAt
open PySem.AutoSeq1 (wpAny_loadPart')
open PySem.MeetsSeq PySem.MeetsSeq2 PySem.MeetsSeq3
end
section
variable{prog:Program}{w:World}{A:Around}{E:YQ_}{s:Shared}
def sIx(n d:Nat):Option Int->Nat
 | none=>d
 | some v=>if v < 0 then (v+(n:Int)).toNat else min v.toNat n
theorem Q4c(n d k:Nat):sIx n d (some (k:Int))=min k n:=by
 show(if (k:Int) < 0 then ((k:Int)+(n:Int)).toNat else min (k:Int).toNat n)=min k n
 rw[if_neg (by omega),Int.toNat_natCast]
end
end HT
namespace L2
open PySem PySem.Spec PyProof.Rows
abbrev TO:=St->Hp->(Option Int->Hp->Prop)->Prop
def PO(X:Cx)(e:Option Expr)(t:TO):Prop :=
 ∀ (pins:YP_) (s:Shared) (σ:St) (H:Hp) (Q:Option Int->Hp->Prop),Inv X pins σ H s->t σ H Q ->
  wpAny (model X.prog X.w) X.A (evalPart e X.env) (fun u s'=>∃ o H',Inv X pins σ H' s'/\IsPart u o/\Q o H') X.xe s
def Job:TO:=fun _ H Q=>Q none H
def ZTc(t:TE):TO:=fun σ H Q=>t σ H fun x H1=>∃ i,x=.int i/\Q (some i) H1
section
variable{X:Cx}{e:Expr}{te:TE}{lo hi:Option Expr}{tl th:TO}{pos p2:Pos}
theorem Q5c:PO X none Job:=by
 intro pins s σ H Q I h;rw[evalPart_none];exact Vg ⟨none,H,I,.none,h⟩
theorem Y6a(h:PE X e te):PO X (some e) (ZTc te):=by
 intro pins s σ H Q I hw;rw[evalPart_some];refine thn (h pins s σ H _ I hw) fun u s1 hZ=>?_
 obtain⟨x,H1,I1,r1,q1⟩:=hZ;obtain⟨i,rfl,q⟩:=q1;obtain⟨t,rfl⟩:=r1;exact⟨some i,H1,I1,.int i t,q⟩
def SlR(X:Cx)(r:V->Option Int->Option Int->Hp->VK->Prop):Prop :=
 ∀ (pins:YP_) (s:Shared) (σ:St) (H:Hp) (x:V) (v vl vu:Value) (lo hi:Option Int) (sl:Addr) (Q:VK),Inv X pins σ H s->Qq x v->s.heap.IsSliceOf sl vl vu .none->IsPart vl lo->IsPart vu hi->r x lo hi H Q ->
  ∃ T id,typeLookup (.type T) "__getitem__"=pure (some (.builtin id))/\s.TypeIs v T/\wpAny (model X.prog X.w) X.A (getItem v (.ref sl)) (EP X pins σ Q) X.xe s
def tSl(r:V->Option Int->Option Int->Hp->VK->Prop)(te:TE)(tl th:TO):TE:=fun σ H Q=>te σ H fun x H1=>tl σ H1 fun l H2=>th σ H2 fun u H3=>r x l u H3 Q
theorem X2a{r:V->Option Int->Option Int->Hp->VK->Prop}(hr:SlR X r)(he:PE X e te)(hl:PO X lo tl)(hu:PO X hi th):PE X (.Subscript e (.Slice lo hi none p2) pos) (tSl r te tl th):=by
 intro pins s σ H Q I h;refine Subscript_ (thn (he pins s σ H _ I h) fun v s1 hZ=>?_)
 obtain⟨x,H1,I1,r1,q1⟩:=hZ;refine wpAny_Slice (thn (hl pins s1 σ H1 _ I1 q1) fun vl s2 ⟨l,H2,I2,pl,q2⟩=>thn (hu pins s2 σ H2 _ I2 q2) fun vu s3 hZ=>?_)
 obtain⟨u,H3,I3,pu,q3⟩:=hZ;rw[evalPart_none];refine Vg ?_
 have I4:Inv X pins σ H3 { s3 with heap:=s3.heap.push { cls:=.type "slice",data:=.fields #[vl,vu,.none] } }:=I3.kept (t':=s3.toks) fun b ob q=>Vd _ q
 obtain⟨T,id,hT,ht,hg⟩:=hr pins { s3 with heap:=s3.heap.push { cls:=.type "slice",data:=.fields #[vl,vu,.none] } } σ H3 x v vl vu l u s3.heap.objs.size Q I4 r1 (Heap.IsSliceOf.new ..) pl pu q3
 show wpAny (model X.prog X.w) X.A (subscriptTail e (.Slice lo hi none p2) v (.ref s3.heap.objs.size)) (EP X pins σ Q) X.xe { s3 with heap:=s3.heap.push { cls:=.type "slice",data:=.fields #[vl,vu,.none] } }
 exact tail_any (ops:=[.ref s3.heap.objs.size,v]) ht hT hg (by with_unfolding_all rfl)
def Y7a(xs:List V)(lo hi:Option Int):List V:=(xs.drop (HT.sIx xs.length 0 lo)).take (HT.sIx xs.length xs.length hi - HT.sIx xs.length 0 lo)
theorem X3a(xs:List V)(lo hi:Option Int):(Y7a xs lo hi).length<=xs.length:=by
 unfold Y7a;rw[length_take,length_drop]
 omega
end
def ixN(n:Nat)(i:Int):Option Nat:=if 0<=i then (if i < n then some i.toNat else none) else if -(n:Int)<=i then some (i+n).toNat else none
def atI{α:Type}(xs:List α)(i:Int):Option α:=(ixN xs.length i).bind fun j=>xs[j]?
theorem Jpb{n:Nat}{i:Int}{j:Nat}(h:ixN n i=some j):seqIndex? i n=some j/\j < n /\ -(n:Int)<=i/\i < n:=by
 unfold ixN at h
 by_cases h0:0<=i
 ·rw[if_pos h0]at h
  by_cases h1:i < n
  ·rw[if_pos h1]at h
   have e:i.toNat=j:=Option.some.inj h;exact⟨by rw[seqIndex_of h0 h1,e],by omega,by omega,h1⟩
  ·rw[if_neg h1]at h;cases h
 ·rw[if_neg h0]at h
  by_cases h1 : -(n:Int)<=i
  ·rw[if_pos h1]at h
   have e:(i+n).toNat=j:=Option.some.inj h;exact⟨by rw[seqIndex_neg (by omega) h1,e],by omega,h1,by omega⟩
  ·rw[if_neg h1]at h;cases h
theorem Y8a{α:Type}{xs:List α}{i:Int}{v:α}(h:atI xs i=some v):∃ j,seqIndex? i xs.length=some j/\xs[j]?=some v/\j < xs.length /\ -(xs.length:Int)<=i/\i < xs.length:=by
 unfold atI at h;cases e:ixN xs.length i with
 | none=>rw[e]at h;cases h
 | some j =>
  rw[e]at h;obtain⟨h1,h2,h3,h4⟩:=Jpb e;exact⟨j,h1,h,h2,h3,h4⟩
theorem ZR{α:Type}{xs:List α}{j:Nat}{v:α}(h:xs[j]?=some v):atI xs (j:Int)=some v:=by
 have hj:j < xs.length:=(Vc.mp h).1
 have e:ixN xs.length (j:Int)=some j:=by
  unfold ixN;rw[if_pos (by omega),if_pos (by omega)];simp
 unfold atI;rw[e];exact h
theorem ZYa{α:Type}(xs:List α)(v:α):atI (xs++[v]) (-1)=some v:=by
 have hl:(xs++[v]).length=xs.length+1:=by simp
 have e:ixN (xs++[v]).length (-1)=some xs.length:=by
  unfold ixN;rw[hl,if_neg (by decide),if_pos (by omega)]
  congr 1
  omega
 unfold atI;rw[e];show(xs++[v])[xs.length]?=some v;simp
def Q6c(b:Expr):Prop:=∀ o i,subscripted b false o i=operate [o,i] (getItem o i)
def IxR(X:Cx)(r:R2):Prop :=
 ∀ (value slice:Expr) (pins:YP_) (s:Shared) (σ:St) (H:Hp) (x y:V) (v u:Value) (Q:VK),Inv X pins σ H s->Qq x v->Qq y u->r x y H Q ->
  subscripted slice false v u=operate [v,u] (getItem v u)->wpAny (model X.prog X.w) X.A (subscriptTail value slice v u) (EP X pins σ Q) X.xe s
def MtR(X:Cx)(id:String)(r:V->List V->Hp->VK->Prop):Prop :=
 ∀ (pins:YP_) (s:Shared) (σ:St) (H:Hp) (x:V) (xs:List V) (v:Value) (us:List Value) (Q:VK),Inv X pins σ H s->Qq x v->Qr xs us->r x xs H Q ->
  wpAny (model X.prog X.w) X.A (call (.builtin id) (v::us)) (EP X pins σ Q) X.xe s
section
variable{X:Cx}{a b:Expr}{ta tb:TE}{pos:Pos}
theorem Q8{r:R2}(hr:IxR X r)(ha:PE X a ta)(hb:PE X b tb)(hs:Q6c b):PE X (.Subscript a b pos) (tOp r ta tb):=by
 intro pins s σ H Q I h;exact Subscript_ (Joc ha hb I h fun v u s2 x y H2 I2 rx ry q=>hr a b pins s2 σ H2 x y v u Q I2 rx ry q (hs _ _))
def Yuc(K:W.Frag):R2:=fun x y H Q=>∃ p xs i v,x=.ref p/\y=.int i/\SqL K H p xs/\atI xs i=some v/\Q v H
def Q7c(K:W.Frag):R2:=fun x y H Q=>∃ p xs i v,x=.ref p/\y=.int i/\SqT K H p xs/\atI xs i=some v/\Q v H
def Yvc:R2:=fun x y H Q=>∃ z i c,x=.str z/\y=.int i/\z.length<=sizeLine/\atI z.cps.toList i=some c/\Q (.str ⟨#[c]⟩) H
theorem Js:IxR X (Yuc X.K):=by
 intro value slice pins s σ H x y v u Q I rx ry h hs;obtain⟨p,xs,i,z,rfl,rfl,hq,he,q⟩:=h;cases rx;obtain⟨t,rfl⟩:=ry;obtain⟨its,r,pl,hz⟩:=I.list hq;obtain⟨j,h1,h2,h3,h4,h5⟩:=Y8a he;obtain⟨w,ew,rw'⟩:=r.get h2;have hl:=r.length;have hn:=Q0a;have fin:EP X pins σ Q w s:=⟨z,H,I,rw',q⟩
 by_cases h0:0<=i
 ·have hj:i.toNat=j:=by
   rw[seqIndex_of h0 h5]at h1;exact Option.some.inj h1
  exact item_listR pl.isList h0 (by omega) (by rw[hj];simpa using ew) fin hs
 ·have hj:(i+(its.toArray.size:Int)).toNat=j:=by
   rw[seqIndex_neg (by omega) h4]at h1
   rw[Vn,<- hl];exact Option.some.inj h1
  exact subscriptTail_builtinR (x:=w) pl.isList.typeIs slot_list_getitem.lookup
   (wpAny_getItem_list_neg (Q:=fun r s'=>r=w/\EP X pins σ Q r s') pl.isList (by omega) (by rw[Vn] <;> omega) (by omega) (by rw[hj];simpa using ew) ⟨rfl,fin⟩) hs
theorem Zl:IxR X (Q7c X.K):=by
 intro value slice pins s σ H x y v u Q I rx ry h hs;obtain⟨p,xs,i,z,rfl,rfl,hq,he,q⟩:=h;cases rx;obtain⟨t,rfl⟩:=ry;obtain⟨its,r,pl,hz⟩:=I.tuple hq;obtain⟨j,h1,h2,h3,h4,h5⟩:=Y8a he;obtain⟨w,ew,rw'⟩:=r.get h2;have hl:=r.length;have hn:=Q0a;have fin:EP X pins σ Q w s:=⟨z,H,I,rw',q⟩;exact subscriptTail_builtinR (x:=w) pl.typeIs slot_tuple_getitem.lookup
  (getItem_tuple (j:=j) (Q:=fun r s'=>r=w/\EP X pins σ Q r s') pl (by omega) (by omega) (by rw[Vn,<- hl];exact h1) (by simpa using ew) ⟨rfl,fin⟩) hs
theorem Juc:IxR X Yvc:=by
 intro value slice pins s σ H x y v u Q I rx ry h hs;obtain⟨z,i,c,rfl,rfl,hz,he,q⟩:=h;obtain⟨t,rfl⟩:=rx;obtain⟨t',rfl⟩:=ry;obtain⟨j,h1,h2,h3,h4,h5⟩:=Y8a he;have hl:z.cps.toList.length=z.length:=by simp[Str.length]
 rw[hl]at h1 h4 h5;have hn:=Q0a;exact tail_any (typeIs_str s z t) slot_str_getitem.lookup (getItem_str (c:=c) (by
  have e1:decide (i < -(2 ^ 63:Int))=false:=decide_eq_false (by omega)
  have e2:decide (i >= 2 ^ 63)=false:=decide_eq_false (by omega)
  rw[e1,e2,Bool.or_false]) (by rw[h1];simpa using h2) ⟨.str ⟨#[c]⟩,H,I.tok _,⟨_,rfl⟩,q⟩) hs
theorem Zjb(its:List Value)(n j:Nat)(u:Value):Obj.mapSeq (·.setIfInBounds j u) { cls:=.type "list",data:=.seq its.toArray n }={ cls:=.type "list",data:=.seq (its.set j u).toArray n }:=by
 simp[Obj.mapSeq]
theorem Inv.lst{pins:YP_}{σ:St}{H:Hp}{s:Shared}{p:Addr}{xs:List V}(I:Inv X pins σ H s)(h:H p=some (.lst xs)) :
 ∃ (its:List Value) (n:Nat),Qr xs its/\s.heap.get? p=some { cls:=.type "list",data:=.seq its.toArray n }/\xs.length<=sizeLine:=by
 obtain⟨z,its,n,r,e⟩:=I.hok p _ h;exact⟨its,n,r,e,z⟩
theorem Inv.lstUpd{pins:YP_}{σ:St}{H:Hp}{s:Shared}{p:Addr}{xs ys:List V}{its its':List Value}{n n':Nat}{f:Obj->Obj}(I:Inv X pins σ H s)(h:H p=some (.lst xs))
 (ho:s.heap.get? p=some { cls:=.type "list",data:=.seq its.toArray n }) (hf:f { cls:=.type "list",data:=.seq its.toArray n }={ cls:=.type "list",data:=.seq its'.toArray n' }) (r:Qr ys its') (hz:ys.length<=sizeLine) (t:Nat) :
 Inv X pins σ (upd H p (.lst ys)) { s with heap:=s.heap.update p f,toks:=t }:=by
 have e:(s.heap.update p f).get? p=some { cls:=.type "list",data:=.seq its'.toArray n' }:=by
  rw[Heap.get?_update_self f ho (by rw[hf] <;> rfl),hf]
 refine I.write (x:=p) (e:=p) (by rw[h];trivial) (.inl rfl) (fun b u hb q=>(Heap.get?_update_other _ _ (Ne.symm hb)).trans q) ⟨_,e⟩ ?_
 exact⟨hz,its',n',r,e⟩
def Ywc:V->V->V->Hp->(Hp->Prop)->Prop:=fun o i v H Q=>∃ p xs k j,o=.ref p/\i=.int k/\H p=some (.lst xs)/\ixN xs.length k=some j/\Q (upd H p (.lst (xs.set j v)))
theorem X4a:Ymc X Ywc:=by
 intro pins s σ H o i v ov iv u Q I ro ri rv h;obtain⟨p,xs,k,j,rfl,rfl,hp,hj,q⟩:=h;cases ro;obtain⟨t,rfl⟩:=ri;obtain⟨its,n,r,ho,hz⟩:=I.lst hp;obtain⟨h1,h2,h3,h4⟩:=Jpb hj;have hl:=r.length;have hn:=Q0a;have I':Inv X pins σ (upd H p (.lst (xs.set j v))) { s with heap:=s.heap.update p (Obj.mapSeq (·.setIfInBounds j u)) } :=
  I.lstUpd hp ho (Zjb its n j u) (r.set rv j) (by rw[length_set];exact hz) s.toks
 by_cases h0:0<=k
 ·have hk:k.toNat=j:=by
   rw[seqIndex_of h0 h4]at h1;exact Option.some.inj h1
  exact W.ki_setAt ho h0 (by omega) (by rw[Vn,<- hl];exact h4) (by rw[hk];exact⟨_,I',q⟩)
 ·have hk:(k+(its.toArray.size:Int)).toNat=j:=by
   rw[seqIndex_neg (by omega) h3]at h1
   rw[Vn,<- hl];exact Option.some.inj h1
  exact W.ki_setBack ho (by omega) (by rw[Vn,<- hl];exact h3) (by omega) (by rw[hk];exact⟨_,I',q⟩)
theorem Y9a(lo hi:Option Int)(n:Nat):(sliceBounds lo hi none n).1=((HT.sIx n 0 lo:Nat):Int)/\(sliceBounds lo hi none n).2.1=((HT.sIx n n hi:Nat):Int)/\(sliceBounds lo hi none n).2.2=1:=by
 refine⟨?_,?_,rfl⟩
 ·cases lo with
  | none=>simp[sliceBounds,HT.sIx]
  | some i =>
   simp only[sliceBounds,HT.sIx,Option.getD_none,show(1:Int) > 0 by decide,if_true]
   by_cases h:i < 0
   ·simp only[h,if_true] <;> omega
   ·simp only[h,if_false] <;> omega
 ·cases hi with
  | none=>simp[sliceBounds,HT.sIx]
  | some i =>
   simp only[sliceBounds,HT.sIx,Option.getD_none,show(1:Int) > 0 by decide,if_true]
   by_cases h:i < 0
   ·simp only[h,if_true] <;> omega
   ·simp only[h,if_false] <;> omega
theorem JVa(its:List Value)(lo hi:Option Int):slicePick its.toArray lo hi none=((its.drop (HT.sIx its.length 0 lo)).take (HT.sIx its.length its.length hi - HT.sIx its.length 0 lo)).toArray:=by
 obtain⟨h1,h2,h3⟩:=Y9a lo hi its.toArray.size;unfold slicePick;rw[h1,h2,h3];simp only[sliceRange_one,pick_run,Vn] <;> rfl
def Yxc(K:W.Frag):V->Option Int->Option Int->Hp->VK->Prop:=fun x lo hi H Q=>∃ a xs,x=.ref a/\SqL K H a xs/\∀ p,H p=none->Q (.ref p) (upd H p (.lst (Y7a xs lo hi)))
theorem Jqb:SlR X (Yxc X.K):=by
 intro pins s σ H x v vl vu lo hi sl Q I rx hs pl pu h;obtain⟨a,xs,rfl,hx,q⟩:=h;cases rx;obtain⟨its,r,ht,hz⟩:=I.list hx;have hlen:=r.length;refine⟨"list",_,slot_list_getitem.lookup,ht.isList.typeIs,?_⟩
 refine wpAny_getItem_list_slice ht.isList hs pl pu .none (by simp) ?_ (by rw[Vn] <;> omega)
 rw[JVa,<- hlen];refine⟨.ref s.heap.objs.size,_,I.laid (t':=s.toks) (o:=.lst (Y7a xs lo hi)) (fun b ob q=>Vd _ q) (Ve _) ?_,rfl,q _ (I.hok.fresh (Ve _))⟩
 exact⟨Vj (X3a xs lo hi) hz,_,0,(r.drop (HT.sIx xs.length 0 lo)).take (HT.sIx xs.length xs.length hi - HT.sIx xs.length 0 lo),Vi _ rfl⟩
def Zf:V->Bool
 | .non=>true
 | .bl _=>true
 | .int _=>true
 | .str _=>true
 | _=>false
def eqV:V->V->Bool
 | .non,.non=>true
 | .bl a,.bl b=>a == b
 | .bl a,.int b=>(if a then 1 else 0) == b
 | .int a,.bl b=>a == (if b then 1 else 0)
 | .int a,.int b=>a == b
 | .str a,.str b=>a == b
 | _,_=>false
theorem ZZa{A:Around}{s:Shared}{y x:V}{u v:Value}(ry:Qq y u)(rx:Qq x v)(fy:Zf y=true)(fx:Zf x=true):SeqAt.EqAt A s u v (eqV y x):=by
 cases y with
 | non =>
  cases ry;cases x with
  | non=>cases rx;exact SeqAt.EqAt.same _
  | bl b=>cases rx;exact SeqAt.EqAt.none_bool b
  | int b=>obtain⟨t,rfl⟩:=rx;exact SeqAt.EqAt.none_int b t
  | str b=>obtain⟨t,rfl⟩:=rx;exact SeqAt.EqAt.none_str b t
  | _=>exact absurd (show false=true from fx) Vf
 | bl a =>
  cases ry;cases x with
  | non=>cases rx;exact SeqAt.EqAt.bool_none a
  | bl b=>cases rx;exact SeqAt.EqAt.bool_bool a b
  | int b=>obtain⟨t,rfl⟩:=rx;exact SeqAt.EqAt.bool_int a b t
  | str b=>obtain⟨t,rfl⟩:=rx;exact SeqAt.EqAt.bool_str a b t
  | _=>exact absurd (show false=true from fx) Vf
 | int a =>
  obtain⟨t',rfl⟩:=ry;cases x with
  | non=>cases rx;exact SeqAt.EqAt.int_none a t'
  | bl b=>cases rx;exact SeqAt.EqAt.int_bool a t' b
  | int b=>obtain⟨t,rfl⟩:=rx;exact SeqAt.EqAt.int_int a t' b t
  | str b=>obtain⟨t,rfl⟩:=rx;exact SeqAt.EqAt.int_str a t' b t
  | _=>exact absurd (show false=true from fx) Vf
 | str a =>
  obtain⟨t',rfl⟩:=ry;cases x with
  | non=>cases rx;exact SeqAt.EqAt.str_none a t'
  | bl b=>cases rx;exact SeqAt.EqAt.str_bool a t' b
  | int b=>obtain⟨t,rfl⟩:=rx;exact SeqAt.EqAt.str_int a t' b t
  | str b=>obtain⟨t,rfl⟩:=rx;exact SeqAt.EqAt.str_str a t' b t
  | _=>exact absurd (show false=true from fx) Vf
 | _=>exact absurd (show false=true from fy) Vf
def eqU(x:V)(u:Value):Bool:=match u with
 | .none=>eqV .non x
 | .bool b=>eqV (.bl b) x
 | .int i _=>eqV (.int i) x
 | .str z _=>eqV (.str z) x
 | _=>false
theorem Xfb{x y:V}{u:Value}(r:Qq y u)(f:Zf y=true):eqU x u=eqV y x:=by
 cases y with
 | non=>cases r;rfl
 | bl b=>cases r;rfl
 | int i=>obtain⟨t,rfl⟩:=r;rfl
 | str z=>obtain⟨t,rfl⟩:=r;rfl
 | _=>exact absurd (show false=true from f) Vf
theorem Xaa{x:V}:∀ {xs:List V} {us:List Value},Qr xs us->xs.all Zf=true->us.any (eqU x)=xs.any fun y=>eqV y x
 | _,_,.nil,_=>rfl
 | y::xs,u::us,.cons r t,f=>by
  rw[all_cons,Bool.and_eq_true]at f;rw[any_cons,any_cons,Xfb r f.1,Xaa t f.2]
theorem Z0a{A:Around}{s:Shared}{x:V}{v:Value}(rx:Qq x v)(fx:Zf x=true):∀ {xs:List V} {us:List Value},Qr xs us->xs.all Zf=true->∀ u∈us,SeqAt.EqAt A s u v (eqU x u)
 | _,_,.nil,_=>fun u hu=>by cases hu
 | y::xs,u::us,.cons r t,f=>fun u' hu=>by
  rw[all_cons,Bool.and_eq_true]at f
  rcases mem_cons.mp hu with rfl | hu
  ·rw[Xfb r f.1];exact ZZa r rx f.1 fx
  ·exact Z0a rx fx t f.2 u' hu
def inV(x:V)(xs:List V):Bool:=xs.any fun y=>eqV y x
def rIn(K:W.Frag)(neg:Bool):R2:=fun x y H Q=>∃ p xs,y=.ref p/\(SqL K H p xs\/SqT K H p xs)/\Zf x=true/\xs.all Zf=true/\Q (.bl (if neg then !inV x xs else inV x xs)) H
theorem J9b:OpR X (compareOp .In) (rIn X.K false):=by
 intro pins s σ H x y v u Q I rx ry h;obtain⟨p,xs,rfl,hq,fx,fs,q⟩:=h;cases ry
 rcases hq with hq | hq
 ·obtain⟨its,r,pl,hz⟩:=I.list hq
  refine SeqAt.in_listAt (eqU x) pl.isList (fun w hw=>Z0a rx fx r fs w (by simpa using hw)) ⟨.bl _,H,I,rfl,?_⟩
  rw[show its.toArray.any (eqU x)=its.any (eqU x) by simp,Xaa r fs]
  exact q
 ·obtain⟨its,r,pl,hz⟩:=I.tuple hq
  refine SeqAt.in_tupleAt (eqU x) pl (fun w hw=>Z0a rx fx r fs w (by simpa using hw)) ⟨.bl _,H,I,rfl,?_⟩
  rw[show its.toArray.any (eqU x)=its.any (eqU x) by simp,Xaa r fs]
  exact q
theorem Q9:JY X (.builtin "len") (fun xs H Q=>∃ p ys,xs=[.ref p]/\(SqL X.K H p ys\/SqT X.K H p ys)/\Q (.int ys.length) H):=by
 intro pins s σ H xs us Q I r h;obtain⟨p,ys,rfl,hq,q⟩:=h;obtain⟨u,rfl,rx⟩:=Qya r;cases rx;have hn:=Q0a
 rcases hq with hq | hq
 ·obtain⟨its,r',pl,hz⟩:=I.list hq
  have hlen:=r'.length;exact Calls.call_len_list pl.isList (by simp only[Vn] <;> omega) ⟨.int ys.length,H,I.tok _,⟨s.toks+1,by rw[Vn,hlen]⟩,q⟩
 ·obtain⟨its,r',pl,hz⟩:=I.tuple hq
  have hlen:=r'.length;exact len_tuple pl (by simp only[Vn] <;> omega) ⟨.int ys.length,H,I.tok _,⟨s.toks+1,by rw[Vn,hlen]⟩,q⟩
theorem YK:JY X (.type "list") (fun xs H Q=>∃ p ys,xs=[.ref p]/\(SqL X.K H p ys\/SqT X.K H p ys)/\∀ l,H l=none->Q (.ref l) (upd H l (.lst ys))):=by
 intro pins s σ H xs us Q I r h;obtain⟨p,ys,rfl,hq,q⟩:=h;obtain⟨u,rfl,rx⟩:=Qya r;cases rx;have fin:∀ (its:List Value),Qr ys its->ys.length<=sizeLine->∀ (h':Heap) (c':Nat),(∀ b o',s.heap.get? b=some o'->h'.get? b=some o') ->
  h'.get? s.heap.objs.size=some { cls:=.type "list",dict:=none,data:=.seq its.toArray c',slots:=#[] }->EP X pins σ Q (.ref s.heap.objs.size) { s with heap:=h' }:=fun its r' hz h' c' kp e =>
  ⟨.ref s.heap.objs.size,_,I.laid (t':=s.toks) kp (Ve _) (show QA X.prog X.w _ h' _ (.lst ys) from⟨hz,its,c',r',e⟩),rfl,q _ (I.hok.fresh (Ve _))⟩
 rcases hq with hq | hq
 ·obtain⟨its,r',pl,hz⟩:=I.list hq
  have hlen:=r'.length;obtain⟨o,ho,hc,n,hd⟩:=pl.isList;exact call_list_seq p (.inl rfl) ho hc hd (fun h' c' kp e=>fin its r' hz h' c' kp e) (by simp only[Vn] <;> omega)
 ·obtain⟨its,r',pl,hz⟩:=I.tuple hq
  have hlen:=r'.length;obtain⟨o,ho,hc,n,hd⟩:=pl;exact call_list_seq p (.inr rfl) ho hc hd (fun h' c' kp e=>fin its r' hz h' c' kp e) (by simp only[Vn] <;> omega)
theorem X8:JY X (.type "tuple") (fun xs H Q=>∃ p ys,xs=[.ref p]/\((SqL X.K H p ys/\∀ l,H l=none->Q (.ref l) (upd H l (.tup ys)))\/(SqT X.K H p ys/\Q (.ref p) H))):=by
 intro pins s σ H xs us Q I r h;obtain⟨p,ys,rfl,h⟩:=h;obtain⟨u,rfl,rx⟩:=Qya r;cases rx
 rcases h with ⟨hq,q⟩ | ⟨hq,q⟩
 ·obtain⟨its,r',pl,hz⟩:=I.list hq
  have hlen:=r'.length;refine call_tuple_list pl.isList (fun h' kp=>?_) (by simp only[Vn] <;> omega)
  have I1:Inv X pins σ H { s with heap:=h' }:=I.kept (t':=s.toks) kp
  have I2:Inv X pins σ (upd H h'.objs.size (.tup ys)) { s with heap:=h'.push { cls:=.type "tuple",data:=.seq its.toArray } } :=
   I1.laid (t':=s.toks) (fun b o e=>Vd _ e) (Ve _) (show QA X.prog X.w _ _ _ (.tup ys) from⟨⟨hz,_,Vi _ rfl,rfl⟩,its,r',IsTup.new _ _⟩)
  exact⟨.ref h'.objs.size,_,I2,rfl,q _ (I1.hok.fresh (Ve _))⟩
 ·obtain⟨its,r',pl,hz⟩:=I.tuple hq
  exact call_tuple_same pl ⟨.ref p,H,I,rfl,q⟩
def tyV(K:W.Frag)(T:String)(x:V)(H:Hp):Prop:=match x with
 | .str _=>T="str"
 | .int _=>T="int"
 | .ref p=>(T="list"/\∃ xs,SqL K H p xs)\/(T="tuple"/\∃ o,K.lookup p=some o/\o.cls=.type "tuple"/\o.dict=none) \/
  (T="dict"/\((∃ kvs,H p=some (.dK kvs))\/∃ kvs,H p=some (.dT kvs)))\/(T="set"/\∃ S n,H p=some (.set S n))
 | _=>False
theorem Xgb{pins:YP_}{σ:St}{H:Hp}{s:Shared}{T:String}{x:V}{v:Value}(I:Inv X pins σ H s)(r:Qq x v)(ty:tyV X.K T x H) :
 s.TypeIs v T/\∀ a,v=.ref a->∃ ob,s.heap.get? a=some ob/\ob.dict=none:=by
 cases x with
 | str z =>
  obtain⟨t,rfl⟩:=r;cases (show T="str" from ty)
  exact⟨typeIs_str s z t,fun _ e=>nomatch e⟩
 | int i =>
  obtain⟨t,rfl⟩:=r;cases (show T="int" from ty)
  exact⟨typeIs_int s i t,fun _ e=>nomatch e⟩
 | ref p =>
  cases r
  rcases ty with ⟨rfl,xs,hq⟩ | ⟨rfl,o,hk,hc,hd⟩ | ⟨rfl,hk⟩ | ⟨rfl,S,n,hk⟩
  ·obtain⟨its,_,pl,_⟩:=I.list hq
   refine⟨pl.isList.typeIs,fun a e=>?_⟩
   cases e;obtain⟨o,n,e,c,hd,_⟩:=pl;exact⟨o,e,hd⟩
  ·refine⟨⟨o,I.kIn p o hk,hc⟩,fun a e=>?_⟩
   cases e;exact⟨o,I.kIn _ o hk,hd⟩
  ·have z:∃ o,s.heap.get? p=some o/\o.ExactDict:=by
    rcases hk with ⟨kvs,hk⟩ | ⟨kvs,hk⟩
    ·obtain⟨_,_,_,_,o,_,_,e,ex,_⟩:=I.hok p _ hk
     exact⟨o,e,ex⟩
    ·obtain⟨_,_,_,_,o,_,_,e,ex,_⟩:=I.hok p _ hk
     exact⟨o,e,ex⟩
   obtain⟨o,e,ex⟩:=z;refine⟨⟨o,e,ex.1⟩,fun a e2=>?_⟩
   cases e2;exact⟨o,e,ex.2.1⟩
  ·obtain⟨o,_,_,_,e,ex,_⟩:=I.hok p _ hk
   refine⟨⟨o,e,ex.1⟩,fun a e2=>?_⟩
   cases e2;exact⟨o,e,ex.2.1⟩
 | _=>exact False.elim ty
def Yyc(K:W.Frag)(T:String)(r:V->List V->Hp->VK->Prop)(to:TE):TE:=fun σ H Q=>to σ H fun x H1=>tyV K T x H1/\r x [] H1 Q
def tBM(K:W.Frag)(T:String)(r:V->List V->Hp->VK->Prop)(to:TE)(t:TA):TE:=fun σ H Q=>to σ H fun x H1=>tyV K T x H1/\t σ H1 fun xs H2=>r x xs H2 Q
variable{o e:Expr}{es:List Expr}{to:TE}{t:TA}{name:Str}{apos cpos:Pos}{T id:String}{r:V->List V->Hp->VK->Prop}
theorem Zkb(pa:PlainAttrs T)(slot:Slot T name id)(hty:typeOf (.builtin id)=pure (.type "method_descriptor"))(hm:MtR X id r)(ho:PE X o to)
 (hbase:attributeBase o name X.env (eval o X.env)=eval o X.env:=by rfl) (hline:(apos.endLine == cpos.line)=true:=by rfl):PE X (.Call (.Attribute o name apos) [] [] cpos) (Yyc X.K T r to):=by
 intro pins s σ H Q I h;refine wpAny_Call_method0_late hbase hline (thn (ho pins s σ H _ I h) fun v s1 hZ=>?_)
 obtain⟨x,H1,I1,r1,ty,q1⟩:=hZ;obtain⟨h1,h2⟩:=Xgb I1 r1 ty;exact⟨T,id,pa,slot,hty,h1,h2,Calls.callWith_builtin rfl (PySem.evalArgs_none (hm pins s1 σ H1 x [] v [] Q I1 r1 .nil q1))⟩
theorem ZAa(pa:PlainAttrs T)(slot:Slot T name id)(hty:typeOf (.builtin id)=pure (.type "method_descriptor"))(hm:MtR X id r)(ho:PE X o to)(ha:PA X (e::es) t)
 (hbase:attributeBase o name X.env (eval o X.env)=eval o X.env:=by rfl)
 (hfew:((backTo cpos (starEach (e::es) X.env)).all (fun x=>!x.1) && (backToKw cpos (keywordEach [] X.env)).all (fun x=>x.1.isSome)
  && decide ((e::es).length+([]:List Keyword).length+(if ([]:List Keyword).isEmpty then 0 else 1) < 30))=true:=by rfl)
 (hline:(apos.endLine == cpos.line)=true:=by rfl) (hs:starEach (e::es) X.env=(false,eval e X.env)::starEach es X.env:=by rfl) (hplain:(backTo cpos (starEach es X.env)).any (·.1)=false:=by rfl) :
 PE X (.Call (.Attribute o name apos) (e::es) [] cpos) (tBM X.K T r to t):=by
 intro pins s σ H Q I h;refine wpAny_Call_method_late hbase hfew hline rfl (thn (ho pins s σ H _ I h) fun v s1 hZ=>?_)
 obtain⟨x,H1,I1,r1,ty,q1⟩:=hZ;obtain⟨h1,h2⟩:=Xgb I1 r1 ty;refine⟨T,id,pa,slot,hty,h1,h2,?_⟩
 have hA:=ha cpos pins s1 σ H1 _ I1 q1;rw[hs]at hA ⊢;refine Calls.callWith_builtin (by show(false || (backTo cpos (starEach es X.env)).any (·.1))=false;rw[hplain] <;> rfl) (Calls.evalArgs_plain ?_)
 exact thn hA fun us s2 ⟨vs,H2,I2,r2,q2⟩=>hm pins s2 σ H2 x vs v us Q I2 r1 r2 q2
end
def MtM(X:Cx)(id:String)(r:V->List V->Hp->VK->Prop):Prop :=
 ∀ (pins:YP_) (s:Shared) (σ:St) (H:Hp) (x:V) (xs:List V) (v:Value) (us:List Value) (Q:VK),Inv X pins σ H s->Qq x v->Qr xs us->r x xs H Q ->
  wpAny (model X.prog X.w) X.A (call (.builtin id) (v::us)) (EP X pins σ Q) X.xe s
theorem Qr.one:∀ {x:V} {us:List Value},Qr [x] us->∃ u,us=[u]/\Qq x u
 | _,_,.cons r .nil=>⟨_,rfl,r⟩
theorem Qr.zero:∀ {us:List Value},Qr [] us->us=[]
 | _,.nil=>rfl
theorem Qr.rep{xs:List V}{us:List Value}(h:Qr xs us):∀ k:Nat,Qr (List.replicate k xs).flatten (List.replicate k us).flatten
 | 0=>.nil
 | k+1=>by
  rw[replicate_succ,replicate_succ,flatten_cons,flatten_cons];exact Qr.append h (Qr.rep h k)
theorem YAa(its:List Value):∀ (k:Nat) (acc:List Value),
 List.foldl (fun x1 x2=>x1++x2) acc.toArray (List.replicate k its.toArray)=(acc++(List.replicate k its).flatten).toArray
 | 0,acc=>by simp
 | k+1,acc=>by
  have e:acc.toArray++its.toArray=(acc++its).toArray:=by simp
  have e2:(acc++its)++(List.replicate k its).flatten=acc++(List.replicate (k+1) its).flatten:=by
   rw[replicate_succ,flatten_cons,Vq]
  rw[<- e2,<- YAa its k (acc++its),<- e,replicate_succ,foldl_cons]
section
variable{X:Cx}{pins:YP_}{σ:St}{H:Hp}{s:Shared}{l b:Addr}{xs ys zs:List V}
theorem Inv.lset{its its':List Value}{n:Nat}{f:Array Value->Array Value}{t':Nat}(I:Inv X pins σ H s)(hH:H l=some (.lst xs))
 (e:s.heap.get? l=some { cls:=.type "list",data:=.seq its.toArray n }) (hf:f its.toArray=its'.toArray) (hv:Qr ys its') (hz:ys.length<=sizeLine) :
 Inv X pins σ (upd H l (.lst ys)) { s with heap:=s.heap.update l (Obj.mapSeq f),toks:=t' }:=by
 have q:=PySem.IsL.update e f;rw[hf]at q;refine I.write (x:=l) (e:=l) (by rw[hH];exact trivial) (.inl rfl) (fun b' u hb hu=>(Heap.get?_update_other s.heap (Obj.mapSeq f) (Ne.symm hb)).trans hu) ⟨_,q⟩ ?_
 exact⟨hz,its',_,hv,q⟩
theorem Inv.lnew{its:List Value}{t':Nat}(I:Inv X pins σ H s)(hv:Qr ys its)(hz:ys.length<=sizeLine) :
 Inv X pins σ (upd H s.heap.objs.size (.lst ys)) { s with heap:=s.heap.push { cls:=.type "list",data:=.seq its.toArray },toks:=t' } :=
 I.laid (fun _ _ q=>Vd _ q) (Ve _) ⟨hz,its,0,hv,Vi _ rfl⟩
theorem Inv.fresh(I:Inv X pins σ H s):H s.heap.objs.size=none:=I.hok.fresh (Ve _)
theorem Inv.lstM(I:Inv X pins σ H s)(hH:H l=some (.lst xs)):xs.length<=sizeLine/\∃ (its:List Value) (n:Nat),Qr xs its/\xs.length=its.length/\s.heap.get? l=some { cls:=.type "list",data:=.seq its.toArray n }:=by
 obtain⟨z,its,n,r,e⟩:=I.hok l _ hH;exact⟨z,its,n,r,r.length,e⟩
theorem X5a{n:Nat}(h:n<=sizeLine):Builtin.List.listTooLong n=false:=by
 unfold Builtin.List.listTooLong;exact decide_eq_false (by omega)
end
section
variable{X:Cx}
def Jrb:V->List V->Hp->VK->Prop:=fun x vs H Q=>∃ l xs y,x=.ref l/\vs=[y]/\H l=some (.lst xs)/\xs.length < sizeLine/\Q .non (upd H l (.lst (xs++[y])))
theorem Z1:MtM X "list.append" Jrb:=by
 intro pins s σ H x vs v us Q I rx rv h;obtain⟨l,xs,y,rfl,rfl,hH,hz,q⟩:=h;cases rx;obtain⟨u,rfl,ru⟩:=rv.one;obtain⟨z,its,n,r,hl,e⟩:=I.lstM hH;refine call_meets F.slot_list_append ⟨_,e,rfl⟩ F.entry_list_append (F.args_list_append_2 _ _) (PySem.list_append l its.toArray n u (by rw[Vn];omega)) ⟨e,?_⟩
 refine⟨.non,_,I.lset (its':=its++[u]) hH e (by simp) (r.append (.cons ru .nil)) ?_,rfl,q⟩
 rw[Vs,length_singleton]
 omega
def Jvc:V->List V->Hp->VK->Prop:=fun x vs H Q=>∃ l xs,x=.ref l/\vs=[]/\H l=some (.lst xs)/\Q .non (upd H l (.lst []))
theorem Z1a:MtM X "list.clear" Jvc:=by
 intro pins s σ H x vs v us Q I rx rv h;obtain⟨l,xs,rfl,rfl,hH,q⟩:=h;cases rx;have hus:=rv.zero;subst hus;obtain⟨z,its,n,r,hl,e⟩:=I.lstM hH;refine call_meets F.slot_list_clear ⟨_,e,rfl⟩ F.entry_list_clear (F.args_list_clear_1 _) (AutoSeq1.list_clear_list_0 l its.toArray n (by rw[Vn];omega)) ⟨e,?_⟩
 exact⟨.non,_,I.lset (its':=[]) (ys:=[]) hH e rfl .nil (Vk _),rfl,q⟩
def Yzc:R2:=fun x y H Q=>∃ l b xs zs,x=.ref l/\y=.ref b/\H l=some (.lst xs)/\H b=some (.lst zs)/\xs.length+zs.length<=sizeLine/\∀ p,H p=none->Q (.ref p) (upd H p (.lst (xs++zs)))
theorem Zlb:OpR X (binaryOp .Add) Yzc:=by
 intro pins s σ H x y v u Q I rx ry h;obtain⟨l,b,xs,zs,rfl,rfl,hH,hB,hz,q⟩:=h;cases rx;cases ry;obtain⟨z,its,n,r,hl,e⟩:=I.lstM hH;obtain⟨z2,its2,n2,r2,hl2,e2⟩:=I.lstM hB;refine PySem.P.add_list e e2 ?_ (by rw[Vn,Vn];omega)
 have ea:its.toArray++its2.toArray=(its++its2).toArray:=by simp
 rw[ea];exact⟨.ref _,_,I.lnew (t':=s.toks) (r.append r2) (by rw[Vs];omega),rfl,q _ I.fresh⟩
def Y3c:R2:=fun x y H Q=>∃ l k xs,x=.ref l/\y=.int k/\H l=some (.lst xs) /\ -(2 ^ 63)<=k/\k < 2 ^ 63/\xs.length * k.toNat<=sizeLine /\
 ∀ p,H p=none->Q (.ref p) (upd H p (.lst (List.replicate k.toNat xs).flatten))
theorem Q8c{α:Type}(xs:List α)(k:Nat):(List.replicate k xs).flatten.length=k * xs.length:=by
 induction k with
 | zero=>simp
 | succ k ih=>rw[replicate_succ,flatten_cons,Vs,ih,Nat.succ_mul,Nat.add_comm]
theorem Xhb:OpR X (binaryOp .Mult) Y3c:=by
 intro pins s σ H x y v u Q I rx ry h;obtain⟨l,k,xs,rfl,rfl,hH,h1,h2,hz,q⟩:=h;cases rx;obtain⟨t,rfl⟩:=ry;obtain⟨z,its,n,r,hl,e⟩:=I.lstM hH;have hlen:its.toArray.size * k.toNat<=sizeLine:=by rw[Vn,<- hl];exact hz
 have hcap:¬ its.toArray.size * k.toNat > (2 ^ 63 - 1) / 8:=by
  have:(sizeLine:Nat)<=(2 ^ 63 - 1) / 8:=by decide
  omega
 have hfit:¬ (!Builtin.List.listFitsIndex k)=true:=by
  rw[fitsIndex_both h1 h2];exact Vf
 have hlong:¬ Builtin.List.listTooLong (its.toArray.size * k.toNat)=true:=by
  rw[X5a hlen];exact Vf
 have hnew:List.foldl (fun x1 x2=>x1++x2) #[] (List.replicate (if its.toArray.isEmpty=true then 0 else k.toNat) its.toArray)=(List.replicate k.toNat its).flatten.toArray:=by
  have f0:∀ m:Nat,List.foldl (fun x1 x2=>x1++x2) #[] (List.replicate m its.toArray)=(List.replicate m its).flatten.toArray:=fun m=>by
   have:=YAa its m [];rw[nil_append]at this;exact this
  rw[f0];cases its with
  | nil=>simp
  | cons a r'=>rw[if_neg (by simp)]
 refine wpAny_binaryOp_repeat_ref (T:="list") (U:="int") (by decide) ⟨_,e,rfl⟩ (fun s'=>typeIs_int s' k t) noFill_list_mul F.fills_int_mul F.slot_int_rmul repeat_list F.slot_int_index.lookup
  (call_meets F.slot_int_rmul (typeIs_int s k t) F.entry_int_rmul (F.args_int_rmul_2 _ _) (int___rmul___int_list k t l its.toArray n)
   ⟨e,rfl,⟨_,e,rfl⟩,call_meets F.slot_list_mul ⟨_,e,rfl⟩ F.entry_list_mul (F.args_list_mul_2 _ _) (AutoListH.list___mul___list_int_3 l its.toArray n k t hfit hcap hlong) ⟨e,?_⟩⟩)
 rw[hnew];exact⟨.ref _,_,I.lnew (t':=s.toks) (r.rep k.toNat) (by rw[Q8c,Nat.mul_comm];exact hz),rfl,q _ I.fresh⟩
end
section
variable{prog:Program}{w:World}{A:Around}{E:YQ_}{s:Shared}
end
section
variable{X:Cx}
end
end L2
namespace Att
open PySem PySem.W PySem.Calls PyProof.Rows
theorem ZEa{P:Params}{h:Heap}:∀ (ns:List Int) (vs:List Value),WellAll P h vs (ns.map WData.int)->IntsAre vs ns:=by
 intro ns
 induction ns with
 | nil =>
  intro vs w;rw[map_nil]at w;cases w;exact .nil
 | cons n ns ih =>
  intro vs w;rw[map_cons]at w;cases w with
  | cons a b =>
   cases a;exact .cons _ _ (ih _ b)
theorem Yab{l:OpenLaw}{n:Nat}(hn:l.most=some n){P:Params}{h:Heap}{args:List WData}{vals:List Value}
 (hpre:l.row.toRowW.claim.pre args=true) (hwl:WellAll P h vals args) :
 ∃ a vs ns,vals=[Value.ref a]/\args=[WData.list (ns.map WData.int)]/\h.get? a=some { cls:=.type "list",data:=.seq vs.toArray }/\IntsAre vs ns/\ns.length<=n:=by
 have hsh:WShape.hasAll [] args [.list .int]=true:=(pre_splitW hpre).1;have hc:l.pre.holds [] { args:=args }=true:=(pre_splitW hpre).2;obtain⟨d,r,rfl,h1,h2⟩:=hasAllW_cons hsh;obtain rfl:=hasAllW_nil h2;obtain⟨xs,rfl,h3⟩:=hasW_list h1;obtain⟨ns,rfl⟩:=items_int h3;have hlen:ns.length<=n:=by
  unfold OpenLaw.pre at hc;have h4:(WTm.not (.lt (.lit (.int (n:Int))) (.len (.arg 0)))).holds [] { args:=[.list (ns.map .int)] }=true:=by
   have h4:=(holds_andW hc).1;rw[hn]at h4;exact h4
  have h5:=condW_of h4 (w_not (w_lt w_lit (w_len_list (w_arg rfl))));rw[Vr]at h5;refine Nat.le_of_not_lt fun q=>?_
  have q':(n:Int) < ((ns.length:Nat):Int):=by omega
  first
   | (rw[decide_eq_true q']at h5;exact absurd h5 (by decide))
   | (simp at h5;omega)
 cases hwl with
 | cons w1 w2 =>
  cases w2;cases w1 with
  | list ho hall=>exact⟨_,_,ns,rfl,rfl,ho,ZEa ns _ hall,hlen⟩
theorem Ybb(l:OpenLaw)(args:List WData):l.row.toRowW.claim.post args (.bool true) args=true :=
 postW_of (r:=l.row.toRowW) (X:=(true == true))
  (show WShape.has [] (.bool true) .bool=true by first | rfl | decide | simp[WShape.has,WShape.arms,WShape.armsAll])
  (show(WTm.eq .res (.lit (.bool true))).value [] { args:=args,res:=some (.bool true),after:=args }=some (.bool (true == true)) from w_eq_bool (w_res rfl) w_lit) rfl
section
variable{prog:Program}{w:World}{A:Around}{E:YQ_}{s:Shared}{K:Frag}
end
end Att
namespace L2
open PySem PySem.Spec PyProof.Rows
theorem YBa:∀ {vs:List Value} {ns:List Int},IntsAre vs ns->Qr (ns.map V.int) vs
 | _,_,.nil=>.nil
 | _,_,.cons n t h=>.cons ⟨t,rfl⟩ (YBa h)
def Jwc(H:Hp):Prop:=∀ b,H b=none\/∃ o xs,H b=some (.frz o (.lst xs))
theorem Xib{P:Program}{w:World}{K:W.Frag}{mg mb:Str->Option Value}{CX:CXT}{k:Nat}{fa a:Addr}{fd:FuncData}{x:Str}{sp:Sp}{s₁:Shared}{vs:List Value}{ns:List Int}
 (KX:K.In s₁.heap) (hns:s₁.heap.Ns mainGlobals mg) (hb:s₁.heap.Ns builtinsNs mb) (hbb:∀ x:Str,x≠"__name__"->mb x=bootBuiltins x) (hlim:s₁.heap.NoLimit) (hg:s₁.gens=#[])
 (ha:s₁.heap.get? a=some { cls:=.type "list",data:=.seq vs.toArray }) (hi:IntsAre vs ns) (hl:ns.length<=sizeLine) (hr:Zd k callerA)
 (F:∀ base:Heap,K.In base->base.Ns mainGlobals mg->QF P w K mg base CX k fa fd [x] sp) (hbind:∀ (s:Shared) (u:Value),BindsTo s fd ⟨[u],[]⟩ [(x,u)])
 (hsp:∀ H:Hp,Jwc H->SqL K H a (ns.map V.int)->sp [.ref a] H (fun v _=>v=.bl true) fun _ _ _=>False)
 (hCX:∀ H e s',CX [] H s₁ (fun _ _ _=>False) e s'->False) :
 codeAny (model P w) callerA (.call (.ref fa) ⟨[.ref a],[]⟩) (fun r s'=>r=.ok (.ret (.bool true))/\OldK s₁.heap s'.heap/\s'.os=s₁.os/\AllBare s'.gens) s₁:=by
 have rv:=YBa hi;have lenV:=hi.length;have core:∀ H:Hp,Jwc H->SqL K H a (ns.map V.int)->HOk P w H s₁.heap->(∀ b,H b≠none->b=a)->(H a≠none->K.lookup a=none) ->
  codeAny (model P w) callerA (.call (.ref fa) ⟨[.ref a],[]⟩) (fun r s'=>r=.ok (.ret (.bool true))/\OldK s₁.heap s'.heap/\s'.os=s₁.os/\AllBare s'.gens) s₁:=by
  intro H hO hS hok hA hK;have base_of:∀ {b:Addr} {o:Obj},s₁.heap.get? b=some o->H b=none->(Y1a s₁.heap H).get? b=some o:=fun e n=>YVb e n
  have noA:∀ {b:Addr} {o:Obj} {es:Array DictEntry} {ep:Nat},s₁.heap.get? b=some o->o.data=.dict es ep->H b=none:=fun {b o es ep} e d=>by
   cases q:H b with
   | none=>rfl
   | some u =>
    have e':b=a:=hA b (by rw[q];simp)
    subst e';rw[ha]at e;cases e;have d':Data.seq vs.toArray _=Data.dict es ep:=d;cases d'
  have nsK:∀ {b:Addr} {m:Str->Option Value},s₁.heap.Ns b m->(Y1a s₁.heap H).Ns b m:=fun {b m} ⟨o,es,ep,e,d,r⟩=>⟨o,es,ep,base_of e (noA e d),d,r⟩
  have hKb:K.In (Y1a s₁.heap H):=fun b o e=>base_of (KX b o e) (by
   cases q:H b with
   | none=>rfl
   | some u =>
    have e':b=a:=hA b (by rw[q];simp)
    subst e';rw[hK (by rw[q];simp)]at e;cases e)
  have hM:Mod K mg (Y1a s₁.heap H):=⟨hKb,nsK hns,⟨mb,nsK hb,hbb⟩,let ⟨mc,h1,h2⟩:=hlim;⟨mc,nsK h1,h2⟩⟩
  have e0:Zib P w K mg (Y1a s₁.heap H) callerA [] s₁ H:=⟨rfl,hM,fun b o e=>QGc e,Nat.le_of_eq (J3b _ _),trivial,fun b hb=>absurd (show b∈([]:List Addr) from hb) (by simp),hok,.of_eq hg⟩
  refine codeAny_mono ((F _ hKb (nsK hns)).run callerA [] s₁ H ⟨[.ref a],[]⟩ [.ref a] [.ref a] _ _ hr e0 (hbind s₁ (.ref a)) (.cons rfl .nil) (hsp H hO hS)) fun r s' h=>?_
  cases r with
  | error e=>exact(hCX H e s' h).elim
  | ok fl =>
   cases fl with
   | next=>exact False.elim h
   | brk=>exact False.elim h
   | cont=>exact False.elim h
   | ret u =>
    obtain⟨v,H',os,bare,un,hok',r',q⟩:=h;have q':v=.bl true:=q;subst q';obtain rfl:u=Value.bool true:=r';refine⟨rfl,OldK.of_keep fun b o e=>?_,os,bare⟩
    cases q:H b with
    | none=>exact un.keep b o e q (by intro z;exact absurd (show b∈([]:List Addr) from z) (by simp)) (by simp)
    | some u =>
     rcases hO b with z | ⟨ob,xs,z⟩
     ·rw[q]at z;cases z
     ·have z2:=un.frzs b ob _ z
      obtain⟨e1,_⟩:=hok b _ z;obtain⟨e2,_⟩:=hok' b _ z2;rw[e]at e1;cases e1;exact e2
 cases hk:K.lookup a with
 | some o =>
  have e:=KX a o hk;rw[ha]at e;cases e;refine core (fun _=>none) (fun _=>.inl rfl) (.inr ⟨_,vs.toArray,_,hk,rfl,rfl,rfl,by rw[Vn,lenV];exact hl,by simpa using rv⟩) (fun b u z=>by have z':(none:Option HO)=some u:=z;cases z') (fun b z=>absurd rfl z) fun z=>absurd rfl z
 | none =>
  refine core (fun b=>if b=a then some (.frz { cls:=.type "list",data:=.seq vs.toArray } (.lst (ns.map V.int))) else none) (fun b=>?_) (.inl (.inr ⟨{ cls:=.type "list",data:=.seq vs.toArray },if_pos rfl⟩)) (fun b u z=>?_) (fun b z=>?_) fun _=>hk
  ·by_cases hb:b=a
   ·exact .inr ⟨_,_,if_pos hb⟩
   ·exact .inl (if_neg hb)
  ·by_cases hb:b=a
   ·have z':=(if_pos hb).symm.trans z
    cases z';subst hb;exact⟨ha,by rw[Vr];exact hl,vs,_,rv,ha⟩
   ·have z':=(if_neg hb).symm.trans z
    cases z'
  ·by_cases hb:b=a
   ·exact hb
   ·exact absurd (if_neg hb) z
def QCa(s:Stmt):Arguments:=match s with
 | .FunctionDef _ a _ _ _ _ _ _ _ _=>a
 | _=>{ posonlyargs:=[],args:=[],vararg:=none,kwonlyargs:=[],kw_defaults:=[],kwarg:=none,defaults:=[] }
def YL(s:Stmt):List Stmt:=match s with
 | .FunctionDef _ _ b _ _ _ _ _ _ _=>b
 | _=>[]
def Qi(s:Stmt):Scope:=match s with
 | .FunctionDef _ _ _ _ _ _ sc _ _ _=>sc
 | _=>{ kind:=.function,names:=[],isGenerator:=false,isCoroutine:=false }
abbrev CX0:CXT:=fun _ _ _ _ _ _=>False
abbrev E0:XK:=fun _ _ _=>False
theorem Jsb{X:Cx}:Q2a CX0 X E0:=fun _ _ _ _ _ _ _ h=>h.elim
structure Fun(K:W.Frag)(x qual:Str)(st:Stmt)(f:Addr)(fd:FuncData):Prop where
 ex:∃ (oc:Value) (od:Option Addr) (kV doc pm:Value) (an:Option Addr) (cdv ct:Value) (osl:Array (Option Value)),
  fd=W.fnOf x qual (QCa st) (YL st) (Qi st) .none kV doc pm an cdv ct/\K.lookup f=some ⟨oc,od,.func fd,osl⟩/\W.codeIn K cdv qual=true
 kp:W.keepIn K (.ref f)=true
section
variable{P:Program}{w:World}{K:W.Frag}{mg:Str->Option Value}{base:Heap}
theorem Fun.ok{x qual:Str}{st:Stmt}{f:Addr}{fd:FuncData}{N ps:List Str}{k:Nat}{sp:Sp}(F:Fun K x qual st f fd)(S:Qn N ps (Qi st))(len:∀ vs H Q E,sp vs H Q E->vs.length=ps.length)
 (hbody:∀ (cdv:Value) (A:Around) (outer:List Env) (s:Shared) (H:Hp) (vs:List V) (Q:VK) (E:XK),Zd k (A.deeper (envOfC qual (Qi st) s.heap.objs.size f cdv))->sp vs H Q E ->
  ∃ t,PSs (QBa CX0 P w K mg base N qual (Qi st) f cdv A outer s H E).nox (YL st) t/\t { nx:=fun _ H'=>Q .non H',rt:=Q } (QAa N vs) H):QF P w K mg base CX0 (k+1) f fd ps sp:=by
 obtain⟨oc,od,kV,doc,pm,an,cdv,ct,osl,rfl,lk,hcd⟩:=F.ex;refine ZSc lk hcd S len fun A outer s H vs Q E hr hsp=>?_
 obtain⟨t,h,q⟩:=hbody cdv A outer s H vs Q E hr hsp;exact⟨t,h.nox,q⟩
theorem Fun.binds{x qual:Str}{st:Stmt}{f:Addr}{fd:FuncData}{ps:List Str}(F:Fun K x qual st f fd)
 (h:∀ (kV doc pm:Value) (an:Option Addr) (cdv ct:Value) (us:List Value),us.length=ps.length->bindArgs (W.fnOf x qual (QCa st) (YL st) (Qi st) .none kV doc pm an cdv ct) ⟨us,[]⟩=pure (ps.zip us)):ZQ K fd ps []:=by
 obtain⟨oc,od,kV,doc,pm,an,cdv,ct,osl,rfl,lk,hcd⟩:=F.ex;exact .all (h kV doc pm an cdv ct)
theorem Jxc{x qual:Str}{st:Stmt}{f:Addr}{oc:Value}{od an:Option Addr}{osl:Array (Option Value)}{kV doc pm cdv ct:Value}(l:K.lookup f=some ⟨oc,od,.func (W.fnOf x qual (QCa st) (YL st) (Qi st) .none kV doc pm an cdv ct),osl⟩)
 (c:W.codeIn K cdv qual=true) (k:W.keepIn K (.ref f)=true):Fun K x qual st f (W.fnOf x qual (QCa st) (YL st) (Qi st) .none kV doc pm an cdv ct):=⟨⟨oc,od,kV,doc,pm,an,cdv,ct,osl,rfl,l,c⟩,k⟩
end
theorem Qv{n:Nat}(h:n<=1000):n < sizeLine:=Nat.lt_of_le_of_lt h (by decide)
section
variable{X:Cx}
theorem pv(i:Nat){x:Str}{pos:Pos}(hN:X.N[i]?=some x:=by rfl)(hv:Vis X.env.scope x:=by first | exact Or.inl rfl | exact Or.inr (Or.inl rfl) | exact Or.inr (Or.inr rfl))(hd:(x == ("__debug__":Str))=false:=by decide)
 (hcd:(x == ("__classdict__":Str))=false:=by decide):PE X (.Name x pos) (YE i):=Jic hN hv hd hcd
end
theorem YAc{A B:Prop}(h:A):if true=true then A else B:=by
 rw[if_pos rfl];exact h
theorem YM{c A B:Prop}[Decidable c](h1:c->A)(h2:¬ c->B):if c then A else B:=by
 by_cases h:c
 ·rw[if_pos h]
  exact h1 h
 ·rw[if_neg h]
  exact h2 h
def Qk(H H':Hp):Prop:=∀ b o,H b=some o->H' b=some o
theorem Qk.refl(H:Hp):Qk H H:=fun _ _ h=>h
theorem Qk.trans{H H1 H2:Hp}(a:Qk H H1)(b:Qk H1 H2):Qk H H2:=fun c o h=>b c o (a c o h)
theorem Qk.seq{K:W.Frag}{H H':Hp}{a:Addr}{xs:List V}(e:Qk H H')(h:SqL K H a xs):SqL K H' a xs:=by
 rcases h with (h | ⟨o,h⟩) | h
 ·exact .inl (.inl (e _ _ h))
 ·exact .inl (.inr ⟨o,e _ _ h⟩)
 ·exact .inr h
section
variable(P:Program)(w:World)
end
section
variable{P:Program}{w:World}{H H':Hp}{h h':Heap}{a:Addr}{o:HO}
end
section
variable{P:Program}{w:World}{H:Hp}{h h':Heap}{x e:Addr}{o':HO}
end
section
variable{fs fs' ex ex':List Addr}{H H1 H2:Hp}{h h1 h2 h':Heap}{a x e:Addr}{o:HO}
end
section
variable{X:Cx}{pins:YP_}{σ:List (Option V)}{H H':Hp}{s:Shared}{h':Heap}
end
section
variable{X:Cx}
variable{a b:Expr}{ta tb:TE}{pos:Pos}
variable{tA tB':TT}{rest:List Expr}
end
section
variable{X:Cx}{pins:YP_}{σ:St}{H:Hp}{s:Shared}{a:Addr}{xs ys:List V}
end
section
variable{X:Cx}{pins:YP_}{σ:St}{H:Hp}{s:Shared}{E:YQ_}
end
section
variable{X:Cx}{st:Stmt}{rest:List Stmt}{t u:TS}{e:Expr}{te:TE}{pos:Pos}
end
section
variable{X:Cx}{pos:Pos}
end
section
variable{X:Cx}{pos:Pos}
end
section
variable{X:Cx}{tg:Expr}
end
section
variable{X:Cx}{a b c:Expr}{ta tb tc:TE}{pos:Pos}
end
section
variable{X:Cx}{a b c:Expr}{ta tb tc:TE}{pos:Pos}
end
section
variable{prog:Program}{w:World}{A:Around}{E:YQ_}{s:Shared}{K:W.Frag}{x dx C f:Addr}{mA:Str->Option Value}{name:Str}{v:Value}
end
section
variable{P:Program}{w:World}{H H':Hp}{h h':Heap}{a C dx:Addr}{fs fs':List (Str×V)}
end
section
variable{X:Cx}{pins:YP_}{σ:St}{H:Hp}{s:Shared}{a C dx:Addr}{fs:List (Str×V)}{f:Str}{v:V}{A:Around}{E:YQ_}
end
section
variable{X:Cx}{o e value:Expr}{f:Str}{pos pos' tpos:Pos}{ta tv:TE}
end
section
variable{X:Cx}{pins:YP_}{σ:St}{H:Hp}{s:Shared}{A:Around}{E:YQ_}{Q:YQ_}{c:Value}{b:Bool}
end
section
variable{X:Cx}{e:Expr}{es:List Expr}{te:TE}{t:TA}{pos:Pos}
end
section
variable{X:Cx}{pins:YP_}{σ:St}{H:Hp}{s s':Shared}
end
section
variable{X:Cx}{CX:CXT}{k:Nat}{f C:Addr}{fd:FuncData}{ps:List Str}{sp:Sp}{dvs:List V}{ds:List Value}{E:XK}{x m:Str}{p pos apos:Pos}{e o:Expr}{es:List Expr}{ta:TE}{t:TA}
end
section
variable{X:Cx}{CX:CXT}{k:Nat}{f C:Addr}{fd:FuncData}{ps ks:List Str}{sp:Sp}{E:XK}{x m:Str}{p pos apos kpos:Pos}{e o:Expr}{es:List Expr}{kws:List Keyword}{te ta:TE}{t tk:TA}{nm:Option Str}
variable{g:List Value->List Value->List Value}{gV:List V->List V->List V}
end
section
variable{X:Cx}{x:Str}{p pos:Pos}{e:Expr}{es:List Expr}{t:TA}{id T:String}{r:List V->Hp->VK->Prop}
end
section
variable{κ:Type}[DecidableEq κ]
def JT(kvs:List (κ×V))(k:κ):Option V:=(kvs.find? fun kv=>decide (kv.1=k)).map (·.2)
def Yr(kvs:List (κ×V))(k:κ)(v:V):List (κ×V) :=
 if (kvs.any fun kv=>decide (kv.1=k))=true then kvs.map (fun kv=>if kv.1=k then (kv.1,v) else kv) else kvs++[(k,v)]
def QDa(kvs:List (κ×V))(k:κ):List (κ×V):=kvs.filter fun kv=>decide (kv.1≠k)
theorem Z2a{p:κ×V}{r:List (κ×V)}{k:κ}(e:p.1=k):JT (p::r) k=some p.2:=by simp[JT,find?_cons,e]
theorem Z3a{p:κ×V}{r:List (κ×V)}{k:κ}(e:¬ p.1=k):JT (p::r) k=JT r k:=by simp[JT,find?_cons,e]
theorem Z4a(k:κ):∀ kvs:List (κ×V),(kvs.any fun kv=>decide (kv.1=k))=(JT kvs k).isSome
 | []=>rfl
 | p::r=>by
  rw[any_cons]
  by_cases e:p.1=k
  ·simp only[Z2a e,decide_eq_true e,Bool.true_or,Option.isSome_some]
  ·rw[Z3a e,decide_eq_false e,Bool.false_or];exact Z4a k r
theorem JZ(kvs:List (κ×V))(k:κ)(v:V):(Yr kvs k v).length<=kvs.length+1:=by
 unfold Yr
 split
 ·rw[Vr];omega
 ·rw[Vs,length_cons,length_nil];omega
theorem Xjb{kvs:List (κ×V)}{k:κ}(v:V)(h:JT kvs k=none):Yr kvs k v=kvs++[(k,v)]:=by
 unfold Yr;rw[Z4a,h];exact if_neg (by decide)
theorem JS.isSome_eq{o:Option V}{u:Option Value}(r:JS o u):o.isSome=u.isSome:=by
 cases o with
 | none=>cases u with
  | none=>rfl
  | some _=>exact(show False from r).elim
 | some _=>cases u with
  | none=>exact(show False from r).elim
  | some _=>rfl
theorem KV.val{kvs:List (κ×V)}{vs:List (κ×Value)}(r:KV kvs vs)(k:κ):JS (JT kvs k) (valueAt vs k):=by
 unfold KV at r
 induction r with
 | nil=>exact True.intro
 | @cons p q ps qs h t ih =>
  obtain⟨h1,h2⟩:=h
  by_cases e:p.1=k
  ·have e':q.1=k:=h1.symm.trans e
   have b:valueAt (q::qs) k=some q.2:=by simp[valueAt,find?_cons,e']
   rw[Z2a e,b];exact h2
  ·have e':¬ q.1=k:=fun z=>e (h1.trans z)
   have b:valueAt (q::qs) k=valueAt qs k:=by simp[valueAt,find?_cons,e']
   rw[Z3a e,b];exact ih
theorem KV.any{kvs:List (κ×V)}{vs:List (κ×Value)}(r:KV kvs vs)(k:κ):(kvs.any fun kv=>decide (kv.1=k))=vs.any fun kv=>decide (kv.1=k):=by
 unfold KV at r
 induction r with
 | nil=>rfl
 | cons h t ih=>rw[any_cons,any_cons,ih,h.1]
theorem KV.repl{kvs:List (κ×V)}{vs:List (κ×Value)}(r:KV kvs vs)(k:κ){y:V}{u:Value}(ry:Qq y u) :
 KV (kvs.map fun kv=>if kv.1=k then (kv.1,y) else kv) (vs.map fun kv=>if kv.1=k then (kv.1,u) else kv):=by
 unfold KV at r ⊢
 induction r with
 | nil=>exact .nil
 | @cons p q ps qs h t ih =>
  rw[map_cons,map_cons];refine .cons ?_ ih
  obtain⟨h1,h2⟩:=h
  by_cases e:p.1=k
  ·rw[if_pos e,if_pos (h1.symm.trans e)];exact⟨h1,ry⟩
  ·rw[if_neg e,if_neg (fun z=>e (h1.trans z))];exact⟨h1,h2⟩
theorem KV.put{kvs:List (κ×V)}{vs:List (κ×Value)}(r:KV kvs vs)(k:κ){y:V}{u:Value}(ry:Qq y u):KV (Yr kvs k y) (stored vs k u):=by
 unfold Yr stored;rw[r.any k]
 by_cases e:(vs.any fun kv=>decide (kv.1=k))=true
 ·rw[if_pos e,if_pos e];exact r.repl k ry
 ·rw[if_neg e,if_neg e];exact Paired.snoc r ⟨rfl,ry⟩
theorem KV.drop{kvs:List (κ×V)}{vs:List (κ×Value)}(r:KV kvs vs)(k:κ):KV (QDa kvs k) (without vs k):=by
 unfold KV at r ⊢;unfold QDa without
 induction r with
 | nil=>exact .nil
 | @cons p q ps qs h t ih =>
  obtain⟨h1,h2⟩:=h;rw[filter_cons,filter_cons]
  by_cases e:p.1=k
  ·have a:¬ decide (p.1≠k)=true:=by simp[e]
   have b:¬ decide (q.1≠k)=true:=by simp[h1.symm.trans e]
   rw[if_neg a,if_neg b];exact ih
  ·have e':¬ q.1=k:=fun z=>e (h1.trans z)
   have a:decide (p.1≠k)=true:=by simp[e]
   have b:decide (q.1≠k)=true:=by simp[e']
   rw[if_pos a,if_pos b];exact .cons ⟨h1,h2⟩ ih
theorem KV.length{kvs:List (κ×V)}{vs:List (κ×Value)}(r:KV kvs vs):kvs.length=vs.length:=Paired.length r
theorem Xkb(kvs:List (κ×V))(k:κ):(QDa kvs k).length<=kvs.length:=length_filter_le _ _
end
theorem X6a{P:Program}{w:World}{k:Key}{u:Value}(r:Qq (kV k) u):(QL P w).is k u=true:=by
 cases k with
 | inl i=>obtain⟨t,e⟩:=(show ∃ t,u=Value.int i t from r);subst e;exact XSa P w i t
 | inr x=>obtain⟨t,e⟩:=(show ∃ t,u=Value.str x t from r);subst e;exact XTa P w x t
theorem YCa{P:Program}{w:World}:∀ {ks:List Key} {us:List Value},Qr (ks.map kV) us->ItemsAre (QL P w) ks us
 | [],_,r=>by rw[map_nil]at r;cases r;exact .nil
 | k::ks,_,r=>by
  rw[map_cons]at r;cases r with
  | cons h t=>exact .cons (X6a h) (YCa t)
abbrev KT(H:Hp):List (List Key×V)->List (List Key×Addr×Value)->Prop:=Paired fun p q=>p.1=q.1/\H q.2.1=some (.tup (p.1.map kV))/\Qq p.2 q.2.2
theorem KT.val{H:Hp}{kvs:List (List Key×V)}{xs:List (List Key×Addr×Value)}(r:KT H kvs xs)(k:List Key):JS (JT kvs k) ((atKey xs k).map (·.2)):=by
 induction r with
 | nil=>exact True.intro
 | @cons p q ps qs h t ih =>
  obtain⟨h1,_,h2⟩:=h
  by_cases e:p.1=k
  ·have e':q.1=k:=h1.symm.trans e
   have b:atKey (q::qs) k=some q.2:=by simp[atKey,find?_cons,e']
   rw[Z2a e,b];exact h2
  ·have e':¬ q.1=k:=fun z=>e (h1.trans z)
   have b:atKey (q::qs) k=atKey qs k:=by simp[atKey,find?_cons,e']
   rw[Z3a e,b];exact ih
theorem KT.repl{H:Hp}{kvs:List (List Key×V)}{xs:List (List Key×Addr×Value)}(r:KT H kvs xs)(k:List Key){y:V}{u:Value}(ry:Qq y u) :
 KT H (kvs.map fun kv=>if kv.1=k then (kv.1,y) else kv) (xs.map (putAt k u)):=by
 induction r with
 | nil=>exact .nil
 | @cons p q ps qs h t ih =>
  rw[map_cons,map_cons];refine .cons ?_ ih
  obtain⟨h1,h2,h3⟩:=h;unfold putAt
  by_cases e:p.1=k
  ·rw[if_pos e,if_pos (h1.symm.trans e)];exact⟨h1,h2,ry⟩
  ·rw[if_neg e,if_neg (fun z=>e (h1.trans z))];exact⟨h1,h2,h3⟩
theorem KT.put{H:Hp}{kvs:List (List Key×V)}{xs:List (List Key×Addr×Value)}(r:KT H kvs xs)(k:List Key){b:Addr}{y:V}{u:Value}(hb:H b=some (.tup (k.map kV)))(ry:Qq y u) :
 KT H (Yr kvs k y) (storedH xs k b u):=by
 have e:(kvs.any fun kv=>decide (kv.1=k))=(atKey xs k).isSome:=by
  rw[Z4a,(r.val k).isSome_eq,Option.isSome_map]
 unfold Yr storedH;rw[e]
 by_cases q:(atKey xs k).isSome=true
 ·rw[if_pos q,if_pos q];exact r.repl k ry
 ·rw[if_neg q,if_neg q];exact Paired.snoc r ⟨rfl,hb,ry⟩
theorem KT.keeps{H H':Hp}{kvs:List (List Key×V)}{xs:List (List Key×Addr×Value)}(r:KT H kvs xs)(ht:∀ b ys,H b=some (.tup ys)->H' b=some (.tup ys)):KT H' kvs xs :=
 Paired.mapP r fun _ _ z=>⟨z.1,ht _ _ z.2.1,z.2.2⟩
section
variable{P:Program}{w:World}{H:Hp}{h:Heap}{a:Addr}
theorem ZUc{u:HO}(ok:HOk P w H h)(e:Rd H a u):QA P w H h a u:=e.ok ok
theorem X7a{kvs:List (Key×V)}(ok:HOk P w H h)(e:Rd H a (.dK kvs)):kvs.length<=sizeLine/\(a == sysModules)=false/\∃ vs,KV kvs vs/\h.DictOf (QL P w) a vs :=
 show QA P w H h a (.dK kvs) from ZUc ok e
theorem ZVc{kvs:List (Key×V)}(ok:HOk P w H h)(e:H a=some (.dK kvs)):kvs.length<=sizeLine/\(a == sysModules)=false/\∃ vs,KV kvs vs/\h.DictOf (QL P w) a vs:=X7a ok (.inl e)
theorem Q3a{ks:List Key}(ok:HOk P w H h)(e:H a=some (.tup (ks.map kV))):(tupleKind (QL P w)).is h ks a:=by
 obtain⟨_,its,r,o,h1,h2,n,h3⟩:=(show QA P w H h a (.tup (ks.map kV)) from ok a _ e)
 exact⟨o,its.toArray,n,h1,h2,h3,by simpa using YCa r⟩
theorem X8a{kvs:List (List Key×V)}(ok:HOk P w H h)(e:Rd H a (.dT kvs)):kvs.length<=sizeLine/\(a == sysModules)=false /\
 ∃ xs,KT H kvs xs/\h.DictOfH (tupleKind (QL P w)) a xs:=by
 obtain⟨z,y,xs,r,o,es,ep,h1,h2,h3,h4,h5⟩:=(show QA P w H h a (.dT kvs) from ZUc ok e)
 refine⟨z,y,xs,r,o,es,ep,h1,h2,h3,h4,fun x hx=>?_,h5⟩
 have all:∀ {l:List (List Key×V)} {m:List (List Key×Addr×Value)},KT H l m->∀ x∈m,(tupleKind (QL P w)).is h x.1 x.2.1:=by
  intro l m q
  induction q with
  | nil=>intro x hx;exact nomatch hx
  | @cons p q ps qs hq t ih =>
   intro x hx
   rcases mem_cons.mp hx with e | hx
   ·subst e
    exact Q3a ok (by rw[<- hq.1];exact hq.2.1)
   ·exact ih x hx
 exact all r x hx
theorem YBc{kvs:List (List Key×V)}(ok:HOk P w H h)(e:H a=some (.dT kvs)):kvs.length<=sizeLine/\(a == sysModules)=false /\
 ∃ xs,KT H kvs xs/\h.DictOfH (tupleKind (QL P w)) a xs:=X8a ok (.inl e)
end
def JWa(H:Hp)(a:Addr)(y:V)(r:Option V):Prop :=
 (∃ kvs k,Rd H a (.dK kvs)/\y=kV k/\r=JT kvs k)\/∃ kvs k b,Rd H a (.dT kvs)/\y=.ref b/\H b=some (.tup (k.map kV))/\r=JT kvs k
def Zmb(H:Hp)(a:Addr)(y v:V)(H':Hp):Prop :=
 (∃ kvs k,H a=some (.dK kvs)/\y=kV k/\kvs.length < sizeLine/\H'=upd H a (.dK (Yr kvs k v))) \/
 ∃ kvs k b,H a=some (.dT kvs)/\y=.ref b/\H b=some (.tup (k.map kV))/\kvs.length < sizeLine/\H'=upd H a (.dT (Yr kvs k v))
theorem JWa.k{H:Hp}{a:Addr}{kvs:List (Key×V)}{k:Key}(e:H a=some (.dK kvs)):JWa H a (kV k) (JT kvs k):=.inl ⟨kvs,k,.inl e,rfl,rfl⟩
theorem Zmb.k{H:Hp}{a:Addr}{kvs:List (Key×V)}{k:Key}{v:V}(e:H a=some (.dK kvs))(hl:kvs.length < sizeLine):Zmb H a (kV k) v (upd H a (.dK (Yr kvs k v))):=.inl ⟨kvs,k,e,rfl,hl,rfl⟩
section
variable{X:Cx}{pins:YP_}{σ:St}{H:Hp}{s:Shared}{a:Addr}{y v:V}{u r:Value}{o:Option V}{A:Around}{E:YQ_}
theorem Inv.big(I:Inv X pins σ H s):sysModules < s.heap.objs.size:=by
 have h:mainGlobals < s.heap.objs.size:=(I.mod.glob.keeps I.bk).lt;exact Nat.lt_trans (by decide) h
theorem Ycb{Q:YQ_}(hu:A.units+1 < cLine)(I:Inv X pins σ H s)(g:JWa H a y (some v))(ry:Qq y u)(h:∀ w' s',Inv X pins σ H s'->Qq v w'->Q w' s') :
 wpAny (model X.prog X.w) A (getItem (.ref a) u) Q E s:=by
 rcases g with ⟨kvs,k,e,ey,l⟩ | ⟨kvs,k,b,e,ey,eb,l⟩
 ·subst ey
  obtain⟨z,hd,vs,rel,dd⟩:=X7a I.hok e;obtain⟨w',hw,rw'⟩:=JS.some_of (v:=v) (o:=valueAt vs k) (by rw[l];exact rel.val k)
  exact wpAny_getItem_of (X6a ry) dd.mapOf hw (h w' _ (I.tok _) rw')
 ·subst ey
  cases (show u=Value.ref b from ry)
  obtain⟨z,hd,xs,rel,dd⟩:=X8a I.hok e;obtain⟨w',hw,rw'⟩:=JS.some_of (v:=v) (o:=(atKey xs k).map (·.2)) (by rw[l];exact rel.val k)
  obtain⟨p,hp,hp2⟩:=Option.map_eq_some_iff.mp hw;refine wpAny_getItem_heap (tupleKind_room_in1 hu) (Q3a I.hok eb) dd hp ?_
  rw[hp2];exact h w' _ (I.tok _) rw'
theorem Q9c{Q:YQ_}(hu:A.units+1 < cLine)(I:Inv X pins σ H s)(g:JWa H a y o)(ry:Qq y u)(h:∀ s',Inv X pins σ H s'->Q (.bool (!o.isSome)) s') :
 wpAny (model X.prog X.w) A (compareOp .NotIn u (.ref a)) Q E s:=by
 rcases g with ⟨kvs,k,e,ey,l⟩ | ⟨kvs,k,b,e,ey,eb,l⟩
 ·subst ey
  obtain⟨z,hd,vs,rel,dd⟩:=X7a I.hok e;refine wpAny_notIn_of (X6a ry) hd dd.mapOf ?_
  rw[<- (rel.val k).isSome_eq,<- l];exact h _ (I.tok _)
 ·subst ey
  cases (show u=Value.ref b from ry)
  obtain⟨z,hd,xs,rel,dd⟩:=X8a I.hok e;refine wpAny_notIn_heap (tupleKind_room_in1 hu) (Q3a I.hok eb) hd dd ?_
  have q:=(rel.val k).isSome_eq;rw[Option.isSome_map]at q;rw[<- q,<- l];exact h _ (I.tok _)
theorem QEa{h':Heap}{t':Nat}{ob:HO}(I:Inv X pins σ H s)(mu:Mut (H a))(hs:Heap.SameBut a s.heap h')(he:∃ q,h'.get? a=some q)(new:QA X.prog X.w (upd H a ob) h' a ob) :
 Inv X pins σ (upd H a ob) { s with heap:=h',toks:=t' } :=
 I.write (x:=a) (e:=a) mu (.inl rfl) (fun b q hb z=>(hs.2 b hb).trans z) he new
theorem Xlb{P:Program}{w:World}{H':Hp}{h':Heap}{kvs:List (Key×V)}{vs:List (Key×Value)}(z:kvs.length<=sizeLine)(hd:(a == sysModules)=false)(rel:KV kvs vs)(dd:h'.DictOf (QL P w) a vs) :
 QA P w H' h' a (.dK kvs):=⟨z,hd,vs,rel,dd⟩
theorem Ydb{H':Hp}{Q:Unit->Shared->Prop}(hu:A.units+1 < cLine)(I:Inv X pins σ H s)(g:Zmb H a y v H')(ry:Qq y u)(rv:Qq v r)(h:∀ s',Inv X pins σ H' s'->Q () s') :
 wpAny (model X.prog X.w) A (setItem (.ref a) u r) Q E s:=by
 rcases g with ⟨kvs,k,e,ey,l,eH⟩ | ⟨kvs,k,b,e,ey,eb,l,eH⟩
 ·subst ey eH
  obtain⟨z,hd,vs,rel,dd⟩:=ZVc I.hok e;have hz:vs.length<=sizeLine:=by rw[<- rel.length];exact z
  have hl:(Yr kvs k v).length<=sizeLine:=by have:=JZ kvs k v;omega
  refine wpAny_setItem_pairs (hsz:=hz) (X6a ry) dd fun h' dd' hs=>h _ ?_
  have he:∃ q,h'.get? a=some q:=let ⟨q,_,_,hq,_⟩:=dd';⟨q,hq⟩
  exact QEa I (by rw[e];exact True.intro) hs he (Xlb hl hd (rel.put k rv) dd')
 ·subst ey eH
  cases (show u=Value.ref b from ry)
  obtain⟨z,hd,xs,rel,dd⟩:=YBc I.hok e;have hz:xs.length<=sizeLine:=by rw[<- Paired.length rel];exact z
  have hl:(Yr kvs k v).length<=sizeLine:=by have:=JZ kvs k v;omega
  refine wpAny_setItem_heap (hsz:=hz) (tupleKind_room_in1 hu) (Q3a I.hok eb) dd fun h' dd' hs=>h _ ?_
  obtain⟨q,es,ep,hq,h2,h3,h4,_,h5⟩:=dd';refine QEa I (by rw[e];exact True.intro) hs ⟨q,hq⟩ ⟨hl,hd,_,(rel.put k eb rv).keeps fun c ys ec=>?_,q,es,ep,hq,h2,h3,h4,h5⟩
  rw[Qe (Jo ec e (fun z=>nomatch z))]
  exact ec
end
section
variable{X:Cx}{pins:YP_}{σ:St}{H:Hp}{s:Shared}{a:Addr}{kvs:List (Key×V)}{k:Key}{u:Value}{A:Around}{E:YQ_}
theorem YCc{v:V}{more:List Value}{Q:YQ_}(I:Inv X pins σ H s)(e:H a=some (.dK kvs))(ry:Qq (kV k) u)(l:JT kvs k=some v)(hm:more=[]\/∃ x,more=[x])
 (h:∀ w' s',Inv X pins σ (upd H a (.dK (QDa kvs k))) s'->Qq v w'->Q w' s'):wpAny (model X.prog X.w) A (call (.builtin "dict.pop") (.ref a::u::more)) Q E s:=by
 obtain⟨z,hd,vs,rel,dd⟩:=ZVc I.hok e;obtain⟨w',hw,rw'⟩:=JS.some_of (v:=v) (o:=valueAt vs k) (by rw[<- l];exact rel.val k)
 have hp:(keyPart u).isSome=true:=by
  cases k with
  | inl i=>obtain⟨t,q⟩:=(show ∃ t,u=Value.int i t from ry);subst q;rfl
  | inr x=>obtain⟨t,q⟩:=(show ∃ t,u=Value.str x t from ry);subst q;rfl
 have ha:argsOk "dict.pop" ⟨.ref a::u::more,[]⟩:=by
  rcases hm with q | ⟨x,q⟩
  ·subst q;exact F.args_dict_pop_2 _ _
  ·subst q;exact F.args_dict_pop_3 _ _ _
 refine call_meetsIn F.slot_dict_pop dd.typeIs F.entry_dict_pop ha (meets_dict_pop_there (QL X.prog X.w) a (X6a ry) more hm hp)
  ⟨vs,w',dd,by rw[<- rel.length];exact z,hw,fun h' dd' hs=>h w' _ ?_ rw'⟩
 have he:∃ q,h'.get? a=some q:=let ⟨q,_,_,hq,_⟩:=dd';⟨q,hq⟩
 exact QEa I (by rw[e];exact True.intro) hs he (Xlb (Vj (Xkb kvs k) z) hd (rel.drop k) dd')
end
def Jyc(i:Expr):Prop:=∀ ov iv,subscripted i false ov iv=operate [ov,iv] (getItem ov iv)
theorem Jtb{prog:Program}{w:World}{A:Around}{E:YQ_}{s:Shared}{env:Env}{value slice:Expr}{pos:Pos}{T id:String}{Q:YQ_}
 (hl:typeLookup (.type T) "__getitem__"=pure (some (.builtin id))) (hs:Jyc slice)
 (h:wpAny (model prog w) A (eval value env) (fun o s₁=>wpAny (model prog w) A (eval slice env) (fun i s₂=>s₂.TypeIs o T/\wpAny (model prog w) A (getItem o i) Q E s₂) E s₁) E s) :
 wpAny (model prog w) A (eval (.Subscript value slice pos) env) Q E s:=by
 refine Subscript_ (wpAny_mono h (fun o s₁ h₁=>wpAny_mono h₁ (fun i s₂ h₂=>?_) fun _ _ x=>x) fun _ _ x=>x)
 obtain⟨hT,h₂⟩:=h₂;unfold subscriptTail;refine Va ?_
 rw[getitemInPython_of_ne hT.not_modules];refine Va (wpAny_specialOf hT hl ?_)
 have fin:wpAny (model prog w) A (subscripted slice false o i) (fun r s₃=>wpAny (model prog w) A (letTemporaryGo value o r >>= fun _=>pure r) Q E s₃) E s₂:=by
  rw[hs o i];exact wpAny_operating (wpAny_mono h₂ (fun r s₃ h₃=>Va (wpAny_letTemporaryGo (Vg h₃))) fun _ _ x=>x)
 first
  | exact Vg (Va fin)
  | exact Va (Vg (Va fin))
  | exact Va fin
theorem X9a{X:Cx}{pins:YP_}{σ:St}{H:Hp}{s:Shared}{a:Addr}{y:V}{o:Option V}(I:Inv X pins σ H s)(g:JWa H a y o):s.TypeIs (.ref a) "dict":=by
 rcases g with ⟨kvs,k,e,_,_⟩ | ⟨kvs,k,b,e,_,_,_⟩
 ·obtain⟨_,_,vs,_,dd⟩:=X7a I.hok e
  exact dd.typeIs
 ·obtain⟨_,_,xs,_,dd⟩:=X8a I.hok e
  exact dd.typeIs
def ZWc(td ty:TE):TE:=fun σ H Q=>td σ H fun x H1=>ty σ H1 fun y H2=>∃ a v,x=.ref a/\JWa H2 a y (some v)/\Q v H2
def Jub(ty td:TE):TE:=fun σ H Q=>ty σ H fun y H1=>td σ H1 fun x H2=>∃ a o,x=.ref a/\JWa H2 a y o/\Q (.bl (!o.isSome)) H2
def ZXc(td ty tv:TE):TS:=fun D σ H=>tv σ H fun v H1=>td σ H1 fun x H2=>ty σ H2 fun y H3=>∃ a H4,x=.ref a/\Zmb H3 a y v H4/\D.nx σ H4
section
variable{X:Cx}{o i e value:Expr}{pos pos' tpos:Pos}{td ty tv:TE}
theorem Jvb(hu:X.A.units+1 < cLine)(ho:PE X o td)(hi:PE X i ty)(hs:Jyc i):PE X (.Subscript o i pos) (ZWc td ty):=by
 intro pins s σ H Q I h;refine Jtb F.slot_dict_getitem.lookup hs (thn (ho pins s σ H _ I h) fun u s1 ⟨x,H1,I1,rx,q1⟩=>thn (hi pins s1 σ H1 _ I1 q1) fun iv s2 hZ=>?_)
 obtain⟨y,H2,I2,ry,a,v,ex,g,q2⟩:=hZ;subst ex;obtain rfl:u=Value.ref a:=rx;exact⟨X9a I2 g,Ycb hu I2 g ry fun w' s3 I3 rw'=>⟨v,H2,I3,rw',q2⟩⟩
theorem Yeb(hu:X.A.units+1 < cLine)(hi:PE X i ty)(ho:PE X o td):PC X .NotIn i o (Jub ty td):=by
 intro pins s σ H Q I h;refine thn (hi pins s σ H _ I h) fun iv s1 ⟨y,H1,I1,ry,q1⟩=>thn (ho pins s1 σ H1 _ I1 q1) fun u s2 hZ=>?_
 obtain⟨x,H2,I2,rx,a,ov,ex,g,q2⟩:=hZ;subst ex;obtain rfl:u=Value.ref a:=rx;exact Q9c hu I2 g ry fun s3 I3=>⟨.bl (!ov.isSome),H2,I3,rfl,q2⟩
theorem Xba(hu:X.A.units+1 < cLine)(ho:PE X o td)(hi:PE X i ty)(hv:PE X value tv)(hs:swapsWith value (some (.Subscript o i pos')) pos.line X.env=pure false) :
 PS X (.Assign [.Subscript o i pos'] value pos) (ZXc td ty tv):=by
 intro pins s σ H D I h;refine wpAny_Assign_Subscript (thn (hv pins s σ H _ I h) fun r s1 ⟨v,H1,I1,rv,q1⟩=>thn (ho pins s1 σ H1 _ I1 q1) fun u s2 ⟨x,H2,I2,rx,q2⟩=>thn (hi pins s2 σ H2 _ I2 q2) fun iv s3 hZ=>?_) hs
 obtain⟨y,H3,I3,ry,a,H4,ex,g,q3⟩:=hZ;subst ex;obtain rfl:u=Value.ref a:=rx;exact Ydb hu I3 g ry rv fun s4 I4=>⟨σ,H4,I4,q3⟩
end
theorem Xmb{P:Program}{w:World}{H:Hp}(h:Heap)(hb:sysModules < h.objs.size):QA P w H (h.push { cls:=.type "dict",data:=.dict #[] }) h.objs.size (.dK []) :=
 ⟨Vk _,beq_eq_false_iff_ne.mpr (Ne.symm (Nat.ne_of_lt hb)),[],.nil,Heap.DictOf.new h⟩
def Xnb:TE:=fun _ H Q=>∀ p,H p=none->Q (.ref p) (upd H p (.dK []))
section
variable{X:Cx}{pos:Pos}
theorem Qab:PE X (.Dict [] [] pos) Xnb:=fun pins s σ H Q I h =>
 wpAny_Dict_empty ⟨.ref s.heap.objs.size,_,I.laid (a:=s.heap.objs.size) (o:=.dK []) (t':=s.toks) (fun _ _ q=>Vd _ q) (Ve _) (Xmb s.heap I.big),rfl,h _ (I.hok.fresh (Ve _))⟩
end
def Y4c(kvs more:List (Key×V)):List (Key×V):=more.foldl (fun acc kv=>Yr acc kv.1 kv.2) kvs
structure M1(X:Cx)(o:Expr)(m:Str)(apos:Pos)(e:Expr)(cpos:Pos):Prop where
 base:attributeBase o m X.env (eval o X.env)=eval o X.env
 few:((backTo cpos (starEach [e] X.env)).all (fun x=>!x.1) && (backToKw cpos (keywordEach [] X.env)).all (fun x=>x.1.isSome)
  && decide (([e]:List Expr).length+([]:List Keyword).length+(if ([]:List Keyword).isEmpty then 0 else 1) < 30))=true
 line:(apos.endLine == cpos.line)=true
 trees:backTo cpos (starEach [e] X.env)=[(false,eval e X.env)]
def IsD(H:Hp)(a:Addr):Prop:=(∃ kvs,Rd H a (.dK kvs))\/∃ kvs,Rd H a (.dT kvs)
theorem Jzc{X:Cx}{pins:YP_}{σ:St}{H:Hp}{s:Shared}{a:Addr}(I:Inv X pins σ H s)(d:IsD H a) :
 s.TypeIs (.ref a) "dict"/\(∀ b,Value.ref a=.ref b->∃ ob,s.heap.get? b=some ob/\ob.dict=none)/\(a == sysModules)=false:=by
 rcases d with ⟨kvs,e⟩ | ⟨kvs,e⟩
 ·obtain⟨_,hd,vs,_,dd⟩:=X7a I.hok e
  refine⟨dd.typeIs,fun b q=>?_,hd⟩
  cases q;obtain⟨ob,_,_,h1,h2,_⟩:=dd;exact⟨ob,h1,h2.2.1⟩
 ·obtain⟨_,hd,xs,_,dd⟩:=X8a I.hok e
  refine⟨dd.typeIs,fun b q=>?_,hd⟩
  cases q;obtain⟨ob,_,_,h1,h2,_⟩:=dd;exact⟨ob,h1,h2.2.1⟩
section
variable{X:Cx}{pins:YP_}{σ:St}{H:Hp}{s:Shared}{a:Addr}{y d:V}{u r:Value}{o:Option V}{A:Around}{E:YQ_}
end
def Xob(td ty:TE):TE:=fun σ H Q=>td σ H fun x H1=>∃ a,x=.ref a/\IsD H1 a/\ty σ H1 fun y H2=>∃ kvs k v,H2 a=some (.dK kvs)/\y=kV k/\JT kvs k=some v/\Q v (upd H2 a (.dK (QDa kvs k)))
section
variable{X:Cx}{o e f:Expr}{apos cpos:Pos}{td ty tx:TE}
theorem Xpb(ho:PE X o td)(he:PE X e ty)(m:M1 X o "pop" apos e cpos):PE X (.Call (.Attribute o "pop" apos) [e] [] cpos) (Xob td ty):=by
 intro pins s σ H Q I h;refine wpAny_Call_method m.base m.few m.line F.plainAttrs_dict F.slot_dict_pop F.type_dict_pop (thn (ho pins s σ H _ I h) fun u s1 hZ=>?_)
 obtain⟨x,H1,I1,rx,a,ex,d,q1⟩:=hZ;subst ex;obtain rfl:u=Value.ref a:=rx;obtain⟨t1,t2,_⟩:=Jzc I1 d;refine⟨t1,t2,?_⟩
 rw[m.trees];refine Calls.callWith_builtin rfl (Calls.evalArgs_plain (Calls.spliced_cons (thn (he pins s1 σ H1 _ I1 q1) fun iv s2 hZ=>Calls.spliced_nil ?_)))
 obtain⟨y,H2,I2,ry,kvs,k,v,ea,ey,l,q2⟩:=hZ;subst ey;exact YCc I2 ea ry l (.inl rfl) fun w' s3 I3 rw'=>⟨v,_,I3,rw',q2⟩
end
section
variable{X:Cx}{pins:YP_}{σ:St}{H:Hp}{s:Shared}{a:Addr}{kvs:List (Key×V)}{A:Around}{E:YQ_}
end
section
variable{X:Cx}{pins:YP_}{σ:St}{H:Hp}{s:Shared}{a:Addr}{y:V}{u:Value}{A:Around}{E:YQ_}
end
end L2
namespace Att
open PySem PySem.W PySem.Calls PyProof.Rows
section
variable{prog:Program}{w:World}{A:Around}{E:YQ_}{s:Shared}{K:Frag}
end
end Att
namespace L2
open PySem PySem.Spec PyProof.Rows
section
variable{P:Program}{w:World}{K:W.Frag}{mg:Str->Option Value}{base:Heap}
end
section
variable{X:Cx}
end
section
variable{κ:Type}[DecidableEq κ]
end
theorem Xs(env:Env):∀ (l:List (Str×NameKind)) (x:Str),
 (l.map fun(n,k)=>if (k == NameKind.free && env.scope.kind == .function && env.kindOf n == some .cell) then (n,NameKind.cell) else (n,k)).lookup x
  = (l.lookup x).map fun k=>if (k == NameKind.free && env.scope.kind == .function && env.kindOf x == some .cell) then NameKind.cell else k
 | [],_=>rfl
 | (n,k)::r,x=>by
  have ih:=Xs env r x;show List.lookup x ((if (k == NameKind.free && env.scope.kind == .function && env.kindOf n == some .cell)=true then (n,NameKind.cell) else (n,k))::_)=_
  cases hx:x == n with
  | true =>
   have e:x=n:=by simpa using hx
   subst e
   by_cases hc:(k == NameKind.free && env.scope.kind == .function && env.kindOf x == some .cell)=true
   ·rw[if_pos hc];simp only[lookup_cons,hx,Option.map_some,hc,if_true]
   ·rw[if_neg hc];simp only[lookup_cons,hx,Option.map_some,if_neg hc]
  | false =>
   by_cases hc:(k == NameKind.free && env.scope.kind == .function && env.kindOf n == some .cell)=true
   ·rw[if_pos hc];simp only[lookup_cons,hx];exact ih
   ·rw[if_neg hc];simp only[lookup_cons,hx];exact ih
theorem Qka{env:Env}:∀ (l:List (Str×NameKind)) (acc:List (Str×Addr)),(∀ y∈l,y.2=.free->∃ c,env.cells.lookup y.1=some c)->(∀ y c,acc.lookup y=some c->env.cells.lookup y=some c) ->
 ∃ cl,(forIn l acc fun x (cs:List (Str×Addr))=>(if (x.2 == NameKind.free)=true then (do let a <- cellOf env x.1;pure (ForInStep.yield ((x.1,a)::cs))) else pure (ForInStep.yield cs):Sem (ForInStep (List (Str×Addr)))))=pure cl/\(∀ y c,cl.lookup y=some c->env.cells.lookup y=some c)/\(∀ y c,acc.lookup y=some c->∃ c',cl.lookup y=some c') /\
  ∀ y∈l,y.2=.free->∃ c,cl.lookup y.1=some c
 | [],acc,_,h2=>⟨acc,rfl,h2,fun _ c h=>⟨c,h⟩,fun _ h=>nomatch h⟩
 | (n,k)::r,acc,h1,h2=>by
  by_cases hk:k=.free
  ·subst hk
   obtain⟨c,hc⟩:=h1 (n,.free) mem_cons_self rfl;have h2':∀ y c',((n,c)::acc).lookup y=some c'->env.cells.lookup y=some c':=fun y c' h=>by
    rw[lookup_cons]at h;cases hy:y == n with
    | true=>rw[hy]at h;have e:y=n:=by simpa using hy
            subst e;cases h;exact hc
    | false=>rw[hy]at h;exact h2 y c' h
   obtain⟨cl,e,q1,q2,q3⟩:=Qka r ((n,c)::acc) (fun y hy=>h1 y (Vo _ hy)) h2'
   refine⟨cl,?_,q1,fun y c' h=>?_,fun y hy hf=>?_⟩
   ·rw[forIn_cons]
    simp only[beq_self_eq_true,if_true];unfold cellOf;rw[hc];exact e
   ·cases hy:y == n with
    | true=>exact q2 y c (by rw[lookup_cons,hy])
    | false=>exact q2 y c' (by rw[lookup_cons,hy];exact h)
   ·rcases mem_cons.mp hy with e' | hy
    ·subst e'
     exact q2 n c (by simp[lookup_cons])
    ·exact q3 y hy hf
  ·have hb:(k == NameKind.free)=false:=by simpa using hk
   obtain⟨cl,e,q1,q2,q3⟩:=Qka r acc (fun y hy=>h1 y (Vo _ hy)) h2
   refine⟨cl,?_,q1,q2,fun y hy hf=>?_⟩
   ·rw[forIn_cons]
    simp only[hb,Bool.false_eq_true,if_false];exact e
   ·rcases mem_cons.mp hy with e' | hy
    ·subst e';exact absurd hf hk
    ·exact q3 y hy hf
theorem Z5a(env:Env)(sc:Scope)(h:∀ y∈sc.names,y.2=.free->∃ c,env.cells.lookup y.1=some c) :
 ∃ cl,closureFor sc env=pure cl/\(∀ y c,cl.lookup y=some c->env.cells.lookup y=some c)/\∀ y∈sc.names,y.2=.free->∃ c,cl.lookup y.1=some c:=by
 obtain⟨cl,e,q1,_,q3⟩:=Qka (env:=env) sc.names [] h (fun y c z=>by simp at z)
 refine⟨cl,?_,q1,q3⟩
 unfold closureFor;rw[<- e];simp only[bind_pure]
def blk(X:Cx)(sc:Scope)(x:Str)(M:List Str)(cl:List (Str×Addr))(C:Addr)(s:Shared)(H:Hp)(fp:List Addr):Cx :=
 { X with N:=x::M,s₀:=s,H₀:=H,env:=compEnvC sc cl C X.env,outer:=X.stack,ex:=fp,fn:=fun _=>false,pn:=[],xe:=fun _ _=>False }
structure Qbb(X:Cx)(sc:Scope)(x:Str)(M:List Str):Prop where
 kind:sc.kind=.function
 nocell:∀ y∈sc.names,y.2≠.cell
 names:∀ y∈sc.names,y.2=.local->sc.names.lookup y.1=some .local
 own:sc.names.lookup x=some .local
 nd:(x::M).Nodup
 len:M.length=X.N.length
 free:∀ y∈sc.names,y.2=.free->X.env.kindOf y.1=some .cell\/X.env.kindOf y.1=some .free
 same:∀ (i:Nat) (y:Str),M[i]?=some y->sc.names.lookup y=some .free->X.N[i]?=some y
 noloc:∀ y∈M,sc.names.lookup y≠some .local
section
variable{X:Cx}
theorem Inv.toBlk{pins:YP_}{σ:St}{H:Hp}{s:Shared}{sc:Scope}{x:Str}{M:List Str}{cl:List (Str×Addr)}{fp:List Addr}{h₁:Heap}{tk:Nat}
 (I:Inv X pins σ H s) (B:Qbb X sc x M) (q1:∀ y c,cl.lookup y=some c->X.env.cells.lookup y=some c) (q3:∀ y∈sc.names,y.2=.free->∃ c,cl.lookup y.1=some c)
 (fpk:∀ b∈fp,Qja X pins H b) (fpl:∀ b∈fp,b < s.heap.objs.size) {m:Str->Option Value} (hn:h₁.Ns s.heap.objs.size m) (keep:∀ b o,s.heap.get? b=some o->h₁.get? b=some o) :
 Inv (blk X sc x M cl s.heap.objs.size s H fp) [] (none::σ) H { s with heap:=h₁,toks:=tk }:=by
 have kindOf':∀ y,(blk X sc x M cl s.heap.objs.size s H fp).env.kindOf y=(sc.names.lookup y).map fun k=>if (k == NameKind.free && X.env.scope.kind == .function && X.env.kindOf y == some .cell) then NameKind.cell else k:=fun y=>Xs X.env sc.names y
 have isfree:∀ y,((blk X sc x M cl s.heap.objs.size s H fp).env.kindOf y=some .cell\/(blk X sc x M cl s.heap.objs.size s H fp).env.kindOf y=some .free)->sc.names.lookup y=some .free:=fun y hy=>by
  rw[kindOf']at hy;cases e:sc.names.lookup y with
  | none=>rw[e]at hy;simp at hy
  | some k =>
   rw[e]at hy
   by_cases hk:k=.free
   ·rw[hk]
   ·exfalso
    have hb:(k == NameKind.free)=false:=by simpa using hk
    simp only[hb,Bool.false_and,Option.map_some,Bool.false_eq_true,if_false,Option.some.injEq]at hy
    rcases hy with z | z
    ·exact B.nocell (y,k) (PySem.mem_of_lookup e) z
    ·exact hk z
 have ncell:∀ y c,X.env.cells.lookup y=some c->c < s.heap.objs.size:=fun y c e=>by
  obtain⟨v,o,ho,_⟩:=I.cell y c e;exact Vh ho
 have below:∀ b∈fp,Qja X pins H b:=fpk;refine⟨⟨I.ok.mod,B.kind,I.ok.glob,I.ok.blt,Ve _,fun y z c h1 h2=>I.ok.inj y z c (q1 y c h1) (q1 z c h2),fun y hy=>q3 _ (PySem.mem_of_lookup (isfree y hy)) rfl,fun y c h _=>absurd (show false=true from h) Vf,I.ok.hd,I.ok.frames,.inl rfl,
  fun b hb=>?_,I.bs,Vj I.ok.bsz I.sz,fun b o e hb=>?_,fun b hb z=>?_,I.stack,I.stkFree⟩,rfl,I.bare,Un.kept keep,⟨_,hn,fun i y v e1 e2 e3=>?_⟩,fun y c h=>?_,I.hok.fresh (Ve _),fun y c h=>I.freeC y c (q1 y c h),fun p hp=>absurd (show p∈([]:YP_) from hp) (by simp),I.hok.kept keep,?_⟩
 ·exact⟨Nat.ne_of_lt (fpl b hb),fun y c h=>(fpk b hb).2.2.2.2.1 y c (q1 y c h)⟩
 ·rcases(fpk b hb).2.2.2.1 with z | z
  ·exact I.ok.noex b o e z
  ·exact absurd (Vt (Vh e) (Vj I.ok.bsz z)) (Vu _)
 ·rcases mem_cons.mp (I.stkSub b z) with e | z
  ·exact(fpk b hb).2.1 e
  ·exact(fpk b hb).2.2.1 z
 ·cases i with
  | zero=>simp at e2
  | succ i =>
   have e1':M[i]?=some y:=e1;have e2':σ[i]?=some (some v):=e2;have hy:sc.names.lookup y=some .free:=by
    rcases e3 with z | z | z
    ·exfalso
     have z':(blk X sc x M cl s.heap.objs.size s H fp).env.kindOf y=some .local:=z;rw[kindOf']at z';cases e:sc.names.lookup y with
     | none=>rw[e]at z';simp at z'
     | some k =>
      rw[e]at z';simp only[Option.map_some,Option.some.injEq]at z'
      split at z'
      ·cases z'
      ·subst z'
       exact B.noloc y (Vm e1') e
    ·exact isfree y (.inl z)
    ·exact isfree y (.inr z)
   have hk:=B.free _ (PySem.mem_of_lookup hy) rfl;obtain⟨m0,hn0,hl⟩:=I.loc;obtain⟨u,r,l⟩:=hl i y v (B.same i y e1' hy) e2' (hk.elim (fun z=>.inr (.inl z)) fun z=>.inr (.inr z))
   refine⟨u,r,.inr ⟨?_,?_⟩⟩
   ·rcases e3 with z | z | z
    ·exfalso
     have z':(blk X sc x M cl s.heap.objs.size s H fp).env.kindOf y=some .local:=z;rw[kindOf',hy]at z';simp only[Option.map_some,Option.some.injEq]at z'
     split at z' <;> cases z'
    ·exact .inl z
    ·exact .inr z
   ·rcases l with ⟨k,_⟩ | ⟨_,c,e,hc⟩
    ·rcases hk with z | z <;> (have z':X.env.kindOf y=_:=z;rw[k]at z';cases z')
    ·obtain⟨c',e'⟩:=q3 _ (PySem.mem_of_lookup hy) rfl
     have e'':=q1 y c' e';rw[e]at e'';cases e'';obtain⟨o,ho,hd⟩:=hc;exact⟨c,e',o,keep c o ho,hd⟩
 ·obtain⟨v,o,ho,hd⟩:=I.cell y c (q1 y c h)
  exact⟨v,o,keep c o ho,hd⟩
 ·show(none::σ).length=(x::M).length
  rw[length_cons,length_cons,I.len,B.len]
end
def Q2(X:Cx)(ifs:List Expr)(t:TT):Prop :=
 ∀ (pins:YP_) (s:Shared) (σ:St) (H:Hp) (Q:Bool->Hp->Prop),Inv X pins σ H s->t σ H Q ->
  wpAny (model X.prog X.w) X.A (forIn ifs true fun c r=>if r=true then do let ok <- isTrue c X.env (eval c X.env);pure (ForInStep.yield ok) else pure (ForInStep.yield r)) (TP X pins σ Q) X.xe s
def Qcb:TT:=fun _ H Q=>Q true H
theorem Xca{X:Cx}:Q2 X [] Qcb:=fun _ _ _ H _ I h=>wpAny_tests_nil ⟨H,I,h⟩
theorem Xda{X:Cx}{c:Expr}{t:TT}(h:PT X c t):Q2 X [c] t:=fun pins s σ H Q I q=>wpAny_tests_one (h pins s σ H Q I q)
section
variable{prog:Program}{w:World}{A:Around}{E:YQ_}{R:Result->Shared->Prop}{s:Shared}
theorem Qdb{elt target iter:Expr}{ifs:List Expr}{scope:Scope}{pos:Pos}{it acc:Value}{env:Env}(I:Nat->Shared->Prop)
 (turn:∀ n s,I n s->wpAny (model prog w) A (pyNext it) (fun r s₁=>match r with
  | none=>R (.ok .next) s₁
  | some v=>wpAny (model prog w) A (letOwnedTupleGo target it v) (fun _ s₁=>wpAny (model prog w) A (assign target env v) (fun _ s₂ =>
   wpAny (model prog w) A (forIn ifs true fun c r=>if r=true then do let ok <- isTrue c env (eval c env);pure (ForInStep.yield ok) else pure (ForInStep.yield r)) (fun ok s₃ =>
    if ok=true then wpAny (model prog w) A (eval elt env) (fun x s₄ =>
     wpAny (model prog w) A (call (.builtin "list.append") [acc,x]) (fun _ s₅=>∃ m,m < n/\I m s₅) (fun _ _=>False) s₄) (fun _ _=>False) s₃
    else ∃ m,m < n/\I m s₃) (fun _ _=>False) s₂) (fun _ _=>False) s₁) (fun _ _=>False) s₁) (fun _ _=>False) s)
 (n:Nat) (h:I n s) :
 codeAny (model prog w) A (.compLoop (.ListComp elt [⟨target,iter,ifs,0⟩] scope pos) 0 it acc env) R s:=by
 refine codeAny_loop rfl I (fun n s hI=>?_) n h
 show wpAny _ A ((compTurn (.ListComp elt [⟨target,iter,ifs,0⟩] scope pos) 0 it acc env).onRaise (fun x=>do noteFrame x env;theTreesLotGoes x)) _ _ s
 refine wpAny_noted ?_
 rw[compTurn_list];refine Va (wpAny_standAt (Va (wpAny_mono (turn n s hI) (fun r s₁ h₁=>?_) fun _ _ h'=>h'.elim)))
 cases r with
 | none=>exact Vg h₁
 | some v =>
  refine Va (wpAny_mono h₁ (fun _ s₁ h₁=>?_) fun _ _ h'=>h'.elim)
  refine Va (wpAny_mono h₁ (fun _ s₂ h₂=>Va (wpAny_mono h₂ (fun ok s₃ h₃=>?_) fun _ _ h'=>h'.elim)) fun _ _ h'=>h'.elim)
  cases ok with
  | false=>exact Vg ⟨rfl,h₃⟩
  | true =>
   exact Va (Va (wpAny_mono h₃ (fun x s₄ h₄=>Va (wpAny_mono h₄ (fun _ s₅ h₅=>Vg (Vg ⟨rfl,h₅⟩)) fun _ _ h'=>h'.elim)) fun _ _ h'=>h'.elim))
end
def tLc(wi:TI)(tt:TT)(te:TE):TE:=fun σ H Q=>wi σ H fun J H1=>∀ D,H1 D=none->∃ W:Nat->Nat->List V->Hp->Prop,(∃ m,W 0 m [] (upd H1 D (.lst [])))/\∀ i m ys H,W i m ys H ->
 H D=some (.lst ys)/\((J.stop i H/\Q (.ref D) H)\/(J.go i H/\ys.length < sizeLine/\∀ x H',J.yld i H x H'->tt (some x::σ) H' fun b H2=>if b=true then te (some x::σ) H2 fun v H3 =>
  H3 D=some (.lst ys)/\∃ m',m' < m/\W (i+1) m' (ys++[v]) (upd H3 D (.lst (ys++[v]))) else ∃ m',m' < m/\W (i+1) m' ys H2))
section
variable{X:Cx}
theorem Z6a{sc:Scope}{x:Str}{px pos:Pos}{iter elt:Expr}{ifs:List Expr}{M:List Str}{wi:TI}{tt:TT}{te:TE}{cl:List (Str×Addr)}{RR:Value->Addr->Result->Shared->Prop}{pins:YP_}{s:Shared}{σ:St}{H:Hp}{Q:VK}
 (hc:X.calm=true) (B:Qbb X sc x M) (hi:PI X (.Name x px) iter wi) (ht:∀ C s H fp,Q2 (blk X sc x M cl C s H fp) ifs tt) (he:∀ C s H fp,PE (blk X sc x M cl C s H fp) elt te)
 (q1:∀ y c,cl.lookup y=some c->X.env.cells.lookup y=some c) (q3:∀ y∈sc.names,y.2=.free->∃ c,cl.lookup y.1=some c)
 (I:Inv X pins σ H s) (h:tLc wi tt te σ H Q)
 (hRR:∀ (D C:Addr) (s':Shared) (m:Str->Option Value) (H':Hp),Inv X pins σ H' s'->s'.heap.Ns C m->Qja X pins H' C->Q (.ref D) H'->RR (.ref D) C (.ok .next) s') :
 wpAny (model X.prog X.w) X.A (eval iter X.env) (fun xv s₁=>wpAny (model X.prog X.w) X.A (pyIter xv) (fun it s₂=>wpAny (model X.prog X.w) X.A (newList []) (fun acc s₃ =>
  wpAny (model X.prog X.w) X.A (newFunctionEnv sc X.env.globals cl [] X.env.qual none .none (some X.env)) (fun cenv s₄ =>
   codeAny (model X.prog X.w) X.A (.compStart (.ListComp elt [⟨.Name x px,iter,ifs,0⟩] sc pos) 0 it acc { cenv with scope:=relabel sc X.env }) (RR acc cenv.locals) s₄) X.xe s₃) X.xe s₂) X.xe s₁) X.xe s:=by
 refine thn (hi pins s σ H _ I h) fun v s1 h1=>thn h1 fun itv s2 h2=>?_
 obtain⟨it,fp,tn,J,H2,rfl,I2,T,st2,f2,q2⟩:=h2;refine wpAny_newObj_type (wpAny_newFunctionEnv B.nocell (by intro y hy;simp at hy) (fun h₁ hns₁ hsb₁=>?_) B.kind)
 dsimp only at hns₁ hsb₁ ⊢;obtain⟨W,⟨m0,w0⟩,turn⟩:=q2 s2.heap.objs.size I2.fresh;have I3:Inv X pins σ (upd H2 s2.heap.objs.size (.lst [])) { s2 with heap:=s2.heap.push { cls:=.type "list",data:=.seq ([]:List Value).toArray },toks:=s2.toks }:=I2.lnew .nil (Vk _)
 generalize hs3:({ s2 with heap:=s2.heap.push { cls:=.type "list",data:=.seq ([]:List Value).toArray },toks:=s2.toks }:Shared)=s3 at I3
 have eh:s2.heap.push { cls:=.type "list",dict:=none,data:=.seq ([]:List Value).toArray }=s3.heap:=by rw[<- hs3]
 have fpl:∀ b∈fp,b < s2.heap.objs.size:=fun b hb=>by
  obtain⟨o,e,_⟩:=T.obj _ _ st2 b hb;exact Vh e
 have sz:s3.heap.objs.size=s2.heap.objs.size+1:=by rw[<- eh,Heap.size_push]
 have fpl3:∀ b∈fp,b < s3.heap.objs.size:=fun b hb=>by rw[sz];exact Nat.lt_succ_of_lt (fpl b hb)
 have fp3:∀ b∈fp,Qja X pins (upd H2 s2.heap.objs.size (.lst [])) b:=fun b hb=>⟨by rw[Qe (Nat.ne_of_lt (fpl b hb))];exact(f2 b hb).1,(f2 b hb).2⟩
 rw[eh]at hns₁ hsb₁ ⊢;have keep:∀ b o,s3.heap.get? b=some o->h₁.get? b=some o:=fun b o e=>hsb₁.extBut b o (Nat.ne_of_lt (Vh e)) (Vd _ e)
 have IB:=I3.toBlk (tk:=s2.toks+([]:List (Str×Value)).length) B q1 q3 fp3 fpl3 hns₁ keep;have st4:tn 0 h₁:=T.keep _ _ _ st2 fun b hb o e=>keep b o (by rw[<- eh];exact Vd _ e)
 have es:({ s3 with heap:=h₁,toks:=s2.toks+([]:List (Str×Value)).length }:Shared)={ s2 with heap:=h₁,toks:=s2.toks+([]:List (Str×Value)).length }:=by rw[<- hs3]
 rw[es]at IB;have hx':(blk X sc x M cl s3.heap.objs.size s3 (upd H2 s2.heap.objs.size (.lst [])) fp).env.scope.names.lookup x=some .local:=lookup_relabel_local B.own;have hg:PG (blk X sc x M cl s3.heap.objs.size s3 (upd H2 s2.heap.objs.size (.lst [])) fp) (.Name x px) (Jfb 0):=Ze B.nd rfl (.inl hx') (.inr hx');have he':=he s3.heap.objs.size s3 (upd H2 s2.heap.objs.size (.lst [])) fp;have ht':=ht s3.heap.objs.size s3 (upd H2 s2.heap.objs.size (.lst [])) fp;have loop:∀ s₄:Shared,s₄={ s2 with heap:=h₁,toks:=s2.toks+([]:List (Str×Value)).length } ->
  codeAny (model X.prog X.w) X.A (.compLoop (.ListComp elt [⟨.Name x px,iter,ifs,0⟩] sc pos) 0 (.ref it) (.ref s2.heap.objs.size) (compEnvC sc cl s3.heap.objs.size X.env)) (RR (.ref s2.heap.objs.size) s3.heap.objs.size) s₄:=by
  rintro s₄ rfl;refine Qdb (fun n s'=>∃ i ys o H',Inv (blk X sc x M cl s3.heap.objs.size s3 (upd H2 s2.heap.objs.size (.lst [])) fp) [] (o::σ) H' s'/\tn i s'.heap/\(∀ b∈fp,H' b=none)/\W i n ys H') ?_ m0
   ⟨0,[],none,_,IB,st4,fun b hb=>(fp3 b hb).1,w0⟩
  rintro n s' ⟨i,ys,o,H',I',st',fr',w'⟩;have fpB:∀ {H':Hp} {pl:YP_},(∀ b∈fp,H' b=none)->∀ b∈fp,Qja (blk X sc x M cl s3.heap.objs.size s3 (upd H2 s2.heap.objs.size (.lst [])) fp) [] H' b:=fun {H' pl} hn b hb =>
   ⟨hn b hb,Nat.ne_of_lt (fpl3 b hb),fun z=>I'.ok.exfs b hb z,.inl hb,fun y c hy=>(fp3 b hb).2.2.2.2.1 y c (q1 y c hy),fun p hp=>absurd (show p∈([]:YP_) from hp) (by simp)⟩
  obtain⟨hD,⟨stop,q⟩ | ⟨go,hlen,step⟩⟩:=turn i n ys H' w'
  ·refine wpAny_mono (T.done (blk X sc x M cl s3.heap.objs.size s3 (upd H2 s2.heap.objs.size (.lst [])) fp) rfl rfl rfl hc i [] s' (o::σ) H' (fun _ _=>False) I' (fpB (pl:=[]) fr') st' stop) (fun r s4 hZ=>?_) fun _ _ f=>f.elim
   obtain⟨hr,I4⟩:=hZ;subst hr;obtain⟨m,hn,_⟩:=I4.loc;refine hRR _ _ s4 m H' (I3.call' (ch:=fp) I4.os I4.base I4.hok I4.bare fun b hb=>⟨(fp3 b hb).2.2.2.1,(fp3 b hb).2.1,(fp3 b hb).2.2.2.2.1,(fp3 b hb).2.2.2.2.2⟩) hn (I3.fpOk (Ve _) I4.free) q
  ·refine wpAny_mono (T.item (blk X sc x M cl s3.heap.objs.size s3 (upd H2 s2.heap.objs.size (.lst [])) fp) rfl rfl rfl hc i [] s' (o::σ) H' (fun _ _=>False) I' (fpB (pl:=[]) fr') st' go) (fun r s4 hZ=>?_) fun _ _ f=>f.elim
   obtain⟨u,hr,h4⟩:=hZ;subst hr;refine wpAny_mono h4 (fun _ s5 hZ=>?_) fun _ _ f=>f.elim
   obtain⟨y,H5,I5,r5,y5,st5,fr5⟩:=hZ;have I5':=I5.pinned (fpB (pl:=[]) fr5) (T.obj _ _ st5);refine wpAny_mono (hg _ s5 (o::σ) H5 y u (fun σ' H'=>σ'=some y::σ/\H'=H5) I5' r5 ⟨rfl,rfl⟩) (fun _ s6 hZ=>?_) fun _ _ f=>f.elim
   obtain⟨σ6,H6,I6,e6,e6'⟩:=hZ;subst e6 e6';have again:∀ {H7:Hp} {s7:Shared} {zs:List V} {m':Nat},Inv (blk X sc x M cl s3.heap.objs.size s3 (upd H2 s2.heap.objs.size (.lst [])) fp) ([]++ZVa fp s5.heap) (some y::σ) H7 s7->m' < n->W (i+1) m' zs H7 ->
    ∃ m,m < n/\∃ i ys o H',Inv (blk X sc x M cl s3.heap.objs.size s3 (upd H2 s2.heap.objs.size (.lst [])) fp) [] (o::σ) H' s7/\tn i s7.heap/\(∀ b∈fp,H' b=none)/\W i m ys H':=fun {H7 s7 zs m'} I7 hm w7=>by
    refine⟨m',hm,i+1,zs,some y,H7,I7.unpinned,T.keep _ _ _ st5 fun b hb o e=>(I7.pin (b,o) (Vp _ (Vp _ (YH hb e)))).1,fun b hb=>?_,w7⟩
    obtain⟨o,e,d⟩:=T.obj _ _ st5 b hb;exact(I7.pin (b,o) (Vp _ (Vp _ (YH hb e)))).2.1
   refine wpAny_mono (ht' _ s6 (some y::σ) H6 _ I6 (step y H6 y5)) (fun b s7 hZ=>?_) fun _ _ f=>f.elim
   obtain⟨H7,I7,q7⟩:=hZ;cases b with
   | false =>
    rw[if_neg Vf]at q7 ⊢;obtain⟨m',hm,w7⟩:=q7;exact again I7 hm w7
   | true =>
    rw[if_pos rfl]at q7 ⊢;refine wpAny_mono (he' _ s7 (some y::σ) H7 _ I7 q7) (fun u8 s8 hZ=>?_) fun _ _ f=>f.elim
    obtain⟨v8,H8,I8,r8,hD8,m',hm,w8⟩:=hZ;refine wpAny_mono (Z1 (X:=blk X sc x M cl s3.heap.objs.size s3 (upd H2 s2.heap.objs.size (.lst [])) fp) _ s8 (some y::σ) H8 (.ref s2.heap.objs.size) [v8] (.ref s2.heap.objs.size) [u8] (fun _ H9=>H9=upd H8 s2.heap.objs.size (.lst (ys++[v8]))) I8 rfl (.cons r8 .nil) ⟨_,ys,v8,rfl,rfl,hD8,hlen,rfl⟩) (fun _ s9 hZ=>?_) fun _ _ f=>f.elim
    obtain⟨_,H9,I9,_,e9⟩:=hZ;subst e9;exact again I9 hm w8
 exact codeAny_compStart_list (loop _ rfl) (T.self X.A 0 _ _ _ st4 (loop _ rfl))
theorem Xt{sc:Scope}{x:Str}{px pos:Pos}{iter elt:Expr}{ifs:List Expr}(M:List Str){wi:TI}{tt:TT}{te:TE}(hc:X.calm=true)(B:Qbb X sc x M)(hi:PI X (.Name x px) iter wi)
 (ht:∀ cl C s H fp,Q2 (blk X sc x M cl C s H fp) ifs tt) (he:∀ cl C s H fp,PE (blk X sc x M cl C s H fp) elt te) (hs:∀ x,foldedSetIterable iter X.env x=pure x:=by intro _;rfl) :
 PE X (.ListComp elt [⟨.Name x px,iter,ifs,0⟩] sc pos) (tLc wi tt te):=by
 intro pins s σ H Q I h;obtain⟨cl,hcl,q1,q3⟩:=Z5a X.env sc (fun y hy hf=>I.ok.has y.1 (B.free y hy hf))
 rw[eval_ListComp];refine wpAny_comprehension_free (use:=none) rfl hs hcl B.kind B.names (Z6a (RR:=fun acc C=>compPost (model X.prog X.w) X.A X.xe none (EP X pins σ Q) acc C) hc B hi (ht cl) (he cl) q1 q3 I h ?_)
 intro D C s' m H' I' hn fpC q;exact⟨m,hn,fun h' sb=>⟨.ref D,H',I'.turned (t':=s'.toks) (fun b o hb e=>sb.extBut b o hb e) fpC.1 fpC.2.1 fpC.2.2.2.1 fpC.2.2.2.2.1 fpC.2.2.2.2.2,rfl,q⟩⟩
def Xqb(j:Nat)(wi:TI)(tt:TT)(te:TE):TS:=fun D σ H=>tLc wi tt te σ H fun v H'=>D.nx (σ.set j (some v)) H'
theorem Xrb{sc:Scope}{x y:Str}{px py pos spos:Pos}{iter elt:Expr}{ifs:List Expr}{j:Nat}(M:List Str){wi:TI}{tt:TT}{te:TE}(hc:X.calm=true)(hN:X.N.Nodup)(hj:X.N[j]?=some y)(hy:X.env.scope.names.lookup y=some .local)
 (B:Qbb X sc x M) (hi:PI X (.Name x px) iter wi)
 (ht:∀ cl C s H fp,Q2 (blk X sc x M cl C s H fp) ifs tt) (he:∀ cl C s H fp,PE (blk X sc x M cl C s H fp) elt te)
 (hsw:swapsWith (.ListComp elt [⟨.Name x px,iter,ifs,0⟩] sc pos) (some (.Name y py)) spos.line X.env=pure true:=by rfl) (hs:∀ x,foldedSetIterable iter X.env x=pure x:=by intro _;rfl) :
 PS X (.Assign [.Name y py] (.ListComp elt [⟨.Name x px,iter,ifs,0⟩] sc pos) spos) (Xqb j wi tt te):=by
 intro pins s σ H D I h;obtain⟨cl,hcl,q1,q3⟩:=Z5a X.env sc (fun y hy hf=>I.ok.has y.1 (B.free y hy hf))
 rw[exec_Assign_Name_used _ _ _ _ hsw];refine Va (wpAny_standAt (Va ?_))
 show wpAny _ X.A (do let _ <- comprehension (.ListComp elt [⟨.Name x px,iter,ifs,0⟩] sc pos) sc X.env _ (newList []) false (eval iter X.env) (some (assign (.Name y py) X.env))) _ _ s
 refine Va (wpAny_mono (wpAny_comprehension_free (use:=some (assign (.Name y py) X.env)) (Q:=fun _ s'=>SP X pins D .next s') rfl hs hcl B.kind B.names
  (Z6a (RR:=fun acc C=>compPost (model X.prog X.w) X.A X.xe (some (assign (.Name y py) X.env)) (fun _ s'=>SP X pins D .next s') acc C) hc B hi (ht cl) (he cl) q1 q3 I h ?_)) (fun _ s' hq=>Vg (Vg hq)) fun _ _ e=>e)
 intro A C s' m H' I' hn fpC q;show wpAny _ X.A (assign (.Name y py) X.env (.ref A)) _ _ s';refine wpAny_assign_Name (Yra I' hN hj (.inl hy) (v:=.ref A) rfl (fun s'' I'' hZ=>?_) (.inr hy))
 obtain⟨a,sb,ha⟩:=hZ;have hne:C≠a:=by
  rcases ha with e | e
  ·rw[e];exact fpC.2.1
  ·exact fun z=>fpC.2.2.2.2.1 y a e z.symm
 exact⟨m,hn.sameBut sb hne,fun h' sb'=>⟨_,H',I''.turned (t':=s''.toks) (fun b o hb e=>sb'.extBut b o hb e) fpC.1 fpC.2.1 fpC.2.2.2.1 fpC.2.2.2.2.1 fpC.2.2.2.2.2,q⟩⟩
end
end L2
end
section
namespace HT
open PySem PyProof.Rows L2
def YN:List V->List V->Option Bool
 | [],[]=>some false
 | [],_::_=>some true
 | _::_,[]=>some false
 | .int i::xs,.int j::ys=>if i=j then YN xs ys else some (decide (i < j))
 | .str i::xs,.str j::ys=>if i=j then YN xs ys else some (decide (i.cps.toList < j.cps.toList))
 | _::_,_::_=>none
theorem Xea:YN [] []=some false:=rfl
theorem JXa(y:V)(ys:List V):YN [] (y::ys)=some true:=rfl
theorem JYa(x:V)(xs:List V):YN (x::xs) []=some false:=by cases x <;> rfl
theorem Xsb(A:Around)(s:Shared)(a:Str)(t:Tok)(c:Str)(u:Tok)(prog:Program)(w:World)(E:YQ_)(Q:YQ_)(h:Q (.bool (decide (a.cps.toList < c.cps.toList))) s) :
 wpAny (model prog w) A (richCompare .Lt (.str a t) (.str c u)) Q E s :=
 (lt_str h:wpAny (model prog w) A (compareOp .Lt (.str a t) (.str c u)) Q E s)
section
open PySem.SeqAt
open PySem.AutoSeq1 (wpAny_loadPart')
open PySem.MeetsSeq PySem.MeetsSeq2 PySem.MeetsSeq3
theorem Znb(l b:Addr)(items items2:Array Value)(n n2:Nat)(dd dd2:Option Addr)(sl sl2:Array (Option Value))(xs ys:List V)(hi:Qr xs items.toList)(hj:Qr ys items2.toList)(r:Bool)(hr:YN xs ys=some r) :
 Meets (Builtin.«tuple.__lt__» ⟨[.ref l,.ref b],[]⟩)
  (fun _ R s=>s.heap.get? l=some { cls:=.type "tuple",dict:=dd,data:=.seq items n,slots:=sl }/\s.heap.get? b=some { cls:=.type "tuple",dict:=dd2,data:=.seq items2 n2,slots:=sl2 } /\
   R (.ok (.ret (.bool r))) s) :=
 .of_wp fun prog w A R s h=>by
  obtain⟨hp,g,d,tk,os⟩:=s;obtain⟨hl,hb,h⟩:=h;have f2:=AutoSeq1.sub_tuple_tuple;have z1:items.size=xs.length:=by rw[hi.length];simp
  have z2:items2.size=ys.length:=by rw[hj.length];simp
  wp_walk using wpAny_loadPart' hl,wpAny_loadPart' hb,wpAny_forIn_list _ (fun rest b s'=>b.1=none/\s'=⟨hp,g,d,tk,os⟩/\∃ (vs ws:List Value) (xs' ys':List V),rest=vs.zip ws /\
   Qr xs' vs/\Qr ys' ws/\xs'.length+items2.size=ys'.length+items.size/\YN xs' ys'=some r) _
  case turn =>
   rintro⟨y,x⟩ rest b s' ⟨hb',rfl,vs,ws,xs',ys',hz,hvi,hwi,hlen,hR⟩;cases hvi with
   | nil=>rw[zip_nil_left]at hz;cases hz
   | cons ra hvi' =>
    cases hwi with
    | nil=>rw[zip_nil_right]at hz;cases hz
    | cons rb hwi' =>
     rename_i a1 v1 l1 l2 a2 v2 l3 l4;rw[zip_cons_cons]at hz;injection hz with hyx hrest
     injection hyx with hy hx
     subst hy hx;simp only[length_cons]at hlen;cases a1 with
     | int i =>
      cases a2 with
      | int j =>
       obtain⟨t,rfl⟩:=ra;obtain⟨u,rfl⟩:=rb;simp only[YN]at hR;obtain⟨e,he,hiff⟩:=Xdb A.in1 ⟨hp,g,d,tk,os⟩ i t j u;refine Va (he prog w _ _ ?_)
       cases e with
       | true =>
        rw[if_pos (hiff.mp rfl)]at hR
        wp_walk
        exact⟨rfl,rfl,_,_,_,_,hrest,hvi',hwi',by omega,hR⟩
       | false =>
        rw[if_neg (fun q=>absurd (hiff.mpr q) Vf)]at hR
        cases hR;have hri:=Xeb A.in1 ⟨hp,g,d,tk,os⟩ i t j u prog w
        wp_walk using hri
        exact⟨_,rfl,by simpa using h⟩
      | _=>simp[YN]at hR
     | str i =>
      cases a2 with
      | str j =>
       obtain⟨t,rfl⟩:=ra;obtain⟨u,rfl⟩:=rb;simp only[YN]at hR;refine Va (SeqAt.EqAt.str_str (A:=A.in1) (s:=⟨hp,g,d,tk,os⟩) i t j u prog w _ _ ?_)
       cases e:(i == j) with
       | true =>
        rw[if_pos (by simpa using e)]at hR
        wp_walk
        exact⟨rfl,rfl,_,_,_,_,hrest,hvi',hwi',by omega,hR⟩
       | false =>
        rw[if_neg (by simpa using e)]at hR
        cases hR;have hri:=Xsb A.in1 ⟨hp,g,d,tk,os⟩ i t j u prog w
        wp_walk using hri
        exact⟨_,rfl,by simpa using h⟩
      | _=>simp[YN]at hR
     | _=>cases a2 <;> simp[YN]at hR
  case fin =>
   rintro⟨b1,b2⟩ s' ⟨hb',rfl,vs,ws,xs',ys',hz,hvi,hwi,hlen,hR⟩;simp only at hb';subst hb';have hv:r=decide (items.size < items2.size):=by
    cases hvi with
    | nil =>
     cases hwi with
     | nil =>
      simp only[length_nil]at hlen;rw[Xea]at hR;cases hR;exact(decide_eq_false (by omega)).symm
     | cons c hw =>
      simp only[length_nil,length_cons]at hlen;rw[JXa]at hR;cases hR;exact(decide_eq_true (by omega)).symm
    | cons a hv =>
     cases hwi with
     | nil =>
      simp only[length_nil,length_cons]at hlen;rw[JYa]at hR;cases hR;exact(decide_eq_false (by omega)).symm
     | cons c hw =>
      rw[zip_cons_cons]at hz;cases hz
   rw[hv]at h
   wp_walk
   exact⟨_,rfl,by simpa[Builtin.Tuple.tupleCompareSizes]using h⟩
  case h =>
   exact⟨rfl,rfl,items.toList,items2.toList,xs,ys,rfl,hi,hj,by omega,hr⟩
end
section
variable{prog:Program}{w:World}{A:Around}{E:YQ_}{s:Shared}
theorem Zac{l b:Addr}{items items2:Array Value}{xs ys:List V}{r:Bool}{Q:YQ_}(hl:IsTup s.heap l items)(hb:IsTup s.heap b items2)(hi:Qr xs items.toList)(hj:Qr ys items2.toList)(hr:YN xs ys=some r)
 (hu:A.units < cLine) (h:Q (.bool r) s):wpAny (model prog w) A (compareOp .Lt (.ref l) (.ref b)) Q E s:=by
 obtain⟨⟨cls,dd,data,sl⟩,ho,hc,n,hd⟩:=id hl;obtain⟨⟨cls2,dd2,data2,sl2⟩,ho2,hc2,n2,hd2⟩:=id hb;simp only at hc hd hc2 hd2;subst hc hd hc2 hd2;exact richCompare_meets_room (op:=.Lt) ⟨_,ho,rfl⟩ ⟨_,ho2,rfl⟩ F.slot_tuple_lt F.entry_tuple_lt (F.args_tuple_lt_2 _ _) (Znb l b items items2 n n2 dd dd2 sl sl2 xs ys hi hj r hr)
  ⟨ho,ho2,show Value.bool r≠Value.notImplemented/\Q (.bool r) s from⟨(fun x=>nomatch x),h⟩⟩ hu
end
end HT
namespace L2
open PySem PySem.Spec PyProof.Rows
section
variable{X:Cx}
def Zbc:V->Option Value
 | .ty n=>some (.type n)
 | .ref a=>some (.ref a)
 | _=>none
def Yfb(K:W.Frag):List V->Hp->VK->Prop:=fun xs H Q=>∃ x c t cv b,xs=[x,c]/\Zbc c=some cv/\Qza K H x t/\W.kitOne K t cv=some b/\Q (.bl b) H
theorem Zk:JY X (.builtin "isinstance") (Yfb X.K):=by
 intro pins s σ H xs us Q I r h;obtain⟨x,c,t,cv,b,rfl,hc,ty,e,q⟩:=h;obtain⟨u,w',rfl,rx,rc⟩:=ZRc r;have ec:w'=cv:=by
  cases c <;> simp[Zbc]at hc
  ·subst hc;exact rc
  ·subst hc;exact rc
 subst ec;exact J7b I rx ty e fun tk=>⟨.bl b,H,I.tok tk,rfl,q⟩
def YDc(K:W.Frag):R2:=fun x y H Q=>∃ a b xs ys r,x=.ref a/\y=.ref b/\SqT K H a xs/\SqT K H b ys/\HT.YN xs ys=some r/\Q (.bl r) H
theorem JAc(hu:X.A.units < cLine):OpR X (compareOp .Lt) (YDc X.K):=by
 intro pins s σ H x y v u Q I rx ry h;obtain⟨a,b,xs,ys,r,rfl,rfl,ha,hb,e,q⟩:=h;cases rx;cases ry;obtain⟨its,r1,p1,_⟩:=I.tuple ha;obtain⟨its2,r2,p2,_⟩:=I.tuple hb;exact HT.Zac p1 p2 (by simpa using r1) (by simpa using r2) e hu ⟨.bl r,H,I,rfl,q⟩
def Its(z:Str):It:=⟨fun i _=>i < z.length,fun i H x H'=>H'=H/\∃ c,z.cps[i]?=some c/\x=.str ⟨#[c]⟩,fun i _=>z.length<=i⟩
theorem Ygb{P:Program}{w:World}{K:W.Frag}{tg:Expr}(it:Addr)(z:Str)(t:Tok):Q7b P w K tg (Its z) [it] it (fun i h=>h.IsStrIter it "str_ascii_iterator" z t i) where
 mem:=by simp
 obj:=fun i h st b hb=>by
  have e:b=it:=by simpa using hb
  subst e;obtain⟨o,e,c,d⟩:=st;exact⟨o,e,fun v z=>by rw[d]at z;cases z⟩
 keep:=fun i h h' st k=>let ⟨o,ho,r⟩:=st;⟨o,k it (by simp) o ho,r⟩
 item:=by
  intro X hP hw hK hc i pins s σ H E I hf st hg;subst hP hw hK;obtain⟨f0,f1,f2,f3,f4,f5⟩:=hf it (by simp)
  have W:=Walks.strAscii (prog:=X.prog) (w:=X.w) (I.ok.hd hc) it z t;refine W.item i s _ _ hg st fun v h' tk hv st' kk=>?_
  obtain⟨c,u,hcu,rfl⟩:=hv;have I1:Inv X pins σ H { s with heap:=h',toks:=tk }:=I.turned (fun b o hb e=>kk b o (by simpa using hb) e) f0 f1 f3 f4 f5
  obtain⟨o,e,c',d⟩:=id st';exact⟨_,rfl,Ysa (s:={ s with heap:=h',toks:=tk }) e c' d (by decide) ⟨.str ⟨#[c]⟩,H,I1,⟨_,rfl⟩,⟨rfl,c,hcu,rfl⟩,st',fun b hb=>(hf b hb).1⟩⟩
 done:=by
  intro X hP hw hK hc i pins s σ H E I hf st hg;subst hP hw hK;obtain⟨f0,f1,f2,f3,f4,f5⟩:=hf it (by simp)
  have hg':z.length<=i:=hg;exact wpAny_pyNext_ascii_end (I.ok.hd hc) st (by simpa[Str.length]using hg') fun h' eb=>⟨rfl,I.turned (t':=s.toks) (fun b o hb e=>eb b o hb e) f0 f1 f3 f4 f5⟩
 self:=fun _ _ _ _ _ st h=>wpAny_pyIter_striter_ascii st h
theorem Yhb{P:Program}{w:World}{K:W.Frag}{tg:Expr}(it:Addr)(z:Str)(t:Tok):Q7b P w K tg (Its z) [it] it (fun i h=>h.IsStrIter it "str_iterator" z t i) where
 mem:=by simp
 obj:=fun i h st b hb=>by
  have e:b=it:=by simpa using hb
  subst e;obtain⟨o,e,c,d⟩:=st;exact⟨o,e,fun v z=>by rw[d]at z;cases z⟩
 keep:=fun i h h' st k=>let ⟨o,ho,r⟩:=st;⟨o,k it (by simp) o ho,r⟩
 item:=by
  intro X hP hw hK hc i pins s σ H E I hf st hg;subst hP hw hK;obtain⟨f0,f1,f2,f3,f4,f5⟩:=hf it (by simp)
  have W:=Walks.strWide (prog:=X.prog) (w:=X.w) (I.ok.hd hc) it z t;refine W.item i s _ _ hg st fun v h' tk hv st' kk=>?_
  obtain⟨c,u,hcu,rfl⟩:=hv;have I1:Inv X pins σ H { s with heap:=h',toks:=tk }:=I.turned (fun b o hb e=>kk b o (by simpa using hb) e) f0 f1 f3 f4 f5
  obtain⟨o,e,c',d⟩:=id st';exact⟨_,rfl,Ysa (s:={ s with heap:=h',toks:=tk }) e c' d (by decide) ⟨.str ⟨#[c]⟩,H,I1,⟨_,rfl⟩,⟨rfl,c,hcu,rfl⟩,st',fun b hb=>(hf b hb).1⟩⟩
 done:=by
  intro X hP hw hK hc i pins s σ H E I hf st hg;subst hP hw hK;obtain⟨f0,f1,f2,f3,f4,f5⟩:=hf it (by simp)
  have hg':z.length<=i:=hg;exact wpAny_pyNext_wide_end (I.ok.hd hc) st (by simpa[Str.length]using hg') fun h' eb=>⟨rfl,I.turned (t':=s.toks) (fun b o hb e=>eb b o hb e) f0 f1 f3 f4 f5⟩
 self:=fun _ _ _ _ _ st h=>wpAny_pyIter_striter_wide st h
end
section
variable{X:Cx}
def JBc(tl:TE):TI:=fun σ H R=>tl σ H fun x H1=>∃ z,x=.str z/\R (Its z) H1
theorem Xtb{tg l:Expr}{tl:TE}(hl:PE X l tl):PI X tg l (JBc tl):=by
 intro pins s σ H R I h;refine thn (hl pins s σ H _ I h) fun v s1 hZ=>?_
 obtain⟨x,H1,I1,r1,q1⟩:=hZ;obtain⟨z,e,q⟩:=q1;subst e;obtain⟨t,rfl⟩:=r1;cases ha:z.cps.all (· < 128)
 ·refine wpAny_pyIter_wide ha ?_
  refine⟨s1.heap.objs.size,[s1.heap.objs.size],_,_,H1,rfl,I1.kept (t':=s1.toks) fun b o e=>Vd _ e,Yhb _ z t,⟨_,Vi _ rfl,rfl,rfl⟩,fun b hb=>?_,q⟩
  have e:b=s1.heap.objs.size:=by simpa using hb
  subst e;exact I1.fpOk (Ve _) (I1.hok.fresh (Ve _))
 ·refine wpAny_pyIter_ascii ha ?_
  refine⟨s1.heap.objs.size,[s1.heap.objs.size],_,_,H1,rfl,I1.kept (t':=s1.toks) fun b o e=>Vd _ e,Ygb _ z t,⟨_,Vi _ rfl,rfl,rfl⟩,fun b hb=>?_,q⟩
  have e:b=s1.heap.objs.size:=by simpa using hb
  subst e;exact I1.fpOk (Ve _) (I1.hok.fresh (Ve _))
theorem Zcc{z:Str}{g:TG}{tb:TS}{D:Zq}{σ:St}{H:Hp}(Pv:Nat->St->Hp->Prop)(h0:Pv 0 σ H)
 (hs:∀ i c σ H,z.cps.toList[i]?=some c->Pv i σ H->g (.str ⟨#[c]⟩) σ H fun σ2 H2=>tb { D with nx:=Pv (i+1),ct:=Pv (i+1),bk:=D.nx } σ2 H2) (hd:∀ σ H,Pv z.length σ H->D.nx σ H) :
 ∃ W:Nat->Nat->St->Hp->Prop,(∃ m,W 0 m σ H)/\∀ i m σ H,W i m σ H ->
  ((Its z).stop i H/\D.nx σ H)\/((Its z).go i H/\∃ N:St->Hp->Prop,(∀ σ' H',N σ' H'->∃ m',m' < m/\W (i+1) m' σ' H')/\∀ x H',(Its z).yld i H x H'->g x σ H' fun σ2 H2=>tb { D with nx:=N,ct:=N,bk:=D.nx } σ2 H2):=by
 refine⟨fun i m σ H=>m=z.length - i/\i<=z.length/\Pv i σ H,⟨z.length,by simp,Vk _,h0⟩,?_⟩
 rintro i m σ H ⟨rfl,hi,p⟩
 by_cases hlt:i < z.length
 ·refine .inr ⟨hlt,Pv (i+1),fun σ' H' p'=>⟨z.length - (i+1),by omega,rfl,hlt,p'⟩,fun x H' y=>?_⟩
  obtain⟨e,c,hc,e2⟩:=y;subst e e2;exact hs i c σ _ (by simpa using hc) p
 ·have e:i=z.length:=by omega
  subst e;exact .inl ⟨Ve _,hd σ H p⟩
def Q4a(xs ys:List V):Bool:=(List.range (min xs.length ys.length)).all (fun i=>eqV (xs.getD i .non) (ys.getD i .non)) && xs.length == ys.length
theorem YDa{A:Around}{s:Shared}{xs ys:List V}{us ws:List Value}(r:Qr xs us)(q:Qr ys ws)(f:xs.all Zf=true)(g:ys.all Zf=true)(j:Nat)(h1:j < us.toArray.size)(h2:j < ws.toArray.size) :
 SeqAt.EqAt A s us.toArray[j] ws.toArray[j] (eqV (xs.getD j .non) (ys.getD j .non)):=by
 have l1:=r.length;have l2:=q.length;have h1':j < us.length:=by simpa using h1
 have h2':j < ws.length:=by simpa using h2
 have j1:j < xs.length:=by omega
 have j2:j < ys.length:=by omega
 obtain⟨u,e1,r1⟩:=r.get (i:=j) (x:=xs[j]) (by simp[j1])
 obtain⟨w,e2,r2⟩:=q.get (i:=j) (x:=ys[j]) (by simp[j2])
 rw[Vb h1']at e1
 rw[Vb h2']at e2
 cases e1;cases e2;have g1:xs.getD j .non=xs[j]:=by simp[List.getD,j1]
 have g2:ys.getD j .non=ys[j]:=by simp[List.getD,j2]
 rw[g1,g2];have f1:Zf xs[j]=true:=all_eq_true.mp f _ (getElem_mem j1);have f2:Zf ys[j]=true:=all_eq_true.mp g _ (getElem_mem j2)
 simpa using ZZa (A:=A) (s:=s) r1 r2 f1 f2
def JCc(K:W.Frag)(neg:Bool):R2:=fun x y H Q=>∃ a b xs ys,x=.ref a/\y=.ref b/\SqL K H a xs/\SqL K H b ys/\xs.all Zf=true/\ys.all Zf=true/\Q (.bl (if neg then !Q4a xs ys else Q4a xs ys)) H
theorem Xub(hu:X.A.units < cLine):OpR X (compareOp .Eq) (JCc X.K false):=by
 intro pins s σ H x y v u Q I rx ry h;obtain⟨a,b,xs,ys,rfl,rfl,ha,hb,fx,fy,q⟩:=h;cases rx;cases ry;obtain⟨its,r1,p1,_⟩:=I.list ha;obtain⟨its2,r2,p2,_⟩:=I.list hb;have l1:=r1.length;have l2:=r2.length
 by_cases hl:xs.length=ys.length
 ·refine SeqAt.eq_listAt (e:=fun i=>eqV (xs.getD i .non) (ys.getD i .non)) p1.isList p2.isList (by simp;omega) hu (fun j h1 h2=>YDa r1 r2 fx fy j h1 h2) ⟨.bl _,H,I,rfl,?_⟩
  have e:(List.range its.toArray.size).all (fun i=>eqV (xs.getD i .non) (ys.getD i .non))=Q4a xs ys:=by
   unfold Q4a;rw[hl,Nat.min_self,beq_self_eq_true,Bool.and_true,Vn,<- l1,hl]
  rw[e];exact q
 ·refine SeqAt.eq_list_lengthsAt p1.isList p2.isList (by simp;omega) hu ⟨.bl false,H,I,rfl,?_⟩
  have e:Q4a xs ys=false:=by
   unfold Q4a;rw[beq_eq_false_iff_ne.mpr hl,Bool.and_false]
  rw[if_neg Vf,e]at q;exact q
theorem Xvb{x:V}(f:Zf x=true):eqV x x=true:=by cases x <;> simp[eqV,Zf]at *
end
theorem YO:bootBuiltins "len"=some (.builtin "len"):=by decide +kernel
theorem Qu:bootBuiltins "isinstance"=some (.builtin "isinstance"):=by decide +kernel
theorem Xwb:bootBuiltins "ord"=some (.builtin "ord"):=by decide +kernel
theorem JDc:bootBuiltins "max"=some (.builtin "max"):=by decide +kernel
theorem JEc:bootBuiltins "min"=some (.builtin "min"):=by decide +kernel
theorem Z7a:bootBuiltins "str"=some (.type "str"):=by decide +kernel
theorem JFc:bootBuiltins "int"=some (.type "int"):=by decide +kernel
theorem XU:bootBuiltins "list"=some (.type "list"):=by decide +kernel
theorem Qeb:bootBuiltins "tuple"=some (.type "tuple"):=by decide +kernel
def YEc(dsc sc:Scope)(x:Str)(N M:List Str):Bool :=
 decide (sc.kind=.function) && sc.names.all (fun y=>decide (y.2≠.cell)) && sc.names.all (fun y=>decide (y.2=.local->sc.names.lookup y.1=some .local)) && decide (sc.names.lookup x=some .local) && decide ((x::M).Nodup) &&
 decide (M.length=N.length) && sc.names.all (fun y=>decide (y.2=.free->dsc.names.lookup y.1=some .cell\/dsc.names.lookup y.1=some .free)) &&
 (List.range M.length).all (fun i=>match M[i]? with | some y=>decide (sc.names.lookup y=some .free->N[i]?=some y) | none=>true) && M.all (fun y=>decide (sc.names.lookup y≠some .local))
theorem YEa{X:Cx}{sc dsc:Scope}{x:Str}{N M:List Str}(hN:X.N=N)(hs:X.env.scope=dsc)(h:YEc dsc sc x N M=true):Qbb X sc x M:=by
 unfold YEc at h;simp only[Bool.and_eq_true,decide_eq_true_eq,all_eq_true]at h;obtain⟨⟨⟨⟨⟨⟨⟨⟨h1,h2⟩,h3⟩,h4⟩,h5⟩,h6⟩,h7⟩,h8⟩,h9⟩:=h;refine⟨h1,h2,h3,h4,h5,by rw[hN];exact h6,fun y hy hf=>?_,fun i y hi hf=>?_,h9⟩
 ·have:=h7 y hy hf
  rw[<- hs]at this;exact this
 ·have hl:i < M.length:=(Vc.mp hi).1
  have:=h8 i (mem_range.mpr hl);rw[hi]at this;rw[hN];exact(decide_eq_true_eq.mp this) hf
def Cal(P:Program)(w:World)(K:W.Frag)(mg:Str->Option Value)(base:Heap)(k:Nat)(x:Str)(ps:List Str)(sp:Sp):Prop :=
 ∃ f fd,QF P w K mg base CX0 k f fd ps sp/\ZQ K fd ps []/\W.keepIn K (.ref f)=true/\mg x=some (.ref f)
section
variable{X:Cx}{e:Expr}{es:List Expr}{t:TA}{p pos:Pos}
theorem QJ{j k:Nat}{x:Str}{ps:List Str}{sp:Sp}(G:Cal X.prog X.w X.K X.mg X.base j x ps sp)(hr:Zd k X.A)(hj:j<=k)(hg:Gl X x)(ha:PA X (e::es) t)(hdb:(x == ("__debug__":Str))=false:=by decide)
 (he:starEach (e::es) X.env=(false,eval e X.env)::starEach es X.env:=by rfl) (hpl:(backTo pos (starEach es X.env)).any (·.1)=false:=by rfl):PE X (.Call (.Name x p) (e::es) [] pos) (Jmb sp [] E0 t):=by
 obtain⟨f,fd,F,b,kp,m⟩:=G;exact Q2c F (hr.mono hj) hg m kp b .nil Jsb ha hdb he hpl
theorem Xfa{x:Str}{i:Int}(h:∃ t,X.mg x=some (.int i t))(hg:Gl X x)(hd:(x == ("__debug__":Str))=false:=by decide):PE X (.Name x pos) (tC (.int i)):=by
 obtain⟨t,h⟩:=h;exact Jdb hg h ⟨t,rfl⟩ hd
end
theorem Z2{K:W.Frag}{H:Hp}{Q:VK}{x:V}{n:String}{t:Value}{b:Bool}(ty:Qza K H x t)(e:W.kitOne K t (.type n)=some b)(q:Q (.bl b) H):Yfb K [x,.ty n] H Q:=⟨x,.ty n,t,.type n,b,rfl,rfl,ty,e,q⟩
section
variable{K:W.Frag}
end
theorem YFc{c:Bool}{p:Bool->Prop}:(∃ k,V.bl c=V.bl k/\p k)=p c:=propext ⟨fun⟨_,e,q⟩=>by cases e;exact q,fun q=>⟨c,rfl,q⟩⟩
theorem JGc{c:Int}{p:Int->Prop}:(∃ k,V.int c=V.int k/\p k)=p c:=propext ⟨fun⟨_,e,q⟩=>by cases e;exact q,fun q=>⟨c,rfl,q⟩⟩
theorem JHc{c:Str}{p:Str->Prop}:(∃ k,V.str c=V.str k/\p k)=p c:=propext ⟨fun⟨_,e,q⟩=>by cases e;exact q,fun q=>⟨c,rfl,q⟩⟩
theorem JIc{c:Addr}{p:Addr->Prop}:(∃ k,V.ref c=V.ref k/\p k)=p c:=propext ⟨fun⟨_,e,q⟩=>by cases e;exact q,fun q=>⟨c,rfl,q⟩⟩
theorem Zdc{a b:Int}{p:Int->Int->Prop}:(∃ i j,V.int a=V.int i/\V.int b=V.int j/\p i j)=p a b:=propext ⟨fun⟨_,_,e,f,q⟩=>by cases e;cases f;exact q,fun q=>⟨a,b,rfl,rfl,q⟩⟩
theorem Qm{t:TS}{D:Zq}{σ σ':St}{H:Hp}(e:σ'=σ)(h:t D σ H):t D σ' H:=by rw[e];exact h
end L2
end
section
namespace Att
open PySem PySem.W PySem.Calls PyProof.Rows
theorem Qfb:∀ (ns:List Int),WData.weightAll (ns.map WData.int)<=2 ^ 20->∀ n∈ns,Builtin.Int.intBits n<=2 ^ 20
 | [],_,_,h=>nomatch h
 | m::ns,hw,n,h=>by
  rw[map_cons]at hw;have e:WData.weightAll (WData.int m::ns.map WData.int)=WData.weight (.int m)+1+WData.weightAll (ns.map WData.int):=by simp only[WData.weightAll]
  rw[e]at hw
  rcases mem_cons.mp h with rfl | h
  ·have:WData.weight (.int n)<=2 ^ 20:=by omega
   simpa only[WData.weight,Builtin.Int.intBits]using this
  ·exact Qfb ns (by omega) n h
theorem Xga{l:OpenLaw}{n:Nat}{q:Program}{loose:List Str}{XP:(Str->Option Value)->Heap->Prop}{YP:World->Heap->Prop}{d:DefRec}
 (hn:l.most=some n) (hdf:d.params.defaults=[])
 (call:∀ (w:World) (s₀ s₁:Shared) (mg mb:Str->Option Value) (fa:Addr) (o:Obj) (pm cd doc:Value) (a:Addr) (vs:List Value) (ns:List Int),
  Ground q loose [] XP w s₀ mg mb s₁.heap->YP w s₁.heap ->
  s₁.heap.get? fa=some o->o.data=.func (docDef d.name d.params d.body d.scope pm cd doc)->s₁.heap.CodeRec cd d.name->mg d.name=some (.ref fa) ->
  s₁.heap.get? a=some { cls:=.type "list",data:=.seq vs.toArray }->IntsAre vs ns->ns.length<=n->(∀ i∈ns,Builtin.Int.intBits i<=2 ^ 20)->s₁.gens=#[] ->
  codeAny (model l.prog w) callerA (.call (.ref fa) ⟨[.ref a],[]⟩) (fun r s'=>r=.ok (.ret (.bool true))/\OldK s₁.heap s'.heap/\s'.os=s₁.os/\AllBare s'.gens) s₁) :
 WalkO q loose XP YP l.row.toRowW d [] (fun f vs=>PySem.call f vs):=by
 intro w s₀ s₁ mg mb G Y fa o pm cd doc dV kV ho hd hcd hD hmg hg args vals as hpre hlay hrd hwl hlo;obtain rfl:dV=.none:=Dflts.none hD hdf;obtain rfl:kV=.none:=Dflts.noKw hD;obtain⟨a,vs,ns,rfl,rfl,hobj,hints,hlen⟩:=Yab hn hpre hwl;have hb:∀ i∈ns,Builtin.Int.intBits i<=2 ^ 20:=by
  have h1:WData.layable (.list (ns.map WData.int))=true:=by
   have:=hlay;unfold WData.layableAll at this;exact all_eq_true.mp this _ mem_cons_self
  have h2:WData.weight (.list (ns.map WData.int))<=2 ^ 20:=of_decide_eq_true (Bool.and_eq_true_iff.mp h1).2;exact Qfb ns (by simpa only[WData.weight]using h2)
 refine enter_call (codeAny_mono (call w s₀ s₁ mg mb fa o pm cd doc a vs ns G Y ho (fd_plain hd) hcd hmg hobj hints hlen hb hg) fun r s' hq=>?_)
 obtain⟨rfl,h2,h3,h4⟩:=hq;exact⟨.inl ⟨.bool true,.bool true,[],rfl,fun _=>rfl,.bool true,Ybb l _,fun _=>⟨List.Pairwise.nil,fun _ hm=>(nomatch hm)⟩⟩,h2,h3,h4⟩
end Att
namespace L2
open PySem PySem.Spec PyProof.Rows
theorem Xxb{l:W.OpenLaw}{n k:Nat}{q:Program}{loose:List Str}{XP:(Str->Option Value)->Heap->Prop}{YP:World->Heap->Prop}{d:DefRec}{K:Params->W.Frag}{CX:World->CXT}{sp:W.Frag->Sp}{x:Str}
 (hn:l.most=some n) (hn2:n<=sizeLine) (hdf:d.params.defaults=[]) (hr:Zd k callerA)
 (hY:∀ (w:World) (h:Heap),YP w h->(K w.params).In h)
 (F:∀ (w:World) (mg:Str->Option Value) (fa:Addr) (h:Heap),(K w.params).In h->h.Ns mainGlobals mg->mg d.name=some (.ref fa) ->
  ∃ fd:FuncData,(∀ (s:Shared) (u:Value),BindsTo s fd ⟨[u],[]⟩ [(x,u)]) /\
   ∀ base:Heap,(K w.params).In base->base.Ns mainGlobals mg->QF l.prog w (K w.params) mg base (CX w) k fa fd [x] (sp (K w.params)))
 (hsp:∀ (K:W.Frag) (H:Hp) (a:Addr) (ns:List Int),ns.length<=n->(∀ i∈ns,Builtin.Int.intBits i<=2 ^ 20)->Jwc H->SqL K H a (ns.map V.int)->sp K [.ref a] H (fun v _=>v=.bl true) fun _ _ _=>False)
 (hCX:∀ (w:World) (H:Hp) (s:Shared) (e:Value) (s':Shared),CX w [] H s (fun _ _ _=>False) e s'->False) :
 W.WalkO q loose XP YP l.row.toRowW d [] (fun f vs=>PySem.call f vs):=by
 refine Att.Xga hn hdf fun w s₀ s₁ mg mb fa o pm cd doc a vs ns G Y ho hd hcd hmg hobj hints hlen hb hg=>?_
 have KX:=hY w _ Y;obtain⟨fd,hbd,hF⟩:=F w mg fa _ KX G.T.g hmg;exact Xib KX G.T.g G.T.b G.T.builtins G.T.nolimit hg hobj hints (Vj hlen hn2) hr hF hbd (fun H hO hS=>hsp _ H a ns hlen hb hO hS) fun H e s'=>hCX w H s₁ e s'
section
variable{X:Cx}
theorem ZA:OpR X (binaryOp .Mult) (rI IntMulOk fun i j=>.int (i * j)):=opI fun _ _ _ _ _ _ _ hc q=>mul_int q hc
end
section
variable{X:Cx}
end
theorem Qh{H:Hp}{p:Addr}(h:H p=none)(o:HO):Qk H (upd H p o):=fun b u q=>by rw[Qe (Qo q h)];exact q
theorem Qk.updL{H H':Hp}{p:Addr}(s:Qk H H')(h:H p=none)(o:HO):Qk H (upd H' p o):=fun b u q=>by rw[Qe (Qo q h)];exact s b u q
theorem Qk.seqT{K:W.Frag}{H H':Hp}{a:Addr}{xs:List V}(e:Qk H H')(h:SqT K H a xs):SqT K H' a xs:=by
 rcases h with (h | ⟨o,h⟩) | h
 ·exact .inl (.inl (e _ _ h))
 ·exact .inl (.inr ⟨o,e _ _ h⟩)
 ·exact .inr h
theorem Xyb{α:Type}(f:α->V)(ns:List α)(lo hi:Option Int):∃ ms:List α,Y7a (ns.map f) lo hi=ms.map f/\ms.length<=ns.length/\∀ m∈ms,m∈ns:=by
 refine⟨(ns.drop (HT.sIx ns.length 0 lo)).take (HT.sIx ns.length ns.length hi - HT.sIx ns.length 0 lo),?_,?_,fun m h=>mem_of_mem_drop (mem_of_mem_take h)⟩
 ·unfold Y7a
  rw[Vr,<- map_drop,<- map_take]
 ·rw[length_take,length_drop]
  omega
def FoR(J:It)(g:TG)(tb:TS)(D:Zq)(σ:St)(H1:Hp):Prop:=∃ W:Nat->Nat->St->Hp->Prop,(∃ m,W 0 m σ H1)/\∀ i m σ H,W i m σ H ->
 (J.stop i H/\D.nx σ H)\/(J.go i H/\∃ N:St->Hp->Prop,(∀ σ' H',N σ' H'->∃ m',m' < m/\W (i+1) m' σ' H')/\∀ x H',J.yld i H x H'->g x σ H' fun σ2 H2=>tb { D with nx:=N,ct:=N,bk:=D.nx } σ2 H2)
def LcR(J:It)(tt:TT)(te:TE)(σ:St)(Q:VK)(H1:Hp):Prop:=∀ D,H1 D=none->∃ W:Nat->Nat->List V->Hp->Prop,(∃ m,W 0 m [] (upd H1 D (.lst [])))/\∀ i m ys H,W i m ys H ->
 H D=some (.lst ys)/\((J.stop i H/\Q (.ref D) H)\/(J.go i H/\ys.length < sizeLine/\∀ x H',J.yld i H x H'->tt (some x::σ) H' fun b H2=>if b=true then te (some x::σ) H2 fun v H3 =>
  H3 D=some (.lst ys)/\∃ m',m' < m/\W (i+1) m' (ys++[v]) (upd H3 D (.lst (ys++[v]))) else ∃ m',m' < m/\W (i+1) m' ys H2))
theorem Yib{ta:TA}{g:TG}{tb:TS}{D:Zq}{σ:St}{H:Hp}:XWa (Y3b ta) g tb D σ H=ta σ H fun vs H1=>∃ j:Int,vs=[.int j] /\ -(2 ^ 62)<=j/\j < 2 ^ 62/\FoR (Itr 0 j.toNat) g tb D σ H1:=rfl
theorem Yjb{ta:TA}{g:TG}{tb:TS}{D:Zq}{σ:St}{H:Hp}:XWa (Y4b ta) g tb D σ H=ta σ H fun vs H1=>∃ i j:Int,vs=[.int i,.int j]/\(-(2 ^ 62)<=i/\i < 2 ^ 62 /\ -(2 ^ 62)<=j/\j < 2 ^ 62)/\FoR (Itr i (j - i).toNat) g tb D σ H1:=rfl
theorem Ykb{K:W.Frag}{tl:TE}{g:TG}{tb:TS}{D:Zq}{σ:St}{H:Hp}:XWa (Y1b K tl) g tb D σ H=tl σ H fun x H1=>∃ a,x=.ref a/\(∃ xs,SqL K H1 a xs)/\FoR (Itl K a) g tb D σ H1:=rfl
theorem Xzb{K:W.Frag}{tl:TE}{g:TG}{tb:TS}{D:Zq}{σ:St}{H:Hp}:XWa (Jnc K tl) g tb D σ H=tl σ H fun x H1=>∃ a,x=.ref a/\(∃ xs,SqT K H1 a xs)/\FoR (Itt K a) g tb D σ H1:=rfl
theorem XAb{tl:TE}{g:TG}{tb:TS}{D:Zq}{σ:St}{H:Hp}:XWa (JBc tl) g tb D σ H=tl σ H fun x H1=>∃ z,x=.str z/\FoR (Its z) g tb D σ H1:=rfl
theorem XBb{ta:TA}{tt:TT}{te:TE}{σ:St}{H:Hp}{Q:VK}:tLc (Y3b ta) tt te σ H Q=ta σ H fun vs H1=>∃ j:Int,vs=[.int j] /\ -(2 ^ 62)<=j/\j < 2 ^ 62/\LcR (Itr 0 j.toNat) tt te σ Q H1:=rfl
theorem XCb{K:W.Frag}{tl:TE}{tt:TT}{te:TE}{σ:St}{H:Hp}{Q:VK}:tLc (Y1b K tl) tt te σ H Q=tl σ H fun x H1=>∃ a,x=.ref a/\(∃ xs,SqL K H1 a xs)/\LcR (Itl K a) tt te σ Q H1:=rfl
theorem Zec{K:W.Frag}{tl:TE}{tt:TT}{te:TE}{σ:St}{H:Hp}{Q:VK}:tLc (Jnc K tl) tt te σ H Q=tl σ H fun x H1=>∃ a,x=.ref a/\(∃ xs,SqT K H1 a xs)/\LcR (Itt K a) tt te σ Q H1:=rfl
theorem Zfc{tl:TE}{tt:TT}{te:TE}{σ:St}{H:Hp}{Q:VK}:tLc (JBc tl) tt te σ H Q=tl σ H fun x H1=>∃ z,x=.str z/\LcR (Its z) tt te σ Q H1:=rfl
theorem JC{lo:Int}{n:Nat}{g:TG}{tb:TS}{D:Zq}{σ:St}{H:Hp}(Pv:Nat->St->Hp->Prop)(h0:Pv 0 σ H)
 (hs:∀ i σ H,i < n->Pv i σ H->g (.int (lo+i)) σ H fun σ2 H2=>tb { D with nx:=Pv (i+1),ct:=Pv (i+1),bk:=D.nx } σ2 H2) (hd:∀ σ H,Pv n σ H->D.nx σ H):FoR (Itr lo n) g tb D σ H:=J6b Pv h0 hs hd
theorem JI{K:W.Frag}{a:Addr}(xs:List V){g:TG}{tb:TS}{D:Zq}{σ:St}{H:Hp}(Pv:Nat->St->Hp->Prop)(h0:Pv 0 σ H)(hl:∀ i σ H,i<=xs.length->Pv i σ H->SqL K H a xs)
 (hs:∀ i x σ H,xs[i]?=some x->Pv i σ H->g x σ H fun σ2 H2=>tb { D with nx:=Pv (i+1),ct:=Pv (i+1),bk:=D.nx } σ2 H2) (hd:∀ σ H,Pv xs.length σ H->D.nx σ H):FoR (Itl K a) g tb D σ H:=Y5b Pv h0 hl hs hd
theorem Jwb{K:W.Frag}{a:Addr}(xs:List V){g:TG}{tb:TS}{D:Zq}{σ:St}{H:Hp}(Pv:Nat->St->Hp->Prop)(h0:Pv 0 σ H)(hl:∀ i σ H,i<=xs.length->Pv i σ H->SqT K H a xs)
 (hs:∀ i x σ H,xs[i]?=some x->Pv i σ H->g x σ H fun σ2 H2=>tb { D with nx:=Pv (i+1),ct:=Pv (i+1),bk:=D.nx } σ2 H2) (hd:∀ σ H,Pv xs.length σ H->D.nx σ H):FoR (Itt K a) g tb D σ H:=QJc Pv h0 hl hs hd
theorem Jxb{z:Str}{g:TG}{tb:TS}{D:Zq}{σ:St}{H:Hp}(Pv:Nat->St->Hp->Prop)(h0:Pv 0 σ H)
 (hs:∀ i c σ H,z.cps.toList[i]?=some c->Pv i σ H->g (.str ⟨#[c]⟩) σ H fun σ2 H2=>tb { D with nx:=Pv (i+1),ct:=Pv (i+1),bk:=D.nx } σ2 H2) (hd:∀ σ H,Pv z.length σ H->D.nx σ H):FoR (Its z) g tb D σ H:=Zcc Pv h0 hs hd
theorem JJc{J:It}{te:TE}{σ:St}{H1:Hp}{Q:VK}(n:Nat)(item:Nat->V->Prop)(P:Nat->V->Prop)(hz:n<=sizeLine)
 (hgo:∀ i H2,i < n->Qk H1 H2->J.go i H2/\∀ x H',J.yld i H2 x H'->H'=H2/\item i x) (hst:∀ H2,Qk H1 H2->J.stop n H2)
 (he:∀ i x H2 (R:VK),item i x->Qk H1 H2->(∀ v H3,P i v->Qk H2 H3->R v H3)->te (some x::σ) H2 R)
 (hq:∀ D H2 ys,H1 D=none->Qk H1 H2->H2 D=some (.lst ys)->ys.length=n->(∀ i y,ys[i]?=some y->P i y)->Q (.ref D) H2):LcR J Qcb te σ Q H1:=by
 intro D hD;refine⟨fun i m ys H2=>m=n - i/\i<=n/\ys.length=i/\H2 D=some (.lst ys)/\Qk H1 H2/\∀ j y,ys[j]?=some y->P j y,⟨_,rfl,Vk _,rfl,Qa,Qh hD _,fun j y h=>by simp at h⟩,?_⟩
 rintro i m ys H2 ⟨rfl,hi,hl,hd,sm,hp⟩;refine⟨hd,?_⟩
 by_cases hlt:i < n
 ·obtain⟨go,yl⟩:=hgo i H2 hlt sm
  refine .inr ⟨go,by omega,fun x H' y=>?_⟩
  obtain⟨e,hx⟩:=yl x H' y;subst e;unfold Qcb;refine YAc ?_
  refine he i x _ _ hx sm fun v H3 pv s3=>⟨s3 _ _ hd,n - (i+1),by omega,rfl,hlt,by rw[Vs,hl];rfl,Qa,(sm.trans s3).updL hD _,fun j y h=>?_⟩
  by_cases hj:j < ys.length
  ·rw[getElem?_append_left hj]at h
   exact hp j y h
  ·rw[getElem?_append_right (by omega)]at h
   have hj2:j=i:=by
    have:=(Vc.mp h).1
    simp at this
    omega
   subst hj2;rw[hl]at h;simp at h;subst h;exact pv
 ·have e:i=n:=by omega
  subst e;exact .inl ⟨hst H2 sm,hq D H2 ys hD sm hd hl hp⟩
theorem XDb{K:W.Frag}{a:Addr}(xs:List V){te:TE}{σ:St}{H1:Hp}{Q:VK}(P:Nat->V->Prop)(hx:SqL K H1 a xs)(hz:xs.length<=sizeLine)
 (he:∀ i x H2 (R:VK),xs[i]?=some x->Qk H1 H2->(∀ v H3,P i v->Qk H2 H3->R v H3)->te (some x::σ) H2 R)
 (hq:∀ D H2 ys,H1 D=none->Qk H1 H2->H2 D=some (.lst ys)->ys.length=xs.length->(∀ i y,ys[i]?=some y->P i y)->Q (.ref D) H2):LcR (Itl K a) Qcb te σ Q H1 :=
 JJc xs.length (fun i x=>xs[i]?=some x) P hz (fun i H2 hi s=>⟨⟨xs,xs[i],s.seq hx,by simp[hi]⟩,fun x H' y=>⟨y.1,y.2 xs (s.seq hx)⟩⟩) (fun H2 s=>⟨xs,s.seq hx,Ve _⟩) he hq
end L2
end
section
namespace SortT
open PySem PySem.W PyProof.Rows
def K(r:Nat->Nat)(p:Array Nat)(i:Nat):Nat:=r (p.getD i 0)
structure Ok(n:Nat)(p:Array Nat):Prop where
 size:p.size=n
 perm:p.Perm (List.range n).toArray
theorem Ok.lt{n:Nat}{p:Array Nat}(h:Ok n p)(hn:0 < n)(i:Nat):p.getD i 0 < n:=by
 rw[Array.getD_eq_getD_getElem?];cases e:p[i]? with
 | none=>exact hn
 | some x =>
  have hx:x∈p:=Array.mem_of_getElem? e;have:=(h.perm.mem_iff (a:=x)).mp hx
  simpa using this
def Up(r:Nat->Nat)(p:Array Nat)(m:Nat):Prop:=∀ i j,i<=j->j < m->K r p i<=K r p j
variable{n:Nat}{r:Nat->Nat}
end SortT
end
section
namespace SortB
open PySem PySem.W PyProof.Rows
def Xha:Bool->Keyed->Array Keyed->Nat->Nat->Nat->StateT SortSt Sem (Option Nat):=sortPriv% PySem.Builtin.gallop
def XEb:Array Keyed->Array Keyed->StateT SortSt Sem (Array Keyed):=sortPriv% PySem.Builtin.mergeLo
def XFb:Array Keyed->Array Keyed->StateT SortSt Sem (Array Keyed):=sortPriv% PySem.Builtin.mergeHi
def K(rk:Keyed->Nat)(a:Array Keyed)(i:Nat):Nat:=match a[i]? with | some p=>rk p | none=>0
theorem QZ{rk:Keyed->Nat}{a:Array Keyed}{i:Nat}(h:i < a.size):K rk a i=rk a[i]:=by unfold K;rw[getElem?_pos a i h]
theorem Zob{rk:Keyed->Nat}{a b:Array Keyed}{i j:Nat}(h:a[i]?=b[j]?):K rk a i=K rk b j:=by unfold K;rw[h]
section
variable{prog:Program}{w:World}{A:Around}{E:YQ_}{s:Shared}{κ:SortKind}{rk:Keyed->Nat}{S:Keyed->Prop}
def QFa(prog:Program)(w:World)(A:Around)(E:YQ_)(s:Shared)(κ:SortKind)(rk:Keyed->Nat)(S:Keyed->Prop):Prop :=
 ∀ x y (st:SortSt) (Q:Option Bool->SortSt->Prop),kindOf st=κ->S x->S y->Q (some (decide (rk x < rk y))) st->wpS (model prog w) A E s (lt' x y) Q st
theorem QD{a:Array Keyed}{i:Nat}{st:SortSt}{Q:Keyed->SortSt->Prop}(hi:i < a.size)(h:Q a[i] st):wpS (model prog w) A E s (elem' a i) Q st:=by
 rw[elem'_eq,getElem?_pos a i hi];exact wpS_pure h
theorem JKc(L:QFa prog w A E s κ rk S){st:SortSt}{i j:Nat}{Q:Option Bool->SortSt->Prop}(hk:kindOf st=κ)(hS:∀ x∈arrOf st,S x)(hi:i < (arrOf st).size)(hj:j < (arrOf st).size)
 (h:Q (some (decide (K rk (arrOf st) i < K rk (arrOf st) j))) st):wpS (model prog w) A E s (ltAt' i j) Q st:=by
 rw[ltAt'_eq];refine wpS_bind (wpS_get (wpS_bind (QD hi (wpS_bind (QD hj ?_)))))
 rw[QZ hi,QZ hj]at h;exact L _ _ st Q hk (hS _ (Array.getElem_mem hi)) (hS _ (Array.getElem_mem hj)) h
def bey(rk:Keyed->Nat)(left:Bool)(key:Keyed)(arr:Array Keyed)(bs i:Nat):Bool:=if left=true then decide (K rk arr (bs+i) < rk key) else !decide (rk key < K rk arr (bs+i))
theorem Z8a(L:QFa prog w A E s κ rk S){st:SortSt}{left:Bool}{key:Keyed}{arr:Array Keyed}{bs i:Nat}{Q:Option Bool->SortSt->Prop}(hk:kindOf st=κ)(hS:∀ x∈arr,S x)(hkey:S key)(hi:bs+i < arr.size)
 (h:Q (some (bey rk left key arr bs i)) st):wpS (model prog w) A E s (elem' arr (bs+i) >>= fun x=>if left=true then lt' x key else (lt' key x >>= fun r=>pure (Option.map (fun b=>!b) r))) Q st:=by
 refine wpS_bind (QD hi ?_)
 have hx:=hS _ (Array.getElem_mem hi);unfold bey at h;rw[QZ hi]at h;cases left with
 | true =>
  simp only[if_true]at h ⊢;exact L _ _ st Q hk hx hkey h
 | false =>
  simp only[Bool.false_eq_true,if_false]at h ⊢;exact wpS_bind (L _ _ st _ hk hkey hx (wpS_pure h))
theorem YFa(L:QFa prog w A E s κ rk S){st:SortSt}{left:Bool}{key:Keyed}{arr:Array Keyed}{bs n hint:Nat}{Q:Option Nat->SortSt->Prop}(hk:kindOf st=κ)(hS:∀ x∈arr,S x)(hkey:S key)(hb:bs+n<=arr.size)(hh:hint < n)
 (mono:∀ i j,i<=j->j < n->bey rk left key arr bs j=true->bey rk left key arr bs i=true)
 (h:∀ k,k<=n->(∀ i,i < k->bey rk left key arr bs i=true)->(∀ i,k<=i->i < n->bey rk left key arr bs i=false)->Q (some k) st):wpS (model prog w) A E s (Xha left key arr bs n hint) Q st:=by
 have monf:∀ i j,i<=j->j < n->bey rk left key arr bs i=false->bey rk left key arr bs j=false:=fun i j hij hj e=>by
  cases q:bey rk left key arr bs j with
  | false=>rfl
  | true=>rw[mono i j hij hj q]at e;cases e
 refine wpS_bind (Z8a L hk hS hkey (by omega) ?_)
 dsimp only;cases e0:bey rk left key arr bs hint with
 | true =>
  rw[if_pos rfl];refine wpS_bind (wpS_mono (wpS_forRange (I:=fun x c st'=>st'=st/\∃ l o,c=(none,l,o)/\l < o/\x < o/\l+1<=n - hint/\bey rk left key arr bs (hint+l)=true)
   (Q:=fun c st'=>st'=st/\∃ l o,c=(none,l,o)/\l < o/\l+1<=n - hint/\bey rk left key arr bs (hint+l)=true/\(o < n - hint->bey rk left key arr bs (hint+o)=false)) ?step ?fin ⟨rfl,0,1,rfl,by omega,by omega,by omega,e0⟩) ?post)
  case step =>
   rintro x c st' _ hx ⟨rfl,l,o,rfl,h1,h2,h3,h4⟩;dsimp only
   by_cases hge:o >= n - hint
   ·rw[if_pos hge]
    exact wpS_pure ⟨rfl,l,o,rfl,h1,h3,h4,fun z=>absurd z (by omega)⟩
   ·rw[if_neg hge]
    refine wpS_bind (Z8a L hk hS hkey (by omega) ?_)
    cases e1:bey rk left key arr bs (hint+o) with
    | true=>exact wpS_pure ⟨rfl,o,2 * o+1,rfl,by omega,by omega,by omega,e1⟩
    | false=>exact wpS_pure ⟨rfl,l,o,rfl,h1,h3,h4,fun _=>e1⟩
  case fin =>
   rintro c st' ⟨rfl,l,o,rfl,h1,h2,h3,h4⟩;exact⟨rfl,l,o,rfl,h1,h3,h4,fun z=>absurd z (by omega)⟩
  case post =>
   rintro c st'' ⟨rfl,l,o,rfl,h1,h3,h4,h5⟩;have a1:∀ i,i < hint+l+1->bey rk left key arr bs i=true:=fun i hi=>mono i (hint+l) (by omega) (by omega) h4
   have a2:∀ i,hint+min o (n - hint)<=i->i < n->bey rk left key arr bs i=false:=fun i hi hn=>monf (hint+o) i (by omega) hn (h5 (by omega))
   have a3:hint+l+1<=hint+min o (n - hint):=by omega
   have a4:hint+min o (n - hint)<=n:=by omega
   dsimp only;generalize hint+l+1=lo at a1 a2 a3 a4 ⊢;generalize hint+min o (n - hint)=hi at a1 a2 a3 a4 ⊢;refine wpS_bind (wpS_mono (wpS_forRange (I:=fun x c st'=>st'=st''/\∃ lo hi,c=(none,lo,hi)/\lo<=hi/\hi<=n/\hi - lo<=n - x/\(∀ i,i < lo->bey rk left key arr bs i=true)/\∀ i,hi<=i->i < n->bey rk left key arr bs i=false)
    (Q:=fun c st'=>st'=st''/\∃ hi,c=(none,hi,hi)/\hi<=n/\(∀ i,i < hi->bey rk left key arr bs i=true)/\∀ i,hi<=i->i < n->bey rk left key arr bs i=false) ?_ ?_ ⟨rfl,lo,hi,rfl,a3,a4,by omega,a1,a2⟩) ?_)
   ·rintro x c st' _ hx ⟨rfl,lo,hi,rfl,b1,b2,b3,b4,b5⟩
    dsimp only
    by_cases hge:lo >= hi
    ·rw[if_pos hge]
     have:lo=hi:=by omega
     subst this;exact wpS_pure ⟨rfl,lo,rfl,b2,b4,b5⟩
    ·rw[if_neg hge]
     refine wpS_bind (Z8a L hk hS hkey (by omega) ?_)
     cases e1:bey rk left key arr bs (lo+(hi - lo) / 2) with
     | true=>exact wpS_pure ⟨rfl,_,hi,rfl,by omega,b2,by omega,fun i hi'=>mono i _ (by omega) (by omega) e1,b5⟩
     | false=>exact wpS_pure ⟨rfl,lo,_,rfl,by omega,by omega,by omega,b4,fun i h1 h2=>monf _ i h1 h2 e1⟩
   ·rintro c st' ⟨rfl,lo,hi,rfl,b1,b2,b3,b4,b5⟩
    have:lo=hi:=by omega
    subst this;exact⟨rfl,lo,rfl,b2,b4,b5⟩
   ·rintro c st' ⟨rfl,hi,rfl,b2,b4,b5⟩
    exact wpS_pure (h hi b2 b4 b5)
 | false =>
  rw[if_neg (by simp)]
  refine wpS_bind (wpS_mono (wpS_forRange (I:=fun x c st'=>st'=st/\∃ l o,c=(none,l,o)/\l < o/\x < o/\l<=hint/\bey rk left key arr bs (hint - l)=false)
   (Q:=fun c st'=>st'=st/\∃ l o,c=(none,l,o)/\l < o/\l<=hint/\bey rk left key arr bs (hint - l)=false/\(o < hint+1->bey rk left key arr bs (hint - o)=true)) ?step ?fin ⟨rfl,0,1,rfl,by omega,by omega,by omega,e0⟩) ?post)
  case step =>
   rintro x c st' _ hx ⟨rfl,l,o,rfl,h1,h2,h3,h4⟩;dsimp only
   by_cases hge:o >= hint+1
   ·rw[if_pos hge]
    exact wpS_pure ⟨rfl,l,o,rfl,h1,h3,h4,fun z=>absurd z (by omega)⟩
   ·rw[if_neg hge]
    refine wpS_bind (Z8a L hk hS hkey (by omega) ?_)
    cases e1:bey rk left key arr bs (hint - o) with
    | true=>exact wpS_pure ⟨rfl,l,o,rfl,h1,h3,h4,fun _=>e1⟩
    | false=>exact wpS_pure ⟨rfl,o,2 * o+1,rfl,by omega,by omega,by omega,e1⟩
  case fin =>
   rintro c st' ⟨rfl,l,o,rfl,h1,h2,h3,h4⟩;exact⟨rfl,l,o,rfl,h1,h3,h4,fun z=>absurd z (by omega)⟩
  case post =>
   rintro c st'' ⟨rfl,l,o,rfl,h1,h3,h4,h5⟩;have a1:∀ i,i < hint+1 - min o (hint+1)->bey rk left key arr bs i=true:=fun i hi=>mono i (hint - o) (by omega) (by omega) (h5 (by omega))
   have a2:∀ i,hint - l<=i->i < n->bey rk left key arr bs i=false:=fun i hi hn=>monf (hint - l) i hi hn h4
   have a3:hint+1 - min o (hint+1)<=hint - l:=by omega
   have a4:hint - l<=n:=by omega
   dsimp only;generalize hint+1 - min o (hint+1)=lo at a1 a2 a3 a4 ⊢;generalize hint - l=hi at a1 a2 a3 a4 ⊢;refine wpS_bind (wpS_mono (wpS_forRange (I:=fun x c st'=>st'=st''/\∃ lo hi,c=(none,lo,hi)/\lo<=hi/\hi<=n/\hi - lo<=n - x/\(∀ i,i < lo->bey rk left key arr bs i=true)/\∀ i,hi<=i->i < n->bey rk left key arr bs i=false)
    (Q:=fun c st'=>st'=st''/\∃ hi,c=(none,hi,hi)/\hi<=n/\(∀ i,i < hi->bey rk left key arr bs i=true)/\∀ i,hi<=i->i < n->bey rk left key arr bs i=false) ?_ ?_ ⟨rfl,lo,hi,rfl,a3,a4,by omega,a1,a2⟩) ?_)
   ·rintro x c st' _ hx ⟨rfl,lo,hi,rfl,b1,b2,b3,b4,b5⟩
    dsimp only
    by_cases hge:lo >= hi
    ·rw[if_pos hge]
     have:lo=hi:=by omega
     subst this;exact wpS_pure ⟨rfl,lo,rfl,b2,b4,b5⟩
    ·rw[if_neg hge]
     refine wpS_bind (Z8a L hk hS hkey (by omega) ?_)
     cases e1:bey rk left key arr bs (lo+(hi - lo) / 2) with
     | true=>exact wpS_pure ⟨rfl,_,hi,rfl,by omega,b2,by omega,fun i hi'=>mono i _ (by omega) (by omega) e1,b5⟩
     | false=>exact wpS_pure ⟨rfl,lo,_,rfl,by omega,by omega,by omega,b4,fun i h1 h2=>monf _ i h1 h2 e1⟩
   ·rintro c st' ⟨rfl,lo,hi,rfl,b1,b2,b3,b4,b5⟩
    have:lo=hi:=by omega
    subst this;exact⟨rfl,lo,rfl,b2,b4,b5⟩
   ·rintro c st' ⟨rfl,hi,rfl,b2,b4,b5⟩
    exact wpS_pure (h hi b2 b4 b5)
end
end SortB
end
section
namespace SortB
open PySem PySem.W PyProof.Rows
abbrev Rs(rk:Keyed->Nat)(l:List Keyed):Prop:=l.Pairwise fun x y=>rk x<=rk y
structure Mg(rk:Keyed->Nat)(la lb out:List Keyed)(ia ib:Nat):Prop where
 perm:out.Perm (la.take ia++lb.take ib)
 pw:Rs rk out
 ra:∀ x∈out,∀ y∈la.drop ia,rk x<=rk y
 rb:∀ x∈out,∀ y∈lb.drop ib,rk x<=rk y
section
variable{rk:Keyed->Nat}{la lb out:List Keyed}{ia ib k:Nat}
theorem Z9a(l:List Keyed)(i k:Nat):l.drop i=(l.drop i).take k++l.drop (i+k):=by
 rw[<- drop_drop,take_append_drop]
theorem Mg.takeA(m:Mg rk la lb out ia ib)(pa:Rs rk la)(k:Nat)(h:∀ x∈(la.drop ia).take k,∀ y∈lb.drop ib,rk x<=rk y):Mg rk la lb (out++(la.drop ia).take k) (ia+k) ib:=by
 have pd:Rs rk (la.drop ia):=pa.sublist (drop_sublist _ _);have ps:=Z9a la ia k;refine⟨?_,?_,?_,?_⟩
 ·have e:la.take (ia+k)=la.take ia++(la.drop ia).take k:=by rw[take_add]
  rw[e];refine(m.perm.append_right _).trans ?_
  rw[Vq,Vq];exact(perm_append_comm).append_left _
 ·refine pairwise_append.mpr ⟨m.pw,pd.sublist (take_sublist _ _),fun x hx y hy=>m.ra x hx y (mem_of_mem_take hy)⟩
 ·intro x hx y hy
  rcases Vl.mp hx with hx | hx
  ·exact m.ra x hx y (by rw[ps];exact Vp _ hy)
  ·rw[ps]at pd
   exact(pairwise_append.mp pd).2.2 x hx y hy
 ·intro x hx y hy
  rcases Vl.mp hx with hx | hx
  ·exact m.rb x hx y hy
  ·exact h x hx y hy
theorem Mg.swap(m:Mg rk la lb out ia ib):Mg rk lb la out ib ia:=⟨m.perm.trans perm_append_comm,m.pw,m.rb,m.ra⟩
theorem Mg.takeB(m:Mg rk la lb out ia ib)(pb:Rs rk lb)(k:Nat)(h:∀ x∈(lb.drop ib).take k,∀ y∈la.drop ia,rk x<=rk y):Mg rk la lb (out++(lb.drop ib).take k) ia (ib+k):=(m.swap.takeA pb k h).swap
theorem Mg.done(m:Mg rk la lb out ia ib)(pa:Rs rk la)(pb:Rs rk lb)(h:∀ x∈la.drop ia,∀ y∈lb.drop ib,rk x<=rk y):(out++la.drop ia++lb.drop ib).Perm (la++lb)/\Rs rk (out++la.drop ia++lb.drop ib):=by
 have e1:(la.drop ia).take la.length=la.drop ia:=take_of_length_le (by rw[length_drop];omega)
 have e2:(lb.drop ib).take lb.length=lb.drop ib:=take_of_length_le (by rw[length_drop];omega)
 have m1:=m.takeA pa la.length (by rw[e1];exact h)
 rw[e1]at m1;have z:la.drop (ia+la.length)=[]:=drop_eq_nil_of_le (by omega)
 have m2:=m1.takeB pb lb.length (by rw[z];intro _ _ _ q;cases q)
 rw[e2]at m2;refine⟨?_,m2.pw⟩
 have:=m2.perm
 rwa [take_of_length_le (by omega),take_of_length_le (by omega)]at this
theorem Mg.doneB(m:Mg rk la lb out ia ib)(pa:Rs rk la)(pb:Rs rk lb)(h:∀ x∈lb.drop ib,∀ y∈la.drop ia,rk x<=rk y):(out++lb.drop ib++la.drop ia).Perm (la++lb)/\Rs rk (out++lb.drop ib++la.drop ia):=by
 obtain⟨a,b⟩:=m.swap.done pb pa h;exact⟨a.trans perm_append_comm,b⟩
end
section
variable{rk:Keyed->Nat}{a:Array Keyed}{i j k n:Nat}{x:Keyed}
theorem ZMa(a:Array Keyed)(i:Nat):(a.extract i a.size).toList=a.toList.drop i:=by
 rw[Array.toList_extract,extract_eq_take_drop];exact take_of_length_le (by simp)
theorem Je(a:Array Keyed)(i j:Nat):(a.extract i j).toList=(a.toList.drop i).take (j - i):=by
 rw[Array.toList_extract,extract_eq_take_drop]
theorem Ys(h:i < a.size):(a.toList.drop i).take 1=[a[i]]:=by
 rw[drop_eq_getElem_cons (by simpa using h)]
 simp
theorem YQ(h:x∈(a.toList.drop i).take k):∃ j,j < k/\i+j < a.size/\rk x=K rk a (i+j):=by
 obtain⟨j,hj,e⟩:=getElem_of_mem h;have h1:j < k/\i+j < a.size:=by
  rw[length_take,length_drop,Array.length_toList]at hj
  omega
 refine⟨j,h1.1,h1.2,?_⟩
 rw[QZ h1.2,<- e];simp
theorem QGa(h:x∈a.toList.drop i):∃ j,i<=j/\j < a.size/\rk x=K rk a j:=by
 obtain⟨j,hj,e⟩:=getElem_of_mem h;have h1:i+j < a.size:=by
  rw[length_drop,Array.length_toList]at hj
  omega
 refine⟨i+j,by omega,h1,?_⟩
 rw[QZ h1,<- e];simp
theorem Rs.le(h:Rs rk a.toList)(hij:i<=j)(hj:j < a.size):K rk a i<=K rk a j:=by
 by_cases e:i=j
 ·rw[e];exact Ve _
 ·rw[QZ (show i < a.size by omega),QZ hj]
  have:=pairwise_iff_getElem.mp h i j (by simp;omega) (by simp;omega) (by omega)
  simpa using this
end
abbrev ZY(st:SortSt)(g:Nat):SortSt:=SortSt.mk' (kindOf st) (arrOf st) (pendingOf st) g (failedOf st)
section
variable{prog:Program}{w:World}{A:Around}{E:YQ_}{s:Shared}{κ:SortKind}{rk:Keyed->Nat}{S:Keyed->Prop}
theorem JLc(L:QFa prog w A E s κ rk S){st:SortSt}{key:Keyed}{arr:Array Keyed}{bs n hint:Nat}{Q:Option Nat->SortSt->Prop}(hk:kindOf st=κ)(hS:∀ x∈arr,S x)(hkey:S key)(hb:bs+n<=arr.size)(hh:hint < n)
 (up:∀ i j,bs<=i->i<=j->j < bs+n->K rk arr i<=K rk arr j)
 (h:∀ k,k<=n->(∀ i,i < k->K rk arr (bs+i)<=rk key)->(∀ i,k<=i->i < n->rk key < K rk arr (bs+i))->Q (some k) st):wpS (model prog w) A E s (Xha false key arr bs n hint) Q st:=by
 have e:∀ i,bey rk false key arr bs i=!decide (rk key < K rk arr (bs+i)):=fun i=>by unfold bey;rw[if_neg (by simp)]
 refine YFa L hk hS hkey hb hh (fun i j hij hj=>?_) fun k hk1 h1 h2=>h k hk1 (fun i hi=>?_) fun i hi hn=>?_
 ·rw[e,e]
  have:=up (bs+i) (bs+j) (by omega) (by omega) (by omega)
  simp only[Bool.not_eq_true',decide_eq_false_iff_not]
  omega
 ·have:=h1 i hi
  rw[e]at this;simp only[Bool.not_eq_true',decide_eq_false_iff_not]at this
  omega
 ·have:=h2 i hi hn
  rw[e]at this
  simpa using this
theorem JMc(L:QFa prog w A E s κ rk S){st:SortSt}{key:Keyed}{arr:Array Keyed}{bs n hint:Nat}{Q:Option Nat->SortSt->Prop}(hk:kindOf st=κ)(hS:∀ x∈arr,S x)(hkey:S key)(hb:bs+n<=arr.size)(hh:hint < n)
 (up:∀ i j,bs<=i->i<=j->j < bs+n->K rk arr i<=K rk arr j)
 (h:∀ k,k<=n->(∀ i,i < k->K rk arr (bs+i) < rk key)->(∀ i,k<=i->i < n->rk key<=K rk arr (bs+i))->Q (some k) st):wpS (model prog w) A E s (Xha true key arr bs n hint) Q st:=by
 have e:∀ i,bey rk true key arr bs i=decide (K rk arr (bs+i) < rk key):=fun i=>by unfold bey;rw[if_pos rfl]
 refine YFa L hk hS hkey hb hh (fun i j hij hj=>?_) fun k hk1 h1 h2=>h k hk1 (fun i hi=>?_) fun i hi hn=>?_
 ·rw[e,e]
  have:=up (bs+i) (bs+j) (by omega) (by omega) (by omega)
  simp only[decide_eq_true_eq]
  omega
 ·have:=h1 i hi
  rw[e]at this
  simpa using this
 ·have:=h2 i hi hn
  rw[e]at this
  simpa using this
theorem Jyb{α:Type}{m:StateT SortSt Sem α}{Q:α->SortSt->Prop}{st:SortSt}(h:∀ QQ:α->SortSt->Prop,(∀ r s,Q r s->QQ r s)->wpS (model prog w) A E s m QQ st):wpS (model prog w) A E s m Q st:=h Q fun _ _ z=>z
theorem YR{α:Type}{c:Prop}[Decidable c]{m n:StateT SortSt Sem α}{Q:α->SortSt->Prop}{st:SortSt}(h1:c->wpS (model prog w) A E s m Q st)(h2:¬ c->wpS (model prog w) A E s n Q st):wpS (model prog w) A E s (if c then m else n) Q st:=by
 by_cases h:c
 ·rw[if_pos h];exact h1 h
 ·rw[if_neg h];exact h2 h
theorem Z9{α:Type}{x y:Nat}{m n:StateT SortSt Sem α}{Q:α->SortSt->Prop}{st:SortSt}(h1:x=y->wpS (model prog w) A E s m Q st)(h2:¬ x=y->wpS (model prog w) A E s n Q st):wpS (model prog w) A E s (if (x == y)=true then m else n) Q st :=
 YR (fun h=>h1 (eq_of_beq h)) fun h=>h2 fun e=>h (by rw[e];exact beq_self_eq_true _)
theorem Zpb(L:QFa prog w A E s κ rk S){st:SortSt}{a b:Array Keyed}{Q:Array Keyed->SortSt->Prop}(hk:kindOf st=κ)(hSa:∀ x∈a,S x)(hSb:∀ x∈b,S x)(na:0 < a.size)(nb:0 < b.size)(pa:Rs rk a.toList)(pb:Rs rk b.toList)
 (h0:K rk b 0<=K rk a 0) (hl:∀ i,i < b.size->K rk b i < K rk a (a.size - 1)) (h:∀ out g,out.toList.Perm (a.toList++b.toList)->Rs rk out.toList->Q out (ZY st g)):wpS (model prog w) A E s (XEb a b) Q st:=by
 have ua:∀ i j,i<=j->j < a.size->K rk a i<=K rk a j:=fun i j h1 h2=>pa.le h1 h2
 have ub:∀ i j,i<=j->j < b.size->K rk b i<=K rk b j:=fun i j h1 h2=>pb.le h1 h2
 have m0:Mg rk a.toList b.toList (#[b[0]]:Array Keyed).toList 0 1:=by
  have e1:b.toList.take 1=[b[0]]:=by have:=Ys nb;simpa using this
  refine⟨by rw[e1];simp,by simp,fun x hx y hy=>?_,fun x hx y hy=>?_⟩
  ·obtain⟨j,_,hj,e⟩:=QGa (rk:=rk) hy
   have:x=b[0]:=by simpa using hx
   rw[this,e,<- QZ (rk:=rk) nb];exact Vj h0 (ua 0 j (by omega) hj)
  ·obtain⟨j,_,hj,e⟩:=QGa (rk:=rk) hy
   have:x=b[0]:=by simpa using hx
   rw[this,e,<- QZ (rk:=rk) nb];exact ub 0 j (by omega) hj
 have done:∀ (out:Array Keyed) (ia ib:Nat),Mg rk a.toList b.toList out.toList ia ib->ib=b.size->(out++a.extract ia a.size++b.extract ib b.size).toList.Perm (a.toList++b.toList)/\Rs rk (out++a.extract ia a.size++b.extract ib b.size).toList:=fun out ia ib m e=>by
  rw[Array.toList_append,Array.toList_append,ZMa,ZMa];exact m.done pa pb fun x _ y hy=>by
   obtain⟨j,h1,h2,_⟩:=QGa (rk:=rk) hy
   omega
 have lastA:∀ (out:Array Keyed) (ia ib:Nat),Mg rk a.toList b.toList out.toList ia ib->ia+1=a.size->(out++b.extract ib b.size++a.extract ia a.size).toList.Perm (a.toList++b.toList)/\Rs rk (out++b.extract ib b.size++a.extract ia a.size).toList:=fun out ia ib m e=>by
  rw[Array.toList_append,Array.toList_append,ZMa,ZMa];exact m.doneB pa pb fun x hx y hy=>by
   obtain⟨j,h1,h2,e1⟩:=QGa (rk:=rk) hx;obtain⟨i,h3,h4,e2⟩:=QGa (rk:=rk) hy;have:i=a.size - 1:=by omega
   rw[e1,e2,this];exact Vv (hl j h2)
 have pushA:∀ (out:Array Keyed) (ia ib:Nat) (hi:ia < a.size),Mg rk a.toList b.toList out.toList ia ib->(ib < b.size->K rk a ia<=K rk b ib)->Mg rk a.toList b.toList (out.push a[ia]).toList (ia+1) ib:=fun out ia ib hi m hle=>by
  have:=m.takeA pa 1 fun x hx y hy=>by
   obtain⟨j,h1,h2,e1⟩:=YQ (rk:=rk) hx;obtain⟨i,h3,h4,e2⟩:=QGa (rk:=rk) hy;have:j=0:=by omega
   subst this;rw[e1,e2];exact Vj (hle (by omega)) (ub ib i h3 h4)
  rwa [Ys hi,<- Array.toList_push]at this
 have pushB:∀ (out:Array Keyed) (ia ib:Nat) (hi:ib < b.size),Mg rk a.toList b.toList out.toList ia ib->(ia < a.size->K rk b ib<=K rk a ia)->Mg rk a.toList b.toList (out.push b[ib]).toList ia (ib+1):=fun out ia ib hi m hle=>by
  have:=m.takeB pb 1 fun x hx y hy=>by
   obtain⟨j,h1,h2,e1⟩:=YQ (rk:=rk) hx;obtain⟨i,h3,h4,e2⟩:=QGa (rk:=rk) hy;have:j=0:=by omega
   subst this;rw[e1,e2];exact Vj (hle (by omega)) (ua ia i h3 h4)
  rwa [Ys hi,<- Array.toList_push]at this
 refine wpS_bind (wpS_lift (wpAny_rule ⟨rfl,?_⟩))
 refine wpS_bind (QD nb ?_)
 dsimp -zeta only
 by_cases hb1:1=b.size
 ·rw[if_pos (by simpa using hb1)]
  obtain⟨p,r⟩:=done _ 0 1 m0 hb1;exact wpS_pure (h _ (gallopOf st) p r)
 rw[if_neg (by simpa using hb1)]
 by_cases ha1:0+1=a.size
 ·rw[if_pos (by simpa using ha1)]
  obtain⟨p,r⟩:=lastA _ 0 1 m0 ha1;exact wpS_pure (h _ (gallopOf st) p r)
 rw[if_neg (by simpa using ha1)]
 refine wpS_bind (wpS_get (wpS_bind (wpS_mono (wpS_forRange
  (I:=fun x c st'=>∃ out ia ib g g',c=(none,out,ia,ib,g)/\st'=ZY st g'/\Mg rk a.toList b.toList (out:Array Keyed).toList ia ib/\ia+1 < a.size/\ib < b.size/\x<=ia+ib)
  (Q:=fun c st'=>∃ r g' z,c=(some r,z)/\st'=ZY st g'/\(r:Array Keyed).toList.Perm (a.toList++b.toList)/\Rs rk r.toList) ?step ?fin ⟨_,0,1,_,gallopOf st,rfl,rfl,m0,by omega,by omega,by omega⟩) ?post)))
 case post =>
  rintro c st' ⟨r,g',z,rfl,rfl,p,q⟩;exact wpS_pure (h r g' p q)
 case fin =>
  rintro c st' ⟨out,ia,ib,g,g',rfl,rfl,m,h1,h2,h3⟩
  omega
 case step =>
  rintro x c st' _ hx ⟨out,ia,ib,g,g',rfl,rfl,m,h1,h2,h3⟩;dsimp -zeta only;refine wpS_bind (wpS_mono (wpS_forRange
   (I:=fun y c st'=>st'=ZY st g'/\∃ out ja jb ac bc,c=(none,out,ja,jb,ac,bc)/\Mg rk a.toList b.toList (out:Array Keyed).toList ja jb/\ja+1 < a.size/\jb < b.size/\y+(ia+ib)<=ja+jb)
   (Q:=fun c st'=>st'=ZY st g'/\((∃ out ja jb ac bc,c=(none,out,ja,jb,ac,bc)/\Mg rk a.toList b.toList (out:Array Keyed).toList ja jb/\ja+1 < a.size/\jb < b.size/\ia+ib<=ja+jb)\/∃ r z,c=(some r,z)/\(r:Array Keyed).toList.Perm (a.toList++b.toList)/\Rs rk r.toList)) ?istep ?ifin ⟨rfl,out,ia,ib,0,0,rfl,m,h1,h2,by omega⟩) ?ipost)
  case ifin =>
   rintro c st' ⟨rfl,out,ja,jb,ac,bc,rfl,m,h4,h5,h6⟩
   omega
  case istep =>
   rintro y c st' _ hy ⟨rfl,out,ja,jb,ac,bc,rfl,m,h4,h5,h6⟩;dsimp -zeta only;refine wpS_bind (QD h5 (wpS_bind (QD (show ja < a.size by omega) (wpS_bind (L _ _ _ _ hk (hSb _ (Array.getElem_mem h5)) (hSa _ (Array.getElem_mem _)) ?_)))))
   by_cases hw:rk b[jb] < rk a[ja]
   ·have m1:=pushB out ja jb h5 m fun _=>by rw[QZ h5,QZ (show ja < a.size by omega)];exact Vv hw
    simp only[hw,decide_true,if_true];refine wpS_bind (QD h5 ?_)
    by_cases he:jb+1=b.size
    ·rw[if_pos (by simpa using he)]
     exact wpS_pure ⟨rfl,.inr ⟨_,_,rfl,done _ ja (jb+1) m1 he⟩⟩
    ·rw[if_neg (by simpa using he)]
     by_cases hc:bc+1 >= g
     ·rw[if_pos hc]
      exact wpS_pure ⟨rfl,.inl ⟨_,_,_,_,_,rfl,m1,h4,by omega,by omega⟩⟩
     ·rw[if_neg hc]
      exact wpS_pure ⟨rfl,_,_,_,_,_,rfl,m1,h4,by omega,by omega⟩
   ·have m1:=pushA out ja jb (by omega) m fun _=>by rw[QZ h5,QZ (show ja < a.size by omega)];omega
    simp only[hw,decide_false,Bool.false_eq_true,if_false];refine wpS_bind (QD (show ja < a.size by omega) ?_)
    by_cases he:ja+1+1=a.size
    ·rw[if_pos (by simpa using he)]
     exact wpS_pure ⟨rfl,.inr ⟨_,_,rfl,lastA _ (ja+1) jb m1 he⟩⟩
    ·rw[if_neg (by simpa using he)]
     by_cases hc:ac+1 >= g
     ·rw[if_pos hc]
      exact wpS_pure ⟨rfl,.inl ⟨_,_,_,_,_,rfl,m1,by omega,h5,by omega⟩⟩
     ·rw[if_neg hc]
      exact wpS_pure ⟨rfl,_,_,_,_,_,rfl,m1,by omega,h5,by omega⟩
  case ipost =>
   rintro c st' ⟨rfl,⟨out,ja,jb,ac,bc,rfl,m,h4,h5,h6⟩ | ⟨r,z,rfl,p,q⟩⟩
   ·dsimp -zeta only
    refine wpS_bind (wpS_lift (wpAny_rule ⟨rfl,?_⟩))
    refine wpS_bind (wpS_mono (wpS_forRange
     (I:=fun y c st'=>∃ out ka kb g g' ac bc,c=(none,out,ka,kb,g,ac,bc)/\st'=ZY st g'/\Mg rk a.toList b.toList (out:Array Keyed).toList ka kb/\ka+1 < a.size/\kb < b.size/\y+(ja+jb)<=ka+kb)
     (Q:=fun c st'=>(∃ out ka kb g g' ac bc,c=(none,out,ka,kb,g,ac,bc)/\st'=ZY st g'/\Mg rk a.toList b.toList (out:Array Keyed).toList ka kb/\ka+1 < a.size/\kb < b.size/\ja+jb+1<=ka+kb)\/∃ r z g',c=(some r,z)/\st'=ZY st g'/\(r:Array Keyed).toList.Perm (a.toList++b.toList)/\Rs rk r.toList) ?jstep ?jfin ⟨out,ja,jb,_,g',ac,bc,rfl,rfl,m,h4,h5,by omega⟩) ?jpost)
    case jfin =>
     rintro c st' ⟨out,ka,kb,g,g',ac,bc,rfl,rfl,m,h7,h8,h9⟩
     omega
    case jpost =>
     rintro c st' (⟨out,ka,kb,g,g',ac,bc,rfl,rfl,m,h7,h8,h9⟩ | ⟨r,z,g',rfl,rfl,p,q⟩)
     ·dsimp -zeta only
      refine wpS_bind (wpS_modify (wpS_pure ⟨out,ka,kb,_,g+1,rfl,rfl,m,h7,h8,by omega⟩))
     ·exact wpS_pure ⟨r,g',_,rfl,rfl,p,q⟩
    case jstep =>
     intro y c st' _ hy hZ;obtain⟨out,ka,kb,g,g',ac,bc,rfl,rfl,m,h7,h8,h9⟩:=hZ;refine Jyb fun QQ hQ=>?_
     have qd:∀ (r:Array Keyed) z g',r.toList.Perm (a.toList++b.toList)/\Rs rk r.toList->QQ (.done (some r,z)) (ZY st g'):=fun r z g' p=>hQ _ _ (.inr ⟨r,z,g',rfl,rfl,p.1,p.2⟩)
     have qn:∀ (o:Array Keyed) ka' kb' g g' ac bc,Mg rk a.toList b.toList o.toList ka' kb'->ka'+1 < a.size->kb' < b.size->ka+kb+1<=ka'+kb'->QQ (.done (none,o,ka',kb',g,ac,bc)) (ZY st g')/\QQ (.yield (none,o,ka',kb',g,ac,bc)) (ZY st g'):=fun o ka' kb' g g' ac bc m z1 z2 z3=>⟨hQ _ _ (.inl ⟨o,ka',kb',g,g',ac,bc,rfl,rfl,m,z1,z2,by omega⟩),hQ _ _ ⟨o,ka',kb',g,g',ac,bc,rfl,rfl,m,z1,z2,by omega⟩⟩
     clear hQ h9 hy h4 h5 h6 h1 h2 h3 hx;dsimp -zeta only
     extract_lets -underBinder c0 o1 c1 i1 c2 i2 c3 g2 c4 a2 b2 jp mg
     have hj:∀ u g1,wpS (model prog w) A E s (jp u g1) QQ (ZY st g'):=by
      intro u g1;dsimp -zeta only [jp,b2,a2,c4,g2,c3,i2,c2,i1,c1,o1,c0];clear mg jp b2 a2 c4 g2 c3 i2 c2 i1 c1 o1 c0;refine wpS_bind (wpS_modify ?_)
      refine wpS_bind (QD h8 (wpS_bind (JLc L hk hSa (hSb _ (Array.getElem_mem h8)) (by omega) (by omega) (fun i j h1 h2 h3=>ua i j h2 (by omega)) fun k hkn q1 q2=>?_)))
      dsimp -zeta only;rw[<- QZ (rk:=rk) h8]at q1 q2;have hlt:ka+k < a.size:=by
       by_cases hz:ka+k < a.size
       ·exact hz
       ·have z1:=q1 (a.size - 1 - ka) (by omega)
        rw[show ka+(a.size - 1 - ka)=a.size - 1 by omega]at z1
        have z2:=hl kb h8
        omega
      have m1:Mg rk a.toList b.toList (out++a.extract ka (ka+k)).toList (ka+k) kb:=by
       rw[Array.toList_append,Je,show ka+k - ka=k by omega]
       refine m.takeA pa k fun x hx y hy=>?_
       obtain⟨j,hj1,hj2,e1⟩:=YQ (rk:=rk) hx;obtain⟨i,hi1,hi2,e2⟩:=QGa (rk:=rk) hy;rw[e1,e2];exact Vj (q1 j hj1) (ub kb i hi1 hi2)
      have q3:K rk b kb<=K rk a (ka+k):=Vv (q2 k (Ve _) (by omega))
      have q4:k=0->out++a.extract ka (ka+k)=out:=fun e=>by
       subst e;rw[Nat.add_zero,Array.extract_empty_of_stop_le_start (Ve _)];simp
      extract_lets -underBinder ac1 jp1 o1 i1
      have hj1:∀ u (o:Array Keyed) ka1,Mg rk a.toList b.toList o.toList ka1 kb->ka<=ka1->ka1+1 < a.size->K rk b kb<=K rk a ka1->wpS (model prog w) A E s (jp1 u o ka1) QQ (ZY st g1):=by
       intro u o ka1 m1 h11 h10 q3;dsimp -zeta only [jp1];clear o1 i1 jp1 q4 m q1 q2 hlt;clear_value ac1;have ha1:ka1 < a.size:=by omega
       refine wpS_bind (QD h8 ?_)
       have m2:=pushB o ka1 kb h8 m1 fun _=>q3
       clear m1 q3;generalize o.push b[kb]=o2 at m2 ⊢
       extract_lets -underBinder ib2
       refine Z9 (fun he2=>wpS_pure (qd _ _ _ (done _ ka1 (kb+1) m2 he2))) fun he2=>?_
       replace he2:¬ kb+1=b.size:=he2;dsimp -zeta only [ib2];clear ib2;refine wpS_bind (QD ha1 (wpS_bind (JMc L hk hSb (hSa _ (Array.getElem_mem ha1)) (by omega) (by omega) (fun i j h1 h2 h3=>ub i j h2 (by omega)) fun k2 hkn2 q5 q6=>?_)))
       dsimp -zeta only;rw[<- QZ (rk:=rk) ha1]at q5 q6;have m3:Mg rk a.toList b.toList (o2++b.extract (kb+1) (kb+1+k2)).toList ka1 (kb+1+k2):=by
        rw[Array.toList_append,Je,show kb+1+k2 - (kb+1)=k2 by omega]
        refine m2.takeB pb k2 fun x hx y hy=>?_
        obtain⟨j,hj1,hj2,e1⟩:=YQ (rk:=rk) hx;obtain⟨i,hi1,hi2,e2⟩:=QGa (rk:=rk) hy;rw[e1,e2];exact Vj (Vv (q5 j hj1)) (ua ka1 i hi1 hi2)
       extract_lets -underBinder bc1 jp2 o3 ib3
       have hj2:∀ u (o:Array Keyed) kb1,Mg rk a.toList b.toList o.toList ka1 kb1->kb < kb1->kb1 < b.size->K rk a ka1<=K rk b kb1->wpS (model prog w) A E s (jp2 u o kb1) QQ (ZY st g1):=by
        intro u o kb1 m3 h12 h13 q7;dsimp -zeta only [jp2];clear o3 ib3 jp2;clear_value bc1;refine wpS_bind (QD ha1 ?_)
        have m4:=pushA o ka1 kb1 ha1 m3 fun _=>q7
        refine Z9 (fun he4=>wpS_pure (qd _ _ _ (lastA _ (ka1+1) kb1 m4 he4))) fun he4=>?_
        replace he4:¬ ka1+1+1=a.size:=he4;have:=fun g gg ac bc=>qn _ _ _ g gg ac bc m4 (by omega) h13 (by omega)
        exact YR (fun _=>wpS_pure (this _ _ _ _).1) fun _=>wpS_pure (this _ _ _ _).2
       refine YR (fun hk2=>Z9 (fun he3=>wpS_pure (qd _ _ _ (done _ ka1 (kb+1+k2) m3 he3))) fun he3=>?_) fun hk2=>?_
       ·replace he3:¬ kb+1+k2=b.size:=he3
        exact hj2 () _ _ m3 (show kb < kb+1+k2 by omega) (show kb+1+k2 < b.size by omega) (q6 k2 (Ve _) (by omega))
       ·exact hj2 () _ _ m2 (Nat.lt_succ_self _) (by omega) (q6 0 (by omega) (by omega))
      refine YR (fun hk0=>Z9 (fun he=>wpS_pure (qd _ _ _ (lastA _ (ka+k) kb m1 he))) fun he=>Z9 (fun he'=>?_) fun _=>?_) fun hk0=>?_
      ·exact absurd (show ka+k=a.size from he') (by omega)
      ·replace he:¬ ka+k+1=a.size:=he
       exact hj1 () _ _ m1 (by omega) (show ka+k+1 < a.size by omega) q3
      ·have hkz:k=0:=by omega
       rw[hkz]at q3;exact hj1 () _ _ m (Ve _) h7 q3
     exact YR (fun _=>hj () _) fun _=>hj () _
   ·exact wpS_pure ⟨r,g',_,rfl,rfl,p,q⟩
end
end SortB
end
section
namespace SortB
open PySem PySem.W PyProof.Rows
structure Mh(rk:Keyed->Nat)(la lb R:List Keyed)(na nb:Nat):Prop where
 perm:R.Perm (la.drop na++lb.drop nb)
 pw:Rs rk R
 ra:∀ x∈la.take na,∀ y∈R,rk x<=rk y
 rb:∀ x∈lb.take nb,∀ y∈R,rk x<=rk y
section
variable{rk:Keyed->Nat}{la lb R:List Keyed}{na nb k:Nat}
theorem Mh.swap(m:Mh rk la lb R na nb):Mh rk lb la R nb na:=⟨m.perm.trans perm_append_comm,m.pw,m.rb,m.ra⟩
theorem Qgb{l:List Keyed}{k n:Nat}(h:k<=n):l.drop k=(l.drop k).take (n - k)++l.drop n:=by
 have e:l.drop n=(l.drop k).drop (n - k):=by rw[drop_drop];congr 1;omega
 rw[e,take_append_drop]
theorem XGb{l:List Keyed}{k n:Nat}(h:k<=n):l.take n=l.take k++(l.drop k).take (n - k):=by
 have e:n=k+(n - k):=by omega
 rw[e,take_add]
 congr 2
 omega
theorem Mh.takeA(m:Mh rk la lb R na nb)(pa:Rs rk la)(k:Nat)(hk:k<=na)(h:∀ x∈lb.take nb,∀ y∈(la.drop k).take (na - k),rk x<=rk y):Mh rk la lb ((la.drop k).take (na - k)++R) k nb:=by
 have pt:Rs rk (la.take na):=pa.sublist (take_sublist _ _);have ps:=XGb (l:=la) hk;rw[ps]at pt;obtain⟨_,p2,p3⟩:=pairwise_append.mp pt;have sub:∀ y∈(la.drop k).take (na - k),y∈la.take na:=fun y hy=>by rw[ps];exact Vp _ hy
 refine⟨?_,?_,?_,?_⟩
 ·refine(m.perm.append_left _).trans (List.Perm.of_eq ?_)
  rw[<- Vq,<- Qgb hk]
 ·exact pairwise_append.mpr ⟨p2,m.pw,fun x hx y hy=>m.ra x (sub x hx) y hy⟩
 ·intro x hx y hy
  rcases Vl.mp hy with hy | hy
  ·exact p3 x hx y hy
  ·exact m.ra x (by rw[ps];exact mem_append_left _ hx) y hy
 ·intro x hx y hy
  rcases Vl.mp hy with hy | hy
  ·exact h x hx y hy
  ·exact m.rb x hx y hy
theorem Mh.takeB(m:Mh rk la lb R na nb)(pb:Rs rk lb)(k:Nat)(hk:k<=nb)(h:∀ x∈la.take na,∀ y∈(lb.drop k).take (nb - k),rk x<=rk y):Mh rk la lb ((lb.drop k).take (nb - k)++R) na k:=(m.swap.takeA pb k hk h).swap
theorem Mh.doneB(m:Mh rk la lb R na nb)(pa:Rs rk la)(pb:Rs rk lb)(h:∀ x∈lb.take nb,∀ y∈la.take na,rk x<=rk y):(lb.take nb++la.take na++R).Perm (la++lb)/\Rs rk (lb.take nb++la.take na++R):=by
 have m1:=m.takeA pa 0 (Vk _) (by simpa using h)
 have m2:=m1.takeB pb 0 (Vk _) (by simp)
 have e:((lb.drop 0).take (nb - 0)++((la.drop 0).take (na - 0)++R))=lb.take nb++la.take na++R:=by simp
 rw[e]at m2;exact⟨by simpa using m2.perm,m2.pw⟩
theorem Mh.done(m:Mh rk la lb R na nb)(pa:Rs rk la)(pb:Rs rk lb)(h:∀ x∈la.take na,∀ y∈lb.take nb,rk x<=rk y):(la.take na++lb.take nb++R).Perm (la++lb)/\Rs rk (la.take na++lb.take nb++R):=by
 obtain⟨a,b⟩:=m.swap.doneB pb pa h;exact⟨a.trans perm_append_comm,b⟩
end
section
variable{rk:Keyed->Nat}{a:Array Keyed}{i j k n:Nat}{x:Keyed}
theorem ZNa(a:Array Keyed)(n:Nat):(a.extract 0 n).toList=a.toList.take n:=by rw[Je];simp
theorem QHa(h:x∈a.toList.take n):∃ j,j < n/\j < a.size/\rk x=K rk a j:=by
 obtain⟨j,h1,h2,e⟩:=YQ (rk:=rk) (i:=0) (a:=a) (k:=n) (by simpa using h)
 exact⟨j,h1,by omega,by rw[e];congr 1;omega⟩
end
section
variable{prog:Program}{w:World}{A:Around}{E:YQ_}{s:Shared}{κ:SortKind}{rk:Keyed->Nat}{S:Keyed->Prop}
theorem Zqb(L:QFa prog w A E s κ rk S){st:SortSt}{a b:Array Keyed}{Q:Array Keyed->SortSt->Prop}(hk:kindOf st=κ)(hSa:∀ x∈a,S x)(hSb:∀ x∈b,S x)(na:0 < a.size)(nb:0 < b.size)(pa:Rs rk a.toList)(pb:Rs rk b.toList)
 (h0:K rk b 0 < K rk a 0) (hl:∀ i,i < b.size->K rk b i < K rk a (a.size - 1)) (h:∀ out g,out.toList.Perm (a.toList++b.toList)->Rs rk out.toList->Q out (ZY st g)):wpS (model prog w) A E s (XFb a b) Q st:=by
 have ua:∀ i j,i<=j->j < a.size->K rk a i<=K rk a j:=fun i j h1 h2=>pa.le h1 h2
 have ub:∀ i j,i<=j->j < b.size->K rk b i<=K rk b j:=fun i j h1 h2=>pb.le h1 h2
 have nl:a.size - 1 < a.size:=by omega
 have m0:Mh rk a.toList b.toList (#[a[a.size - 1]]:Array Keyed).toList.reverse (a.size - 1) b.size:=by
  have e1:a.toList.drop (a.size - 1)=[a[a.size - 1]]:=by
   have:=Ys nl
   rwa [take_of_length_le (by simp;omega)]at this
  refine⟨by rw[e1];simp,by simp,fun x hx y hy=>?_,fun x hx y hy=>?_⟩
  ·obtain⟨j,_,hj,e⟩:=QHa (rk:=rk) hx
   have:y=a[a.size - 1]:=by simpa using hy
   rw[this,e,<- QZ (rk:=rk) nl];exact ua j _ (by omega) (by omega)
  ·obtain⟨j,_,hj,e⟩:=QHa (rk:=rk) hx
   have:y=a[a.size - 1]:=by simpa using hy
   rw[this,e,<- QZ (rk:=rk) nl];exact Vv (hl j hj)
 have done:∀ (out:Array Keyed) (ia ib:Nat),Mh rk a.toList b.toList out.toList.reverse ia ib->ia=0->(a.extract 0 ia++b.extract 0 ib++out.reverse).toList.Perm (a.toList++b.toList)/\Rs rk (a.extract 0 ia++b.extract 0 ib++out.reverse).toList:=fun out ia ib m e=>by
  rw[Array.toList_append,Array.toList_append,ZNa,ZNa,Array.toList_reverse];exact m.done pa pb fun x hx y _=>by
   obtain⟨j,h1,h2,_⟩:=QHa (rk:=rk) hx
   omega
 have lastB:∀ (out:Array Keyed) (ia ib:Nat),Mh rk a.toList b.toList out.toList.reverse ia ib->ib=1->(b.extract 0 ib++a.extract 0 ia++out.reverse).toList.Perm (a.toList++b.toList)/\Rs rk (b.extract 0 ib++a.extract 0 ia++out.reverse).toList:=fun out ia ib m e=>by
  rw[Array.toList_append,Array.toList_append,ZNa,ZNa,Array.toList_reverse];exact m.doneB pa pb fun x hx y hy=>by
   obtain⟨j,h1,h2,e1⟩:=QHa (rk:=rk) hx;obtain⟨i,h3,h4,e2⟩:=QHa (rk:=rk) hy;have:j=0:=by omega
   rw[e1,e2,this];exact Vj (Vv h0) (ua 0 i (by omega) h4)
 have pushA:∀ (out:Array Keyed) (ia ib:Nat) (hi:ia < a.size),Mh rk a.toList b.toList out.toList.reverse (ia+1) ib->ib<=b.size->(0 < ib->K rk b (ib - 1)<=K rk a ia)->Mh rk a.toList b.toList (out.push a[ia]).toList.reverse ia ib:=fun out ia ib hi m hib hle=>by
  have:=m.takeA pa ia (by omega) fun x hx y hy=>by
   obtain⟨j,h1,h2,e1⟩:=QHa (rk:=rk) hx;obtain⟨i,h3,h4,e2⟩:=YQ (rk:=rk) hy;have:i=0:=by omega
   subst this;rw[e1,e2];exact Vj (ub j (ib - 1) (by omega) (by omega)) (hle (by omega))
  rw[show ia+1 - ia=1 by omega,Ys hi]at this
  rw[Array.toList_push,reverse_append];exact this
 replace pushA:∀ (out:Array Keyed) (ia ib:Nat) (hi:ia - 1 < a.size),0 < ia->Mh rk a.toList b.toList out.toList.reverse ia ib->ib<=b.size->(0 < ib->K rk b (ib - 1)<=K rk a (ia - 1))->Mh rk a.toList b.toList (out.push a[ia - 1]).toList.reverse (ia - 1) ib:=fun out ia ib hi h0 m h1 h2=>pushA out (ia - 1) ib hi (by rw[Nat.sub_add_cancel h0];exact m) h1 h2
 have pushB:∀ (out:Array Keyed) (ia ib:Nat) (hi:ib < b.size),Mh rk a.toList b.toList out.toList.reverse ia (ib+1)->ia<=a.size->(0 < ia->K rk a (ia - 1)<=K rk b ib)->Mh rk a.toList b.toList (out.push b[ib]).toList.reverse ia ib:=fun out ia ib hi m hia hle=>by
  have:=m.takeB pb ib (by omega) fun x hx y hy=>by
   obtain⟨j,h1,h2,e1⟩:=QHa (rk:=rk) hx;obtain⟨i,h3,h4,e2⟩:=YQ (rk:=rk) hy;have:i=0:=by omega
   subst this;rw[e1,e2];exact Vj (ua j (ia - 1) (by omega) (by omega)) (hle (by omega))
  rw[show ib+1 - ib=1 by omega,Ys hi]at this
  rw[Array.toList_push,reverse_append];exact this
 replace pushB:∀ (out:Array Keyed) (ia ib:Nat) (hi:ib - 1 < b.size),0 < ib->Mh rk a.toList b.toList out.toList.reverse ia ib->ia<=a.size->(0 < ia->K rk a (ia - 1)<=K rk b (ib - 1))->Mh rk a.toList b.toList (out.push b[ib - 1]).toList.reverse ia (ib - 1):=fun out ia ib hi h0 m h1 h2=>pushB out ia (ib - 1) hi (by rw[Nat.sub_add_cancel h0];exact m) h1 h2
 refine wpS_bind (wpS_lift (wpAny_rule ⟨rfl,?_⟩))
 refine wpS_bind (QD nl ?_)
 dsimp -zeta only
 by_cases ha1:a.size - 1=0
 ·rw[if_pos (by simpa using ha1)]
  obtain⟨p,r⟩:=done _ _ b.size m0 ha1;exact wpS_pure (h _ (gallopOf st) p r)
 rw[if_neg (by simpa using ha1)]
 by_cases hb1:b.size=1
 ·rw[if_pos (by simpa using hb1)]
  obtain⟨p,r⟩:=lastB _ (a.size - 1) b.size m0 hb1;exact wpS_pure (h _ (gallopOf st) p r)
 rw[if_neg (by simpa using hb1)]
 refine wpS_bind (wpS_get (wpS_bind (wpS_mono (wpS_forRange
  (I:=fun x c st'=>∃ ia ib out g g',c=(none,ia,ib,out,g)/\st'=ZY st g'/\Mh rk a.toList b.toList (out:Array Keyed).toList.reverse ia ib/\0 < ia/\ia < a.size/\1 < ib/\ib<=b.size/\x+(ia+ib)<=a.size+b.size)
  (Q:=fun c st'=>∃ r g' z,c=(some r,z)/\st'=ZY st g'/\(r:Array Keyed).toList.Perm (a.toList++b.toList)/\Rs rk r.toList) ?step ?fin ⟨_,_,_,_,gallopOf st,rfl,rfl,m0,by omega,by omega,by omega,by omega,by omega⟩) ?post)))
 case post =>
  rintro c st' ⟨r,g',z,rfl,rfl,p,q⟩;exact wpS_pure (h r g' p q)
 case fin =>
  rintro c st' ⟨ia,ib,out,g,g',rfl,rfl,m,h1,h2,h3,h4,h5⟩
  omega
 case step =>
  rintro x c st' _ hx ⟨ia,ib,out,g,g',rfl,rfl,m,h1,h2,h3,h3',h3x⟩;dsimp -zeta only;refine wpS_bind (wpS_mono (wpS_forRange
   (I:=fun y c st'=>st'=ZY st g'/\∃ ja jb out ac bc,c=(none,ja,jb,out,ac,bc)/\Mh rk a.toList b.toList (out:Array Keyed).toList.reverse ja jb/\0 < ja/\ja < a.size/\1 < jb/\jb<=b.size/\y+(ja+jb)<=ia+ib)
   (Q:=fun c st'=>st'=ZY st g'/\((∃ ja jb out ac bc,c=(none,ja,jb,out,ac,bc)/\Mh rk a.toList b.toList (out:Array Keyed).toList.reverse ja jb/\0 < ja/\ja < a.size/\1 < jb/\jb<=b.size/\ja+jb<=ia+ib)\/∃ r z,c=(some r,z)/\(r:Array Keyed).toList.Perm (a.toList++b.toList)/\Rs rk r.toList)) ?istep ?ifin ⟨rfl,ia,ib,out,0,0,rfl,m,h1,h2,h3,h3',by omega⟩) ?ipost)
  case ifin =>
   rintro c st' ⟨rfl,ja,jb,out,ac,bc,rfl,m,h4,h5,h6,h6',h6x⟩
   omega
  case istep =>
   rintro y c st' _ hy ⟨rfl,ja,jb,out,ac,bc,rfl,m,h4,h5,h6,h6',h6x⟩;dsimp -zeta only;have ja1:ja - 1 < a.size:=by omega
   have jb1:jb - 1 < b.size:=by omega
   refine wpS_bind (QD jb1 (wpS_bind (QD ja1 (wpS_bind (L _ _ _ _ hk (hSb _ (Array.getElem_mem jb1)) (hSa _ (Array.getElem_mem ja1)) ?_)))))
   by_cases hw:rk b[jb - 1] < rk a[ja - 1]
   ·have m1:=pushA out ja jb ja1 h4 m h6' fun _=>by rw[QZ jb1,QZ ja1];exact Vv hw
    simp only[hw,decide_true,if_true];refine wpS_bind (QD ja1 ?_)
    by_cases he:ja - 1=0
    ·rw[if_pos (by simpa using he)]
     exact wpS_pure ⟨rfl,.inr ⟨_,_,rfl,done _ (ja - 1) jb m1 he⟩⟩
    ·rw[if_neg (by simpa using he)]
     by_cases hc:ac+1 >= g
     ·rw[if_pos hc]
      exact wpS_pure ⟨rfl,.inl ⟨_,_,_,_,_,rfl,m1,by omega,by omega,h6,h6',by omega⟩⟩
     ·rw[if_neg hc]
      exact wpS_pure ⟨rfl,_,_,_,_,_,rfl,m1,by omega,by omega,h6,h6',by omega⟩
   ·have m1:=pushB out ja jb jb1 (by omega) m (by omega) fun _=>by rw[QZ jb1,QZ ja1];omega
    simp only[hw,decide_false,Bool.false_eq_true,if_false];refine wpS_bind (QD jb1 ?_)
    by_cases he:jb - 1=1
    ·rw[if_pos (by simpa using he)]
     exact wpS_pure ⟨rfl,.inr ⟨_,_,rfl,lastB _ ja (jb - 1) m1 he⟩⟩
    ·rw[if_neg (by simpa using he)]
     by_cases hc:bc+1 >= g
     ·rw[if_pos hc]
      exact wpS_pure ⟨rfl,.inl ⟨_,_,_,_,_,rfl,m1,h4,h5,by omega,by omega,by omega⟩⟩
     ·rw[if_neg hc]
      exact wpS_pure ⟨rfl,_,_,_,_,_,rfl,m1,h4,h5,by omega,by omega,by omega⟩
  case ipost =>
   rintro c st' ⟨rfl,⟨ja,jb,out,ac,bc,rfl,m,h4,h5,h6,h6',h6x⟩ | ⟨r,z,rfl,p,q⟩⟩
   ·dsimp -zeta only
    refine wpS_bind (wpS_lift (wpAny_rule ⟨rfl,?_⟩))
    refine wpS_bind (wpS_mono (wpS_forRange
     (I:=fun y c st'=>∃ ka kb out g g' ac bc,c=(none,ka,kb,out,g,ac,bc)/\st'=ZY st g'/\Mh rk a.toList b.toList (out:Array Keyed).toList.reverse ka kb/\0 < ka/\ka < a.size/\1 < kb/\kb<=b.size/\y+(ka+kb)<=ja+jb)
     (Q:=fun c st'=>(∃ ka kb out g g' ac bc,c=(none,ka,kb,out,g,ac,bc)/\st'=ZY st g'/\Mh rk a.toList b.toList (out:Array Keyed).toList.reverse ka kb/\0 < ka/\ka < a.size/\1 < kb/\kb<=b.size/\ka+kb+1<=ja+jb)\/∃ r z g',c=(some r,z)/\st'=ZY st g'/\(r:Array Keyed).toList.Perm (a.toList++b.toList)/\Rs rk r.toList) ?jstep ?jfin ⟨ja,jb,out,_,g',ac,bc,rfl,rfl,m,h4,h5,h6,h6',by omega⟩) ?jpost)
    case jfin =>
     rintro c st' ⟨ka,kb,out,g,g',ac,bc,rfl,rfl,m,h7,h8,h9,h9',h9x⟩
     omega
    case jpost =>
     rintro c st' (⟨ka,kb,out,g,g',ac,bc,rfl,rfl,m,h7,h8,h9,h9',h9x⟩ | ⟨r,z,g',rfl,rfl,p,q⟩)
     ·dsimp -zeta only
      refine wpS_bind (wpS_modify (wpS_pure ⟨ka,kb,out,_,g+1,rfl,rfl,m,h7,h8,h9,h9',by omega⟩))
     ·exact wpS_pure ⟨r,g',_,rfl,rfl,p,q⟩
    case jstep =>
     intro y c st' _ hy hZ;obtain⟨ka,kb,out,g,g',ac,bc,rfl,rfl,m,h7,h8,h9,h9',h9x⟩:=hZ;refine Jyb fun QQ hQ=>?_
     have qd:∀ (r:Array Keyed) z g',r.toList.Perm (a.toList++b.toList)/\Rs rk r.toList->QQ (.done (some r,z)) (ZY st g'):=fun r z g' p=>hQ _ _ (.inr ⟨r,z,g',rfl,rfl,p.1,p.2⟩)
     have qn:∀ ka' kb' (o:Array Keyed) g g' ac bc,Mh rk a.toList b.toList o.toList.reverse ka' kb'->0 < ka'->1 < kb'->ka' < ka->kb' < kb->QQ (.done (none,ka',kb',o,g,ac,bc)) (ZY st g')/\QQ (.yield (none,ka',kb',o,g,ac,bc)) (ZY st g'):=fun ka' kb' o g g' ac bc m z1 z2 z3 z4=>⟨hQ _ _ (.inl ⟨ka',kb',o,g,g',ac,bc,rfl,rfl,m,z1,by omega,z2,by omega,by omega⟩),hQ _ _ ⟨ka',kb',o,g,g',ac,bc,rfl,rfl,m,z1,by omega,z2,by omega,by omega⟩⟩
     clear hQ h9x hy h4 h5 h6 h6' h6x h1 h2 h3 h3' h3x hx;have kb1:kb - 1 < b.size:=by omega
     dsimp -zeta only
     extract_lets -underBinder c0 i1 c1 i2 c2 o1 c3 g2 c4 a2 b2 jp mg
     have hj:∀ u g1,wpS (model prog w) A E s (jp u g1) QQ (ZY st g'):=by
      intro u g1;dsimp -zeta only [jp,b2,a2,c4,g2,c3,o1,c2,i2,c1,i1,c0];clear mg jp b2 a2 c4 g2 c3 o1 c2 i2 c1 i1 c0;refine wpS_bind (wpS_modify ?_)
      refine wpS_bind (QD kb1 (wpS_bind (JLc L hk hSa (hSb _ (Array.getElem_mem kb1)) (by omega) (by omega) (fun i j h1 h2 h3=>ua i j h2 (by omega)) fun at1 hkn q1 q2=>?_)))
      dsimp -zeta only;rw[<- QZ (rk:=rk) kb1]at q1 q2;simp only[Nat.zero_add]at q1 q2;have m1:Mh rk a.toList b.toList (out++(a.extract at1 ka).reverse).toList.reverse at1 kb:=by
       rw[Array.toList_append,reverse_append,Array.toList_reverse,reverse_reverse,Je];refine m.takeA pa at1 hkn fun x hx y hy=>?_
       obtain⟨j,hj1,hj2,e1⟩:=QHa (rk:=rk) hx;obtain⟨i,hi1,hi2,e2⟩:=YQ (rk:=rk) hy;rw[e1,e2];exact Vj (ub j (kb - 1) (by omega) kb1) (Vv (q2 (at1+i) (by omega) (by omega)))
      have q3:0 < at1->K rk a (at1 - 1)<=K rk b (kb - 1):=fun hz=>q1 (at1 - 1) (by omega)
      extract_lets -underBinder k ac1 jp1 o1 i1
      have hj1:∀ u ka1 (o:Array Keyed),Mh rk a.toList b.toList o.toList.reverse ka1 kb->0 < ka1->ka1<=ka->K rk a (ka1 - 1)<=K rk b (kb - 1)->wpS (model prog w) A E s (jp1 u ka1 o) QQ (ZY st g1):=by
       intro u ka1 o m5 h10 h11 q9;dsimp -zeta only [jp1]
       clear_value ac1
       clear o1 i1 jp1 k m1 q1 q2 m hkn q3;have ha1:ka1 - 1 < a.size:=by omega
       extract_lets -underBinder nb1
       refine wpS_bind (QD kb1 ?_)
       have m2:=pushB o ka1 kb kb1 (by omega) m5 (by omega) fun _=>q9
       clear m5 q9;dsimp -zeta only [nb1];generalize o.push b[kb - 1]=o2 at m2 ⊢;refine Z9 (fun he2=>wpS_pure (qd _ _ _ (lastB _ ka1 (kb - 1) m2 he2))) fun he2=>?_
       refine wpS_bind (QD ha1 (wpS_bind (JMc L hk hSb (hSa _ (Array.getElem_mem ha1)) (by omega) (by omega) (fun i j h1 h2 h3=>ub i j h2 (by omega)) fun at2 hkn2 q5 q6=>?_)))
       dsimp -zeta only;rw[<- QZ (rk:=rk) ha1]at q5 q6;simp only[Nat.zero_add]at q5 q6;have hat2:1<=at2:=by
        by_cases hz:1<=at2
        ·exact hz
        ·have z1:=q6 0 (by omega) (by omega)
         have z2:=ua 0 (ka1 - 1) (by omega) ha1
         omega
       have m3:Mh rk a.toList b.toList (o2++(b.extract at2 (kb - 1)).reverse).toList.reverse ka1 at2:=by
        rw[Array.toList_append,reverse_append,Array.toList_reverse,reverse_reverse,Je];refine m2.takeB pb at2 hkn2 fun x hx y hy=>?_
        obtain⟨j,hj1,hj2,e1⟩:=QHa (rk:=rk) hx;obtain⟨i,hi1,hi2,e2⟩:=YQ (rk:=rk) hy;rw[e1,e2];exact Vj (ua j (ka1 - 1) (by omega) ha1) (q6 (at2+i) (by omega) (by omega))
       extract_lets -underBinder k bc1 jp2 o3 ib3
       have hj2:∀ u kb2 (o:Array Keyed),Mh rk a.toList b.toList o.toList.reverse ka1 kb2->kb2 < kb->1 < kb2->K rk b (kb2 - 1)<=K rk a (ka1 - 1)->wpS (model prog w) A E s (jp2 u kb2 o) QQ (ZY st g1):=by
        intro u kb2 o m3 h12 h13 q7;dsimp -zeta only [jp2]
        clear_value bc1
        clear o3 ib3 jp2 k q5 q6 hat2 he2 m2 hkn2
        extract_lets -underBinder na1
        refine wpS_bind (QD ha1 ?_)
        have m4:=pushA o ka1 kb2 ha1 h10 m3 (by omega) fun _=>q7
        refine Z9 (fun he4=>wpS_pure (qd _ _ _ (done _ (ka1 - 1) kb2 m4 he4))) fun he4=>?_
        replace he4:¬ ka1 - 1=0:=he4;have:=fun g gg ac bc=>qn _ _ _ g gg ac bc m4 (by omega) h13 (by omega) h12
        exact YR (fun _=>wpS_pure (this _ _ _ _).1) fun _=>wpS_pure (this _ _ _ _).2
       have q7:=q5 (at2 - 1) (by omega)
       refine YR (fun hk2=>Z9 (fun he3=>wpS_pure (qd _ _ _ (lastB _ ka1 at2 m3 he3))) fun he3=>Z9 (fun he4=>absurd (show at2=0 from he4) (by omega)) fun _=>?_) fun hk2=>?_
       ·replace he3:¬ at2=1:=he3
        exact hj2 () _ _ m3 (by omega) (by omega) (Vv q7)
       ·replace hk2:¬ kb - 1 - at2 > 0:=hk2
        rw[show at2=kb - 1 by omega]at q7
        exact hj2 () _ _ m2 (by omega) (by omega) (Vv q7)
      refine YR (fun hk0=>Z9 (fun he=>wpS_pure (qd _ _ _ (done _ at1 kb m1 he))) fun he=>?_) fun hk0=>?_
      ·replace he:¬ at1=0:=he
       exact hj1 () _ _ m1 (by omega) hkn (q3 (by omega))
      ·replace hk0:¬ ka - at1 > 0:=hk0
       have q3:=q3 (by omega)
       rw[show at1=ka by omega]at q3
       exact hj1 () _ _ m h7 (Ve _) q3
     exact YR (fun _=>hj () _) fun _=>hj () _
   ·exact wpS_pure ⟨r,g',_,rfl,rfl,p,q⟩
end
end SortB
end
section
namespace SortB
open PySem PySem.W PyProof.Rows
def Up(rk:Keyed->Nat)(a:Array Keyed)(lo hi:Nat):Prop:=∀ i j,lo<=i->i<=j->j < hi->K rk a i<=K rk a j
structure Ch(rk:Keyed->Nat)(lo hi:Nat)(a b:Array Keyed):Prop where
 perm:b.Perm a
 out:∀ j,j < lo\/hi<=j->K rk b j=K rk a j
section
variable{rk:Keyed->Nat}{a b c:Array Keyed}{lo hi lo' hi' i j k n:Nat}
theorem Ch.refl:Ch rk lo hi a a:=⟨Array.Perm.refl _,fun _ _=>rfl⟩
theorem Ch.size(h:Ch rk lo hi a b):b.size=a.size:=h.perm.size_eq
theorem Ch.trans(h:Ch rk lo hi a b)(h':Ch rk lo hi b c):Ch rk lo hi a c:=⟨h'.perm.trans h.perm,fun j hj=>(h'.out j hj).trans (h.out j hj)⟩
theorem Ch.mono(h:Ch rk lo hi a b)(h1:lo'<=lo)(h2:hi<=hi'):Ch rk lo' hi' a b:=⟨h.perm,fun j hj=>h.out j (by omega)⟩
theorem Ch.all{S:Keyed->Prop}(h:Ch rk lo hi a b)(hS:∀ x∈a,S x):∀ x∈b,S x:=fun x hx=>hS x (h.perm.mem_iff.mp hx)
theorem Jzb(hj:j<=a.size)(k:Nat):K rk (mirror a i j ((j - i) / 2)) k=if i<=k/\k < j then K rk a (i+j - 1 - k) else K rk a k:=by
 have e:=getElem?_mirror_all (i:=i) hj k
 split at e
 ·rename_i h;rw[if_pos h];exact Zob e
 ·rename_i h;rw[if_neg h];exact Zob e
theorem XHb{src d:Nat}(hs:src < a.size)(hd:d<=src)(k:Nat):K rk (bubble a src d) k=if k=src - d then K rk a src else if src - d < k/\k<=src then K rk a (k - 1) else K rk a k:=by
 have e:=getElem?_bubble hs d hd k
 by_cases h1:k=src - d
 ·rw[if_pos h1]at e ⊢;exact Zob e
 ·rw[if_neg h1]at e ⊢
  by_cases h2:src - d < k/\k<=src
  ·rw[if_pos h2]at e ⊢;exact Zob e
  ·rw[if_neg h2]at e ⊢;exact Zob e
theorem Ch.rev(hj:j<=a.size)(h1:lo<=i)(h2:j<=hi):Ch rk lo hi a (mirror a i j ((j - i) / 2)) :=
 ⟨mirror_perm _ _ _ _,fun k hk=>by rw[Jzb hj,if_neg (by omega)]⟩
theorem Ch.bub{src d:Nat}(hs:src < a.size)(hd:d<=src)(h1:lo<=src - d)(h2:src < hi):Ch rk lo hi a (bubble a src d) :=
 ⟨bubble_perm _ _ _,fun k hk=>by rw[XHb hs hd,if_neg (by omega),if_neg (by omega)]⟩
theorem Up.ext(u:Up rk a lo hi)(h:∀ i,lo<=i->i < hi->K rk b i=K rk a i):Up rk b lo hi:=fun i j h1 h2 h3=>by
 rw[h i h1 (by omega),h j (by omega) h3];exact u i j h1 h2 h3
theorem Up.rs(u:Up rk a lo hi)(hh:hi<=a.size):Rs rk (a.extract lo hi).toList:=by
 refine pairwise_iff_getElem.mpr ?_
 intro i j hi' hj' hij;simp only[Array.length_toList,Array.size_extract]at hi' hj';have:=u (lo+i) (lo+j) (by omega) (by omega) (by omega)
 rw[QZ (by omega),QZ (by omega)]at this
 simpa using this
theorem JAb(h:lo+i < hi)(hh:hi<=a.size):K rk (a.extract lo hi) i=K rk a (lo+i):=by
 have e:i < (a.extract lo hi).size:=by rw[Array.size_extract];omega
 rw[QZ e,QZ (by omega)]
 simp
theorem JBb{x:Keyed}(h:x∈a.extract lo hi):x∈a:=by
 have:=Array.mem_toList_iff.mpr h;rw[Je]at this;exact Array.mem_toList_iff.mp (mem_of_mem_drop (mem_of_mem_take this))
theorem JCb(m:List Keyed):∀ (a:Array Keyed) (sa n:Nat),sa+n+m.length<=a.size->∀ i:Nat,((m.zipIdx n).foldl (fun a (x:Keyed×Nat)=>a.setIfInBounds (sa+x.2) x.1) a)[i]?=if sa+n<=i/\i < sa+n+m.length then m[i - (sa+n)]? else a[i]?:=by
 induction m with
 | nil=>intro a sa n _ i;rw[if_neg (by simp)];simp
 | cons x m ih =>
  intro a sa n hs i;rw[length_cons]at hs ⊢;rw[zipIdx_cons,foldl_cons,ih (a.setIfInBounds (sa+n) x) sa (n+1) (by simp;omega)]
  by_cases h1:i=sa+n
  ·subst h1
   rw[if_neg (by omega),if_pos (by omega)]
   simp[show sa+n < a.size by omega]
  ·by_cases h2:sa+n<=i/\i < sa+n+(m.length+1)
   ·rw[if_pos h2,if_pos (by omega),show i - (sa+n)=(i - (sa+(n+1)))+1 by omega,getElem?_cons_succ]
   ·rw[if_neg h2,if_neg (by omega),Array.getElem?_setIfInBounds_ne (by omega)]
theorem XIb(m:List Keyed)(a:Array Keyed)(sa:Nat)(h:sa+m.length<=a.size):(m.zipIdx.foldl (fun a (x:Keyed×Nat)=>a.setIfInBounds (sa+x.2) x.1) a).toList=a.toList.take sa++m++a.toList.drop (sa+m.length):=by
 apply ext_getElem?
 intro i;have e:=JCb m a sa 0 (by omega) i
 rw[Array.getElem?_toList,e]
 simp only[Nat.add_zero];rw[Vq]
 by_cases h1:i < sa
 ·rw[if_neg (by omega),getElem?_append_left (by simp;omega),getElem?_take_of_lt h1];simp
 ·rw[getElem?_append_right (by simp;omega)]
  have e2:(a.toList.take sa).length=sa:=by simp;omega
  rw[e2]
  by_cases h2:i < sa+m.length
  ·rw[if_pos (by omega),getElem?_append_left (by omega)]
  ·rw[if_neg (by omega),getElem?_append_right (by omega),getElem?_drop,Array.getElem?_toList]
   congr 1;omega
end
section
variable{prog:Program}{w:World}{A:Around}{E:YQ_}{s:Shared}{κ:SortKind}{rk:Keyed->Nat}{S:Keyed->Prop}
theorem Zgc{M:Model}{σ:Type}{v st:σ}{Q:PUnit->σ->Prop}(h:Q ⟨⟩ v):wpS M A E s (set v:StateT σ Sem PUnit) Q st:=by
 unfold wpS;rw[StateT.run_set];exact Vg ⟨rfl,h⟩
theorem Zrb(L:QFa prog w A E s κ rk S){st:SortSt}{i sa na p nb q:Nat}{Q:Bool->SortSt->Prop}(hk:kindOf st=κ)(hf:failedOf st=none)(hS:∀ x∈arrOf st,S x)(hp1:(pendingOf st)[i]?=some (sa,na,p))(hp2:(pendingOf st)[i+1]?=some (sa+na,nb,q))
 (na0:0 < na) (nb0:0 < nb) (hsz:sa+na+nb<=(arrOf st).size) (uA:Up rk (arrOf st) sa (sa+na)) (uB:Up rk (arrOf st) (sa+na) (sa+na+nb))
 (h:∀ a' g,Ch rk sa (sa+na+nb) (arrOf st) a'->Up rk a' sa (sa+na+nb)->Q true (SortSt.mk' κ a' (((pendingOf st).setIfInBounds i (sa,na+nb,p)).eraseIdxIfInBounds (i+1)) g none)):wpS (model prog w) A E s (mergeAt' i) Q st:=by
 rcases st with ⟨kd,a,pd0,g0,f0⟩
 change kd=κ at hk;change f0=none at hf;change ∀ x∈a,S x at hS;change pd0[i]?=some (sa,na,p) at hp1;change pd0[i+1]?=some (sa+na,nb,q) at hp2;change sa+na+nb<=a.size at hsz;change Up rk a sa (sa+na) at uA;change Up rk a (sa+na) (sa+na+nb) at uB;change ∀ a' g,Ch rk sa (sa+na+nb) a a'->Up rk a' sa (sa+na+nb)->Q true (SortSt.mk' κ a' ((pd0.setIfInBounds i (sa,na+nb,p)).eraseIdxIfInBounds (i+1)) g none) at h;subst hk hf;refine wpS_bind (wpS_get ?_)
 have e1:(pd0[i]?,pd0[i+1]?)=(some (sa,na,p),some (sa+na,nb,q)):=by rw[hp1,hp2]
 dsimp only;rw[e1];dsimp only;generalize (pd0.setIfInBounds i (sa,na+nb,p)).eraseIdxIfInBounds (i+1)=pd at h ⊢;have sb1:sa+na < a.size:=by omega
 have kk:∀ (x:Array Keyed) (pd:Array (Nat×Nat×Nat)) (g:Nat) (f:Option Value),kindOf (SortSt.mk' kd x pd g f)=kd:=fun _ _ _ _=>rfl
 refine wpS_bind (Zgc (wpS_bind (QD sb1 (wpS_bind (JLc L (kk _ _ _ _) hS (hS _ (Array.getElem_mem sb1)) (by omega) na0 (fun i j h1 h2 h3=>uA i j h1 h2 h3) fun k hkn q1 q2=>?_)))))
 rw[<- QZ (rk:=rk) sb1]at q1 q2;dsimp only
 by_cases hn:na - k=0
 ·rw[if_pos (by simpa using hn)]
  refine wpS_pure (h a _ Ch.refl fun i j h1 h2 h3=>?_)
  by_cases hj:j < sa+na
  ·exact uA i j h1 h2 hj
  ·by_cases hi:i < sa+na
   ·have z:=q1 (i - sa) (by omega)
    rw[show sa+(i - sa)=i by omega]at z
    exact Vj z (uB (sa+na) j (Ve _) (by omega) h3)
   ·exact uB i j (by omega) h2 h3
 rw[if_neg (by simpa using hn)]
 have la1:sa+k+(na - k) - 1 < a.size:=by omega
 refine wpS_bind (QD la1 (wpS_bind (JMc L (kk _ _ _ _) hS (hS _ (Array.getElem_mem la1)) (by omega) (by omega) (fun i j h1 h2 h3=>uB i j h1 h2 h3) fun nb' hkn' q3 q4=>?_)))
 rw[<- QZ (rk:=rk) la1,show sa+k+(na - k) - 1=sa+na - 1 by omega]at q3 q4
 dsimp only
 by_cases hn':nb'=0
 ·rw[if_pos (by simpa using hn')]
  refine wpS_pure (h a _ Ch.refl fun i j h1 h2 h3=>?_)
  by_cases hj:j < sa+na
  ·exact uA i j h1 h2 hj
  ·by_cases hi:i < sa+na
   ·have z:=q4 (j - (sa+na)) (by omega) (by omega)
    rw[show sa+na+(j - (sa+na))=j by omega]at z
    exact Vj (uA i (sa+na - 1) h1 (by omega) (by omega)) z
   ·exact uB i j (by omega) h2 h3
 rw[if_neg (by simpa using hn')]
 have xs:(a.extract (sa+k) (sa+na)).size=na - k:=by rw[Array.size_extract];omega
 have ys:(a.extract (sa+na) (sa+na+nb')).size=nb':=by rw[Array.size_extract];omega
 have px:Rs rk (a.extract (sa+k) (sa+na)).toList:=Up.rs (fun i j h1 h2 h3=>uA i j (by omega) h2 h3) (by omega)
 have py:Rs rk (a.extract (sa+na) (sa+na+nb')).toList:=Up.rs (fun i j h1 h2 h3=>uB i j h1 h2 (by omega)) (by omega)
 have sx:∀ x∈a.extract (sa+k) (sa+na),S x:=fun x hx=>hS x (JBb hx)
 have sy:∀ x∈a.extract (sa+na) (sa+na+nb'),S x:=fun x hx=>hS x (JBb hx)
 have h0:K rk (a.extract (sa+na) (sa+na+nb')) 0 < K rk (a.extract (sa+k) (sa+na)) 0:=by
  rw[JAb (by omega) (by omega),JAb (by omega) (by omega)]
  exact q2 k (Ve _) (by omega)
 have hl:∀ i,i < (a.extract (sa+na) (sa+na+nb')).size->K rk (a.extract (sa+na) (sa+na+nb')) i < K rk (a.extract (sa+k) (sa+na)) ((a.extract (sa+k) (sa+na)).size - 1):=fun i hi=>by
  rw[ys]at hi;rw[xs,JAb (by omega) (by omega),JAb (by omega) (by omega),show sa+k+(na - k - 1)=sa+na - 1 by omega]
  exact q3 i hi
 have fin:∀ (m:Array Keyed) (g:Nat),m.toList.Perm ((a.extract (sa+k) (sa+na)).toList++(a.extract (sa+na) (sa+na+nb')).toList)->Rs rk m.toList ->
  Q true (SortSt.mk' kd (m.toList.zipIdx.foldl (fun a (x:Keyed×Nat)=>a.setIfInBounds (sa+k+x.2) x.1) a) pd g none):=fun m g pm rm=>by
  have ml:m.toList.length=na - k+nb':=by rw[pm.length_eq,Vs,Array.length_toList,Array.length_toList,xs,ys]
  have gl:=XIb m.toList a (sa+k) (by omega)
  have gg:=JCb m.toList a (sa+k) 0 (by omega)
  simp only[Nat.add_zero]at gg;generalize hb:m.toList.zipIdx.foldl (fun a (x:Keyed×Nat)=>a.setIfInBounds (sa+k+x.2) x.1) a=b at gl gg ⊢
  have out:∀ j,j < sa+k\/sa+na+nb'<=j->K rk b j=K rk a j:=fun j hj=>Zob (by rw[gg j,if_neg (by omega)])
  have ins:∀ j,sa+k<=j->j < sa+na+nb'->K rk b j=K rk m (j - (sa+k)):=fun j h1 h2=>Zob (by rw[gg j,if_pos (by omega),Array.getElem?_toList])
  have bnd:∀ j,sa+k<=j->j < sa+na+nb'->K rk a (sa+na)<=K rk b j/\K rk b j<=K rk a (sa+na - 1):=fun j h1 h2=>by
   have hm:j - (sa+k) < m.size:=by rw[<- Array.length_toList,ml];omega
   rw[ins j h1 h2,QZ hm];have hin:=pm.mem_iff.mp (Array.mem_toList_iff.mpr (Array.getElem_mem hm))
   rcases Vl.mp hin with hx | hx
   ·obtain⟨t,ht,e⟩:=getElem_of_mem hx
    rw[Array.length_toList,xs]at ht;have e':rk m[j - (sa+k)]=K rk a (sa+k+t):=by
     rw[<- e,QZ (by omega)];simp
    rw[e'];exact⟨Vv (by have:=q2 (k+t) (by omega) (by omega);rwa [<- Nat.add_assoc]at this),uA _ _ (by omega) (by omega) (by omega)⟩
   ·obtain⟨t,ht,e⟩:=getElem_of_mem hx
    rw[Array.length_toList,ys]at ht;have e':rk m[j - (sa+k)]=K rk a (sa+na+t):=by
     rw[<- e,QZ (by omega)];simp
    rw[e'];exact⟨uB _ _ (by omega) (by omega) (by omega),Vv (q3 t ht)⟩
  refine h b g ⟨Array.perm_iff_toList_perm.mpr ?_,fun j hj=>out j (by omega)⟩ fun i j h1 h2 h3=>?_
  ·rw[gl,ml]
   have ea:a.toList=a.toList.take (sa+k)++((a.extract (sa+k) (sa+na)).toList++(a.extract (sa+na) (sa+na+nb')).toList)++a.toList.drop (sa+k+(na - k+nb')):=by
    rw[Je,Je,Vq,Vq];rw[show sa+na+nb' - (sa+na)=nb' by omega,show sa+k+(na - k+nb')=sa+na+nb' by omega,<- Z9a a.toList (sa+na) nb',<- Qgb (show sa+k<=sa+na by omega),take_append_drop]
   exact((pm.append_left _).append_right _).trans (List.Perm.of_eq ea.symm)
  ·by_cases ci:i < sa+k
   ·rw[out i (by omega)]
    have z:=q1 (i - sa) (by omega)
    rw[show sa+(i - sa)=i by omega]at z
    by_cases cj:j < sa+k
    ·rw[out j (by omega)];exact uA i j h1 h2 (by omega)
    ·by_cases cj2:j < sa+na+nb'
     ·exact Vj z (bnd j (by omega) cj2).1
     ·rw[out j (by omega)]
      exact Vj z (uB _ _ (by omega) (by omega) h3)
   ·by_cases ci2:i < sa+na+nb'
    ·by_cases cj2:j < sa+na+nb'
     ·rw[ins i (by omega) ci2,ins j (by omega) cj2]
      exact rm.le (by omega) (by rw[<- Array.length_toList,ml];omega)
     ·rw[out j (by omega)]
      have z:=q4 (j - (sa+na)) (by omega) (by omega)
      rw[show sa+na+(j - (sa+na))=j by omega]at z
      exact Vj (bnd i (by omega) ci2).2 z
    ·rw[out i (by omega),out j (by omega)]
     exact uB i j (by omega) h2 h3
 split
 ·refine wpS_bind (Zpb L (kk _ _ _ _) sx sy (by omega) (by omega) px py (Vv h0) hl fun m g pm rm=>?_)
  exact wpS_bind (wpS_modify (wpS_bind (wpS_get (wpS_pure (fin m g pm rm)))))
 ·refine wpS_bind (Zqb L (kk _ _ _ _) sx sy (by omega) (by omega) px py h0 hl fun m g pm rm=>?_)
  exact wpS_bind (wpS_modify (wpS_bind (wpS_get (wpS_pure (fin m g pm rm)))))
end
end SortB
end
section
namespace SortB
open PySem PySem.W PyProof.Rows
section
variable{prog:Program}{w:World}{A:Around}{E:YQ_}{s:Shared}{κ:SortKind}{rk:Keyed->Nat}{S:Keyed->Prop}
abbrev mk(κ:SortKind)(a:Array Keyed)(pd:Array (Nat×Nat×Nat))(g:Nat):SortSt:=SortSt.mk' κ a pd g none
theorem Ylb(L:QFa prog w A E s κ rk S){a:Array Keyed}{pd:Array (Nat×Nat×Nat)}{g i j:Nat}{Q:Option Bool->SortSt->Prop}(hS:∀ x∈a,S x)(hi:i < a.size)(hj:j < a.size)
 (h:Q (some (decide (K rk a i < K rk a j))) (mk κ a pd g)):wpS (model prog w) A E s (ltAt' i j) Q (mk κ a pd g):=JKc L rfl hS hi hj h
theorem Xia{a:Array Keyed}{pd:Array (Nat×Nat×Nat)}{g i j:Nat}{Q:Unit->SortSt->Prop}(h:Q () (mk κ (mirror a i j ((j - i) / 2)) pd g)):wpS (model prog w) A E s (reverseSlice' i j) Q (mk κ a pd g):=wpS_modify h
def Dn(rk:Keyed->Nat)(a:Array Keyed)(lo hi:Nat):Prop:=∀ i j,lo<=i->i<=j->j < hi->K rk a j<=K rk a i
theorem Up.step{a:Array Keyed}{lo n:Nat}(u:Up rk a lo (lo+n))(hn:1<=n)(h:¬ K rk a (lo+n) < K rk a (lo+n - 1)):Up rk a lo (lo+(n+1)):=fun i j h1 h2 h3=>by
 by_cases hj:j < lo+n
 ·exact u i j h1 h2 hj
 ·have:j=lo+n:=by omega
  subst this
  by_cases hi:i=lo+n
  ·rw[hi];exact Ve _
  ·have:=u i (lo+n - 1) h1 (by omega) (by omega);omega
theorem Dn.step{a:Array Keyed}{lo n:Nat}(u:Dn rk a lo (lo+n))(hn:1<=n)(h:K rk a (lo+n)<=K rk a (lo+n - 1)):Dn rk a lo (lo+(n+1)):=fun i j h1 h2 h3=>by
 by_cases hj:j < lo+n
 ·exact u i j h1 h2 hj
 ·have:j=lo+n:=by omega
  subst this
  by_cases hi:i=lo+n
  ·rw[hi];exact Ve _
  ·have:=u i (lo+n - 1) h1 (by omega) (by omega);omega
theorem Jaa{a:Array Keyed}{i j:Nat}(hj:j<=a.size)(e:∀ k,i<=k->k < j->K rk a k=K rk a (j - 1))(k:Nat):K rk (mirror a i j ((j - i) / 2)) k=K rk a k:=by
 rw[Jzb hj]
 by_cases h:i<=k/\k < j
 ·rw[if_pos h,e _ (by omega) (by omega),e k h.1 h.2]
 ·rw[if_neg h]
theorem Qhb(L:QFa prog w A E s κ rk S){a:Array Keyed}{pd:Array (Nat×Nat×Nat)}{g lo nrem:Nat}{Q:Option Nat->SortSt->Prop}(hS:∀ x∈a,S x)(h1:1<=nrem)(hsz:lo+nrem<=a.size)
 (h:∀ m b,1<=m->m<=nrem->Ch rk lo (lo+nrem) a b->Up rk b lo (lo+m)->Q (some m) (mk κ b pd g)):wpS (model prog w) A E s (countRun' lo nrem) Q (mk κ a pd g):=by
 have ll:lo+1 - 1=lo:=by omega
 refine wpS_bind (wpS_mono (wpS_forRange (I:=fun x c st'=>st'=mk κ a pd g/\c=(none,x)/\Up rk a lo (lo+x))
  (Q:=fun c st'=>st'=mk κ a pd g/\∃ n,c=(none,n)/\1<=n/\n<=nrem/\Up rk a lo (lo+n)/\(n=nrem\/K rk a (lo+n) < K rk a (lo+n - 1))) ?step ?fin ⟨rfl,rfl,fun i j h1 h2 h3=>by rw[show i=j by omega];exact Ve _⟩) ?post)
 case step =>
  rintro x c st' hx1 hx2 ⟨rfl,rfl,u⟩;dsimp only;refine wpS_bind (Ylb L hS (by omega) (by omega) ?_)
  by_cases hw:K rk a (lo+x) < K rk a (lo+x - 1)
  ·simp only[hw,decide_true,if_true]
   exact wpS_pure ⟨rfl,x,rfl,hx1,by omega,u,.inr hw⟩
  ·simp only[hw,decide_false,Bool.false_eq_true,if_false]
   exact wpS_pure ⟨rfl,rfl,u.step hx1 hw⟩
 case fin =>
  rintro c st' ⟨rfl,rfl,u⟩;have e:max 1 nrem=nrem:=by omega
  exact⟨rfl,_,rfl,by omega,by omega,u,.inl e⟩
 case post =>
  rintro c st' ⟨rfl,n,rfl,hn1,hn2,u,hor⟩;dsimp only
  by_cases hnn:n=nrem
  ·rw[if_pos (by simpa using hnn)]
   exact wpS_pure (h n a hn1 hn2 Ch.refl u)
  rw[if_neg (by simpa using hnn)]
  have hlt:=hor.resolve_left hnn
  suffices D:∀ b:Array Keyed,Ch rk lo (lo+nrem) a b->Dn rk b lo (lo+(n+1))->wpS (model prog w) A E s _ Q (mk κ b pd g) by
   by_cases hg:n > 1
   ·rw[if_pos hg]
    refine wpS_bind (Ylb L hS (by omega) (by omega) ?_)
    by_cases hr:K rk a lo < K rk a (lo+n - 1)
    ·simp only[hr,decide_true,if_true]
     exact wpS_pure (h n a hn1 hn2 Ch.refl u)
    ·simp only[hr,decide_false,Bool.false_eq_true,if_false]
     have eq:∀ k,lo<=k->k < lo+n->K rk a k=K rk a (lo+n - 1):=fun k h1 h2=>by
      have a1:=u lo k (Ve _) h1 h2;have a2:=u k (lo+n - 1) h1 (by omega) (by omega)
      omega
     have rs:=Jaa (rk:=rk) (a:=a) (i:=lo) (j:=lo+n) (by omega) eq
     refine wpS_bind (Xia (D _ (Ch.rev (by omega) (Ve _) (by omega)) ?_))
     refine Dn.step (fun i j h1 h2 h3=>?_) hn1 ?_
     ·rw[rs,rs,eq i h1 (by omega),eq j (by omega) h3];exact Ve _
     ·rw[rs,rs];exact Vv hlt
   ·rw[if_neg hg]
    have:n=1:=by omega
    subst this;exact D a Ch.refl (Dn.step (fun i j h1 h2 h3=>by rw[show i=j by omega];exact Ve _) (Ve _) (Vv hlt))
  intro b cb db;refine wpS_bind (wpS_lift (wpAny_rule ⟨rfl,?_⟩))
  refine wpS_bind (wpS_mono (wpS_forRange (I:=fun x c st'=>∃ b' q,c=(none,x,q)/\st'=mk κ b' pd g/\Ch rk lo (lo+nrem) a b'/\Dn rk b' lo (lo+x)/\q+1<=x/\∀ i,lo+x - (q+1)<=i->i < lo+x->K rk b' i=K rk b' (lo+x - 1))
   (Q:=fun c st'=>∃ b' n' q,c=(none,n',q)/\st'=mk κ b' pd g/\n'<=nrem/\Ch rk lo (lo+nrem) a b'/\Dn rk b' lo (lo+n')/\q+1<=n'/\∀ i,lo+n' - (q+1)<=i->i < lo+n'->K rk b' i=K rk b' (lo+n' - 1)) ?dstep ?dfin ⟨b,0,rfl,rfl,cb,db,by omega,fun i h1 h2=>by congr 1;omega⟩) ?dpost)
  case dfin =>
   rintro c st' ⟨b',q,rfl,rfl,cb,db,hq,he⟩;exact⟨b',_,q,rfl,rfl,by omega,cb,db,hq,he⟩
  case dstep =>
   rintro x c st' hx1 hx2 ⟨b',q,rfl,rfl,cb,db,hq,he⟩;dsimp only;have bs:=cb.size;have hS':=cb.all hS;refine wpS_bind (Ylb L hS' (by omega) (by omega) ?_)
   by_cases hw:K rk b' (lo+x) < K rk b' (lo+x - 1)
   ·simp only[hw,decide_true,if_true]
    have one:∀ (y:Array Keyed) i,lo+(x+1) - (0+1)<=i->i < lo+(x+1)->K rk y i=K rk y (lo+(x+1) - 1):=fun y i h1 h2=>by congr 1;omega
    by_cases hq0:q > 0
    ·rw[if_pos hq0]
     have rs:=Jaa (rk:=rk) (a:=b') (i:=lo+x - (q+1)) (j:=lo+x) (by omega) he
     refine wpS_bind (Xia (wpS_pure ⟨_,0,rfl,rfl,cb.trans (Ch.rev (by omega) (by omega) (by omega)),?_,by omega,one _⟩))
     refine Dn.step (fun i j h1 h2 h3=>?_) (by omega) ?_
     ·rw[rs,rs];exact db i j h1 h2 h3
     ·rw[rs,rs];exact Vv hw
    ·rw[if_neg hq0]
     exact wpS_pure ⟨b',0,rfl,rfl,cb,db.step (by omega) (Vv hw),by omega,one _⟩
   ·simp only[hw,decide_false,Bool.false_eq_true,if_false]
    refine wpS_bind (Ylb L hS' (by omega) (by omega) ?_)
    by_cases hv:K rk b' (lo+x - 1) < K rk b' (lo+x)
    ·simp only[hv,decide_true,if_true]
     exact wpS_pure ⟨b',x,q,rfl,rfl,by omega,cb,db,hq,he⟩
    ·simp only[hv,decide_false,Bool.false_eq_true,if_false]
     have e2:K rk b' (lo+x)=K rk b' (lo+x - 1):=by omega
     refine wpS_pure ⟨b',q+1,rfl,rfl,cb,db.step (by omega) (by omega),by omega,fun i h1 h2=>?_⟩
     rw[show lo+(x+1) - 1=lo+x by omega]
     by_cases hi:i=lo+x
     ·rw[hi]
     ·rw[e2];exact he i (by omega) (by omega)
  case dpost =>
   rintro c st' ⟨b',n',q,rfl,rfl,hn',cb,db,hq,he⟩;dsimp only;have bs:=cb.size
   suffices T:∀ c:Array Keyed,Ch rk lo (lo+nrem) a c->Dn rk c lo (lo+n')->wpS (model prog w) A E s _ Q (mk κ c pd g) by
    by_cases hq0:q > 0
    ·rw[if_pos hq0]
     have rs:=Jaa (rk:=rk) (a:=b') (i:=lo+n' - (q+1)) (j:=lo+n') (by omega) he
     refine wpS_bind (Xia (T _ (cb.trans (Ch.rev (by omega) (by omega) (by omega))) fun i j h1 h2 h3=>?_))
     rw[rs,rs];exact db i j h1 h2 h3
    ·rw[if_neg hq0]
     exact T b' cb db
   intro c cc dc;have cs:=cc.size;refine wpS_bind (Xia ?_)
   have ce:Ch rk lo (lo+nrem) a (mirror c lo (lo+n') ((lo+n' - lo) / 2)):=cc.trans (Ch.rev (by omega) (Ve _) (by omega))
   have ue:Up rk (mirror c lo (lo+n') ((lo+n' - lo) / 2)) lo (lo+n'):=fun i j h1 h2 h3=>by
    rw[Jzb (by omega),Jzb (by omega),if_pos (by omega),if_pos (by omega)]
    exact dc _ _ (by omega) (by omega) (by omega)
   generalize mirror c lo (lo+n') ((lo+n' - lo) / 2)=e at ce ue ⊢;have es:=ce.size;refine wpS_bind (wpS_mono (wpS_forRange (I:=fun x c st'=>st'=mk κ e pd g/\c=(none,x)/\Up rk e lo (lo+x))
    (Q:=fun c st'=>st'=mk κ e pd g/\∃ n,c=(none,n)/\1<=n/\n<=nrem/\Up rk e lo (lo+n)) ?estep ?efin ⟨rfl,rfl,ue⟩) ?epost)
   case estep =>
    rintro x c st' hx1 hx2 ⟨rfl,rfl,u⟩;dsimp only;refine wpS_bind (Ylb L (ce.all hS) (by omega) (by omega) ?_)
    by_cases hw:K rk e (lo+x) < K rk e (lo+x - 1)
    ·simp only[hw,decide_true,if_true]
     exact wpS_pure ⟨rfl,x,rfl,by omega,by omega,u⟩
    ·simp only[hw,decide_false,Bool.false_eq_true,if_false]
     exact wpS_pure ⟨rfl,rfl,u.step (by omega) hw⟩
   case efin =>
    rintro c st' ⟨rfl,rfl,u⟩;exact⟨rfl,_,rfl,by omega,by omega,u⟩
   case epost =>
    rintro c st' ⟨rfl,m,rfl,hm1,hm2,u⟩;exact wpS_pure (h m e hm1 hm2 ce u)
theorem JZa(L:QFa prog w A E s κ rk S){a:Array Keyed}{pd:Array (Nat×Nat×Nat)}{g lo n ok:Nat}{Q:Bool->SortSt->Prop}(hS:∀ x∈a,S x)(hsz:lo+n<=a.size)(hok:1<=ok)(hn:ok<=n)(u:Up rk a lo (lo+ok))
 (h:∀ b,Ch rk lo (lo+n) a b->Up rk b lo (lo+n)->Q true (mk κ b pd g)):wpS (model prog w) A E s (binarySort' lo n ok) Q (mk κ a pd g):=by
 refine wpS_bind (wpS_mono (wpS_forRange (I:=fun x c st'=>c=(none,())/\∃ b,st'=mk κ b pd g/\Ch rk lo (lo+n) a b/\Up rk b lo (lo+x)) (Q:=fun c st'=>c=(none,())/\∃ b,st'=mk κ b pd g/\Ch rk lo (lo+n) a b/\Up rk b lo (lo+n)) ?step ?fin ⟨rfl,a,rfl,Ch.refl,by rw[show max ok 1=ok by omega];exact u⟩) ?post)
 case fin =>
  rintro c st' ⟨rfl,b,rfl,cb,ub⟩;rw[show max (max ok 1) n=n by omega]at ub
  exact⟨rfl,b,rfl,cb,ub⟩
 case post =>
  rintro c st' ⟨rfl,b,rfl,cb,ub⟩;exact wpS_pure (h b cb ub)
 case step =>
  rintro k c st' hk1 hk2 ⟨rfl,b,rfl,cb,ub⟩;have bs:=cb.size;dsimp only;refine wpS_bind (wpS_mono (wpS_forRange (I:=fun x c st'=>st'=mk κ b pd g/\∃ l r,c=(none,l,r)/\l<=r/\r<=k/\r - l<=k - x/\(∀ i,lo<=i->i < lo+l->K rk b i<=K rk b (lo+k))/\∀ i,lo+r<=i->i < lo+k->K rk b (lo+k) < K rk b i)
   (Q:=fun c st'=>st'=mk κ b pd g/\∃ l r,c=(none,l,r)/\l<=k/\(∀ i,lo<=i->i < lo+l->K rk b i<=K rk b (lo+k))/\∀ i,lo+l<=i->i < lo+k->K rk b (lo+k) < K rk b i) ?istep ?ifin ⟨rfl,0,k,rfl,by omega,by omega,by omega,fun i h1 h2=>by omega,fun i h1 h2=>by omega⟩) ?ipost)
  case ifin =>
   rintro c st' ⟨rfl,l,r,rfl,h1,h2,h3,h4,h5⟩;have:l=r:=by omega
   subst this;exact⟨rfl,l,l,rfl,h2,h4,h5⟩
  case istep =>
   rintro x c st' _ hx ⟨rfl,l,r,rfl,h1,h2,h3,h4,h5⟩;dsimp only
   by_cases hge:l >= r
   ·rw[if_pos hge]
    have:l=r:=by omega
    subst this;exact wpS_pure ⟨rfl,l,l,rfl,h2,h4,h5⟩
   ·rw[if_neg hge]
    refine wpS_bind (Ylb L (cb.all hS) (by omega) (by omega) ?_)
    by_cases hw:K rk b (lo+k) < K rk b (lo+(l+r) / 2)
    ·simp only[hw,decide_true,if_true]
     exact wpS_pure ⟨rfl,l,_,rfl,by omega,by omega,by omega,h4,fun i a1 a2=>Vt hw (ub _ i (by omega) a1 a2)⟩
    ·simp only[hw,decide_false,Bool.false_eq_true,if_false]
     exact wpS_pure ⟨rfl,_,r,rfl,by omega,by omega,by omega,fun i a1 a2=>Vj (ub i (lo+(l+r) / 2) a1 (by omega) (by omega)) (Nat.not_lt.mp hw),h5⟩
  case ipost =>
   rintro c st' ⟨rfl,l,r,rfl,h1,h4,h5⟩;have e:lo+k - (lo+k - (lo+l))=lo+l:=by omega
   refine wpS_bind (wpS_modify (wpS_pure ⟨rfl,bubble b (lo+k) (lo+k - (lo+l)),rfl,cb.trans (Ch.bub (by omega) (by omega) (by omega) (by omega)),fun i j a1 a2 a3=>?_⟩))
   rw[XHb (by omega) (by omega),XHb (by omega) (by omega),e]
   by_cases i1:i=lo+l
   ·rw[if_pos i1]
    by_cases j1:j=lo+l
    ·rw[if_pos j1];exact Ve _
    ·rw[if_neg j1,if_pos (by omega)]
     exact Vv (h5 _ (by omega) (by omega))
   ·rw[if_neg i1]
    by_cases i2:lo+l < i/\i<=lo+k
    ·rw[if_pos i2,if_neg (by omega),if_pos (by omega)]
     exact ub _ _ (by omega) (by omega) (by omega)
    ·rw[if_neg i2]
     by_cases j1:j=lo+l
     ·rw[if_pos j1];exact h4 i a1 (by omega)
     ·rw[if_neg j1]
      by_cases j2:lo+l < j/\j<=lo+k
      ·rw[if_pos j2];exact ub _ _ (by omega) (by omega) (by omega)
      ·rw[if_neg j2];exact ub _ _ (by omega) (by omega) (by omega)
end
end SortB
end
section
namespace SortB
open PySem PySem.W PyProof.Rows
def Cov(rk:Keyed->Nat)(a:Array Keyed):List (Nat×Nat×Nat)->Nat->Nat->Prop
 | [],lo,hi=>lo=hi
 | (s,n,_)::r,lo,hi=>s=lo/\0 < n/\Up rk a lo (lo+n)/\Cov rk a r (lo+n) hi
section
variable{rk:Keyed->Nat}{a b:Array Keyed}{l r:List (Nat×Nat×Nat)}{lo hi mid:Nat}
theorem Cov.le:∀ {l:List (Nat×Nat×Nat)} {lo hi:Nat},Cov rk a l lo hi->lo+l.length<=hi
 | [],lo,hi,h=>by have:lo=hi:=h;simp;omega
 | (s,n,p)::r,lo,hi,h=>by
  obtain⟨_,h1,_,h2⟩:=h;have:=Cov.le h2;rw[length_cons];omega
theorem Cov.app:∀ {l:List (Nat×Nat×Nat)} {lo:Nat},Cov rk a (l++r) lo hi↔∃ mid,Cov rk a l lo mid/\Cov rk a r mid hi
 | [],lo=>⟨fun h=>⟨lo,rfl,h⟩,fun⟨m,e,h⟩=>by have:lo=m:=e;subst this;exact h⟩
 | (s,n,p)::l,lo=>by
  show(s=lo/\0 < n/\Up rk a lo (lo+n)/\Cov rk a (l++r) (lo+n) hi)↔∃ mid,(s=lo/\0 < n/\Up rk a lo (lo+n)/\Cov rk a l (lo+n) mid)/\Cov rk a r mid hi;rw[Cov.app];exact⟨fun⟨a1,a2,a3,m,a4,a5⟩=>⟨m,⟨a1,a2,a3,a4⟩,a5⟩,fun⟨m,⟨a1,a2,a3,a4⟩,a5⟩=>⟨a1,a2,a3,m,a4,a5⟩⟩
theorem Cov.ext:∀ {l:List (Nat×Nat×Nat)} {lo:Nat},Cov rk a l lo hi->(∀ j,lo<=j->j < hi->K rk b j=K rk a j)->Cov rk b l lo hi
 | [],_,h,_=>h
 | (s,n,p)::l,lo,h,e=>by
  obtain⟨a1,a2,a3,a4⟩:=h;have:=Cov.le a4;exact⟨a1,a2,a3.ext fun i h1 h2=>e i h1 (by omega),a4.ext fun j h1 h2=>e j (by omega) h2⟩
theorem Cov.pow:∀ {l l':List (Nat×Nat×Nat)} {lo:Nat},l.map (fun x=>(x.1,x.2.1))=l'.map (fun x=>(x.1,x.2.1))->Cov rk a l lo hi->Cov rk a l' lo hi
 | [],[],_,_,h=>h
 | [],_::_,_,e,_=>by simp at e
 | _::_,[],_,e,_=>by simp at e
 | (s,n,p)::l,(s',n',p')::l',lo,e,h=>by
  simp only[map_cons,List.cons.injEq,Prod.mk.injEq]at e;obtain⟨⟨rfl,rfl⟩,e⟩:=e;obtain⟨a1,a2,a3,a4⟩:=h;exact⟨a1,a2,a3,Cov.pow e a4⟩
theorem JNc{l:List (Nat×Nat×Nat)}{i:Nat}(h:i+1 < l.length):l=l.take i++l[i]::l[i+1]::l.drop (i+2):=by
 have e1:l.drop i=l[i]::l.drop (i+1):=drop_eq_getElem_cons (by omega)
 have e2:l.drop (i+1)=l[i+1]::l.drop (i+1+1):=drop_eq_getElem_cons h;rw[<- e2,<- e1,take_append_drop]
theorem YGc{pd:Array (Nat×Nat×Nat)}{i:Nat}{v:Nat×Nat×Nat}(h:i+1 < pd.size):((pd.setIfInBounds i v).eraseIdxIfInBounds (i+1)).toList=pd.toList.take i++v::pd.toList.drop (i+2):=by
 have hs:i+1 < (pd.setIfInBounds i v).size:=by simpa using h
 rw[Array.eraseIdxIfInBounds_eq,dif_pos hs,Array.toList_eraseIdx,Array.toList_setIfInBounds,eraseIdx_eq_take_drop_succ];rw[set_eq_take_append_cons_drop,if_pos (by simp;omega)]
 have e1:(pd.toList.take i).length=i:=by simp;omega
 rw[take_append,drop_append,e1,take_of_length_le (by omega),drop_of_length_le (by omega:(pd.toList.take i).length<=i+1+1)]
 rw[show i+1 - i=1 by omega,show i+1+1 - i=2 by omega]
 simp
end
section
variable{prog:Program}{w:World}{A:Around}{E:YQ_}{s:Shared}{κ:SortKind}{rk:Keyed->Nat}{S:Keyed->Prop}
theorem Jba(L:QFa prog w A E s κ rk S){b:Array Keyed}{pd:Array (Nat×Nat×Nat)}{g i hi:Nat}{Q:Bool->SortSt->Prop}(hS:∀ x∈b,S x)(hsz:hi<=b.size)(cv:Cov rk b pd.toList 0 hi)(hi1:i+1 < pd.size)
 (h:∀ c pd' g',Ch rk 0 hi b c->Cov rk c pd'.toList 0 hi->pd'.size+1=pd.size->Q true (mk κ c pd' g')):wpS (model prog w) A E s (mergeAt' i) Q (mk κ b pd g):=by
 have hl:i+1 < pd.toList.length:=by simpa using hi1
 have sp:=JNc hl;rw[sp]at cv;obtain⟨mid,c1,c2⟩:=Cov.app.mp cv;have g1:pd[i]?=some pd.toList[i]:=by simp[show i < pd.size by omega]
 have g2:pd[i+1]?=some pd.toList[i+1]:=by simp[hi1]
 generalize pd.toList[i]=u at c2 g1 sp;generalize pd.toList[i+1]=v at c2 g2 sp;obtain⟨sa,na,p⟩:=u;obtain⟨sb,nb,q⟩:=v;obtain⟨rfl,n1,u1,rfl,n2,u2,c3⟩:=c2;have le3:=c3.le;refine Zrb L rfl rfl hS g1 g2 n1 n2 (by show sa+na+nb<=b.size;omega) u1 u2 fun c g' ch up=>h c _ g' (ch.mono (Vk _) (by omega)) ?_ ?_
 ·show Cov rk c ((pd.setIfInBounds i (sa,na+nb,p)).eraseIdxIfInBounds (i+1)).toList 0 hi
  rw[YGc hi1];have le1:=c1.le;refine Cov.app.mpr ⟨sa,c1.ext fun j h1 h2=>ch.out j (by omega),rfl,by omega,?_,?_⟩
  ·rw[<- Nat.add_assoc];exact up
  ·rw[<- Nat.add_assoc];exact c3.ext fun j h1 h2=>ch.out j (by omega)
 ·show((pd.setIfInBounds i (sa,na+nb,p)).eraseIdxIfInBounds (i+1)).size+1=pd.size
  rw[<- Array.length_toList,YGc hi1];simp
  omega
theorem Qib(L:QFa prog w A E s κ rk S){a:Array Keyed}{g:Nat}{Q:Unit->SortSt->Prop}(hS:∀ x∈a,S x)(h2:2<=a.size)
 (h:∀ b pd g,b.Perm a->Up rk b 0 a.size->Q () (mk κ b pd g)):wpS (model prog w) A E s sortRuns' Q (mk κ a #[] g):=by
 have pend:∀ b pd g,pendingOf (mk κ b pd g)=pd:=fun _ _ _=>rfl
 rw[sortRuns'_eq];refine wpS_bind (wpS_get ?_)
 dsimp only;rw[show arrOf (mk κ a #[] g)=a from rfl]
 generalize minRun' a.size a.size 0=mr;refine wpS_bind (wpS_mono (wpS_forRange (I:=fun x c st'=>∃ lo b pd g,c=(none,lo)/\st'=mk κ b pd g/\b.Perm a/\lo<=a.size/\x<=lo/\Cov rk b pd.toList 0 lo)
  (Q:=fun c st'=>∃ b pd g,c=(none,a.size)/\st'=mk κ b pd g/\b.Perm a/\Cov rk b pd.toList 0 a.size) ?step ?fin ⟨0,a,#[],g,rfl,rfl,Array.Perm.refl _,by omega,by omega,rfl⟩) ?post)
 case fin =>
  rintro c st' ⟨lo,b,pd,g,rfl,rfl,pb,h1,h3,cv⟩;have:lo=a.size:=by omega
  subst this;exact⟨b,pd,g,rfl,rfl,pb,cv⟩
 case post =>
  rintro c st' ⟨b,pd,g,rfl,rfl,pb,cv⟩;dsimp only;have hlen:pd.size<=a.size:=by have:=cv.le;simpa using this
  refine wpS_bind (wpS_mono (wpS_forRange (I:=fun x c st'=>c=(none,())/\∃ b pd g,st'=mk κ b pd g/\b.Perm a/\Cov rk b pd.toList 0 a.size/\pd.size+x<=a.size) (Q:=fun c st'=>c=(none,())/\∃ b pd g,st'=mk κ b pd g/\b.Perm a/\Cov rk b pd.toList 0 a.size/\pd.size<=1) ?lstep ?lfin ⟨rfl,b,pd,g,rfl,pb,cv,hlen⟩) ?lpost)
  case lfin =>
   rintro c st' ⟨rfl,b,pd,g,rfl,pb,cv,hx⟩;exact⟨rfl,b,pd,g,rfl,pb,cv,by omega⟩
  case lpost =>
   rintro c st' ⟨rfl,b,pd,g,rfl,pb,cv,hx⟩;refine wpS_pure (h b pd g pb ?_)
   have hx':pd.toList.length<=1:=by simpa using hx
   match hpd:pd.toList,hx',cv with
   | [],_,cv=>have:0=a.size:=cv;omega
   | [(s0,n0,p0)],_,cv =>
    obtain⟨e1,_,u,e2⟩:=cv;have e2:0+n0=a.size:=e2;rw[<- e2];exact u
   | _::_::_,hx',_=>simp at hx'
  case lstep =>
   rintro x c st' _ hx ⟨rfl,b,pd,g,rfl,pb,cv,hx2⟩;refine wpS_bind (wpS_get ?_)
   rw[pend]
   by_cases hs:pd.size<=1
   ·rw[if_pos hs]
    exact wpS_pure ⟨rfl,b,pd,g,rfl,pb,cv,hs⟩
   rw[if_neg hs];refine wpS_bind (Jba L (fun x hx=>hS x (pb.mem_iff.mp hx)) (by rw[pb.size_eq];exact Ve _) cv ?_ fun c pd' g' ch cv' hsz=>?_)
   ·have hif:∀ (c:Bool) (i:Nat),(if c=true then i - 1 else i)<=i:=fun c i=>by cases c <;> simp
    exact Nat.lt_of_le_of_lt (Nat.add_le_add_right (hif _ _) 1) (by omega)
   ·exact wpS_pure ⟨rfl,c,pd',g',rfl,ch.perm.trans pb,cv',by omega⟩
 case step =>
  rintro x c st' _ hx ⟨lo,b,pd,g,rfl,rfl,pb,h1,h3,cv⟩;dsimp only
  by_cases hge:lo >= a.size
  ·rw[if_pos hge]
   have:lo=a.size:=by omega
   subst this;exact wpS_pure ⟨b,pd,g,rfl,rfl,pb,cv⟩
  rw[if_neg hge];have bsz:=pb.size_eq
  suffices T:∀ (n:Nat) (b:Array Keyed),1<=n->lo+n<=a.size->b.Perm a->Cov rk b pd.toList 0 lo->Up rk b lo (lo+n)->wpS (model prog w) A E s _ _ (mk κ b pd g) by
   refine wpS_bind (Qhb L (fun x hx=>hS x (pb.mem_iff.mp hx)) (by omega) (by omega) fun found b1 f1 f2 ch1 up1=>?_)
   dsimp only;have pb1:b1.Perm a:=ch1.perm.trans pb;have cv1:Cov rk b1 pd.toList 0 lo:=cv.ext fun j _ h=>ch1.out j (by omega)
   by_cases hm:¬ found < mr
   ·rw[if_neg hm]
    exact T found b1 f1 (by omega) pb1 cv1 up1
   ·have hm:found < mr:=by omega
    rw[if_pos hm];refine wpS_bind (wpS_lift (wpAny_rule ⟨rfl,?_⟩))
    have bsz1:=pb1.size_eq;refine wpS_bind (JZa L (fun x hx=>hS x (pb1.mem_iff.mp hx)) (by omega) f1 (by omega) up1 fun b2 ch2 up2=>?_)
    rw[if_neg (by simp)]
    exact T _ b2 (by omega) (by omega) (ch2.perm.trans pb1) (cv1.ext fun j _ h=>ch2.out j (by omega)) up2
  clear cv pb bsz;intro n b hn1 hn2 pb cv up;have bsz:=pb.size_eq;refine wpS_bind (wpS_get ?_)
  rw[pend];cases hb:pd.back? with
  | none =>
   dsimp only;refine wpS_bind (wpS_modify (wpS_pure ⟨lo+n,b,pd.push (lo,n,0),g,rfl,rfl,pb,hn2,by omega,?_⟩))
   rw[Array.toList_push];exact Cov.app.mpr ⟨lo,cv,rfl,hn1,up,rfl⟩
  | some q =>
   obtain⟨s1,n1,p1⟩:=q;dsimp only;generalize power' a.size (2 * s1+n1) (2 * s1+n1+n1+n) a.size=pw;refine wpS_bind (wpS_mono (wpS_forRange (I:=fun y c st'=>c=(none,())/\∃ b pd g,st'=mk κ b pd g/\b.Perm a/\Cov rk b pd.toList 0 lo/\Up rk b lo (lo+n)) (Q:=fun c st'=>c=(none,())/\∃ b pd g,st'=mk κ b pd g/\b.Perm a/\Cov rk b pd.toList 0 lo/\Up rk b lo (lo+n)) ?mstep (fun _ _ z=>z) ⟨rfl,b,pd,g,rfl,pb,cv,up⟩) ?mpost)
   case mstep =>
    rintro y c st' _ _ ⟨rfl,b,pd,g,rfl,pb,cv,up⟩;refine wpS_bind (wpS_get ?_)
    rw[pend];have bsz:=pb.size_eq
    by_cases hs:pd.size > 1
    ·rw[if_pos hs]
     cases hq:pd[pd.size - 2]? with
     | none=>exact wpS_pure ⟨rfl,b,pd,g,rfl,pb,cv,up⟩
     | some q =>
      obtain⟨s2,n2,p2⟩:=q;dsimp only
      by_cases ho:p2<=pw
      ·rw[if_pos ho]
       exact wpS_pure ⟨rfl,b,pd,g,rfl,pb,cv,up⟩
      ·rw[if_neg ho]
       refine wpS_bind (Jba L (fun x hx=>hS x (pb.mem_iff.mp hx)) (by omega) cv (by omega) fun c pd' g' ch cv' hsz=>?_)
       rw[if_neg (by simp)]
       exact wpS_pure ⟨rfl,c,pd',g',rfl,ch.perm.trans pb,cv',up.ext fun i h1 h2=>ch.out i (by omega)⟩
    ·rw[if_neg hs]
     exact wpS_pure ⟨rfl,b,pd,g,rfl,pb,cv,up⟩
   case mpost =>
    rintro c st' ⟨rfl,b,pd,g,rfl,pb,cv,up⟩;dsimp only;refine wpS_bind (wpS_modify (wpS_bind (wpS_modify (wpS_pure ⟨lo+n,b,_,g,rfl,rfl,pb,hn2,by omega,?_⟩))))
    show Cov rk b ((pd.modify (pd.size - 1) fun x=>(x.1,x.2.1,pw)).push (lo,n,0)).toList 0 (lo+n)
    rw[Array.toList_push];refine Cov.app.mpr ⟨lo,Cov.pow ?_ cv,rfl,hn1,up,rfl⟩
    rw[Array.toList_modify]
    apply ext_getElem?
    intro i;rw[getElem?_map,getElem?_map,getElem?_modify]
    cases pd.toList[i]? with
    | none=>rfl
    | some v=>simp only[Option.map_some];split <;> rfl
end
end SortB
end
section
namespace SortB
open PySem PySem.W PyProof.Rows
theorem Ymb{α β:Type}{f:α->β}{l' m:List β}(p:l'.Perm m):∀ l:List α,m=l.map f->∃ q:List α,q.Perm l/\l'=q.map f:=by
 induction p with
 | nil=>intro l e;exact⟨[],by rw[map_eq_nil_iff.mp e.symm],rfl⟩
 | cons x p ih =>
  intro l e;cases l with
  | nil=>simp at e
  | cons a l =>
   simp only[map_cons,List.cons.injEq]at e;obtain⟨q,hq,rfl⟩:=ih l e.2;exact⟨a::q,hq.cons a,by rw[map_cons,e.1]⟩
 | swap x y l0 =>
  intro l e
  match l,e with
  | a::b::l,e =>
   simp only[map_cons,List.cons.injEq]at e;exact⟨b::a::l,List.Perm.swap a b l,by rw[map_cons,map_cons,e.1,e.2.1,e.2.2]⟩
 | trans p1 p2 ih1 ih2 =>
  intro l e;obtain⟨q2,h2,e2⟩:=ih2 l e;obtain⟨q1,h1,e1⟩:=ih1 q2 e2;exact⟨q1,h1.trans h2,e1⟩
open Classical in
noncomputable def Zhc (it:Nat->Keyed) (n:Nat) (r:Nat->Nat) (x:Keyed):Nat:=if h:∃ i,i < n/\it i=x then r h.choose else 0
theorem Xja{it:Nat->Keyed}{n:Nat}{r:Nat->Nat}(hw:∀ i j,i < n->j < n->it i=it j->r i=r j){i:Nat}(hi:i < n):Zhc it n r (it i)=r i:=by
 unfold Zhc;have h:∃ j,j < n/\it j=it i:=⟨i,hi,rfl⟩;rw[dif_pos h];exact hw _ _ h.choose_spec.1 hi h.choose_spec.2
section
variable{prog:Program}{w:World}{A:Around}{E:YQ_}{s:Shared}{κ:SortKind}{ks vs:List Value}{r:Nat->Nat}
theorem Xka(hl:ks.length=vs.length)(h2:2<=vs.length)(hc:∀ i j (C:Bool->Shared->Prop),i < vs.length->j < vs.length->C (decide (r i < r j)) s->kas_ask prog w A κ ks i j C s)
 (hw:∀ i j,i < vs.length->j < vs.length->ks.getD i Value.none=ks.getD j Value.none->r i=r j) :
 wpAny (model prog w) A (sortRuns'.run (SortSt.mk' κ (ks.toArray.zip vs.toArray) #[] 7 none)) (fun x s'=>∃ p:Array Nat,arrOf x.2=p.map (kas_item (ks.toArray.zip vs.toArray))/\failedOf x.2=none/\s'=s/\SortT.Ok vs.length p/\SortT.Up r p vs.length) E s:=by
 have it:∀ i,kas_item (ks.toArray.zip vs.toArray) i=(ks.getD i Value.none,vs.getD i Value.none):=kat_item hl;have sz:(ks.toArray.zip vs.toArray).size=vs.length:=by simp[hl]
 have rng:=kas_range (ks.toArray.zip vs.toArray);rw[sz]at rng;have al:(ks.toArray.zip vs.toArray).toList=(List.range vs.length).map (kas_item (ks.toArray.zip vs.toArray)):=by
  have:=congrArg Array.toList rng;rw[Array.toList_map]at this;exact this.symm
 have hw':∀ i j,i < vs.length->j < vs.length->kas_item (ks.toArray.zip vs.toArray) i=kas_item (ks.toArray.zip vs.toArray) j->r i=r j:=fun i j hi hj e=>by
  rw[it,it]at e;exact hw i j hi hj (Prod.mk.inj e).1
 have L:QFa prog w A E s κ (Zhc (kas_item (ks.toArray.zip vs.toArray)) vs.length r) (fun x=>∃ i,i < vs.length/\kas_item (ks.toArray.zip vs.toArray) i=x):=by
  rintro x y st Q hk ⟨i,hi,rfl⟩ ⟨j,hj,rfl⟩ hq;rw[Xja hw' hi,Xja hw' hj]at hq;rw[lt'_eq];refine wpS_bind (wpS_get ?_)
  rw[hk,it,it];have:=hc i j (fun b s'=>s'=s/\b=decide (r i < r j)) hi hj ⟨rfl,rfl⟩
  unfold kas_ask at this;refine wpS_bind (wpS_lift (wpAny_attempt (wpAny_mono this (fun b s' hb=>?_) fun _ _ z=>z.elim)))
  obtain⟨e1,e2⟩:=hb;subst e1 e2;exact⟨rfl,wpS_pure hq⟩
 have run:=Qib L (a:=ks.toArray.zip vs.toArray) (g:=7) (Q:=fun _ st'=>∃ p:Array Nat,arrOf st'=p.map (kas_item (ks.toArray.zip vs.toArray))/\failedOf st'=none/\SortT.Ok vs.length p/\SortT.Up r p vs.length) (fun x hx=>?_) (by omega) fun b pd g pb up=>?_
 ·unfold wpS at run
  refine wpAny_mono run (fun x s' hx=>?_) fun _ _ z=>z
  obtain⟨e,p,a1,a2,a3,a4⟩:=hx;exact⟨p,a1,a2,e,a3,a4⟩
 ·have:=Array.mem_toList_iff.mpr hx
  rw[al]at this;obtain⟨i,hi,e⟩:=mem_map.mp this;exact⟨i,mem_range.mp hi,e⟩
 ·have pl:=Array.perm_iff_toList_perm.mp pb
  obtain⟨q,hq,eq⟩:=Ymb pl _ al;have ql:q.length=vs.length:=by rw[hq.length_eq,length_range]
  have hb:b=q.toArray.map (kas_item (ks.toArray.zip vs.toArray)):=by
   apply Array.toList_inj.mp
   rw[Array.toList_map,eq]
  refine⟨q.toArray,hb,rfl,⟨by rw[Vn,ql],Array.perm_iff_toList_perm.mpr (by simpa using hq)⟩,fun i j hij hj=>?_⟩
  have hu:=up i j (Vk _) hij (by omega)
  have kk:∀ i,i < vs.length->K (Zhc (kas_item (ks.toArray.zip vs.toArray)) vs.length r) b i=SortT.K r q.toArray i:=fun i hi=>by
   have hi':i < q.length:=by omega
   have hib:i < b.size:=by rw[hb];simp;omega
   rw[QZ hib];have e1:b[i]=kas_item (ks.toArray.zip vs.toArray) q[i]:=by simp[hb]
   have e2:q[i] < vs.length:=mem_range.mp (hq.mem_iff.mp (getElem_mem hi'));rw[e1,Xja hw' e2];unfold SortT.K;simp[Array.getD,hi']
  rw[kk i (by omega),kk j hj]at hu
  exact hu
end
end SortB
end
section
namespace L2
open PySem PySem.Spec PyProof.Rows PySem.W
theorem Inv.adopt{X:Cx}{pins:YP_}{σ:St}{H:Hp}{s:Shared}{h':Heap}{D:Addr}{o:HO}{t':Nat}(I:Inv X pins σ H s)(f:Qja X pins H D)(k:∀ b u,b≠D->s.heap.get? b=some u->h'.get? b=some u)
 (new:QA X.prog X.w (upd H D o) h' D o):Inv X pins σ (upd H D o) { s with heap:=h',toks:=t' }:=by
 obtain⟨f0,f1,f2,f3,f4,f5⟩:=f;have nit:∀ b u,H b=some u->b≠D:=fun b u e z=>by rw[z,f0]at e;cases e
 refine I.step (g':=s.gens) (d':=s.drawn) (ch:=[D]) (fun b hb=>?_) (fun b o _ _ hc e _=>k b o (fun z=>hc (by simp[z])) e) (fun b o _ _ hc e _=>⟨o.slots,k b o (fun z=>hc (by simp[z])) e⟩) (fun b _ hc _ n=>by rw[Qe (fun z=>hc (by simp[z]))];exact n)
  (fun b o hc e=>⟨o,k b o (fun z=>hc (by simp[z])) e⟩) (fun b _ e=>by rw[Qe (nit _ _ e)];exact e) (fun b _ _ e=>by rw[Qe (nit _ _ e)];exact e) (fun b ps e=>⟨#[],by rw[Qe (nit _ _ e),e];simp⟩) (fun m hm=>?_) (fun b u e=>?_) I.bare
 ·have e:b=D:=by simpa using hb
  subst e;exact⟨f3,f1,f4,f5⟩
 ·obtain⟨o,es,ep,ho,r⟩:=hm
  exact⟨o,es,ep,k _ o (Ne.symm f1) ho,r⟩
 ·by_cases hb:b=D
  ·subst hb;rw[Qa]at e;cases e;exact new
  ·rw[Qe hb]at e
   refine(I.hok b u e).stay (fun c v hc q=>k c v ?_ q) (fun c q=>by rw[Qe (nit _ _ q)];exact q) fun c xs q=>by rw[Qe (nit _ _ q)];exact q
   rcases hc with z | z
   ·rw[z];exact hb
   ·exact nit c _ z
theorem Qr.getD:∀ {xs:List V} {us:List Value},Qr xs us->∀ i,Qq (xs.getD i .non) (us.getD i Value.none):=fun {xs us} r i=>by
 cases e:xs[i]? with
 | none =>
  have e2:=r.none_of e;rw[getD_eq_getElem?_getD,getD_eq_getElem?_getD,e,e2]
  rfl
 | some x =>
  obtain⟨u,e2,ru⟩:=r.get e;rw[getD_eq_getElem?_getD,getD_eq_getElem?_getD,e,e2]
  exact ru
theorem Qr.pick{xs:List V}{us:List Value}(r:Qr xs us):∀ l:List Nat,Qr (l.map fun i=>xs.getD i .non) (l.map fun i=>us.getD i Value.none)
 | []=>.nil
 | i::l=>.cons (r.getD i) (r.pick l)
theorem YGa{α:Type}{p q:α->Bool}:∀ {l:List α} {a:α},(∀ x∈l,p x=true->q x=true)->a∈l->q a=true->p a=false->l.countP p < l.countP q
 | x::l,a,h,hm,hq,hp=>by
  have mono:l.countP p<=l.countP q:=countP_mono_left fun y hy=>h y (Vo _ hy)
  rw[countP_cons,countP_cons]
  rcases mem_cons.mp hm with e | e
  ·subst e
   rw[hq,hp];simp only[Bool.false_eq_true,if_false,if_true]
   omega
  ·have ih:=YGa (fun y hy=>h y (Vo _ hy)) e hq hp
   have hx:=h x mem_cons_self;cases hpx:p x with
   | false=>simp only[Bool.false_eq_true,if_false];split <;> omega
   | true=>rw[hx hpx];simp only[if_true];omega
structure Swo{α:Type}(xs:List α)(lt:α->α->Bool):Prop where
 irr:∀ a∈xs,lt a a=false
 tr:∀ a∈xs,∀ b∈xs,∀ c∈xs,lt a b=true->lt b c=true->lt a c=true
 neg:∀ a∈xs,∀ b∈xs,∀ c∈xs,lt a c=true->lt a b=true\/lt b c=true
theorem Swo.rank{α:Type}{xs:List α}{lt:α->α->Bool}(w:Swo xs lt){a b:α}(ha:a∈xs)(hb:b∈xs):decide (xs.countP (lt · a) < xs.countP (lt · b))=lt a b:=by
 cases e:lt a b with
 | true=>exact decide_eq_true (YGa (fun x hx h=>w.tr x hx a ha b hb h e) ha e (w.irr a ha))
 | false =>
  refine decide_eq_false fun h=>?_
  have:xs.countP (lt · b)<=xs.countP (lt · a):=countP_mono_left fun x hx h=>(w.neg x hx a ha b hb h).elim id fun z=>by rw[e]at z;cases z
  omega
theorem Qjb{α:Type}{xs:List α}{i:Nat}{d:α}(h:i < xs.length):xs.getD i d∈xs:=by
 rw[getD_eq_getElem?_getD,Vb h]
 exact getElem_mem h
theorem Qla{α:Type}{xs:List α}{d:α}{p:Array Nat}(h:SortT.Ok xs.length p):(p.toList.map fun i=>xs.getD i d).Perm xs:=by
 have h1:p.toList.Perm (List.range xs.length):=by
  have:=Array.perm_iff_toList_perm.mp h.perm
  simpa using this
 have h2:=h1.map (fun i=>xs.getD i d)
 have h3:(List.range xs.length).map (fun i=>xs.getD i d)=xs:=by
  apply ext_getElem
  ·simp
  ·intro i h1 h2
   simp[h2]
 rw[h3]at h2;exact h2
theorem Jca{xs:List V}{lt:V->V->Bool}(w:Swo xs lt){p:Array Nat}(h:SortT.Ok xs.length p)(hn:0 < xs.length)(u:SortT.Up (fun i=>xs.countP (lt · (xs.getD i .non))) p xs.length) :
 (p.toList.map fun i=>xs.getD i V.non).Pairwise fun a b=>lt b a=false:=by
 rw[pairwise_iff_getElem];intro i j hi hj hij;have hi':i < p.size:=by simpa using hi
 have hj':j < p.size:=by simpa using hj
 have hjn:j < xs.length:=by rw[<- h.size];exact hj'
 have:=u i j (by omega) hjn
 unfold SortT.K at this;have gi:p.getD i 0=p[i]:=by simp[Array.getD,hi']
 have gj:p.getD j 0=p[j]:=by simp[Array.getD,hj']
 have li:=h.lt hn i;have lj:=h.lt hn j;rw[gi]at this li;rw[gj]at this lj;have e1:(p.toList.map fun i=>xs.getD i V.non)[i]=xs.getD p[i] .non:=by simp
 have e2:(p.toList.map fun i=>xs.getD i V.non)[j]=xs.getD p[j] .non:=by simp
 rw[e1,e2,<- w.rank (Qjb lj) (Qjb li)];dsimp only at this;exact decide_eq_false (by omega)
section
variable{X:Cx}{pins:YP_}{σ:St}{H:Hp}{s:Shared}{k:Nat}{f:Addr}{fd:FuncData}{p0:Str}{sp:Sp}{A:Around}{E:YQ_}
theorem Jda{α:Type}{R:α->α->Prop}:∀ {xs:List α},xs.length < 2->xs.Pairwise R
 | [],_=>List.Pairwise.nil
 | [a],_=>pairwise_singleton _ _
end
theorem XV:bootBuiltins "sorted"=some (.builtin "sorted"):=by decide +kernel
theorem JOc(h:Heap)(vs:List Value):((h.push (seqObj "list" #[] 0)).update h.objs.size (Obj.mapSeq (·++vs.toArray))).objs.size=h.objs.size+1 /\
 ∀ b o,h.get? b=some o->((h.push (seqObj "list" #[] 0)).update h.objs.size (Obj.mapSeq (·++vs.toArray))).get? b=some o:=by
 constructor
 ·simp only[Heap.size_update,size_push']
 ·intro b o q
  have nb:b≠h.objs.size:=Nat.ne_of_lt (Vh q);exact((Heap.SameBut.update (h.push (seqObj "list" #[] 0)) h.objs.size _).2 b nb).trans (Vd _ q)
section
variable{X:Cx}{pins:YP_}{σ:St}{H:Hp}{s:Shared}{k:Nat}{f:Addr}{fd:FuncData}{p0:Str}{sp:Sp}
end
end L2
end
section
namespace L2
open PySem PySem.Spec PyProof.Rows
section
variable{X:Cx}{e:Expr}{es:List Expr}{te:TE}{pos:Pos}
end
theorem Ynb(z:Str):Str.empty++z=z:=by
 apply PyProof.Rows.ext_toList
 rw[W.KT.app_list];rfl
end L2
end
section
namespace Pl
open PySem L2
def Z3:V->Prop
 | .non=>True
 | .int i => -(10 ^ 30) < i/\i < 10 ^ 30
 | .str z=>z.length<=40
 | _=>False
def rk:V->List V
 | .non=>[.int 0,.int 0]
 | .str z=>[.int 2,.str z]
 | v=>[.int 1,v]
def ltV(a b:V):Bool:=(HT.YN (rk a) (rk b)).getD false
theorem JPc{a b:V}(ha:Z3 a)(hb:Z3 b):HT.YN (rk a) (rk b)=some (ltV a b):=by
 unfold ltV;cases a <;> first | exact ha.elim | skip
 all_goals (cases b <;> first | exact hb.elim | skip)
 all_goals (simp only[rk,HT.YN];repeat' (first | rfl | split))
theorem ZYc:ltV .non .non=false:=rfl
theorem ZZc(i:Int):ltV .non (.int i)=true:=rfl
theorem Z0c(z:Str):ltV .non (.str z)=true:=rfl
theorem Z1c(i:Int):ltV (.int i) .non=false:=rfl
theorem Z2c(z:Str):ltV (.str z) .non=false:=rfl
theorem XJb(i:Int)(z:Str):ltV (.int i) (.str z)=true:=rfl
theorem Z3c(i:Int)(z:Str):ltV (.str z) (.int i)=false:=rfl
theorem JDb(i j:Int):ltV (.int i) (.int j)=decide (i < j):=by
 unfold ltV;simp only[rk,HT.YN,if_true]
 by_cases e:i=j
 ·rw[if_pos e];subst e;simp
 ·rw[if_neg e];rfl
theorem JEb(x y:Str):ltV (.str x) (.str y)=decide (x.cps.toList < y.cps.toList):=by
 unfold ltV;simp only[rk,HT.YN,if_true]
 by_cases e:x=y
 ·rw[if_pos e];subst e
  have:¬ (x.cps.toList < x.cps.toList):=List.lt_irrefl _;simp[this]
 ·rw[if_neg e];rfl
theorem irr{a:V}(ha:Z3 a):ltV a a=false:=by
 cases a <;> first | exact ha.elim | skip
 ·rfl
 ·rw[JDb];simp
 ·rw[JEb];exact decide_eq_false (List.lt_irrefl _)
theorem tr{a b c:V}(ha:Z3 a)(hb:Z3 b)(hc:Z3 c)(h1:ltV a b=true)(h2:ltV b c=true):ltV a c=true:=by
 cases a <;> first | exact ha.elim | skip
 all_goals (cases b <;> first | exact hb.elim | skip)
 all_goals (cases c <;> first | exact hc.elim | skip)
 all_goals first | rfl | (exfalso;rw[ZYc]at h1;cases h1;done) | (exfalso;rw[Z1c]at h1;cases h1;done) | (exfalso;rw[Z2c]at h1;cases h1;done) | (exfalso;rw[Z3c]at h1;cases h1;done) | (exfalso;rw[ZYc]at h2;cases h2;done) | (exfalso;rw[Z1c]at h2;cases h2;done) | (exfalso;rw[Z2c]at h2;cases h2;done) | (exfalso;rw[Z3c]at h2;cases h2;done) | skip
 ·rw[JDb,decide_eq_true_eq]at *;omega
 ·rw[JEb,decide_eq_true_eq]at *;exact List.lt_trans h1 h2
theorem tri{a b:V}(ha:Z3 a)(hb:Z3 b)(h1:ltV a b=false)(h2:ltV b a=false):a=b:=by
 cases a <;> first | exact ha.elim | skip
 all_goals (cases b <;> first | exact hb.elim | skip)
 all_goals first | rfl | (exfalso;rw[ZZc]at h1;cases h1;done) | (exfalso;rw[Z0c]at h1;cases h1;done) | (exfalso;rw[XJb]at h1;cases h1;done) | (exfalso;rw[ZZc]at h2;cases h2;done) | (exfalso;rw[Z0c]at h2;cases h2;done) | (exfalso;rw[XJb]at h2;cases h2;done) | skip
 ·rw[JDb,decide_eq_false_iff_not]at *
  congr 1;omega
 ·rw[JEb,decide_eq_false_iff_not]at *
  congr 1
  exact PyProof.Rows.ext_toList (List.le_antisymm (List.not_lt.mp h2) (List.not_lt.mp h1))
end Pl
end
section
namespace L2
open PySem PySem.Spec PyProof.Rows
def Zw(H H':Hp):Prop:=∀ b xs,H b=some (.tup xs)->H' b=some (.tup xs)
theorem Qk.t{H H':Hp}(s:Qk H H'):Zw H H':=fun b xs e=>s b _ e
theorem Zw.refl(H:Hp):Zw H H:=fun _ _ e=>e
theorem Zw.trans{H H1 H2:Hp}(a:Zw H H1)(b:Zw H1 H2):Zw H H2:=fun c xs e=>b c xs (a c xs e)
theorem Yt{H:Hp}{D:Addr}{ys zs:List V}(h:H D=some (.lst ys)):Zw H (upd H D (.lst zs)):=fun b xs e=>by
 rw[Qe (Jo e h (by intro z;cases z))];exact e
theorem Zic{J:It}{te:TE}{σ:St}{H1:Hp}{Q:VK}(n:Nat)(item:Nat->V->Prop)(P:Hp->Nat->V->Prop)(mono:∀ H H' i v,Zw H H'->P H i v->P H' i v)(hz:n<=sizeLine)
 (hgo:∀ i H2,i < n->Qk H1 H2->J.go i H2/\∀ x H',J.yld i H2 x H'->H'=H2/\item i x) (hst:∀ H2,Qk H1 H2->J.stop n H2)
 (he:∀ i x H2 (R:VK),item i x->Qk H1 H2->(∀ v H3,P H3 i v->Qk H2 H3->R v H3)->te (some x::σ) H2 R)
 (hq:∀ D H2 ys,H1 D=none->Qk H1 H2->H2 D=some (.lst ys)->ys.length=n->(∀ i y,ys[i]?=some y->P H2 i y)->Q (.ref D) H2):LcR J Qcb te σ Q H1:=by
 intro D hD;refine⟨fun i m ys H2=>m=n - i/\i<=n/\ys.length=i/\H2 D=some (.lst ys)/\Qk H1 H2/\∀ j y,ys[j]?=some y->P H2 j y,⟨_,rfl,Vk _,rfl,Qa,Qh hD _,fun j y h=>by simp at h⟩,?_⟩
 rintro i m ys H2 ⟨rfl,hi,hl,hd,sm,hp⟩;refine⟨hd,?_⟩
 by_cases hlt:i < n
 ·obtain⟨go,yl⟩:=hgo i H2 hlt sm
  refine .inr ⟨go,by omega,fun x H' y=>?_⟩
  obtain⟨e,hx⟩:=yl x H' y;subst e;unfold Qcb;refine YAc ?_
  refine he i x _ _ hx sm fun v H3 pv s3=>⟨s3 _ _ hd,n - (i+1),by omega,rfl,hlt,by rw[Vs,hl];rfl,Qa,(sm.trans s3).updL hD _,fun j y h=>?_⟩
  have st:=Yt (zs:=ys++[v]) (s3 _ _ hd)
  by_cases hj:j < ys.length
  ·rw[getElem?_append_left hj]at h
   exact mono _ _ _ _ (s3.t.trans st) (hp j y h)
  ·rw[getElem?_append_right (by omega)]at h
   have hj2:j=i:=by
    have:=(Vc.mp h).1
    simp at this
    omega
   subst hj2;rw[hl]at h;simp at h;subst h;exact mono _ _ _ _ st pv
 ·have e:i=n:=by omega
  subst e;exact .inl ⟨hst H2 sm,hq D H2 ys hD sm hd hl hp⟩
theorem Yob{K:W.Frag}{a:Addr}(xs:List V){te:TE}{σ:St}{H1:Hp}{Q:VK}(P:Hp->Nat->V->Prop)(mono:∀ H H' i v,Zw H H'->P H i v->P H' i v)(hx:SqL K H1 a xs)(hz:xs.length<=sizeLine)
 (he:∀ i x H2 (R:VK),xs[i]?=some x->Qk H1 H2->(∀ v H3,P H3 i v->Qk H2 H3->R v H3)->te (some x::σ) H2 R)
 (hq:∀ D H2 ys,H1 D=none->Qk H1 H2->H2 D=some (.lst ys)->ys.length=xs.length->(∀ i y,ys[i]?=some y->P H2 i y)->Q (.ref D) H2):LcR (Itl K a) Qcb te σ Q H1 :=
 Zic xs.length (fun i x=>xs[i]?=some x) P mono hz (fun i H2 hi s=>⟨⟨xs,xs[i],s.seq hx,by simp[hi]⟩,fun x H' y=>⟨y.1,y.2 xs (s.seq hx)⟩⟩) (fun H2 s=>⟨xs,s.seq hx,Ve _⟩) he hq
theorem Zsb{J:It}{tt:TT}{σ:St}{H1:Hp}{Q:VK}(xs:List V)(p:V->Bool)(hz:xs.length<=sizeLine)
 (hgo:∀ i H2,i < xs.length->Qk H1 H2->J.go i H2/\∀ x H',J.yld i H2 x H'->H'=H2/\xs[i]?=some x) (hst:∀ H2,Qk H1 H2->J.stop xs.length H2)
 (he:∀ (i:Nat) x H2 (R:Bool->Hp->Prop),xs[i]?=some x->Qk H1 H2->(∀ H3,Qk H2 H3->R (p x) H3)->tt (some x::σ) H2 R)
 (hq:∀ D H2,H1 D=none->Qk H1 H2->H2 D=some (.lst (xs.filter p))->Q (.ref D) H2):LcR J tt (YE 0) σ Q H1:=by
 intro D hD;refine⟨fun i m ys H2=>m=xs.length - i/\i<=xs.length/\ys=(xs.take i).filter p/\H2 D=some (.lst ys)/\Qk H1 H2,⟨_,rfl,Vk _,by simp,Qa,Qh hD _⟩,?_⟩
 rintro i m ys H2 ⟨rfl,hi,hy,hd,sm⟩;refine⟨hd,?_⟩
 by_cases hlt:i < xs.length
 ·obtain⟨go,yl⟩:=hgo i H2 hlt sm
  have hl:ys.length<=i:=by
   rw[hy];exact Vj (length_filter_le _ _) (by rw[length_take];omega)
  refine .inr ⟨go,by omega,fun x H' y=>?_⟩
  obtain⟨e,hx⟩:=yl x H' y;subst e;have ht:(xs.take (i+1)).filter p=if p x=true then ys++[x] else ys:=by
   rw[take_succ,hx,filter_append,<- hy];cases hp:p x <;> simp[hp]
  refine he i x _ _ hx sm fun H3 s3=>?_
  cases hp:p x with
  | true =>
   rw[if_pos rfl];refine⟨s3 _ _ hd,xs.length - (i+1),by omega,rfl,hlt,?_,Qa,(sm.trans s3).updL hD _⟩
   rw[ht,hp,if_pos rfl]
  | false =>
   rw[if_neg Vf];refine⟨xs.length - (i+1),by omega,rfl,hlt,?_,s3 _ _ hd,sm.trans s3⟩
   rw[ht,hp,if_neg Vf]
 ·have e:i=xs.length:=by omega
  subst e;rw[take_length]at hy;exact .inl ⟨hst H2 sm,hq D H2 hD sm (by rw[hd,hy])⟩
theorem JQc{i:Int}(h : -(10 ^ 40) < i/\i < 10 ^ 40):i.natAbs.log2 < 1920:=by
 by_cases e:i.natAbs=0
 ·rw[e];decide
 ·rw[Nat.log2_lt e]
  have:i.natAbs < 10 ^ 40:=by omega
  exact Vt this (Vj (by decide:10 ^ 40<=2 ^ 200) (Nat.pow_le_pow_right (by decide) (by decide)))
def XKb:Expr->Bool
 | .Starred _ _=>false
 | _=>true
theorem Ypb{e:Expr}{es:List Expr}{env:Env}(h:XKb e=true):starEach (e::es) env=(false,eval e env)::starEach es env:=by
 cases e <;> first | rfl | (exact absurd h Vf)
theorem Qg{X:Cx}{e:Expr}{es:List Expr}{te:TE}{t:TA}(ha:PE X e te)(hr:PA X es t)(hn:XKb e=true:=by rfl):PA X (e::es) (Jlb te t):=Q1c ha hr (Ypb hn)
section
variable{prog:Program}{w:World}{A:Around}{E:YQ_}{s:Shared}
variable{z TI TO i1 i2:Addr}{fp1 fp2:List Addr}{n1 n2 i:Nat}{P1 P2:Nat->Value->Prop}{S1 S2:Nat->Heap->Prop}
end
section
variable{prog:Program}{w:World}{A:Around}{E:YQ_}{s:Shared}
end
section
variable{X:Cx}{ea eb:Expr}{ua ub:TE}{p pos tpos:Pos}{elts:List Expr}{kk:Nat}
end
section
variable{X:Cx}
theorem Ztb{prog:Program}{w:World}{A:Around}{E:YQ_}{s:Shared}{a b:Addr}{us ws:Array Value}{r:Bool}{Q:YQ_}(ha:s.heap.IsList a us)(hb:s.heap.IsList b ws)(hu:A.units < cLine)
 (h:(us.size≠ws.size/\r=true)\/(us.size=ws.size/\∃ e:Nat->Bool,(∀ j (h1:j < us.size) (h2:j < ws.size),SeqAt.EqAt A.in1 s us[j] ws[j] (e j))/\r=!(List.range us.size).all e)) (q:Q (.bool r) s) :
 wpAny (model prog w) A (compareOp .NotEq (.ref a) (.ref b)) Q E s:=by
 obtain⟨⟨c1,d1,dt1,sl1⟩,g1,hc1,n1,hd1⟩:=id ha;obtain⟨⟨c2,d2,dt2,sl2⟩,g2,hc2,n2,hd2⟩:=id hb;simp only at hc1 hd1 hc2 hd2;subst hc1 hd1 hc2 hd2
 rcases h with ⟨hs,rfl⟩ | ⟨hs,e,he,rfl⟩
 ·exact richCompare_meets_room (op:=.NotEq) ⟨_,g1,rfl⟩ ⟨_,g2,rfl⟩ F.slot_list_ne F.entry_list_ne (F.args_list_ne_2 _ _) (SeqAt.list_ne_lengthsAt a b us ws n1 n2 d1 d2 sl1 sl2 (by simpa using hs))
   ⟨g1,g2,show Value.bool true≠Value.notImplemented/\Q (.bool true) s from⟨(fun x=>nomatch x),q⟩⟩ hu
 ·exact richCompare_meets_room (op:=.NotEq) ⟨_,g1,rfl⟩ ⟨_,g2,rfl⟩ F.slot_list_ne F.entry_list_ne (F.args_list_ne_2 _ _) (SeqAt.list_neAt a b us ws n1 n2 d1 d2 sl1 sl2 hs e)
   ⟨g1,g2,he,show Value.bool (!(List.range us.size).all e)≠Value.notImplemented/\Q (.bool (!(List.range us.size).all e)) s from⟨(fun x=>nomatch x),q⟩⟩ hu
theorem Zub(hu:X.A.units < cLine):OpR X (compareOp .NotEq) (JCc X.K true):=by
 intro pins s σ H x y v u Q I rx ry h;obtain⟨a,b,xs,ys,rfl,rfl,ha,hb,fx,fy,q⟩:=h;cases rx;cases ry;obtain⟨its,r1,p1,_⟩:=I.list ha;obtain⟨its2,r2,p2,_⟩:=I.list hb;have l1:=r1.length;have l2:=r2.length;rw[if_pos rfl]at q;refine Ztb (r:=!Q4a xs ys) p1.isList p2.isList hu ?_ ⟨.bl _,H,I,rfl,q⟩
 by_cases hl:xs.length=ys.length
 ·refine .inr ⟨by simp;omega,fun i=>eqV (xs.getD i .non) (ys.getD i .non),fun j h1 h2=>YDa r1 r2 fx fy j h1 h2,?_⟩
  unfold Q4a;rw[hl,Nat.min_self,beq_self_eq_true,Bool.and_true,Vn,<- l1,hl]
 ·refine .inl ⟨by simp;omega,?_⟩
  unfold Q4a;rw[beq_eq_false_iff_ne.mpr hl,Bool.and_false];rfl
end
section
variable{X:Cx}
theorem XLb{ta:TA}{tt:TT}{te:TE}{σ:St}{H:Hp}{Q:VK}:tLc (Y4b ta) tt te σ H Q=ta σ H fun vs H1=>∃ i j:Int,vs=[.int i,.int j]/\(-(2 ^ 62)<=i/\i < 2 ^ 62 /\ -(2 ^ 62)<=j/\j < 2 ^ 62)/\LcR (Itr i (j - i).toNat) tt te σ Q H1:=rfl
end
end L2
namespace Th
open PySem L2 Pl
def Z4c(c:Nat):Bool:=decide (32<=c/\c<=126/\c≠37)
def XMb(z:Str):Prop:=z.length<=60/\∀ c∈z.cps.toList,Z4c c=true\/c=9\/c=10
def Qkb:V->Prop
 | .non=>True
 | .bl _=>True
 | .int _=>True
 | .str z=>XMb z
 | _=>False
def TT:Nat->Hp->V->Prop
 | 0,H,v=>Qkb v\/∃ a,v=.ref a/\((∃ xs,H a=some (.lst xs))\/H a=some (.dK [])\/∃ xs,H a=some (.tup xs)/\xs.length<=60)
 | n+1,H,v=>Qkb v\/∃ a,v=.ref a/\((∃ xs,H a=some (.lst xs))\/H a=some (.dK [])\/∃ xs,H a=some (.tup xs)/\xs.length<=60/\∀ u∈xs,TT n H u)
end Th
end
section
namespace L2
open PySem PySem.Spec PyProof.Rows
def JRc(h:Heap)(Y:Addr->Prop)(e:Addr)(vs:Array Value):Option Value->Prop
 | none=>vs[1]?=some .none
 | some v=>∃ T oT ts,vs[1]?=some (.ref T)/\T≠e/\(Y T/\oT.cls=.type "traceback")/\h.get? T=some oT/\oT.data=.fields ts/\ts[3]?=some v
def XNb:YP_->Value->Prop
 | [],c=>c=.none
 | p::r,c=>c=.ref p.1/\∃ va c',p.2.data=.fields va/\va[2]?=some c'/\XNb r c'
def Lie(h:Heap)(Y:Addr->Prop)(e:Addr)(ch:YP_):Prop:=(e::ch.map (·.1)).Nodup/\∀ p∈ch,h.get? p.1=some p.2/\p.2.cls≠.type "traceback"/\(∃ va,p.2.data=.fields va)/\Y p.1
def Exc(h:Heap)(Y:Addr->Prop)(e:Addr)(cls:Value)(dx:Option Addr)(ch:YP_)(fl:Option Value):Prop :=
 ∃ oe vs,h.get? e=some oe/\oe.cls=cls/\oe.dict=dx/\oe.data=.fields vs/\((∃ c,vs[2]?=some c/\XNb ch c)/\Lie h Y e ch)/\JRc h Y e vs fl
structure X6(Y:Addr->Prop)(e:Addr)(fs:List Addr)(h h':Heap):Prop where
 keep:∀ b o,h.get? b=some o->b≠e->¬ (Y b/\o.cls=.type "traceback")->b∉fs->h'.get? b=some o
 slot:∀ b o,h.get? b=some o->(∀ vs,o.data≠.fields vs)->∃ sl,h'.get? b=some { o with slots:=sl }
 size:h.objs.size<=h'.objs.size
theorem X6.trans{Y:Addr->Prop}{e:Addr}{fs:List Addr}{h₁ h₂ h₃:Heap}(x:X6 Y e fs h₁ h₂)(y:X6 Y e fs h₂ h₃):X6 Y e fs h₁ h₃ :=
 ⟨fun b o q a c d=>y.keep b o (x.keep b o q a c d) a c d,fun b o q n=>let ⟨_,e1⟩:=x.slot b o q n;let ⟨sl,e2⟩:=y.slot b _ e1 n;⟨sl,e2⟩,Vj x.size y.size⟩
theorem X6.funs{Y:Addr->Prop}{e:Addr}{fs:List Addr}{h h' base:Heap}{l:List Env}(x:X6 Y e fs h h')(f:h.FunFrames base l):h'.FunFrames base l :=
 f.of_keeps fun b o q n=>let ⟨sl,e1⟩:=x.slot b o q n;⟨_,e1,rfl⟩
theorem Lie.stay{Y:Addr->Prop}{e:Addr}{fs:List Addr}{h h':Heap}{ch:YP_}(l:Lie h Y e ch)(st:X6 Y e fs h h')(nf:∀ b∈fs,∃ o,h.get? b=some o/\∀ vs,o.data≠.fields vs):Lie h' Y e ch :=
 ⟨l.1,fun p hp=>by
  obtain⟨q,c,⟨va,d⟩,y⟩:=l.2 p hp;refine⟨st.keep p.1 p.2 q (fun z=>?_) (fun z=>c z.2) (fun z=>?_),c,⟨va,d⟩,y⟩
  ·exact(nodup_cons.mp l.1).1 (by rw[<- z];exact mem_map_of_mem hp)
  ·obtain⟨o,q',n⟩:=nf _ z
   rw[q]at q';cases q';exact n va d⟩
theorem Yqb(o:Obj)(f):(o.mapFields f).dict=o.dict:=by
 obtain⟨c,d,dt,sl⟩:=o;cases dt <;> rfl
theorem Jea{Y:Addr->Prop}{e a:Addr}{fs:List Addr}{h:Heap}{o:Obj}{vs:Array Value}(i:Nat)(x:Value)(ho:h.get? a=some o)(hd:o.data=.fields vs)(ha:a=e\/(Y a/\o.cls=.type "traceback")) :
 X6 Y e fs h (h.update a (Obj.mapFields (·.setIfInBounds i x))) where
 keep b u q n1 n2 _:=by
  rw[Heap.get?_update_other _ _ (fun z=>by subst z;rw[ho]at q;cases q;exact ha.elim n1 n2)];exact q
 slot b u q n:=⟨u.slots,by
  rw[Heap.get?_update_other _ _ (fun z=>by subst z;rw[ho]at q;cases q;exact n vs hd)];exact q⟩
 size:=by rw[Heap.size_update];exact Ve _
theorem JFb{a:Addr}{h:Heap}{o:Obj}{vs:Array Value}(i:Nat)(x:Value)(ho:h.get? a=some o)(hd:o.data=.fields vs) :
 (h.update a (Obj.mapFields (·.setIfInBounds i x))).get? a=some (o.mapFields (·.setIfInBounds i x)):=Heap.get?_update_self _ ho (Obj.isFreed_of_fields (Obj.data_mapFields hd _))
section
variable{M:Model}{A:Around}{E:YQ_}{s:Shared}{Y:Addr->Prop}{base:Heap}{env:Env}{outer:List Env}{L e:Addr}{cls:Value}{dx:Option Addr}{ch:YP_}{fl:Option Value}{Q:Unit->Shared->Prop}
theorem Xla{fs:List Addr}{v:Value}(nf:∀ b∈fs,∃ o,s.heap.get? b=some o/\∀ vs,o.data≠.fields vs)(x:Exc s.heap Y e cls dx ch (some v))(q:∀ h',X6 Y e fs s.heap h'->Exc h' Y e cls dx ch (some .none)->Q () { s with heap:=h' }):wpAny M A (setFlight (.ref e) none) Q E s:=by
 obtain⟨oe,vs,he,hc,hdx,hd,⟨lk,ll⟩,T,oT,ts,h1,hTe,hY,hT,hdT,h3⟩:=x;unfold setFlight;refine Va (wpAny_field he hd h1 ?_)
 rw[if_pos (show(Value.ref T != Value.none)=true from by simp)]
 have hsz:3 < ts.size:=(Array.getElem?_eq_some_iff.mp h3).1
 have st:=Jea (Y:=Y) (e:=e) (fs:=fs) 3 ((none:Option Addr).elim Value.none fun f=>rawInt f) hT hdT (.inr hY)
 refine wpAny_setField hT hdT hsz (q _ st ⟨oe,vs,?_,hc,hdx,hd,⟨lk,ll.stay st nf⟩,T,_,_,h1,hTe,⟨hY.1,(Obj.cls_mapFields _ _).trans hY.2⟩,JFb 3 _ hT hdT,Obj.data_mapFields hdT _,?_⟩)
 ·rw[Heap.get?_update_other _ _ hTe];exact he
 ·simp[hsz]
theorem Qlb{head:Value}{hadNext:Bool}(hfr:A.frames=some (env::outer))(hl:s.heap.FunFrames base (env::outer))(hf:env.frame=some L)(hy:∀ b,s.heap.objs.size<=b->Y b){oe:Obj}{vs:Array Value}
 (he:s.heap.get? e=some oe) (hc:oe.cls=cls) (hdx:oe.dict=dx) (hd:oe.data=.fields vs) (hsz:1 < vs.size) (lk:∃ c,vs[2]?=some c/\XNb ch c) (ll:Lie s.heap Y e ch)
 (q:∀ h',X6 Y e (frs (env::outer)) s.heap h'->Exc h' Y e cls dx ch (some (rawInt L))->Q () { s with heap:=h' }) :
 wpAny M A (do let a <- frameOf env;let pl <- entryPlaceOf L hadNext;let b <- EntryCells.newEntry head a .none (rawInt L) .none pl;setField (.ref e) 1 b) Q E s:=by
 refine Va (wpAny_frameOf_fun hfr hl hf fun h₁ hs=>?_)
 refine Va (wpAny_entryPlaceOf fun pl hpl=>?_)
 unfold EntryCells.newEntry newFields;refine Va (wpAny_newObj_type ?_ (hpl.sizeOk5 _ _ _ _ _))
 have hef:e∉frs (env::outer):=fun hm=>by
  obtain⟨_,o,ho,hn⟩:=hl.mem hm;rw[he]at ho;cases ho;exact hn vs hd
 have he1:h₁.get? e=some oe:=(hs.2.1 e hef).trans he;have hne:h₁.objs.size≠e:=Nat.ne_of_gt (Vh he1);generalize htb:({ cls:=.type "traceback",dict:=none,data:=.fields ([head,.ref L,.none,rawInt L,.none]++(if pl.isEmpty then List.replicate 6 Value.none else pl)).toArray }:Obj)=tb
 have htd:tb.data=.fields ([head,.ref L,.none,rawInt L,.none]++(if pl.isEmpty then List.replicate 6 Value.none else pl)).toArray:=by rw[<- htb]
 have hfr':tb.isFreed=false:=Obj.isFreed_of_fields htd;have he2:(h₁.push tb).get? e=some oe:=Vd _ he1
 have hY:Y h₁.objs.size:=hy _ (by rw[hs.1];exact Ve _)
 have htc:tb.cls=.type "traceback":=by rw[<- htb]
 have st:X6 Y e (frs (env::outer)) s.heap ((h₁.push tb).update e (Obj.mapFields (·.setIfInBounds 1 (Value.ref h₁.objs.size)))):=by
  refine X6.trans ?_ (Jea 1 _ he2 hd (.inl rfl))
  refine⟨fun b o g _ _ n=>Vd _ ((hs.2.1 b n).trans g),fun b o g _=>?_,?_⟩
  ·obtain⟨sl,g1⟩:=hs.2.2 b o g
   exact⟨sl,Vd _ g1⟩
  ·rw[<- hs.1];cases h₁;simp[Heap.push]
 refine wpAny_setField he2 hd hsz (q _ st ⟨_,_,JFb 1 _ he2 hd,(Obj.cls_mapFields _ _).trans hc,(Yqb _ _).trans hdx,Obj.data_mapFields hd _,⟨?_,ll.stay st fun b hb=>(hl.mem hb).2⟩,h₁.objs.size,tb,_,by simp[hsz],hne,⟨hY,htc⟩,?_,htd,?_⟩)
 ·obtain⟨c,h2,l⟩:=lk
  exact⟨c,by rw[Array.getElem?_setIfInBounds_ne (by decide)];exact h2,l⟩
 ·rw[Heap.get?_update_other _ _ (Ne.symm hne)];exact Vi _ hfr'
 ·first | (simp;done) | (rcases hpl with rfl | ⟨_,_,_,_,_,_,_,rfl⟩ <;> simp)
theorem JGb(hfr:A.frames=some (env::outer))(hl:s.heap.FunFrames base (env::outer))(hf:env.frame=some L)(hy:∀ b,s.heap.objs.size<=b->Y b)(x:Exc s.heap Y e cls dx ch fl)(hfl:fl=none\/fl=some .none)
 (q:∀ h',X6 Y e (frs (env::outer)) s.heap h'->Exc h' Y e cls dx ch (some (rawInt L))->Q () { s with heap:=h' }):wpAny M A (noteFrame (.ref e) env) Q E s:=by
 obtain⟨oe,vs,he,hc,hdx,hd,⟨lk,ll⟩,hh⟩:=x;unfold noteFrame;simp only[hf]
 rcases hfl with rfl | rfl
 ·have h1:vs[1]?=some .none:=hh
  refine Va (wpAny_field he hd h1 ?_)
  rw[if_neg (by decide)]
  exact Qlb hfr hl hf hy he hc hdx hd (Array.getElem?_eq_some_iff.mp h1).1 lk ll q
 ·obtain⟨T,oT,ts,h1,hTe,hY,hT,hdT,h3⟩:=hh
  refine Va (wpAny_field he hd h1 ?_)
  rw[if_pos (show(Value.ref T != Value.none)=true from by simp)]
  refine Va (wpAny_field hT hdT h3 ?_)
  rw[if_neg (show ¬ ((Value.none == rawInt L)=true) from by simp[rawInt])]
  refine Va (wpAny_setField hT hdT (Array.getElem?_eq_some_iff.mp h3).1 ?_)
  have st:X6 Y e (frs (env::outer)) s.heap (s.heap.update T (Obj.mapFields (·.setIfInBounds 3 Value.none))):=Jea 3 _ hT hdT (.inr hY);refine Qlb (s:={ s with heap:=s.heap.update T (Obj.mapFields (·.setIfInBounds 3 Value.none)) }) hfr (st.funs hl) hf (fun b hb=>hy b (Vj st.size hb)) ((Heap.get?_update_other _ _ hTe).trans he) hc hdx hd (Array.getElem?_eq_some_iff.mp h1).1 lk (ll.stay st fun b hb=>(hl.mem hb).2) fun h' t x'=>q h' (st.trans t) x'
theorem XOb(hfr:A.frames=some (env::outer))(hl:s.heap.FunFrames base (env::outer))(hf:env.frame=some L)(hy:∀ b,s.heap.objs.size<=b->Y b)(x:Exc s.heap Y e cls dx ch fl)(hfl:fl=none\/fl=some .none)
 (q:∀ h',X6 Y e (frs (env::outer)) s.heap h'->Exc h' Y e cls dx ch (some .none)->Q () { s with heap:=h' }):wpAny M A (leaving env (.ref e)) Q E s:=by
 unfold leaving;refine Va (JGb hfr hl hf hy x hfl fun h₁ st x1=>?_)
 exact Xla (s:={ s with heap:=h₁ }) (fs:=frs (env::outer)) (fun b hb=>((st.funs hl).mem hb).2) x1 fun h₂ st2 x2=>q h₂ (st.trans st2) x2
end
theorem Exc.mono{h:Heap}{Y Y':Addr->Prop}{e:Addr}{cls:Value}{dx:Option Addr}{ch:YP_}{fl:Option Value}(x:Exc h Y e cls dx ch fl)(k:∀ b,Y b->Y' b):Exc h Y' e cls dx ch fl:=by
 obtain⟨oe,vs,he,hc,hdx,hd,⟨lk,l1,l2⟩,hh⟩:=x;refine⟨oe,vs,he,hc,hdx,hd,⟨lk,l1,fun p hp=>let ⟨a,b,c,d⟩:=l2 p hp;⟨a,b,c,k _ d⟩⟩,?_⟩
 cases fl with
 | none=>exact hh
 | some v=>obtain⟨T,oT,ts,h1,h2,h3,r⟩:=hh;exact⟨T,oT,ts,h1,h2,⟨k T h3.1,h3.2⟩,r⟩
def Yg(old:Heap)(H:Hp)(b:Addr):Prop:=old.get? b=none/\H b=none
def CX1(P:Program)(w:World):CXT:=fun outer H s E e s'=>∃ ea cls dx ch H',e=.ref ea/\s'.os=s.os/\AllBare s'.gens/\Un (frs outer) [] H H' s.heap s'.heap/\HOk P w H' s'.heap /\
 Exc s'.heap (Yg s.heap H') ea cls dx ch (some .none)/\s.heap.get? ea=none/\H' ea=none/\E cls dx H'
def Jfa(X:Cx)(E:XK):Prop:=∀ (pins:YP_) (σ:St) (H:Hp) (s:Shared) (e:Addr) (cls:Value) (dx:Option Addr) (ch:YP_) (fl:Option Value),Inv X pins σ H s->Exc s.heap (Yg X.s₀.heap H) e cls dx ch fl->(fl=none\/fl=some .none) ->
 X.s₀.heap.get? e=none->H e=none->E cls dx H->X.xe (.ref e) s
section
variable{X:Cx}{E:XK}{pins:YP_}{σ:St}{H:Hp}{s:Shared}
theorem Inv.young(I:Inv X pins σ H s)(hx:X.ex=[]){b:Addr}(h:s.heap.get? b=none):X.s₀.heap.get? b=none:=by
 cases q:X.s₀.heap.get? b with
 | none=>rfl
 | some o =>
  obtain⟨o',e⟩:=I.base.there b o q (by rw[hx];simp)
  rw[h]at e;cases e
theorem Qmb{env:Env}{outer:List Env}{L:Addr}(h:env.frame=some L):frs (env::outer)=L::frs outer:=by unfold frs;rw[filterMap_cons,h]
end
section
variable{P:Program}{w:World}{K:W.Frag}{mg:Str->Option Value}{base:Heap}{N:List Str}{qual:Str}{scope:Scope}{f:Addr}{cd:Value}{A:Around}{outer:List Env}{s:Shared}{H:Hp}{E:XK}
theorem ZS:Jfa (QBa (CX1 P w) P w K mg base N qual scope f cd A outer s H E) E:=by
 intro pins σ H' s' e cls dx ch fl I x hfl n1 n2 hE;have n1:s.heap.get? e=none:=n1;have fr:frs (envOfC qual scope s.heap.objs.size f cd::outer)=s.heap.objs.size::frs outer:=Qmb rfl;have stk:s'.heap.FunFrames base (envOfC qual scope s.heap.objs.size f cd::outer):=I.stack;have sf:∀ b∈frs (envOfC qual scope s.heap.objs.size f cd::outer),H' b=none:=I.stkFree;have ib:Un (frs outer) [] H H' s.heap s'.heap:=I.base;show wpAny (model P w) _ (leaving _ (.ref e)) _ _ s';refine XOb (base:=base) (Y:=Yg s.heap H') (L:=s.heap.objs.size) (fl:=fl) I.ok.frames stk rfl (fun b hb=>⟨Heap.get?_none_of_le (Vj I.sz hb),I.hok.fresh hb⟩) x hfl fun h' st x'=>?_
 have nf:∀ b o,s.heap.get? b=some o->b∉frs outer->b∉frs (envOfC qual scope s.heap.objs.size f cd::outer):=fun b o q hb hm=>by
  rw[fr]at hm
  rcases mem_cons.mp hm with z | z
  ·rw[z]at q;exact absurd (Vh q) (Vu _)
  ·exact hb z
 have ne:∀ b o,s.heap.get? b=some o->b≠e:=fun b o q z=>by rw[z,n1]at q;cases q
 have ny:∀ b o (o':Obj),s.heap.get? b=some o->¬ (Yg s.heap H' b/\o'.cls=.type "traceback"):=fun b o o' q y=>by rw[y.1.1]at q;cases q
 refine⟨e,cls,dx,ch,H',rfl,I.os,I.bare,⟨fun b o q n hb hx=>?_,fun b o q n hb hx=>?_,ib.free,fun b o q hx=>?_,ib.tups,ib.frzs,ib.tbls⟩,fun b u eb=>?_,x',n1,n2,hE⟩
 ·exact st.keep b o (ib.keep b o q n hb hx) (ne b o q) (ny b o _ q) (nf b o q hb)
 ·obtain⟨sl,q1⟩:=ib.slot b o q n hb hx
  obtain⟨_,o2,q2,hn⟩:=stk.mem (show b∈frs _ by rw[fr];exact Vo _ hb)
  rw[q1]at q2;cases q2;obtain⟨sl',q3⟩:=st.slot b _ q1 hn;exact⟨sl',q3⟩
 ·obtain⟨o',q1⟩:=ib.there b o q hx
  by_cases hn:∀ vs,o'.data≠.fields vs
  ·obtain⟨sl,q2⟩:=st.slot b o' q1 hn
   exact⟨_,q2⟩
  ·refine⟨o',st.keep b o' q1 (ne b o q) (ny b o _ q) fun hm=>?_⟩
   obtain⟨_,o2,q2,hn2⟩:=stk.mem hm;rw[q1]at q2;cases q2;exact hn hn2
 ·refine(I.hok b u eb).stay (fun c v hc q=>?_) (fun _ q=>q) fun _ _ q=>q
  have hc':H' c≠none:=by
   rcases hc with z | z
   ·rw[z,eb];simp
   ·rw[z];simp
  exact st.keep c v q (fun z=>hc' (by rw[z];exact n2)) (fun y=>hc' y.1.2) fun hm=>hc' (sf c hm)
theorem JSc:PassesOwn (model P w) (QBa (CX1 P w) P w K mg base N qual scope f cd A outer s H E).A (QBa (CX1 P w) P w K mg base N qual scope f cd A outer s H E).env (QBa (CX1 P w) P w K mg base N qual scope f cd A outer s H E).xe:=PassesOwn.leaving (Q₁:=fun e s''=>CX1 P w outer H s E e s'')
end
theorem QA.obj{P:Program}{w:World}{H:Hp}{h:Heap}{a:Addr}{o:HO}(x:QA P w H h a o):∃ ob,h.get? a=some ob:=by
 cases o with
 | lst xs=>obtain⟨_,_,_,_,e⟩:=x;exact⟨_,e⟩
 | tup xs=>obtain⟨_,_,_,p⟩:=x;obtain⟨o,e,_⟩:=p;exact⟨_,e⟩
 | dK kvs=>obtain⟨_,_,_,_,o,_,_,e,_⟩:=x;exact⟨_,e⟩
 | dT kvs=>obtain⟨_,_,_,_,o,_,_,e,_⟩:=x;exact⟨_,e⟩
 | set S n=>obtain⟨o,_,_,_,e,_⟩:=x;exact⟨_,e⟩
 | ins C dx fs=>obtain⟨_,_,_,e,_⟩:=x;exact⟨_,e⟩
 | own y=>exact x
 | xd fs=>obtain⟨_,⟨_,_,_,e,_⟩,_⟩:=x;exact⟨_,e⟩
 | rng lo hi=>obtain⟨_,_,_,e⟩:=x;exact⟨_,e⟩
 | frz ob u=>obtain⟨e,_⟩:=x;exact⟨_,e⟩
 | tbl ps=>exact⟨_,x⟩
 | met f y=>exact⟨_,x⟩
 | ext φ=>obtain⟨_,e,_⟩:=x;exact e
theorem HOk.none_of{P:Program}{w:World}{H:Hp}{h:Heap}{a:Addr}(x:HOk P w H h)(e:h.get? a=none):H a=none:=by
 cases q:H a with
 | none=>rfl
 | some u=>obtain⟨o,e'⟩:=(x a u q).obj;rw[e]at e';cases e'
structure YHc(K:W.Frag)(C:Addr)(bm bmB:List Value)(newId:String):Prop where
 ex:∃ nm q N bs hdct sn sub ab col dd k0 k1 k2 k3 k5,K.lookup C=some (excClassObj nm q C N bs bm hdct sn sub ab col dd k0 k1 k2 k3 k5 newId)/\W.nsOkIn K N=true/\W.nsIn K N "__init__"=some none
 tail:W.tailIn K bmB bm=true
section
variable{X:Cx}{E:XK}{x:Str}{C:Addr}{bm bmB:List Value}{B newId initId:String}{np cpos pos:Pos}
end
structure Old(X:Cx)(pins:YP_)(old:Heap):Prop where
 ent:∀ b,old.get? b=none->X.s₀.heap.get? b=none
 pin:∀ p∈X.pn++pins,old.get? p.1≠none
def X1P(X:Cx)(pins:YP_)(σ:St)(E:XK)(ev:Value)(s':Shared):Prop :=
 ∃ ea cls dx ch H' old,ev=.ref ea/\Inv X pins σ H' s'/\Exc s'.heap (Yg old H') ea cls dx ch (some .none)/\Old X pins old/\(∀ b,s'.heap.objs.size<=b->old.get? b=none)/\old.get? ea=none/\H' ea=none/\E cls dx H'
abbrev TE1:=St->Hp->VK->XK->Prop
abbrev TS1:=Zq->St->Hp->XK->Prop
def PE1(X:Cx)(e:Expr)(t:TE1):Prop :=
 ∀ (pins:YP_) (s:Shared) (σ:St) (H:Hp) (Q:VK) (E:XK),Inv X pins σ H s->t σ H Q E->wpAny (model X.prog X.w) X.A (eval e X.env) (EP X pins σ Q) (X1P X pins σ E) s
def PS1(X:Cx)(st:Stmt)(t:TS1):Prop :=
 ∀ (pins:YP_) (s:Shared) (σ:St) (H:Hp) (D:Zq) (E:XK),Inv X pins σ H s->t D σ H E->wpAny (model X.prog X.w) X.A (exec st X.env) (SP X pins D) (X1P X pins σ E) s
section
variable{X:Cx}{E:XK}{e:Expr}{es:List Expr}{t:TA}{t1:TE1}{x:Str}{p pos:Pos}{k j:Nat}{f:Addr}{fd:FuncData}{ps:List Str}{sp:Sp}
theorem X1P.thrown{pins:YP_}{σ:St}{ev:Value}{s':Shared}(T:Jfa X E)(h:X1P X pins σ E ev s'):X.xe ev s':=by
 obtain⟨ea,cls,dx,ch,H',old,rfl,I,y,o,_,n1,n2,hE⟩:=h;exact T pins σ H' s' ea cls dx ch _ I (y.mono fun b z=>⟨o.ent b z.1,z.2⟩) (.inr rfl) (o.ent _ n1) n2 hE
theorem PE1.pe(h:PE1 X e t1)(T:Jfa X E):PE X e (fun σ H Q=>t1 σ H Q E):=fun pins s σ H Q I q=>wpAny_mono (h pins s σ H Q E I q) (fun _ _ z=>z) fun _ _ z=>z.thrown T
theorem Inv.old{pins:YP_}{σ:St}{H:Hp}{s:Shared}(I:Inv X pins σ H s)(hex:X.ex=[]):Old X pins s.heap :=
 ⟨fun b h=>I.young hex h,fun p hp h=>by rw[(I.pin p hp).1]at h;cases h⟩
theorem QIa{pins:YP_}{σ:St}{H:Hp}{s:Shared}{Q:VK}{us:List Value}{vs:List V}(F:QF X.prog X.w X.K X.mg X.base (CX1 X.prog X.w) k f fd ps sp)(hr:Zd k X.A)(hb:ZQ X.K fd ps [])(hex:X.ex=[])
 (I:Inv X pins σ H s) (r:Qr vs us) (h:sp vs H Q E):wpAny (model X.prog X.w) X.A (call (.ref f) us) (EP X pins σ Q) (X1P X pins σ E) s:=by
 have hl:(us++[]).length=ps.length:=by rw[append_nil,<- r.length];exact F.len _ _ _ _ h
 have b:=hb s us I.kIn hl;rw[append_nil]at b;refine wpAny_call (codeAny_mono (F.run X.A X.stack s H ⟨us,[]⟩ us vs Q E hr I.env0 b r h) fun res s' hq=>?_)
 cases res with
 | error ev =>
  obtain⟨ea,cls,dx,ch,H',rfl,os,bare,un,hok,y,n1,n2,hE⟩:=hq;refine⟨ea,cls,dx,ch,H',s.heap,rfl,I.call' (ch:=[]) os un hok bare (fun b z=>absurd z (by simp)),y,I.old hex,fun b hb=>?_,n1,n2,hE⟩
  cases q:s.heap.get? b with
  | none=>rfl
  | some u =>
   obtain⟨u',q'⟩:=un.there b u q (by simp)
   exact absurd (Vt (Vh q') hb) (Vu _)
 | ok fl =>
  cases fl with
  | ret u=>exact I.after hq
  | next=>exact False.elim hq
  | brk=>exact False.elim hq
  | cont=>exact False.elim hq
def Zvb(sp:Sp)(t:TA):TE1:=fun σ H Q E=>t σ H fun vs H1=>sp vs H1 Q E
theorem Zwb{pins:YP_}{σ:St}{H:Hp}{s:Shared}{Q:List V->Hp->Prop}{W:YQ_}(ha:PA X.nox es t)(I:Inv X pins σ H s)(q:t σ H Q):wpAny (model X.prog X.w) X.A (spliced (backTo pos (starEach es X.env))) (AP X pins σ Q) W s :=
 wpAny_mono (ha pos pins s σ H Q (I.wish _) q) (fun _ _ ⟨vs,H',I',r,z⟩=>⟨vs,H',I'.unwish,r,z⟩) fun _ _ z=>False.elim z
theorem XPb(F:QF X.prog X.w X.K X.mg X.base (CX1 X.prog X.w) k f fd ps sp)(hr:Zd k X.A)(hg:Gl X x)(hm:X.mg x=some (.ref f))(hk:W.keepIn X.K (.ref f)=true)(hb:ZQ X.K fd ps [])(hex:X.ex=[])
 (ha:PA X.nox (e::es) t) (hdb:(x == ("__debug__":Str))=false:=by decide) (he:starEach (e::es) X.env=(false,eval e X.env)::starEach es X.env:=by rfl) (hpl:(backTo pos (starEach es X.env)).any (·.1)=false:=by rfl) :
 PE1 X (.Call (.Name x p) (e::es) [] pos) (Zvb sp t):=by
 intro pins s σ H Q E I h;refine wpAny_Call_Name_kw (Jp I hg hm ?_ hdb)
 refine W.callWith_K (h₀:=X.base) I.ok.mod.kin hk (thn (Zwb ha I h) fun us s1 ⟨vs,H1,I1,r,q⟩=>⟨I1.kIn,?_⟩) he hpl
 exact QIa F hr hb hex I1 r q
theorem Jga(h:PE1 X e t1)(hs:swapsWith e none pos.line X.env=pure false:=by rfl):PS1 X (.Expr e pos) (fun D σ H E=>t1 σ H (fun _ H1=>D.nx σ H1) E):=fun pins s σ H D E I q =>
 wpAny_Expr_any (thn (h pins s σ H _ E I q) fun v s1 ⟨x,H1,I1,r1,q1⟩=>⟨σ,H1,I1,q1⟩) I.quiet hs
end
section
variable{X:Cx}{pins:YP_}{σ:St}{H:Hp}{s:Shared}
theorem Zjc{h h':Heap}{a:Addr}{m:Str->Option Value}(hn:h.Ns a m)(k:∀ o,h.get? a=some o->(∀ vs,o.data≠.fields vs)->∃ sl,h'.get? a=some { o with slots:=sl }):h'.Ns a m:=by
 obtain⟨o,es,ep,ho,hd,r⟩:=hn;obtain⟨sl,e⟩:=k o ho fun vs q=>by rw[hd]at q;cases q
 exact⟨_,es,ep,e,hd,r⟩
theorem Inv.stayed{old h':Heap}{e:Addr}(I:Inv X pins σ H s)(hex:X.ex=[])(o:Old X pins old)(n1:old.get? e=none)(n2:H e=none)(st:X6 (Yg old H) e (frs X.stack) s.heap h'):Inv X pins σ H { s with heap:=h' }:=by
 have ne:∀ b,X.s₀.heap.get? b≠none->b≠e:=fun b q z=>q (by rw[z];exact o.ent _ n1)
 have ny:∀ b (u:Obj),X.s₀.heap.get? b≠none->¬ (Yg old H b/\u.cls=.type "traceback"):=fun b _ q y=>q (o.ent _ y.1.1)
 have sub:∀ b,b∈frs X.stack->b=X.env.locals\/b∈X.fs:=fun b hb=>mem_cons.mp (I.stkSub b hb)
 have nl:∀ b u,X.s₀.heap.get? b=some u->b≠X.env.locals:=fun b u q=>Nat.ne_of_lt (Vt (Vh q) I.ok.above)
 have xn:∀ b:Addr,b∉X.ex:=fun b z=>by rw[hex]at z;exact absurd z (by simp)
 have ck:∀ c v,s.heap.IsCell c v->({ s with heap:=h' }:Shared).heap.IsCell c v:=fun c v ⟨oc,hc,hd⟩=>by
  obtain⟨sl,q⟩:=st.slot c oc hc fun vs z=>by rw[hd]at z;cases z
  exact⟨_,q,hd⟩
 refine⟨I.ok,I.os,I.bare,⟨fun b u q n hb hx=>?_,fun b u q n hb hx=>?_,I.base.free,fun b u q hx=>?_,I.base.tups,I.base.frzs,I.base.tbls⟩,?_,fun y c q=>?_,I.free,I.freeC,fun p hp=>?_,fun b u eb=>?_,I.len⟩
 ·exact st.keep b u (I.base.keep b u q n hb hx) (ne b (by rw[q];simp)) (ny b _ (by rw[q];simp)) fun hm=>(sub b hm).elim (nl b u q) hb
 ·obtain⟨sl,q1⟩:=I.base.slot b u q n hb hx
  obtain⟨_,o2,q2,hn⟩:=I.ok.funs.mem hb;rw[q]at q2;cases q2;obtain⟨sl',q3⟩:=st.slot b _ q1 hn;exact⟨sl',q3⟩
 ·obtain⟨u',q1⟩:=I.base.there b u q hx
  by_cases hn:∀ vs,u'.data≠.fields vs
  ·obtain⟨sl,q2⟩:=st.slot b u' q1 hn
   exact⟨_,q2⟩
  ·refine⟨u',st.keep b u' q1 (ne b (by rw[q];simp)) (ny b _ (by rw[q];simp)) fun hm=>?_⟩
   obtain⟨_,o2,q2,hn2⟩:=I.stack.mem hm;rw[q1]at q2;cases q2;exact hn hn2
 ·obtain⟨m,hn,hl⟩:=I.loc
  refine⟨m,Zjc hn fun u q n=>st.slot _ u q n,fun i y v e1 e2 e3=>?_⟩
  obtain⟨u,r,l⟩:=hl i y v e1 e2 e3;refine⟨u,r,?_⟩
  rcases l with l | ⟨k,c,ec,z⟩
  ·exact .inl l
  ·exact .inr ⟨k,c,ec,ck c _ z⟩
 ·obtain⟨v,z⟩:=I.cell y c q
  exact⟨v,ck c v z⟩
 ·obtain⟨q,n,a,b,d⟩:=I.pin p hp
  have hq:=o.pin p hp;exact⟨st.keep p.1 p.2 q (fun z=>hq (by rw[z];exact n1)) (fun y=>hq y.1.1) fun hm=>(sub p.1 hm).elim a b,n,a,b,d⟩
 ·refine(I.hok b u eb).stay (fun c v hc q=>?_) (fun _ q=>q) fun _ _ q=>q
  have hc':H c≠none:=by
   rcases hc with z | z
   ·rw[z,eb];simp
   ·rw[z];simp
  exact st.keep c v q (fun z=>hc' (by rw[z];exact n2)) (fun y=>hc' y.1.2) fun hm=>hc' (I.stkFree c hm)
abbrev Cx.held(X:Cx)(ea:Addr)(ps:YP_):Cx:={ X with A:=X.A.mark (some (.ref ea)),calm:=false,pn:=ps++X.pn }
theorem Inv.held{ea:Addr}{ps:YP_}(I:Inv X pins σ H s)(h:∀ p∈ps,s.heap.get? p.1=some p.2/\H p.1=none/\p.1≠X.env.locals/\p.1∉X.fs/\∀ v,p.2.data≠.cell v):Inv (X.held ea ps) pins σ H s :=
 ⟨⟨I.ok.mod,I.ok.kind,I.ok.glob,I.ok.blt,I.ok.above,I.ok.inj,I.ok.has,I.ok.cab,(fun h=>by cases h),I.ok.frames,I.ok.stk,I.ok.exf,I.ok.bs,I.ok.bsz,I.ok.noex,I.ok.exfs,I.ok.funs,I.ok.frf⟩,I.os,I.bare,I.base,I.loc,I.cell,I.free,I.freeC,fun p hp=>by
  have hp:p∈(ps++X.pn)++pins:=hp;rw[Vq]at hp;exact(Vl.mp hp).elim (h p) (I.pin p),I.hok,I.len⟩
theorem Inv.unheld{ea:Addr}{ps:YP_}(I:Inv (X.held ea ps) pins σ H s)(ok:X.Ok):Inv X pins σ H s:=⟨ok,I.os,I.bare,I.base,I.loc,I.cell,I.free,I.freeC,fun p hp=>I.pin p (by show p∈(ps++X.pn)++pins;rw[Vq];exact Vp _ hp),I.hok,I.len⟩
end
section
variable{X:Cx}{st b₀:Stmt}{suite:List Stmt}{t1:TS1}{ts:TS}{x:Str}{C:Addr}{bm bmB:List Value}{B newId initId:String}{np hpos pos:Pos}
end
section
variable{prog:Program}{w:World}{A:Around}{s:Shared}{R:Result->Shared->Prop}{value:Value}
end
section
variable{M:Model}{A:Around}{E:YQ_}{env:Env}
variable{nm q:Str}{C N:Addr}{bs bm:List Value}{hdct:Bool}{sn:List Str}{sub:List Value}{ab:Bool}{col:Option Bool}{dd:Option Addr}{k0 k1 k2 k3 k5:Option Value}{newId:String}
end
section
variable{X:Cx}{E:XK}{x:Str}{C ea:Addr}{ps:YP_}{bm bmB:List Value}{B newId initId:String}{np cpos kpos pos:Pos}{j:Nat}
end
def MeV(P:Program)(w:World)(K:W.Frag)(mg:Str->Option Value)(base:Heap)(k:Nat)(C:Addr)(m:Str)(sp:Sp):Prop :=
 ∃ f fd ps,Yqc K C m f/\QF P w K mg base (CX1 P w) k f fd ps sp/\ZQ K fd ps []
section
variable{X:Cx}{C:Addr}{m x:Str}{k i:Nat}{sp:Sp}{ta:TE}{t:TA}{e o:Expr}{es:List Expr}{p pos apos:Pos}{pl:Sem Bool}
theorem JHb{pins:YP_}{σ:St}{H:Hp}{s:Shared}{Q:VK}{W:YQ_}(h:PE X.nox e ta)(I:Inv X pins σ H s)(q:ta σ H Q):wpAny (model X.prog X.w) X.A (eval e X.env) (EP X pins σ Q) W s :=
 wpAny_mono (h pins s σ H Q (I.wish _) q) (fun _ _ ⟨v,H',I',r,z⟩=>⟨v,H',I'.unwish,r,z⟩) fun _ _ z=>False.elim z
end
section
variable{P:Program}{w:World}{K:W.Frag}{mg:Str->Option Value}{base:Heap}
theorem Fun.ok1{x qual:Str}{st:Stmt}{f:Addr}{fd:FuncData}{N ps:List Str}{k:Nat}{sp:Sp}(F:Fun K x qual st f fd)(S:Qn N ps (Qi st))(len:∀ vs H Q E,sp vs H Q E->vs.length=ps.length)
 (hbody:∀ (cdv:Value) (A:Around) (outer:List Env) (s:Shared) (H:Hp) (vs:List V) (Q:VK) (E:XK),Zd k (A.deeper (envOfC qual (Qi st) s.heap.objs.size f cdv))->sp vs H Q E ->
  ∃ t,PSs (QBa (CX1 P w) P w K mg base N qual (Qi st) f cdv A outer s H E) (YL st) t/\t { nx:=fun _ H'=>Q .non H',rt:=Q } (QAa N vs) H):QF P w K mg base (CX1 P w) (k+1) f fd ps sp:=by
 obtain⟨oc,od,kV,doc,pm,an,cdv,ct,osl,rfl,lk,hcd⟩:=F.ex;exact ZSc lk hcd S len fun A outer s H vs Q E hr hsp=>hbody cdv A outer s H vs Q E hr hsp
end
section
variable{X:Cx}
theorem Za:Jfa X E0:=fun _ _ _ _ _ _ _ _ _ _ _ _ _ _ h=>h.elim
end
section
variable{P:Program}{w:World}{K:W.Frag}{mg:Str->Option Value}{base:Heap}{N:List Str}{qual:Str}{scope:Scope}{f:Addr}{cd:Value}{A:Around}{outer:List Env}{s:Shared}{H:Hp}{E:XK}
end
def Jha(P:Program)(w:World)(K:W.Frag)(mg:Str->Option Value)(base:Heap)(k:Nat)(x:Str)(ps:List Str)(sp:Sp):Prop :=
 ∃ f fd,QF P w K mg base (CX1 P w) k f fd ps sp/\ZQ K fd ps []/\W.keepIn K (.ref f)=true/\mg x=some (.ref f)
def MkV(P:Program)(w:World)(K:W.Frag)(mg:Str->Option Value)(base:Heap)(k:Nat)(x:Str)(C:Addr)(sp:Sp):Prop :=
 ∃ f fd ps,Mk K C f/\QF P w K mg base CX0 k f fd ps sp/\ZQ K fd ps []/\mg x=some (.ref C)
section
variable{X:Cx}{e o:Expr}{es:List Expr}{t:TA}{ta:TE}{p pos apos:Pos}{j k:Nat}{x m:Str}{ps:List Str}{sp:Sp}{C:Addr}{E:XK}{pl:Sem Bool}
theorem ZI(G:Jha X.prog X.w X.K X.mg X.base j x ps sp)(hr:Zd k X.A)(hj:j<=k)(hg:Gl X x)(hex:X.ex=[])(ha:PA X.nox (e::es) t)(hdb:(x == ("__debug__":Str))=false:=by decide)
 (he:starEach (e::es) X.env=(false,eval e X.env)::starEach es X.env:=by rfl) (hpl:(backTo pos (starEach es X.env)).any (·.1)=false:=by rfl):PE1 X (.Call (.Name x p) (e::es) [] pos) (Zvb sp t):=by
 obtain⟨f,fd,F,b,kp,m⟩:=G;exact XPb F (hr.mono hj) hg m kp b hex ha hdb he hpl
theorem MeV.mono{P:Program}{w:World}{K:W.Frag}{mg:Str->Option Value}{base:Heap}(G:MeV P w K mg base j C m sp)(hj:j<=k):MeV P w K mg base k C m sp:=by
 obtain⟨f,fd,ps,a,F,b⟩:=G;exact⟨f,fd,ps,a,F.mono hj,b⟩
theorem Z5c(G:MkV X.prog X.w X.K X.mg X.base j x C sp)(hr:Zd k X.A)(hj:j+1<=k)(hg:Gl X x)(ha:PA X (e::es) t)(hdb:(x == ("__debug__":Str))=false:=by decide)
 (he:starEach (e::es) X.env=(false,eval e X.env)::starEach es X.env:=by rfl) (hpl:(backTo pos (starEach es X.env)).any (·.1)=false:=by rfl):PE X (.Call (.Name x p) (e::es) [] pos) (Jnb C sp [] E0 t):=by
 obtain⟨f,fd,ps,M,F,b,hm⟩:=G;exact Q3c M F (hr.mono hj) hg hm b .nil Jsb ha hdb he hpl
theorem Q5a{f:Addr}(hm:X.mg x=some (.ref f))(hg:Gl X x)(hd:(x == ("__debug__":Str))=false:=by decide):PE X (.Name x pos) (tC (.ref f)):=Jdb hg hm rfl hd
end
end L2
end
section
namespace Tg
open PySem L2 Pl
def Z4c(c:Nat):Bool:=decide (32<=c/\c<=126/\c≠37)
def XMb(z:Str):Prop:=z.length<=10000000
def Qkb:V->Prop
 | .non=>True
 | .bl _=>True
 | .int _=>True
 | .str z=>XMb z
 | _=>False
def TT:Nat->Hp->V->Prop
 | 0,H,v=>Qkb v\/∃ a,v=.ref a/\((∃ xs,H a=some (.lst xs))\/H a=some (.dK [])\/∃ xs,H a=some (.tup xs)/\xs.length<=100000)
 | n+1,H,v=>Qkb v\/∃ a,v=.ref a/\((∃ xs,H a=some (.lst xs))\/H a=some (.dK [])\/∃ xs,H a=some (.tup xs)/\xs.length<=100000/\∀ u∈xs,TT n H u)
end Tg
end
section
namespace L2
open PySem PySem.Spec PyProof.Rows
section
variable{X:Cx}
end
section
variable{X:Cx}
end
end L2
end
section
namespace PySem
section
variable{prog:Program}{w:World}{A:Around}{E:YQ_}{h:Heap}{g:Array GenState}{d:Drawn}{t:Nat}{os:OsState}
variable{nm q:Str}{C N:Addr}{bs bm bmB:List Value}{hdct:Bool}{sn:List Str}{sub:List Value}{ab:Bool}{col:Option Bool}{dd:Option Addr}{k0 k1 k2 k3 k5:Option Value}{B newId initId:String}
abbrev Q6a(h:Heap)(C:Addr):Obj:={ cls:=.ref C,data:=.fields #[.ref h.objs.size,.none,.none,.none,.bool false,.none] }
abbrev Jia(rest:List Value):Obj:={ cls:=.type "tuple",data:=.seq rest.toArray }
end
end PySem
end
section
namespace PySem.W
open PySem PySem.Spec PySem.Calls PyProof.Rows PySem.Builtin PySem.Builtin.ObjectAttr
abbrev bmV:List Value:=[.type "ValueError",.type "Exception",.type "BaseException",.type "object"]
structure XCl(K:Frag)(C CT:Addr):Prop where
 cl:∃ nm q N bs sn sub ab col dd k0 k1 k2 k3 k5,K.lookup C=some (excClassObj nm q C N bs (.ref CT::bmV) true sn sub ab col dd k0 k1 k2 k3 k5 "ValueError.__new__")/\nsOkIn K N=true
 tail:tailIn K bmV (.ref CT::bmV)=true
 ga:findIn K (.ref C) "__getattribute__"=some (some (.builtin "BaseException.__getattribute__"))
 gt:findIn K (.ref C) "__getattr__"=some none
 sa:findIn K (.ref C) "__setattr__"=some (some (.builtin "object.__setattr__"))
 cc:findIn K (.ref C) "__class__"=some (some (.builtin "object.__class__"))
 cg:specialIn K (.builtin "object.__class__") "__get__"=some (some (.builtin "getset_descriptor.__get__"))
 ct:takesIn K (.builtin "object.__class__")=some true
section
variable{K:Frag}{C CT:Addr}
theorem XCl.cd(c:XCl K C CT):∃ cd,clsIn K C=some cd/\cd.mro=.ref C::.ref CT::bmV/\cd.hasDict=true:=by
 obtain⟨nm,q,N,bs,sn,sub,ab,col,dd,k0,k1,k2,k3,k5,lk,_⟩:=c.cl;have e:clsIn K C=(match (excClassObj nm q C N bs (.ref CT::bmV) true sn sub ab col dd k0 k1 k2 k3 k5 "ValueError.__new__") with | ⟨_,_,.cls cd,_⟩=>some cd | _=>none):=by unfold clsIn;rw[lk]
 exact⟨_,e,rfl,rfl⟩
theorem XCl.has(c:XCl K C CT):hasDictIn K C=true:=by
 obtain⟨cd,h,_,d⟩:=c.cd;unfold hasDictIn;rw[h];exact d
theorem XCl.mro(c:XCl K C CT)(T:Value):mroIn K C T=some ((Value.ref C::.ref CT::bmV).contains T):=by
 obtain⟨cd,h,m,_⟩:=c.cd;unfold mroIn;rw[h,Option.bind_some,m];rfl
theorem XCl.mroT(c:XCl K C CT){T:String}(h:bmV.contains (.type T)=true):mroIn K C (.type T)=some true:=by
 rw[c.mro,contains_cons,contains_cons,h];rfl
end
section
variable{prog:Program}{w:World}{A:Around}{E:YQ_}{s:Shared}{K:Frag}{x C CT:Addr}{ox:Obj}{od:Option Obj}{name:Str}
theorem YHa{tk:Tok}{fill expr:Bool}{Q:YQ_}(X:K.In s.heap)(I:InstAt s.heap x ox C od)(c:XCl K C CT)
 (h:wpAny (model prog w) A.in1 (Builtin.«object.__getattribute__» ⟨[.ref x,.str name tk],[]⟩)
  (fun fin s'=>match fin with | .done (.ret v)=>wpAny (model prog w) A (handedOut v) Q E s' | _=>False) (fun _ _=>False) s) :
 wpAny (model prog w) A (getAttrBy (.ref x) (.str name tk) fill expr) Q E s:=by
 have L0:=I.type (M:=model prog w);have L1:=looks_findIn (M:=model prog w) X c.ga;have SL:=F.attr_ValueError.ga;unfold getAttrBy;refine wpAny_holding (Va (L0.here (Va (L1.here ?_))))
 dsimp only;rw[show(onTheHeap (Value.ref C) && Value.builtin "BaseException.__getattribute__" == Value.builtin "object.__getattribute__")=false from by rw[show(Value.builtin "BaseException.__getattribute__" == Value.builtin "object.__getattribute__")=false from by decide +kernel,Bool.and_false],if_neg (by decide)]
 unfold getAttrByItsOwn;refine Va ((looks_hook (mc:=.ref C) X (r:=none) (by show(if onTheHeap (.ref C)=true then findIn K (.ref C) "__getattr__" else some none)=some none;rw[if_pos (show onTheHeap (Value.ref C)=true from rfl)];exact c.gt)).here (Va (wpAny_attempt (wpAny_holding ?_))))
 unfold callGetattribute;rw[show(expr && onTheHeap (Value.builtin "BaseException.__getattribute__"))=false from Bool.and_false _,if_neg (by decide)]
 unfold boundAndCalled;rw[SL.bind];refine Va (Vg ?_)
 show wpAny _ _ (call (.builtin "BaseException.__getattribute__") [.ref x,.str name tk]) _ _ _;refine wpAny_call ?_
 refine codeAny_call_builtin SL.plain F.entry_bexc_ga ?_
 refine @check_slot (model prog w) _ _ s "BaseException.__getattribute__" "BaseException" "__getattribute__" (.ref x) [.str name tk] [] _ (by decide +kernel) (by decide +kernel) (I.type.andThen (looks_mroIn X (c.mroT (by decide)))) (F.args_bexc_ga _ _) ?_
 refine wpAny_mono h (fun fin s' z=>?_) fun _ _ z=>z.elim
 rcases fin with (_ | _ | _ | _) | _ <;> first | exact z | exact z.elim
theorem Zxb{v:Value}{expr:Bool}{Q:YQ_}(X:K.In s.heap)(I:InstAt s.heap x ox C od)(c:XCl K C CT)(hf:findObj K C od name=some (.value v))(hh:handedIn v=true)(h:Q v { s with toks:=s.toks+1 }) :
 wpAny (model prog w) A (getAttr (.ref x) name expr) Q E s:=by
 unfold getAttr;refine Va (wpAny_mkText (YHa (s:={ s with toks:=s.toks+1 }) X I c ?_))
 have L0:=I.type (M:=model prog w);have L1:=looks_find (M:=model prog w) X I hf;unfold Builtin.«object.__getattribute__»;refine Va (Vg (Va (Vg (Va (L0.here (s:={ s with toks:=s.toks+1 }) (Va (L1.here (s:={ s with toks:=s.toks+1 }) ?_)))))))
 refine Vg ?_
 show wpAny _ _ (handedOut v) _ _ _;rw[handedOut_of hh];exact Vg h
theorem Zyb{Q:Option Value->Shared->Prop}(X:K.In s.heap)(I:InstAt s.heap x ox C od)(c:XCl K C CT)(h:Q (some (.ref C)) { s with toks:=s.toks+1 }):wpAny (model prog w) A (getAttr? (.ref x) "__class__") Q E s:=by
 have hf:findObj K C od "__class__"=some (.bind (.builtin "getset_descriptor.__get__") (.builtin "object.__class__")):=by
  obtain⟨cd,hc,_⟩:=c.cd;simp only[findObj,hc,Option.bind_some,c.cc,c.cg,c.ct]
 unfold getAttr? getAttrBy?;refine Va (wpAny_mkText (Va (wpAny_attempt (YHa (s:={ s with toks:=s.toks+1 }) X I c ?_))))
 have L0:=I.type (M:=model prog w);have L1:=looks_find (M:=model prog w) X I hf;unfold Builtin.«object.__getattribute__»;refine Va (Vg (Va (Vg (Va (L0.here (s:={ s with toks:=s.toks+1 }) (Va (L1.here (s:={ s with toks:=s.toks+1 }) ?_)))))))
 show wpAny _ _ (holding [.builtin "object.__class__"] (call (.builtin "getset_descriptor.__get__") [.builtin "object.__class__",.ref x,.ref C]) >>= ret) _ _ _;refine Va (wpAny_holding (wpAny_call (class_get (s:={ s with toks:=s.toks+1 }) (ox:=ox) (od:=od) X I (c.mroT (by decide)) ?_)))
 refine Vg ?_
 show wpAny _ _ (handedOut (.ref C)) _ _ _;exact Vg (Vg h)
theorem XQb(c:XCl K C CT):KitX K (.ref x) (.ref C) (fun h=>InstAt h x ox C od) where
 ty:=fun _ _ _ I=>I.type
 it:=fun _ _ X _=>by
  obtain⟨cdD,hcD,_⟩:=c.cd;unfold clsIn at hcD
  split at hcD
  ·rename_i c' d' cd' sl' ho
   intro A' Q' E' s' k q;unfold isType loadHead;exact Va (wpAny_loadPart (k _ _ (X _ _ ho)) (Vg q))
  ·cases hcD
 ne:=fun h tp dd its n sl X htp=>by
  obtain⟨cdD,hcD,_⟩:=c.cd;refine Bool.eq_false_iff.mpr fun q=>?_
  have e:C=tp:=Value.ref.inj (beq_iff_eq.mp q);subst e;unfold clsIn at hcD
  split at hcD
  ·rename_i c' d' cd' sl' ho
   have z:=(X _ _ ho).symm.trans htp;cases z
  ·cases hcD
 ca:=fun X I k=>Zyb X I c k
theorem Yrb{R:Result->Shared->Prop}{tk:Tok}{v:Value}(X:K.In s.heap)(I:InstAt s.heap x ox C od)(c:XCl K C CT)(ht:findIn K (.ref C) name=some none)
 (h:∀ b,wpAny (model prog w) A.in1 (storeInOwnDict (.ref x) (.ref C) (.str name tk) name v b)
  (fun fin s'=>match fin with | .done f=>R (.ok f) s' | .again c'=>c'.quiet=true/\codeAny (model prog w) A c' R s') (fun e s'=>R (.error e) s') s) :
 codeAny (model prog w) A (.call (.builtin "object.__setattr__") ⟨[.ref x,.str name tk,v],[]⟩) R s:=by
 have SF:=F.store_object;obtain⟨cd,hc,ho,_⟩:=c.cd;have sub:Looks (model prog w) s.heap (isInstance (.ref x) (.type "object")) true:=I.type.andThen (looks_mroIn X (c.mroT (by decide)))
 refine codeAny_call_builtin SF.slot.plain SF.entry (@check_slot (model prog w) _ _ s "object.__setattr__" "object" "__setattr__" (.ref x) [.str name tk,v] [] _ SF.kind SF.split sub (SF.args (.ref x) (.str name tk) v) ?_)
 have hm:Looks (model prog w) s.heap (mroOf (.ref C)) cd.mro:=(looks_clsIn X hc).andThen .now;rw[osa_eq,refuse_eq];refine Va (Va (I.type.here (Va (hm.here ?_))))
 rw[ho,refuseLoop_ref,refuseLoop_ref,F.store_ValueError.passes];refine Vg (Va (I.type.here (Va ((looks_findIn X ht).here (Va (Vg (a:=none) ?_))))))
 exact h _
theorem Ysb{v:Value}{Q:Unit->Shared->Prop}(X:K.In s.heap)(c:XCl K C CT)(ht:findIn K (.ref C) name=some none)(hx:s.heap.get? x=some ox)(hcl:ox.cls=.ref C)(hn:notCls ox=true)(hfr:ox.isFreed=false)
 (hd:ox.dict=none) (h:∀ h',h'.Ns1 s.heap.objs.size (fun y=>if y=name then some v else none)->h'.get? x=some { ox with dict:=some s.heap.objs.size }->(∀ b o,b≠x->s.heap.get? b=some o->h'.get? b=some o)->Q () { s with heap:=h',toks:=s.toks+2 }) :
 wpAny (model prog w) A (setAttr (.ref x) name v) Q E s:=by
 have J:InstAt s.heap x ox C none:=⟨hx,hcl,hn,by rw[hd];trivial⟩
 refine set_plain X J c.sa (Yrb (s:={ s with toks:=s.toks+1 }) X J c ht fun b=>?_)
 obtain⟨cd,hc,_,hd'⟩:=c.cd;obtain⟨oc,odi,oda,osl⟩:=ox;dsimp only at hcl hd;subst hcl hd;refine Va (Vg (Va (Va (wpAny_loadPart hx (Va (Looks.here (s:={ s with toks:=s.toks+1 }) (looks_clsIn X hc) ?_))))))
 rw[hd'];have hx₁:(s.heap.push { cls:=.type "dict",data:=.dict #[] }).get? x=some ⟨.ref C,none,oda,osl⟩:=Vd _ hx
 have hxs:x≠s.heap.objs.size:=Nat.ne_of_lt (Vh hx);rw[if_neg (by decide)]
 dsimp only;rw[if_neg (show ¬ ((!true || !typeHasDict (Value.ref C))=true) by simp[typeHasDict])]
 have hgd:((s.heap.push { cls:=.type "dict",data:=.dict #[] }).update x fun o=>{ cls:=o.cls,dict:=some s.heap.objs.size,data:=o.data,slots:=o.slots }).get? s.heap.objs.size=some { cls:=.type "dict",data:=.dict #[] } :=
  (Heap.get?_update_ne _ _ _ _ hxs.symm).trans (Heap.get?_push_at rfl rfl)
 have hnd:((s.heap.push { cls:=.type "dict",data:=.dict #[] }).update x fun o=>{ cls:=o.cls,dict:=some s.heap.objs.size,data:=o.data,slots:=o.slots }).Ns s.heap.objs.size (fun _=>none) :=
  ⟨_,#[],_,hgd,rfl,fun e he=>absurd he (by simp),fun _=>rfl⟩
 have hgx:((s.heap.push { cls:=.type "dict",data:=.dict #[] }).update x fun o=>{ cls:=o.cls,dict:=some s.heap.objs.size,data:=o.data,slots:=o.slots }).get? x=some ⟨.ref C,some s.heap.objs.size,oda,osl⟩:=by
  refine Heap.get?_update_self _ hx₁ ?_
  cases oda <;> first | rfl | exact hfr
 have core:wpAny (model prog w) A.in1 (do let d <- alloc { cls:=.type "dict",data:=.dict #[] };update x fun o=>{ cls:=o.cls,dict:=some d,data:=o.data,slots:=o.slots };dictMade (Value.ref C) x d)
  (fun a s'=>wpAny (model prog w) A.in1 (match a with | some d=>storeInDict d (Value.str name s.toks) name v | none=>noDictFor (Value.ref x) (Value.ref C) name b)
   (fun fin s'=>match fin with | .done f=>(match (Except.ok f:Result) with | .ok (.ret _)=>Q () s' | .ok _=>False | .error e=>E e s') | .again c'=>c'.quiet=true/\codeAny (model prog w) A c' (fun r s'=>match r with | .ok (.ret _)=>Q () s' | .ok _=>False | .error e=>E e s') s') (fun e s'=>E e s') s')
  (fun e s'=>E e s') { s with toks:=s.toks+1 }:=by
  refine Va (wpAny_alloc' ?_)
  refine Va (wpAny_update' hx₁ ?_)
  refine Vg ?_
  show wpAny _ _ (storeInDict s.heap.objs.size (.str name s.toks) name v) _ _ _;unfold storeInDict newKeyGuard;refine Va (Vg (Va (wpAny_nsSet1 (Heap.Ns1.of_empty hnd) fun h' hn' hs=>?_)))
  obtain⟨oD,esD,epD,hoD,hdD,hcD⟩:=hn'.count (Within.cons name v Within.nil);refine Va (wpAny_lookBehind hoD (by rw[hdD];exact pastItsLine_dict (Vj hcD (by rw[length_cons,length_nil,sizeLine_eq];omega))) ?_)
  refine Vg (h h' hn' ((hs.2 x hxs).trans hgx) fun b ob hbx hb=>?_)
  exact(hs.2 b (Nat.ne_of_lt (Vh hb))).trans ((Heap.get?_update_ne _ _ _ _ hbx).trans (Vd _ hb))
 cases oda with
 | cls c=>exact absurd hn (by simp[notCls])
 | _=>exact core
end
end PySem.W
end
section
namespace L2
open PySem PySem.Spec PyProof.Rows
abbrev YIc(C:Addr)(dx:Option Addr)(t:Addr):Obj:={ cls:=.ref C,dict:=dx,data:=.fields #[.ref t,.none,.none,.none,.bool false,.none] }
def xN(e C:Addr)(dx:Option Addr):HO:=.ext fun h=>∃ t,h.get? e=some (YIc C dx t)
def xC(e C:Addr)(dx:Option Addr):HO:=.ext fun h=>∃ o vs,h.get? e=some o/\o.cls=.ref C/\o.dict=dx/\o.data=.fields vs
def xD(d:Addr)(fs:List (Str×V)):HO:=.ext fun h=>∃ mA,h.Ns1 d mA/\(∀ f,JS (fs.lookup f) (mA f))/\PySem.Within mA (fs.map (·.1))
def XAt(H:Hp)(a C:Addr)(fs:List (Str×V)):Prop:=(H a=some (xC a C none)/\fs=[])\/∃ d,H a=some (xC a C (some d))/\H d=some (xD d fs)
section
variable{P:Program}{w:World}{H:Hp}{h:Heap}{e C:Addr}{dx:Option Addr}{fs:List (Str×V)}
theorem XRb{t:Addr}(q:h.get? e=some (YIc C dx t)):QA P w H h e (xN e C dx):=⟨⟨t,q⟩,⟨_,q⟩,fun h1 h2 ⟨t,q⟩ k=>⟨t,k _ q⟩⟩
theorem YJc{o:Obj}{vs:Array Value}(q:h.get? e=some o)(a:o.cls=.ref C)(b:o.dict=dx)(c:o.data=.fields vs):QA P w H h e (xC e C dx):=⟨⟨o,vs,q,a,b,c⟩,⟨_,q⟩,fun h1 h2 ⟨o,vs,q,r⟩ k=>⟨o,vs,k _ q,r⟩⟩
theorem YKc{mA:Str->Option Value}(q:h.Ns1 e mA)(a:∀ f,JS (fs.lookup f) (mA f))(b:PySem.Within mA (fs.map (·.1))):QA P w H h e (xD e fs) :=
 ⟨⟨mA,q,a,b⟩,let ⟨o,_,_,z,_⟩:=q;⟨o,z⟩,fun h1 h2 ⟨mA,q,r⟩ k=>⟨mA,q.at k,r⟩⟩
end
section
variable{X:Cx}{pins:YP_}{σ:St}{H:Hp}{s:Shared}{a C CT:Addr}{fs:List (Str×V)}
theorem Inv.exc(I:Inv X pins σ H s)(x:XAt H a C fs):∃ ox od,W.InstAt s.heap a ox C od/\∀ f v,fs.lookup f=some v->∃ o u,od=some o/\W.lookIn f o=some (some u)/\Qq v u:=by
 rcases x with ⟨h,e⟩ | ⟨d,h,e⟩
 ·obtain⟨⟨o,vs,q,c,dd,dt⟩,_,_⟩:=(show QA X.prog X.w H s.heap a (xC a C none) from I.hok a _ h)
  exact⟨o,none,⟨q,c,by unfold W.notCls;rw[dt],by rw[dd];trivial⟩,fun f v l=>by subst e;simp at l⟩
 ·obtain⟨⟨o,vs,q,c,dd,dt⟩,_,_⟩:=(show QA X.prog X.w H s.heap a (xC a C (some d)) from I.hok a _ h)
  obtain⟨⟨mA,hns,rel,wi⟩,_,_⟩:=(show QA X.prog X.w H s.heap d (xD d fs) from I.hok d _ e)
  obtain⟨od,hod,hl⟩:=Yua hns;refine⟨o,some od,⟨q,c,by unfold W.notCls;rw[dt],by rw[dd];exact hod⟩,fun f v l=>?_⟩
  obtain⟨u,hu,ru⟩:=JS.some_of (v:=v) (o:=mA f) (by rw[<- l];exact rel f)
  exact⟨od,u,rfl,by rw[hl,hu],ru⟩
def tXF(K:W.Frag)(CT:Addr)(ta:TE)(f:Str):TE:=fun σ H Q=>ta σ H fun x H1=>∃ a C fs v,x=.ref a/\XAt H1 a C fs/\W.XCl K C CT/\ZP K C f/\fs.lookup f=some v/\Q v H1
theorem Zkc{e:Expr}{f:Str}{pos:Pos}{ta:TE}(CT:Addr)(he:PE X e ta)(hb:attributeBase e f X.env (eval e X.env)=eval e X.env):PE X (.Attribute e f pos) (tXF X.K CT ta f):=by
 intro pins s σ H Q I h;refine Jkb hb (thn (he pins s σ H _ I h) fun u s1 hZ=>?_)
 obtain⟨x,H1,I1,rx,a,C,fs,v,ex,xa,c,n,l,q⟩:=hZ;subst ex;obtain rfl:u=Value.ref a:=rx;obtain⟨ox,od,J,g⟩:=I1.exc xa;obtain⟨o,u,rfl,hl,ru⟩:=g f v l;exact W.Zxb I1.kIn J c (W.findObj_own c.has n rfl hl) (Yva ru) ⟨v,H1,I1.tok _,ru,q⟩
def Zlc(K:W.Frag)(CT:Addr):List V->Hp->VK->Prop:=fun xs H Q=>∃ a C fs c cv b,xs=[.ref a,c]/\Zbc c=some cv/\XAt H a C fs/\W.XCl K C CT/\W.kitOne K (.ref C) cv=some b/\Q (.bl b) H
theorem XSb(CT:Addr):JY X (.builtin "isinstance") (Zlc X.K CT):=by
 intro pins s σ H xs us Q I r h;obtain⟨a,C,fs,c,cv,b,rfl,hc,xa,xc,e,q⟩:=h;obtain⟨u,w',rfl,rx,rc⟩:=ZRc r;have ec:w'=cv:=by
  cases c <;> simp[Zbc]at hc
  ·subst hc;exact rc
  ·subst hc;exact rc
 subst ec;obtain rfl:u=Value.ref a:=rx;obtain⟨ox,od,J,_⟩:=I.exc xa;exact W.kia_one (W.XQb xc) I.kIn J e (fun z=>nomatch z) fun tk=>⟨.bl b,H,I.tok tk,rfl,q⟩
end
section
variable{X:Cx}{pins:YP_}{σ:St}{H H':Hp}{s:Shared}{d e:Addr}{o:HO}
theorem Inv.track(I:Inv X pins σ H s)(hn:H d=none)(y:X.s₀.heap.get? d=none)(nl:d≠X.env.locals)(nc:∀ x c,X.env.cells.lookup x=some c->c≠d)(np:∀ p∈X.pn++pins,p.1≠d)(ok:QA X.prog X.w (upd H d o) s.heap d o) :
 Inv X pins σ (upd H d o) s :=
 ⟨I.ok,I.os,I.bare,⟨I.base.keep,I.base.slot,fun b u q n hx=>by rw[Qe (fun z=>by rw[z,y]at q;cases q)];exact I.base.free b u q n hx,I.base.there,fun b xs q=>by have z:=I.base.tups b xs q;rw[Qe (Qo z hn)];exact z,
  fun b u xs q=>by have z:=I.base.frzs b u xs q;rw[Qe (Qo z hn)];exact z,fun b ps q=>by obtain⟨m,z⟩:=I.base.tbls b ps q;exact⟨m,by rw[Qe (Qo z hn)];exact z⟩⟩,
  I.loc,I.cell,by rw[Qe (Ne.symm nl)];exact I.free,fun x c q=>by rw[Qe (nc x c q)];exact I.freeC x c q,fun p hp=>by obtain⟨a,b,r⟩:=I.pin p hp;exact⟨a,by rw[Qe (np p hp)];exact b,r⟩,
  fun b u q=>by
   by_cases hb:b=d
   ·subst hb;rw[Qa]at q;cases q;exact ok
   ·rw[Qe hb]at q
    exact(I.hok b u q).stay (fun c v _ r=>r) (fun c r=>by rw[Qe (Qo r hn)];exact r) fun c xs r=>by rw[Qe (Qo r hn)];exact r,
  I.len⟩
theorem Inv.nowhere(I:Inv X pins σ H s)(hex:X.ex=[])(h:s.heap.get? d=none):H d=none/\X.s₀.heap.get? d=none/\d≠X.env.locals/\(∀ x c,X.env.cells.lookup x=some c->c≠d)/\∀ p∈X.pn++pins,p.1≠d:=by
 refine⟨I.hok.none_of h,I.young hex h,fun z=>?_,fun x c q z=>?_,fun p hp z=>?_⟩
 ·obtain⟨m,⟨o,es,ep,ho,_⟩,_⟩:=I.loc
  rw[z,ho]at h;cases h
 ·obtain⟨v,o,ho,_⟩:=I.cell x c q
  rw[z,h]at ho;cases ho
 ·have:=(I.pin p hp).1
  rw[z,h]at this;cases this
theorem Inv.off{φ:Heap->Prop}(I:Inv X pins σ H s)(he:H e=some (.ext φ))(y:X.s₀.heap.get? e=none)(h3:∀ b,b≠e->H' b=H b)(hn:H' e=none):Inv X pins σ H' s:=by
 have ne:∀ b,H b=none->b≠e:=fun b q z=>by rw[z,he]at q;cases q
 have nt:∀ b u,H b=some u->(∀ ψ,u≠.ext ψ)->b≠e:=fun b u q n z=>by rw[z,he]at q;cases q;exact n _ rfl
 have tt:∀ b xs,H b=some (.tup xs)->H' b=some (.tup xs):=fun b xs q=>(h3 b (nt b _ q (fun _ z=>by cases z))).trans q
 refine⟨I.ok,I.os,I.bare,⟨I.base.keep,I.base.slot,fun b u q n hx=>?_,I.base.there,fun b xs q=>tt b xs (I.base.tups b xs q),fun b u xs q=>?_,fun b ps q=>?_⟩,I.loc,I.cell,(h3 _ (ne _ I.free)).trans I.free,fun x c q=>(h3 _ (ne _ (I.freeC x c q))).trans (I.freeC x c q),fun p hp=>?_,fun b u q=>?_,I.len⟩
 ·have z:=I.base.free b u q n hx
  exact(h3 b (ne b z)).trans z
 ·have z:=I.base.frzs b u xs q
  exact(h3 b (nt b _ z (fun _ z=>by cases z))).trans z
 ·obtain⟨m,z⟩:=I.base.tbls b ps q
  exact⟨m,(h3 b (nt b _ z (fun _ z=>by cases z))).trans z⟩
 ·obtain⟨a,b,r⟩:=I.pin p hp
  exact⟨a,(h3 _ (ne _ b)).trans b,r⟩
 ·have hb:b≠e:=fun z=>by rw[z,hn]at q;cases q
  rw[h3 b hb]at q;exact(I.hok b u q).stay (fun c v _ r=>r) (fun c r=>(h3 c (nt c _ r (fun _ z=>by cases z))).trans r) tt
theorem XW{M:Model}{A:Around}{E:YQ_}{i:Nat}{n:Str}{pos:Pos}{Q:Unit->Shared->Prop}(I:Inv X pins σ H s)(hN:X.N.Nodup)(hi:X.N[i]?=some n)(hk:X.env.kindOf n=some .local)
 (h:∀ s',Inv X pins (σ.set i none) H s'->Q () s'):wpAny M A (do bindName X.env n .none;unbindBehindTheSuite X.env n pos) Q E s:=by
 obtain⟨m,hn,hl⟩:=id I.loc;have hcls:(X.env.scope.kind == .class || (X.env.scope.kind == .module && X.env.locals != X.env.globals))=false:=by rw[I.ok.kind];rfl
 have hiσ:i < σ.length:=by rw[I.len];exact(Vc.mp hi).1
 refine wpAny_nameGoes_keeps hk hn hcls fun h' v hn' hs=>h _ ?_
 have cne:=I.cne;refine⟨I.ok,I.os,I.bare,⟨fun b o e n hb hx=>?_,fun b o e n hb hx=>?_,I.base.free,fun b o e hx=>?_,I.base.tups,I.base.frzs,I.base.tbls⟩,⟨_,hn',fun j y v' e1 e2 e3=>?_⟩,fun y c e=>?_,I.free,I.freeC,fun p hp=>?_,fun b ob e=>?_,by simpa using I.len⟩
 ·exact(hs.2 b (Nat.ne_of_lt (Vt (Vh e) I.ok.above))).trans (I.base.keep b o e n hb hx)
 ·obtain⟨sl,e1⟩:=I.base.slot b o e n hb hx
  exact⟨sl,(hs.2 b (Nat.ne_of_lt (Vt (Vh e) I.ok.above))).trans e1⟩
 ·obtain⟨o',e1⟩:=I.base.there b o e hx
  exact⟨o',(hs.2 b (Nat.ne_of_lt (Vt (Vh e) I.ok.above))).trans e1⟩
 ·by_cases hj:j=i
  ·subst hj
   rw[getElem?_set_self hiσ]at e2
   cases e2
  ·rw[getElem?_set_ne (Ne.symm hj)]at e2
   obtain⟨u',r',q⟩:=hl j y v' e1 e2 e3;refine⟨u',r',?_⟩
   rcases q with ⟨k,e⟩ | ⟨k,c,e,z⟩
   ·refine .inl ⟨k,?_⟩
    have:y≠n:=fun e=>hj (ZSa hN e1 (e ▸ hi))
    simp[this,e]
   ·exact .inr ⟨k,c,e,z.sameBut hs (cne y c e)⟩
 ·obtain⟨w',z⟩:=I.cell y c e
  exact⟨w',z.sameBut hs (cne y c e)⟩
 ·obtain⟨e,n,ne,nf,d⟩:=I.pin p hp
  exact⟨(hs.2 p.1 ne).trans e,n,ne,nf,d⟩
 ·refine(I.hok b ob e).stay (fun c w' hc q=>(hs.2 c ?_).trans q) (fun _ q=>q) fun _ _ q=>q
  rintro rfl
  rcases hc with z | hc
  ·rw[<- z,I.free]at e;cases e
  ·rw[I.free]at hc;cases hc
end
section
variable{X:Cx}{pins:YP_}{σ:St}{H:Hp}{s:Shared}{a C CT:Addr}{f:Str}
theorem YLc{A:Around}{E:YQ_}{y:V}{u:Value}{Q:Unit->Shared->Prop}(I:Inv X pins σ H s)(hex:X.ex=[])(e:H a=some (xN a C none))(c:W.XCl X.K C CT)(n:ZP X.K C f)(ry:Qq y u)
 (h:∀ d s',H d=none->d≠a->Inv X pins σ (upd (upd H a (xN a C (some d))) d (xD d [(f,y)])) s'->Q () s'):wpAny (model X.prog X.w) A (setAttr (.ref a) f u) Q E s:=by
 obtain⟨⟨t,q⟩,_,_⟩:=(show QA X.prog X.w H s.heap a (xN a C none) from I.hok a _ e)
 refine W.Ysb I.kIn c n q rfl rfl rfl rfl fun h' hns hx hk=>?_
 obtain⟨w1,w2,w3,w4,w5⟩:=I.nowhere hex (Heap.get?_none_of_le (Ve s.heap.objs.size))
 have hne:s.heap.objs.size≠a:=fun z=>by rw[z,e]at w1;cases w1
 refine h s.heap.objs.size _ w1 hne ?_
 have I1:Inv X pins σ (upd H a (xN a C (some s.heap.objs.size))) { s with heap:=h',toks:=s.toks+2 } :=
  I.write (x:=a) (e:=a) (by rw[e];exact True.intro) (.inl rfl) (fun b u hb z=>hk b u hb z) ⟨_,hx⟩ (XRb (t:=t) hx)
 refine I1.track (by rw[Qe hne];exact w1) w2 w3 w4 w5 (YKc hns (fun g=>?_) fun g hg=>?_)
 ·by_cases hg:g=f
  ·have hb:(g == f)=true:=beq_iff_eq.mpr hg
   simp only[List.lookup,hb,if_pos hg];exact ry
  ·have hb:(g == f)=false:=beq_eq_false_iff_ne.mpr hg
   simp only[List.lookup,hb,if_neg hg];trivial
 ·by_cases z:g=f
  ·rw[z];simp
  ·rw[if_neg z]at hg;exact absurd hg (by simp)
def JTc(K:W.Frag)(CT:Addr)(ta tv:TE)(f:Str):TS:=fun D σ H=>tv σ H fun y H1=>ta σ H1 fun x H2=>∃ a C,x=.ref a/\H2 a=some (xN a C none)/\W.XCl K C CT/\ZP K C f /\
 ∀ d,H2 d=none->d≠a->D.nx σ (upd (upd H2 a (xN a C (some d))) d (xD d [(f,y)]))
def YMc(K:W.Frag)(CT:Addr)(ta tv:TE)(f:Str):TS:=fun D σ H=>tv σ H fun y H1=>ta σ H1 fun x H2=>∃ a C d fs,x=.ref a/\H2 a=some (xN a C (some d))/\H2 d=some (xD d fs)/\W.XCl K C CT/\ZP K C f/\fs.length < 1000 /\
 D.nx σ (upd H2 d (xD d (ZE f y fs)))
variable{o value:Expr}{pos pos':Pos}{ta tv:TE}
theorem XTb(CT:Addr)(hex:X.ex=[])(ha:PE X o ta)(hv:PE X value tv)(hs:swapsWith value (some (.Attribute o f pos')) pos.line X.env=pure false):PS X (.Assign [.Attribute o f pos'] value pos) (JTc X.K CT ta tv f):=by
 intro pins s σ H D I h;refine plainObj_wpAny_Assign_Attribute (thn (hv pins s σ H _ I h) fun u s1 ⟨y,H1,I1,ry,q⟩=>thn (ha pins s1 σ H1 _ I1 q) fun ov s2 hZ=>?_) hs
 obtain⟨x,H2,I2,rx,a,C,ex,ea,c,n,q2⟩:=hZ;subst ex;obtain rfl:ov=Value.ref a:=rx;exact YLc I2 hex ea c n ry fun d s3 w1 w2 I3=>⟨σ,_,I3,q2 d w1 w2⟩
structure YNc(K:W.Frag)(mg:Str->Option Value)(x:Str)(CT:Addr):Prop where
 mg_:mg x=some (.ref CT)
 cl:YHc K CT W.bmV W.bmV "ValueError.__new__"
 sp:W.specialIn K (.ref CT) "__getattribute__"=some (some (.builtin "type.__getattribute__"))
 rd:W.readsIn K CT (.type "type")=true
 ini:W.findCls K (.ref CT) (.type "type") "__init__"=some (.val (.builtin "ValueError.__init__"))
def tBI(K:W.Frag)(CT:Addr)(t:TA):TE:=fun σ H Q=>t σ H fun vs H1=>∃ a C ws,vs=.ref a::ws/\ws.length<=1000/\H1 a=some (xN a C none)/\W.XCl K C CT/\Q .non H1
end
end L2
end
section
namespace PySem
section
variable{prog:Program}{w:World}{A:Around}{E:YQ_}{s:Shared}{K:W.Frag}{C CT e t:Addr}{dx:Option Addr}
theorem Zzb{rest:List Value}{Q:YQ_}(X:K.In s.heap)(c:W.XCl K C CT)(he:s.heap.get? e=some { cls:=.ref C,dict:=dx,data:=.fields #[.ref t,.none,.none,.none,.bool false,.none] })(hl:rest.length<=sizeLine)
 (h:∀ h' t',h'.get? e=some { cls:=.ref C,dict:=dx,data:=.fields #[.ref t',.none,.none,.none,.bool false,.none] }->(∀ b o,b≠e->s.heap.get? b=some o->h'.get? b=some o)->Q .none { s with heap:=h' }) :
 wpAny (model prog w) A (call (.builtin "ValueError.__init__") (.ref e::rest)) Q E s:=by
 obtain⟨nm,q,N,bs,sn,sub,ab,col,dd,k0,k1,k2,k3,k5,lk,ok⟩:=c.cl;have FB:=F.excBase_ValueError;have TL:OwnTail s.heap W.bmV (.ref CT::W.bmV):=W.tail_of_in X c.tail;have hC:=X _ _ lk;obtain⟨hh,g,d,tk,os⟩:=s;refine wpAny_call (codeAny_call_builtin FB.init.plain FB.initEntry (wpAny_check_init_subT FB TL hC he rfl ?_))
 wp_walk
 refine h _ hh.objs.size ?_ fun b o hb z=>?_
 ·rw[Heap.get?_update_self _ (Vd _ he) rfl]
  rfl
 ·rw[Heap.get?_update_other _ _ (Ne.symm hb)]
  exact Vd _ z
end
section
variable{prog:Program}{w:World}{A:Around}{E:YQ_}{h:Heap}{g:Array GenState}{d:Drawn}{t:Nat}{os:OsState}{K:W.Frag}{C CT:Addr}
theorem JUc(X:K.In h)(c:W.XCl K C CT){rest:List Value}{fI:Addr}{Q:Fin->Shared->Prop}(hf:W.findIn K (.ref C) "__init__"=some (some (.ref fI)))(hfn:W.isFn K (.ref fI)=true)
 (fin:∀ h' e,Heap.MadeExcOf h h' e (.ref C) rest->wpAny (model prog w) A (call (.ref fI) (.ref e::rest)) (fun r s'=>r=.none/\Q (.done (.ret (.ref e))) s') E ⟨h',g,d,t,os⟩) (short:rest.length<=sizeLine) :
 wpAny (model prog w) A (Builtin.«type.__call__» ⟨.ref C::rest,[]⟩) Q E ⟨h,g,d,t,os⟩:=by
 obtain⟨nm,q,N,bs,sn,sub,ab,col,dd,k0,k1,k2,k3,k5,lk,ok⟩:=c.cl;have FB:=F.excBase_ValueError;have TL:OwnTail h W.bmV (.ref CT::W.bmV):=W.tail_of_in X c.tail;have cl:=X _ _ lk
 repeat (first | (with_reducible refine wpAny_loadPart_at cl ?_) | (with_reducible refine wpAny_madeBy_exc cl ?_) | wp_step)
 refine codeAny_call_builtin_code (Code.quiet_builtin _ FB.quiet) (wpAny_check_new_subT FB TL cl ?_)
 refine codeAny_exc_new_subT FB TL cl ?_ short
 show wpAny _ _ _ _ _ _;have kp:∀ b o,h.get? b=some o->((h.push (Jia rest)).push (Q6a h C)).get? b=some o:=fun b o e=>Vd _ (Vd _ e)
 have X1:K.In ((h.push (Jia rest)).push (Q6a h C)):=X.keeps kp;have cl1:((h.push (Jia rest)).push (Q6a h C)).get? C=_:=kp _ _ cl;have rec1:((h.push (Jia rest)).push (Q6a h C)).get? (h.objs.size+1)=some (Q6a h C):=by heap_get
 have self:(Value.ref C::.ref CT::W.bmV).contains (.ref C)=true:=by rw[contains_cons];simp
 unfold isInstance
 repeat (first | (with_reducible refine wpAny_loadPart_at rec1 ?_) | (with_reducible refine wpAny_isSubtype_exc cl1 ?_;rw[self]) | wp_step)
 show wpAny _ _ (typeLookup (.ref C) _) _ _ _;refine(W.looks_findIn (M:=model prog w) X1 hf).at ?_
 refine wpAny_holding (Va ((W.bind_fn (M:=model prog w) X1 _ (beq_iff_eq.mp hfn)).at ?_))
 have mk:Heap.MadeExcOf h ((h.push (Jia rest)).push (Q6a h C)) (h.objs.size+1) (.ref C) rest :=
  ⟨kp,Heap.get?_none_of_le (Nat.le_succ _),h.objs.size,rec1,Heap.get?_none_of_le (Ve _),Vd _ (Heap.get?_push_at rfl rfl)⟩
 refine Va (wpAny_mono (fin _ (h.objs.size+1) mk) (fun r s' hr=>?_) fun _ _ z=>z)
 obtain⟨rfl,hQ⟩:=hr
 wp_walk
 exact hQ
theorem JVc(X:K.In h)(c:W.XCl K C CT){rest:List Value}{fI:Addr}{Q:YQ_}(hf:W.findIn K (.ref C) "__init__"=some (some (.ref fI)))(hfn:W.isFn K (.ref fI)=true)
 (fin:∀ h' e,Heap.MadeExcOf h h' e (.ref C) rest->wpAny (model prog w) (A.under (.builtin "type.__call__" ⟨.ref C::rest,[]⟩)) (call (.ref fI) (.ref e::rest)) (fun r s'=>r=.none/\Q (.ref e) s') E ⟨h',g,d,t,os⟩) (short:rest.length<=sizeLine) :
 wpAny (model prog w) A (call (.ref C) rest) Q E ⟨h,g,d,t,os⟩:=by
 obtain⟨nm,q,N,bs,sn,sub,ab,col,dd,k0,k1,k2,k3,k5,lk,ok⟩:=c.cl;have cl:=X _ _ lk;have l1:=tc_lookup;have l2:=tc_bind (.ref C);have ty:(⟨h,g,d,t,os⟩:Shared).TypeIs (.ref C) "type":=⟨_,cl,rfl⟩;refine wpAny_call (codeAny_of_tree ?_)
 show wpAny _ _ (callAny (.ref C) _) _ _ _
 repeat (any_goals (first | assumption | (with_reducible refine wpAny_loadPart_at cl ?_) | wp_step))
 refine⟨rfl,?_⟩
 refine codeAny_call_builtin_at (Code.quiet_builtin _ (by decide +kernel)) entry_typeCall (wpAny_check_type_call_sub cl (JUc X c hf hfn (fun h' e hm=>?_) short))
 exact fin h' e hm
end
section
variable{M:Model}{A:Around}{E:YQ_}{env:Env}
variable{nm q:Str}{C N:Addr}{bs bm:List Value}{hdct:Bool}{sn:List Str}{sub:List Value}{ab:Bool}{col:Option Bool}{dd:Option Addr}{k0 k1 k2 k3 k5:Option Value}{newId:String}
theorem Ytb{s:Shared}{x:Sem Value}{Q:Flow->Shared->Prop}(hbase:bm.contains (.type "BaseException")=true)(hh:A.handled=none)
 (h:wpAny M A x (fun v s₁=>∃ e t dx,v=.ref e/\s₁.heap.get? C=some (excClassObj nm q C N bs bm hdct sn sub ab col dd k0 k1 k2 k3 k5 newId)/\s₁.heap.get? e=some { cls:=.ref C,dict:=dx,data:=.fields #[.ref t,.none,.none,.none,.bool false,.none] }/\E (.ref e) s₁) E s) :
 wpAny M A (raiseStmt env (some x) none) Q E s:=by
 have hcB:(Value.ref C::bm).contains (.type "BaseException")=true:=by rw[contains_cons,hbase,Bool.or_true]
 unfold raiseStmt;refine Va (wpAny_mono h (fun v s₁ h₁=>?_) fun _ _ x=>x)
 obtain⟨e,t,dx,rfl,hC,he,hE⟩:=h₁;obtain⟨hp,g,d,tk,os⟩:=s₁
 repeat (first | with_reducible refine wpAny_loadPart_at he ?_ | with_reducible refine wpAny_loadPart_at hC ?_ | (with_reducible refine wpAny_isSubtype_exc hC ?_;rw[hcB]) | wp_step)
 exact wpAny_raiseNew_none hh hE
variable{nm' q':Str}{CT N':Addr}{bs' bm':List Value}{hdct':Bool}{sn':List Str}{sub':List Value}{ab':Bool}{col':Option Bool}{dd':Option Addr}{j0 j1 j2 j3 j5:Option Value}{newId':String}
theorem J0a{h:Heap}{g:Array GenState}{d:Drawn}{t:Nat}{os:OsState}{e:Addr}{oe:Obj}{Q:Bool->Shared->Prop}
 (hC:h.get? C=some (excClassObj nm q C N bs bm hdct sn sub ab col dd k0 k1 k2 k3 k5 newId)) (hT:h.get? CT=some (excClassObj nm' q' CT N' bs' bm' hdct' sn' sub' ab' col' dd' j0 j1 j2 j3 j5 newId'))
 (he:h.get? e=some oe) (hcls:oe.cls=.ref C) (hbase:bm'.contains (.type "BaseException")=true) (hin:(Value.ref C::bm).contains (.ref CT)=true)
 (hq:Q true ⟨h,g,d,t,os⟩):wpAny M A (excMatches (.ref e) (.ref CT)) Q E ⟨h,g,d,t,os⟩:=by
 have hcB:(Value.ref CT::bm').contains (.type "BaseException")=true:=by rw[contains_cons,hbase,Bool.or_true]
 have f:=tc_notTuple;unfold excMatches
 repeat (first | (with_reducible refine wpAny_loadPart_at he ?_;rw[hcls]) | with_reducible refine wpAny_loadPart_at hT ?_ | (with_reducible refine wpAny_isSubtype_exc hT ?_;rw[hcB]) | (with_reducible refine wpAny_isSubtype_exc hC ?_;rw[hin]) | wp_step)
 exact hq
end
end PySem
namespace PySem.W
open PySem
def Q7a(K:Frag)(C:Addr)(fl:List Str):Bool:=findIn K (.ref C) "__getattribute__" == some (some (.builtin "BaseException.__getattribute__")) && (findIn K (.ref C) "__getattr__" == some none && (findIn K (.ref C) "__setattr__" == some (some (.builtin "object.__setattr__")) && (findIn K (.ref C) "__class__" == some (some (.builtin "object.__class__")) && fl.all fun f=>findIn K (.ref C) f == some none)))
section
variable{K:Frag}{C CT:Addr}{fl:List Str}
theorem YIa(h:Q7a K C fl=true):findIn K (.ref C) "__getattribute__"=some (some (.builtin "BaseException.__getattribute__"))/\findIn K (.ref C) "__getattr__"=some none/\findIn K (.ref C) "__setattr__"=some (some (.builtin "object.__setattr__")) /\
 findIn K (.ref C) "__class__"=some (some (.builtin "object.__class__"))/\∀ f∈fl,findIn K (.ref C) f=some none:=by
 unfold Q7a at h;simp only[Bool.and_eq_true,beq_iff_eq,all_eq_true]at h;exact h
theorem YJa(h:Q7a K C fl=true){f:Str}(hf:f∈fl):L2.ZP K C f:=(YIa h).2.2.2.2 f hf
theorem XCl.of(cl:∃ nm q N bs sn sub ab col dd k0 k1 k2 k3 k5,K.lookup C=some (excClassObj nm q C N bs (.ref CT::bmV) true sn sub ab col dd k0 k1 k2 k3 k5 "ValueError.__new__")/\nsOkIn K N=true)(tail:tailIn K bmV (.ref CT::bmV)=true)
 (h:Q7a K C fl=true) (cg:specialIn K (.builtin "object.__class__") "__get__"=some (some (.builtin "getset_descriptor.__get__"))) (ct:takesIn K (.builtin "object.__class__")=some true):XCl K C CT :=
 let ⟨a,b,c,d,_⟩:=YIa h;⟨cl,tail,a,b,c,d,cg,ct⟩
def XUb(K:Frag)(l:List Addr):Bool:=(List.range l.length).all fun i=>(List.range l.length).all fun j=>kitOne K (.ref (l.getD i 0)) (.ref (l.getD j 0)) == some (decide (i=j))
def JWc(K:Frag)(l:List Addr):Bool:=(List.range l.length).all fun i=>kitOne K (.ref (l.getD i 0)) (.type "ValueError") == some true
theorem Zmc{l:List Addr}(h:XUb K l=true):∀ i j,i < l.length->j < l.length->kitOne K (.ref (l.getD i 0)) (.ref (l.getD j 0))=some (decide (i=j)):=by
 unfold XUb at h;simp only[all_eq_true,mem_range,beq_iff_eq]at h;exact fun i j hi hj=>h i hi j hj
theorem JXc{l:List Addr}(h:JWc K l=true):∀ i,i < l.length->kitOne K (.ref (l.getD i 0)) (.type "ValueError")=some true:=by
 unfold JWc at h;simp only[all_eq_true,mem_range,beq_iff_eq]at h;exact h
end
end PySem.W
namespace L2
open PySem PySem.Spec PyProof.Rows
section
variable{X:Cx}{x:Str}{CT:Addr}{e:Expr}{es:List Expr}{t:TA}{p pos apos cpos np:Pos}{pl:Sem Bool}
theorem Qnb(T:YNc X.K X.mg x CT)(hg:Gl X x)(ha:PA X (e::es) t)(hdb:(x == ("__debug__":Str))=false:=by decide)
 (he:starEach (e::es) X.env=(false,eval e X.env)::starEach es X.env:=by rfl) (hpl:(backTo pos (starEach es X.env)).any (·.1)=false:=by rfl)
 (ht:eval (.Call (.Attribute (.Name x p) "__init__" apos) (e::es) [] pos) X.env=(do
  let ov <- eval (.Name x p) X.env
  standAt apos.atName
  let (f,first) <- holding [ov] (getMethod ov "__init__" pl)
  callWith pos f first (backTo pos (starEach (e::es) X.env)) (backToKw pos (keywordEach [] X.env))):=by rfl) :
 PE X (.Call (.Attribute (.Name x p) "__init__" apos) (e::es) [] pos) (tBI X.K CT t):=by
 intro pins s σ H Q I h;refine W.methodCall_KW (pl:=pl) (Jp I hg T.mg_ ?_ hdb) ht
 refine W.method_cls I.kIn T.sp (W.cls_value I.kIn T.rd T.ini (by decide +kernel) ?_)
 refine PyProof.Rows.callWith_builtin1 (thn (ha pos pins _ σ H _ (I.tok _) h) fun us s1 hZ=>?_) he hpl
 obtain⟨vs,H1,I1,r,a,C,ws,ev,hl,ea,c,q⟩:=hZ;subst ev;cases r with
 | cons r0 r1 =>
  cases (show _=Value.ref a from r0)
  obtain⟨⟨t,g⟩,_,_⟩:=(show QA X.prog X.w H1 s1.heap a (xN a C none) from I1.hok a _ ea)
  refine Zzb I1.kIn c g (by rw[<- r1.length,sizeLine_eq];omega) fun h' t' g' k=>⟨.non,H1,?_,rfl,q⟩
  have I2:=I1.write (h':=h') (t':=s1.toks) (x:=a) (e:=a) (o:=xN a C none) (by rw[ea];exact True.intro) (.inl rfl) (fun b u hb z=>k b u hb z) ⟨_,g'⟩ (XRb (t:=t') g')
  have eH:upd H1 a (xN a C none)=H1:=by
   funext b
   by_cases hb:b=a
   ·rw[hb,Qa];exact ea.symm
   ·rw[Qe hb]
  rw[eH]at I2;exact I2
def Znc(C:Addr)(fl:List Str):Sp:=fun vs H Q _=>∃ e ws,vs=.ref e::ws/\ws.length=fl.length/\H e=some (xN e C none)/\∀ d,H d=none->d≠e->Q .non (upd (upd H e (xN e C (some d))) d (xD d (fl.zip ws)))
def MkX(P:Program)(w:World)(K:W.Frag)(mg:Str->Option Value)(base:Heap)(k:Nat)(x:Str)(C CT:Addr)(fl:List Str):Prop :=
 ∃ f fd ps,QF P w K mg base CX0 k f fd ps (Znc C fl)/\ZQ K fd ps []/\W.XCl K C CT/\W.findIn K (.ref C) "__init__"=some (some (.ref f))/\W.isFn K (.ref f)=true/\W.keepIn K (.ref C)=true/\mg x=some (.ref C)
def Zoc(E:XK)(C:Addr)(fl:List Str)(t:TA):TS:=fun _ σ H=>t σ H fun vs H1=>vs.length=fl.length/\vs.length<=1000/\∀ d,H1 d=none->E (.ref C) (some d) (upd H1 d (xD d (fl.zip vs)))
variable{E:XK}{C:Addr}{fl:List Str}{j k:Nat}
theorem YKa(T:Jfa X E)(hex:X.ex=[])(hcalm:X.calm=true)(hg:Gl X x)(G:MkX X.prog X.w X.K X.mg X.base j x C CT fl)(hr:Zd k X.A)(hj:j+1<=k)(ha:PA X (e::es) t)(hdb:(x == ("__debug__":Str))=false:=by decide)
 (he:starEach (e::es) X.env=(false,eval e X.env)::starEach es X.env:=by rfl) (hpl:(backTo cpos (starEach es X.env)).any (·.1)=false:=by rfl) :
 PS X (.Raise (some (.Call (.Name x np) (e::es) [] cpos)) none pos) (Zoc E C fl t):=by
 intro pins s σ H D I h;obtain⟨f,fd,ps,F,hb,c,hf,hfn,kp,hm⟩:=G;obtain⟨nm,q,N,bs,sn,sub,ab,col,dd,k0,k1,k2,k3,k5,lk,ok⟩:=id c.cl;rw[arm_exec_Raise];refine Va (wpAny_standAt (Ytb (C:=C) (nm:=nm) (q:=q) (N:=N) (bs:=bs) (bm:=.ref CT::W.bmV) (hdct:=true) (sn:=sn) (sub:=sub) (ab:=ab) (col:=col) (dd:=dd) (k0:=k0) (k1:=k1) (k2:=k2) (k3:=k3) (k5:=k5) (newId:="ValueError.__new__") (by rw[contains_cons,PySem.F.excBase_ValueError.hasBase,Bool.or_true]) (I.ok.hd hcalm) ?_))
 refine Va (wpAny_mono (wpAny_Call_ofName (Jp I hg hm ?_ hdb)) (fun v s₃ h₃=>Va (wpAny_standAt (Vg h₃))) fun _ _ z=>z)
 refine W.callWith_K (h₀:=X.base) I.ok.mod.kin kp (thn (ha cpos pins s σ H _ I h) fun us s1 ⟨vs,H1,I1,r,hl,hz,q⟩=>⟨I1.kIn,?_⟩) he hpl
 obtain⟨hh,g,dr,tk,os⟩:=s1;refine JVc I1.kIn c hf hfn (fun h' ea mk=>?_) (by rw[sizeLine_eq,nil_append,<- r.length];omega)
 rw[nil_append]at mk ⊢;have hC':=mk.there;obtain⟨tt,he',_⟩:=hC';obtain⟨w1,w2,w3,w4,w5⟩:=I1.nowhere hex mk.new;have I1':Inv X pins σ H1 ⟨h',g,dr,tk,os⟩:=I1.kept (t':=tk) mk.keeps;have I2:Inv X pins σ (upd H1 ea (xN ea C none)) ⟨h',g,dr,tk,os⟩:=I1'.track w1 w2 w3 w4 w5 (XRb (t:=tt) he');have hsp:Znc C fl (.ref ea::vs) (upd H1 ea (xN ea C none)) (fun v H2=>v=.non/\∃ d,H1 d=none/\d≠ea/\H2=upd (upd (upd H1 ea (xN ea C none)) ea (xN ea C (some d))) d (xD d (fl.zip vs))) E0 :=
  ⟨ea,vs,rfl,hl,Qa,fun d hd hne=>⟨rfl,d,by rw[Qe hne]at hd;exact hd,hne,rfl⟩⟩
 have r2:Qr (V.ref ea::vs) (Value.ref ea::us):=.cons rfl r;have hlen:(Value.ref ea::us++[]).length=ps.length:=by rw[append_nil,<- r2.length];exact F.len _ _ _ _ hsp
 have b:=hb ⟨h',g,dr,tk,os⟩ (Value.ref ea::us) I2.kIn hlen;rw[append_nil]at b;refine wpAny_call (codeAny_mono (F.run _ X.stack _ _ ⟨Value.ref ea::us,[]⟩ (Value.ref ea::us) _ _ E0 ((hr.mono hj).make C us []) (I2.env0.make C us []) b r2 hsp) fun res s' hq=>?_)
 cases res with
 | error ev=>exact False.elim hq
 | ok fo =>
  cases fo with
  | next=>exact False.elim hq
  | brk=>exact False.elim hq
  | cont=>exact False.elim hq
  | ret u =>
   obtain⟨v,H3,I3,rv,ev,d,hd,hne,eH⟩:=I2.after hq;subst ev;subst eH;have e3:upd (upd (upd H1 ea (xN ea C none)) ea (xN ea C (some d))) d (xD d (fl.zip vs)) ea=some (xN ea C (some d)):=by rw[Qe (Ne.symm hne),Qa]
   obtain⟨⟨t3,g3⟩,_,_⟩:=(show QA X.prog X.w _ s'.heap ea (xN ea C (some d)) from I3.hok ea _ e3)
   have e4:upd H1 d (xD d (fl.zip vs)) ea=none:=by rw[Qe (Ne.symm hne)];exact w1
   have I4:Inv X pins σ (upd H1 d (xD d (fl.zip vs))) s':=I3.off e3 w2 (fun y hy=>by
    by_cases hyd:y=d
    ·rw[hyd,Qa,Qa]
    ·rw[Qe hyd,Qe hyd,Qe hy,Qe hy]) e4
   refine⟨rv,ea,t3,some d,rfl,I3.kIn _ _ lk,g3,?_⟩
   exact T pins σ _ s' ea (.ref C) (some d) [] none I4 ⟨_,_,g3,rfl,rfl,rfl,⟨⟨.none,rfl,rfl⟩,by simp,fun p hp=>by cases hp⟩,rfl⟩ (.inl rfl) w2 e4 (q d hd)
end
def Zq.gone(D:Zq)(i:Nat):Zq:={ nx:=fun σ H=>D.nx (σ.set i none) H,rt:=D.rt,bk:=fun σ H=>D.bk (σ.set i none) H,ct:=fun σ H=>D.ct (σ.set i none) H }
section
variable{X:Cx}{st b₀:Stmt}{suite:List Stmt}{t1:TS1}{ts:TS}{x n:Str}{CT:Addr}{np hpos pos:Pos}{i:Nat}
end
inductive Dt where
 | v (x:V)
 | t (xs:List Dt)
 | l (xs:List Dt)
instance:Inhabited Dt:=⟨.v .non⟩
mutual
def eqD:Dt->Dt->Bool
 | .v x,.v y=>eqV x y
 | .t xs,.t ys=>J1a xs ys
 | .l xs,.l ys=>J1a xs ys
 | _,_=>false
def J1a:List Dt->List Dt->Bool
 | [],[]=>true
 | x::xs,y::ys=>eqD x y && J1a xs ys
 | _,_=>false
end
inductive Rep(K:W.Frag)(H:Hp):Nat->Dt->V->Prop where
 | v {n:Nat} {x:V} (f:Zf x=true):Rep K H n (.v x) x
 | t {n:Nat} {a:Addr} {ds:List Dt} {xs:List V} (h:SqT K H a xs) (e:ds.length=xs.length) (r:∀ (i:Nat) d x,ds[i]?=some d->xs[i]?=some x->Rep K H n d x):Rep K H (n+1) (.t ds) (.ref a)
 | l {n:Nat} {a:Addr} {ds:List Dt} {xs:List V} (h:SqL K H a xs) (e:ds.length=xs.length) (r:∀ (i:Nat) d x,ds[i]?=some d->xs[i]?=some x->Rep K H n d x):Rep K H (n+1) (.l ds) (.ref a)
theorem Jja(n:Nat)(p:Nat->Bool):(List.range (n+1)).all p=(p 0 && (List.range n).all fun i=>p (i+1)):=by
 rw[range_succ_eq_map,all_cons,all_map];rfl
theorem XX:∀ xs ys:List Dt,J1a xs ys=((List.range (min xs.length ys.length)).all (fun i=>eqD (xs.getD i default) (ys.getD i default)) && (xs.length == ys.length))
 | [],[]=>by simp[J1a]
 | [],y::ys=>by simp[J1a]
 | x::xs,[]=>by simp[J1a]
 | x::xs,y::ys=>by
  rw[J1a,XX xs ys,length_cons,length_cons,Nat.succ_min_succ,Jja];simp only[getD_cons_zero,getD_cons_succ,Bool.and_assoc];have:(xs.length+1 == ys.length+1)=(xs.length == ys.length):=by rw[Bool.eq_iff_iff,beq_iff_eq,beq_iff_eq];omega
  rw[this]
theorem Xu{xs ys:List Dt}(h:xs.length=ys.length):J1a xs ys=(List.range xs.length).all (fun i=>eqD (xs.getD i default) (ys.getD i default)):=by
 rw[XX,<- h,Nat.min_self,beq_self_eq_true,Bool.and_true]
theorem Xma{xs ys:List Dt}(h:xs.length≠ys.length):J1a xs ys=false:=by
 rw[XX,beq_eq_false_iff_ne.mpr h,Bool.and_false]
section
variable{K:W.Frag}{H H':Hp}{n m:Nat}{d d':Dt}{x:V}
theorem Rep.self(r:Rep K H n d x):eqD d d=true:=by
 induction r with
 | v f=>unfold eqD;exact Xvb f
 | t h e _ ih =>
  unfold eqD;rw[Xu rfl,all_eq_true];intro i hi;rename_i ds xs _;have hi:=mem_range.mp hi;have h1:ds[i]?=some ds[i]:=Vb hi
  have h2:xs[i]?=some (xs[i]'(by omega)):=Vb (by omega)
  have:=ih i _ _ h1 h2
  rwa [show ds.getD i default=ds[i] by simp[List.getD,h1]]
 | l h e _ ih =>
  unfold eqD;rw[Xu rfl,all_eq_true];intro i hi;rename_i ds xs _;have hi:=mem_range.mp hi;have h1:ds[i]?=some ds[i]:=Vb hi
  have h2:xs[i]?=some (xs[i]'(by omega)):=Vb (by omega)
  have:=ih i _ _ h1 h2
  rwa [show ds.getD i default=ds[i] by simp[List.getD,h1]]
end
section
variable{X:Cx}{pins:YP_}{σ:St}{H:Hp}{s:Shared}
theorem Inv.tup_not_list{a:Addr}{xs ys:List V}(I:Inv X pins σ H s)(h:SqT X.K H a xs)(h':SqL X.K H a ys):False:=by
 obtain⟨its,r,⟨o,e,c,_⟩,_⟩:=I.tuple h;obtain⟨its',r',⟨o',n',e',c',_⟩,_⟩:=I.list h';rw[e]at e';cases e';rw[c]at c';exact absurd (Value.type.inj c') (by decide)
theorem Rep.det(I:Inv X pins σ H s):∀ {n m:Nat} {d d':Dt} {x y:V},Rep X.K H n d x->Rep X.K H m d' y->x=y->d=d':=by
 intro n m d d' x y r
 induction r generalizing m d' y with
 | v f =>
  intro r' e;subst e;cases r' with
  | v _=>rfl
  | t _ _ _=>exact absurd f (by simp[Zf])
  | l _ _ _=>exact absurd f (by simp[Zf])
 | t h e _ ih =>
  intro r' ee;cases r' with
  | v f=>subst ee;exact absurd f (by simp[Zf])
  | t h' e' r2 =>
   cases ee;have:=I.tuple_inj h h';subst this
   congr 1
   refine ext_getElem (by omega) fun i h1 h2=>?_
   exact ih i _ _ (Vb h1) (Vb (show i < _ by omega)) (r2 i _ _ (Vb h2) (Vb (by omega))) rfl
  | l h' _ _=>cases ee;exact(I.tup_not_list h h').elim
 | l h e _ ih =>
  intro r' ee;cases r' with
  | v f=>subst ee;exact absurd f (by simp[Zf])
  | l h' e' r2 =>
   cases ee;have:=I.list_inj h h';subst this
   congr 1
   refine ext_getElem (by omega) fun i h1 h2=>?_
   exact ih i _ _ (Vb h1) (Vb (show i < _ by omega)) (r2 i _ _ (Vb h2) (Vb (by omega))) rfl
  | t h' _ _=>cases ee;exact(I.tup_not_list h' h).elim
theorem J0{α:Type}{xs:List α}{i:Nat}{x d:α}(h:xs[i]?=some x):xs.getD i d=x:=by simp[List.getD,h]
theorem Qob{A:Around}{n:Nat}(h:A.units+(n+1) < cLine):A.in1.units+n < cLine:=by show A.units+1+n < cLine;omega
theorem Rep.eqAt(I:Inv X pins σ H s):∀ (n:Nat) {A:Around} {d d':Dt} {x y:V} {u v:Value},A.units+n < cLine->Rep X.K H n d x->Rep X.K H n d' y->Qq x u->Qq y v->SeqAt.EqAt A s u v (eqD d d'):=by
 intro n
 induction n with
 | zero =>
  intro A d d' x y u v hu r r' rx ry;cases r with
  | v f =>
   cases r' with
   | v f'=>unfold eqD;exact ZZa rx ry f f'
 | succ n ih =>
  intro A d d' x y u v hu r r' rx ry;have hu0:A.units < cLine:=by omega
  have elems:∀ {ds es:List Dt} {xs ys:List V} {us vs:List Value},ds.length=xs.length->es.length=ys.length->(∀ (i:Nat) d x,ds[i]?=some d->xs[i]?=some x->Rep X.K H n d x)->(∀ (i:Nat) d x,es[i]?=some d->ys[i]?=some x->Rep X.K H n d x) ->
   Qr xs us->Qr ys vs->∀ j (h1:j < us.toArray.size) (h2:j < vs.toArray.size),SeqAt.EqAt A.in1 s us.toArray[j] vs.toArray[j] (eqD (ds.getD j default) (es.getD j default)):=by
   intro ds es xs ys us vs l1 l2 r1 r2 w1 w2 j h1 h2;have m1:=w1.length;have m2:=w2.length
   have j1:j < xs.length:=by have:j < us.length:=by simpa using h1
                             omega
   have j2:j < ys.length:=by have:j < vs.length:=by simpa using h2
                             omega
   have g1:ds[j]?=some (ds[j]'(by omega)):=Vb _
   have g2:es[j]?=some (es[j]'(by omega)):=Vb _
   have x1:xs[j]?=some xs[j]:=Vb _
   have x2:ys[j]?=some ys[j]:=Vb _
   obtain⟨u1,e1,q1⟩:=w1.get x1;obtain⟨u2,e2,q2⟩:=w2.get x2;rw[J0 g1,J0 g2];have k1:us.toArray[j]=u1:=by
    have:us[j]?=some us[j]:=Vb _
    rw[this]at e1;simpa using e1
   have k2:vs.toArray[j]=u2:=by
    have:vs[j]?=some vs[j]:=Vb _
    rw[this]at e2;simpa using e2
   rw[k1,k2];exact ih (Qob hu) (r1 j _ _ g1 x1) (r2 j _ _ g2 x2) q1 q2
  cases r with
  | v f =>
   cases r' with
   | v f'=>unfold eqD;exact ZZa rx ry f f'
   | t h e _ =>
    cases ry;obtain⟨its,_,p,_⟩:=I.tuple h;unfold eqD;cases x <;> first | (exact(Vf f).elim) | skip
    ·cases (show u=Value.none from rx);exact .none_tuple p hu0
    ·cases (show u=Value.bool _ from rx);exact .bool_tuple _ p hu0
    ·obtain⟨t,rfl⟩:=rx;exact .int_tuple _ _ p hu0
    ·obtain⟨t,rfl⟩:=rx;exact .str_tuple _ _ p hu0
   | l h e _ =>
    cases ry;obtain⟨its,_,p,_⟩:=I.list h;unfold eqD;cases x <;> first | (exact(Vf f).elim) | skip
    ·cases (show u=Value.none from rx);exact .none_list p.isList hu0
    ·cases (show u=Value.bool _ from rx);exact .bool_list _ p.isList hu0
    ·obtain⟨t,rfl⟩:=rx;exact .int_list _ _ p.isList hu0
    ·obtain⟨t,rfl⟩:=rx;exact .str_list _ _ p.isList hu0
  | t h e r1 =>
   rename_i a ds xs;cases rx;obtain⟨its,w1,p,_⟩:=I.tuple h;cases r' with
   | v f' =>
    unfold eqD;cases y <;> first | (exact(Vf f').elim) | skip
    ·cases (show v=Value.none from ry);exact .tuple_none p hu0
    ·cases (show v=Value.bool _ from ry);exact .tuple_bool _ p hu0
    ·obtain⟨t,rfl⟩:=ry;exact .tuple_int _ _ p hu0
    ·obtain⟨t,rfl⟩:=ry;exact .tuple_str _ _ p hu0
   | t h' e' r2 =>
    rename_i b es ys;cases ry;obtain⟨its',w2,p',_⟩:=I.tuple h'
    by_cases ab:a=b
    ·subst ab
     have z:=Rep.det I (.t h e r1) (.t h' e' r2) rfl;rw[<- z,Rep.self (.t h e r1)];exact .same _
    ·have q:=SeqAt.RcAt.tuples (A:=A) (e:=fun i=>eqD (ds.getD i default) (es.getD i default)) p p' hu0 (elems e e' r1 r2 w1 w2)
     have sz:its.toArray.size=ds.length:=by rw[Vn,<- w1.length,e]
     have sz':its'.toArray.size=es.length:=by rw[Vn,<- w2.length,e']
     rw[sz,sz',<- XX]at q;unfold eqD;exact .of_refs ab q
   | l h' _ _ =>
    cases ry;obtain⟨its',w2,p',_⟩:=I.list h';unfold eqD;exact .tuple_list p p'.isList hu0
  | l h e r1 =>
   rename_i a ds xs;cases rx;obtain⟨its,w1,p,_⟩:=I.list h;cases r' with
   | v f' =>
    unfold eqD;cases y <;> first | (exact(Vf f').elim) | skip
    ·cases (show v=Value.none from ry);exact .list_none p.isList hu0
    ·cases (show v=Value.bool _ from ry);exact .list_bool _ p.isList hu0
    ·obtain⟨t,rfl⟩:=ry;exact .list_int _ _ p.isList hu0
    ·obtain⟨t,rfl⟩:=ry;exact .list_str _ _ p.isList hu0
   | l h' e' r2 =>
    rename_i b es ys;cases ry;obtain⟨its',w2,p',_⟩:=I.list h'
    by_cases ab:a=b
    ·subst ab
     have z:=Rep.det I (.l h e r1) (.l h' e' r2) rfl;rw[<- z,Rep.self (.l h e r1)];exact .same _
    ·have sz:its.toArray.size=ds.length:=by rw[Vn,<- w1.length,e]
     have sz':its'.toArray.size=es.length:=by rw[Vn,<- w2.length,e']
     unfold eqD
     by_cases hl:ds.length=es.length
     ·have q:=SeqAt.RcAt.lists (A:=A) (e:=fun i=>eqD (ds.getD i default) (es.getD i default)) p.isList p'.isList (by omega) hu0 (elems e e' r1 r2 w1 w2)
      rw[sz,<- Xu hl]at q;exact .of_refs ab q
     ·rw[Xma hl]
      exact .of_refs ab (SeqAt.RcAt.lists_lengths p.isList p'.isList (by rw[sz,sz'];exact bne_iff_ne.mpr hl) hu0)
   | t h' _ _ =>
    cases ry;obtain⟨its',w2,p',_⟩:=I.tuple h';unfold eqD;exact .list_tuple p.isList p' hu0
theorem Rep.elems(I:Inv X pins σ H s){n:Nat}{A:Around}(hu:A.units+(n+1) < cLine){ds es:List Dt}{xs ys:List V}{us vs:List Value}(l1:ds.length=xs.length)(l2:es.length=ys.length)
 (r1:∀ (i:Nat) d x,ds[i]?=some d->xs[i]?=some x->Rep X.K H n d x) (r2:∀ (i:Nat) d x,es[i]?=some d->ys[i]?=some x->Rep X.K H n d x) (w1:Qr xs us) (w2:Qr ys vs) (j:Nat) (h1:j < us.toArray.size) (h2:j < vs.toArray.size) :
 SeqAt.EqAt A.in1 s us.toArray[j] vs.toArray[j] (eqD (ds.getD j default) (es.getD j default)):=by
 have m1:=w1.length;have m2:=w2.length
 have j1:j < xs.length:=by have:j < us.length:=by simpa using h1
                           omega
 have j2:j < ys.length:=by have:j < vs.length:=by simpa using h2
                           omega
 have g1:ds[j]?=some (ds[j]'(by omega)):=Vb _
 have g2:es[j]?=some (es[j]'(by omega)):=Vb _
 have x1:xs[j]?=some xs[j]:=Vb _
 have x2:ys[j]?=some ys[j]:=Vb _
 obtain⟨u1,e1,q1⟩:=w1.get x1;obtain⟨u2,e2,q2⟩:=w2.get x2;rw[J0 g1,J0 g2];have k1:us.toArray[j]=u1:=by
  have:us[j]?=some us[j]:=Vb _
  rw[this]at e1;simpa using e1
 have k2:vs.toArray[j]=u2:=by
  have:vs[j]?=some vs[j]:=Vb _
  rw[this]at e2;simpa using e2
 rw[k1,k2];exact Rep.eqAt I n (Qob hu) (r1 j _ _ g1 x1) (r2 j _ _ g2 x2) q1 q2
theorem Rep.rcAt(I:Inv X pins σ H s){n:Nat}{A:Around}{d d':Dt}{x y:V}{u v:Value}(hu:A.units+n < cLine)(r:Rep X.K H n d x)(r':Rep X.K H n d' y)(rx:Qq x u)(ry:Qq y v):SeqAt.RcAt A s u v (eqD d d'):=by
 have hu0:A.units < cLine:=by omega
 cases r with
 | v f =>
  cases r' with
  | v f' =>
   unfold eqD;cases x <;> first | (exact(Vf f).elim) | skip
   all_goals (cases y <;> first | (exact(Vf f').elim) | skip)
   ·cases (show u=Value.none from rx)
    cases (show v=Value.none from ry)
    exact SeqAt.RcAt.none_none
   ·cases (show u=Value.none from rx)
    cases (show v=Value.bool _ from ry)
    exact SeqAt.RcAt.none_bool _
   ·cases (show u=Value.none from rx)
    obtain⟨tv,rfl⟩:=ry;exact SeqAt.RcAt.none_int _ _
   ·cases (show u=Value.none from rx)
    obtain⟨tv,rfl⟩:=ry;exact SeqAt.RcAt.none_str _ _
   ·cases (show u=Value.bool _ from rx)
    cases (show v=Value.none from ry)
    exact SeqAt.RcAt.bool_none _
   ·cases (show u=Value.bool _ from rx)
    cases (show v=Value.bool _ from ry)
    exact SeqAt.RcAt.bool_bool _ _
   ·cases (show u=Value.bool _ from rx)
    obtain⟨tv,rfl⟩:=ry;exact SeqAt.RcAt.bool_int _ _ _
   ·cases (show u=Value.bool _ from rx)
    obtain⟨tv,rfl⟩:=ry;exact SeqAt.RcAt.bool_str _ _ _
   ·obtain⟨tu,rfl⟩:=rx
    cases (show v=Value.none from ry)
    exact SeqAt.RcAt.int_none _ _
   ·obtain⟨tu,rfl⟩:=rx
    cases (show v=Value.bool _ from ry)
    exact SeqAt.RcAt.int_bool _ _ _
   ·obtain⟨tu,rfl⟩:=rx
    obtain⟨tv,rfl⟩:=ry;exact SeqAt.RcAt.int_int _ _ _ _
   ·obtain⟨tu,rfl⟩:=rx
    obtain⟨tv,rfl⟩:=ry;exact SeqAt.RcAt.int_str _ _ _ _
   ·obtain⟨tu,rfl⟩:=rx
    cases (show v=Value.none from ry)
    exact SeqAt.RcAt.str_none _ _
   ·obtain⟨tu,rfl⟩:=rx
    cases (show v=Value.bool _ from ry)
    exact SeqAt.RcAt.str_bool _ _ _
   ·obtain⟨tu,rfl⟩:=rx
    obtain⟨tv,rfl⟩:=ry;exact SeqAt.RcAt.str_int _ _ _ _
   ·obtain⟨tu,rfl⟩:=rx
    obtain⟨tv,rfl⟩:=ry;exact SeqAt.RcAt.str_str _ _ _ _
  | t h e _ =>
   cases ry;obtain⟨its,_,p,_⟩:=I.tuple h;unfold eqD;cases x <;> first | (exact(Vf f).elim) | skip
   ·cases (show u=Value.none from rx)
    exact SeqAt.RcAt.none_tuple p hu0
   ·cases (show u=Value.bool _ from rx)
    exact SeqAt.RcAt.bool_tuple _ p hu0
   ·obtain⟨tu,rfl⟩:=rx
    exact SeqAt.RcAt.int_tuple _ _ p hu0
   ·obtain⟨tu,rfl⟩:=rx
    exact SeqAt.RcAt.str_tuple _ _ p hu0
  | l h e _ =>
   cases ry;obtain⟨its,_,p,_⟩:=I.list h;unfold eqD;cases x <;> first | (exact(Vf f).elim) | skip
   ·cases (show u=Value.none from rx)
    exact SeqAt.RcAt.none_list p.isList hu0
   ·cases (show u=Value.bool _ from rx)
    exact SeqAt.RcAt.bool_list _ p.isList hu0
   ·obtain⟨tu,rfl⟩:=rx
    exact SeqAt.RcAt.int_list _ _ p.isList hu0
   ·obtain⟨tu,rfl⟩:=rx
    exact SeqAt.RcAt.str_list _ _ p.isList hu0
 | t h e r1 =>
  rename_i n a ds xs;cases rx;obtain⟨its,w1,p,_⟩:=I.tuple h;cases r' with
  | v f' =>
   unfold eqD;cases y <;> first | (exact(Vf f').elim) | skip
   ·cases (show v=Value.none from ry)
    exact SeqAt.RcAt.tuple_none p hu0
   ·cases (show v=Value.bool _ from ry)
    exact SeqAt.RcAt.tuple_bool _ p hu0
   ·obtain⟨tv,rfl⟩:=ry
    exact SeqAt.RcAt.tuple_int _ _ p hu0
   ·obtain⟨tv,rfl⟩:=ry
    exact SeqAt.RcAt.tuple_str _ _ p hu0
  | t h' e' r2 =>
   rename_i b es ys;cases ry;obtain⟨its',w2,p',_⟩:=I.tuple h';have q:=SeqAt.RcAt.tuples (A:=A) (e:=fun i=>eqD (ds.getD i default) (es.getD i default)) p p' hu0 (Rep.elems I hu e e' r1 r2 w1 w2)
   have sz:its.toArray.size=ds.length:=by rw[Vn,<- w1.length,e]
   have sz':its'.toArray.size=es.length:=by rw[Vn,<- w2.length,e']
   rw[sz,sz',<- XX]at q;unfold eqD;exact q
  | l h' _ _ =>
   cases ry;obtain⟨its',w2,p',_⟩:=I.list h';unfold eqD;exact SeqAt.RcAt.tuple_list p p'.isList hu0
 | l h e r1 =>
  rename_i n a ds xs;cases rx;obtain⟨its,w1,p,_⟩:=I.list h;cases r' with
  | v f' =>
   unfold eqD;cases y <;> first | (exact(Vf f').elim) | skip
   ·cases (show v=Value.none from ry)
    exact SeqAt.RcAt.list_none p.isList hu0
   ·cases (show v=Value.bool _ from ry)
    exact SeqAt.RcAt.list_bool _ p.isList hu0
   ·obtain⟨tv,rfl⟩:=ry
    exact SeqAt.RcAt.list_int _ _ p.isList hu0
   ·obtain⟨tv,rfl⟩:=ry
    exact SeqAt.RcAt.list_str _ _ p.isList hu0
  | l h' e' r2 =>
   rename_i b es ys;cases ry;obtain⟨its',w2,p',_⟩:=I.list h';have sz:its.toArray.size=ds.length:=by rw[Vn,<- w1.length,e]
   have sz':its'.toArray.size=es.length:=by rw[Vn,<- w2.length,e']
   unfold eqD
   by_cases hl:ds.length=es.length
   ·have q:=SeqAt.RcAt.lists (A:=A) (e:=fun i=>eqD (ds.getD i default) (es.getD i default)) p.isList p'.isList (by omega) hu0 (Rep.elems I hu e e' r1 r2 w1 w2)
    rw[sz,<- Xu hl]at q;exact q
   ·rw[Xma hl]
    exact SeqAt.RcAt.lists_lengths p.isList p'.isList (by rw[sz,sz'];exact bne_iff_ne.mpr hl) hu0
  | t h' _ _ =>
   cases ry;obtain⟨its',w2,p',_⟩:=I.tuple h';unfold eqD;exact SeqAt.RcAt.list_tuple p.isList p' hu0
theorem Rep.rcNeAt(I:Inv X pins σ H s){n:Nat}{A:Around}{d d':Dt}{x y:V}{u v:Value}(hu:A.units+n < cLine)(r:Rep X.K H n d x)(r':Rep X.K H n d' y)(rx:Qq x u)(ry:Qq y v):SeqAt.RcNeAt A s u v (!eqD d d'):=by
 have hu0:A.units < cLine:=by omega
 cases r with
 | v f =>
  cases r' with
  | v f' =>
   unfold eqD;cases x <;> first | (exact(Vf f).elim) | skip
   all_goals (cases y <;> first | (exact(Vf f').elim) | skip)
   ·cases (show u=Value.none from rx)
    cases (show v=Value.none from ry)
    exact SeqAt.RcNeAt.none_none
   ·cases (show u=Value.none from rx)
    cases (show v=Value.bool _ from ry)
    exact SeqAt.RcNeAt.none_bool _
   ·cases (show u=Value.none from rx)
    obtain⟨tv,rfl⟩:=ry;exact SeqAt.RcNeAt.none_int _ _
   ·cases (show u=Value.none from rx)
    obtain⟨tv,rfl⟩:=ry;exact SeqAt.RcNeAt.none_str _ _
   ·cases (show u=Value.bool _ from rx)
    cases (show v=Value.none from ry)
    exact SeqAt.RcNeAt.bool_none _
   ·cases (show u=Value.bool _ from rx)
    cases (show v=Value.bool _ from ry)
    exact SeqAt.RcNeAt.bool_bool _ _
   ·cases (show u=Value.bool _ from rx)
    obtain⟨tv,rfl⟩:=ry;exact SeqAt.RcNeAt.bool_int _ _ _
   ·cases (show u=Value.bool _ from rx)
    obtain⟨tv,rfl⟩:=ry;exact SeqAt.RcNeAt.bool_str _ _ _
   ·obtain⟨tu,rfl⟩:=rx
    cases (show v=Value.none from ry)
    exact SeqAt.RcNeAt.int_none _ _
   ·obtain⟨tu,rfl⟩:=rx
    cases (show v=Value.bool _ from ry)
    exact SeqAt.RcNeAt.int_bool _ _ _
   ·obtain⟨tu,rfl⟩:=rx
    obtain⟨tv,rfl⟩:=ry;exact SeqAt.RcNeAt.int_int _ _ _ _
   ·obtain⟨tu,rfl⟩:=rx
    obtain⟨tv,rfl⟩:=ry;exact SeqAt.RcNeAt.int_str _ _ _ _
   ·obtain⟨tu,rfl⟩:=rx
    cases (show v=Value.none from ry)
    exact SeqAt.RcNeAt.str_none _ _
   ·obtain⟨tu,rfl⟩:=rx
    cases (show v=Value.bool _ from ry)
    exact SeqAt.RcNeAt.str_bool _ _ _
   ·obtain⟨tu,rfl⟩:=rx
    obtain⟨tv,rfl⟩:=ry;exact SeqAt.RcNeAt.str_int _ _ _ _
   ·obtain⟨tu,rfl⟩:=rx
    obtain⟨tv,rfl⟩:=ry;exact SeqAt.RcNeAt.str_str _ _ _ _
  | t h e _ =>
   cases ry;obtain⟨its,_,p,_⟩:=I.tuple h;unfold eqD;cases x <;> first | (exact(Vf f).elim) | skip
   ·cases (show u=Value.none from rx)
    exact SeqAt.RcNeAt.none_tuple p hu0
   ·cases (show u=Value.bool _ from rx)
    exact SeqAt.RcNeAt.bool_tuple _ p hu0
   ·obtain⟨tu,rfl⟩:=rx
    exact SeqAt.RcNeAt.int_tuple _ _ p hu0
   ·obtain⟨tu,rfl⟩:=rx
    exact SeqAt.RcNeAt.str_tuple _ _ p hu0
  | l h e _ =>
   cases ry;obtain⟨its,_,p,_⟩:=I.list h;unfold eqD;cases x <;> first | (exact(Vf f).elim) | skip
   ·cases (show u=Value.none from rx)
    exact SeqAt.RcNeAt.none_list p.isList hu0
   ·cases (show u=Value.bool _ from rx)
    exact SeqAt.RcNeAt.bool_list _ p.isList hu0
   ·obtain⟨tu,rfl⟩:=rx
    exact SeqAt.RcNeAt.int_list _ _ p.isList hu0
   ·obtain⟨tu,rfl⟩:=rx
    exact SeqAt.RcNeAt.str_list _ _ p.isList hu0
 | t h e r1 =>
  rename_i n a ds xs;cases rx;obtain⟨its,w1,p,_⟩:=I.tuple h;cases r' with
  | v f' =>
   unfold eqD;cases y <;> first | (exact(Vf f').elim) | skip
   ·cases (show v=Value.none from ry)
    exact SeqAt.RcNeAt.tuple_none p hu0
   ·cases (show v=Value.bool _ from ry)
    exact SeqAt.RcNeAt.tuple_bool _ p hu0
   ·obtain⟨tv,rfl⟩:=ry
    exact SeqAt.RcNeAt.tuple_int _ _ p hu0
   ·obtain⟨tv,rfl⟩:=ry
    exact SeqAt.RcNeAt.tuple_str _ _ p hu0
  | t h' e' r2 =>
   rename_i b es ys;cases ry;obtain⟨its',w2,p',_⟩:=I.tuple h';have q:=SeqAt.RcNeAt.tuples (A:=A) (e:=fun i=>eqD (ds.getD i default) (es.getD i default)) p p' hu0 (Rep.elems I hu e e' r1 r2 w1 w2)
   have sz:its.toArray.size=ds.length:=by rw[Vn,<- w1.length,e]
   have sz':its'.toArray.size=es.length:=by rw[Vn,<- w2.length,e']
   rw[sz,sz',<- XX]at q;unfold eqD;exact q
  | l h' _ _ =>
   cases ry;obtain⟨its',w2,p',_⟩:=I.list h';unfold eqD;exact SeqAt.RcNeAt.tuple_list p p'.isList hu0
 | l h e r1 =>
  rename_i n a ds xs;cases rx;obtain⟨its,w1,p,_⟩:=I.list h;cases r' with
  | v f' =>
   unfold eqD;cases y <;> first | (exact(Vf f').elim) | skip
   ·cases (show v=Value.none from ry)
    exact SeqAt.RcNeAt.list_none p.isList hu0
   ·cases (show v=Value.bool _ from ry)
    exact SeqAt.RcNeAt.list_bool _ p.isList hu0
   ·obtain⟨tv,rfl⟩:=ry
    exact SeqAt.RcNeAt.list_int _ _ p.isList hu0
   ·obtain⟨tv,rfl⟩:=ry
    exact SeqAt.RcNeAt.list_str _ _ p.isList hu0
  | l h' e' r2 =>
   rename_i b es ys;cases ry;obtain⟨its',w2,p',_⟩:=I.list h';have sz:its.toArray.size=ds.length:=by rw[Vn,<- w1.length,e]
   have sz':its'.toArray.size=es.length:=by rw[Vn,<- w2.length,e']
   unfold eqD
   by_cases hl:ds.length=es.length
   ·have q:=SeqAt.RcNeAt.lists (A:=A) (e:=fun i=>eqD (ds.getD i default) (es.getD i default)) p.isList p'.isList (by omega) hu0 (Rep.elems I hu e e' r1 r2 w1 w2)
    rw[sz,<- Xu hl]at q;exact q
   ·rw[Xma hl]
    exact SeqAt.RcNeAt.lists_lengths p.isList p'.isList (by rw[sz,sz'];exact bne_iff_ne.mpr hl) hu0
  | t h' _ _ =>
   cases ry;obtain⟨its',w2,p',_⟩:=I.tuple h';unfold eqD;exact SeqAt.RcNeAt.list_tuple p.isList p' hu0
def rD(K:W.Frag)(neg:Bool):R2:=fun x y H Q=>∃ n d d',n<=60/\Rep K H n d x/\Rep K H n d' y/\Q (.bl (if neg then !eqD d d' else eqD d d')) H
theorem Xna(hu:X.A.units+64 < cLine):OpR X (compareOp .Eq) (rD X.K false):=by
 intro pins s σ H x y v u Q I rx ry h;obtain⟨n,d,d',hn,r,r',q⟩:=h;exact Rep.rcAt I (A:=X.A) (by omega) r r' rx ry X.prog X.w X.xe _ ⟨.bl _,H,I,rfl,q⟩
theorem XVb(hu:X.A.units+64 < cLine):OpR X (compareOp .NotEq) (rD X.K true):=by
 intro pins s σ H x y v u Q I rx ry h;obtain⟨n,d,d',hn,r,r',q⟩:=h;exact Rep.rcNeAt I (A:=X.A) (by omega) r r' rx ry X.prog X.w X.xe _ ⟨.bl _,H,I,rfl,q⟩
end
end L2
end
section
namespace L2
open PySem PySem.Spec PyProof.Rows PySem.W
structure ZFa(xs:List V)(lt:V->V->Bool):Prop where
 ty:∃ T:String,(Value.type T != Value.type "tuple")=true/\∀ v∈xs,∀ u,Qq v u->typeOf u=pure (.type T)
 ask:∀ v∈xs,∀ v'∈xs,∀ u u',Qq v u->Qq v' u'->∀ (prog:Program) (w:World) (A:Around) (E:YQ_) (s:Shared) (Q:Bool->Shared->Prop),Q (lt v v') s->wpAny (model prog w) A (keyLt' oneType' u u') Q E s
 swo:Swo xs lt
theorem Jka{v v':V}{u:Value}(a:Qq v u)(b:Qq v' u):v=v':=by
 cases v <;> cases v' <;> simp only[Qq]at a b <;> first | rfl | (subst a;cases b;done) | (subst a;cases b;rfl) | (obtain⟨t,rfl⟩:=a;obtain⟨t',e⟩:=b;cases e;done) | (obtain⟨t,rfl⟩:=a;obtain⟨t',e⟩:=b;cases e;rfl) | (subst a;obtain⟨t',e⟩:=b;cases e;done) | (obtain⟨t,rfl⟩:=a;cases b;done)
section
variable{X:Cx}{pins:YP_}{σ:St}{H:Hp}{s:Shared}{A:Around}{E:YQ_}
theorem XWb{n:Nat}(h:n<=100000):n < sizeLine:=Nat.lt_of_le_of_lt h (by decide)
theorem Qpb{l:Addr}{xs:List V}{lt:V->V->Bool}{Q:VK}(I:Inv X pins σ H s)(hl:SqL X.K H l xs)(h64:xs.length < 100000)(hK:ZFa xs lt)
 (h:∀ D H' ys,Qk H H'->H D=none->H' D=some (.lst ys)->ys.Perm xs->ys.Pairwise (fun a b=>lt b a=false)->Q (.ref D) H') :
 wpAny (model X.prog X.w) X.A (call (.builtin "sorted") [.ref l]) (EP X pins σ Q) X.xe s:=by
 obtain⟨vs,rv,pl,hz⟩:=I.list hl;have hlv:=rv.length;have hvz:vs.length<=sizeLine:=by rw[<- hlv];exact hz
 refine Calls.call_function_entry kind_sorted plain_sorted entry_sorted (args_sorted1 _) ?_
 unfold Builtin.«sorted»;refine Va (m:=checkCount "sorted" 1 1 _) (Vg ?_)
 refine Va (collect_list pl.isList ?_ hvz)
 refine Va (wpAny_newList ?_ hvz)
 obtain⟨hsz,kept1⟩:=JOc s.heap vs;have hoL:=Vi ((s.heap.push (seqObj "list" #[] 0)).update s.heap.objs.size (Obj.mapSeq (·++vs.toArray))) (o:=seqObj "list" vs.toArray 0) rfl
 rw[hsz]at hoL;have keep:=fun b o q=>Vd (seqObj "list" vs.toArray 0) (kept1 b o q)
 have I1:Inv X pins σ H { s with heap:=((s.heap.push (seqObj "list" #[] 0)).update s.heap.objs.size (Obj.mapSeq (·++vs.toArray))).push (seqObj "list" vs.toArray 0) }:=I.kept (t':=s.toks) keep
 have fD:Qja X pins H (s.heap.objs.size+1):=I.fpOk (Nat.le_succ _) (I.hok.fresh (Nat.le_succ _));show wpAny _ _ _ _ _ { s with heap:=((s.heap.push (seqObj "list" #[] 0)).update s.heap.objs.size (Obj.mapSeq (·++vs.toArray))).push (seqObj "list" vs.toArray 0) }
 rw[hsz];generalize ((s.heap.push (seqObj "list" #[] 0)).update s.heap.objs.size (Obj.mapSeq (·++vs.toArray))).push (seqObj "list" vs.toArray 0)=h1 at hoL I1;generalize s.heap.objs.size+1=D at hoL fD;refine Va (wpAny_holding (wpAny_call_entry slot_list_sort ⟨_,hoL,rfl⟩ entry_list_sort ?body (args_list_sort _)))
 case body =>
  rw[list_sort_plain];have s1:=Heap.SameBut.update h1 D (Obj.mapSeq fun _=>(#[]:Array Value))
  obtain⟨e1,ho1⟩:∃ e1,(h1.update D (Obj.mapSeq fun _=>(#[]:Array Value))).get? D=some (seqObj "list" #[] e1):=⟨_,get?_update_seq hoL fun _=>#[]⟩
  have I2:Inv X pins σ H { s with heap:=h1.update D (Obj.mapSeq fun _=>(#[]:Array Value)) }:=I1.turned (t':=s.toks) (fun b o hb q=>(s1.2 b hb).trans q) fD.1 fD.2.1 fD.2.2.2.1 fD.2.2.2.2.1 fD.2.2.2.2.2
  have I3:Inv X (pins++[(D,seqObj "list" #[] e1)]) σ H { s with heap:=h1.update D (Obj.mapSeq fun _=>(#[]:Array Value)) }:=I2.pins_of fun p hp=>(Vl.mp hp).elim (fun z=>I2.pin p (Vp _ z)) fun z=>by
   have z:p=(D,seqObj "list" #[] e1):=by simpa using z
   subst z;exact⟨ho1,fD.1,fD.2.1,fD.2.2.1,fun v q=>by cases q⟩
  have I5:Inv X (pins++[(D,seqObj "list" #[] e1)]) σ H { s with heap:=((h1.update D (Obj.mapSeq fun _=>(#[]:Array Value))).push (seqObj "tuple" vs.toArray 0)).push (seqObj "list" #[] 0) }:=I3.kept (t':=s.toks) fun b u q=>Vd _ (Vd _ q)
  refine Va (listItems_at hoL rfl ?_)
  refine Va (listUpdate_at hoL rfl ?_ (by rw[Vn];exact hvz) (Vk _))
  refine Va (seqEpoch_at ho1 rfl ?_)
  refine Va (wpAny_newTuple ?_ (by show vs.length<=_;exact hvz))
  refine Va (wpAny_newList ?_ (Vk _))
  refine wpAny_holding ?_
  show wpAny (model X.prog X.w) _ _ _ _ { s with heap:=((h1.update D (Obj.mapSeq fun _=>(#[]:Array Value))).push (seqObj "tuple" vs.toArray 0)).push (seqObj "list" #[] 0) }
  generalize ((h1.update D (Obj.mapSeq fun _=>(#[]:Array Value))).push (seqObj "tuple" vs.toArray 0)).push (seqObj "list" #[] 0)=h2 at I5
  dsimp only;have tail:∀ {st:SortSt} {out:List Value} {ys:List V},(arrOf st).map (·.2)=List.toArray out->failedOf st=none->Qr ys out->ys.length < 100000->ys.Perm xs->ys.Pairwise (fun a b=>lt b a=false) ->
   wpAny (model X.prog X.w) X.A.in1.in1 (do
    let ep <- seqEpoch D
    Builtin.List.listUpdate (Value.ref D) fun x=>Array.map (fun x=>x.snd) (arrOf st)
    match failedOf st with
    | some e=>do
     rule "list.sort.comparison-raised"
     throw e
     if (ep != e1)=true then do
         rule "list.sort.modified"
         raiseErrorWords "ValueError" "list modified during sort"
         ret Value.none
      else ret Value.none
    | x =>
     if (ep != e1)=true then do
      rule "list.sort.modified"
      raiseErrorWords "ValueError" "list modified during sort"
      ret Value.none
     else ret Value.none)
    (fun fin s'=>∃ v,fin=Fin.done (Flow.ret v)/\wpAny (model X.prog X.w) X.A.in1 (ret (Value.ref D)) (fun fin s'=>∃ v,fin=Fin.done (Flow.ret v)/\EP X pins σ Q v s') X.xe s')
    X.xe { s with heap:=h2 }:=by
   intro st out ys hout hf ro hlo p1 p2;have hD:=(I5.pin (D,seqObj "list" #[] e1) (Vp _ (Vp _ (by simp)))).1
   have s2:=Heap.SameBut.update h2 D (Obj.mapSeq fun _=>List.toArray out)
   obtain⟨c2,hc2⟩:∃ c2,(h2.update D (Obj.mapSeq fun _=>List.toArray out)).get? D=some (seqObj "list" (List.toArray out) c2):=⟨_,get?_update_seq hD fun _=>List.toArray out⟩
   have ho:out.length < 100000:=by rw[<- ro.length];exact hlo
   rw[hout];refine Va (seqEpoch_at hD rfl ?_)
   refine Va (listUpdate_at hD rfl ?_ (Vk _) (by rw[Vn];exact Nat.le_succ_of_le (Vv (XWb (by omega)))))
   rw[hf];simp only[bne_self_eq_false,Bool.false_eq_true,if_false];have I6:Inv X pins σ (upd H D (.lst ys)) { s with heap:=h2.update D (Obj.mapSeq fun _=>List.toArray out) }:=(I5.unpinned).adopt (t':=s.toks) fD (fun b u hb q=>(s2.2 b hb).trans q) ⟨Vv (XWb (by omega)),out,c2,ro,hc2⟩
   exact Vg ⟨_,rfl,Vg ⟨_,rfl,.ref D,_,I6,rfl,h D _ ys ((Qk.refl _).updL fD.1 _) fD.1 Qa p1 p2⟩⟩
  by_cases h2':vs.toArray.size < 2
  ·rw[if_pos h2',if_pos h2']
   refine Va (Vg ?_)
   rw[StateT.run_pure];refine Va (Vg ?_)
   refine tail (st:=SortSt.mk' general' (vs.toArray.zip vs.toArray) #[] 7 none) (out:=vs) ?_ rfl rv (by omega) (List.Perm.refl _) (Jda (by rw[Vn]at h2';omega))
   apply Array.toList_inj.mp
   show(Array.map (·.2) (vs.toArray.zip vs.toArray)).toList=_;rw[Array.toList_map,ksk_zip];show List.map (·.2) (vs.zip vs)=vs;exact map_snd_zip (by omega)
  ·rw[if_neg h2',if_neg h2']
   rw[Vn]at h2';obtain⟨T,hT1,hT⟩:=hK.ty;have mem:∀ v∈vs,∃ x∈xs,Qq x v:=fun v hv=>by
    obtain⟨i,hi,rfl⟩:=mem_iff_getElem.mp hv;obtain⟨u,eu,ru⟩:=rv.get (i:=i) (x:=xs[i]'(by omega)) (Vb _)
    rw[Vb hi]at eu
    cases eu;exact⟨_,getElem_mem _,ru⟩
   refine Va (kas_kind (T:=.type T) (by omega) (fun v hv=>?_) hT1 (by simp) ?_)
   ·obtain⟨x,hx,rx⟩:=mem v hv
    exact Looks.of_pure (hT x hx v rx)
   have hn:0 < xs.length:=by omega
   have at_:∀ i,i < xs.length->Qq (xs.getD i .non) (vs.getD i Value.none)/\xs.getD i .non∈xs:=fun i hi=>by
    obtain⟨u,eu,ru⟩:=rv.get (i:=i) (x:=xs[i]) (Vb _)
    have e1:xs.getD i .non=xs[i]:=by simp[hi]
    have e2:vs.getD i Value.none=u:=by simp[List.getD,eu]
    rw[e1,e2];exact⟨ru,getElem_mem _⟩
   have run:=SortB.Xka (prog:=X.prog) (w:=X.w) (A:=X.A.in1.in1) (E:=X.xe) (κ:=oneType') (ks:=vs) (vs:=vs) (s:={ s with heap:=h2 }) (r:=fun i=>xs.countP (lt · (xs.getD i .non))) rfl (by omega)
    (fun i j C hi hj hC=>by
     rw[<- hlv]at hi hj;rw[hK.swo.rank (at_ i hi).2 (at_ j hj).2]at hC;unfold kas_ask;exact hK.ask _ (at_ i hi).2 _ (at_ j hj).2 _ _ (at_ i hi).1 (at_ j hj).1 _ _ _ _ _ _ hC)
    (fun i j hi hj e=>by
     rw[<- hlv]at hi hj;have r1:=(at_ i hi).1;rw[e]at r1;show xs.countP (lt · (xs.getD i .non))=xs.countP (lt · (xs.getD j .non));rw[Jka r1 (at_ j hj).1])
   rw[<- hlv]at run;refine Va (wpAny_mono run ?_ fun _ _ x=>x)
   rintro⟨⟨⟩,st'⟩ s' ⟨p,har,hf,es,ok,up⟩;subst es;have hout:=kat_snds (ks:=vs) (vs:=vs) rfl har;exact tail hout hf (rv.pick p.toList) (by rw[Vr,Array.length_toList,ok.size];omega) (Qla ok) (Jca hK.swo ok hn up)
end
def ltP:V->V->Bool
 | .int a,.int b=>decide (a < b)
 | .str a,.str b=>decide (a.cps.toList < b.cps.toList)
 | _,_=>false
theorem Jla{xs:List V}(h:∀ v∈xs,∃ n,v=.int n):ZFa xs ltP where
 ty:=⟨"int",by decide,fun v hv u r=>by obtain⟨n,rfl⟩:=h v hv;obtain⟨t,rfl⟩:=r;rfl⟩
 ask:=fun v hv v' hv' u u' r r' prog w A E s Q q=>by
  obtain⟨n,rfl⟩:=h v hv;obtain⟨t,rfl⟩:=r;obtain⟨n',rfl⟩:=h v' hv';obtain⟨t',rfl⟩:=r';exact kat_lt_int q
 swo:=⟨fun a ha=>by obtain⟨n,rfl⟩:=h a ha;simp[ltP],fun a ha b hb c hc=>by
  obtain⟨x,rfl⟩:=h a ha;obtain⟨y,rfl⟩:=h b hb;obtain⟨z,rfl⟩:=h c hc;simp only[ltP,decide_eq_true_eq];omega,fun a ha b hb c hc=>by
  obtain⟨x,rfl⟩:=h a ha;obtain⟨y,rfl⟩:=h b hb;obtain⟨z,rfl⟩:=h c hc;simp only[ltP,decide_eq_true_eq];omega⟩
theorem XXb{xs:List V}(h:∀ v∈xs,∃ z,v=.str z):ZFa xs ltP where
 ty:=⟨"str",by decide,fun v hv u r=>by obtain⟨n,rfl⟩:=h v hv;obtain⟨t,rfl⟩:=r;rfl⟩
 ask:=fun v hv v' hv' u u' r r' prog w A E s Q q=>by
  obtain⟨n,rfl⟩:=h v hv;obtain⟨t,rfl⟩:=r;obtain⟨n',rfl⟩:=h v' hv';obtain⟨t',rfl⟩:=r';exact kas_lt_str q
 swo:=⟨fun a ha=>by obtain⟨n,rfl⟩:=h a ha;simp only[ltP,decide_eq_false_iff_not];exact List.lt_irrefl _,fun a ha b hb c hc=>by
  obtain⟨x,rfl⟩:=h a ha;obtain⟨y,rfl⟩:=h b hb;obtain⟨z,rfl⟩:=h c hc;simp only[ltP,decide_eq_true_eq];exact fun p q=>List.lt_trans p q,fun a ha b hb c hc=>by
  obtain⟨x,rfl⟩:=h a ha;obtain⟨y,rfl⟩:=h b hb;obtain⟨z,rfl⟩:=h c hc;simp only[ltP,decide_eq_true_eq];intro p
  by_cases q:x.cps.toList < y.cps.toList
  ·exact .inl q
  ·exact .inr (List.lt_of_le_of_lt (List.not_lt.mp q) p)⟩
def JYc(K:W.Frag):List V->Hp->VK->Prop:=fun vs H Q=>∃ a xs lt,vs=[.ref a]/\SqL K H a xs/\xs.length < 100000/\ZFa xs lt /\
 ∀ D H' ys,Qk H H'->H D=none->H' D=some (.lst ys)->ys.Perm xs->ys.Pairwise (fun a b=>lt b a=false)->Q (.ref D) H'
theorem QJa{X:Cx}:JY X (.builtin "sorted") (JYc X.K):=by
 intro pins s σ H xs us Q I r h;obtain⟨a,ys,lt,rfl,hl,h64,hK,q⟩:=h;obtain⟨u,rfl,ru⟩:=Qya r;obtain rfl:u=Value.ref a:=ru;exact Qpb I hl h64 hK q
end L2
end
section
namespace L2
open PySem PySem.Spec PyProof.Rows
theorem ZAb{k:Key}{u:Value}(h:X7 k u=true):Qq (kV k) u:=by
 rcases Q0 h with ⟨i,t,rfl,rfl⟩ | ⟨x,t,rfl,rfl⟩
 ·exact⟨t,rfl⟩
 ·exact⟨t,rfl⟩
def NF(X:Cx)(d:Addr):Prop:=∀ o u,X.H₀ d≠some (.frz o u)
section
variable{X:Cx}{pins:YP_}{σ:St}{H:Hp}{s:Shared}{d:Addr}{kvs:List (Key×V)}
theorem Inv.recast{u u':HO}(I:Inv X pins σ H s)(h:H d=some u)(n1:∀ xs,u≠.tup xs)(n2:∀ o v,X.H₀ d≠some (.frz o v))(n3:∀ ps,u≠.tbl ps)(n4:∀ x,u≠.own x)(ok:QA X.prog X.w (upd H d u') s.heap d u'):Inv X pins σ (upd H d u') s:=by
 have ne:∀ b,H b=none->b≠d:=fun b q z=>by rw[z,h]at q;cases q
 have nt:∀ b xs,H b=some (.tup xs)->b≠d:=fun b xs q z=>by rw[z,h]at q;exact n1 xs (Option.some.inj q)
 have no:∀ b x,H b=some (.own x)->b≠d:=fun b x q z=>by rw[z,h]at q;exact n4 x (Option.some.inj q)
 refine⟨I.ok,I.os,I.bare,⟨I.base.keep,I.base.slot,fun b v q n hx=>?_,I.base.there,fun b xs q=>?_,fun b o v q=>?_,fun b ps q=>?_⟩,I.loc,I.cell,by rw[Qe (ne _ I.free)];exact I.free,fun x c q=>by rw[Qe (ne _ (I.freeC x c q))];exact I.freeC x c q,fun p hp=>?_,fun b v q=>?_,I.len⟩
 ·have z:=I.base.free b v q n hx
  rw[Qe (ne b z)];exact z
 ·have z:=I.base.tups b xs q
  rw[Qe (nt b xs z)];exact z
 ·have z:=I.base.frzs b o v q
  rw[Qe (fun e=>by rw[e]at q;exact n2 o v q)];exact z
 ·obtain⟨m,z⟩:=I.base.tbls b ps q
  exact⟨m,by rw[Qe (fun e=>by rw[e,h]at z;exact n3 _ (Option.some.inj z))];exact z⟩
 ·obtain⟨a,b,r⟩:=I.pin p hp
  exact⟨a,by rw[Qe (ne _ b)];exact b,r⟩
 ·by_cases hb:b=d
  ·subst hb;rw[Qa]at q;cases q;exact ok
  ·rw[Qe hb]at q
   exact(I.hok b v q).stay (fun c v _ r=>r) (fun c r=>by rw[Qe (no c b r)];exact r) fun c xs r=>by rw[Qe (nt c xs r)];exact r
theorem Inv.nf(I:Inv X pins σ H s)(h:H d=some (.dK kvs)):NF X d:=fun o u q=>by
 have z:=I.base.frzs d o u q;rw[h]at z;cases z
theorem Inv.freeze(I:Inv X pins σ H s)(h:H d=some (.dK kvs)):∃ ob,s.heap.get? d=some ob/\Inv X pins σ (upd H d (.frz ob (.dK kvs))) s:=by
 obtain⟨z,y,vs,r,o,es,ep,e,c⟩:=(show QA X.prog X.w H s.heap d (.dK kvs) from I.hok d _ h)
 exact⟨o,e,I.recast h (fun _ z=>by cases z) (I.nf h) (fun _ z=>by cases z) (fun _ z=>by cases z) ⟨e,z,y,vs,r,o,es,ep,e,c⟩⟩
theorem Inv.thaw{ob:Obj}(I:Inv X pins σ H s)(nf:NF X d)(h:H d=some (.frz ob (.dK kvs))):Inv X pins σ (upd H d (.dK kvs)) s:=by
 obtain⟨_,z,y,vs,r,o,es,ep,e,c⟩:=(show QA X.prog X.w H s.heap d (.frz ob (.dK kvs)) from I.hok d _ h)
 exact I.recast h (fun _ z=>by cases z) nf (fun _ z=>by cases z) (fun _ z=>by cases z) ⟨z,y,vs,r,o,es,ep,e,c⟩
end
def Itd(d:Addr)(ob:Obj)(kvs:List (Key×V)):It :=
 ⟨fun i H=>H d=some (.frz ob (.dK kvs))/\i < kvs.length,fun i H x H'=>H'=H/\∃ k v,kvs[i]?=some (k,v)/\x=kV k,fun i H=>H d=some (.frz ob (.dK kvs))/\kvs.length<=i⟩
theorem XYb{P:Program}{w:World}{H:Hp}{h:Heap}{d:Addr}{ob:Obj}{kvs:List (Key×V)}{es:Array DictEntry}{ep:Nat}(ok:HOk P w H h)(e:H d=some (.frz ob (.dK kvs)))(hd:ob.data=.dict es ep) :
 (d == sysModules)=false/\∃ vs,KV kvs vs/\h.DictAt (QL P w) d vs ep:=by
 obtain⟨e0,z,y,vs,r,o,es',ep',e1,c1,c2,c3⟩:=(show QA P w H h d (.frz ob (.dK kvs)) from ok d _ e)
 rw[e0]at e1;cases e1;rw[hd]at c2;cases c2;exact⟨y,vs,r,ob,es,e0,c1,hd,c3⟩
theorem KV.get{kvs:List (Key×V)}{vs:List (Key×Value)}(r:KV kvs vs){i:Nat}{k:Key}{v:V}(h:kvs[i]?=some (k,v)):∃ u,vs[i]?=some (k,u)/\Qq v u:=by
 induction r generalizing i with
 | nil=>simp at h
 | cons a b ih =>
  cases i with
  | zero =>
   simp only[getElem?_cons_zero,Option.some.injEq]at h ⊢
   subst h;rename_i q _ _;obtain⟨k',u⟩:=q;exact⟨u,by rw[show k=k' from a.1],a.2⟩
  | succ j =>
   simp only[getElem?_cons_succ]at h ⊢
   exact ih h
theorem KV.len{kvs:List (Key×V)}{vs:List (Key×Value)}(r:KV kvs vs):kvs.length=vs.length:=Paired.length r
theorem Yub{P:Program}{w:World}{K:W.Frag}{tg:Expr}(it d:Addr)(ob:Obj)(kvs:List (Key×V))(es:Array DictEntry)(ep:Nat)(hdt:ob.data=.dict es ep):Q7b P w K tg (Itd d ob kvs) [it] it (fun i h=>h.IsKeyIter it d i kvs.length ep) where
 mem:=by simp
 obj:=fun i h st b hb=>by
  have e:b=it:=by simpa using hb
  subst e;obtain⟨o,e,c,dd⟩:=st;exact⟨o,e,fun v z=>by rw[dd]at z;cases z⟩
 keep:=fun i h h' st k=>let ⟨o,ho,r⟩:=st;⟨o,k it (by simp) o ho,r⟩
 item:=by
  intro X hP hw hK hc i pins s σ H E I hf st hg;subst hP hw hK;obtain⟨hz,hi⟩:=hg;obtain⟨_,vs,rv,da⟩:=XYb I.hok hz hdt;have hl:=rv.len;obtain⟨k,v,hkv⟩:∃ k v,kvs[i]?=some (k,v):=⟨kvs[i].1,kvs[i].2,Vb hi⟩
  obtain⟨u,hu,_⟩:=rv.get hkv;obtain⟨f0,f1,f2,f3,f4,f5⟩:=hf it (by simp)
  rw[hl]at st;refine wpAny_pyNext_dict_item st da hu fun key h' hk st' sb=>?_
  have I1:Inv X pins σ H { s with heap:=h' }:=I.turned (t':=s.toks) (fun b o hb e=>(sb.2 b hb).trans e) f0 f1 f3 f4 f5
  obtain⟨o,e,c,dd⟩:=id st';exact⟨key,rfl,Ysa (s:={ s with heap:=h' }) e c dd (by decide) ⟨kV k,H,I1,ZAb hk,⟨rfl,k,v,hkv,rfl⟩,by rw[hl];exact st',fun b hb=>(hf b hb).1⟩⟩
 done:=by
  intro X hP hw hK hc i pins s σ H E I hf st hg;subst hP hw hK;obtain⟨hz,hi⟩:=hg;obtain⟨_,vs,rv,da⟩:=XYb I.hok hz hdt;have hl:=rv.len;obtain⟨f0,f1,f2,f3,f4,f5⟩:=hf it (by simp)
  rw[hl]at st;exact wpAny_pyNext_dict_end (I.ok.hd hc) st da (getElem?_eq_none (by omega)) fun h' eb=>⟨rfl,I.turned (t':=s.toks) (fun b o hb e=>eb b o hb e) f0 f1 f3 f4 f5⟩
 self:=fun _ _ _ _ _ st h=>wpAny_pyIter_keyiter st h
def XZb(X:Cx)(tl:TE):TI:=fun σ H R=>tl σ H fun x H1=>∃ d kvs,x=.ref d/\H1 d=some (.dK kvs)/\∀ ob,NF X d->R (Itd d ob kvs) (upd H1 d (.frz ob (.dK kvs)))
section
variable{X:Cx}
theorem JIb{tg l:Expr}{tl:TE}(hl:PE X l tl):PI X tg l (XZb X tl):=by
 intro pins s σ H R I h;refine thn (hl pins s σ H _ I h) fun v s1 hZ=>?_
 obtain⟨x,H1,I1,r1,q1⟩:=hZ;obtain⟨d,kvs,e,hd,q⟩:=q1;subst e;obtain rfl:v=Value.ref d:=r1;obtain⟨ob,hob,I2⟩:=I1.freeze hd;obtain⟨z,y,vs,rv,o,es,ep,e0,c1,c2,c3⟩:=(show QA X.prog X.w H1 s1.heap d (.dK kvs) from I1.hok d _ hd)
 rw[hob]at e0;cases e0;have da:s1.heap.DictAt (QL X.prog X.w) d vs ep:=⟨ob,es,hob,c1,c2,c3⟩;refine wpAny_pyIter_dict y da ?_
 have nf:=I1.nf hd;refine⟨s1.heap.objs.size,[s1.heap.objs.size],_,_,upd H1 d (.frz ob (.dK kvs)),rfl,I2.kept (t':=s1.toks) fun b o e=>Vd _ e,Yub _ d ob kvs es ep c2,⟨_,Vi _ rfl,rfl,?_⟩,fun b hb=>?_,q ob nf⟩
 ·rw[rv.len];rfl
 ·have e:b=s1.heap.objs.size:=by simpa using hb
  subst e;exact I2.fpOk (Ve _) (I2.hok.fresh (Ve _))
def Z6c(X:Cx)(te:TE):TE:=fun σ H Q=>te σ H fun v H1=>∃ d ob kvs,NF X d/\H1 d=some (.frz ob (.dK kvs))/\Q v (upd H1 d (.dK kvs))
theorem JJb{e:Expr}{te:TE}(h:PE X e te):PE X e (Z6c X te):=fun pins s σ H Q I q=>wpAny_mono (h pins s σ H _ I q) (fun u s1 ⟨v,H',I',r,d,ob,kvs,nf,e,q'⟩=>⟨v,_,I'.thaw nf e,r,q'⟩) fun _ _ z=>z
theorem Yvb{tl:TE}{g:TG}{tb:TS}{D:Zq}{σ:St}{H:Hp}:XWa (XZb X tl) g tb D σ H=tl σ H fun x H1=>∃ d kvs,x=.ref d/\H1 d=some (.dK kvs)/\∀ ob,NF X d->FoR (Itd d ob kvs) g tb D σ (upd H1 d (.frz ob (.dK kvs))):=rfl
theorem X0b{tl:TE}{tt:TT}{te:TE}{σ:St}{H:Hp}{Q:VK}:tLc (XZb X tl) tt te σ H Q=tl σ H fun x H1=>∃ d kvs,x=.ref d/\H1 d=some (.dK kvs)/\∀ ob,NF X d->LcR (Itd d ob kvs) tt te σ Q (upd H1 d (.frz ob (.dK kvs))):=rfl
end
theorem Qqb{d:Addr}{ob:Obj}{kvs:List (Key×V)}{tt:TT}{σ:St}{H1:Hp}{Q:VK}(p:V->Bool)(hz:kvs.length<=sizeLine)(hd:H1 d=some (.frz ob (.dK kvs)))
 (he:∀ k v H2 (R:Bool->Hp->Prop),(k,v)∈kvs->Qk H1 H2->(∀ H3,Qk H2 H3->R (p (kV k)) H3)->tt (some (kV k)::σ) H2 R)
 (hq:∀ D H2,H1 D=none->Qk H1 H2->H2 D=some (.lst ((kvs.map fun q=>kV q.1).filter p))->Q (.ref D) H2):LcR (Itd d ob kvs) tt (YE 0) σ Q H1 :=
 Zsb (kvs.map fun q=>kV q.1) p (by rw[Vr];exact hz) (fun i H2 hi s=>⟨⟨s _ _ hd,by rwa [Vr]at hi⟩,fun x H' ⟨e,k,v,hkv,ex⟩=>⟨e,by rw[getElem?_map,hkv,ex];rfl⟩⟩)
  (fun H2 s=>⟨s _ _ hd,by rw[Vr];exact Ve _⟩) (fun i x H2 R hx s r=>by
   rw[getElem?_map]at hx
   cases e:kvs[i]? with
   | none=>rw[e]at hx;cases hx
   | some q =>
    rw[e]at hx;cases hx;exact he q.1 q.2 H2 R (Vm e) s r) hq
theorem Zd.u1{k:Nat}{A:Around}(r:Zd k A):A.units+1 < cLine:=by have:=r.units;omega
def SqE(b:Bool)(K:W.Frag)(H:Hp)(a:Addr)(xs:List V):Prop:=if b=true then SqT K H a xs else SqL K H a xs
def ItE(b:Bool)(K:W.Frag)(a:Addr):It:=if b=true then Itt K a else Itl K a
theorem SqE.same{b:Bool}{K:W.Frag}{H H':Hp}{a:Addr}{xs:List V}(h:SqE b K H a xs)(s:Qk H H'):SqE b K H' a xs:=by
 cases b with
 | true=>exact Qk.seqT s h
 | false=>exact Qk.seq s h
def YOc(K:W.Frag)(tl:TE):TI:=fun σ H R=>tl σ H fun x H1=>∃ a b,x=.ref a/\(∃ xs,SqE b K H1 a xs)/\R (ItE b K a) H1
section
variable{X:Cx}{tg:Expr}
theorem JZc{l:Expr}{tl:TE}(hl:PE X l tl):PI X tg l (YOc X.K tl):=by
 intro pins s σ H R I h;refine thn (hl pins s σ H _ I h) fun v s1 hZ=>?_
 obtain⟨x,H1,I1,r1,q1⟩:=hZ;obtain⟨a,b,e,⟨xs,hq⟩,q⟩:=q1;subst e;cases r1;cases b with
 | false =>
  obtain⟨its,rv,p,hz⟩:=I1.list hq;refine wpAny_pyIter_list p.isList ?_
  refine⟨s1.heap.objs.size,[s1.heap.objs.size],_,_,H1,rfl,I1.kept (t':=s1.toks) fun b o e=>Vd _ e,Yta a _,⟨_,Vi _ rfl,rfl,rfl⟩,fun b hb=>?_,q⟩
  have e:b=s1.heap.objs.size:=by simpa using hb
  subst e;exact I1.fpOk (Ve _) (I1.hok.fresh (Ve _))
 | true =>
  obtain⟨its,rv,p,hz⟩:=I1.tuple hq;refine wpAny_pyIter_tuple (show s1.heap.IsTuple a its.toArray from p) ?_
  refine⟨s1.heap.objs.size,[s1.heap.objs.size],_,_,H1,rfl,I1.kept (t':=s1.toks) fun b o e=>Vd _ e,ZUa a _,⟨_,Vi _ rfl,rfl,rfl⟩,fun b hb=>?_,q⟩
  have e:b=s1.heap.objs.size:=by simpa using hb
  subst e;exact I1.fpOk (Ve _) (I1.hok.fresh (Ve _))
end
theorem X1b{K:W.Frag}{tl:TE}{g:TG}{tb:TS}{D:Zq}{σ:St}{H:Hp}:XWa (YOc K tl) g tb D σ H=tl σ H fun x H1=>∃ a b,x=.ref a/\(∃ xs,SqE b K H1 a xs)/\FoR (ItE b K a) g tb D σ H1:=rfl
theorem Zpc{b:Bool}{K:W.Frag}{a:Addr}(xs:List V){g:TG}{tb:TS}{D:Zq}{σ:St}{H:Hp}(Pv:Nat->St->Hp->Prop)(h0:Pv 0 σ H)(hl:∀ i σ H,i<=xs.length->Pv i σ H->SqE b K H a xs)
 (hs:∀ i x σ H,xs[i]?=some x->Pv i σ H->g x σ H fun σ2 H2=>tb { D with nx:=Pv (i+1),ct:=Pv (i+1),bk:=D.nx } σ2 H2) (hd:∀ σ H,Pv xs.length σ H->D.nx σ H):FoR (ItE b K a) g tb D σ H:=by
 cases b with
 | true=>exact Jwb xs Pv h0 hl hs hd
 | false=>exact JI xs Pv h0 hl hs hd
end L2
end
section
namespace PySem.W
open PySem
def JJ(K:Frag)(C:Addr)(fl:List Str):Bool:=plainGet K C Str.empty && (hasDictIn K C && (plainOver K C && (findIn K (.ref C) "__setattr__" == some (some (.builtin "object.__setattr__")) && (findIn K (.ref C) "__class__" == some (some (.builtin "object.__class__")) && (mroIn K C (.type "object") == some true && fl.all fun f=>findIn K (.ref C) f == some none)))))
theorem Qrb{K:Frag}{C:Addr}{fl:List Str}(h:JJ K C fl=true):L2.Cls K C/\findIn K (.ref C) "__class__"=some (some (.builtin "object.__class__"))/\mroIn K C (.type "object")=some true/\∀ f∈fl,L2.ZP K C f:=by
 unfold JJ at h;simp only[Bool.and_eq_true,beq_iff_eq,all_eq_true]at h;obtain⟨a,b,c,d,e,f,g⟩:=h;exact⟨⟨a,b,c,d⟩,e,f,g⟩
def X2b(K:Frag)(l:List Addr)(m:Nat->Nat->Bool):Bool:=(List.range l.length).all fun i=>(List.range l.length).all fun j=>kitOne K (.ref (l.getD i 0)) (.ref (l.getD j 0)) == some (m i j)
theorem J0c{K:Frag}{l:List Addr}{m:Nat->Nat->Bool}(h:X2b K l m=true):∀ i j,i < l.length->j < l.length->kitOne K (.ref (l.getD i 0)) (.ref (l.getD j 0))=some (m i j):=by
 unfold X2b at h;simp only[all_eq_true,mem_range,beq_iff_eq]at h;exact fun i j hi hj=>h i hi j hj
end PySem.W
namespace L2
open PySem PySem.Spec PyProof.Rows
structure ObC(K:W.Frag)(C:Addr)(fl:List Str):Prop where
 cl:Cls K C
 cc:W.findIn K (.ref C) "__class__"=some (some (.builtin "object.__class__"))
 mo:W.mroIn K C (.type "object")=some true
 no:∀ f∈fl,ZP K C f
 cg:W.specialIn K (.builtin "object.__class__") "__get__"=some (some (.builtin "getset_descriptor.__get__"))
 ct:W.takesIn K (.builtin "object.__class__")=some true
theorem ObC.of{K:W.Frag}{C:Addr}{fl:List Str}(h:W.JJ K C fl=true)(cg:W.specialIn K (.builtin "object.__class__") "__get__"=some (some (.builtin "getset_descriptor.__get__")))(ct:W.takesIn K (.builtin "object.__class__")=some true):ObC K C fl :=
 let ⟨a,b,c,d⟩:=W.Qrb h;⟨a,b,c,d,cg,ct⟩
def Xoa(P:Program)(w:World)(K:W.Frag)(mg:Str->Option Value)(base:Heap)(k:Nat)(m:Str)(ta:TE)(t:TA):TE1:=fun σ H Q E=>ta σ H fun x H1=>∃ a C dx fs sp,x=.ref a/\H1 a=some (.ins C dx fs)/\fs.lookup m=none/\Cls K C/\MeV P w K mg base k C m sp/\t σ H1 fun vs H2=>sp (x::vs) H2 Q E
section
variable{X:Cx}{m:Str}{k:Nat}{ta:TE}{t:TA}{e o:Expr}{es:List Expr}{pos apos:Pos}{pl:Sem Bool}
theorem Q3(he:PE X.nox o ta)(hr:Zd k X.A)(hex:X.ex=[])(ha:PA X.nox (e::es) t)
 (hst:starEach (e::es) X.env=(false,eval e X.env)::starEach es X.env:=by rfl) (hpl:(backTo pos (starEach es X.env)).any (·.1)=false:=by rfl)
 (ht:eval (.Call (.Attribute o m apos) (e::es) [] pos) X.env=(do
  let ov <- eval o X.env
  standAt apos.atName
  let (f,first) <- holding [ov] (getMethod ov m pl)
  callWith pos f first (backTo pos (starEach (e::es) X.env)) (backToKw pos (keywordEach [] X.env))):=by rfl) :
 PE1 X (.Call (.Attribute o m apos) (e::es) [] pos) (Xoa X.prog X.w X.K X.mg X.base k m ta t):=by
 intro pins s σ H Q E I h;refine W.methodCall_KW (pl:=pl) (thn (JHb he I h) fun u s1 hZ=>?_) ht
 obtain⟨y,H1,I1,rx,a,C,dx,fs,sp,ex,ea,l,c,G,q⟩:=hZ;obtain⟨f,fd,ps,hm,F,hb⟩:=G;subst ex;obtain rfl:u=Value.ref a:=rx;refine YJ I1 ea c hm l ?_
 refine W.callWith_K (first:=[.ref a]) (h₀:=X.base) I.ok.mod.kin hm.kp (thn (Zwb ha I1 q) fun us s2 ⟨vs,H2,I2,r,q2⟩=>⟨I2.kIn,?_⟩) hst hpl
 exact QIa (us:=.ref a::us) (vs:=.ref a::vs) F hr hb hex I2 (.cons rfl r) q2
theorem YS(he:PE X.nox o ta)(hr:Zd k X.A)(hex:X.ex=[])
 (ht:eval (.Call (.Attribute o m apos) [] [] pos) X.env=(do
  let ov <- eval o X.env
  standAt apos.atName
  let (f,first) <- holding [ov] (getMethod ov m pl)
  callWith pos f first (backTo pos (starEach [] X.env)) (backToKw pos (keywordEach [] X.env))):=by rfl) :
 PE1 X (.Call (.Attribute o m apos) [] [] pos) (Xoa X.prog X.w X.K X.mg X.base k m ta XZa):=by
 intro pins s σ H Q E I h;refine W.methodCall_KW (pl:=pl) (thn (JHb he I h) fun u s1 hZ=>?_) ht
 obtain⟨y,H1,I1,rx,a,C,dx,fs,sp,ex,ea,l,c,G,q⟩:=hZ;obtain⟨f,fd,ps,hm,F,hb⟩:=G;subst ex;obtain rfl:u=Value.ref a:=rx;refine YJ I1 ea c hm l ?_
 exact W.callWith_K0 (first:=[.ref a]) I1.kIn hm.kp (QIa (us:=[.ref a]) (vs:=[.ref a]) F hr hb hex I1 (.cons rfl .nil) q)
theorem J1c{j:Nat}{x:Str}{C:Addr}{sp:Sp}{p:Pos}(G:MkV X.prog X.w X.K X.mg X.base j x C sp)(hr:Zd k X.A)(hj:j+1<=k)(hg:Gl X x)(hdb:(x == ("__debug__":Str))=false:=by decide):PE X (.Call (.Name x p) [] [] pos) (Jnb C sp [] E0 XZa):=by
 obtain⟨f,fd,ps,M,F,b,hm⟩:=G;exact Xcb M F (hr.mono hj) hg hm b .nil Jsb hdb
end
theorem Yd{x y:V}:[x,y].length<=sizeLine:=show 2<=sizeLine by decide
theorem X3b{J:It}{tt:TT}{te:TE}{σ:St}{H1:Hp}{Q:VK}(xs:List V)(p:V->Bool)(f:V->V)(hz:xs.length<=sizeLine)
 (hgo:∀ i H2,i < xs.length->Qk H1 H2->J.go i H2/\∀ x H',J.yld i H2 x H'->H'=H2/\xs[i]?=some x) (hst:∀ H2,Qk H1 H2->J.stop xs.length H2)
 (ht:∀ (i:Nat) x H2 (R:Bool->Hp->Prop),xs[i]?=some x->Qk H1 H2->R (p x) H2->tt (some x::σ) H2 R)
 (he:∀ (i:Nat) x H2 (R:VK),xs[i]?=some x->p x=true->Qk H1 H2->R (f x) H2->te (some x::σ) H2 R)
 (hq:∀ D H2,H1 D=none->Qk H1 H2->H2 D=some (.lst ((xs.filter p).map f))->Q (.ref D) H2):LcR J tt te σ Q H1:=by
 intro D hD;refine⟨fun i m ys H2=>m=xs.length - i/\i<=xs.length/\ys=((xs.take i).filter p).map f/\H2 D=some (.lst ys)/\Qk H1 H2,⟨_,rfl,Vk _,by simp,Qa,Qh hD _⟩,?_⟩
 rintro i m ys H2 ⟨rfl,hi,hy,hd,sm⟩;refine⟨hd,?_⟩
 by_cases hlt:i < xs.length
 ·obtain⟨go,yl⟩:=hgo i H2 hlt sm
  have hl:ys.length<=i:=by
   rw[hy,Vr];exact Vj (length_filter_le _ _) (by rw[length_take];omega)
  refine .inr ⟨go,by omega,fun x H' y=>?_⟩
  obtain⟨e,hx⟩:=yl x H' y;subst e;have hn:((xs.take (i+1)).filter p).map f=if p x=true then ys++[f x] else ys:=by
   rw[take_succ,hx,filter_append,map_append,<- hy];cases hp:p x <;> simp[hp]
  refine ht i x _ _ hx sm ?_
  cases hp:p x with
  | true =>
   rw[if_pos rfl];refine he i x _ _ hx hp sm ⟨hd,xs.length - (i+1),by omega,rfl,hlt,?_,Qa,sm.updL hD _⟩
   rw[hn,hp,if_pos rfl]
  | false =>
   rw[if_neg Vf];refine⟨xs.length - (i+1),by omega,rfl,hlt,?_,hd,sm⟩
   rw[hn,hp,if_neg Vf]
 ·have e:i=xs.length:=by omega
  subst e;rw[take_length]at hy;exact .inl ⟨hst H2 sm,hq D H2 hD sm (by rw[hd,hy])⟩
theorem X4b{K:W.Frag}{a:Addr}{tt:TT}{te:TE}{σ:St}{H1:Hp}{Q:VK}(xs:List V)(p:V->Bool)(f:V->V)(hx:SqL K H1 a xs)(hz:xs.length<=sizeLine)
 (ht:∀ (i:Nat) x H2 (R:Bool->Hp->Prop),xs[i]?=some x->Qk H1 H2->R (p x) H2->tt (some x::σ) H2 R)
 (he:∀ (i:Nat) x H2 (R:VK),xs[i]?=some x->p x=true->Qk H1 H2->R (f x) H2->te (some x::σ) H2 R)
 (hq:∀ D H2,H1 D=none->Qk H1 H2->H2 D=some (.lst ((xs.filter p).map f))->Q (.ref D) H2):LcR (Itl K a) tt te σ Q H1 :=
 X3b xs p f hz (fun i H2 hi s=>⟨⟨xs,xs[i],s.seq hx,by simp[hi]⟩,fun x H' y=>⟨y.1,y.2 xs (s.seq hx)⟩⟩) (fun H2 s=>⟨xs,s.seq hx,Ve _⟩) ht he hq
theorem Zqc{K:W.Frag}{a:Addr}{tt:TT}{te:TE}{σ:St}{H1:Hp}{Q:VK}(xs:List V)(p:V->Bool)(f:V->V)(hx:SqT K H1 a xs)(hz:xs.length<=sizeLine)
 (ht:∀ (i:Nat) x H2 (R:Bool->Hp->Prop),xs[i]?=some x->Qk H1 H2->R (p x) H2->tt (some x::σ) H2 R)
 (he:∀ (i:Nat) x H2 (R:VK),xs[i]?=some x->p x=true->Qk H1 H2->R (f x) H2->te (some x::σ) H2 R)
 (hq:∀ D H2,H1 D=none->Qk H1 H2->H2 D=some (.lst ((xs.filter p).map f))->Q (.ref D) H2):LcR (Itt K a) tt te σ Q H1 :=
 X3b xs p f hz (fun i H2 hi s=>⟨⟨xs,xs[i],s.seqT hx,by simp[hi]⟩,fun x H' y=>⟨y.1,y.2 xs (s.seqT hx)⟩⟩) (fun H2 s=>⟨xs,s.seqT hx,Ve _⟩) ht he hq
def X5b(H:Hp):V->V
 | .ref a=>match H a with | some (.tup [_,w])=>w | _=>.non
 | _=>.non
theorem Qsb{H:Hp}{a:Addr}{k w:V}(h:H a=some (.tup [k,w])):X5b H (.ref a)=w:=by
 show(match H a with | some (.tup [_,w])=>w | _=>.non)=w
 rw[h]
theorem ZF{K:W.Frag}{C a dx:Addr}{fl:List Str}{f:Str}{fs:List (Str×V)}{v:V}{i:Nat}{σ:St}{H:Hp}{Q:VK}(c:ObC K C fl)(hf:f∈fl)(hs:σ[i]?=some (some (.ref a)))(ha:H a=some (.ins C dx fs))(hv:fs.lookup f=some v)(q:Q v H):Xab K (YE i) f σ H Q :=
 Qxa hs ⟨a,C,dx,fs,v,rfl,ha,c.cl,c.no f hf,hv,q⟩
theorem Xpa{K:W.Frag}{C a dx:Addr}{fl:List Str}{f:Str}{fs:List (Str×V)}{i:Nat}{σ:St}{H H1:Hp}{tv:TE}{D:Zq}{y:V}(c:ObC K C fl)(hf:f∈fl)(hs:σ[i]?=some (some (.ref a)))(hv:∀ Q:VK,Q y H1->tv σ H Q)(ha:H1 a=some (.ins C dx fs))(l:fs.length < 1000)(q:D.nx σ (upd H1 a (.ins C dx (ZE f y fs)))):Yrc K (YE i) tv f D σ H :=
 hv _ (Qxa hs ⟨a,C,dx,fs,rfl,ha,c.cl,c.no f hf,l,q⟩)
theorem Qtb{H:Hp}{a b:Addr}{x y:HO}(h:a≠b):upd (upd H a x) b y=upd (upd H b y) a x:=by
 funext c
 by_cases h1:c=b
 ·subst h1;rw[Qa,Qe (Ne.symm h),Qa]
 ·by_cases h2:c=a
  ·subst h2;rw[Qa,Qe h1,Qa]
  ·rw[Qe h1,Qe h2,Qe h2,Qe h1]
def HE(b:Bool)(H:Hp)(e:Addr)(xs:List V):Prop:=H e=some (if b=true then .tup xs else .lst xs)
theorem HE.upd_ins{b:Bool}{H:Hp}{a e C dx:Addr}{o:HO}{fs:List (Str×V)}{xs:List V}(h:HE b H e xs)(ha:H a=some (.ins C dx fs)):HE b (upd H a o) e xs:=by
 have ne:e≠a:=fun z=>by
  unfold HE at h;rw[z,ha]at h;cases b <;> cases h
 unfold HE;rw[Qe ne];exact h
theorem HE.same{b:Bool}{H H':Hp}{e:Addr}{xs:List V}(h:HE b H e xs)(s:Qk H H'):HE b H' e xs:=s _ _ h
section
variable{P:Program}{w:World}{K:W.Frag}{mg:Str->Option Value}{base:Heap}{k i:Nat}{C D a dx:Addr}{m:Str}{sp:Sp}{fs:List (Str×V)}{fl:List Str}{σ:St}{H:Hp}{Q:VK}{E:XK}{t:TA}{b:Bool}
theorem XY(hs:σ[i]?=some (some (.ref a)))(ha:H a=some (.ins C dx fs))(l:fs.lookup m=none)(c:Cls K C)(M:MeV P w K mg base k C m sp)(q:sp [.ref a] H Q E):Xoa P w K mg base k m (YE i) XZa σ H Q E:=Qxa hs ⟨a,C,dx,fs,sp,rfl,ha,l,c,M,q⟩
theorem Zg(hs:σ[i]?=some (some (.ref a)))(ha:H a=some (.ins C dx fs))(l:fs.lookup m=none)(c:Cls K C)(M:MeV P w K mg base k C m sp)(q:t σ H fun vs H2=>sp (.ref a::vs) H2 Q E):Xoa P w K mg base k m (YE i) t σ H Q E:=Qxa hs ⟨a,C,dx,fs,sp,rfl,ha,l,c,M,q⟩
theorem XZ{n:Nat}{d:Dt}{x y:V}{neg:Bool}(hn:n<=60)(rx:Rep K H n d x)(ry:Rep K H n d y)(q:Q (.bl (!neg)) H):rD K neg x y H Q:=⟨n,d,d,hn,rx,ry,by
 rw[Rep.self rx];cases neg <;> exact q⟩
end
theorem ZOa{H H':Hp}{x dx:Addr}{o u:HO}(hx:H x=none)(hdx:H dx=none)(s:Qk (upd (upd H dx u) x o) H'):Qk H H':=fun b v hb=>s _ _ (by rw[Qe (Qo hb hx),Qe (Qo hb hdx)];exact hb)
theorem JD{H H':Hp}{d:Addr}{o:HO}(s:Qk H H')(n:H d=none):Qk H (upd H' d o):=fun b u hb=>by
 rw[Qe (Qo hb n)];exact s b u hb
section
variable{X:Cx}{tg:Expr}
end
end L2
end
section
namespace L2
open PySem PySem.Spec PyProof.Rows PySem.W
section
variable{X:Cx}{pins:YP_}{σ:St}{H:Hp}{s:Shared}{A:Around}{E:YQ_}
theorem ZBb{l:Addr}{xs:List V}{lt:V->V->Bool}{Q:VK}(I:Inv X pins σ H s)(hz:xs.length<=sizeLine)(h64:xs.length < 1000)(hK:ZFa xs lt)
 (hc:∀ (E:YQ_) (R:List Value->Shared->Prop),(∀ vs h' tk,Qr xs vs->(∀ b o,s.heap.get? b=some o->h'.get? b=some o)->R vs { s with heap:=h',toks:=tk })->wpAny (model X.prog X.w) X.A.in1 (collect (.ref l)) R E s)
 (h:∀ D H' ys,Qk H H'->H D=none->H' D=some (.lst ys)->ys.Perm xs->ys.Pairwise (fun a b=>lt b a=false)->Q (.ref D) H') :
 wpAny (model X.prog X.w) X.A (call (.builtin "sorted") [.ref l]) (EP X pins σ Q) X.xe s:=by
 refine Calls.call_function_entry kind_sorted plain_sorted entry_sorted (args_sorted1 _) ?_
 unfold Builtin.«sorted»;refine Va (m:=checkCount "sorted" 1 1 _) (Vg ?_)
 refine Va (hc _ _ fun vs h' tk rv kept=>?_)
 have I0:Inv X pins σ H { s with heap:=h',toks:=tk }:=I.kept kept
 clear hc I;generalize ({ s with heap:=h',toks:=tk }:Shared)=s at I0 ⊢
 have I:=I0;clear I0;have hlv:=rv.length;have hvz:vs.length<=sizeLine:=by rw[<- hlv];exact hz
 refine Va (wpAny_newList ?_ hvz)
 have hoL:=Vi s.heap (o:=seqObj "list" vs.toArray 0) rfl
 have I1:Inv X pins σ H { s with heap:=s.heap.push (seqObj "list" vs.toArray 0) }:=I.kept (t':=s.toks) fun b o q=>Vd _ q
 have fD:Qja X pins H s.heap.objs.size:=I.fpOk (Ve _) (I.hok.fresh (Ve _));show wpAny _ _ _ _ _ { s with heap:=s.heap.push (seqObj "list" vs.toArray 0) }
 generalize s.heap.push (seqObj "list" vs.toArray 0)=h1 at hoL I1;generalize s.heap.objs.size=D at hoL fD;refine Va (wpAny_holding (wpAny_call_entry slot_list_sort ⟨_,hoL,rfl⟩ entry_list_sort ?body (args_list_sort _)))
 case body =>
  rw[list_sort_plain];have s1:=Heap.SameBut.update h1 D (Obj.mapSeq fun _=>(#[]:Array Value))
  obtain⟨e1,ho1⟩:∃ e1,(h1.update D (Obj.mapSeq fun _=>(#[]:Array Value))).get? D=some (seqObj "list" #[] e1):=⟨_,get?_update_seq hoL fun _=>#[]⟩
  have I2:Inv X pins σ H { s with heap:=h1.update D (Obj.mapSeq fun _=>(#[]:Array Value)) }:=I1.turned (t':=s.toks) (fun b o hb q=>(s1.2 b hb).trans q) fD.1 fD.2.1 fD.2.2.2.1 fD.2.2.2.2.1 fD.2.2.2.2.2
  have I3:Inv X (pins++[(D,seqObj "list" #[] e1)]) σ H { s with heap:=h1.update D (Obj.mapSeq fun _=>(#[]:Array Value)) }:=I2.pins_of fun p hp=>(Vl.mp hp).elim (fun z=>I2.pin p (Vp _ z)) fun z=>by
   have z:p=(D,seqObj "list" #[] e1):=by simpa using z
   subst z;exact⟨ho1,fD.1,fD.2.1,fD.2.2.1,fun v q=>by cases q⟩
  have I5:Inv X (pins++[(D,seqObj "list" #[] e1)]) σ H { s with heap:=((h1.update D (Obj.mapSeq fun _=>(#[]:Array Value))).push (seqObj "tuple" vs.toArray 0)).push (seqObj "list" #[] 0) }:=I3.kept (t':=s.toks) fun b u q=>Vd _ (Vd _ q)
  refine Va (listItems_at hoL rfl ?_)
  refine Va (listUpdate_at hoL rfl ?_ (by rw[Vn];exact hvz) (Vk _))
  refine Va (seqEpoch_at ho1 rfl ?_)
  refine Va (wpAny_newTuple ?_ (by show vs.length<=_;exact hvz))
  refine Va (wpAny_newList ?_ (Vk _))
  refine wpAny_holding ?_
  show wpAny (model X.prog X.w) _ _ _ _ { s with heap:=((h1.update D (Obj.mapSeq fun _=>(#[]:Array Value))).push (seqObj "tuple" vs.toArray 0)).push (seqObj "list" #[] 0) }
  generalize ((h1.update D (Obj.mapSeq fun _=>(#[]:Array Value))).push (seqObj "tuple" vs.toArray 0)).push (seqObj "list" #[] 0)=h2 at I5
  dsimp only;have tail:∀ {st:SortSt} {out:List Value} {ys:List V},(arrOf st).map (·.2)=List.toArray out->failedOf st=none->Qr ys out->ys.length < 1000->ys.Perm xs->ys.Pairwise (fun a b=>lt b a=false) ->
   wpAny (model X.prog X.w) X.A.in1.in1 (do
    let ep <- seqEpoch D
    Builtin.List.listUpdate (Value.ref D) fun x=>Array.map (fun x=>x.snd) (arrOf st)
    match failedOf st with
    | some e=>do
     rule "list.sort.comparison-raised"
     throw e
     if (ep != e1)=true then do
         rule "list.sort.modified"
         raiseErrorWords "ValueError" "list modified during sort"
         ret Value.none
      else ret Value.none
    | x =>
     if (ep != e1)=true then do
      rule "list.sort.modified"
      raiseErrorWords "ValueError" "list modified during sort"
      ret Value.none
     else ret Value.none)
    (fun fin s'=>∃ v,fin=Fin.done (Flow.ret v)/\wpAny (model X.prog X.w) X.A.in1 (ret (Value.ref D)) (fun fin s'=>∃ v,fin=Fin.done (Flow.ret v)/\EP X pins σ Q v s') X.xe s')
    X.xe { s with heap:=h2 }:=by
   intro st out ys hout hf ro hlo p1 p2;have hD:=(I5.pin (D,seqObj "list" #[] e1) (Vp _ (Vp _ (by simp)))).1
   have s2:=Heap.SameBut.update h2 D (Obj.mapSeq fun _=>List.toArray out)
   obtain⟨c2,hc2⟩:∃ c2,(h2.update D (Obj.mapSeq fun _=>List.toArray out)).get? D=some (seqObj "list" (List.toArray out) c2):=⟨_,get?_update_seq hD fun _=>List.toArray out⟩
   have ho:out.length < 1000:=by rw[<- ro.length];exact hlo
   rw[hout];refine Va (seqEpoch_at hD rfl ?_)
   refine Va (listUpdate_at hD rfl ?_ (Vk _) (by rw[Vn];exact Nat.le_succ_of_le (Vv (Qv (by omega)))))
   rw[hf];simp only[bne_self_eq_false,Bool.false_eq_true,if_false];have I6:Inv X pins σ (upd H D (.lst ys)) { s with heap:=h2.update D (Obj.mapSeq fun _=>List.toArray out) }:=(I5.unpinned).adopt (t':=s.toks) fD (fun b u hb q=>(s2.2 b hb).trans q) ⟨Vv (Qv (by omega)),out,c2,ro,hc2⟩
   exact Vg ⟨_,rfl,Vg ⟨_,rfl,.ref D,_,I6,rfl,h D _ ys ((Qk.refl _).updL fD.1 _) fD.1 Qa p1 p2⟩⟩
  by_cases h2':vs.toArray.size < 2
  ·rw[if_pos h2',if_pos h2']
   refine Va (Vg ?_)
   rw[StateT.run_pure];refine Va (Vg ?_)
   refine tail (st:=SortSt.mk' general' (vs.toArray.zip vs.toArray) #[] 7 none) (out:=vs) ?_ rfl rv (by omega) (List.Perm.refl _) (Jda (by rw[Vn]at h2';omega))
   apply Array.toList_inj.mp
   show(Array.map (·.2) (vs.toArray.zip vs.toArray)).toList=_;rw[Array.toList_map,ksk_zip];show List.map (·.2) (vs.zip vs)=vs;exact map_snd_zip (by omega)
  ·rw[if_neg h2',if_neg h2']
   rw[Vn]at h2';obtain⟨T,hT1,hT⟩:=hK.ty;have mem:∀ v∈vs,∃ x∈xs,Qq x v:=fun v hv=>by
    obtain⟨i,hi,rfl⟩:=mem_iff_getElem.mp hv;obtain⟨u,eu,ru⟩:=rv.get (i:=i) (x:=xs[i]'(by omega)) (Vb _)
    rw[Vb hi]at eu
    cases eu;exact⟨_,getElem_mem _,ru⟩
   refine Va (kas_kind (T:=.type T) (by omega) (fun v hv=>?_) hT1 (by simp) ?_)
   ·obtain⟨x,hx,rx⟩:=mem v hv
    exact Looks.of_pure (hT x hx v rx)
   have hn:0 < xs.length:=by omega
   have at_:∀ i,i < xs.length->Qq (xs.getD i .non) (vs.getD i Value.none)/\xs.getD i .non∈xs:=fun i hi=>by
    obtain⟨u,eu,ru⟩:=rv.get (i:=i) (x:=xs[i]) (Vb _)
    have e1:xs.getD i .non=xs[i]:=by simp[hi]
    have e2:vs.getD i Value.none=u:=by simp[List.getD,eu]
    rw[e1,e2];exact⟨ru,getElem_mem _⟩
   have run:=SortB.Xka (prog:=X.prog) (w:=X.w) (A:=X.A.in1.in1) (E:=X.xe) (κ:=oneType') (ks:=vs) (vs:=vs) (s:={ s with heap:=h2 }) (r:=fun i=>xs.countP (lt · (xs.getD i .non))) rfl (by omega)
    (fun i j C hi hj hC=>by
     rw[<- hlv]at hi hj;rw[hK.swo.rank (at_ i hi).2 (at_ j hj).2]at hC;unfold kas_ask;exact hK.ask _ (at_ i hi).2 _ (at_ j hj).2 _ _ (at_ i hi).1 (at_ j hj).1 _ _ _ _ _ _ hC)
    (fun i j hi hj e=>by
     rw[<- hlv]at hi hj;have r1:=(at_ i hi).1;rw[e]at r1;show xs.countP (lt · (xs.getD i .non))=xs.countP (lt · (xs.getD j .non));rw[Jka r1 (at_ j hj).1])
   rw[<- hlv]at run;refine Va (wpAny_mono run ?_ fun _ _ x=>x)
   rintro⟨⟨⟩,st'⟩ s' ⟨p,har,hf,es,ok,up⟩;subst es;have hout:=kat_snds (ks:=vs) (vs:=vs) rfl har;exact tail hout hf (rv.pick p.toList) (by rw[Vr,Array.length_toList,ok.size];omega) (Qla ok) (Jca hK.swo ok hn up)
end
section
variable{prog:Program}{w:World}{A:Around}{E:YQ_}{s:Shared}{T:String}{r d:Addr}{n:Nat}{P:Nat->Value->Prop}{OK:Heap->Prop}
theorem Xqa{R:Result->Shared->Prop}(K:KdlSrc prog w T r d n P OK)(hh:A.handled=none)(hok:OK s.heap)(hn:n<=sizeLine)
 (hR:∀ h' tk acc c,(∀ b o,s.heap.get? b=some o->h'.get? b=some o)->h'.get? s.heap.objs.size=some { cls:=.type "list",dict:=none,data:=.seq acc c,slots:=#[] }->ItemsOf P acc n->R (.ok (.ret (.ref s.heap.objs.size))) { s with heap:=h',toks:=tk }) :
 codeAny (model prog w) A (.builtin "proto.collect" ⟨[.ref r],[]⟩) R s:=by
 have hlt:=K.there _ hok;refine codeAny_builtin F.entry_proto_collect ?_
 rw[Around.under_plainId F.plain_proto_collect _];show wpAny _ A.in1 (newList [] >>= fun l=>again (.builtin "list.__iadd__" ⟨[l,.ref r],[]⟩)) _ _ s
 refine Va (wpAny_newObj_type ?_)
 refine Vg ⟨plainId_quiet F.plain_list_iadd _,codeAny_builtin F.entry_list_iadd ?_⟩
 rw[Around.under_plainId F.plain_list_iadd _];have hS₁:(s.heap.push { cls:=.type "list",data:=.seq ([]:List Value).toArray }).get? s.heap.objs.size=some { cls:=.type "list",data:=.seq ([]:List Value).toArray }:=Vi _ rfl
 show wpAny _ A.in1 (Builtin.List.listExtendWith (.ref s.heap.objs.size) (.ref r) (.ref s.heap.objs.size)) _ _ _;exact kdl_extend (R:=R) (s:={ s with heap:=s.heap.push { cls:=.type "list",data:=.seq ([]:List Value).toArray } }) K hh (K.keep _ _ hok fun b _ o e=>Vd _ e) _ (Nat.ne_of_gt hlt.1) (Nat.ne_of_gt hlt.2) _ _ hS₁ (fun h' tk acc' c' hk hS' hacc=>hR h' tk acc' c' (fun b o e=>hk b o (Nat.ne_of_lt (Vh e)) (Vd _ e)) hS' hacc) hn
theorem Qub{Q:List Value->Shared->Prop}(K:KdlSrc prog w T r d n P OK)(hh:A.handled=none)(hok:OK s.heap)(hn:n<=sizeLine)
 (hQ:∀ h' tk acc,(∀ b o,s.heap.get? b=some o->h'.get? b=some o)->ItemsOf P acc n->Q acc.toList { s with heap:=h',toks:=tk }):wpAny (model prog w) A (collect (.ref r)) Q E s:=by
 unfold collect;refine Va (wpAny_runValue (Xqa K hh hok hn fun h' tk acc c hk hS hacc=>?_))
 show wpAny _ A (load s.heap.objs.size >>= _) _ _ _;refine Va (wpAny_load hS ?_)
 exact Vg (hQ h' tk acc hk hacc)
end
theorem JKb:∀ {xs:List V} {us:List Value},xs.length=us.length->(∀ (i:Nat) x u,xs[i]?=some x->us[i]?=some u->Qq x u)->Qr xs us
 | [],[],_,_=>.nil
 | x::xs,u::us,l,h=>.cons (h 0 x u rfl rfl) (JKb (by simpa using l) fun i x u a b=>h (i+1) x u (by simpa using a) (by simpa using b))
 | [],u::us,l,_=>by simp at l
 | x::xs,[],l,_=>by simp at l
theorem Ywb{kvs:List (Key×V)}{vs:List (Key×Value)}{acc:Array Value}{prog:Program}{w:World}(rv:KV kvs vs)(h:ItemsOf (fun i v=>∃ k x,vs[i]?=some (k,x)/\(QL prog w).is k v=true) acc vs.length):Qr (kvs.map fun p=>kV p.1) acc.toList:=by
 refine JKb (by have e1:=h.1;have e2:=rv.len;have e3:acc.toList.length=acc.size:=Array.length_toList;rw[Vr];omega) fun i x u hx hu=>?_
 rw[getElem?_map]at hx
 obtain⟨⟨k,v⟩,hkv,rfl⟩:=Option.map_eq_some_iff.mp hx;obtain⟨u',hu',_⟩:=rv.get hkv;obtain⟨k',x',e,hk⟩:=h.2 i u (by rw[<- Array.getElem?_toList];exact hu)
 rw[hu']at e;cases e;exact ZAb hk
def J2c:List V->Hp->VK->Prop:=fun vs H Q=>∃ d kvs lt,vs=[.ref d]/\H d=some (.dK kvs)/\kvs.length < 1000/\ZFa (kvs.map fun p=>kV p.1) lt /\
 ∀ D H' ys,Qk H H'->H D=none->H' D=some (.lst ys)->ys.Perm (kvs.map fun p=>kV p.1)->ys.Pairwise (fun a b=>lt b a=false)->Q (.ref D) H'
theorem Xra{X:Cx}(hh:X.A.handled=none):JY X (.builtin "sorted") J2c:=by
 intro pins s σ H xs us Q I r h;obtain⟨d,kvs,lt,rfl,hd,hl,hK,q⟩:=h;obtain⟨u,rfl,ru⟩:=Qya r;obtain rfl:u=Value.ref d:=ru;obtain⟨z,y,vs,rv,o,es,ep,e0,c1,c2,c3⟩:=(show QA X.prog X.w H s.heap d (.dK kvs) from I.hok d _ hd)
 have da:s.heap.DictAt (QL X.prog X.w) d vs ep:=⟨o,es,e0,c1,c2,c3⟩;refine ZBb I (by rw[Vr];exact Vv (Qv (by omega))) (by rw[Vr];exact hl) hK (fun E R hR=>?_) q
 exact Qub (kdl_dict (knd:=QL X.prog X.w) (ep:=ep) y) hh da (by rw[<- rv.len];exact Vv (Qv (by omega))) fun h' tk acc hk hacc=>hR _ h' tk (Ywb rv hacc) hk
theorem Xv(a:Value):checkTypeCall "set" ⟨[a],[]⟩=pure ():=by kernel_rfl
theorem X9(a:Value):checkBuiltinCall "set.__new__" ⟨[.type "set",a],[]⟩=pure ():=by kernel_rfl
theorem ZT:entryFor table "set.update.loop"=some Builtin.«set.update.loop»:=entryFor_of_tree (by kernel_rfl)
theorem Zh:plainId "set.update.loop"=true:=by decide +kernel
section
variable{prog:Program}{w:World}{A:Around}{E:YQ_}{s:Shared}
theorem J2a(a:Value){Q₁:YQ_}
 (h:∀ led:Bool,Q₁ (.ref s.heap.objs.size) { s with heap:=s.heap.push { cls:=.type "set",dict:=none,data:=.set #[] 0 (.fresh 0 0 led) } }) :
 codeAny (model prog w) A (.call (.builtin "set.__new__") ⟨[.type "set",a],[]⟩) (wants Q₁ E) s:=by
 refine codeAny_of_tree ?_
 show wpAny _ A.in1 (do checkBuiltinCall "set.__new__" ⟨[.type "set",a],[]⟩;again (.builtin "set.__new__" ⟨[.type "set",a],[]⟩)) _ _ s
 refine Va (wpAny_of_eq (X9 a) (Vg ⟨plainId_quiet F.plain_set_new _,codeAny_builtin F.entry_set_new ?_⟩))
 rw[Around.under_plainId F.plain_set_new _];unfold Builtin.«set.__new__» Builtin.Frozenset.newClass;have hsub:=sub_set_self;obtain⟨hp,g,d,tk,os⟩:=s;dsimp only
 wp_walk
 refine wpAny_askSetting (Vg ?_)
 dsimp only;simp only[newObj];refine Va (wpAny_alloc (Vg ?_))
 exact Vg (h _)
end
def QH{K:Type}[DecidableEq K](ks:List K):List K:=ks.foldl (fun acc k=>if k∈acc then acc else acc++[k]) []
theorem Yxb{K:Type}[DecidableEq K](ks:List K)(k:K):k∈QH ks↔k∈ks:=by
 unfold QH
 suffices h:∀ (ks acc:List K),k∈ks.foldl (fun acc k=>if k∈acc then acc else acc++[k]) acc↔k∈acc\/k∈ks by
  rw[h];simp
 intro ks
 induction ks with
 | nil=>intro acc;simp
 | cons x xs ih =>
  intro acc;rw[foldl_cons,ih]
  split <;> rename_i hx
  ·constructor
   ·rintro(h | h)
    ·exact .inl h
    ·exact .inr (Vo _ h)
   ·rintro(h | h)
    ·exact .inl h
    ·rcases mem_cons.mp h with e | h
     ·rw[e];exact .inl hx
     ·exact .inr h
  ·rw[Vl,mem_singleton,mem_cons,or_assoc]
theorem YT{K:Type}[DecidableEq K](ks:List K)(k:K):QH (ks++[k])=if k∈QH ks then QH ks else QH ks++[k]:=by
 unfold QH;rw[foldl_append];rfl
theorem Q8a{K:Type}[DecidableEq K](ks:List K):(QH ks).length<=ks.length:=by
 suffices h:∀ (r p:List K),(QH p).length<=p.length->(QH (p++r)).length<=(p++r).length by exact h ks [] (Ve _)
 intro r
 induction r with
 | nil=>intro p h;rw[append_nil];exact h
 | cons x xs ih =>
  intro p h;have:=ih (p++[x]) (by
   rw[YT]
   split
   ·simp;omega
   ·simp;omega)
  rw[Vq]at this;exact this
theorem ZBa{K:Type}[DecidableEq K]{ks:List K}(h:ks.Nodup):QH ks=ks:=by
 suffices g:∀ (r p:List K),QH p=p->(p++r).Nodup->QH (p++r)=p++r by exact g ks [] rfl h
 intro r
 induction r with
 | nil=>intro p h _;rw[append_nil];exact h
 | cons x xs ih =>
  intro p hp nd;have e:p++x::xs=(p++[x])++xs:=by simp
  rw[e]at nd ⊢;refine ih _ ?_ nd
  rw[YT,hp,if_neg];intro hx;have:=(nodup_append.mp (nodup_append.mp nd).1).2.2 x hx x (by simp)
  exact this rfl
section
variable{prog:Program}{w:World}{K:Type}[DecidableEq K]{knd:KeyKind prog w K}{A:Around}{E:YQ_}{s:Shared}
theorem J3a{it l a:Addr}{vs:List Value}{ks:List K}(hh:A.handled=none)(hl:ks.length=vs.length)(hk:∀ (i:Nat) k v,ks[i]?=some k->vs[i]?=some v->knd.is k v=true/\v.scannable=true)(hb:vs.length+1 < scanBound)(hne:it≠a)(hla:l≠a)(hil:l≠it) :
 ∀ (m i:Nat) (s:Shared) (R:Result->Shared->Prop),m=vs.length - i->i<=vs.length->s.heap.IsListIter it l i->s.heap.IsList l vs.toArray->s.heap.SetOf knd a (fun k=>decide (k∈QH (ks.take i))) (QH (ks.take i)).length ->
  (∀ h' tk,(∀ b o,b≠it->b≠a->s.heap.get? b=some o->h'.get? b=some o)->h'.SetOf knd a (fun k=>decide (k∈QH ks)) (QH ks).length->R (.ok (.ret .none)) { s with heap:=h',toks:=tk }) ->
  codeAny (model prog w) A (.builtin "set.update.loop" ⟨[.ref a,.ref it],[]⟩) R s:=by
 intro m
 induction m with
 | zero =>
  intro i s R hm hi hit hli hS hR;have e:i=vs.length:=by omega
  subst e;refine codeAny_builtin ZT ?_
  rw[Around.under_plainId Zh _];unfold Builtin.«set.update.loop»;dsimp only;refine Va (wpAny_pyNext_list_end hh hit hli (by simp) fun h' eb=>?_)
  dsimp only;rw[take_of_length_le (by omega)]at hS
  refine Vg (hR h' s.toks (fun b o h1 h2 e=>eb b o h1 e) ?_)
  obtain⟨o,es,ep,t,ho,r⟩:=hS;exact⟨o,es,ep,t,eb a o (Ne.symm hne) ho,r⟩
 | succ m ih =>
  intro i s R hm hi hit hli hS hR;have hi':i < vs.length:=by omega
  obtain⟨k,hki⟩:∃ k,ks[i]?=some k:=⟨_,Vb (by omega)⟩
  have hvi:vs[i]?=some vs[i]:=Vb hi'
  obtain⟨hkey,hsc⟩:=hk i k _ hki hvi;refine codeAny_builtin ZT ?_
  rw[Around.under_plainId Zh _];unfold Builtin.«set.update.loop»;dsimp only;refine Va (wpAny_pyNext_list_item hit hli (x:=vs[i]) (by simp[hi']) fun h' hit' sb=>?_)
  dsimp only;have hS':h'.SetOf knd a (fun k=>decide (k∈QH (ks.take i))) (QH (ks.take i)).length:=by
   obtain⟨o,es,ep,t,ho,r⟩:=hS;exact⟨o,es,ep,t,(sb.2 a (Ne.symm hne)).trans ho,r⟩
  have hli':h'.IsList l vs.toArray:=by
   obtain⟨o,ho,r⟩:=hli;exact⟨o,(sb.2 l hil).trans ho,r⟩
  unfold setAdd;refine Va (wpAny_holding (wpAny_holding (Va (knd.pyHash hkey ?_))))
  have hn:(QH (ks.take i)).length+1 < scanBound:=by
   have:=Q8a (ks.take i);rw[length_take]at this
   omega
  refine wpAny_setAddHashed_of (s:={ s with heap:=h',toks:=s.toks+1 }) hkey hsc hS' hn fun h2 sb2 hS2=>?_
  have et:ks.take (i+1)=ks.take i++[k]:=by rw[take_add_one,hki];rfl
  refine Vg ⟨plainId_quiet Zh _,ih (i+1) _ R (by omega) (by omega) ?_ ?_ ?_ fun h3 tk hk3 hS3=>?_⟩
  ·obtain⟨o,ho,r⟩:=hit'
   exact⟨o,(sb2.2 it hne).trans ho,r⟩
  ·obtain⟨o,ho,r⟩:=hli'
   exact⟨o,(sb2.2 l hla).trans ho,r⟩
  ·rw[et,YT]
   by_cases hx:k∈QH (ks.take i)
   ·rw[if_pos hx]
    have e2:(fun k'=>decide (k'∈QH (ks.take i)) || decide (k'=k))=fun k'=>decide (k'∈QH (ks.take i)):=by
     funext k'
     by_cases hx':k'=k
     ·subst hx';simp[hx]
     ·simp[hx']
    rw[decide_eq_true hx,if_pos rfl,e2]at hS2;exact hS2
   ·rw[if_neg hx]
    have e2:(fun k'=>decide (k'∈QH (ks.take i)) || decide (k'=k))=fun k'=>decide (k'∈QH (ks.take i)++[k]):=by
     funext k'
     rw[Bool.eq_iff_iff];simp
    rw[decide_eq_false hx,if_neg Vf,e2]at hS2;rw[Vs];exact hS2
  ·exact hR h3 tk (fun b o h1 h2 e=>hk3 b o h1 h2 ((sb2.2 b h2).trans ((sb.2 b h1).trans e))) hS3
theorem QKa:isSubtype (.type "list") (.type "set")=pure false:=by rw[isSubtype_type];kernel_rfl
theorem Qaa:isSubtype (.type "list") (.type "frozenset")=pure false:=by rw[isSubtype_type];kernel_rfl
theorem Xk{M:Model}{self b:Value}{Q:Unit->Shared->Prop}(hT:s.TypeIs self "set")(hQ:Q () s) :
 wpAny M A (checkBuiltinCall "set.__init__" ⟨[self,b],[]⟩) Q E s:=by
 simp only[checkBuiltinCall,kind_set_init,split_set_init,sig_set_init];refine Va (wpAny_isInstance hT sub_set_self ?_)
 simp only[Bool.not_true,Bool.false_eq_true,if_false];unfold Bind.checkArgs;dsimp only;refine Va (m:=Bind.printed "set" true _ _) (PyProof.Rows.printed_name (by decide) ?_)
 refine Va (m:=Bind.printed "*" false _ _) (PyProof.Rows.printed_star (self:=self) rfl hT fun short=>?_)
 have hrn:(Manifest.Receiver.self == Manifest.Receiver.none)=false:=by decide
 have hn:(if (Manifest.Receiver.self == Manifest.Receiver.none)=true then [self,b].length else [self,b].length - 1)=1:=by simp[hrn]
 rw[hn];simp only[map_nil];have hc:Bind.check ⟨.positional,"set","*",.self,[⟨"iterable",.posOnly,false⟩]⟩ "set" short 1 []=pure ():=by
  simp[Bind.check,Bind.checkCount,Bind.isPositional];exact fun h=>absurd h (by decide)
 rw[hc];exact Vg hQ
theorem J4a{l:Addr}{vs:List Value}{ks:List K}{Q:YQ_}(hh:A.handled=none)(hli:s.heap.IsList l vs.toArray)(hl:ks.length=vs.length)(hk:∀ (i:Nat) k v,ks[i]?=some k->vs[i]?=some v->knd.is k v=true/\v.scannable=true)(hb:vs.length+1 < scanBound)
 (h:∀ h' tk,(∀ b o,s.heap.get? b=some o->h'.get? b=some o)->h'.SetOf knd s.heap.objs.size (fun k=>decide (k∈QH ks)) (QH ks).length->Q (.ref s.heap.objs.size) { s with heap:=h',toks:=tk }) :
 wpAny (model prog w) A (call (.type "set") [.ref l]) Q E s:=by
 obtain⟨c,tl,hmro⟩:=F.called_set.mro;have hmade:=F.called_set.made;have hsub:=F.called_set.sub;refine wpAny_call (codeAny_of_tree ?_)
 show wpAny _ _ (callAny (.type "set") _) _ _ _;refine Vg ⟨Code.quiet_builtin _ (by decide +kernel),codeAny_builtin F.entry_type_call ?_⟩
 rw[Around.under_plain (weight_type_call_type "set" [.ref l] []) rfl];have h1:=F.called_set.notType;have h2:=F.called_set.canCreate;have hct:=Xv (.ref l)
 repeat (any_goals (first | assumption | wp_step))
 refine codeAny_mono (J2a (.ref l) (E:=E) (Q₁:=fun obj s₁=>∃ led:Bool,obj=.ref s.heap.objs.size/\s₁={ s with heap:=s.heap.push { cls:=.type "set",dict:=none,data:=.set #[] 0 (.fresh 0 0 led) } }) fun led=>⟨led,rfl,rfl⟩) fun r s₁ hr=>?_
 cases r with
 | error e=>exact hr
 | ok fl =>
  cases fl with
  | ret obj =>
   obtain⟨led,rfl,rfl⟩:=hr;have hS:(s.heap.push { cls:=.type "set",dict:=none,data:=.set #[] 0 (.fresh 0 0 led) }).get? s.heap.objs.size=some { cls:=.type "set",dict:=none,data:=.set #[] 0 (.fresh 0 0 led) }:=Vi _ rfl
   have hT:Shared.TypeIs { s with heap:=s.heap.push { cls:=.type "set",dict:=none,data:=.set #[] 0 (.fresh 0 0 led) } } (.ref s.heap.objs.size) "set":=⟨_,hS,rfl⟩
   have hli':=F.called_set.init.lookup;have hbi:=F.called_set.init.bind (.ref s.heap.objs.size)
   repeat (any_goals (first | assumption | wp_step))
   refine codeAny_mono (codeAny_call_builtin (R:=wants (fun r s₂=>r=.none/\Q (.ref s.heap.objs.size) s₂) E) F.called_set.init.plain F.entry_set_init (Xk hT ?_)) fun r₂ s₂ hr₂=>?_
   ·unfold Builtin.«set.__init__» noKeywords
    have hlt:l < s.heap.objs.size:=by obtain⟨o,ho,_⟩:=hli;exact Vh ho
    have hl1:(s.heap.push { cls:=.type "set",dict:=none,data:=.set #[] 0 (.fresh 0 0 led) }).IsList l vs.toArray:=by obtain⟨o,ho,r⟩:=hli;exact⟨o,Vd _ ho,r⟩
    have hTl:Shared.TypeIs { s with heap:=s.heap.push { cls:=.type "set",dict:=none,data:=.set #[] 0 (.fresh 0 0 led) } } (.ref l) "list":=hl1.typeIs
    unfold Builtin.Frozenset.updateFrom Builtin.Frozenset.isAnySet
    wp_walk
    refine wpAny_of_eq QKa ?_
    show wpAny _ _ (isInstance (Value.ref l) (Value.type "frozenset")) _ _ _;refine wpAny_isInstance hTl Qaa ?_
    rw[if_neg Vf];refine Va (wpAny_typeOf hTl ?_)
    rw[if_neg (by decide)]
    refine Va (wpAny_pyIter_list hl1 ?_)
    have sz:(s.heap.push { cls:=.type "set",dict:=none,data:=.set #[] 0 (.fresh 0 0 led) }).objs.size=s.heap.objs.size+1:=Heap.size_push ..;refine Va (wpAny_runValue (J3a (knd:=knd) (A:=A.in1.in1) (it:=(s.heap.push { cls:=.type "set",dict:=none,data:=.set #[] 0 (.fresh 0 0 led) }).objs.size) (l:=l) (vs:=vs) (ks:=ks) hh hl hk hb (by rw[sz];exact Nat.succ_ne_self _) (Nat.ne_of_lt hlt) (by rw[sz];exact Nat.ne_of_lt (Nat.lt_succ_of_lt hlt)) _ 0 _ _ rfl (Vk _) ⟨_,Vi _ rfl,rfl,rfl⟩ ?_ ?_ fun h' tk hk' hS'=>?_))
    ·obtain⟨o,ho,r⟩:=hl1
     exact⟨o,Vd _ ho,r⟩
    ·exact⟨_,#[],0,_,Vd _ hS,⟨rfl,rfl,rfl⟩,rfl,fun e he=>by simp at he,fun k=>by simp[QH],by decide,by rfl,rfl⟩
    ·refine Vg (Vg ⟨rfl,h h' tk (fun b o e=>hk' b o ?_ ?_ (Vd _ (Vd _ e))) hS'⟩)
     ·rw[sz];exact Nat.ne_of_lt (Nat.lt_succ_of_lt (Vh e))
     ·exact Nat.ne_of_lt (Vh e)
   ·cases r₂ with
    | error e=>exact hr₂
    | ok fl₂ =>
     cases fl₂ with
     | ret r =>
      obtain⟨rfl,hq⟩:=hr₂
      repeat (any_goals (first | assumption | wp_step))
     | _=>exact hr₂.elim
  | _=>exact hr.elim
end
theorem JLb{k:Key}{u:Value}(h:Qq (kV k) u):X7 k u=true/\u.scannable=true:=by
 cases k with
 | inl n=>obtain⟨t,rfl⟩:=h;exact⟨by simp[X7,Value.isInt],rfl⟩
 | inr z=>obtain⟨t,rfl⟩:=h;exact⟨by simp[X7,Value.isStrOf],rfl⟩
def Y5c{K:Type}[DecidableEq K](l:List K):K->Bool:=fun k=>decide (k∈l)
def YLa(K:W.Frag)(te:TE)(Q:List Key->Hp->Prop):St->Hp->Prop:=fun σ H=>te σ H fun x H1=>∃ l ks,x=.ref l/\SqL K H1 l (ks.map kV)/\ks.length < 4000/\Q ks H1
def YPc(X:Cx)(pins:YP_)(σ:St)(Q:List Key->Hp->Prop)(u:Value)(s:Shared):Prop:=∃ a ks H1,u=.ref a/\Inv X pins σ H1 s/\s.heap.SetOf (QL X.prog X.w) a (Y5c (QH ks)) (QH ks).length/\Q ks H1
section
variable{X:Cx}{e:Expr}{te:TE}{p pos p2 pos2:Pos}{pins:YP_}{σ:St}{H:Hp}{s:Shared}
theorem X6b:bootBuiltins "set"=some (.type "set"):=by rfl
theorem X7b{Q:List Key->Hp->Prop}(he:PE X e te)(hh:X.A.handled=none)(hg:Gl X "set")(hm:X.mg "set"=none)(I:Inv X pins σ H s)(h:YLa X.K te Q σ H)
 (hs:starEach [e] X.env=[(false,eval e X.env)]:=by rfl):wpAny (model X.prog X.w) X.A (eval (.Call (.Name "set" p) [e] [] pos) X.env) (YPc X pins σ Q) X.xe s:=by
 refine wpAny_Call_Name_kw (YG I hg hm X6b ?_ (by decide) (by decide))
 refine PyProof.Rows.callWith_type1 ?_ hs rfl
 rw[hs];show wpAny _ _ (spliced ((false,eval e X.env)::backTo pos [])) _ _ s;refine Calls.spliced_cons (thn (he pins s σ H _ I h) fun u s1 hZ=>?_)
 obtain⟨x,H1,I1,r1,l,ks,ex,hl,hk,q⟩:=hZ;subst ex;obtain rfl:u=Value.ref l:=r1;refine Calls.spliced_nil ?_
 obtain⟨vs,rv,pl,hz⟩:=I1.list hl;have hlv:=rv.length;rw[Vr]at hlv;refine J4a (knd:=QL X.prog X.w) (ks:=ks) hh pl.isList (by omega) (fun i k v h1 h2=>?_) (by show vs.length+1 < 4096;omega) fun h' tk kk hS=>?_
 ·obtain⟨u,hu,ru⟩:=rv.get (i:=i) (x:=kV k) (by rw[getElem?_map,h1];rfl)
  rw[h2]at hu;cases hu;exact JLb ru
 ·exact⟨_,ks,H1,rfl,I1.kept kk,hS,q⟩
def JMb(K:W.Frag)(te:TE):TE:=fun σ H Q=>YLa K te (fun ks H1=>Q (.int (QH ks).length) H1) σ H
theorem Yyb(he:PE X e te)(hh:X.A.handled=none)(hg:Gl X "set")(hm:X.mg "set"=none)(hg2:Gl X "len")(hm2:X.mg "len"=none)(hb:bootBuiltins "len"=some (.builtin "len"))
 (hs:starEach [e] X.env=[(false,eval e X.env)]:=by rfl)
 (hs2:starEach [.Call (.Name "set" p) [e] [] pos] X.env=[(false,eval (.Call (.Name "set" p) [e] [] pos) X.env)]:=by rfl):PE X (.Call (.Name "len" p2) [.Call (.Name "set" p) [e] [] pos] [] pos2) (JMb X.K te):=by
 intro pins s σ H Q I h;refine wpAny_Call_Name_kw (YG I hg2 hm2 hb ?_ (by decide) (by decide))
 refine PyProof.Rows.callWith_builtin1 ?_ hs2 rfl
 rw[hs2];show wpAny _ _ (spliced ((false,eval (.Call (.Name "set" p) [e] [] pos) X.env)::backTo pos2 [])) _ _ s;refine Calls.spliced_cons (thn (X7b he hh hg hm I h hs) fun u s1 hZ=>?_)
 obtain⟨a,ks,H1,eu,I1,hS,q⟩:=hZ;subst eu;refine Calls.spliced_nil ?_
 obtain⟨o,es,ep,t,ho,hex,hd,_,_,hbd,hf,hn⟩:=hS;refine call_len_set ho hex hd hf ?_ ⟨.int (QH ks).length,H1,I1.kept (t':=_) fun b o e=>e,⟨_,by rw[hn]⟩,q⟩
 have:(es.size:Int) < 4096:=by exact Int.ofNat_lt.mpr hbd
 omega
end
section
variable{X:Cx}
theorem X8b{A:Around}{prog:Program}{w:World}{s:Shared}{E:YQ_}{l b:Addr}{items items2:Array Value}{n n2:Nat}{o2:Obj}{Q:Fin->Shared->Prop}(e:s.heap.get? l=some { cls:=.type "list",data:=.seq items n })(e2:s.heap.get? b=some o2)
 (hc:o2.cls=.type "list"\/o2.cls=.type "tuple") (hd:o2.data=.seq items2 n2) (hsz:items.size+items2.size<=sizeLine) (h:Q (.done (.ret .none)) { s with heap:=s.heap.update l (Obj.mapSeq fun x=>x++items2) }) :
 wpAny (model prog w) A (Builtin.«list.extend» ⟨[.ref l,.ref b],[]⟩) Q E s:=by
 have hlong:¬ (!items.isEmpty && Builtin.List.listTooLong (items.size+items2.size))=true:=by
  rw[X5a hsz,Bool.and_false];exact Vf
 show wpAny _ _ (Builtin.List.listExtendWith (.ref l) (.ref b) .none) _ _ s;unfold Builtin.List.listExtendWith
 rcases hc with hc | hc
 all_goals
  refine Va (wpAny_typeOf ⟨o2,e2,hc⟩ ?_)
  rw[if_pos (by simp)]
  refine Va (listItems_at e2 hd ?_)
  refine Va (listItems_at e rfl ?_)
  rw[if_neg hlong];refine Va (listUpdate_at e rfl ?_ (by omega) (by rw[Array.size_append];omega))
  exact Vg h
def Qvb(K:W.Frag):V->List V->Hp->VK->Prop:=fun x vs H Q=>∃ l b xs zs,x=.ref l/\vs=[.ref b]/\H l=some (.lst xs)/\(SqL K H b zs\/SqT K H b zs)/\xs.length+zs.length<=sizeLine/\Q .non (upd H l (.lst (xs++zs)))
theorem Jma:MtM X "list.extend" (Qvb X.K):=by
 intro pins s σ H x vs v us Q I rx rv h;obtain⟨l,b,xs,zs,rfl,rfl,hH,hB,hz,q⟩:=h;cases rx;obtain⟨u,rfl,ru⟩:=rv.one;cases ru;obtain⟨z,its,n,r,hl,e⟩:=I.lstM hH;obtain⟨its2,r2,o2,n2,e2,c2,d2⟩:∃ its2,Qr zs its2/\∃ o2 n2,s.heap.get? b=some o2/\(o2.cls=.type "list"\/o2.cls=.type "tuple")/\o2.data=.seq its2.toArray n2:=by
  rcases hB with hB | hB
  ·obtain⟨its2,r2,p,_⟩:=I.list hB
   obtain⟨o,n2,eo,c,d,_⟩:=p;exact⟨its2,r2,o,n2,eo,.inl c,by first | exact d | assumption⟩
  ·obtain⟨its2,r2,⟨o,eo,c,n2,d⟩,_⟩:=I.tuple hB
   exact⟨its2,r2,o,n2,eo,.inr c,d⟩
 have hl2:=r2.length;refine wpAny_call (codeAny_call_builtin F.slot_list_extend.plain F.entry_list_extend (F.slot_list_extend.check _ _ _ _ _ _ _ _ ⟨_,e,rfl⟩ (F.args_list_extend_2 _ _) ?_))
 refine X8b e e2 c2 d2 (by rw[Vn,Vn];omega) ?_
 refine⟨.non,_,I.lset (its':=its++its2) hH e (by simp) (r.append r2) ?_,rfl,q⟩
 rw[Vs]
 omega
end
section
variable{X:Cx}{c:Expr}{a b:Stmt}{tc:TT}{ta tb:TS1}{pos:Pos}
end
end L2
end
section
namespace L2
open PySem PySem.Spec PyProof.Rows
section
variable{X:Cx}{st b₀:Stmt}{suite:List Stmt}{t1:TS1}{ts:TS}{x n:Str}{D₀ CT:Addr}{np hpos pos:Pos}{i:Nat}
theorem Xsa(h1:PS1 X st t1)(hex:X.ex=[])(hst:X.stack=X.env::X.outer)(hfr:X.env.frame=some X.env.locals)(hg:Gl X x)(hm:X.mg x=some (.ref D₀))(xc:W.XCl X.K D₀ CT)
 (hN:X.N.Nodup) (hi:X.N[i]?=some n) (hk:X.env.scope.names.lookup n=some .local) (hs:∀ ea,X.Ok->PSs (X.held ea []).nox (b₀::suite) ts) (hdb:(x == ("__debug__":Str))=false:=by decide) :
 PS X (.Try [st] [.ExceptHandler (some (.Name x np)) (some n) (b₀::suite) hpos] [] [] pos)
  (fun D σ H=>t1 D σ H fun cls dx H'=>cls=.ref D₀/\∀ ea,H' ea=none->ts (D.gone i) (σ.set i (some (.ref ea))) (upd H' ea (xC ea D₀ dx))):=by
 intro pins s σ H D I h;refine wpAny_Try_except (wpAny_execs_cons (wpAny_mono (h1 pins s σ H D _ I h) (fun f s1 q=>?_) fun ev s1 q=>?_))
 ·cases f with
  | next=>exact wpAny_execs_nil (wpAny_execs_nil q)
  | ret v=>exact q
  | brk=>exact q
  | cont=>exact q
 obtain⟨ea,cls,dx,ch,H',old,rfl,I1,y,o,hsz,n1,n2,rfl,hts⟩:=q;have frm:X.A.frames=some (X.env::X.outer):=by rw[<- hst];exact I1.ok.frames
 have stk:s1.heap.FunFrames X.base (X.env::X.outer):=by rw[<- hst];exact I1.stack
 obtain⟨nm',q',N',bs',sn',sub',ab',col',dd',j0,j1,j2,j3,j5,lk',ok'⟩:=xc.cl;refine JGb (base:=X.base) frm stk hfr (fun b hb=>⟨hsz b hb,I1.hok.fresh hb⟩) y (.inr rfl) fun h2 st2 y2=>?_
 refine Xla (s:={ s1 with heap:=h2 }) (fs:=frs (X.env::X.outer)) (fun b hb=>((st2.funs stk).mem hb).2) y2 fun h3 st3 y3=>?_
 have st:=st2.trans st3;rw[<- hst]at st;have I3:Inv X pins σ H' { s1 with heap:=h3 }:=I1.stayed hex o n1 n2 st
 refine wpAny_handleBy_cons (codeAny_handlers_test (Jp (X:=X.held ea []) (I3.held (ea:=ea) (ps:=[]) fun p hp=>by cases hp) hg hm ?_ hdb)) (by intro z;cases z)
 obtain⟨oe,vs,he,hc,hdx,hd,_,hh⟩:=id y3;refine J0a (I3.kIn _ _ lk') (I3.kIn _ _ lk') he hc (by rw[contains_cons];exact Bool.or_eq_true _ _ |>.mpr (.inr (by decide))) (by simp) (codeAny_handlers_suite_as ?_)
 refine Xla (s:={ s1 with heap:=h3 }) (fs:=frs X.stack) (fun b hb=>(I3.stack.mem hb).2) y3 fun h4 st4 y4=>?_
 have I4:Inv X pins σ H' { s1 with heap:=h4 }:=I3.stayed hex o n1 n2 st4
 obtain⟨oe4,vs4,he4,hc4,hdx4,hd4,_,_⟩:=y4;have nfr:∀ b u va,h4.get? b=some u->u.data=.fields va->b≠X.env.locals:=fun b u va q d=>by
  have st4:h4.FunFrames X.base (X.env::X.outer):=by rw[<- hst];exact I4.stack
  have hno:b∉frs (X.env::X.outer):=fun hm=>by
   obtain⟨_,o2,q2,hn2⟩:=st4.mem hm;rw[q]at q2;cases q2;exact hn2 va d
  rw[Qmb hfr]at hno;exact fun z=>hno (by rw[z];exact mem_cons_self)
 have hok4:=I4.hok;have I5:Inv X pins σ (upd H' ea (xC ea D₀ dx)) { s1 with heap:=h4 }:=I4.track n2 (o.ent _ n1) (nfr _ _ _ he4 hd4) (fun x c q z=>by
  obtain⟨v,oc,ho,hcd⟩:=I4.cell x c q;rw[z]at ho;have ho:h4.get? ea=some oc:=ho;rw[he4]at ho;cases ho;rw[hd4]at hcd;cases hcd) (fun p hp z=>o.pin p hp (by rw[z];exact n1)) (YJc he4 hc4 hdx4 hd4)
 have J5:Inv (X.held ea []).nox pins σ (upd H' ea (xC ea D₀ dx)) { s1 with heap:=h4 }:=(I5.held (ea:=ea) (ps:=[]) fun p hp=>by cases hp).wish _
 refine ZTa (X:=(X.held ea []).nox) J5 hN hi (.inl hk) (v:=.ref ea) rfl (fun s6 J6=>?_) (.inr hk)
 refine wpAny_mono (hs ea I.ok pins s6 _ _ (D.gone i) J6 (hts ea n2)) (fun f s7 z=>?_) fun _ _ z=>False.elim z
 show wpAny _ _ (do bindName X.env n .none;unbindBehindTheSuite X.env n hpos) _ _ _
 have back:∀ {σ':St} {H'':Hp},Inv (X.held ea []).nox pins σ' H'' s7->Inv X pins σ' H'' s7:=fun J=>(Inv.unwish J).unheld I.ok
 cases f with
 | next=>obtain⟨σ',H5,J,q⟩:=z;exact XW (back J) hN hi hk fun s8 J8=>⟨_,H5,J8,q⟩
 | brk=>obtain⟨σ',H5,J,q⟩:=z;exact XW (back J) hN hi hk fun s8 J8=>⟨_,H5,J8,q⟩
 | cont=>obtain⟨σ',H5,J,q⟩:=z;exact XW (back J) hN hi hk fun s8 J8=>⟨_,H5,J8,q⟩
 | ret u=>obtain⟨v,σ',H5,J,r,q⟩:=z;exact XW (back J) hN hi hk fun s8 J8=>⟨v,_,H5,J8,r,q⟩
end
section
variable{X:Cx}{ea:Addr}{qs:YP_}
theorem Jna{e:Expr}{f:Str}{pos:Pos}{ta:TE}(CT:Addr)(he:PE (X.held ea qs).nox e ta)(hb:attributeBase e f X.env (eval e X.env)=eval e X.env):PE (X.held ea qs).nox (.Attribute e f pos) (tXF X.K CT ta f):=Zkc CT he hb
theorem JE(CT:Addr):JY (X.held ea qs).nox (.builtin "isinstance") (Zlc X.K CT):=XSb CT
end
theorem J3c{K:W.Frag}{C CT:Addr}(c:W.XCl K C CT)(hT:YHc K CT W.bmV W.bmV "ValueError.__new__"):W.kitOne K (.ref C) (.ref CT)=some true:=by
 obtain⟨cd,e,m,_⟩:=c.cd;unfold W.kitOne
 split
 ·rfl
 ·have hm:W.mroIn K C (.ref CT)=some true:=by
   unfold W.mroIn;rw[e];show(if cd.mro.isEmpty=true then none else some (cd.mro.contains (.ref CT)))=some true
   rw[m];rw[if_neg (by simp)]
   simp
  obtain⟨nm,q,N,bs,hdct,sn,sub,ab,col,dd,k0,k1,k2,k3,k5,lk,ok,_⟩:=hT.ex;have h1:(W.clsIn K CT).isSome=true:=by unfold W.clsIn;rw[lk];rfl
  have h2:W.typeIn K (.ref CT)=some (.type "type"):=by show(K.lookup CT).map (·.cls)=_;rw[lk];rfl
  unfold W.kitCls;show(if ((W.clsIn K CT).isSome && W.typeIn K (Value.ref CT) == some (Value.type "type"))=true then W.subIn K (Value.ref C) (Value.ref CT) else none)=some true
  rw[h1,h2,if_pos (by rfl)]
  unfold W.subIn;exact hm
end L2
end
section
namespace PySem.W
open PySem
def clI(K:Frag)(C f:Addr):Bool:=(match findCls K (.ref C) (.type "type") "__init__" with | some (.val v)=>v == .ref f | _=>false) && (specialIn K (.ref C) "__getattribute__" == some (some (.builtin "type.__getattribute__")) && readsIn K C (.type "type"))
end PySem.W
namespace L2
open PySem PySem.Spec PyProof.Rows
structure ClI(K:W.Frag)(C f:Addr):Prop where
 sp:W.specialIn K (.ref C) "__getattribute__"=some (some (.builtin "type.__getattribute__"))
 rd:W.readsIn K C (.type "type")=true
 ini:W.findCls K (.ref C) (.type "type") "__init__"=some (.val (.ref f))
theorem ClI.of{K:W.Frag}{C f:Addr}(h:W.clI K C f=true):ClI K C f:=by
 unfold W.clI at h;rw[Bool.and_eq_true,Bool.and_eq_true]at h;obtain⟨a,b,c⟩:=h;refine⟨beq_iff_eq.mp b,c,?_⟩
 split at a
 ·rename_i v e
  rw[e,beq_iff_eq.mp a]
 ·exact(Vf a).elim
def BaI(P:Program)(w:World)(K:W.Frag)(mg:Str->Option Value)(base:Heap)(k:Nat)(x:Str)(sp:Sp):Prop :=
 ∃ C f fd ps,mg x=some (.ref C)/\ClI K C f/\W.keepIn K (.ref f)=true/\QF P w K mg base CX0 k f fd ps sp/\ZQ K fd ps []
section
variable{X:Cx}{x:Str}{sp:Sp}{e:Expr}{es:List Expr}{t:TA}{p pos apos:Pos}{pl:Sem Bool}{j k:Nat}
theorem YMa(G:BaI X.prog X.w X.K X.mg X.base j x sp)(hr:Zd k X.A)(hj:j<=k)(hg:Gl X x)(ha:PA X (e::es) t)(hdb:(x == ("__debug__":Str))=false:=by decide)
 (he:starEach (e::es) X.env=(false,eval e X.env)::starEach es X.env:=by rfl) (hpl:(backTo pos (starEach es X.env)).any (·.1)=false:=by rfl)
 (ht:eval (.Call (.Attribute (.Name x p) "__init__" apos) (e::es) [] pos) X.env=(do
  let ov <- eval (.Name x p) X.env
  standAt apos.atName
  let (f,first) <- holding [ov] (getMethod ov "__init__" pl)
  callWith pos f first (backTo pos (starEach (e::es) X.env)) (backToKw pos (keywordEach [] X.env))):=by rfl) :
 PE X (.Call (.Attribute (.Name x p) "__init__" apos) (e::es) [] pos) (Jmb sp [] E0 t):=by
 obtain⟨C,f,fd,ps,hm,T,kp,F,b⟩:=G;intro pins s σ H Q I h;refine W.methodCall_KW (pl:=pl) (Jp I hg hm ?_ hdb) ht
 refine W.method_cls I.kIn T.sp (W.cls_value I.kIn T.rd T.ini rfl ?_)
 refine W.callWith_K (first:=[]) (h₀:=X.base) I.ok.mod.kin kp (thn (ha pos pins _ σ H _ (I.tok _) h) fun us s1 ⟨vs,H1,I1,r,q⟩=>⟨I1.kIn,?_⟩) he hpl
 rw[nil_append];exact Xbb F (hr.mono hj) b .nil Jsb I1 r q
end
noncomputable instance:DecidableEq Dt:=fun a b=>Classical.propDecidable (a=b)
def hV:V->Bool
 | .int _=>true
 | .str _=>true
 | .non=>true
 | _=>false
mutual
def hD:Dt->Bool
 | .v x=>hV x
 | .t xs=>hDs xs
 | .l _=>false
def hDs:List Dt->Bool
 | []=>true
 | x::xs=>hD x && hDs xs
end
theorem JNb:∀ {xs:List Dt},hDs xs=true->∀ x∈xs,hD x=true
 | [],_,x,h=>nomatch h
 | y::ys,h,x,hx=>by
  unfold hDs at h;rw[Bool.and_eq_true]at h
  rcases mem_cons.mp hx with e | hx
  ·rw[e];exact h.1
  ·exact JNb h.2 x hx
theorem X9b:∀ {xs:List Dt},(∀ x∈xs,hD x=true)->hDs xs=true
 | [],_=>by unfold hDs;rfl
 | y::ys,h=>by
  unfold hDs;rw[h y mem_cons_self,X9b fun x hx=>h x (Vo _ hx)];rfl
mutual
def haD(w:World):Dt->Int
 | .v (.int i)=>hashInt i
 | .v (.str x)=>hashStr w x
 | .v _=>reduceHash 0xFCA86420
 | .t xs=>reduceHash (Builtin.Tuple.tupleHashOf (Xta w xs))
 | .l _=>0
def Xta(w:World):List Dt->List Int
 | []=>[]
 | x::xs=>haD w x::Xta w xs
end
mutual
def drD:Dt->Nat
 | .v _=>1
 | .t xs=>Qma xs+1
 | .l _=>0
def Qma:List Dt->Nat
 | []=>0
 | x::xs=>drD x+Qma xs
end
theorem Q9a(w:World)(y:Dt):∀ xs,Xta w (xs++[y])=Xta w xs++[haD w y]
 | []=>by simp[Xta]
 | x::xs=>by rw[cons_append];unfold Xta;rw[Q9a w y xs];rfl
theorem Zaa(y:Dt):∀ xs,Qma (xs++[y])=Qma xs+drD y
 | []=>by simp[Qma]
 | x::xs=>by
  rw[cons_append];have h1:Qma (x::(xs++[y]))=drD x+Qma (xs++[y]):=by rw[Qma]
  have h2:Qma (x::xs)=drD x+Qma xs:=by rw[Qma]
  rw[h1,h2,Zaa y xs];omega
def JK(h:Heap):Nat->Dt->Value->Prop
 | 0,.v x,u=>hV x=true/\Qq x u
 | 0,.t _,_=>False
 | 0,.l _,_=>False
 | _+1,.v x,u=>hV x=true/\Qq x u
 | n+1,.t ds,u=>∃ (a:Addr) (its:List Value),u=.ref a/\IsTup h a its.toArray/\Paired (fun d v=>JK h n d v) ds its
 | _+1,.l _,_=>False
theorem JK.flat{h:Heap}{n:Nat}{x:V}{u:Value}:JK h n (.v x) u->hV x=true/\Qq x u:=by
 cases n <;> exact id
theorem JK.tup{h:Heap}{n:Nat}{ds:List Dt}{u:Value}(q:JK h n (.t ds) u):∃ m a its,n=m+1/\u=.ref a/\IsTup h a (List.toArray its)/\Paired (fun d v=>JK h m d v) ds its:=by
 cases n with
 | zero=>exact q.elim
 | succ m=>obtain⟨a,its,e,p,r⟩:=q;exact⟨m,a,its,rfl,e,p,r⟩
theorem Qwb{x y:V}{u:Value}(hx:hV x=true)(hy:hV y=true)(r:Qq x u)(q:Qq y u):x=y:=by
 cases x <;> first | exact(Vf hx).elim | skip
 all_goals (cases y <;> first | exact(Vf hy).elim | skip)
 all_goals simp only[Qq]at r q
 all_goals first
  | rfl
  | (obtain⟨t,rfl⟩:=r;obtain⟨t',e⟩:=q;cases e;rfl)
  | (obtain⟨t,rfl⟩:=r;obtain⟨t',e⟩:=q;cases e)
  | (obtain⟨t,rfl⟩:=r;cases q)
  | (subst r;obtain⟨t',e⟩:=q;cases e)
theorem Joa{x:V}{a:Addr}(hx:hV x=true)(r:Qq x (.ref a)):False:=by
 cases x <;> first | exact(Vf hx).elim | skip
 ·cases (show Value.ref a=Value.none from r)
 ·obtain⟨t,e⟩:=r;cases e
 ·obtain⟨t,e⟩:=r;cases e
theorem Yzb{h:Heap}{a:Addr}{xs ys:List Value}(p:IsTup h a xs.toArray)(q:IsTup h a ys.toArray):xs=ys:=by
 obtain⟨o,ho,_,n,hd⟩:=p;obtain⟨o',ho',_,n',hd'⟩:=q;rw[ho]at ho';cases ho';rw[hd]at hd';injection hd' with e _
 injection e
theorem Jpa{α β:Type}{F G:α->β->Prop}(det:∀ a b u,F a u->G b u->a=b):∀ {xs ys:List α} {us:List β},Paired F xs us->Paired G ys us->xs=ys
 | _,_,_,.nil,.nil=>rfl
 | _,_,_,.cons r t,.cons r' t'=>by rw[det _ _ _ r r',Jpa det t t']
theorem JK.inj{h:Heap}:∀ (n m:Nat) (x y:Dt) (u:Value),JK h n x u->JK h m y u->x=y:=by
 intro n
 induction n with
 | zero =>
  intro m x y u p q;cases x with
  | v x =>
   cases y with
   | v y=>obtain⟨a,b⟩:=p;obtain⟨c,d⟩:=q.flat;rw[Qwb a c b d]
   | t ds=>obtain⟨m,a,its,_,rfl,_⟩:=q.tup;exact(Joa p.1 p.2).elim
   | l _=>cases m <;> exact q.elim
  | t _=>exact p.elim
  | l _=>exact p.elim
 | succ n ih =>
  intro m x y u p q;cases x with
  | v x =>
   cases y with
   | v y=>obtain⟨a,b⟩:=p;obtain⟨c,d⟩:=q.flat;rw[Qwb a c b d]
   | t ds=>obtain⟨m,a,its,_,rfl,_⟩:=q.tup;exact(Joa p.1 p.2).elim
   | l _=>cases m <;> exact q.elim
  | t ds =>
   obtain⟨a,its,rfl,p1,r⟩:=p;cases y with
   | v y=>obtain⟨c,d⟩:=q.flat;exact(Joa c d).elim
   | t es =>
    obtain⟨m',a',its',_,e,p2,r2⟩:=q.tup;cases e;have:=Yzb p1 p2;subst this;rw[Jpa (fun a b u h1 h2=>ih m' a b u h1 h2) r r2]
   | l _=>cases m <;> exact q.elim
  | l _=>exact p.elim
theorem JK.keeps{h h':Heap}{e:Addr}{o:Obj}{es ep}(ho:h.get? e=some o)(hd:o.data=.dict es ep)(hs:Heap.SameBut e h h'):∀ (n:Nat) (d:Dt) (u:Value),JK h n d u->JK h' n d u:=by
 intro n
 induction n with
 | zero=>intro d u q;cases d <;> exact q
 | succ n ih =>
  intro d u q;cases d with
  | v x=>exact q
  | l x=>exact q
  | t ds =>
   obtain⟨a,its,rfl,⟨o',ho',hc,m,hd'⟩,r⟩:=q;have hne:a≠e:=by
    intro z;subst z;rw[ho]at ho';cases ho';rw[hd]at hd';exact nomatch hd'
   exact⟨a,its,rfl,⟨o',(hs.2 a hne).trans ho',hc,m,hd'⟩,Paired.mapP r fun d v z=>ih d v z⟩
section
variable{prog:Program}{w:World}{E:YQ_}
theorem Qac{A:Around}{s:Shared}{x:V}{u:Value}{Q:Int->Shared->Prop}(f:hV x=true)(r:Qq x u)(h:Q (haD w (.v x)) { s with toks:=s.toks+drD (.v x) }):wpAny (model prog w) A (pyHash u) Q E s:=by
 have e1:drD (.v x)=1:=by rw[drD]
 rw[e1]at h;cases x <;> first | exact(Vf f).elim | skip
 ·cases (show u=Value.none from r)
  rw[haD]at h;exact W.pyHash_slot (T:="NoneType") rfl F.slot_NoneType_hash F.entry_NoneType_hash (F.args_NoneType_hash_1 _) (beq_builtin_none _) (.inl rfl) (Va (Vg (Va (wpAny_mkInt (Vg ⟨_,_,rfl,h⟩)))))
  all_goals (intros;rename_i z;cases z)
 ·obtain⟨t,rfl⟩:=r
  rw[haD]at h;exact wpAny_pyHash_int h
 ·obtain⟨t,rfl⟩:=r
  rw[haD]at h;exact wpAny_pyHash_str h
theorem J4c:∀ (n:Nat) {A:Around} {s:Shared} {d:Dt} {u:Value} {Q:Int->Shared->Prop},A.units+n < cLine->JK s.heap n d u->Q (haD w d) { s with toks:=s.toks+drD d }->wpAny (model prog w) A (pyHash u) Q E s:=by
 intro n
 induction n with
 | zero =>
  intro A s d u Q hu x h;cases d with
  | v x'=>exact Qac x.1 x.2 h
  | t _=>exact x.elim
  | l _=>exact x.elim
 | succ n ih =>
  intro A s d u Q hu x h;cases d with
  | v x'=>exact Qac x.1 x.2 h
  | l _=>exact x.elim
  | t ds =>
   obtain⟨a,its,rfl,⟨o,ho,hc,m,hd⟩,r⟩:=x;refine W.pyHash_slot (T:="tuple") ⟨o,ho,hc⟩ F.slot_tuple_hash F.entry_tuple_hash (F.args_tuple_hash_1 _) (beq_builtin_none _) (.inr (by omega)) ?_
   show wpAny _ _ (Builtin.Tuple.tupleItemsOf (.ref a) >>= _) _ _ s;refine Va (wpAny_tupleItemsOf ho hd ?_)
   refine Va ?_
   rw[<- Array.forIn_toList];refine wpAny_forIn_list _
    (fun rest (b:Array Int) s'=>∃ done left,ds=done++left/\Paired (fun d v=>JK s.heap n d v) left rest/\b.toList=Xta w done/\s'={ s with toks:=s.toks+Qma done })
    _ ?_ ?_ _ _ ⟨[],ds,rfl,by simpa using r,by simp[Xta],by simp[Qma]⟩
   ·rintro x rest b s' ⟨done,left,rfl,hl,hb,rfl⟩
    cases hl with
    | @cons k _ ks' _ h1 hl' =>
     refine Va (ih (s:={ s with toks:=s.toks+Qma done }) (by show A.units+1+n < _;omega) h1 ?_)
     first
      | exact Vg ⟨done++[k],ks',by simp,hl',by simp[hb,Q9a],by simp[Zaa,Nat.add_assoc]⟩
      | exact Va (Vg (Vg ⟨done++[k],ks',by simp,hl',by simp[hb,Q9a],by simp[Zaa,Nat.add_assoc]⟩))
   ·rintro b s' ⟨done,left,rfl,hl,hb,rfl⟩
    cases hl;rw[append_nil]at h;show wpAny _ _ (retInt (Builtin.Tuple.tupleHashOf b.toList)) _ _ _;rw[hb];refine Va (wpAny_mkInt (Vg ⟨_,_,rfl,?_⟩))
    have e1:haD w (.t done)=reduceHash (Builtin.Tuple.tupleHashOf (Xta w done)):=by rw[haD]
    have e2:drD (.t done)=Qma done+1:=by rw[drD]
    rw[e1,e2]at h;exact h
end
theorem J5c{x y:V}(hx:hV x=true)(hy:hV y=true):eqV x y=decide (Dt.v x=Dt.v y):=by
 have:eqV x y=decide (x=y):=by
  cases x <;> first | exact(Vf hx).elim | skip
  all_goals (cases y <;> first | exact(Vf hy).elim | skip)
  all_goals first | (simp[eqV];done) | (rw[eqV,Bool.eq_iff_iff,beq_iff_eq,decide_eq_true_iff];exact⟨fun e=>by rw[e],fun e=>by injection e⟩)
 rw[this,Bool.eq_iff_iff,decide_eq_true_iff,decide_eq_true_iff];exact⟨fun e=>by rw[e],fun e=>by injection e⟩
theorem ZPa{x:V}(h:hV x=true):Zf x=true:=by
 cases x <;> first | rfl | exact(Vf h).elim
theorem Qbc{ds es:List Dt}{e:Nat->Bool}(he:∀ i,i < ds.length->i < es.length->e i=decide (ds.getD i default=es.getD i default)):((List.range (min ds.length es.length)).all e && (ds.length == es.length))=decide (Dt.t ds=Dt.t es):=by
 rw[Bool.eq_iff_iff,decide_eq_true_iff,Bool.and_eq_true,beq_iff_eq,all_eq_true]
 constructor
 ·rintro⟨h1,h2⟩
  congr 1
  refine ext_getElem h2 fun i a b=>?_
  have:=h1 i (mem_range.mpr (by omega))
  rw[he i a b,decide_eq_true_iff]at this;rw[J0 (Vb a),J0 (Vb b)]at this
  exact this
 ·intro h
  injection h with h
  subst h;refine⟨fun i hi=>?_,rfl⟩
  have:=mem_range.mp hi;rw[he i (by omega) (by omega),decide_eq_true_iff]
theorem QP{α β:Type}{F:α->β->Prop}:∀ {xs:List α} {us:List β} {i:Nat} {x:α} {u:β},Paired F xs us->xs[i]?=some x->us[i]?=some u->F x u
 | _,_,_,_,_,.nil,h,_=>by simp at h
 | _,_,0,_,_,.cons r _,h,h'=>by simp at h h';rw[<- h,<- h'];exact r
 | _,_,i+1,_,_,.cons _ t,h,h'=>QP (i:=i) t (by simpa using h) (by simpa using h')
theorem Y6c:∀ (n:Nat) {A:Around} {s:Shared} {d d':Dt} {u v:Value},A.units+n < cLine->JK s.heap n d u->JK s.heap n d' v->SeqAt.EqAt A s u v (decide (d=d')):=by
 intro n;have flat:∀ {A:Around} {s:Shared} {x y:V} {u v:Value},hV x=true->Qq x u->hV y=true->Qq y v->SeqAt.EqAt A s u v (decide (Dt.v x=Dt.v y)):=fun f r f' r'=>by
  rw[<- J5c f f'];exact ZZa r r' (ZPa f) (ZPa f')
 induction n with
 | zero =>
  intro A s d d' u v hu p q;cases d with
  | v x =>
   cases d' with
   | v y=>exact flat p.1 p.2 q.1 q.2
   | t _=>exact q.elim
   | l _=>exact q.elim
  | t _=>exact p.elim
  | l _=>exact p.elim
 | succ n ih =>
  intro A s d d' u v hu p q;have hu0:A.units < cLine:=by omega
  cases d with
  | l _=>exact p.elim
  | v x =>
   cases d' with
   | l _=>exact q.elim
   | v y=>exact flat p.1 p.2 q.1 q.2
   | t es =>
    obtain⟨b,its',rfl,p2,r2⟩:=q;obtain⟨f,r⟩:=p;rw[show decide (Dt.v x=Dt.t es)=false from decide_eq_false (fun z=>nomatch z)]
    cases x <;> first | exact(Vf f).elim | skip
    ·cases (show u=Value.none from r);exact .none_tuple p2 hu0
    ·obtain⟨t,rfl⟩:=r;exact .int_tuple _ _ p2 hu0
    ·obtain⟨t,rfl⟩:=r;exact .str_tuple _ _ p2 hu0
  | t ds =>
   obtain⟨a,its,rfl,p1,r1⟩:=id p;cases d' with
   | l _=>exact q.elim
   | v y =>
    obtain⟨f,r⟩:=q;rw[show decide (Dt.t ds=Dt.v y)=false from decide_eq_false (fun z=>nomatch z)]
    cases y <;> first | exact(Vf f).elim | skip
    ·cases (show v=Value.none from r);exact .tuple_none p1 hu0
    ·obtain⟨t,rfl⟩:=r;exact .tuple_int _ _ p1 hu0
    ·obtain⟨t,rfl⟩:=r;exact .tuple_str _ _ p1 hu0
   | t es =>
    obtain⟨b,its',rfl,p2,r2⟩:=id q
    by_cases ab:a=b
    ·subst ab
     rw[show decide (Dt.t ds=Dt.t es)=true from decide_eq_true (JK.inj _ _ _ _ _ p q)]
     exact .same _
    ·have l1:=Paired.length r1
     have l2:=Paired.length r2;have z:=SeqAt.RcAt.tuples (A:=A) (e:=fun i=>decide (ds.getD i default=es.getD i default)) p1 p2 hu0 fun j h1 h2=>by
      have j1:j < its.length:=by simpa using h1
      have j2:j < its'.length:=by simpa using h2
      have g1:ds[j]?=some (ds[j]'(by omega)):=Vb _
      have g2:es[j]?=some (es[j]'(by omega)):=Vb _
      have w1:=QP r1 g1 (Vb j1)
      have w2:=QP r2 g2 (Vb j2)
      rw[J0 g1,J0 g2];exact ih (A:=A.in1) (by show A.units+1+n < _;omega) w1 w2
     rw[Vn,Vn,<- l1,<- l2,Qbc fun i _ _=>rfl]at z
     exact .of_refs ab z
section
variable{prog:Program}{w:World}{E:YQ_}
theorem JOb{A:Around}{s:Shared}{x:V}{u:Value}{m:Nat}{Q:Bool->Shared->Prop}(f:hV x=true)(r:Qq x u)(h:Q true s):wpAny (model prog w) A (eqIsQuiet m u) Q E s:=by
 have:carriedByValue u=true:=by
  cases x <;> first | exact(Vf f).elim | skip
  ·cases (show u=Value.none from r);rfl
  ·obtain⟨t,rfl⟩:=r;rfl
  ·obtain⟨t,rfl⟩:=r;rfl
 rw[eqIsQuiet_byValue _ this];exact Vg h
theorem Zrc:∀ (n m:Nat) {A:Around} {s:Shared} {d:Dt} {u:Value} {Q:Bool->Shared->Prop},n<=m->JK s.heap n d u->Q true s->wpAny (model prog w) A (eqIsQuiet m u) Q E s:=by
 intro n
 induction n with
 | zero =>
  intro m A s d u Q _ p h;cases d with
  | v x=>exact JOb p.1 p.2 h
  | t _=>exact p.elim
  | l _=>exact p.elim
 | succ n ih =>
  intro m A s d u Q hm p h;cases d with
  | v x=>exact JOb p.1 p.2 h
  | l _=>exact p.elim
  | t ds =>
   obtain⟨k,rfl⟩:∃ k,m=k+1:=⟨m - 1,by omega⟩
   obtain⟨a,its,rfl,⟨o,ho,hc,j,hd⟩,r⟩:=p;have hT:s.TypeIs (.ref a) "tuple":=⟨o,ho,hc⟩;unfold eqIsQuiet;refine Va (wpAny_specialOf hT F.slot_tuple_eq.lookup ?_)
   show wpAny _ _ (isInstance (.ref a) (.type "tuple") >>= _) _ _ s;refine Va (wpAny_isInstance hT isSubtype_tuple_tuple ?_)
   simp only[Bool.not_true,Bool.false_eq_true,if_false];refine Va (wpAny_seqItems ho hd ?_)
   refine Va ?_
   show wpAny _ _ (forIn its.toArray _ _) _ _ s;rw[<- Array.forIn_toList];refine wpAny_forIn_list _ (fun rest r s'=>r.1=none/\s'=s/\∃ left,Paired (fun d v=>JK s.heap n d v) left rest) _ ?_ ?_ _ _ ⟨rfl,rfl,ds,by simpa using r⟩
   ·rintro v rest r s' ⟨hr,rfl,left,hl⟩
    cases hl with
    | cons h1 hl' =>
     refine Va (ih k (by omega) h1 ?_)
     simp only[Bool.not_true,Bool.false_eq_true,if_false];exact Vg ⟨rfl,rfl,_,hl'⟩
   ·rintro⟨r1,r2⟩ s' ⟨hr,rfl,_⟩
    simp only at hr;subst hr;exact Vg h
end
noncomputable def Yu (prog:Program) (w:World):HeapKind prog w Dt where
 is:=fun h d a=>JK h 8 d (.ref a)
 hash:=haD w
 draws:=drD
 room:=fun A=>A.units+8 < cLine
 inj:=fun p q=>JK.inj _ _ _ _ _ p q
 keeps:=fun p ho hd hs=>JK.keeps ho hd hs _ _ _ p
 pyHash:=fun hu p h=>J4c 8 hu p h
 eqBool:=fun hu p q h=>Y6c 8 hu p q _ _ _ _ h
 quiet:=fun p h=>Zrc 8 8 (Ve _) p h
end L2
end
section
namespace PySem
theorem Zba{α β:Type}(f:α->β):∀ (xs:List α) (i:Nat),(xs.map f).eraseIdx i=(xs.eraseIdx i).map f
 | [],_=>by simp
 | x::xs,0=>by simp
 | x::xs,i+1=>by simp[Zba f xs i]
section
variable{prog:Program}{w:World}{K:Type}[DecidableEq K]{knd:HeapKind prog w K}{A:Around}{E:YQ_}{s:Shared}
theorem Qna{d a:Addr}{xs:List (K×Addr×Value)}{k:K}{j:Nat}{p:Addr×Value}{Q:Option DictEntry->Shared->Prop}(hu:knd.room A)(hkey:knd.is s.heap k a)(hm:s.heap.DictOfH knd d xs)(hj:xs[j]?=some (k,p))(hsz:xs.length<=sizeLine)
 (hQ:∀ h',h'.DictOfH knd d (xs.eraseIdx j)->Heap.SameBut d s.heap h'->Q (some (entryOfKey knd (k,p))) { s with heap:=h',toks:=s.toks+knd.draws k }) :
 wpAny (model prog w) A (Builtin.Dict.takeOut d (.ref a)) Q E s:=by
 obtain⟨o,es,ep,ho,hc,hd,he,his,hn⟩:=hm;unfold Builtin.Dict.takeOut
 try with_reducible refine wpAny_holding ?_
 refine Va (knd.pyHash hu hkey (Va (wpAny_dictFind_heap (s:={ s with toks:=s.toks+knd.draws k }) hu hkey ho hd he his hn ?_ ?_)))
 ·intro hno;exact absurd hj (hno j p)
 ·intro i q hi
  have e:=idxH_unique hn hi hj;subst e;refine Va (wpAny_dictEntries (s:={ s with toks:=s.toks+knd.draws k }) ho hd ?_)
  rw[entry_at he i,hj];refine Va (wpAny_updateDictKeys (hz:=by have e:=size_of_entries he;omega) (s:={ s with toks:=s.toks+knd.draws k }) ho hd (Vg (hQ _ ⟨_,_,ep+1,Heap.get?_update_self _ ho (Obj.isFreed_of_dict (Obj.data_mapDictKeys hd _)),
   hc.mapDictKeys _,Obj.data_mapDictKeys hd _,?_,?_,?_⟩ (Heap.SameBut.update ..))))
  ·obtain⟨l⟩:=es
   have he:l=xs.map (entryOfKey knd):=he;subst he;simp[Zba]
  ·intro x hx
   exact knd.keeps (his x (mem_of_mem_eraseIdx hx)) ho hd (Heap.SameBut.update ..)
  ·exact List.Nodup.sublist ((eraseIdx_sublist ..).map _) hn
theorem ZGa(knd:HeapKind prog w K)(d a:Addr) :
 MeetsIn prog w (Builtin.«dict.pop» ⟨[.ref d,.ref a],[]⟩) (fun A R s=>knd.room A.in1/\∃ k xs j p,knd.is s.heap k a/\s.heap.DictOfH knd d xs/\xs.length<=sizeLine/\xs[j]?=some (k,p) /\
  ∀ h',h'.DictOfH knd d (xs.eraseIdx j)->Heap.SameBut d s.heap h'->R (.ok (.ret p.2)) { s with heap:=h',toks:=s.toks+knd.draws k }) :=
 .of_wp fun A R s ⟨hu,k,xs,j,p,hkey,hm,hsz,hj,h⟩=>by
  unfold Builtin.«dict.pop»;refine Va ?_
  unfold Builtin.Dict.keyAndDefault;refine Va (wpAny_notOrdered_dict hm.typeIs ?_)
  show wpAny _ _ (pure (d,Value.ref a,none)) _ _ s;refine Vg ?_
  have kp:(keyPart (Value.ref a)).isSome=false:=rfl;simp only[kp,Bool.false_eq_true,if_false];obtain⟨o,es,ep,ho,hc,hd,he,r⟩:=id hm;have ne:es.isEmpty=false:=by
   have e:=size_of_entries he;have:j < xs.length:=(Vc.mp hj).1
   simp[Array.isEmpty];intro z;rw[z]at e;simp at e;omega
  refine Va (wpAny_dictEntries ho hd ?_)
  refine Va (Vg ?_)
  rw[ne];simp only[Bool.false_eq_true,if_false];refine Va (Qna hu hkey hm hj hsz fun h' hm' hs'=>?_)
  simp only[Option.isNone_some,Bool.false_eq_true,if_false];exact Va (wpAny_letGo (Vg ⟨_,rfl,h h' hm' hs'⟩))
end
end PySem
namespace L2
open PySem PySem.Spec PyProof.Rows
abbrev NX:=List (Dt×Addr×V)
def NKV:NX->List (Dt×Addr×Value)->Prop:=Paired fun p q=>p.1=q.1/\p.2.1=q.2.1/\Qq p.2.2 q.2.2
def isN(P:Program)(w:World)(a:Addr)(xs:NX)(h:Heap):Prop:=xs.length<=sizeLine/\(a == sysModules)=false/\∃ ys,NKV xs ys/\∃ o es ep,h.get? a=some o/\o.ExactDict/\o.data=.dict es ep/\es.toList=ys.map (entryOfKey (Yu P w))/\(ys.map (·.1)).Nodup
def dN(P:Program)(w:World)(a:Addr)(xs:NX):HO:=.ext (isN P w a xs)
structure Xw(P:Program)(w:World)(K:W.Frag)(H:Hp)(a:Addr)(xs:NX):Prop where
 at_:H a=some (dN P w a xs)
 keys:∀ x∈xs,Rep K H 8 x.1 (.ref x.2.1)/\hD x.1=true
noncomputable def Qoa (xs:NX) (d:Dt):Option V:=(xs.find? fun x=>decide (x.1=d)).map (·.2.2)
theorem YNa{α β:Type}{F:α->β->Prop}:∀ {xs:List α} {us:List β},xs.length=us.length->(∀ (i:Nat) x u,xs[i]?=some x->us[i]?=some u->F x u)->Paired F xs us
 | [],[],_,_=>.nil
 | [],_::_,h,_=>by simp at h
 | _::_,[],h,_=>by simp at h
 | x::xs,u::us,h,f=>.cons (f 0 _ _ rfl rfl) (YNa (by simpa using h) fun i a b ha hb=>f (i+1) a b (by simpa using ha) (by simpa using hb))
theorem Jqa{P:Program}{w:World}{a:Addr}{xs:NX}(h1 h2:Heap)(p:isN P w a xs h1)(k:∀ o,h1.get? a=some o->h2.get? a=some o):isN P w a xs h2:=by
 obtain⟨z,y,ys,r,o,es,ep,e,c⟩:=p;exact⟨z,y,ys,r,o,es,ep,k o e,c⟩
section
variable{X:Cx}{pins:YP_}{σ:St}{H:Hp}{s:Shared}{a b:Addr}{xs:NX}{d:Dt}
theorem Rep.has(I:Inv X pins σ H s){n:Nat}{x:V}(r:Rep X.K H n d x):∀ {u:Value},hD d=true->Qq x u->JK s.heap n d u:=by
 induction r with
 | @v n x f =>
  intro u h r;rw[hD]at h;cases n <;> exact⟨h,r⟩
 | t h e r1 ih =>
  intro u hh r;cases (show u=Value.ref _ from r)
  rw[hD]at hh;obtain⟨its,w1,p,_⟩:=I.tuple h;have l1:=w1.length;refine⟨_,its,rfl,p,YNa (by omega) fun i d u hd hu=>?_⟩
  have hi:=(Vc.mp hu).1
  obtain⟨u',e',r'⟩:=w1.get (i:=i) (Vb (by omega))
  rw[hu]at e';cases e';exact ih i d _ hd (Vb (by omega)) (JNb hh d (Vm hd)) r'
 | l h e _ _ =>
  intro u hh _;rw[hD]at hh;exact(Vf hh).elim
theorem Xw.dict(I:Inv X pins σ H s)(g:Xw X.prog X.w X.K H a xs):xs.length<=sizeLine/\(a == sysModules)=false/\∃ ys,NKV xs ys/\s.heap.DictOfH (Yu X.prog X.w) a ys:=by
 obtain⟨⟨z,y,ys,r,o,es,ep,h1,h2,h3,h4,h5⟩,_,_⟩:=(show QA X.prog X.w H s.heap a (dN X.prog X.w a xs) from I.hok a _ g.at_)
 refine⟨z,y,ys,r,o,es,ep,h1,h2,h3,h4,fun q hq=>?_,h5⟩
 obtain⟨i,hi⟩:=mem_iff_getElem?.mp hq;have l:=Paired.length r;have hp:xs[i]?=some (xs[i]'(by have:=(Vc.mp hi).1;omega)):=Vb _
 have z:=QP r hp hi;rw[<- z.1,<- z.2.1];have k:=g.keys _ (Vm hp);exact k.1.has I k.2 rfl
theorem NKV.val{xs:NX}{ys:List (Dt×Addr×Value)}(r:NKV xs ys)(d:Dt):JS (Qoa xs d) ((atKey ys d).map (·.2)):=by
 induction r with
 | nil=>exact True.intro
 | @cons p q ps qs hq t ih =>
  unfold Qoa atKey;rw[find?_cons,find?_cons,<- hq.1]
  by_cases e:p.1=d
  ·rw[decide_eq_true e];exact hq.2.2
  ·rw[decide_eq_false e];exact ih
theorem NKV.none{xs:NX}{ys:List (Dt×Addr×Value)}(r:NKV xs ys){d:Dt}(h:Qoa xs d=none):atKey ys d=none:=by
 have:=r.val d;rw[h]at this;cases e:atKey ys d with
 | none=>rfl
 | some p=>rw[e]at this;exact this.elim
theorem NKV.some{xs:NX}{ys:List (Dt×Addr×Value)}(r:NKV xs ys){d:Dt}:(Qoa xs d).isSome=(atKey ys d).isSome:=by
 have:=(r.val d).isSome_eq;rw[Option.isSome_map]at this;exact this
variable{A:Around}{E:YQ_}
theorem Y7c{Q:YQ_}(hu:A.units+9 < cLine)(I:Inv X pins σ H s)(g:Xw X.prog X.w X.K H a xs)(r:Rep X.K H 8 d (.ref b))(hd:hD d=true)(h:∀ s',Inv X pins σ H s'->Q (.bool (Qoa xs d).isSome) s') :
 wpAny (model X.prog X.w) A (compareOp .In (.ref b) (.ref a)) Q E s:=by
 obtain⟨z,y,ys,rel,dd⟩:=g.dict I;refine wpAny_in_heap (knd:=Yu X.prog X.w) (show A.units+1+8 < cLine by omega) (r.has I hd rfl) y dd ?_
 rw[<- rel.some];exact h _ (I.tok _)
theorem YQc{v:V}{Q:YQ_}(hu:A.units+9 < cLine)(I:Inv X pins σ H s)(g:Xw X.prog X.w X.K H a xs)(r:Rep X.K H 8 d (.ref b))(hd:hD d=true)(l:Qoa xs d=some v)(h:∀ w' s',Inv X pins σ H s'->Qq v w'->Q w' s') :
 wpAny (model X.prog X.w) A (getItem (.ref a) (.ref b)) Q E s:=by
 obtain⟨z,y,ys,rel,dd⟩:=g.dict I;obtain⟨w',hw,rw'⟩:=JS.some_of (v:=v) (o:=(atKey ys d).map (·.2)) (by rw[<- l];exact rel.val d)
 obtain⟨p,hp,hp2⟩:=Option.map_eq_some_iff.mp hw;refine wpAny_getItem_heap (knd:=Yu X.prog X.w) (show A.units+1+8 < cLine by omega) (r.has I hd rfl) dd hp ?_
 rw[hp2];exact h w' _ (I.tok _) rw'
theorem YRc{v:V}{u:Value}{Q:Unit->Shared->Prop}(hu:A.units+9 < cLine)(I:Inv X pins σ H s)(g:Xw X.prog X.w X.K H a xs)(r:Rep X.K H 8 d (.ref b))(hd:hD d=true)(l:Qoa xs d=none)(hl:xs.length < sizeLine)(rv:Qq v u)
 (h:∀ s',Inv X pins σ (upd H a (dN X.prog X.w a (xs++[(d,b,v)]))) s'->Q () s'):wpAny (model X.prog X.w) A (setItem (.ref a) (.ref b) u) Q E s:=by
 obtain⟨z,y,ys,rel,dd⟩:=g.dict I;refine wpAny_setItem_heap (knd:=Yu X.prog X.w) (hsz:=by rw[<- Paired.length rel];exact z) (show A.units+1+8 < cLine by omega) (r.has I hd rfl) dd fun h' dd' hs=>h _ ?_
 obtain⟨q,es,ep,hq,h2,h3,h4,_,h5⟩:=dd';rw[storedH_new (rel.none l)]at h4 h5;refine QEa I (by rw[g.at_];exact True.intro) hs ⟨q,hq⟩ ⟨⟨by rw[Vs];exact hl,y,_,Paired.snoc rel ⟨rfl,rfl,rv⟩,q,es,ep,hq,h2,h3,h4,h5⟩,⟨q,hq⟩,Jqa⟩
theorem QLa{α β:Type}{F:α->β->Prop}:∀ {xs:List α} {us:List β} (j:Nat),Paired F xs us->Paired F (xs.eraseIdx j) (us.eraseIdx j)
 | _,_,_,.nil=>.nil
 | _,_,0,.cons _ t=>t
 | _,_,j+1,.cons r t=>.cons r (QLa j t)
theorem YSc{v:V}{c:Addr}{j:Nat}{Q:YQ_}(hu:A.units+9 < cLine)(I:Inv X pins σ H s)(g:Xw X.prog X.w X.K H a xs)(r:Rep X.K H 8 d (.ref b))(hd:hD d=true)(l:xs[j]?=some (d,c,v))
 (h:∀ w' s',Inv X pins σ (upd H a (dN X.prog X.w a (xs.eraseIdx j))) s'->Qq v w'->Q w' s'):wpAny (model X.prog X.w) A (call (.builtin "dict.pop") [.ref a,.ref b]) Q E s:=by
 obtain⟨z,y,ys,rel,dd⟩:=g.dict I;have ll:=Paired.length rel;have hj:=(Vc.mp l).1
 have e:ys[j]?=some (ys[j]'(by omega)):=Vb _
 obtain⟨e1,e2,e3⟩:=QP rel l e;have e':ys[j]?=some (d,(ys[j]'(by omega)).2):=by rw[e];congr 1;rw[show d=(ys[j]'(by omega)).1 from e1]
 refine call_meetsIn F.slot_dict_pop dd.typeIs F.entry_dict_pop (F.args_dict_pop_2 _ _) (ZGa (Yu X.prog X.w) a b) ⟨show A.units+1+8 < cLine by omega,d,ys,j,_,r.has I hd rfl,dd,by rw[<- ll];exact z,e',fun h' dd' hs=>h _ _ ?_ e3⟩
 obtain⟨q,es,ep,hq,h2,h3,h4,_,h5⟩:=dd';exact QEa I (by rw[g.at_];exact True.intro) hs ⟨q,hq⟩ ⟨⟨Vj (length_eraseIdx_le ..) z,y,_,QLa j rel,q,es,ep,hq,h2,h3,h4,h5⟩,⟨q,hq⟩,Jqa⟩
theorem Xw.typeIs(I:Inv X pins σ H s)(g:Xw X.prog X.w X.K H a xs):s.TypeIs (.ref a) "dict":=let ⟨_,_,_,_,dd⟩:=g.dict I;dd.typeIs
theorem Xw.noDict(I:Inv X pins σ H s)(g:Xw X.prog X.w X.K H a xs):∀ b,Value.ref a=.ref b->∃ ob,s.heap.get? b=some ob/\ob.dict=none:=fun b q=>by
 cases q;obtain⟨_,_,_,_,ob,_,_,h1,h2,_⟩:=g.dict I;exact⟨ob,h1,h2.2.1⟩
end
def YTc(P:Program)(w:World)(K:W.Frag)(ty td:TE):TE:=fun σ H Q=>ty σ H fun y H1=>td σ H1 fun x H2=>∃ a b xs d,x=.ref a/\y=.ref b/\Xw P w K H2 a xs/\Rep K H2 8 d (.ref b)/\hD d=true/\Q (.bl (Qoa xs d).isSome) H2
def Z7c(P:Program)(w:World)(K:W.Frag)(td ty:TE):TE:=fun σ H Q=>td σ H fun x H1=>ty σ H1 fun y H2=>∃ a b xs d v,x=.ref a/\y=.ref b/\Xw P w K H2 a xs/\Rep K H2 8 d (.ref b)/\hD d=true/\Qoa xs d=some v/\Q v H2
def Z8c(P:Program)(w:World)(K:W.Frag)(td ty tv:TE):TS:=fun D σ H=>tv σ H fun v H1=>td σ H1 fun x H2=>ty σ H2 fun y H3=>∃ a b xs d,x=.ref a/\y=.ref b/\Xw P w K H3 a xs/\Rep K H3 8 d (.ref b)/\hD d=true/\Qoa xs d=none/\xs.length < sizeLine/\D.nx σ (upd H3 a (dN P w a (xs++[(d,b,v)])))
def Z9c(P:Program)(w:World)(K:W.Frag)(td ty:TE):TE:=fun σ H Q=>td σ H fun x H1=>∃ a xs0,x=.ref a/\Xw P w K H1 a xs0/\ty σ H1 fun y H2=>∃ b xs d j c v,y=.ref b/\Xw P w K H2 a xs/\Rep K H2 8 d (.ref b)/\hD d=true/\xs[j]?=some (d,c,v)/\Q v (upd H2 a (dN P w a (xs.eraseIdx j)))
def Jac(P:Program)(w:World):TE:=fun _ H Q=>∀ p,H p=none->Q (.ref p) (upd H p (dN P w p []))
section
variable{X:Cx}{o i e value:Expr}{pos pos' apos cpos:Pos}{td ty tv:TE}
theorem J6c(hu:X.A.units+9 < cLine)(hi:PE X i ty)(ho:PE X o td):PC X .In i o (YTc X.prog X.w X.K ty td):=by
 intro pins s σ H Q I h;refine thn (hi pins s σ H _ I h) fun iv s1 ⟨y,H1,I1,ry,q1⟩=>thn (ho pins s1 σ H1 _ I1 q1) fun u s2 hZ=>?_
 obtain⟨x,H2,I2,rx,a,b,xs,d,ex,ey,g,r,hd,q2⟩:=hZ;subst ex ey;obtain rfl:u=Value.ref a:=rx;obtain rfl:iv=Value.ref b:=ry;exact Y7c hu I2 g r hd fun s3 I3=>⟨.bl (Qoa xs d).isSome,H2,I3,rfl,q2⟩
theorem Zsc(hu:X.A.units+9 < cLine)(ho:PE X o td)(hi:PE X i ty)(hs:Jyc i):PE X (.Subscript o i pos) (Z7c X.prog X.w X.K td ty):=by
 intro pins s σ H Q I h;refine Jtb F.slot_dict_getitem.lookup hs (thn (ho pins s σ H _ I h) fun u s1 ⟨x,H1,I1,rx,q1⟩=>thn (hi pins s1 σ H1 _ I1 q1) fun iv s2 hZ=>?_)
 obtain⟨y,H2,I2,ry,a,b,xs,d,v,ex,ey,g,r,hd,l,q2⟩:=hZ;subst ex ey;obtain rfl:u=Value.ref a:=rx;obtain rfl:iv=Value.ref b:=ry;exact⟨g.typeIs I2,YQc hu I2 g r hd l fun w' s3 I3 rw'=>⟨v,H2,I3,rw',q2⟩⟩
theorem Ztc(hu:X.A.units+9 < cLine)(ho:PE X o td)(hi:PE X i ty)(hv:PE X value tv)(hs:swapsWith value (some (.Subscript o i pos')) pos.line X.env=pure false) :
 PS X (.Assign [.Subscript o i pos'] value pos) (Z8c X.prog X.w X.K td ty tv):=by
 intro pins s σ H D I h;refine wpAny_Assign_Subscript (thn (hv pins s σ H _ I h) fun r s1 ⟨v,H1,I1,rv,q1⟩=>thn (ho pins s1 σ H1 _ I1 q1) fun u s2 ⟨x,H2,I2,rx,q2⟩=>thn (hi pins s2 σ H2 _ I2 q2) fun iv s3 hZ=>?_) hs
 obtain⟨y,H3,I3,ry,a,b,xs,d,ex,ey,g,rp,hd,l,hl,q3⟩:=hZ;subst ex ey;obtain rfl:u=Value.ref a:=rx;obtain rfl:iv=Value.ref b:=ry;exact YRc hu I3 g rp hd l hl rv fun s4 I4=>⟨σ,_,I4,q3⟩
theorem Zuc(hu:X.A.units+9 < cLine)(ho:PE X o td)(he:PE X e ty)(m:M1 X o "pop" apos e cpos):PE X (.Call (.Attribute o "pop" apos) [e] [] cpos) (Z9c X.prog X.w X.K td ty):=by
 intro pins s σ H Q I h;refine wpAny_Call_method m.base m.few m.line F.plainAttrs_dict F.slot_dict_pop F.type_dict_pop (thn (ho pins s σ H _ I h) fun u s1 hZ=>?_)
 obtain⟨x,H1,I1,rx,a,xs0,ex,g0,q1⟩:=hZ;subst ex;obtain rfl:u=Value.ref a:=rx;refine⟨g0.typeIs I1,g0.noDict I1,?_⟩
 rw[m.trees];refine Calls.callWith_builtin rfl (Calls.evalArgs_plain (Calls.spliced_cons (thn (he pins s1 σ H1 _ I1 q1) fun iv s2 hZ=>?_)))
 obtain⟨y,H2,I2,ry,b,xs,d,j,c,v,ey,g,r,hd,l,q2⟩:=hZ;refine Calls.spliced_nil ?_
 subst ey;obtain rfl:iv=Value.ref b:=ry;exact YSc hu I2 g r hd l fun w' s3 I3 rw'=>⟨v,_,I3,rw',q2⟩
theorem Qcc{P:Program}{w:World}{H:Hp}(h:Heap)(hb:sysModules < h.objs.size):QA P w H (h.push { cls:=.type "dict",data:=.dict #[] }) h.objs.size (dN P w h.objs.size []) :=
 ⟨⟨Vk _,beq_eq_false_iff_ne.mpr (Ne.symm (Nat.ne_of_lt hb)),[],.nil,_,#[],0,Vi _ rfl,⟨rfl,rfl,rfl⟩,rfl,rfl,nodup_nil⟩,⟨_,Vi _ rfl⟩,Jqa⟩
theorem Qdc:PE X (.Dict [] [] pos) (Jac X.prog X.w):=fun pins s σ H Q I h =>
 wpAny_Dict_empty ⟨.ref s.heap.objs.size,_,I.laid (a:=s.heap.objs.size) (o:=dN X.prog X.w s.heap.objs.size []) (t':=s.toks) (fun _ _ q=>Vd _ q) (Ve _) (Qcc s.heap I.big),rfl,h _ (I.hok.fresh (Ve _))⟩
end
theorem Zd.u9{k:Nat}{A:Around}(r:Zd k A):A.units+9 < cLine:=by have:=r.un;omega
def TD(H:Hp):Nat->Dt->V->Prop
 | 0,.v x,y=>hV x=true/\y=x
 | 0,.t _,_=>False
 | 0,.l _,_=>False
 | _+1,.v x,y=>hV x=true/\y=x
 | n+1,.t ds,y=>∃ (a:Addr) (xs:List V),y=.ref a/\H a=some (.tup xs)/\Paired (fun d v=>TD H n d v) ds xs
 | _+1,.l _,_=>False
section
variable{H H':Hp}{K:W.Frag}
theorem TD.flat{n:Nat}{x y:V}:TD H n (.v x) y->hV x=true/\y=x:=by cases n <;> exact id
theorem TD.ofV{n:Nat}{x:V}(f:hV x=true):TD H n (.v x) x:=by cases n <;> exact⟨f,rfl⟩
theorem TD.tup{n:Nat}{ds:List Dt}{y:V}(q:TD H n (.t ds) y):∃ m a xs,n=m+1/\y=.ref a/\H a=some (.tup xs)/\Paired (fun d v=>TD H m d v) ds xs:=by
 cases n with
 | zero=>exact q.elim
 | succ m=>obtain⟨a,xs,e,h,r⟩:=q;exact⟨m,a,xs,rfl,e,h,r⟩
theorem TD.ofT{n:Nat}{a:Addr}{xs:List V}{ds:List Dt}(h:H a=some (.tup xs))(r:Paired (fun d v=>TD H n d v) ds xs):TD H (n+1) (.t ds) (.ref a):=⟨a,xs,rfl,h,r⟩
theorem TD.sameT(s:Zw H H'):∀ (n:Nat) {d:Dt} {y:V},TD H n d y->TD H' n d y:=by
 intro n
 induction n with
 | zero=>intro d y q;cases d <;> exact q
 | succ n ih =>
  intro d y q;cases d with
  | v x=>exact q
  | l x=>exact q
  | t ds=>obtain⟨a,xs,e,h,r⟩:=q;exact⟨a,xs,e,s _ _ h,Paired.mapP r fun d v z=>ih z⟩
theorem TD.same{n:Nat}{d:Dt}{y:V}(q:TD H n d y)(s:Qk H H'):TD H' n d y:=TD.sameT s.t n q
theorem TD.mono:∀ (n:Nat) {m:Nat} {d:Dt} {y:V},n<=m->TD H n d y->TD H m d y:=by
 intro n
 induction n with
 | zero =>
  intro m d y _ q;cases d with
  | v x=>obtain⟨f,e⟩:=q;subst e;exact TD.ofV f
  | t _=>exact q.elim
  | l _=>exact q.elim
 | succ n ih =>
  intro m d y hm q;cases d with
  | v x=>obtain⟨f,e⟩:=q;subst e;exact TD.ofV f
  | l _=>exact q.elim
  | t ds =>
   obtain⟨a,xs,e,h,r⟩:=q;obtain⟨k,rfl⟩:∃ k,m=k+1:=⟨m - 1,by omega⟩
   exact⟨a,xs,e,h,Paired.mapP r fun d v z=>ih (by omega) z⟩
theorem TD.rep:∀ (n:Nat) {d:Dt} {y:V},TD H n d y->Rep K H n d y:=by
 intro n
 induction n with
 | zero =>
  intro d y q;cases d with
  | v x=>obtain⟨f,e⟩:=q;subst e;exact .v (ZPa f)
  | t _=>exact q.elim
  | l _=>exact q.elim
 | succ n ih =>
  intro d y q;cases d with
  | v x=>obtain⟨f,e⟩:=q;subst e;exact .v (ZPa f)
  | l _=>exact q.elim
  | t ds =>
   obtain⟨a,xs,e,h,r⟩:=q;subst e;exact .t (SqT.of h) (Paired.length r) fun i d x h1 h2=>ih (QP r h1 h2)
theorem TD.h:∀ (n:Nat) {d:Dt} {y:V},TD H n d y->hD d=true:=by
 intro n
 induction n with
 | zero =>
  intro d y q;cases d with
  | v x=>rw[hD];exact q.1
  | t _=>exact q.elim
  | l _=>exact q.elim
 | succ n ih =>
  intro d y q;cases d with
  | v x=>rw[hD];exact q.1
  | l _=>exact q.elim
  | t ds =>
   obtain⟨a,xs,e,h,r⟩:=q;rw[hD];refine X9b fun x hx=>?_
   obtain⟨i,hi⟩:=mem_iff_getElem?.mp hx;have l:=Paired.length r;have hl:=(Vc.mp hi).1
   exact ih (QP r hi (Vb (show i < xs.length by omega)))
theorem TD.pair{n:Nat}{a:Addr}{x y:V}{d e:Dt}(h:H a=some (.tup [x,y]))(hx:TD H n d x)(hy:TD H n e y):TD H (n+1) (.t [d,e]) (.ref a):=TD.ofT h (.cons hx (.cons hy .nil))
theorem TD.pair_of{n:Nat}{y:V}{d e:Dt}(q:TD H (n+1) (.t [d,e]) y):∃ a x z,y=.ref a/\H a=some (.tup [x,z])/\TD H n d x/\TD H n e z:=by
 obtain⟨a,xs,rfl,h,r⟩:=q;cases r with
 | cons r1 r2 =>
  cases r2 with
  | cons r3 r4=>cases r4;exact⟨a,_,_,rfl,h,r1,r3⟩
end
def QY(S:List Addr)(H H':Hp):Prop:=∀ b o,b∉S->H b=some o->H' b=some o
section
variable{S:List Addr}{H H' H1 H2:Hp}
theorem QY.refl(S:List Addr)(H:Hp):QY S H H:=fun _ _ _ e=>e
theorem Qk.x(s:Qk H H')(S:List Addr):QY S H H':=fun b o _ e=>s b o e
theorem QY.trans(a:QY S H H1)(b:QY S H1 H2):QY S H H2:=fun c o n e=>b c o n (a c o n e)
theorem QY.upd{a:Addr}{o:HO}(s:QY S H H')(h:a∈S):QY S H (L2.upd H' a o):=fun b u n e=>by
 rw[Qe (fun z=>n (by rw[z];exact h))];exact s b u n e
theorem QY.mono{S':List Addr}(s:QY S H H')(h:∀ a∈S,a∈S'):QY S' H H':=fun b o n e=>s b o (fun z=>n (h b z)) e
end
section
variable{α β:Type}[DecidableEq β]
theorem Yv(g:α->β):∀ {xs:List α} {x:α},(xs.map g).Nodup->x∈xs->xs.find? (fun y=>decide (g y=g x))=some x
 | [],_,_,h=>nomatch h
 | y::ys,x,nd,h=>by
  rw[map_cons,nodup_cons]at nd;rw[find?_cons]
  rcases mem_cons.mp h with e | h
  ·subst e;rw[decide_eq_true rfl]
  ·have:g y≠g x:=fun e=>nd.1 (by rw[e];exact mem_map_of_mem h)
   rw[decide_eq_false this];exact Yv g nd.2 h
theorem JPb(g:α->β){xs:List α}{b:β}(h:∀ x∈xs,g x≠b):xs.find? (fun y=>decide (g y=b))=none:=by
 rw[find?_eq_none]
 intro x hx z;exact h x hx (of_decide_eq_true z)
theorem QMa(g:α->β):∀ {xs:List α} {j:Nat} {x:α},(xs.map g).Nodup->xs[j]?=some x->xs.eraseIdx j=xs.filter (fun y=>decide (g y≠g x))
 | [],_,_,_,h=>by simp at h
 | y::ys,0,x,nd,h=>by
  rw[map_cons,nodup_cons]at nd;simp only[getElem?_cons_zero,Option.some.injEq]at h
  subst h;rw[eraseIdx_cons_zero,filter_cons,if_neg (by simp)]
  symm
  rw[filter_eq_self];intro z hz;exact decide_eq_true fun e=>nd.1 (by rw[<- e];exact mem_map_of_mem hz)
 | y::ys,j+1,x,nd,h=>by
  rw[map_cons,nodup_cons]at nd;simp only[getElem?_cons_succ]at h
  have:g y≠g x:=fun e=>nd.1 (by rw[e];exact mem_map_of_mem (Vm h))
  rw[eraseIdx_cons_succ,filter_cons,if_pos (decide_eq_true this),QMa g nd.2 h]
end
theorem YOa{α κ:Type}[DecidableEq κ](f:α->κ×V)(xs:List α)(k:κ):JT (xs.map f) k=(xs.find? fun x=>decide ((f x).1=k)).map fun x=>(f x).2:=by
 unfold JT;rw[find?_map,Option.map_map]
 rfl
theorem Qxb{α:Type}(f:α->Dt×Addr×V)(xs:List α)(k:Dt):Qoa (xs.map f) k=(xs.find? fun x=>decide ((f x).1=k)).map fun x=>(f x).2.2:=by
 unfold Qoa;rw[find?_map,Option.map_map]
 rfl
theorem ZCb{α κ:Type}[DecidableEq κ](f:α->κ×V)(xs:List α)(k:κ):QDa (xs.map f) k=(xs.filter fun x=>decide ((f x).1≠k)).map f:=by
 unfold QDa;rw[filter_map]
 rfl
section
variable{X:Cx}
end
theorem TDs.of{H:Hp}{n:Nat}{Pd:Dt->Prop}:∀ {xs:List V},(∀ x∈xs,∃ d,TD H n d x/\Pd d)->∃ ds:List Dt,Paired (fun d v=>TD H n d v) ds xs/\∀ d∈ds,Pd d
 | [],_=>⟨[],.nil,fun d h=>nomatch h⟩
 | x::xs,h=>by
  obtain⟨d,hd,pd⟩:=h x mem_cons_self;obtain⟨ds,r,p⟩:=TDs.of (xs:=xs) fun y hy=>h y (Vo _ hy)
  exact⟨d::ds,.cons hd r,fun e he=>by
   rcases mem_cons.mp he with z | z
   ·rw[z];exact pd
   ·exact p e z⟩
theorem TDs.sameT{H H':Hp}{n:Nat}{es:List Dt}{xs:List V}(r:Paired (fun d v=>TD H n d v) es xs)(s:Zw H H'):Paired (fun d v=>TD H' n d v) es xs:=Paired.mapP r fun _ _ z=>TD.sameT s n z
def ZDb(P:Program)(w:World)(K:W.Frag)(mg:Str->Option Value)(base:Heap)(k:Nat)(m:Str)(ta:TE1)(t:TA):TE1:=fun σ H Q E=>ta σ H (fun x H1=>∃ a C dx fs sp,x=.ref a/\H1 a=some (.ins C dx fs)/\fs.lookup m=none/\Cls K C/\MeV P w K mg base k C m sp/\t σ H1 fun vs H2=>sp (x::vs) H2 Q E) E
section
variable{X:Cx}{m:Str}{k:Nat}{ta:TE1}{t:TA}{e o:Expr}{es:List Expr}{pos apos:Pos}{pl:Sem Bool}
theorem X2(he:PE1 X o ta)(hr:Zd k X.A)(hex:X.ex=[])(ha:PA X.nox (e::es) t)
 (hst:starEach (e::es) X.env=(false,eval e X.env)::starEach es X.env:=by rfl) (hpl:(backTo pos (starEach es X.env)).any (·.1)=false:=by rfl)
 (ht:eval (.Call (.Attribute o m apos) (e::es) [] pos) X.env=(do
  let ov <- eval o X.env
  standAt apos.atName
  let (f,first) <- holding [ov] (getMethod ov m pl)
  callWith pos f first (backTo pos (starEach (e::es) X.env)) (backToKw pos (keywordEach [] X.env))):=by rfl) :
 PE1 X (.Call (.Attribute o m apos) (e::es) [] pos) (ZDb X.prog X.w X.K X.mg X.base k m ta t):=by
 intro pins s σ H Q E I h;refine W.methodCall_KW (pl:=pl) (thn (he pins s σ H _ E I h) fun u s1 hZ=>?_) ht
 obtain⟨y,H1,I1,rx,a,C,dx,fs,sp,ex,ea,l,c,G,q⟩:=hZ;obtain⟨f,fd,ps,hm,F,hb⟩:=G;subst ex;obtain rfl:u=Value.ref a:=rx;refine YJ I1 ea c hm l ?_
 refine W.callWith_K (first:=[.ref a]) (h₀:=X.base) I.ok.mod.kin hm.kp (thn (Zwb ha I1 q) fun us s2 ⟨vs,H2,I2,r,q2⟩=>⟨I2.kIn,?_⟩) hst hpl
 exact QIa (us:=.ref a::us) (vs:=.ref a::vs) F hr hb hex I2 (.cons rfl r) q2
theorem Jra(he:PE1 X o ta)(hr:Zd k X.A)(hex:X.ex=[])
 (ht:eval (.Call (.Attribute o m apos) [] [] pos) X.env=(do
  let ov <- eval o X.env
  standAt apos.atName
  let (f,first) <- holding [ov] (getMethod ov m pl)
  callWith pos f first (backTo pos (starEach [] X.env)) (backToKw pos (keywordEach [] X.env))):=by rfl) :
 PE1 X (.Call (.Attribute o m apos) [] [] pos) (ZDb X.prog X.w X.K X.mg X.base k m ta XZa):=by
 intro pins s σ H Q E I h;refine W.methodCall_KW (pl:=pl) (thn (he pins s σ H _ E I h) fun u s1 hZ=>?_) ht
 obtain⟨y,H1,I1,rx,a,C,dx,fs,sp,ex,ea,l,c,G,q⟩:=hZ;obtain⟨f,fd,ps,hm,F,hb⟩:=G;subst ex;obtain rfl:u=Value.ref a:=rx;refine YJ I1 ea c hm l ?_
 exact W.callWith_K0 (first:=[.ref a]) I1.kIn hm.kp (QIa (us:=[.ref a]) (vs:=[.ref a]) F hr hb hex I1 (.cons rfl .nil) q)
end
theorem JQb:∀ {ys:List V},(∀ v∈ys,∃ n,v=.int n)->∃ ms:List Int,ys=ms.map V.int
 | [],_=>⟨[],rfl⟩
 | y::ys,h=>by
  obtain⟨n,rfl⟩:=h y mem_cons_self;obtain⟨ms,rfl⟩:=JQb (ys:=ys) fun v hv=>h v (Vo _ hv)
  exact⟨n::ms,rfl⟩
theorem Zvc{ns:List Int}{ys:List V}(p:ys.Perm (ns.map V.int))(h:ys.Pairwise (fun a b=>ltP b a=false)):∃ ms:List Int,ys=ms.map V.int/\ms.Perm ns/\ms.Pairwise (·<=·):=by
 obtain⟨ms,rfl⟩:=JQb (ys:=ys) fun v hv=>by
  obtain⟨n,_,e⟩:=mem_map.mp (p.mem_iff.mp hv);exact⟨n,e.symm⟩
 refine⟨ms,rfl,?_,?_⟩
 ·have:=p.map (fun v:V=>match v with | .int n=>n | _=>0)
  rw[map_map,map_map]at this
  simpa[Function.comp_def]using this
 ·rw[pairwise_map]at h
  exact h.imp fun {a b} z=>by
   simp[ltP]at z;exact z
end L2
end
section
open L2
namespace Tr
def QR:Dt->V
 | .t (.v k::_)=>k
 | _=>.non
def Zx(l:Int)(es:List Dt):Dt:=.t [.v (.int l),.t es]
def JU(k:V)(n:Int):Dt:=.t [.v k,.v (.int n)]
def JL:List Dt->V
 | []=>.non
 | e::_=>QR e
theorem Zi{l l':Int}{es es':List Dt}(h:Zx l es=Zx l' es'):l=l'/\es=es':=by
 unfold Zx at h;injection h with h
 injection h with h1 h
 injection h with h2 h
 injection h1 with h1
 injection h1 with h1
 injection h2 with h2
 exact⟨h1,h2⟩
theorem Qec{k k':V}{n n':Int}(h:JU k n=JU k' n'):k=k'/\n=n':=by
 unfold JU at h;injection h with h
 injection h with h1 h
 injection h with h2 h
 injection h1 with h1
 injection h2 with h2
 injection h2 with h2
 exact⟨h1,h2⟩
section
variable(lv:V->Nat)
def step(l:Int)(parts:List (List Dt))(e:Dt):List (List Dt) :=
 if parts=[]\/l < lv (QR e) then parts++[[e]] else parts.dropLast++[parts.getLast?.getD []++[e]]
def QW(l:Int)(es:List Dt):List (List Dt):=es.foldl (step lv l) []
structure JV(l:Int)(es:List Dt)(parts:List (List Dt)):Prop where
 flat:parts.flatten=es
 full:∀ part∈parts,part≠[]
 head:∀ (i:Nat) x r,0 < i->parts[i]?=some (x::r)->l < lv (QR x)
 rest:∀ x r,(x::r)∈parts->∀ y∈r,(lv (QR y):Int)<=l
variable{lv}{l:Int}{es:List Dt}{parts:List (List Dt)}
theorem JV.nil:JV lv l [] []:=⟨rfl,(fun _ h=>by cases h),(fun i x r _ h=>by simp at h),(fun x r h=>by cases h)⟩
theorem JV.more{x:Dt}(c:JV lv l es parts)(h:parts=[]\/l < lv (QR x)):JV lv l (es++[x]) (parts++[[x]]) where
 flat:=by rw[flatten_append,c.flat];simp
 full:=fun part hp=>by
  rcases Vl.mp hp with z | z
  ·exact c.full part z
  ·have:part=[x]:=by simpa using z
   rw[this];simp
 head:=fun i y r hi e=>by
  by_cases hl:i < parts.length
  ·rw[getElem?_append_left hl]at e;exact c.head i y r hi e
  ·rw[getElem?_append_right (by omega)]at e
   have h0:i - parts.length=0:=by
    cases q:i - parts.length with
    | zero=>rfl
    | succ m=>rw[q]at e;simp at e
   rw[h0]at e;simp at e
   rcases h with z | z
   ·rw[z]at h0;simp at h0;omega
   ·rw[<- e.1];exact z
 rest:=fun y r hp z hz=>by
  rcases Vl.mp hp with w | w
  ·exact c.rest y r w z hz
  ·have:y::r=[x]:=by simpa using w
   cases this;cases hz
theorem JV.on{x:Dt}{ini:List (List Dt)}{last:List Dt}(c:JV lv l es (ini++[last]))(h:(lv (QR x):Int)<=l):JV lv l (es++[x]) (ini++[last++[x]]) where
 flat:=by have:=c.flat;simp at this ⊢;rw[<- this];simp
 full:=fun part hp=>by
  rcases Vl.mp hp with z | z
  ·exact c.full part (mem_append_left _ z)
  ·have:part=last++[x]:=by simpa using z
   rw[this];simp
 head:=fun i y r hi e=>by
  by_cases hl:i < ini.length
  ·rw[getElem?_append_left hl]at e
   exact c.head i y r hi (by rw[getElem?_append_left hl];exact e)
  ·rw[getElem?_append_right (by omega)]at e
   have h0:i - ini.length=0:=by
    cases q:i - ini.length with
    | zero=>rfl
    | succ m=>rw[q]at e;simp at e
   rw[h0]at e;have hne:=c.full last (by simp)
   match last,hne,e,c with
   | z::zs,_,e,c =>
    simp at e;rw[<- e.1];exact c.head i z zs hi (by rw[getElem?_append_right (by omega),h0];rfl)
 rest:=fun y r hp z hz=>by
  rcases Vl.mp hp with w | w
  ·exact c.rest y r (mem_append_left _ w) z hz
  ·have w:y::r=last++[x]:=by simpa using w
   have hne:=c.full last (by simp)
   match last,hne,w,c with
   | u::us,_,w,c =>
    simp at w;obtain⟨rfl,rfl⟩:=w
    rcases Vl.mp hz with v | v
    ·exact c.rest y us (by simp) z v
    ·have:z=x:=by simpa using v
     rw[this];exact h
theorem YU{α:Type}:∀ {xs:List α},xs≠[]->∃ ini last,xs=ini++[last]
 | [],h=>absurd rfl h
 | [x],_=>⟨[],x,rfl⟩
 | x::y::ys,_=>by
  obtain⟨ini,last,e⟩:=YU (xs:=y::ys) (by simp)
  exact⟨x::ini,last,by rw[e];rfl⟩
theorem JV.step{x:Dt}(c:JV lv l es parts):JV lv l (es++[x]) (step lv l parts x):=by
 unfold Tr.step
 split
 ·rename_i h;exact c.more h
 ·rename_i h
  have h1:parts≠[]:=fun z=>h (.inl z)
  obtain⟨ini,last,rfl⟩:=YU h1;have:(lv (QR x):Int)<=l:=by have:¬ l < lv (QR x):=fun z=>h (.inr z);omega
  simpa using c.on this
theorem JF(es:List Dt)(x:Dt):QW lv l (es++[x])=step lv l (QW lv l es) x:=by
 unfold QW;rw[foldl_append];rfl
theorem Xx{α:Type}{C:List α->Prop}(h0:C [])(h1:∀ xs x,C xs->C (xs++[x]))(xs:List α):C xs:=by
 have:∀ n (xs:List α),xs.length=n->C xs:=by
  intro n
  induction n with
  | zero=>intro xs h;rw[length_eq_zero_iff.mp h];exact h0
  | succ n ih =>
   intro xs h;obtain⟨ini,last,rfl⟩:=YU (xs:=xs) (by intro z;rw[z]at h;simp at h)
   exact h1 _ _ (ih ini (by simpa using h))
 exact this _ xs rfl
theorem J1(l:Int):∀ es,JV lv l es (QW lv l es):=Xx JV.nil fun xs x c=>by rw[JF];exact c.step
theorem X3{es:List Dt}(h:es≠[]):QW lv l es≠[]:=fun z=>h (by have:=(J1 (lv:=lv) l es).flat;rw[z]at this;exact this.symm)
theorem Qyb{es:List Dt}(hne:es≠[])(h:∀ e∈es,(lv (QR e):Int)<=l):QW lv l es=[es]:=by
 have c:=J1 (lv:=lv) l es
 match q:QW lv l es with
 | []=>exact absurd q (X3 hne)
 | [p]=>rw[q]at c;have:=c.flat;simp at this;rw[this]
 | p::p2::r =>
  rw[q]at c;have hp2:=c.full p2 (by simp)
  match p2,hp2 with
  | x::xs,_ =>
   have h1:=c.head 1 x xs (by omega) rfl
   have h2:x∈es:=by rw[<- c.flat];simp
   have:=h x h2
   omega
end
structure Fn(tbl:List (Int×Dt)):Prop where
 num:∀ n d d',(n,d)∈tbl->(n,d')∈tbl->d=d'
 dat:∀ n n' d,(n,d)∈tbl->(n',d)∈tbl->n=n'
inductive QS(tbl:List (Int×Dt))(l:Int):List (List Dt)->List Dt->Prop
 | nil:QS tbl l [] []
 | cons {part:List Dt} {parts:List (List Dt)} {hs:List Dt} {n:Int} (h:(n,Zx l part)∈tbl) (r:QS tbl l parts hs):QS tbl l (part::parts) (JU (JL part) n::hs)
section
variable{tbl tbl':List (Int×Dt)}{l:Int}{parts:List (List Dt)}{hs:List Dt}
theorem QS.mono(h:QS tbl l parts hs)(s:∀ x∈tbl,x∈tbl'):QS tbl' l parts hs:=by
 induction h with
 | nil=>exact .nil
 | cons h _ ih=>exact .cons (s _ h) ih
theorem QS.snoc{part:List Dt}{n:Int}(h:QS tbl l parts hs)(m:(n,Zx l part)∈tbl):QS tbl l (parts++[part]) (hs++[JU (JL part) n]):=by
 induction h with
 | nil=>exact .cons m .nil
 | cons h _ ih=>exact .cons h ih
theorem QS.length(h:QS tbl l parts hs):hs.length=parts.length:=by
 induction h with
 | nil=>rfl
 | cons _ _ ih=>simp[ih]
theorem QS.det(f:Fn tbl)(h:QS tbl l parts hs):∀ {hs':List Dt},QS tbl l parts hs'->hs=hs':=by
 induction h with
 | nil=>intro hs' h';cases h';rfl
 | cons h _ ih =>
  intro hs' h';cases h' with
  | cons h2 r2=>rw[f.dat _ _ _ h h2,ih r2]
end
structure Jsa(lv:V->Nat)(tbl:List (Int×Dt))(rows:List Dt)(top:Nat)(L:Nat->List Dt):Prop where
 low:L 0=rows
 up:∀ j,j<=top->QS tbl j (QW lv j (L j)) (L (j+1))
 one:(L (top+1)).length=1
 two:∀ j,1<=j->j<=top->1 < (L j).length
section
variable{lv:V->Nat}{tbl tbl':List (Int×Dt)}{rows rows':List Dt}{top top':Nat}{L L':Nat->List Dt}
end
def ZHa:Dt->Int
 | .t [_,.v (.int n)]=>n
 | _=>0
section
variable{lv:V->Nat}{tbl:List (Int×Dt)}{l:Int}{parts:List (List Dt)}{hs rows:List Dt}{top:Nat}{L:Nat->List Dt}
theorem QS.keys(h:QS tbl l parts hs):hs.map QR=parts.map JL:=by
 induction h with
 | nil=>rfl
 | cons h r ih=>rw[map_cons,map_cons,ih];rfl
end
structure Zca(lv:V->Nat)(tbl:List (Int×Dt))(rows:List Dt)(j:Nat)(L:Nat->List Dt):Prop where
 low:L 0=rows
 up:∀ i,i < j->QS tbl i (QW lv i (L i)) (L (i+1))
 two:∀ i,1<=i->i < j->1 < (L i).length
section
variable{lv:V->Nat}{tbl tbl':List (Int×Dt)}{rows hs:List Dt}{j:Nat}{L:Nat->List Dt}
theorem Zca.start(h:QS tbl 0 (QW lv 0 rows) hs):Zca lv tbl rows 1 (fun i=>if i=0 then rows else hs) where
 low:=rfl
 up:=fun i hi=>by
  obtain rfl:i=0:=by omega
  exact h
 two:=fun i h1 h2=>by omega
theorem Zca.next(p:Zca lv tbl rows j L)(s:∀ x∈tbl,x∈tbl')(hj:1<=j)(h2:1 < (L j).length)(h:QS tbl' j (QW lv j (L j)) hs):Zca lv tbl' rows (j+1) (fun i=>if i=j+1 then hs else L i) where
 low:=by show(if 0=j+1 then hs else L 0)=rows;rw[if_neg (by omega)];exact p.low
 up:=fun i hi=>by
  show QS tbl' i (QW lv i (if i=j+1 then hs else L i)) (if i+1=j+1 then hs else L (i+1))
  rw[if_neg (by omega)]
  by_cases e:i=j
  ·subst e;rw[if_pos rfl];exact h
  ·rw[if_neg (by omega)];exact(p.up i (by omega)).mono s
 two:=fun i h1 hi=>by
  show 1 < (if i=j+1 then hs else L i).length
  rw[if_neg (by omega)]
  by_cases e:i=j
  ·subst e;exact h2
  ·exact p.two i h1 (by omega)
theorem Zca.chain{top:Nat}(p:Zca lv tbl rows (top+1) L)(h:(L (top+1)).length=1):Jsa lv tbl rows top L:=⟨p.low,fun i hi=>p.up i (by omega),h,fun i h1 h2=>p.two i h1 (by omega)⟩
theorem Zca.full(p:Zca lv tbl rows j L)(hr:rows≠[]):∀ i,i<=j->L i≠[]:=by
 intro i
 induction i with
 | zero=>intro _;rw[p.low];exact hr
 | succ i ih =>
  intro h z;have u:=p.up i (by omega)
  have l:=u.length;rw[z]at l;exact X3 (ih (by omega)) (length_eq_zero_iff.mp l.symm)
theorem Zca.top(p:Zca lv tbl rows j L)(h6:∀ k,lv k<=6)(hr:rows≠[])(hj:7<=j):(L 7).length=1:=by
 have u:=p.up 6 (by omega)
 rw[Qyb (p.full hr 6 (by omega)) (fun e _=>by have:=h6 (QR e);omega)]at u
 rw[u.length];rfl
end
end Tr
end
section
namespace L2
open PySem PySem.Spec PyProof.Rows
inductive FzH(H:Hp):Nat->V->Prop where
 | v {n:Nat} {x:V} (f:hV x=true):FzH H n x
 | t {n:Nat} {a:Addr} {xs:List V} (h:H a=some (.tup xs)) (r:∀ x∈xs,FzH H n x):FzH H (n+1) (.ref a)
theorem FzH.sameT{H H':Hp}{n:Nat}{x:V}(r:FzH H n x)(s:Zw H H'):FzH H' n x:=by
 induction r with
 | v f=>exact .v f
 | t h _ ih=>exact .t (s _ _ h) ih
theorem FzH.same{H H':Hp}{n:Nat}{x:V}(r:FzH H n x)(s:Qk H H'):FzH H' n x:=r.sameT s.t
theorem FzH.pair{H:Hp}{n:Nat}{a:Addr}{x y:V}(h:H a=some (.tup [x,y]))(hx:FzH H n x)(hy:FzH H n y):FzH H (n+1) (.ref a):=.t h fun z hz=>by
 rcases mem_cons.mp hz with e | hz
 ·rw[e];exact hx
 ·rw[mem_singleton.mp hz];exact hy
structure ZZ(H:Hp)(n:Nat)(p:Addr)(H1:Hp)(xs:List V):Prop where
 same:Qk H H1
 at_:H1 p=some (.lst xs)
 fz:∀ x∈xs,FzH H1 n x
 new:H p=none
theorem ZZ.start{H:Hp}{n:Nat}{p:Addr}(hp:H p=none):ZZ H n p (upd H p (.lst [])) []:=⟨Qh hp _,Qa,(fun x hx=>by cases hx),hp⟩
theorem ZZ.more{H H1 H2:Hp}{n:Nat}{p:Addr}{xs:List V}{x:V}(c:ZZ H n p H1 xs)(s:Qk H1 H2)(f:FzH H2 n x):ZZ H n p (upd H2 p (.lst (xs++[x]))) (xs++[x]) where
 same:=fun b o hb=>by rw[Qe (Qo hb c.new)];exact s _ _ (c.same _ _ hb)
 at_:=Qa
 fz:=fun y hy=>by
  have st:=Yt (zs:=xs++[x]) (s _ _ c.at_)
  rcases Vl.mp hy with h | h
  ·exact((c.fz y h).same s).sameT st
  ·rw[mem_singleton.mp h];exact f.sameT st
 new:=c.new
theorem ZZ.pair{H H1:Hp}{n:Nat}{p q:Addr}{xs:List V}(x y:V)(c:ZZ H (n+1) p H1 xs)(hq:H1 q=none)(fx:hV x=true:=by rfl)(fy:hV y=true:=by rfl):ZZ H (n+1) p (upd (upd H1 q (.tup [x,y])) p (.lst (xs++[.ref q]))) (xs++[.ref q]) :=
 c.more (Qh hq _) (FzH.pair Qa (.v fx) (.v fy))
theorem ZZ.nest{H H1:Hp}{n:Nat}{p a b q:Addr}{xs:List V}(z w x y:V)(c:ZZ H (n+3) p H1 xs)(ha:H1 a=none)(hb:upd H1 a (.tup [x,y]) b=none)(hq:upd (upd H1 a (.tup [x,y])) b (.tup [w,.ref a]) q=none)(fx:hV x=true:=by rfl)(fy:hV y=true:=by rfl)(fz:hV z=true:=by rfl)(fw:hV w=true:=by rfl) :
 ZZ H (n+3) p (upd (upd (upd (upd H1 a (.tup [x,y])) b (.tup [w,.ref a])) q (.tup [z,.ref b])) p (.lst (xs++[.ref q]))) (xs++[.ref q]):=by
 have f1:FzH (upd H1 a (.tup [x,y])) (n+1) (.ref a):=FzH.pair Qa (.v fx) (.v fy);have f2:FzH (upd (upd H1 a (.tup [x,y])) b (.tup [w,.ref a])) (n+2) (.ref b):=FzH.pair Qa (.v fw) (f1.same (Qh hb _));exact c.more ((Qh ha _).trans ((Qh hb _).trans (Qh hq _))) (FzH.pair Qa (.v fz) (f2.same (Qh hq _)))
theorem FzH.td{H:Hp}{n:Nat}{x:V}(r:FzH H n x):∃ d,TD H n d x:=by
 induction r with
 | v f=>exact⟨_,TD.ofV f⟩
 | t h _ ih =>
  obtain⟨ds,q,_⟩:=TDs.of (Pd:=fun _=>True) fun x hx=>by obtain⟨d,hd⟩:=ih x hx;exact⟨d,hd,trivial⟩
  exact⟨.t ds,TD.ofT h q⟩
section
variable{a b c d e u:TS}{D:Zq}{σ:St}{H:Hp}
theorem YV(h:∀ R:St->Hp->Prop,(∀ σ H,u D σ H->R σ H)->a { D with nx:=R } σ H):Xn a u D σ H:=h (u D) fun _ _ z=>z
theorem Zwc(h:∀ R:St->Hp->Prop,(∀ σ H,u D σ H->R σ H)->Xn a b { D with nx:=R } σ H):Xn a (Xn b u) D σ H:=h (u D) fun _ _ z=>z
theorem QNa(h:∀ R:St->Hp->Prop,(∀ σ H,u D σ H->R σ H)->Xn a (Xn b c) { D with nx:=R } σ H):Xn a (Xn b (Xn c u)) D σ H:=h (u D) fun _ _ z=>z
theorem Zxc(h:∀ R:St->Hp->Prop,(∀ σ H,u D σ H->R σ H)->Xn a (Xn b (Xn c d)) { D with nx:=R } σ H):Xn a (Xn b (Xn c (Xn d u))) D σ H:=h (u D) fun _ _ z=>z
end
section
variable{X:Cx}
end
section
variable{X:Cx}
end
end L2
end
section
open L2 PySem
namespace Tr
section
variable{lv:V->Nat}{tbl:List (Int×Dt)}{rows:List Dt}{top:Nat}{L:Nat->List Dt}
end
end Tr
end
section
namespace L2
open PySem PySem.Spec PyProof.Rows PySem.W
section
variable{prog:Program}{w:World}{A:Around}{E:YQ_}{s:Shared}
end
section
variable{X:Cx}{e:Expr}{te:TE}{p pos p2 pos2:Pos}{pins:YP_}{σ:St}{H:Hp}{s:Shared}
end
section
variable{prog:Program}{w:World}{A:Around}{E:YQ_}{h:Heap}{g:Array GenState}{d:Drawn}{t:Nat}{os:OsState}{a:Addr}{its:Array Value}{c:Nat}
end
section
variable{prog:Program}{w:World}{K:Type}[DecidableEq K]{knd:KeyKind prog w K}{A:Around}{E:YQ_}{s:Shared}
end
section
variable{prog:Program}{w:World}{A:Around}{E:YQ_}{h:Heap}{g:Array GenState}{d:Drawn}{t:Nat}{os:OsState}{a:Addr}{its:Array Value}{c:Nat}{sl:Array (Option Value)}
end
section
variable{prog:Program}{w:World}{K:Type}[DecidableEq K]{knd:KeyKind prog w K}{A:Around}{E:YQ_}{s:Shared}
end
theorem Jta{α β:Type}{F:α->β->Prop}:∀ {a:List α} {b:List β} {c:List α} {d:List β},Paired F a b->Paired F c d->Paired F (a++c) (b++d)
 | _,_,_,_,.nil,h=>h
 | _,_,_,_,.cons r t,h=>.cons r (Jta t h)
def Ris(xs:Array Nat):Prop:=xs.toList.Pairwise (· < ·)
theorem Ris.lt{xs:Array Nat}(h:Ris xs){i j x y:Nat}(hij:i < j)(hx:xs[i]?=some x)(hy:xs[j]?=some y):x < y:=by
 rw[<- Array.getElem?_toList]at hx hy
 obtain⟨h1,e1⟩:=Vc.mp hx
 obtain⟨h2,e2⟩:=Vc.mp hy
 rw[<- e1,<- e2];exact pairwise_iff_getElem.mp h i j h1 h2 hij
theorem Qfc{xs:Array Nat}(h:Ris xs)(j:Nat):∀ (fuel lo hi:Nat),lo<=hi->hi<=xs.size->hi - lo<=fuel->(∀ i x,i < lo->xs[i]?=some x->x < j)->(∀ i x,hi<=i->xs[i]?=some x->j<=x) ->
 lo<=SetTable.below.go xs j fuel lo hi/\SetTable.below.go xs j fuel lo hi<=hi/\(∀ i x,i < SetTable.below.go xs j fuel lo hi->xs[i]?=some x->x < j)/\(∀ i x,SetTable.below.go xs j fuel lo hi<=i->xs[i]?=some x->j<=x):=by
 intro fuel
 induction fuel with
 | zero =>
  intro lo hi h1 h2 h3 a b;have e:lo=hi:=by omega
  subst e;exact⟨Ve _,Ve _,a,b⟩
 | succ fuel ih =>
  intro lo hi h1 h2 h3 a b;unfold SetTable.below.go
  by_cases hl:lo < hi
  ·rw[if_pos hl]
   dsimp only;have hm:(lo+hi) / 2 < xs.size:=by omega
   have gm:xs[(lo+hi) / 2]?=some xs[(lo+hi) / 2]:=Array.getElem?_eq_getElem hm
   have gd:xs.getD ((lo+hi) / 2) j=xs[(lo+hi) / 2]:=by simp[Array.getD,hm]
   rw[gd]
   split
   ·rename_i hlt
    have r:=ih ((lo+hi) / 2+1) hi (by omega) h2 (by omega) (fun i x hi' hx=>by
     rcases Nat.lt_or_ge i ((lo+hi) / 2) with q | q
     ·exact Nat.lt_trans (h.lt q hx gm) hlt
     ·have:i=(lo+hi) / 2:=by omega
      subst this;rw[gm]at hx;cases hx;exact hlt) b
    exact⟨by omega,r.2.1,r.2.2⟩
   ·rename_i hge
    have r:=ih lo ((lo+hi) / 2) (by omega) (by omega) (by omega) a (fun i x hi' hx=>by
     rcases Nat.lt_or_ge ((lo+hi) / 2) i with q | q
     ·have:=h.lt q gm hx;omega
     ·have:i=(lo+hi) / 2:=by omega
      subst this;rw[gm]at hx;cases hx;omega)
    exact⟨r.1,by omega,r.2.2⟩
  ·rw[if_neg hl]
   have e:lo=hi:=by omega
   subst e;exact⟨Ve _,Ve _,a,b⟩
theorem Jua{xs:Array Nat}(h:Ris xs)(j:Nat):SetTable.below xs j<=xs.size/\(∀ i x,i < SetTable.below xs j->xs[i]?=some x->x < j)/\(∀ i x,SetTable.below xs j<=i->xs[i]?=some x->j<=x):=by
 have r:=Qfc h j xs.size 0 xs.size (Vk _) (Ve _) (by omega) (fun i x hi _=>absurd hi (Nat.not_lt_zero _)) (fun i x hi hx=>by
  rw[Array.getElem?_eq_none hi]at hx;cases hx)
 exact r.2
theorem ZEb{xs:Array Nat}(h:Ris xs):SetTable.below xs 0=0:=by
 obtain⟨a,b,_⟩:=Jua h 0
 rcases Nat.eq_zero_or_pos (SetTable.below xs 0) with e | e
 ·exact e
 ·have:=b 0 xs[0] e (Array.getElem?_eq_getElem (by omega));omega
theorem ZFb{xs:Array Nat}(h:Ris xs){i x:Nat}(hx:xs[i]?=some x):SetTable.below xs (x+1)=i+1:=by
 obtain⟨a,b,c⟩:=Jua h (x+1)
 rcases Nat.lt_or_ge i (SetTable.below xs (x+1)) with q | q
 ·rcases Nat.lt_or_ge (i+1) (SetTable.below xs (x+1)) with r | r
  ·have hi:i+1 < xs.size:=by omega
   have g:=Array.getElem?_eq_getElem hi
   have h1:=b (i+1) _ r g;have h2:=h.lt (Nat.lt_succ_self i) hx g
   omega
  ·omega
 ·have:=c i x q hx;omega
theorem ZGb{xs:Array Nat}(h:Ris xs){j:Nat}(hn:xs[SetTable.below xs j]?≠some j):Ris (SetTable.insertAt xs (SetTable.below xs j) j):=by
 obtain⟨a,b,c⟩:=Jua h j;unfold Ris;rw[SetTable.toList_insertAt];refine pairwise_append.mpr ⟨h.sublist (take_sublist _ _),pairwise_cons.mpr ⟨fun y hy=>?_,h.sublist (drop_sublist _ _)⟩,fun x hx y hy=>?_⟩
 ·obtain⟨k,hk,e⟩:=mem_iff_getElem.mp hy
  rw[getElem_drop]at e;have g:xs[SetTable.below xs j+k]?=some y:=by rw[<- Array.getElem?_toList,Vb (by rw[length_drop]at hk;omega),e]
  have h1:=c _ _ (Nat.le_add_right _ _) g
  rcases Nat.lt_or_ge j y with q | q
  ·exact q
  ·exfalso
   have ey:y=j:=by omega
   subst ey;cases k with
   | zero=>exact hn g
   | succ k =>
    have hb:SetTable.below xs y < xs.size:=by rw[length_drop,Array.length_toList]at hk;omega
    have g0:=Array.getElem?_eq_getElem hb
    have h2:=c _ _ (Ve _) g0;have h3:=h.lt (show SetTable.below xs y < SetTable.below xs y+(k+1) by omega) g0 g
    omega
 ·obtain⟨k,hk,e⟩:=mem_iff_getElem.mp hx
  rw[getElem_take]at e;rw[length_take]at hk;have g:xs[k]?=some x:=by rw[<- Array.getElem?_toList,Vb (by omega),e]
  have h1:=b k x (by omega) g
  rcases mem_cons.mp hy with q | q
  ·rw[q];exact h1
  ·obtain⟨k',hk',e'⟩:=mem_iff_getElem.mp q
   rw[getElem_drop]at e';have g':xs[SetTable.below xs j+k']?=some y:=by rw[<- Array.getElem?_toList,Vb (by rw[length_drop]at hk';omega),e']
   exact h.lt (by omega) g g'
structure TbG(led:Bool)(t:SetTable):Prop where
 led_:t.led=led
 dum:t.dummies=#[]
 ris:Ris t.place
theorem TbG.fresh(led:Bool):TbG led (.fresh 0 0 led):=⟨rfl,rfl,List.Pairwise.nil⟩
theorem TbG.standIn{led:Bool}{t:SetTable}(h:TbG led t)(n:Nat):TbG led (t.standIn n):=⟨h.led_,rfl,by
 show(Array.range n).toList.Pairwise (· < ·);rw[Array.toList_range];exact pairwise_lt_range⟩
theorem TbG.plainOff{led:Bool}{t:SetTable}(h:TbG led t):TbG led { t with plain:=false }:=⟨h.led_,h.dum,h.ris⟩
theorem Qzb(j:Nat):SetTable.has #[] j=false:=by unfold SetTable.has;simp
theorem Qgc{t:SetTable}(hd:t.dummies=#[])(hashAt:Nat->Int)(h:Int):∀ (fuel:Nat) (p:SetTable.Probe) {j:Nat} {d:Option Nat},SetTable.probe.go t hashAt h fuel p=some (.empty j d)->t.slot j=.empty/\d=p.dummy:=by
 intro fuel
 induction fuel with
 | zero=>intro p j d e;cases e
 | succ fuel ih =>
  intro p j d e;unfold SetTable.probe.go at e
  split at e
  ·rename_i hs
   cases e;exact⟨hs,rfl⟩
  ·rename_i hs
   exfalso
   unfold SetTable.slot at hs;dsimp only at hs;rw[hd,Qzb]at hs
   split at hs <;> simp at hs
  ·split at e
   ·cases e
   ·have r:=ih (t.advance p) e
    refine⟨r.1,r.2.trans ?_⟩
    unfold SetTable.advance
    split <;> rfl
theorem Zyc{t:SetTable}(hd:t.dummies=#[]){h:Int}{j:Nat}{b:Bool}(e:t.freeSlot h=some (j,b)):t.place[SetTable.below t.place j]?≠some j:=by
 unfold SetTable.freeSlot at e
 split at e
 ·rename_i j' d he
  have r:=Qgc hd _ _ _ _ he;have r2:d=none:=r.2;subst r2;cases e;have hs:=r.1;unfold SetTable.slot at hs;dsimp only at hs;intro z;have z:t.place[SetTable.below t.place j']?=some j':=z;rw[if_pos (by simp[z])]at hs
  cases hs
 ·cases e
theorem TbG.layNew{led:Bool}{t:SetTable}(g:TbG led t)(es:Array (Int×Value))(h:Int)(x:Value):TbG led (layNew t es h x).2.1:=by
 unfold PySem.layNew
 split
 ·rename_i slot wd he
  have hf:=Zyc g.dum he;dsimp only;have g1:TbG led (t.put slot).1:=by
   refine⟨g.led_,?_,?_⟩
   ·show(if SetTable.has t.dummies slot=true then _ else t.dummies)=#[]
    rw[g.dum,Qzb];rfl
   ·exact ZGb g.ris hf
  unfold SetTable.orStandIn
  split
  ·exact g1
  ·exact g1.standIn _
 ·exact g.standIn _
theorem TbG.relay{led:Bool}{t:SetTable}(g:TbG led t)(es:Array (Int×Value))(n:Nat):TbG led (relayAll t es n).2.1:=by
 unfold relayAll
 split
 ·rename_i t' order he
  dsimp only
  split
  ·unfold SetTable.relaid SetTable.laid at he
   cases ho:SetTable.layClean (SetTable.sizeAbove n - 1) (es.map (·.1)) with
   | none=>rw[ho]at he;cases he
   | some owner =>
    rw[ho]at he;cases he;refine⟨g.led_,rfl,?_⟩
    show List.Pairwise _ _;dsimp only;rw[pairwise_map];exact List.Pairwise.filterMap _ (fun a a' haa b hb b' hb'=>by
     simp only[Option.map_eq_some_iff]at hb hb';obtain⟨_,_,rfl⟩:=hb;obtain⟨_,_,rfl⟩:=hb';exact haa) pairwise_lt_range
  ·exact g.standIn _
 ·exact g.standIn _
section
variable{prog:Program}{w:World}{K:Type}[DecidableEq K]{knd:KeyKind prog w K}{A:Around}{E:YQ_}{s:Shared}
def ZU(w:World):Bool:=!w.params.followText "set-order"
def ZHb(knd:KeyKind prog w K)(k:K)(e:Int×Value):Prop:=(knd.is k e.2=true/\e.1=knd.hash k)/\e.2.scannable=true
def Xl(knd:KeyKind prog w K)(h:Heap)(a:Addr)(ks:List K):Prop :=
 ∃ o es ep t js,h.get? a=some o/\o.ExactSet/\o.data=.set es ep t/\TbG (ZU w) t/\t.fits es.size=true/\es.size < scanBound/\Paired (ZHb knd) js es.toList/\js.Perm ks
theorem Xl.keep{h1 h2:Heap}{a:Addr}{ks:List K}(x:Xl knd h1 a ks)(e:∀ o,h1.get? a=some o->h2.get? a=some o):Xl knd h2 a ks :=
 let ⟨o,es,ep,t,js,g,r⟩:=x;⟨o,es,ep,t,js,e o g,r⟩
theorem QAb:∀ {js:List K} {l:List (Int×Value)},Paired (ZHb knd) js l->ElemsOf knd l
 | _,_,.nil=>fun e he=>nomatch he
 | _,_,.cons r t=>fun e he=>by
  rcases mem_cons.mp he with z | z
  ·rw[z];exact⟨⟨_,r.1⟩,r.2⟩
  ·exact QAb t e z
theorem ZIb:∀ {js:List K} {l:List (Int×Value)},Paired (ZHb knd) js l->∀ k,k∈js↔∃ e∈l,knd.is k e.2=true
 | _,_,.nil,k=>by simp
 | _,_,@Paired.cons _ _ _ k0 e0 _ _ r t,k=>by
  rw[mem_cons,ZIb t k]
  constructor
  ·rintro(z | ⟨e,he,q⟩)
   ·exact⟨e0,mem_cons_self,by rw[z];exact r.1.1⟩
   ·exact⟨e,Vo _ he,q⟩
  ·rintro⟨e,he,q⟩
   rcases mem_cons.mp he with z | z
   ·subst z;exact .inl (knd.inj _ _ _ q r.1.1)
   ·exact .inr ⟨e,z,q⟩
theorem QOa{α β:Type}{F:α->β->Prop}{l l':List β}(p:l'.Perm l):∀ {js:List α},Paired F js l->∃ js',Paired F js' l'/\js'.Perm js:=by
 induction p with
 | nil=>intro js h;exact⟨js,h,.refl _⟩
 | cons x _ ih =>
  intro js h;cases h with
  | cons r t=>obtain⟨js',a,b⟩:=ih t;exact⟨_::js',.cons r a,b.cons _⟩
 | swap x y l =>
  intro js h;cases h with
  | cons r t =>
   cases t with
   | cons r2 t2=>exact⟨_,.cons r2 (.cons r t2),List.Perm.swap _ _ _⟩
 | trans _ _ ih1 ih2 =>
  intro js h;obtain⟨j1,a,b⟩:=ih2 h;obtain⟨j2,c,d⟩:=ih1 a;exact⟨j2,c,d.trans b⟩
theorem QBb{h:Heap}{a:Addr}{o:Obj}{es:Array (Int×Value)}{ep:Nat}{t:SetTable}{ks:List K}(q:h.get? a=some o)(ex:o.ExactSet)(dd:o.data=.set es ep t)
 {es':Array (Int×Value)} {t':SetTable} {js:List K} (pr:Paired (ZHb knd) js es'.toList) (pm:js.Perm ks) (sb:es'.size < scanBound) (ft:t'.fits es'.size=true) (tg:TbG (ZU w) t') :
 (h.update a (Obj.putSet es' t')).get? a=some { o with data:=.set es' (ep+1) t' }/\Xl knd (h.update a (Obj.putSet es' t')) a ks:=by
 have g:(h.update a (Obj.putSet es' t')).get? a=some { o with data:=.set es' (ep+1) t' }:=by
  have z:=Heap.get?_update_self (Obj.putSet es' t') q (by rw[putSet_of es' t' dd];rfl)
  rw[putSet_of es' t' dd]at z;exact z
 exact⟨g,_,es',ep+1,t',js,g,ex,rfl,tg,ft,sb,pr,pm⟩
theorem JRb{g:Bool->Sem Unit}(hg:∀ (b:Bool) (s₁:Shared) (Q':Unit->Shared->Prop),Q' () s₁->wpAny (model prog w) A (g b) Q' E s₁)
 {a:Addr} {o:Obj} {es:Array (Int×Value)} {ep:Nat} {t:SetTable} (q:s.heap.get? a=some o) (ex:o.ExactSet) (dd:o.data=.set es ep t)
 {es1:Array (Int×Value)} {t2:SetTable} {js ks:List K} (pr:Paired (ZHb knd) js es1.toList) (pm:js.Perm ks) (tg:TbG (ZU w) t2)
 (sb:es1.size < scanBound) (ft:t2.fits es1.size=true) {wasDummy:Bool} {R:Option Bool->Shared->Prop}
 (h:∀ h',Heap.SameBut a s.heap h'->Xl knd h' a ks->R (some true) { s with heap:=h' }) :
 wpAny (model prog w) A (do
  storeSet a es1 t2
  if (!wasDummy && t2.tooFull)=true then do
      g (relayAll t2 es1 (SetTable.grown es1.size)).2.2
      storeSet a (relayAll t2 es1 (SetTable.grown es1.size)).1 (relayAll t2 es1 (SetTable.grown es1.size)).2.1
      pure (some true)
   else pure (some true)) R E s:=by
 refine Va (wpAny_storeSet_of q dd ?_ (fits_of_scanBound sb))
 obtain⟨q1,S1⟩:=QBb (knd:=knd) q ex dd pr pm sb ft tg;have k1:=Heap.SameBut.update s.heap a (Obj.putSet es1 t2)
 split
 ·have pp:=relayAll_perm t2 es1 (SetTable.grown es1.size)
  have ff:=relayAll_fits t2 es1 (SetTable.grown es1.size);have gg:=tg.relay es1 (SetTable.grown es1.size);generalize relayAll t2 es1 (SetTable.grown es1.size)=Z at pp ff gg ⊢;obtain⟨es2,t3,gv⟩:=Z;dsimp only at pp ff gg ⊢;obtain⟨js',pr',pm'⟩:=QOa pp pr;have hsz:es2.size=es1.size:=by rw[<- Array.length_toList,pp.length_eq,Array.length_toList]
  refine Va (hg _ _ _ ?_)
  refine Va (wpAny_storeSet_of q1 rfl ?_ (fits_of_scanBound (by rw[hsz];exact sb)))
  obtain⟨_,S2⟩:=QBb (knd:=knd) q1 ex rfl pr' (pm'.trans pm) (by rw[hsz];exact sb) ff gg
  exact Vg (h _ (k1.trans (Heap.SameBut.update _ a _)) S2)
 ·exact Vg (h _ k1 S1)
theorem J7c{a:Addr}{ks:List K}{k:K}{x:Value}{Q:Bool->Shared->Prop}(hkey:knd.is k x=true)(sc:x.scannable=true)(S:Xl knd s.heap a ks)(room:ks.length+1 < scanBound)
 (h:∀ h' b,Heap.SameBut a s.heap h'->Xl knd h' a (if k∈ks then ks else ks++[k])->Q b { s with heap:=h' }) :
 wpAny (model prog w) A (setAddHashed a x (knd.hash k)) Q E s:=by
 obtain⟨o,es,ep,t,js,q,ex,dd,tg,ft,sb,pr,pm⟩:=S;have el:ElemsOf knd es.toList:=QAb pr;have lj:js.length=es.size:=by rw[Paired.length pr,Array.length_toList]
 have lp:=pm.length_eq;unfold setAddHashed setAddHashedIn;refine wpAny_holding (Va (wpAny_setState_of q dd ft ?_))
 dsimp only;rw[byScan_of sc sb el];simp only[↓reduceIte];unfold setAddByScan;refine Va (Va (wpAny_rule (Va (wpAny_setScan_of hkey q dd ft el ?_))))
 cases hr:List.findIdx? (fun e=>knd.is k e.2) es.toList with
 | some j =>
  dsimp only;obtain⟨hj,pj,_⟩:=findIdx?_eq_some_iff_getElem.mp hr
  have mk:k∈ks:=pm.mem_iff.mp ((ZIb pr k).mpr ⟨es.toList[j],getElem_mem hj,pj⟩);refine Vg (Vg ?_)
  have e:s={ s with heap:=s.heap }:=by cases s;rfl
  have z:=h s.heap false (Heap.SameBut.refl a s.heap);rw[if_pos mk]at z;rw[e];exact z ⟨o,es,ep,t,js,q,ex,dd,tg,ft,sb,pr,pm⟩
 | none =>
  dsimp only;have nk:k∉ks:=fun mk=>by
   obtain⟨e,he,pe⟩:=(ZIb pr k).mp (pm.mem_iff.mpr mk);have z:=findIdx?_eq_none_iff.mp hr e he
   rw[pe]at z;cases z
  rw[if_neg nk]at h;have gw:∀ (b:Bool) {s₁:Shared} {Q':Unit->Shared->Prop},Q' () s₁->wpAny (model prog w) A (match b with | true=>rule "set.scan.the-table-gave-way" | false=>pure ()) Q' E s₁ :=
   fun b s₁ Q' z=>by cases b;exact Vg z;exact wpAny_rule z
  have pp:=layNew_perm t es (knd.hash k) x;have ff:=layNew_fits t es (knd.hash k) x;have gg:=tg.layNew es (knd.hash k) x;generalize layNew t es (knd.hash k) x=Z at pp ff gg ⊢;obtain⟨es1,t1,wd,gv⟩:=Z;dsimp only at pp ff gg ⊢;rw[Array.toList_push]at pp;obtain⟨js',pr',pm'⟩:=QOa pp (Jta pr (.cons ⟨⟨hkey,rfl⟩,sc⟩ .nil:Paired (ZHb knd) [k] [(knd.hash k,x)]));have pm2:js'.Perm (ks++[k]):=pm'.trans (pm.append_right _);have sz:es1.size=es.size+1:=by rw[<- Array.length_toList,pp.length_eq,Vs,Array.length_toList];rfl
  have sb1:es1.size < scanBound:=by rw[sz,<- lj,lp];exact room
  refine Va (gw _ ?_)
  split
  ·refine Va ?_
   rw[hashByValue_scannable 8 sc];refine Vg (JRb (fun b s₁ Q' z=>gw b z) q ex dd pr' pm2 ?_ sb1 ?_ ?_)
   ·split
    ·exact gg
    ·exact gg.plainOff
   ·split
    ·exact ff
    ·exact SetTable.fits_plain_off ff
   ·intro h' kb S';dsimp only;exact Vg (h h' _ kb S')
  ·refine Va (Vg ?_)
   simp only[↓reduceIte];refine JRb (fun b s₁ Q' z=>gw b z) q ex dd pr' pm2 gg sb1 ff ?_
   intro h' kb S';dsimp only;exact Vg (h h' _ kb S')
theorem Jva{it l a:Addr}{vs:List Value}{ks:List K}(hh:A.handled=none)(hl:ks.length=vs.length)(hk:∀ (i:Nat) k v,ks[i]?=some k->vs[i]?=some v->knd.is k v=true/\v.scannable=true)(hb:vs.length+1 < scanBound)(hne:it≠a)(hla:l≠a)(hil:l≠it) :
 ∀ (m i:Nat) (s:Shared) (R:Result->Shared->Prop),m=vs.length - i->i<=vs.length->s.heap.IsListIter it l i->s.heap.IsList l vs.toArray->Xl knd s.heap a (QH (ks.take i)) ->
  (∀ h' tk,(∀ b o,b≠it->b≠a->s.heap.get? b=some o->h'.get? b=some o)->Xl knd h' a (QH ks)->R (.ok (.ret .none)) { s with heap:=h',toks:=tk }) ->
  codeAny (model prog w) A (.builtin "set.update.loop" ⟨[.ref a,.ref it],[]⟩) R s:=by
 intro m
 induction m with
 | zero =>
  intro i s R hm hi hit hli hS hR;have e:i=vs.length:=by omega
  subst e;refine codeAny_builtin ZT ?_
  rw[Around.under_plainId Zh _];unfold Builtin.«set.update.loop»;dsimp only;refine Va (wpAny_pyNext_list_end hh hit hli (by simp) fun h' eb=>?_)
  dsimp only;rw[take_of_length_le (by omega)]at hS
  refine Vg (hR h' s.toks (fun b o h1 h2 e=>eb b o h1 e) ?_)
  exact hS.keep fun o e=>eb a o (Ne.symm hne) e
 | succ m ih =>
  intro i s R hm hi hit hli hS hR;have hi':i < vs.length:=by omega
  obtain⟨k,hki⟩:∃ k,ks[i]?=some k:=⟨_,Vb (by omega)⟩
  have hvi:vs[i]?=some vs[i]:=Vb hi'
  obtain⟨hkey,hsc⟩:=hk i k _ hki hvi;refine codeAny_builtin ZT ?_
  rw[Around.under_plainId Zh _];unfold Builtin.«set.update.loop»;dsimp only;refine Va (wpAny_pyNext_list_item hit hli (x:=vs[i]) (by simp[hi']) fun h' hit' sb=>?_)
  dsimp only;have hS':Xl knd h' a (QH (ks.take i)):=hS.keep fun o e=>(sb.2 a (Ne.symm hne)).trans e
  have hli':h'.IsList l vs.toArray:=by
   obtain⟨o,ho,r⟩:=hli;exact⟨o,(sb.2 l hil).trans ho,r⟩
  unfold setAdd;refine Va (wpAny_holding (wpAny_holding (Va (knd.pyHash hkey ?_))))
  have hn:(QH (ks.take i)).length+1 < scanBound:=by
   have:=Q8a (ks.take i);rw[length_take]at this
   omega
  refine J7c (s:={ s with heap:=h',toks:=s.toks+1 }) hkey hsc hS' hn fun h2 _ sb2 hS2=>?_
  have et:ks.take (i+1)=ks.take i++[k]:=by rw[take_add_one,hki];rfl
  refine Vg ⟨plainId_quiet Zh _,ih (i+1) _ R (by omega) (by omega) ?_ ?_ ?_ fun h3 tk hk3 hS3=>?_⟩
  ·obtain⟨o,ho,r⟩:=hit'
   exact⟨o,(sb2.2 it hne).trans ho,r⟩
  ·obtain⟨o,ho,r⟩:=hli'
   exact⟨o,(sb2.2 l hla).trans ho,r⟩
  ·rw[et,YT];exact hS2
  ·exact hR h3 tk (fun b o h1 h2 e=>hk3 b o h1 h2 ((sb2.2 b h2).trans ((sb.2 b h1).trans e))) hS3
theorem J5a(a:Value){Q₁:YQ_}
 (h:Q₁ (.ref s.heap.objs.size) { s with heap:=s.heap.push { cls:=.type "set",dict:=none,data:=.set #[] 0 (.fresh 0 0 (ZU w)) } }) :
 codeAny (model prog w) A (.call (.builtin "set.__new__") ⟨[.type "set",a],[]⟩) (wants Q₁ E) s:=by
 refine codeAny_of_tree ?_
 show wpAny _ A.in1 (do checkBuiltinCall "set.__new__" ⟨[.type "set",a],[]⟩;again (.builtin "set.__new__" ⟨[.type "set",a],[]⟩)) _ _ s
 refine Va (wpAny_of_eq (X9 a) (Vg ⟨plainId_quiet F.plain_set_new _,codeAny_builtin F.entry_set_new ?_⟩))
 rw[Around.under_plainId F.plain_set_new _];unfold Builtin.«set.__new__» Builtin.Frozenset.newClass;have hsub:=sub_set_self;obtain⟨hp,g,d,tk,os⟩:=s;dsimp only
 wp_walk
 refine wpAny_askSetting (Vg ?_)
 dsimp only;simp only[newObj];refine Va (wpAny_alloc (Vg ?_))
 exact Vg h
theorem YAb{l:Addr}{vs:List Value}{ks:List K}{Q:YQ_}(hh:A.handled=none)(hli:s.heap.IsList l vs.toArray)(hl:ks.length=vs.length)(hk:∀ (i:Nat) k v,ks[i]?=some k->vs[i]?=some v->knd.is k v=true/\v.scannable=true)(hb:vs.length+1 < scanBound)
 (h:∀ h' tk,(∀ b o,s.heap.get? b=some o->h'.get? b=some o)->Xl knd h' s.heap.objs.size (QH ks)->Q (.ref s.heap.objs.size) { s with heap:=h',toks:=tk }) :
 wpAny (model prog w) A (call (.type "set") [.ref l]) Q E s:=by
 obtain⟨c,tl,hmro⟩:=F.called_set.mro;have hmade:=F.called_set.made;have hsub:=F.called_set.sub;refine wpAny_call (codeAny_of_tree ?_)
 show wpAny _ _ (callAny (.type "set") _) _ _ _;refine Vg ⟨Code.quiet_builtin _ (by decide +kernel),codeAny_builtin F.entry_type_call ?_⟩
 rw[Around.under_plain (weight_type_call_type "set" [.ref l] []) rfl];have h1:=F.called_set.notType;have h2:=F.called_set.canCreate;have hct:=Xv (.ref l)
 repeat (any_goals (first | assumption | wp_step))
 refine codeAny_mono (J5a (.ref l) (E:=E) (Q₁:=fun obj s₁=>obj=.ref s.heap.objs.size/\s₁={ s with heap:=s.heap.push { cls:=.type "set",dict:=none,data:=.set #[] 0 (.fresh 0 0 (ZU w)) } }) ⟨rfl,rfl⟩) fun r s₁ hr=>?_
 cases r with
 | error e=>exact hr
 | ok fl =>
  cases fl with
  | ret obj =>
   obtain⟨rfl,rfl⟩:=hr;have hS:(s.heap.push { cls:=.type "set",dict:=none,data:=.set #[] 0 (.fresh 0 0 (ZU w)) }).get? s.heap.objs.size=some { cls:=.type "set",dict:=none,data:=.set #[] 0 (.fresh 0 0 (ZU w)) }:=Vi _ rfl
   have hT:Shared.TypeIs { s with heap:=s.heap.push { cls:=.type "set",dict:=none,data:=.set #[] 0 (.fresh 0 0 (ZU w)) } } (.ref s.heap.objs.size) "set":=⟨_,hS,rfl⟩
   have hli':=F.called_set.init.lookup;have hbi:=F.called_set.init.bind (.ref s.heap.objs.size)
   repeat (any_goals (first | assumption | wp_step))
   refine codeAny_mono (codeAny_call_builtin (R:=wants (fun r s₂=>r=.none/\Q (.ref s.heap.objs.size) s₂) E) F.called_set.init.plain F.entry_set_init (Xk hT ?_)) fun r₂ s₂ hr₂=>?_
   ·unfold Builtin.«set.__init__» noKeywords
    have hlt:l < s.heap.objs.size:=by obtain⟨o,ho,_⟩:=hli;exact Vh ho
    have hl1:(s.heap.push { cls:=.type "set",dict:=none,data:=.set #[] 0 (.fresh 0 0 (ZU w)) }).IsList l vs.toArray:=by obtain⟨o,ho,r⟩:=hli;exact⟨o,Vd _ ho,r⟩
    have hTl:Shared.TypeIs { s with heap:=s.heap.push { cls:=.type "set",dict:=none,data:=.set #[] 0 (.fresh 0 0 (ZU w)) } } (.ref l) "list":=hl1.typeIs
    unfold Builtin.Frozenset.updateFrom Builtin.Frozenset.isAnySet
    wp_walk
    refine wpAny_of_eq QKa ?_
    show wpAny _ _ (isInstance (Value.ref l) (Value.type "frozenset")) _ _ _;refine wpAny_isInstance hTl Qaa ?_
    rw[if_neg Vf];refine Va (wpAny_typeOf hTl ?_)
    rw[if_neg (by decide)]
    refine Va (wpAny_pyIter_list hl1 ?_)
    have sz:(s.heap.push { cls:=.type "set",dict:=none,data:=.set #[] 0 (.fresh 0 0 (ZU w)) }).objs.size=s.heap.objs.size+1:=Heap.size_push ..;refine Va (wpAny_runValue (Jva (knd:=knd) (A:=A.in1.in1) (it:=(s.heap.push { cls:=.type "set",dict:=none,data:=.set #[] 0 (.fresh 0 0 (ZU w)) }).objs.size) (l:=l) (vs:=vs) (ks:=ks) hh hl hk hb (by rw[sz];exact Nat.succ_ne_self _) (Nat.ne_of_lt hlt) (by rw[sz];exact Nat.ne_of_lt (Nat.lt_succ_of_lt hlt)) _ 0 _ _ rfl (Vk _) ⟨_,Vi _ rfl,rfl,rfl⟩ ?_ ?_ fun h' tk hk' hS'=>?_))
    ·obtain⟨o,ho,r⟩:=hl1
     exact⟨o,Vd _ ho,r⟩
    ·exact⟨_,#[],0,_,[],Vd _ hS,⟨rfl,rfl,rfl⟩,rfl,TbG.fresh _,by rfl,by decide,.nil,.refl _⟩
    ·refine Vg (Vg ⟨rfl,h h' tk (fun b o e=>hk' b o ?_ ?_ (Vd _ (Vd _ e))) hS'⟩)
     ·rw[sz];exact Nat.ne_of_lt (Nat.lt_succ_of_lt (Vh e))
     ·exact Nat.ne_of_lt (Vh e)
   ·cases r₂ with
    | error e=>exact hr₂
    | ok fl₂ =>
     cases fl₂ with
     | ret r =>
      obtain⟨rfl,hq⟩:=hr₂
      repeat (any_goals (first | assumption | wp_step))
     | _=>exact hr₂.elim
  | _=>exact hr.elim
end
theorem Zn:Slot "set_iterator" "__next__" "set_iterator.__next__":=.of (owner:="set_iterator") (n:="__next__") (by rw[typeLookup_type,builtinLookup_eq_fast];kernel_rfl) (by decide +kernel) (by decide +kernel) (by decide +kernel) (by first | exact .inl (by decide +kernel) | exact .inr (by decide +kernel)) (by rw[isSubtype_type];kernel_rfl)
theorem QPa:entryFor table "set_iterator.__next__"=some Builtin.«set_iterator.__next__»:=entryFor_of_tree (by kernel_rfl)
theorem QCb:Manifest.owners.lookup (String.ofList ['r','o','t','a','r','e','t','i','_','t','e','s'].reverse)=some Manifest.sig_set_iterator:=by kernel_rfl
theorem QQa(a:Value):argsOk "set_iterator.__next__" ⟨[a],[]⟩:=by
 unfold argsOk;rw[signature?_of (id:="set_iterator.__next__") (n:=['_','_','t','x','e','n','_','_']) (o:=['r','o','t','a','r','e','t','i','_','t','e','s']) (by kernel_rfl) QCb];kernel_rfl
theorem Qhc:entryFor table "set.__iter__"=some Builtin.«frozenset.__iter__»:=entryFor_alias (id':="frozenset.__iter__") (by kernel_rfl) rfl (by decide +kernel) (by kernel_rfl)
section
variable{prog:Program}{w:World}{A:Around}{E:YQ_}{s:Shared}
theorem Qpa{α:Type}:∀ {l:List α} {i:Nat} (h:i < l.length),(l[i]::l.eraseIdx i).Perm l
 | x::l,0,_=>.refl _
 | x::l,i+1,h=>(List.Perm.swap _ _ _).trans ((Qpa (l:=l) (i:=i) (by simpa using h)).cons x)
theorem ZJb{n:Nat}{Q:Nat->Shared->Prop}(hn:n≠0)(h:∀ i d,i < n->Q i { s with drawn:=d }):wpAny (model prog w) A (choose .order n) Q E s:=by
 intro Γ p _;unfold choose;rw[PySem.Sem.wp_choose];exact⟨hn,h _ _ (Nat.mod_lt _ (Nat.pos_of_ne_zero hn))⟩
theorem ZKb{α:Type}:∀ (n:Nat) (xs:List α) (s:Shared) {Q:List α->Shared->Prop},n=xs.length->(∀ ys d,ys.Perm xs->Q ys { s with drawn:=d })->wpAny (model prog w) A (drawOrder n xs) Q E s:=by
 intro n
 induction n with
 | zero =>
  intro xs s Q hn h;have e:xs=[]:=length_eq_zero_iff.mp hn.symm;subst e;exact Vg (h [] s.drawn (.refl _))
 | succ n ih =>
  intro xs s Q hn h;cases xs with
  | nil=>cases hn
  | cons y ys =>
   unfold drawOrder;refine Va (ZJb (by simp) fun i d hi=>?_)
   have g:(y::ys)[i]?=some (y::ys)[i]:=Vb hi
   rw[g];dsimp only;refine Va (ih ((y::ys).eraseIdx i) _ (by rw[length_eraseIdx_of_lt hi];omega) fun zs d' pz=>Vg ?_)
   exact h _ _ ((pz.cons _).trans (Qpa hi))
def StD(h:Heap)(a:Addr)(es:Array (Int×Value))(ep:Nat)(t:SetTable):Prop:=∃ o,h.get? a=some o/\o.ExactSet/\o.data=.set es ep t
def Zda(h:Heap)(it:Addr)(first:Value)(i:Nat)(a:Addr)(n ep:Nat):Prop:=h.get? it=some { cls:=.type "set_iterator",data:=.fields #[first,.int i 0,.ref a,.int n 0,.int ep 0] }
theorem Zda.typeIs{it a:Addr}{first:Value}{i n ep:Nat}(x:Zda s.heap it first i a n ep):s.TypeIs (.ref it) "set_iterator":=⟨_,x,rfl⟩
theorem ZLb{h:Heap}{it a:Addr}{first:Value}{i n ep:Nat}(x:Zda h it first i a n ep)(k:Nat)(v:Value):(h.update it (Obj.mapFields (·.setIfInBounds k v))).get? it=some { cls:=.type "set_iterator",data:=.fields (#[first,.int i 0,.ref a,.int n 0,.int ep 0].setIfInBounds k v) } :=
 Heap.get?_update_self _ x (by rfl)
theorem JSb{h2:Heap}{Q:Option Value->Shared->Prop}(hh:A.handled=none)(hQ:∀ h',(∀ b o,h2.get? b=some o->h'.get? b=some o)->Q none { s with heap:=h' }) :
 wpAny (model prog w) A.in1 (newExc (.type "StopIteration") [] >>= fun x=>(raiseNew x:Sem Fin)) (fun fin s'=>∃ v,fin=Fin.done (Flow.ret v)/\wpAny (model prog w) A (pure (some v)) Q E s')
  (fun e s'=>wpAny (model prog w) A (do if <- isInstance e (.type "StopIteration") then pure none else throw e) Q E s') { s with heap:=h2 }:=by
 refine Va ?_
 simp only[newExc,newTuple];refine Va (wpAny_newObj_type ?_ (by size_fits))
 refine Va (m:=firstArgMember _ _) (wpAny_of_eq (a:=Value.none) (by first | rfl | (simp only[firstArgMember];rfl)) ?_)
 refine wpAny_newObj_type ?_ (by size_fits)
 simp only[raiseNew];refine Va (wpAny_handled ?_)
 rw[show A.in1.handled=none from hh]
 refine Va (Vg (wpAny_throw ?_))
 refine Va (wpAny_isInstance (T:="StopIteration") (b:=true) ⟨_,Vi _ rfl,rfl⟩ isSubtype_stop ?_)
 exact Vg (hQ _ fun b o e=>Vd _ (Vd _ e))
theorem Yw{h:Heap}{it:Addr}{f:Obj->Obj}{b:Addr}{o:Obj}(hb:b≠it)(e:h.get? b=some o):(h.update it f).get? b=some o:=((Heap.SameBut.update h it f).2 b hb).trans e
section
variable{it a:Addr}{i ep:Nat}{es:Array (Int×Value)}{t:SetTable}{Q:Option Value->Shared->Prop}
theorem YPa{slot nxt:Nat}{x:Value}(hit:Zda s.heap it (.int slot 0) i a es.size ep)(hs:StD s.heap a es ep t)(ft:t.fits es.size=true)
 (hn:∀ (E:YQ_) (R:Option (Value×Nat)->Shared->Prop),R (some (x,nxt)) s->wpAny (model prog w) A.in1 (setNext a slot i ep) R E s)
 (hQ:∀ h',Zda h' it (.int nxt 0) (i+1) a es.size ep->(∀ b o,b≠it->s.heap.get? b=some o->h'.get? b=some o)->Q (some x) { s with heap:=h' }):wpAny (model prog w) A (pyNext (.ref it)) Q E s:=by
 obtain⟨o,q,ex,dd⟩:=hs;unfold pyNext;refine Va (wpAny_attempt (wpAny_callSpecial?_slot (name:=Str.ofString "__next__") hit.typeIs Zn (wpAny_call_entry Zn hit.typeIs QPa ?_ (QQa _))))
 unfold Builtin.«set_iterator.__next__»;refine Va (Vg ?_)
 refine Va (wpAny_fieldsOf hit rfl ?_)
 dsimp only;unfold setEntries;refine Va (Va (wpAny_setState_of q dd ft (Vg ?_)))
 rw[if_neg (by simp)]
 simp only[Int.toNat_natCast];refine Va (hn _ _ ?_)
 dsimp only;refine Va (wpAny_setField hit rfl (by simp) ?_)
 have h1:=ZLb hit 0 (rawInt nxt);refine Va (wpAny_setField h1 rfl (by simp) ?_)
 refine Vg ⟨_,rfl,Vg (hQ _ ?_ fun b o hb e=>Yw hb (Yw hb e))⟩
 exact(Heap.get?_update_self (Obj.mapFields (·.setIfInBounds 1 (rawInt ((i:Int)+1)))) h1 (by rfl)).trans (by simp[Obj.mapFields,rawInt])
theorem Qba{slot:Nat}(hh:A.handled=none)(hit:Zda s.heap it (.int slot 0) i a es.size ep)(hs:StD s.heap a es ep t)(ft:t.fits es.size=true)
 (hn:∀ (E:YQ_) (R:Option (Value×Nat)->Shared->Prop),R none s->wpAny (model prog w) A.in1 (setNext a slot i ep) R E s)
 (hQ:∀ h',(∀ b o,b≠it->s.heap.get? b=some o->h'.get? b=some o)->Q none { s with heap:=h' }):wpAny (model prog w) A (pyNext (.ref it)) Q E s:=by
 obtain⟨o,q,ex,dd⟩:=hs;unfold pyNext;refine Va (wpAny_attempt (wpAny_callSpecial?_slot (name:=Str.ofString "__next__") hit.typeIs Zn (wpAny_call_entry Zn hit.typeIs QPa ?_ (QQa _))))
 unfold Builtin.«set_iterator.__next__»;refine Va (Vg ?_)
 refine Va (wpAny_fieldsOf hit rfl ?_)
 dsimp only;unfold setEntries;refine Va (Va (wpAny_setState_of q dd ft (Vg ?_)))
 rw[if_neg (by simp)]
 simp only[Int.toNat_natCast];refine Va (hn _ _ ?_)
 dsimp only;refine Va (wpAny_setField hit rfl (by simp) ?_)
 exact JSb (s:=s) hh fun h' k=>hQ h' fun b o hb e=>k b o (Yw hb e)
theorem YBb{tp:Addr}{ps:List Nat}{pl:Nat}{h0:Int}{x:Value}(hit:Zda s.heap it (.ref tp) i a es.size ep)(hs:StD s.heap a es ep t)(ft:t.fits es.size=true)
 (ht:IsTup s.heap tp (ps.map fun(k:Nat)=>rawInt k).toArray) (hp:ps[i]?=some pl) (hx:es[pl]?=some (h0,x))
 (hQ:∀ h',Zda h' it (.ref tp) (i+1) a es.size ep->(∀ b o,b≠it->s.heap.get? b=some o->h'.get? b=some o)->Q (some x) { s with heap:=h' }):wpAny (model prog w) A (pyNext (.ref it)) Q E s:=by
 obtain⟨o,q,ex,dd⟩:=hs;obtain⟨ot,hot,hct,nt,hdt⟩:=ht;unfold pyNext;refine Va (wpAny_attempt (wpAny_callSpecial?_slot (name:=Str.ofString "__next__") hit.typeIs Zn (wpAny_call_entry Zn hit.typeIs QPa ?_ (QQa _))))
 unfold Builtin.«set_iterator.__next__»;refine Va (Vg ?_)
 refine Va (wpAny_fieldsOf hit rfl ?_)
 dsimp only;unfold setEntries;refine Va (Va (wpAny_setState_of q dd ft (Vg ?_)))
 rw[if_neg (by simp)]
 simp only[Int.toNat_natCast];refine Va (wpAny_seqItems hot hdt ?_)
 dsimp only;have e1:(ps.map fun(k:Nat)=>rawInt k).toArray[i]?=some (.int (pl:Int) 0):=by simp[hp,rawInt]
 rw[e1];dsimp only;unfold setNextDrawn;refine Va (Va (wpAny_setState_of q dd ft ?_))
 dsimp only;rw[if_neg (by simp),Int.toNat_natCast,hx]
 refine Vg ?_
 refine Va (wpAny_setField hit rfl (by simp) ?_)
 refine Vg ⟨_,rfl,Vg (hQ _ ?_ fun b o hb e=>Yw hb e)⟩
 exact(ZLb hit 1 (rawInt ((i:Int)+1))).trans (by simp[rawInt])
theorem J6a{tp:Addr}{ps:List Nat}(hh:A.handled=none)(hit:Zda s.heap it (.ref tp) i a es.size ep)(hs:StD s.heap a es ep t)(ft:t.fits es.size=true)
 (ht:IsTup s.heap tp (ps.map fun(k:Nat)=>rawInt k).toArray) (hp:ps[i]?=none)
 (hQ:∀ h',(∀ b o,b≠it->s.heap.get? b=some o->h'.get? b=some o)->Q none { s with heap:=h' }):wpAny (model prog w) A (pyNext (.ref it)) Q E s:=by
 obtain⟨o,q,ex,dd⟩:=hs;obtain⟨ot,hot,hct,nt,hdt⟩:=ht;unfold pyNext;refine Va (wpAny_attempt (wpAny_callSpecial?_slot (name:=Str.ofString "__next__") hit.typeIs Zn (wpAny_call_entry Zn hit.typeIs QPa ?_ (QQa _))))
 unfold Builtin.«set_iterator.__next__»;refine Va (Vg ?_)
 refine Va (wpAny_fieldsOf hit rfl ?_)
 dsimp only;unfold setEntries;refine Va (Va (wpAny_setState_of q dd ft (Vg ?_)))
 rw[if_neg (by simp)]
 simp only[Int.toNat_natCast];refine Va (wpAny_seqItems hot hdt ?_)
 dsimp only;have e1:(ps.map fun(k:Nat)=>rawInt k).toArray[i]?=none:=by simpa using hp
 rw[e1];dsimp only;refine Va (wpAny_setField hit rfl (by simp) ?_)
 have h1:=ZLb hit 0 (rawInt 0);refine Va (wpAny_setField h1 rfl (by simp) ?_)
 exact JSb (s:=s) hh fun h' k=>hQ h' fun b o hb e=>k b o (Yw hb (Yw hb e))
end
theorem Zzc{α:Type}(next:Nat->Nat):∀ (fuel k:Nat) (left:List α) (out:Array α),fuel=left.length->(pickOrder.go next fuel k left out).toList.Perm (out.toList++left):=by
 intro fuel
 induction fuel with
 | zero =>
  intro k left out e;have e0:left=[]:=length_eq_zero_iff.mp e.symm;subst e0;unfold pickOrder.go;rw[append_nil]
 | succ fuel ih =>
  intro k left out e;have hl:next k % left.length < left.length:=Nat.mod_lt _ (by omega)
  unfold pickOrder.go;rw[Vb hl]
  dsimp only;refine(ih _ _ _ (by rw[length_eraseIdx_of_lt hl];omega)).trans ?_
  rw[Array.toList_push,Vq];exact List.Perm.append_left _ (Qpa hl)
theorem Zea{α:Type}(next:Nat->Nat)(xs:Array α):(pickOrder next xs).toList.Perm xs.toList:=by
 have:=Zzc next xs.size 0 xs.toList #[] (by simp)
 simpa[pickOrder]using this
section
variable{a:Addr}{i ep slot:Nat}{es:Array (Int×Value)}{t:SetTable}{R:Option (Value×Nat)->Shared->Prop}
theorem QRa(hs:StD s.heap a es ep t)(ft:t.fits es.size=true)(hb:w.params.followText "set-order"=true)
 (h:R (((pickOrder (w.params.setOrder a ep) es)[i]?).map fun e=>(e.2,slot)) s):wpAny (model prog w) A (setNext a slot i ep) R E s:=by
 obtain⟨o,q,ex,dd⟩:=hs;unfold setNext setsByText;refine Va (wpAny_setState_of q dd ft ?_)
 dsimp only;refine Va (Va (wpAny_askSetting (Vg ?_)))
 rw[if_pos (by exact hb)]
 rw[if_neg (by simp)]
 unfold setWalk setsByText;refine Va (Va (wpAny_setState_of q dd ft ?_))
 dsimp only;refine Va (Va (wpAny_askSetting (Vg ?_)))
 rw[if_pos (by exact hb)]
 exact Va (wpAny_askSetting (Vg (Vg h)))
theorem Qca(hs:StD s.heap a es ep t)(ft:t.fits es.size=true)(hb:w.params.followText "set-order"=false)(hl:t.led=true)(hd:(!t.plain && decide (es.size > 1))=false)
 (h:R (match es[SetTable.below t.place slot]?,t.place[SetTable.below t.place slot]? with | some (_,x),some j=>some (x,j+1) | _,_=>none) s):wpAny (model prog w) A (setNext a slot i ep) R E s:=by
 obtain⟨o,q,ex,dd⟩:=hs;unfold setNext setsByText;refine Va (wpAny_setState_of q dd ft ?_)
 dsimp only;refine Va (Va (wpAny_askSetting (Vg ?_)))
 rw[if_neg (by intro z;exact Vf (hb.symm.trans z))]
 rw[if_neg (by intro z;exact Vf (hd.symm.trans z))]
 refine Va ?_
 show wpAny _ _ (if (!t.led && !es.isEmpty)=true then _ else _) _ _ _
 rw[if_neg (by rw[hl];simp)]
 exact Vg (Vg h)
end
end
theorem YQa:Slot "set_iterator" "__iter__" "set_iterator.__iter__":=.of (owner:="set_iterator") (n:="__iter__") (by rw[typeLookup_type,builtinLookup_eq_fast];kernel_rfl) (by decide +kernel) (by decide +kernel) (by decide +kernel) (by first | exact .inl (by decide +kernel) | exact .inr (by decide +kernel)) (by rw[isSubtype_type];kernel_rfl)
theorem YCb:entryFor table "set_iterator.__iter__"=some Builtin.«dict_keyiterator.__iter__»:=entryFor_alias (id':="dict_keyiterator.__iter__") (by kernel_rfl) (by first | rfl | decide +kernel) (by decide +kernel) (by kernel_rfl)
theorem YDb(a:Value):argsOk "set_iterator.__iter__" ⟨[a],[]⟩:=by
 unfold argsOk;rw[signature?_of (id:="set_iterator.__iter__") (n:=['_','_','r','e','t','i','_','_']) (o:=['r','o','t','a','r','e','t','i','_','t','e','s']) (by kernel_rfl) QCb];kernel_rfl
section
variable{prog:Program}{w:World}{A:Around}{E:YQ_}{s:Shared}
theorem Zfa{it a:Addr}{first:Value}{i n ep:Nat}{Q:YQ_}(hit:Zda s.heap it first i a n ep)(h:Q (.ref it) s):wpAny (model prog w) A (pyIter (.ref it)) Q E s:=by
 refine wpAny_pyIter_slot hit.typeIs YQa (wpAny_call_entry YQa hit.typeIs YCb ?_ (YDb _))
 show wpAny _ _ (ret (.ref it)) _ _ s;exact Vg ⟨_,rfl,"set_iterator",_,hit.typeIs,Zn.lookup,h⟩
theorem StD.at'{h h':Heap}{a:Addr}{es:Array (Int×Value)}{ep:Nat}{t:SetTable}(x:StD h a es ep t)(e:∀ o,h.get? a=some o->h'.get? a=some o):StD h' a es ep t:=let ⟨o,q,r⟩:=x;⟨o,e o q,r⟩
section
variable{it a tp:Addr}{ep:Nat}{es:Array (Int×Value)}{t:SetTable}
theorem YEb(hh:A.handled=none)(hne:a≠it)(ft:t.fits es.size=true)(hb:w.params.followText "set-order"=true) :
 Walks prog w A it [it,a] [it] es.size (fun i v=>((pickOrder (w.params.setOrder a ep) es).toList.map (·.2))[i]?=some v) (fun i h=>Zda h it (.int (0:Nat) 0) i a es.size ep/\StD h a es ep t) where
 sub:=fun b hb=>by simp at hb;simp[hb]
 frame:=fun _ _ _ st hk=>⟨hk it (by simp) _ st.1,st.2.at' fun o e=>hk a (by simp) o e⟩
 item:=fun i s Q E hi st hQ=>by
  have hl:(pickOrder (w.params.setOrder a ep) es).size=es.size:=by
   have:=(Zea (w.params.setOrder a ep) es).length_eq
   simpa using this
  have g:(pickOrder (w.params.setOrder a ep) es)[i]?=some (pickOrder (w.params.setOrder a ep) es)[i]:=Array.getElem?_eq_getElem (by omega)
  refine YPa (nxt:=0) (x:=(pickOrder (w.params.setOrder a ep) es)[i].2) st.1 st.2 ft (fun E R hR=>QRa st.2 ft hb (by rw[g];exact hR)) fun h' hit' hk=>?_
  exact hQ _ h' s.toks (by rw[getElem?_map,Array.getElem?_toList,g];rfl) ⟨hit',st.2.at' fun o e=>hk a o hne e⟩ fun b o hb e=>hk b o (fun z=>hb (by simp[z])) e
 done:=fun s Q E st hQ=>by
  have hl:(pickOrder (w.params.setOrder a ep) es).size=es.size:=by
   have:=(Zea (w.params.setOrder a ep) es).length_eq
   simpa using this
  exact Qba hh st.1 st.2 ft (fun E R hR=>QRa st.2 ft hb (by rw[Array.getElem?_eq_none (by omega)];exact hR)) fun h' hk=>hQ h' s.toks fun b o hb e=>hk b o (fun z=>hb (by simp[z])) e
 self:=fun _ _ _ _ st hQ=>Zfa st.1 hQ
theorem ZMb(hh:A.handled=none)(hne:a≠it)(ft:t.fits es.size=true)(hb:w.params.followText "set-order"=false)(tg:TbG (ZU w) t)(hd:(!t.plain && decide (es.size > 1))=false) :
 Walks prog w A it [it,a] [it] es.size (fun i v=>(es.toList.map (·.2))[i]?=some v) (fun i h=>(∃ slot:Nat,Zda h it (.int slot 0) i a es.size ep/\SetTable.below t.place slot=i)/\StD h a es ep t) where
 sub:=fun b hb=>by simp at hb;simp[hb]
 frame:=fun _ _ _ st hk=>⟨let ⟨sl,x,y⟩:=st.1;⟨sl,hk it (by simp) _ x,y⟩,st.2.at' fun o e=>hk a (by simp) o e⟩
 item:=fun i s Q E hi st hQ=>by
  obtain⟨⟨slot,hit,hsl⟩,hs⟩:=st;have hl:t.place.size=es.size:=by
   simp only[SetTable.fits,Bool.and_eq_true,beq_iff_eq,decide_eq_true_eq]at ft;exact ft.1
  have led:t.led=true:=tg.led_.trans (by unfold ZU;rw[hb];rfl)
  have g:es[i]?=some es[i]:=Array.getElem?_eq_getElem hi
  have gp:t.place[i]?=some (t.place[i]'(by omega)):=Array.getElem?_eq_getElem (by omega)
  refine YPa (nxt:=t.place[i]'(by omega)+1) (x:=es[i].2) hit hs ft (fun E R hR=>Qca hs ft hb led hd (by rw[hsl,g,gp];exact hR)) fun h' hit' hk=>?_
  exact hQ _ h' s.toks (by rw[getElem?_map,Array.getElem?_toList,g];rfl) ⟨⟨_,hit',ZFb tg.ris gp⟩,hs.at' fun o e=>hk a o hne e⟩ fun b o hb e=>hk b o (fun z=>hb (by simp[z])) e
 done:=fun s Q E st hQ=>by
  obtain⟨⟨slot,hit,hsl⟩,hs⟩:=st;have led:t.led=true:=tg.led_.trans (by unfold ZU;rw[hb];rfl)
  exact Qba hh hit hs ft (fun E R hR=>Qca hs ft hb led hd (by rw[hsl,Array.getElem?_eq_none (Ve _)];exact hR)) fun h' hk=>hQ h' s.toks fun b o hb e=>hk b o (fun z=>hb (by simp[z])) e
 self:=fun _ _ _ _ st hQ=>let ⟨_,x,_⟩:=st.1;Zfa x hQ
theorem Qic{h h':Heap}{tp:Addr}{its:Array Value}(x:IsTup h tp its)(e:∀ o,h.get? tp=some o->h'.get? tp=some o):IsTup h' tp its:=let ⟨o,q,r⟩:=x;⟨o,e o q,r⟩
theorem YFb{ps:List Nat}(hh:A.handled=none)(hne:a≠it)(hnt:tp≠it)(ft:t.fits es.size=true)(hp:ps.Perm (List.range es.size)) :
 Walks prog w A it [it,a,tp] [it] es.size (fun i v=>(ps.map fun k=>(es.toList.getD k (0,.none)).2)[i]?=some v) (fun i h=>Zda h it (.ref tp) i a es.size ep/\StD h a es ep t/\IsTup h tp (ps.map fun(k:Nat)=>rawInt k).toArray) where
 sub:=fun b hb=>by simp at hb;simp[hb]
 frame:=fun _ _ _ st hk=>⟨hk it (by simp) _ st.1,st.2.1.at' fun o e=>hk a (by simp) o e,Qic st.2.2 fun o e=>hk tp (by simp) o e⟩
 item:=fun i s Q E hi st hQ=>by
  have hl:ps.length=es.size:=by rw[hp.length_eq,length_range]
  have g:ps[i]?=some (ps[i]'(by omega)):=Vb (by omega)
  have hm:ps[i]'(by omega) < es.size:=mem_range.mp (hp.mem_iff.mp (getElem_mem _))
  have ge:es[ps[i]'(by omega)]?=some (es[ps[i]'(by omega)].1,es[ps[i]'(by omega)].2):=Array.getElem?_eq_getElem hm
  refine YBb (x:=(es[ps[i]'(by omega)]).2) st.1 st.2.1 ft st.2.2 g ge fun h' hit' hk=>?_
  refine hQ _ h' s.toks ?_ ⟨hit',st.2.1.at' fun o e=>hk a o hne e,Qic st.2.2 fun o e=>hk tp o hnt e⟩ fun b o hb e=>hk b o (fun z=>hb (by simp[z])) e
  rw[getElem?_map,g]
  simp[List.getD,hm]
 done:=fun s Q E st hQ=>by
  have hl:ps.length=es.size:=by rw[hp.length_eq,length_range]
  exact J6a hh st.1 st.2.1 ft st.2.2 (getElem?_eq_none (by omega)) fun h' hk=>hQ h' s.toks fun b o hb e=>hk b o (fun z=>hb (by simp[z])) e
 self:=fun _ _ _ _ st hQ=>Zfa st.1 hQ
theorem YGb{ps:List Nat}(hp:ps.Perm (List.range es.size)):(ps.map fun k=>(es.toList.getD k (0,.none)).2).Perm (es.toList.map (·.2)):=by
 refine(hp.map _).trans ?_
 have:(List.range es.size).map (fun k=>(es.toList.getD k (0,.none)).2)=es.toList.map (·.2):=by
  apply ext_getElem?
  intro k;rw[getElem?_map,getElem?_map]
  rcases Nat.lt_or_ge k es.size with hk | hk
  ·rw[getElem?_range hk,Vb (show k < es.toList.length by simpa using hk)]
   simp[List.getD,hk]
  ·rw[getElem?_eq_none (by simpa using hk),getElem?_eq_none (show es.toList.length<=k by simpa using hk)]
   rfl
 rw[this]
theorem Qjc{Q:YQ_}(hh:A.handled=none)(hs:StD s.heap a es ep t)(ft:t.fits es.size=true)(tg:TbG (ZU w) t)(hz:es.size<=sizeLine)
 (h:∀ (it:Addr) (fp:List Addr) (vs:List Value) (St:Nat->Heap->Prop) (h':Heap) (d:Drawn),vs.Perm (es.toList.map (·.2))->(∀ b o,s.heap.get? b=some o->h'.get? b=some o)->s.heap.objs.size<=it->(∀ b∈fp,b=a\/s.heap.objs.size<=b) ->
  Walks prog w A it fp [it] es.size (fun i v=>vs[i]?=some v) St->St 0 h'->Q (.ref it) { s with heap:=h',drawn:=d }) :
 wpAny (model prog w) A (pyIter (.ref a)) Q E s:=by
 obtain⟨o,q,ex,dd⟩:=id hs;have hlt:a < s.heap.objs.size:=Vh q;have hT:s.TypeIs (.ref a) "set":=⟨o,q,ex.1⟩;refine wpAny_pyIter_slot hT F.slot_set_iter (wpAny_call_entry F.slot_set_iter hT Qhc ?_ (F.args_set_iter_1 _))
 unfold Builtin.«frozenset.__iter__» Builtin.Frozenset.slot0 Builtin.Frozenset.sizeOf setEntries setDrawn setsByText setEpoch;refine Va (Va (Vg (Vg ?_)))
 refine Va (Va (Va (wpAny_setState_of q dd ft (Vg (Vg ?_)))))
 refine Va (Va (wpAny_setState_of q dd ft ?_))
 dsimp only;refine Va (Va (wpAny_askSetting (Vg ?_)))
 refine Vg ?_
 have push_fp:∀ b∈[s.heap.objs.size,a],b=a\/s.heap.objs.size<=b:=fun b hb=>by
  simp only[mem_cons,not_mem_nil,or_false]at hb
  rcases hb with z | z
  ·exact .inr (by rw[z];exact Ve _)
  ·exact .inl z
 change wpAny _ _ (if (!w.params.followText "set-order" && (!t.plain && decide (es.size > 1)))=true then _ else _) _ _ _
 cases hb:w.params.followText "set-order" with
 | true =>
  rw[if_neg (by simp)]
  refine Va (Vg ?_)
  refine Va (Va (wpAny_setState_of q dd ft (Vg ?_)))
  refine Va (wpAny_newObj_type ?_)
  refine Vg ⟨_,rfl,"set_iterator",_,⟨_,Vi _ rfl,rfl⟩,Zn.lookup,?_⟩
  exact h _ _ _ _ _ s.drawn ((Zea (w.params.setOrder a ep) es).map _) (fun b o e=>Vd _ e) (Ve _) push_fp (YEb (t:=t) hh (Nat.ne_of_lt hlt) ft hb) ⟨Vi _ rfl,hs.at' fun o e=>Vd _ e⟩
 | false =>
  cases hd:(!t.plain && decide (es.size > 1)) with
  | false =>
   rw[if_neg (by simp)]
   refine Va (Vg ?_)
   refine Va (Va (wpAny_setState_of q dd ft (Vg ?_)))
   refine Va (wpAny_newObj_type ?_)
   refine Vg ⟨_,rfl,"set_iterator",_,⟨_,Vi _ rfl,rfl⟩,Zn.lookup,?_⟩
   exact h _ _ _ _ _ s.drawn (.refl _) (fun b o e=>Vd _ e) (Ve _) push_fp (ZMb hh (Nat.ne_of_lt hlt) ft hb tg hd) ⟨⟨0,Vi _ rfl,ZEb tg.ris⟩,hs.at' fun o e=>Vd _ e⟩
  | true =>
   rw[if_pos (by simp)]
   refine Va (ZKb es.size (List.range es.size) s (by simp) fun ps d pp=>?_)
   have lp:ps.length=es.size:=by rw[pp.length_eq,length_range]
   refine Va (wpAny_newTuple ?_ (by rw[Vr,lp];exact hz))
   have q1:=Vd { cls:=.type "tuple",data:=.seq (ps.map fun(k:Nat)=>rawInt k).toArray } q
   refine Va (Va (wpAny_setState_of q1 dd ft (Vg ?_)))
   refine Va (wpAny_newObj_type ?_)
   refine Vg ⟨_,rfl,"set_iterator",_,⟨_,Vi _ rfl,rfl⟩,Zn.lookup,?_⟩
   have sz:(s.heap.push { cls:=.type "tuple",data:=.seq (ps.map fun(k:Nat)=>rawInt k).toArray }).objs.size=s.heap.objs.size+1:=Heap.size_push ..
   have up:∀ b o,s.heap.get? b=some o->((s.heap.push { cls:=.type "tuple",data:=.seq (ps.map fun(k:Nat)=>rawInt k).toArray }).push { cls:=.type "set_iterator",data:=.fields [.ref s.heap.objs.size,rawInt 0,.ref a,rawInt es.size,rawInt ep].toArray }).get? b=some o:=fun b o e=>Vd _ (Vd _ e)
   refine h _ _ _ _ _ d (YGb pp) up (by rw[sz];exact Nat.le_succ _) ?_ (YFb (a:=a) (tp:=s.heap.objs.size) (t:=t) (ep:=ep) hh (by rw[sz];exact Nat.ne_of_lt (Nat.lt_succ_of_lt hlt)) (by rw[sz];exact Nat.ne_of_lt (Nat.lt_succ_self _)) ft pp) ⟨Vi _ rfl,hs.at' fun o e=>up a o e,⟨_,Vd _ (Vi _ rfl),rfl,_,rfl⟩⟩
   intro b hb';simp only[mem_cons,not_mem_nil,or_false]at hb'
   rcases hb' with z | z | z
   ·exact .inr (by rw[z,sz];exact Nat.le_succ _)
   ·exact .inl z
   ·exact .inr (by rw[z];exact Ve _)
end
theorem Qkc{r:Addr}{Q:Bool->Shared->Prop}(hT:s.TypeIs (.ref r) "set")(h:Q false s):wpAny (model prog w) A (Builtin.List.listLengthHint (.ref r)) Q E s:=by
 unfold Builtin.List.listLengthHint;refine Va (wpAny_specialOf hT F.slot_set_len.lookup ?_)
 generalize hid:("set.__len__":String)=id0
 wp_delta
 rw[show splitId id0=some ("set","__len__") from by subst hid;decide +kernel]
 subst hid;refine Va (wpAny_isInstance (T:="set") (b:=true) hT (by rw[isSubtype_type];kernel_rfl) ?_)
 refine wpAny_ite_split (fun z=>absurd z (by decide)) (fun _=>?_)
 refine wpAny_ite_split (fun _=>?_) (fun z=>absurd (by decide +kernel) z)
 exact Va (wpAny_typeOf hT (Vg h))
section
variable{a:Addr}{ep:Nat}{es:Array (Int×Value)}{t:SetTable}
theorem ZAc{R:Result->Shared->Prop}(hh:A.handled=none)(hs:StD s.heap a es ep t)(ft:t.fits es.size=true)(tg:TbG (ZU w) t)(hz:es.size<=sizeLine)(S:Addr)(hSa:S≠a)(res:Value)(c0:Nat)(hS:s.heap.get? S=some { cls:=.type "list",data:=.seq #[] c0 })
 (hR:∀ (h':Heap) (tk:Nat) (d:Drawn) (vs:List Value) (c':Nat),vs.Perm (es.toList.map (·.2))->(∀ b o,b≠S->s.heap.get? b=some o->h'.get? b=some o)->h'.get? S=some { cls:=.type "list",dict:=none,data:=.seq vs.toArray c',slots:=#[] }->R (.ok (.ret res)) { s with heap:=h',toks:=tk,drawn:=d }) :
 wpAny (model prog w) A.in1 (Builtin.List.listExtendWith (.ref S) (.ref a) res)
  (fun fin s'=>match fin with | .done f=>R (.ok f) s' | .again c'=>c'.quiet=true/\codeAny (model prog w) A c' R s') (fun e s'=>R (.error e) s') s:=by
 have hT:s.TypeIs (.ref a) "set":=let ⟨o,q,ex,_⟩:=hs;⟨o,q,ex.1⟩
 unfold Builtin.List.listExtendWith;refine Va (wpAny_typeOf (T:="set") hT ?_)
 have h1:Builtin.List.listSameRef (.ref S) (.ref a)=false:=by simp[Builtin.List.listSameRef,hSa]
 have h2:(Value.type "set" == Value.type "list")=false:=by decide
 have h3:(Value.type "set" == Value.type "tuple")=false:=by decide
 simp only[h1,h2,h3,Bool.or_false,Bool.false_eq_true,if_false];refine Va (Qjc (A:=A.in1) hh hs ft tg hz fun it fp vs St hp d pv kp ge hfp W st=>?_)
 have hSlt:=Vh hS;have hSf:S∉fp:=fun z=>by
  rcases hfp S z with e | e
  ·exact hSa e
  ·exact absurd hSlt (Nat.not_lt.mpr e)
 have lv:vs.length=es.size:=by rw[pv.length_eq,Vr,Array.length_toList]
 have key:∀ (h:Heap) (c1 tk:Nat),St 0 h->(∀ b o,b≠S->s.heap.get? b=some o->h.get? b=some o) ->
  h.get? S=some { cls:=.type "list",data:=.seq #[] c1 }->codeAny (model prog w) A (.builtin "list.extend.loop" ⟨[.ref S,.ref it,res],[]⟩) R { s with heap:=h,toks:=tk,drawn:=d }:=by
  intro h c1 tk hst hk hS1;refine codeAny_extend_loopS W.toS hz S hSf res es.size 0 _ #[] c1 rfl (Vk _) hst hS1 (ItemsOf.nil _) fun s' acc' c' hm hS' hacc=>?_
  rw[Moved.eq_with hm];have ea:acc'=vs.toArray:=by
   apply Array.toList_inj.mp
   apply ext_getElem?
   intro k
   rcases Nat.lt_or_ge k acc'.size with q | q
   ·have g:=Array.getElem?_eq_getElem q
    have:=hacc.2 k _ g;rw[Array.getElem?_toList,g]
    exact this.symm
   ·rw[Array.getElem?_toList,Array.getElem?_eq_none q,getElem?_eq_none (by have:=hacc.1;simp;omega)]
  subst ea;refine hR s'.heap s'.toks d vs c' pv (fun b o hb e=>hm.heap b o (fun hmem=>?_) (hk b o hb e)) hS'
  rcases mem_cons.mp hmem with e' | hmem
  ·exact hb e'
  ·have hlt':=Vh e
   rw[mem_singleton.mp hmem]at hlt';exact absurd hlt' (Nat.not_lt.mpr ge)
 have hT':Shared.TypeIs { s with heap:=hp,drawn:=d } (.ref a) "set":=let ⟨o,q,ex,_⟩:=hs;⟨o,kp a o q,ex.1⟩
 refine Va (wpAny_holding (Qkc (s:={ s with heap:=hp,drawn:=d }) hT' ?_))
 have hS1:=kp S _ hS;refine wpAny_ite_split (fun _=>?_) (fun _=>Vg ⟨plainId_quiet F.plain_extend_loop _,key hp c0 s.toks st (fun b o _ e=>kp b o e) hS1⟩)
 refine Va (wpAny_rule ?_)
 refine Va ?_
 show wpAny _ _ (updateSeq S (·.push .none) >>= fun _=>updateSeq S (·.pop)) _ _ _
 refine Va (wpAny_updateSeq hS1 rfl ?_)
 have hS2:=Heap.get?_update_self (Obj.mapSeq (·.push Value.none)) hS1 rfl
 refine wpAny_updateSeq (hz:=by seq_fits) hS2 rfl ?_
 have hS3:=Heap.get?_update_self (Obj.mapSeq (·.pop)) hS2 rfl
 refine Vg ⟨plainId_quiet F.plain_extend_loop _,key _ _ _ (W.frame 0 _ _ st fun b hb o e=>?_) (fun b o hb e=>?_) hS3⟩
 ·have hbS:b≠S:=fun z=>hSf (z ▸ hb)
  exact(Heap.get?_update_other _ _ (Ne.symm hbS)).trans ((Heap.get?_update_other _ _ (Ne.symm hbS)).trans e)
 ·exact(Heap.get?_update_other _ _ (Ne.symm hb)).trans ((Heap.get?_update_other _ _ (Ne.symm hb)).trans (kp b o e))
theorem J7a{R:Result->Shared->Prop}(hh:A.handled=none)(hs:StD s.heap a es ep t)(ft:t.fits es.size=true)(tg:TbG (ZU w) t)(hz:es.size<=sizeLine)
 (hR:∀ (h':Heap) (tk:Nat) (d:Drawn) (vs:List Value) (c':Nat),vs.Perm (es.toList.map (·.2))->(∀ b o,s.heap.get? b=some o->h'.get? b=some o)->h'.get? s.heap.objs.size=some { cls:=.type "list",dict:=none,data:=.seq vs.toArray c',slots:=#[] }->R (.ok (.ret (.ref s.heap.objs.size))) { s with heap:=h',toks:=tk,drawn:=d }) :
 codeAny (model prog w) A (.builtin "proto.collect" ⟨[.ref a],[]⟩) R s:=by
 have hlt:a < s.heap.objs.size:=let ⟨o,q,_⟩:=hs;Vh q
 refine codeAny_builtin F.entry_proto_collect ?_
 rw[Around.under_plainId F.plain_proto_collect _];show wpAny _ A.in1 (newList [] >>= fun l=>again (.builtin "list.__iadd__" ⟨[l,.ref a],[]⟩)) _ _ s
 refine Va (wpAny_newObj_type ?_)
 refine Vg ⟨plainId_quiet F.plain_list_iadd _,codeAny_builtin F.entry_list_iadd ?_⟩
 rw[Around.under_plainId F.plain_list_iadd _];have g1:(s.heap.push { cls:=.type "list",data:=.seq ([]:List Value).toArray }).get? s.heap.objs.size=some { cls:=.type "list",data:=.seq ([]:List Value).toArray }:=Vi _ rfl
 show wpAny _ A.in1 (Builtin.List.listExtendWith (.ref s.heap.objs.size) (.ref a) (.ref s.heap.objs.size)) _ _ _;exact ZAc (R:=R) (s:={ s with heap:=s.heap.push { cls:=.type "list",data:=.seq ([]:List Value).toArray } }) hh (hs.at' fun o e=>Vd _ e) ft tg hz _ (Nat.ne_of_gt hlt) _ _ g1
  fun h' tk d vs c' pv kp g=>hR h' tk d vs c' pv (fun b o e=>kp b o (Nat.ne_of_lt (Vh e)) (Vd _ e)) g
theorem QDb{Q:List Value->Shared->Prop}(hh:A.handled=none)(hs:StD s.heap a es ep t)(ft:t.fits es.size=true)(tg:TbG (ZU w) t)(hz:es.size<=sizeLine)
 (hQ:∀ (h':Heap) (tk:Nat) (d:Drawn) (vs:List Value),vs.Perm (es.toList.map (·.2))->(∀ b o,s.heap.get? b=some o->h'.get? b=some o)->Q vs { s with heap:=h',toks:=tk,drawn:=d }):wpAny (model prog w) A (collect (.ref a)) Q E s:=by
 unfold collect;refine Va (wpAny_runValue (J7a hh hs ft tg hz fun h' tk d vs c' pv kp g=>?_))
 show wpAny _ A (load s.heap.objs.size >>= _) _ _ _;refine Va (wpAny_load g ?_)
 exact Vg (hQ h' tk d vs pv kp)
end
end
theorem ZFa.perm{xs ys:List V}{lt:V->V->Bool}(h:ZFa xs lt)(p:ys.Perm xs):ZFa ys lt :=
 ⟨let ⟨T,a,b⟩:=h.ty;⟨T,a,fun v hv=>b v (p.mem_iff.mp hv)⟩,fun v hv v' hv'=>h.ask v (p.mem_iff.mp hv) v' (p.mem_iff.mp hv'),
  ⟨fun a ha=>h.swo.1 a (p.mem_iff.mp ha),fun a ha b hb c hc=>h.swo.2 a (p.mem_iff.mp ha) b (p.mem_iff.mp hb) c (p.mem_iff.mp hc),fun a ha b hb c hc=>h.swo.3 a (p.mem_iff.mp ha) b (p.mem_iff.mp hb) c (p.mem_iff.mp hc)⟩⟩
section
variable{X:Cx}{pins:YP_}{σ:St}{H:Hp}{s:Shared}{A:Around}{E:YQ_}
theorem QEb{l:Addr}{xs0:List V}{lt:V->V->Bool}{Q:VK}(hz0:xs0.length<=sizeLine)(h640:xs0.length < 1000)(hK0:ZFa xs0 lt)
 (hc:∀ (E:YQ_) (R:List Value->Shared->Prop),(∀ xs vs s',xs.Perm xs0->Qr xs vs->Inv X pins σ H s'->R vs s')->wpAny (model X.prog X.w) X.A.in1 (collect (.ref l)) R E s)
 (h0:∀ D H' ys,Qk H H'->H D=none->H' D=some (.lst ys)->ys.Perm xs0->ys.Pairwise (fun a b=>lt b a=false)->Q (.ref D) H') :
 wpAny (model X.prog X.w) X.A (call (.builtin "sorted") [.ref l]) (EP X pins σ Q) X.xe s:=by
 refine Calls.call_function_entry kind_sorted plain_sorted entry_sorted (args_sorted1 _) ?_
 unfold Builtin.«sorted»;refine Va (m:=checkCount "sorted" 1 1 _) (Vg ?_)
 refine Va (hc _ _ fun xs vs s' pm rv I=>?_)
 have hz:xs.length<=sizeLine:=by rw[pm.length_eq];exact hz0
 have h64:xs.length < 1000:=by rw[pm.length_eq];exact h640
 have hK:ZFa xs lt:=hK0.perm pm;have h:∀ D H' ys,Qk H H'->H D=none->H' D=some (.lst ys)->ys.Perm xs->ys.Pairwise (fun a b=>lt b a=false)->Q (.ref D) H':=fun D H' ys h1 h2 h3 h4 h5=>h0 D H' ys h1 h2 h3 (h4.trans pm) h5
 clear hc h0;generalize s'=s at I ⊢;have hlv:=rv.length;have hvz:vs.length<=sizeLine:=by rw[<- hlv];exact hz
 refine Va (wpAny_newList ?_ hvz)
 have hoL:=Vi s.heap (o:=seqObj "list" vs.toArray 0) rfl
 have I1:Inv X pins σ H { s with heap:=s.heap.push (seqObj "list" vs.toArray 0) }:=I.kept (t':=s.toks) fun b o q=>Vd _ q
 have fD:Qja X pins H s.heap.objs.size:=I.fpOk (Ve _) (I.hok.fresh (Ve _));show wpAny _ _ _ _ _ { s with heap:=s.heap.push (seqObj "list" vs.toArray 0) }
 generalize s.heap.push (seqObj "list" vs.toArray 0)=h1 at hoL I1;generalize s.heap.objs.size=D at hoL fD;refine Va (wpAny_holding (wpAny_call_entry slot_list_sort ⟨_,hoL,rfl⟩ entry_list_sort ?body (args_list_sort _)))
 case body =>
  rw[list_sort_plain];have s1:=Heap.SameBut.update h1 D (Obj.mapSeq fun _=>(#[]:Array Value))
  obtain⟨e1,ho1⟩:∃ e1,(h1.update D (Obj.mapSeq fun _=>(#[]:Array Value))).get? D=some (seqObj "list" #[] e1):=⟨_,get?_update_seq hoL fun _=>#[]⟩
  have I2:Inv X pins σ H { s with heap:=h1.update D (Obj.mapSeq fun _=>(#[]:Array Value)) }:=I1.turned (t':=s.toks) (fun b o hb q=>(s1.2 b hb).trans q) fD.1 fD.2.1 fD.2.2.2.1 fD.2.2.2.2.1 fD.2.2.2.2.2
  have I3:Inv X (pins++[(D,seqObj "list" #[] e1)]) σ H { s with heap:=h1.update D (Obj.mapSeq fun _=>(#[]:Array Value)) }:=I2.pins_of fun p hp=>(Vl.mp hp).elim (fun z=>I2.pin p (Vp _ z)) fun z=>by
   have z:p=(D,seqObj "list" #[] e1):=by simpa using z
   subst z;exact⟨ho1,fD.1,fD.2.1,fD.2.2.1,fun v q=>by cases q⟩
  have I5:Inv X (pins++[(D,seqObj "list" #[] e1)]) σ H { s with heap:=((h1.update D (Obj.mapSeq fun _=>(#[]:Array Value))).push (seqObj "tuple" vs.toArray 0)).push (seqObj "list" #[] 0) }:=I3.kept (t':=s.toks) fun b u q=>Vd _ (Vd _ q)
  refine Va (listItems_at hoL rfl ?_)
  refine Va (listUpdate_at hoL rfl ?_ (by rw[Vn];exact hvz) (Vk _))
  refine Va (seqEpoch_at ho1 rfl ?_)
  refine Va (wpAny_newTuple ?_ (by show vs.length<=_;exact hvz))
  refine Va (wpAny_newList ?_ (Vk _))
  refine wpAny_holding ?_
  show wpAny (model X.prog X.w) _ _ _ _ { s with heap:=((h1.update D (Obj.mapSeq fun _=>(#[]:Array Value))).push (seqObj "tuple" vs.toArray 0)).push (seqObj "list" #[] 0) }
  generalize ((h1.update D (Obj.mapSeq fun _=>(#[]:Array Value))).push (seqObj "tuple" vs.toArray 0)).push (seqObj "list" #[] 0)=h2 at I5
  dsimp only;have tail:∀ {st:SortSt} {out:List Value} {ys:List V},(arrOf st).map (·.2)=List.toArray out->failedOf st=none->Qr ys out->ys.length < 1000->ys.Perm xs->ys.Pairwise (fun a b=>lt b a=false) ->
   wpAny (model X.prog X.w) X.A.in1.in1 (do
    let ep <- seqEpoch D
    Builtin.List.listUpdate (Value.ref D) fun x=>Array.map (fun x=>x.snd) (arrOf st)
    match failedOf st with
    | some e=>do
     rule "list.sort.comparison-raised"
     throw e
     if (ep != e1)=true then do
         rule "list.sort.modified"
         raiseErrorWords "ValueError" "list modified during sort"
         ret Value.none
      else ret Value.none
    | x =>
     if (ep != e1)=true then do
      rule "list.sort.modified"
      raiseErrorWords "ValueError" "list modified during sort"
      ret Value.none
     else ret Value.none)
    (fun fin s'=>∃ v,fin=Fin.done (Flow.ret v)/\wpAny (model X.prog X.w) X.A.in1 (ret (Value.ref D)) (fun fin s'=>∃ v,fin=Fin.done (Flow.ret v)/\EP X pins σ Q v s') X.xe s')
    X.xe { s with heap:=h2 }:=by
   intro st out ys hout hf ro hlo p1 p2;have hD:=(I5.pin (D,seqObj "list" #[] e1) (Vp _ (Vp _ (by simp)))).1
   have s2:=Heap.SameBut.update h2 D (Obj.mapSeq fun _=>List.toArray out)
   obtain⟨c2,hc2⟩:∃ c2,(h2.update D (Obj.mapSeq fun _=>List.toArray out)).get? D=some (seqObj "list" (List.toArray out) c2):=⟨_,get?_update_seq hD fun _=>List.toArray out⟩
   have ho:out.length < 1000:=by rw[<- ro.length];exact hlo
   rw[hout];refine Va (seqEpoch_at hD rfl ?_)
   refine Va (listUpdate_at hD rfl ?_ (Vk _) (by rw[Vn];exact Nat.le_succ_of_le (Vv (Qv (by omega)))))
   rw[hf];simp only[bne_self_eq_false,Bool.false_eq_true,if_false];have I6:Inv X pins σ (upd H D (.lst ys)) { s with heap:=h2.update D (Obj.mapSeq fun _=>List.toArray out) }:=(I5.unpinned).adopt (t':=s.toks) fD (fun b u hb q=>(s2.2 b hb).trans q) ⟨Vv (Qv (by omega)),out,c2,ro,hc2⟩
   exact Vg ⟨_,rfl,Vg ⟨_,rfl,.ref D,_,I6,rfl,h D _ ys ((Qk.refl _).updL fD.1 _) fD.1 Qa p1 p2⟩⟩
  by_cases h2':vs.toArray.size < 2
  ·rw[if_pos h2',if_pos h2']
   refine Va (Vg ?_)
   rw[StateT.run_pure];refine Va (Vg ?_)
   refine tail (st:=SortSt.mk' general' (vs.toArray.zip vs.toArray) #[] 7 none) (out:=vs) ?_ rfl rv (by omega) (List.Perm.refl _) (Jda (by rw[Vn]at h2';omega))
   apply Array.toList_inj.mp
   show(Array.map (·.2) (vs.toArray.zip vs.toArray)).toList=_;rw[Array.toList_map,ksk_zip];show List.map (·.2) (vs.zip vs)=vs;exact map_snd_zip (by omega)
  ·rw[if_neg h2',if_neg h2']
   rw[Vn]at h2';obtain⟨T,hT1,hT⟩:=hK.ty;have mem:∀ v∈vs,∃ x∈xs,Qq x v:=fun v hv=>by
    obtain⟨i,hi,rfl⟩:=mem_iff_getElem.mp hv;obtain⟨u,eu,ru⟩:=rv.get (i:=i) (x:=xs[i]'(by omega)) (Vb _)
    rw[Vb hi]at eu
    cases eu;exact⟨_,getElem_mem _,ru⟩
   refine Va (kas_kind (T:=.type T) (by omega) (fun v hv=>?_) hT1 (by simp) ?_)
   ·obtain⟨x,hx,rx⟩:=mem v hv
    exact Looks.of_pure (hT x hx v rx)
   have hn:0 < xs.length:=by omega
   have at_:∀ i,i < xs.length->Qq (xs.getD i .non) (vs.getD i Value.none)/\xs.getD i .non∈xs:=fun i hi=>by
    obtain⟨u,eu,ru⟩:=rv.get (i:=i) (x:=xs[i]) (Vb _)
    have e1:xs.getD i .non=xs[i]:=by simp[hi]
    have e2:vs.getD i Value.none=u:=by simp[List.getD,eu]
    rw[e1,e2];exact⟨ru,getElem_mem _⟩
   have run:=SortB.Xka (prog:=X.prog) (w:=X.w) (A:=X.A.in1.in1) (E:=X.xe) (κ:=oneType') (ks:=vs) (vs:=vs) (s:={ s with heap:=h2 }) (r:=fun i=>xs.countP (lt · (xs.getD i .non))) rfl (by omega)
    (fun i j C hi hj hC=>by
     rw[<- hlv]at hi hj;rw[hK.swo.rank (at_ i hi).2 (at_ j hj).2]at hC;unfold kas_ask;exact hK.ask _ (at_ i hi).2 _ (at_ j hj).2 _ _ (at_ i hi).1 (at_ j hj).1 _ _ _ _ _ _ hC)
    (fun i j hi hj e=>by
     rw[<- hlv]at hi hj;have r1:=(at_ i hi).1;rw[e]at r1;show xs.countP (lt · (xs.getD i .non))=xs.countP (lt · (xs.getD j .non));rw[Jka r1 (at_ j hj).1])
   rw[<- hlv]at run;refine Va (wpAny_mono run ?_ fun _ _ x=>x)
   rintro⟨⟨⟩,st'⟩ s' ⟨p,har,hf,es,ok,up⟩;subst es;have hout:=kat_snds (ks:=vs) (vs:=vs) rfl har;exact tail hout hf (rv.pick p.toList) (by rw[Vr,Array.length_toList,ok.size];omega) (Qla ok) (Jca hK.swo ok hn up)
end
theorem ZNb{l l':List Value}(p:l'.Perm l):∀ {js:List V},Qr js l->∃ js',Qr js' l'/\js'.Perm js:=by
 induction p with
 | nil=>intro js h;exact⟨js,h,.refl _⟩
 | cons x _ ih =>
  intro js h;cases h with
  | cons r t=>obtain⟨js',a,b⟩:=ih t;exact⟨_::js',.cons r a,b.cons _⟩
 | swap x y l =>
  intro js h;cases h with
  | cons r t =>
   cases t with
   | cons r2 t2=>exact⟨_,.cons r2 (.cons r t2),List.Perm.swap _ _ _⟩
 | trans _ _ ih1 ih2 =>
  intro js h;obtain⟨j1,a,b⟩:=ih2 h;obtain⟨j2,c,d⟩:=ih1 a;exact⟨j2,c,d.trans b⟩
theorem JTb{prog:Program}{w:World}:∀ {js:List Key} {l:List (Int×Value)},Paired (ZHb (QL prog w)) js l->Qr (js.map kV) (l.map (·.2))
 | _,_,.nil=>.nil
 | _,_,.cons r t=>.cons (ZAb r.1.1) (JTb t)
theorem Inv.keptD{X:Cx}{pins:YP_}{σ:St}{H:Hp}{s:Shared}{h':Heap}{t':Nat}{d:Drawn}(I:Inv X pins σ H s)(k:∀ b o,s.heap.get? b=some o->h'.get? b=some o):Inv X pins σ H { s with heap:=h',toks:=t',drawn:=d } :=
 have J:=I.kept (t':=t') k
 ⟨J.ok,J.os,J.bare,J.base,J.loc,J.cell,J.free,J.freeC,J.pin,J.hok,J.len⟩
def J8c(X:Cx)(pins:YP_)(σ:St)(Q:List Key->Hp->Prop)(u:Value)(s:Shared):Prop:=∃ a ks H1,u=.ref a/\Inv X pins σ H1 s/\Xl (QL X.prog X.w) s.heap a (QH ks)/\ks.length < 4000/\Q ks H1
section
variable{X:Cx}{e:Expr}{te:TE}{p pos p2 pos2:Pos}{pins:YP_}{σ:St}{H:Hp}{s:Shared}
theorem YHb{Q:List Key->Hp->Prop}(he:PE X e te)(hh:X.A.handled=none)(hg:Gl X "set")(hm:X.mg "set"=none)(I:Inv X pins σ H s)(h:YLa X.K te Q σ H)
 (hs:starEach [e] X.env=[(false,eval e X.env)]:=by rfl):wpAny (model X.prog X.w) X.A (eval (.Call (.Name "set" p) [e] [] pos) X.env) (J8c X pins σ Q) X.xe s:=by
 refine wpAny_Call_Name_kw (YG I hg hm X6b ?_ (by decide) (by decide))
 refine PyProof.Rows.callWith_type1 ?_ hs rfl
 rw[hs];show wpAny _ _ (spliced ((false,eval e X.env)::backTo pos [])) _ _ s;refine Calls.spliced_cons (thn (he pins s σ H _ I h) fun u s1 hZ=>?_)
 obtain⟨x,H1,I1,r1,l,ks,ex,hl,hk,q⟩:=hZ;subst ex;obtain rfl:u=Value.ref l:=r1;refine Calls.spliced_nil ?_
 obtain⟨vs,rv,pl,hz⟩:=I1.list hl;have hlv:=rv.length;rw[Vr]at hlv;refine YAb (knd:=QL X.prog X.w) (ks:=ks) hh pl.isList (by omega) (fun i k v h1 h2=>?_) (by show vs.length+1 < 4096;omega) fun h' tk kk hS=>?_
 ·obtain⟨u,hu,ru⟩:=rv.get (i:=i) (x:=kV k) (by rw[getElem?_map,h1];rfl)
  rw[h2]at hu;cases hu;exact JLb ru
 ·exact⟨_,ks,H1,rfl,I1.kept kk,hS,hk,q⟩
def QFb(K:W.Frag)(te:TE):TE:=fun σ H Q=>YLa K te (fun ks H1=>∃ lt,ZFa ((QH ks).map kV) lt/\ks.length < 1000/\∀ D H' ys,Qk H1 H'->H1 D=none->H' D=some (.lst ys)->ys.Perm ((QH ks).map kV)->ys.Pairwise (fun a b=>lt b a=false)->Q (.ref D) H') σ H
theorem ZOb(he:PE X e te)(hh:X.A.handled=none)(hg:Gl X "set")(hm:X.mg "set"=none)(hg2:Gl X "sorted")(hm2:X.mg "sorted"=none)
 (hs:starEach [e] X.env=[(false,eval e X.env)]:=by rfl)
 (hs2:starEach [.Call (.Name "set" p) [e] [] pos] X.env=[(false,eval (.Call (.Name "set" p) [e] [] pos) X.env)]:=by rfl):PE X (.Call (.Name "sorted" p2) [.Call (.Name "set" p) [e] [] pos] [] pos2) (QFb X.K te):=by
 intro pins s σ H Q I h;refine wpAny_Call_Name_kw (YG I hg2 hm2 XV ?_ (by decide) (by decide))
 refine PyProof.Rows.callWith_builtin1 ?_ hs2 rfl
 rw[hs2];show wpAny _ _ (spliced ((false,eval (.Call (.Name "set" p) [e] [] pos) X.env)::backTo pos2 [])) _ _ s;refine Calls.spliced_cons (thn (YHb he hh hg hm I h hs) fun u s1 hZ=>?_)
 obtain⟨a,ks,H1,eu,I1,hS,hk,lt,hK,hl,q⟩:=hZ;subst eu;refine Calls.spliced_nil ?_
 obtain⟨o,es,ep,t,js,ho,ex,hd,tg,ft,sb,pr,pm⟩:=hS;have lo:=Q8a ks;have l1:((QH ks).map kV).length < 1000:=by rw[Vr];omega
 refine QEb (Vv (Qv (Vv l1))) l1 hK (fun E R hR=>?_) q
 refine QDb (A:=X.A.in1) (s:=s1) hh ⟨o,ho,ex,hd⟩ ft tg (fits_of_scanBound sb) fun h' tk d vs pv kp=>?_
 obtain⟨xs,rx,px⟩:=ZNb pv (JTb pr);exact hR xs vs _ (px.trans (pm.map _)) rx (I1.keptD kp)
end
section
variable{X:Cx}{e:Expr}{te:TE}{p pos p2 pos2:Pos}{pins:YP_}{σ:St}{H:Hp}{s:Shared}
end
end L2
end
section
namespace Rw
open PySem L2 Pl
end Rw
end
section
open L2 PySem
namespace Tr
section
variable{lv:V->Nat}{l:Int}
theorem Qlc{A B:List (List Dt)}{x:Dt}(h:B≠[]):step lv l (A++B) x=A++step lv l B x:=by
 obtain⟨ini,last,rfl⟩:=YU h;unfold step
 by_cases c:l < lv (QR x)
 ·rw[if_pos (.inr c),if_pos (.inr c),Vq]
 ·rw[if_neg (fun z=>z.elim (fun z=>by simp at z) c),if_neg (fun z=>z.elim (fun z=>by simp at z) c)]
  rw[<- Vq,dropLast_concat,dropLast_concat,getLast?_concat,getLast?_concat,Vq]
theorem QGb{X Y:List Dt}(h:X=[]\/Y=[]\/l < lv (JL Y)):QW lv l (X++Y)=QW lv l X++QW lv l Y:=by
 rcases h with h | h | h
 ·rw[h];rfl
 ·rw[h,append_nil];unfold QW;simp
 ·by_cases hY:Y=[]
  ·rw[hY,append_nil];unfold QW;simp
  revert h hY
  refine Xx (C:=fun Y=>l < lv (JL Y)->Y≠[]->QW lv l (X++Y)=QW lv l X++QW lv l Y) (fun _ z=>absurd rfl z) (fun Y x ih h _=>?_) Y
  rw[<- Vq,JF,JF]
  by_cases e:Y=[]
  ·subst e
   rw[append_nil];unfold step;rw[if_pos (.inr h),if_pos (.inl rfl)];rfl
  ·rw[ih (by cases Y with | nil=>exact absurd rfl e | cons y r=>exact h) e,Qlc (X3 e)]
theorem QHb{es:List Dt}{parts:List (List Dt)}(c:JV lv l es parts):QW lv l es=parts:=by
 revert es
 refine Xx (C:=fun parts=>∀ {es:List Dt},JV lv l es parts->QW lv l es=parts) (fun {es} c=>?_) (fun ps p ih es c=>?_) parts
 ·have:=c.flat;simp at this;rw[this];rfl
 have hp:=c.full p (by simp)
 obtain⟨x,r,rfl⟩:∃ x r,p=x::r:=by cases p with | nil=>exact absurd rfl hp | cons x r=>exact⟨x,r,rfl⟩
 have c':JV lv l ps.flatten ps:=⟨rfl,fun q hq=>c.full q (mem_append_left _ hq),fun i y s hi e=>c.head i y s hi (by rw[getElem?_append_left (Vc.mp e).1];exact e),fun y s hy=>c.rest y s (mem_append_left _ hy)⟩
 have fl:=c.flat;rw[flatten_append]at fl;simp at fl;rw[<- fl];have h1:ps.flatten=[]\/(x::r)=[]\/l < lv (JL (x::r)):=by
  by_cases e:ps=[]
  ·exact .inl (by rw[e];rfl)
  ·refine .inr (.inr ?_)
   exact c.head ps.length x r (length_pos_iff.mpr e) (by simp)
 rw[QGb h1,ih c']
 congr 1
 have h2:∀ y∈r,(lv (QR y):Int)<=l:=c.rest x r (by simp)
 clear fl h1 c' hp c ih
 revert h2
 refine Xx (C:=fun r=>(∀ y∈r,(lv (QR y):Int)<=l)->QW lv l (x::r)=[x::r]) (fun _=>?_) (fun r y ih h=>?_) r
 ·unfold QW step;simp
 ·rw[show x::(r++[y])=(x::r)++[y] from rfl,JF,ih fun z hz=>h z (mem_append_left _ hz)]
  have:=h y (by simp)
  unfold step;rw[if_neg (fun z=>z.elim (fun z=>by simp at z) fun z=>by omega)]
  rfl
theorem JV.left{es:List Dt}{P Q:List (List Dt)}(c:JV lv l es (P++Q)):JV lv l P.flatten P:=⟨rfl,fun q hq=>c.full q (mem_append_left _ hq),fun i y s hi e=>c.head i y s hi (by rw[getElem?_append_left (Vc.mp e).1];exact e),fun y s hy=>c.rest y s (mem_append_left _ hy)⟩
theorem JV.right{es:List Dt}{P Q:List (List Dt)}(c:JV lv l es (P++Q)):JV lv l Q.flatten Q:=⟨rfl,fun q hq=>c.full q (Vp _ hq),fun i y s hi e=>c.head (P.length+i) y s (by omega) (by rw[getElem?_append_right (by omega),Nat.add_sub_cancel_left];exact e),fun y s hy=>c.rest y s (Vp _ hy)⟩
end
section
variable{tbl tbl':List (Int×Dt)}{l:Int}
theorem QS.app{P P':List (List Dt)}{hs hs':List Dt}(h:QS tbl l P hs)(h':QS tbl l P' hs'):QS tbl l (P++P') (hs++hs'):=by
 induction h with
 | nil=>exact h'
 | cons m _ ih=>exact .cons m ih
theorem QS.split:∀ {hs hs':List Dt} {P:List (List Dt)},QS tbl l P (hs++hs')->∃ P1 P2,P=P1++P2/\QS tbl l P1 hs/\QS tbl l P2 hs'
 | [],hs',P,h=>⟨[],P,rfl,.nil,h⟩
 | x::hs,hs',P,h=>by
  rw[cons_append]at h;generalize e:x::(hs++hs')=q at h;cases h with
  | nil=>cases e
  | @cons part parts _ n m r =>
   injection e with e1 e2
   subst e1 e2;obtain⟨P1,P2,rfl,a,b⟩:=QS.split r;exact⟨part::P1,P2,rfl,.cons m a,b⟩
end
def Tow(lv:V->Nat)(tbl:List (Int×Dt)):Nat->List Dt->List Dt->Prop
 | 0,R,hs=>hs=R
 | l+1,R,hs=>∃ gs,Tow lv tbl l R gs/\QS tbl l (QW lv l gs) hs
section
variable{lv:V->Nat}{tbl tbl':List (Int×Dt)}
theorem Tow.det(f:Fn tbl):∀ {l:Nat} {R hs hs':List Dt},Tow lv tbl l R hs->Tow lv tbl l R hs'->hs=hs'
 | 0,_,_,_,h,h'=>h.trans h'.symm
 | l+1,_,_,_,⟨gs,a,b⟩,⟨gs',a',b'⟩=>by
  have:=Tow.det f a a';subst this;exact b.det f b'
theorem YRa{P:List (List Dt)}{p:List Dt}(h:p≠[]):JL ((p::P).flatten)=JL p:=by
 cases p with
 | nil=>exact absurd rfl h
 | cons x r=>rfl
theorem Tow.fst:∀ {l:Nat} {R hs:List Dt},Tow lv tbl l R hs->(R=[]↔hs=[])/\JL hs=JL R
 | 0,_,_,h=>by rw[show _=_ from h];exact⟨Iff.rfl,rfl⟩
 | l+1,R,hs,⟨gs,a,b⟩=>by
  obtain⟨h1,h2⟩:=a.fst;have c:=J1 (lv:=lv) (l:Int) gs;generalize QW lv l gs=P at b c;cases b with
  | nil =>
   have:=c.flat;simp at this;subst this;exact⟨⟨fun _=>rfl,fun _=>h1.mpr rfl⟩,h2⟩
  | @cons part parts hs n m r =>
   have fu:=c.full part (by simp)
   have fl:=c.flat;refine⟨⟨fun e=>?_,fun e=>by cases e⟩,?_⟩
   ·rw[h1.mp e]at fl
    simp at fl;exact absurd fl.1 fu
   ·rw[<- h2,<- fl,YRa fu];rfl
theorem Tow.nil(l:Nat):Tow lv tbl l [] []:=by
 induction l with
 | zero=>rfl
 | succ l ih=>exact⟨[],ih,.nil⟩
theorem Tow.ne'{l:Nat}{R hs:List Dt}(h:Tow lv tbl l R hs)(n:hs≠[]):R≠[]:=fun z=>n (h.fst.1.mp z)
theorem Tow.app:∀ {l:Nat} {A B a b:List Dt},Tow lv tbl l A a->Tow lv tbl l B b->(A=[]\/B=[]\/l<=lv (JL B))->Tow lv tbl l (A++B) (a++b)
 | 0,_,_,_,_,ha,hb,_=>by rw[show _=_ from ha,show _=_ from hb];rfl
 | l+1,A,B,_,_,⟨ga,a1,a2⟩,⟨gb,b1,b2⟩,h=>by
  refine⟨ga++gb,a1.app b1 (h.imp_right fun z=>z.imp_right fun z=>by omega),?_⟩
  rw[QGb]
  ·exact a2.app b2
  ·rcases h with h | h | h
   ·exact .inl (a1.fst.1.mp h)
   ·exact .inr (.inl (b1.fst.1.mp h))
   ·refine .inr (.inr ?_);rw[b1.fst.2];omega
theorem Tow.split:∀ {l:Nat} {R a b:List Dt},Tow lv tbl l R (a++b)->∃ A B,R=A++B/\Tow lv tbl l A a/\Tow lv tbl l B b/\(a=[]\/b=[]\/l<=lv (JL B))
 | 0,R,a,b,h=>⟨a,b,(show _=R from h).symm,rfl,rfl,.inr (.inr (Vk _))⟩
 | l+1,R,a,b,⟨gs,h1,h2⟩=>by
  obtain⟨P,Q,e,hP,hQ⟩:=h2.split;have c:=J1 (lv:=lv) (l:Int) gs;rw[e]at c;have eg:gs=P.flatten++Q.flatten:=by rw[<- flatten_append];exact c.flat.symm
  rw[eg]at h1;obtain⟨A,B,eR,tA,tB,hc⟩:=h1.split;refine⟨A,B,eR,⟨_,tA,by rw[QHb c.left];exact hP⟩,⟨_,tB,by rw[QHb c.right];exact hQ⟩,?_⟩
  by_cases ea:a=[]
  ·exact .inl ea
  by_cases eb:b=[]
  ·exact .inr (.inl eb)
  refine .inr (.inr ?_)
  rw[<- tB.fst.2];cases hQ with
  | nil=>exact absurd rfl eb
  | @cons part parts hs n m r =>
   have fu:=c.full part (by simp)
   rw[YRa fu];have hp:0 < P.length:=by rw[<- hP.length];exact length_pos_iff.mpr ea
   obtain⟨x,s,rfl⟩:∃ x s,part=x::s:=by cases part with | nil=>exact absurd rfl fu | cons x s=>exact⟨x,s,rfl⟩
   have:=c.head P.length x s hp (by simp)
   show l+1<=lv (QR x)
   omega
theorem Tow.one{l:Nat}{R:List Dt}{h:Dt}(t:Tow lv tbl (l+1) R [h]):∃ n part,h=JU (JL R) n/\(n,Zx (l:Int) part)∈tbl/\Tow lv tbl l R part/\QW lv l part=[part]:=by
 obtain⟨gs,a,b⟩:=t;have c:=J1 (lv:=lv) (l:Int) gs;generalize e:QW lv l gs=P at b c;cases b with
 | @cons part parts hs n m r =>
  cases r;have fl:=c.flat;simp at fl;subst fl;exact⟨n,part,by rw[a.fst.2],m,a,e⟩
theorem Jsa.tow{rows:List Dt}{top:Nat}{L:Nat->List Dt}(c:Jsa lv tbl rows top L):∀ j,j<=top+1->Tow lv tbl j rows (L j):=by
 intro j
 induction j with
 | zero=>intro _;exact c.low
 | succ j ih=>intro h;exact⟨L j,ih (by omega),c.up j (by omega)⟩
theorem Tow.at_{l:Nat}{R a b:List Dt}{h:Dt}(t:Tow lv tbl (l+1) R (a++h::b)):∃ A M B n part,R=A++(M++B)/\Tow lv tbl (l+1) A a/\Tow lv tbl (l+1) M [h]/\Tow lv tbl (l+1) B b/\h=JU (JL M) n/\(n,Zx (l:Int) part)∈tbl/\Tow lv tbl l M part/\M≠[]/\(A=[]\/l+1<=lv (JL M))/\(B=[]\/l+1<=lv (JL B)):=by
 obtain⟨A,N,e,tA,tN,h1⟩:=t.split;obtain⟨M,B,e2,tM,tB,h2⟩:=(show Tow lv tbl (l+1) N ([h]++b) from tN).split
 obtain⟨n,part,eh,hm,tp,_⟩:=tM.one;have hM:M≠[]:=tM.ne' (by simp)
 refine⟨A,M,B,n,part,by rw[e,e2],tA,tM,tB,eh,hm,tp,hM,?_,?_⟩
 ·rcases h1 with z | z | z
  ·exact .inl (tA.fst.1.mpr z)
  ·cases z
  ·refine .inr ?_
   rw[e2]at z;cases M with
   | nil=>exact absurd rfl hM
   | cons x r=>exact z
 ·rcases h2 with z | z | z
  ·cases z
  ·exact .inl (tB.fst.1.mpr z)
  ·exact .inr z
end
section
variable(lt:V->V->Prop)
def YIb(k:V)(row:Dt)(R R':List Dt):Prop:=∃ A C,R'=A++row::C/\(R=A++C\/∃ o,R=A++o::C/\QR o=k)/\(∀ a∈A,lt (QR a) k)/\∀ c∈C,lt k (QR c)
def UpR(R:List Dt):Prop:=R.Pairwise fun a b=>lt (QR a) (QR b)
variable{lt}
theorem UpR.left{A B:List Dt}(h:UpR lt (A++B)):UpR lt A:=(pairwise_append.mp h).1
theorem UpR.right{A B:List Dt}(h:UpR lt (A++B)):UpR lt B:=(pairwise_append.mp h).2.1
theorem Qmc{R:List Dt}(h:R≠[]):∃ x∈R,QR x=JL R:=by
 cases R with
 | nil=>exact absurd rfl h
 | cons x r=>exact⟨x,by simp,rfl⟩
theorem YIb.up{k:V}{row:Dt}{R R':List Dt}(h:YIb lt k row R R')(u:UpR lt R)(hk:QR row=k)(tr:∀ {a b c},lt a b->lt b c->lt a c):UpR lt R':=by
 obtain⟨A,C,e,e2,h1,h2⟩:=h;have uAC:UpR lt A/\UpR lt C:=by
  rcases e2 with e2 | ⟨o,e2,ho⟩
  ·rw[e2]at u;exact⟨u.left,u.right⟩
  ·rw[e2]at u;exact⟨u.left,(pairwise_cons.mp u.right).2⟩
 rw[e];refine pairwise_append.mpr ⟨uAC.1,pairwise_cons.mpr ⟨fun c hc=>by rw[hk];exact h2 c hc,uAC.2⟩,fun a ha b hb=>?_⟩
 rcases mem_cons.mp hb with z | z
 ·rw[z,hk];exact h1 a ha
 ·exact tr (h1 a ha) (h2 b z)
theorem YIb.mem{k:V}{row:Dt}{R R':List Dt}(h:YIb lt k row R R')(irr:∀ a,¬ lt a a)(x:Dt):x∈R'↔x=row\/(x∈R/\QR x≠k):=by
 obtain⟨A,C,e,e2,h1,h2⟩:=h;have ne:∀ y,y∈A\/y∈C->QR y≠k:=fun y hy z=>by
  rcases hy with hy | hy
  ·have:=h1 y hy;rw[z]at this;exact irr _ this
  ·have:=h2 y hy;rw[z]at this;exact irr _ this
 rw[e]
 constructor
 ·intro h
  rcases Vl.mp h with h | h
  ·refine .inr ⟨?_,ne x (.inl h)⟩
   rcases e2 with e2 | ⟨o,e2,_⟩ <;> rw[e2] <;> simp[h]
  ·rcases mem_cons.mp h with h | h
   ·exact .inl h
   ·refine .inr ⟨?_,ne x (.inr h)⟩
    rcases e2 with e2 | ⟨o,e2,_⟩ <;> rw[e2] <;> simp[h]
 ·rintro(h | ⟨h,hk⟩)
  ·simp[h]
  ·rcases e2 with e2 | ⟨o,e2,ho⟩
   ·rw[e2]at h
    rcases Vl.mp h with h | h <;> simp[h]
   ·rw[e2]at h
    rcases Vl.mp h with h | h
    ·simp[h]
    ·rcases mem_cons.mp h with h | h
     ·rw[h]at hk;exact absurd ho hk
     ·simp[h]
end
section
variable{lv:V->Nat}{tbl:List (Int×Dt)}
structure J8a(lv:V->Nat)(tbl:List (Int×Dt))(R:List Dt)(top:Nat)(n:Int):Prop where
 one:∃ k,Tow lv tbl (top+1) R [JU k n]
 two:∀ j hs,1<=j->j<=top->Tow lv tbl j R hs->1 < hs.length
theorem Jsa.toRoot{rows:List Dt}{top:Nat}{L:Nat->List Dt}{k:V}{n:Int}(f:Fn tbl)(c:Jsa lv tbl rows top L)(e:L (top+1)=[JU k n]):J8a lv tbl rows top n :=
 ⟨⟨k,by have:=c.tow (top+1) (Ve _);rw[e]at this;exact this⟩,fun j hs h1 h2 t=>by rw[t.det f (c.tow j (by omega))];exact c.two j h1 h2⟩
theorem Tow.levels:∀ {l:Nat} {R hs:List Dt},Tow lv tbl l R hs->∃ L:Nat->List Dt,L 0=R/\L l=hs/\∀ j,j < l->QS tbl j (QW lv j (L j)) (L (j+1))
 | 0,R,hs,h=>⟨fun _=>R,rfl,(show hs=R from h).symm,fun j hj=>by omega⟩
 | l+1,R,hs,⟨gs,a,b⟩=>by
  obtain⟨L,h0,h1,h2⟩:=a.levels;refine⟨fun j=>if j=l+1 then hs else L j,(if_neg (by omega)).trans h0,if_pos rfl,fun j hj=>?_⟩
  show QS tbl j (QW lv j (if j=l+1 then hs else L j)) (if j+1=l+1 then hs else L (j+1))
  rw[if_neg (by omega)]
  by_cases e:j=l
  ·subst e;rw[if_pos rfl,h1];exact b
  ·rw[if_neg (by omega)];exact h2 j (by omega)
theorem ZPb{l:Nat}{R:List Dt}{L:Nat->List Dt}(h0:L 0=R)(h:∀ j,j < l->QS tbl j (QW lv j (L j)) (L (j+1))):∀ j,j<=l->Tow lv tbl j R (L j):=by
 intro j
 induction j with
 | zero=>intro _;exact h0
 | succ j ih=>intro hj;exact⟨L j,ih (by omega),h j (by omega)⟩
theorem J8a.page{R:List Dt}{top:Nat}{n:Int}(r:J8a lv tbl R top n):∃ part,(n,Zx (top:Int) part)∈tbl/\Tow lv tbl top R part/\QW lv top part=[part]/\R≠[]:=by
 obtain⟨k,t⟩:=r.one;obtain⟨n',part,e,hm,tp,hc⟩:=t.one;obtain⟨_,rfl⟩:=Qec e;exact⟨part,hm,tp,hc,t.ne' (by simp)⟩
end
section
variable{lv:V->Nat}{tbl:List (Int×Dt)}
theorem QIb{l:Int}{e:Dt}:∀ (r:List Dt),(QW lv l (e::r)).map JL=QR e::(r.map QR).filter fun k=>decide (l < lv k):=by
 refine Xx rfl fun r x ih=>?_
 rw[show e::(r++[x])=(e::r)++[x] from rfl,JF]
 have c:=J1 (lv:=lv) l (e::r);have hne:=X3 (lv:=lv) (l:=l) (es:=e::r) (by simp)
 generalize QW lv l (e::r)=P at ih c hne;obtain⟨ini,last,rfl⟩:=YU hne;unfold step
 by_cases h:l < lv (QR x)
 ·rw[if_pos (.inr h),map_append,ih,map_append,filter_append]
  simp[h,JL]
 ·rw[if_neg (fun z=>z.elim (fun z=>by simp at z) h),dropLast_concat,getLast?_concat,Option.getD_some]
  rw[map_append]at ih ⊢;have fu:=c.full last (by simp)
  have e1:JL (last++[x])=JL last:=by cases last with | nil=>exact absurd rfl fu | cons y s=>rfl
  rw[map_cons,e1,map_nil];rw[map_cons,map_nil]at ih;rw[ih,map_append,filter_append];simp[h]
theorem Tow.keys:∀ {l:Nat} {e:Dt} {r hs:List Dt},Tow lv tbl (l+1) (e::r) hs->hs.map QR=QR e::(r.map QR).filter fun k=>decide (l < lv k)
 | 0,e,r,hs,⟨gs,a,b⟩=>by
  rw[show gs=_ from a]at b
  rw[b.keys,QIb]
  congr 1
  exact filter_congr fun k _=>by simp
 | l+1,e,r,hs,⟨gs,a,b⟩=>by
  have ih:=Tow.keys a;rw[b.keys];cases gs with
  | nil=>cases ih
  | cons g gr =>
   rw[map_cons]at ih;injection ih with i1 i2
   rw[QIb,i1,i2,filter_filter]
   congr 1
   refine filter_congr fun k _=>?_
   rw[<- Bool.decide_and];exact decide_eq_decide.mpr (by omega)
theorem Tow.many{l:Nat}{R hs:List Dt}(h:Tow lv tbl (l+1) R hs)(hR:R≠[]):hs.length=1+(((R.map QR).tail).filter fun k=>decide (l < lv k)).length:=by
 cases R with
 | nil=>exact absurd rfl hR
 | cons e r =>
  have:=congrArg List.length h.keys;rw[Vr,length_cons]at this;rw[this,Nat.add_comm];rfl
variable{lt:V->V->Prop}
end
section
variable(lt:V->V->Prop)(tbl:List (Int×Dt))(k:V)
end
section
variable{lt:V->V->Prop}{tbl tbl':List (Int×Dt)}{k:V}
end
section
variable{lv:V->Nat}{tbl:List (Int×Dt)}
end
end Tr
end
section
namespace L2
open PySem PySem.Spec PyProof.Rows
section
variable{X:Cx}
end
end L2
end
section
namespace L2
open PySem PySem.Spec PyProof.Rows PySem.W
section
variable{prog:Program}{w:World}{A:Around}{E:YQ_}{s:Shared}{κ:SortKind}{ks vs:List Value}{r:Nat->Nat}
end
section
variable{X:Cx}{pins:YP_}{σ:St}{H:Hp}{s:Shared}{A:Around}{E:YQ_}
end
end L2
end
section
namespace L2
open PySem PySem.Spec PyProof.Rows
section
variable{X:Cx}
end
end L2
end
section
open L2 PySem
namespace Tr
section
variable{lv:V->Nat}{tbl:List (Int×Dt)}
section
variable{lt:V->V->Prop}
end
def Qnc(W:Int->List (Int×Nat)->List Dt->Prop):List Dt->List (Int×Nat)->List Dt->Prop
 | [],q,rs=>q=[]/\rs=[]
 | e::r,q,rs=>∃ p q' r1 r2,q=p++q'/\rs=r1++r2/\(∃ k n,e=JU k n/\W n p r1)/\Qnc W r q' r2
def Wlk(tbl:List (Int×Dt)):Nat->Int->List (Int×Nat)->List Dt->Prop
 | 0,m,ws,rs=>(m,Zx ((0:Nat):Int) rs)∈tbl/\ws=[(m,0)]
 | l+1,m,ws,rs=>∃ es q,(m,Zx ((l+1:Nat):Int) es)∈tbl/\ws=(m,l+1)::q/\Qnc (Wlk tbl l) es q rs
structure WOk(lv:V->Nat)(tbl:List (Int×Dt))(l:Nat)(M:List Dt)(ws:List (Int×Nat)):Prop where
 pg:∀ x∈ws,x.2<=l/\∃ es,(x.1,Zx (x.2:Int) es)∈tbl/\JL es∈M.map QR
 nd:(ws.map Prod.fst).Nodup
 len:ws.length<=(l+1) * M.length
 lev:∀ j hs,j<=l->Tow lv tbl (j+1) M hs->(ws.filter fun x=>x.2 == j).map Prod.fst=hs.map ZHa
theorem Tow.below{l j:Nat}{R hs:List Dt}(t:Tow lv tbl l R hs)(h:j<=l):∃ gs,Tow lv tbl j R gs:=by
 obtain⟨L,h0,h1,h2⟩:=t.levels;exact⟨L j,ZPb h0 h2 j h⟩
theorem JUb{R:List Dt}(h:R≠[]):JL R∈R.map QR:=by
 obtain⟨x,hx,e⟩:=Qmc h;exact mem_map.mpr ⟨x,hx,e⟩
theorem JVb(fn:Fn tbl):∀ (l:Nat) {M part:List Dt} {m:Int},(m,Zx (l:Int) part)∈tbl->Tow lv tbl l M part->(M.map QR).Nodup->M≠[]->(∃ k,Tow lv tbl (l+1) M [JU k m])->∃ ws,Wlk tbl l m ws M/\WOk lv tbl l M ws
 | 0,M,part,m,hm,t,nd,hM,⟨k,tm⟩=>by
  have e:part=M:=t;subst e;have:=length_pos_iff.mpr hM;refine⟨[(m,0)],⟨hm,rfl⟩,fun x hx=>?_,by simp,by simp;omega,fun j hs hj th=>?_⟩
  ·rw[mem_singleton.mp hx]
   exact⟨Ve _,part,hm,JUb hM⟩
  ·obtain rfl:j=0:=by omega
   rw[th.det fn tm];rfl
 | l+1,M,part,m,hm,t,nd,hM,⟨k,tm⟩=>by
  have go:∀ (part M:List Dt),Tow lv tbl (l+1) M part->(M.map QR).Nodup->∃ q,Qnc (Wlk tbl l) part q M/\WOk lv tbl l M q:=by
   intro part
   induction part with
   | nil =>
    intro M t _;obtain rfl:=t.fst.1.mpr rfl;refine⟨[],⟨rfl,rfl⟩,(fun x h=>nomatch h),nodup_nil,Ve _,fun j hs _ th=>?_⟩
    rw[th.det fn (Tow.nil _)];rfl
   | cons e r ih =>
    intro M t nd;obtain⟨A,M1,B,n,p1,eM,tA,tM,tB,ee,hm1,t1,hM1,_,cB⟩:=Tow.at_ (a:=[]) t;obtain rfl:=tA.fst.1.mpr rfl;rw[nil_append]at eM;subst eM;rw[map_append]at nd;have nd':=nodup_append.mp nd;obtain⟨w1,k1,f1⟩:=JVb fn l hm1 t1 nd'.1 hM1 ⟨_,by rw[<- ee];exact tM⟩
    obtain⟨q2,k2,f2⟩:=ih B tB nd'.2.1;have ml:(l+1) * (M1++B).length=(l+1) * M1.length+(l+1) * B.length:=by rw[Vs,Nat.mul_add]
    have l1:=f1.len;have l2:=f2.len;refine⟨w1++q2,⟨w1,q2,M1,B,rfl,rfl,⟨_,n,ee,k1⟩,k2⟩,fun x hx=>?_,?_,by rw[Vs];omega,fun j hs hj th=>?_⟩
    ·rw[map_append]
     rcases Vl.mp hx with z | z
     ·obtain⟨a,es,b,c⟩:=f1.pg x z
      exact⟨a,es,b,mem_append_left _ c⟩
     ·obtain⟨a,es,b,c⟩:=f2.pg x z
      exact⟨a,es,b,Vp _ c⟩
    ·rw[map_append]
     refine nodup_append.mpr ⟨f1.nd,f2.nd,fun a ha b hb eab=>?_⟩
     obtain⟨x,hx,rfl⟩:=mem_map.mp ha;obtain⟨y,hy,rfl⟩:=mem_map.mp hb;obtain⟨_,ex,hpx,kx⟩:=f1.pg x hx;obtain⟨_,ey,hpy,ky⟩:=f2.pg y hy;rw[eab]at hpx;rw[(Zi (fn.num _ _ _ hpx hpy)).2]at kx;exact nd'.2.2 _ kx _ ky rfl
    ·obtain⟨h1,t1'⟩:=tM.below (j:=j+1) (by omega)
     obtain⟨h2,t2'⟩:=tB.below (j:=j+1) (by omega)
     have:=t1'.app t2' (cB.elim (fun z=>.inr (.inl z)) fun z=>.inr (.inr (by omega)))
     rw[th.det fn this,filter_append,map_append,map_append,f1.lev j h1 hj t1',f2.lev j h2 hj t2']
  obtain⟨q,hq,fq⟩:=go part M t nd;have lq:=fq.len;have:=length_pos_iff.mpr hM;have ml:(l+1+1) * M.length=(l+1) * M.length+M.length:=Nat.succ_mul _ _;refine⟨(m,l+1)::q,⟨part,q,hm,rfl,hq⟩,fun x hx=>?_,?_,by rw[length_cons];omega,fun j hs hj th=>?_⟩
  ·rcases mem_cons.mp hx with rfl | hx
   ·exact⟨Ve _,part,hm,by rw[t.fst.2];exact JUb hM⟩
   ·obtain⟨a,b⟩:=fq.pg x hx
    exact⟨by omega,b⟩
  ·rw[map_cons]
   refine nodup_cons.mpr ⟨fun z=>?_,fq.nd⟩
   obtain⟨x,hx,e⟩:=mem_map.mp z;obtain⟨a,es,b,_⟩:=fq.pg x hx;rw[e]at b;have:=(Zi (fn.num _ _ _ b hm)).1
   omega
  ·by_cases e:j=l+1
   ·subst e
    rw[th.det fn tm,filter_cons_of_pos (by simp),filter_eq_nil_iff.mpr fun x hx=>by have:=(fq.pg x hx).1;simp;omega]
    rfl
   ·rw[filter_cons_of_neg (by simp;omega)]
    exact fq.lev j hs (by omega) th
theorem J8a.wlk{R:List Dt}{top:Nat}{n:Int}(fn:Fn tbl)(r:J8a lv tbl R top n)(nd:(R.map QR).Nodup):∃ ws,Wlk tbl top n ws R/\WOk lv tbl top R ws:=by
 obtain⟨part,hm,tp,_,hR⟩:=r.page;exact JVb fn top hm tp nd hR r.one
end
end Tr
end
section
namespace L2
open PySem PySem.W PyProof.Rows
section
variable{X:Cx}{pins:YP_}{σ:St}{H:Hp}{s:Shared}
end
end L2
end
section
open L2 PySem
namespace Tr
section
variable{lv:V->Nat}{tbl:List (Int×Dt)}
end
end Tr
end
section
open PySem
namespace L2
section
variable{X:Cx}{pins:YP_}{σ:St}{H:Hp}{s:Shared}{a b:Addr}{kvs more:List (Key×V)}{A:Around}{E:YQ_}
end
section
variable{X:Cx}{o e:Expr}{apos cpos:Pos}{td ty:TE}
end
end L2
end
section
namespace L2
open PySem PySem.Spec PyProof.Rows
section
variable{X:Cx}{m:Str}{k:Nat}{ta:TE}{t:TA}{e o:Expr}{es:List Expr}{pos apos:Pos}{pl:Sem Bool}{f:Addr}{fd:FuncData}{ps:List Str}{sp:Sp}
end
end L2
end
section
open PySem L2
namespace Tr
section
variable{lv:V->Nat}{tbl tbl':List (Int×Dt)}
end
end Tr
end
section
namespace PySem
section
variable{prog:Program}{w:World}{K:Type}[DecidableEq K]{knd:HeapKind prog w K}{A:Around}{E:YQ_}{s:Shared}
end
end PySem
namespace L2
open PySem PySem.Spec PyProof.Rows
section
variable{X:Cx}{pins:YP_}{σ:St}{H:Hp}{s:Shared}{a b:Addr}{xs:NX}{d:Dt}{A:Around}{E:YQ_}{kvs:List (Key×V)}{k:Key}{u r:Value}{v:V}
end
section
variable{X:Cx}{o e f:Expr}{apos cpos:Pos}{td ty tx:TE}
end
theorem Jwa:∀ {ns:List Int} {us:List Value},Qr (ns.map V.int) us->∃ xs:Array (Int×Tok),us.toArray=intItems xs/\xs.toList.map (·.1)=ns
 | [],_,h=>by cases h;exact⟨#[],by simp[intItems],rfl⟩
 | n::ns,_,h=>by
  cases h with
  | cons r t =>
   obtain⟨k,rfl⟩:=r;obtain⟨xs,e,e'⟩:=Jwa t;refine⟨⟨(n,k)::xs.toList⟩,?_,by simp[e']⟩
   have e2:=congrArg Array.toList e;simp only[intItems,Array.toList_map]at e2 ⊢;simp only[map_toArray,map_cons,<- e2]
theorem QSa{ns:List Int}{xs:Array (Int×Tok)}(e:xs.toList.map (·.1)=ns){i:Nat}(h:i < ns.length):numAt xs i∈ns/\ns[i]?=some (numAt xs i):=by
 have hi:i < xs.toList.length:=by rw[<- e,Vr]at h;exact h
 have h1:xs[i]?=some (xs.toList[i]'hi):=by rw[<- Array.getElem?_toList];exact Vb hi
 have h2:numAt xs i=(xs.toList[i]'hi).1:=by simp only[numAt,h1,Option.map_some,Option.getD_some]
 have h3:ns[i]?=some (numAt xs i):=by rw[<- e,getElem?_map,Vb hi,h2];rfl
 exact⟨Vm h3,h3⟩
def Jbc(K:W.Frag)(lt:Int->Int->Prop):List V->Hp->VK->Prop:=fun xs H Q=>∃ (b:Addr) (ns:List Int),xs=[.ref b]/\SqL K H b (ns.map V.int)/\ns≠[]/\∀ m,m∈ns->(∀ n∈ns,¬ lt m n)->Q (.int m) H
section
variable{X:Cx}
theorem YJb(hd:X.A.handled=none):JY X (.builtin "max") (Jbc X.K (· < ·)):=by
 intro pins s σ H xs us Q I r h;obtain⟨b,ns,rfl,hb,hne,q⟩:=h;obtain⟨u,rfl,rfl⟩:=Qya r;obtain⟨its,r,p,_⟩:=I.list hb;obtain⟨ys,e,e'⟩:=Jwa r;have pl:=p.isList;rw[e]at pl;have ln:ys.size=ns.length:=by rw[<- e',Vr,Array.length_toList]
 have l0:=length_pos_iff.mpr hne;refine max_intList hd pl (by omega) fun v h' tk hv k=>?_
 obtain⟨t,rfl⟩:=intItems_at hv;obtain⟨a1,a2⟩:=argBest_gt (numAt ys) (ys.size - 1);refine⟨.int _,H,I.kept k,⟨t,rfl⟩,q _ (QSa e' (by omega)).1 fun n hn hlt=>?_⟩
 obtain⟨j,hj⟩:=mem_iff_getElem?.mp hn;have jl:=(Vc.mp hj).1
 have:=(QSa e' jl).2;rw[hj]at this;injection this with this
 have:=a2 j (by omega)
 have hlt:numAt ys _ < n:=hlt
 omega
theorem YKb(hd:X.A.handled=none):JY X (.builtin "min") (Jbc X.K (· > ·)):=by
 intro pins s σ H xs us Q I r h;obtain⟨b,ns,rfl,hb,hne,q⟩:=h;obtain⟨u,rfl,rfl⟩:=Qya r;obtain⟨its,r,p,_⟩:=I.list hb;obtain⟨ys,e,e'⟩:=Jwa r;have pl:=p.isList;rw[e]at pl;have ln:ys.size=ns.length:=by rw[<- e',Vr,Array.length_toList]
 have l0:=length_pos_iff.mpr hne;refine min_intList hd pl (by omega) fun v h' tk hv k=>?_
 obtain⟨t,rfl⟩:=intItems_at hv;obtain⟨a1,a2⟩:=argBest_lt (numAt ys) (ys.size - 1);refine⟨.int _,H,I.kept k,⟨t,rfl⟩,q _ (QSa e' (by omega)).1 fun n hn hlt=>?_⟩
 obtain⟨j,hj⟩:=mem_iff_getElem?.mp hn;have jl:=(Vc.mp hj).1
 have:=(QSa e' jl).2;rw[hj]at this;injection this with this
 have:=a2 j (by omega)
 have hlt:numAt ys _ > n:=hlt
 omega
end
end L2
end
section
namespace My
open PySem L2 Pl Th Tr
variable{CX:CXT}{P:Program}{w:World}{mg:Str->Option Value}{base:Heap}{N:List Str}{qual:Str}{scope:Scope}{CT a f:Addr}{cd:Value}{A:Around}{outer:List Env}{s:Shared}{H H' H1 H2:Hp}{E:XK}{i l n:Nat}{c m:Int}{cs ob:Nat->Addr}{es:List Dt}{xs:List V}{st:StL}{d:Dt}{k:Key}{lv:V->Nat}{tbl:List (Int×Dt)}{v:V}{kvs:List (Key×V)}{ns:List Int}{ws:List (Int×Nat)}
variable{P:Program}{w:World}{K:W.Frag}{mg:Str->Option Value}{base:Heap}{CT:Addr}{cs:Nat->Addr}{ob:Nat->Addr}{f:Addr}{fd:FuncData}
theorem J9c{K:W.Frag}:(QBa CX P w K mg base N qual scope f cd A outer s H E).K=K:=rfl
theorem Yac{K:W.Frag}:(QBa CX P w K mg base N qual scope f cd A outer s H E).prog=P:=rfl
theorem Ybc{K:W.Frag}:(QBa CX P w K mg base N qual scope f cd A outer s H E).w=w:=rfl
theorem YUc{X:Cx}{sc:Scope}{x:Str}{M:List Str}{cl:List (Str×Addr)}{C:Addr}{fp:List Addr}:(blk X sc x M cl C s H fp).K=X.K:=rfl
theorem dly{G:Prop}(h:∀ g:Prop,(G->g)->g):G:=h G id
local macro_rules | `(tactic| walk_at "sc") => `(tactic| exact ⟨rfl, rfl, rfl, by decide +kernel, rfl, by decide +kernel, by decide +kernel⟩)
local macro_rules | `(tactic| walk_at "n") => do let h := Lean.mkIdent `h; let r := Lean.mkIdent `rfl; `(tactic| first | (cases $h:ident; subst_vars; rfl) | (repeat (first | (rcases $h:ident with ⟨$r:ident, _⟩; rfl) | rcases $h:ident with ⟨_, $h:ident⟩)))
local macro_rules | `(tactic| walk_at "rd") => do let x := ("J9c YUc Yib Yjb Ykb Xzb XAb XBb XCb Zec Zfc Xn ZNc Xqb Yuc Q7c Yvc YDc rIn JCc Yzc Yxc Int.reduceLT Int.reduceLE Int.reduceToNat Ylc ZQc tB Yjc Yic tOr ZMc tOp tUn Q4b Q5b tC Ykc Jlc Jfb ZOc tCB Jmb Jlb XZa Ysc Ytc rI rI0 rU rEq rNe QLc QMc QNc QOc QPc QQc QRc QSc QTc QUc QVc QWc QXc QYc tBM Yyc Jrb tSl ZTc Job Ynb Xob Qvb JMb YLa X1b Xnb ZXc ZWc Jub Z6c X0b Yvb Yac Ybc Zvb ZDb YTc Z7c Z8c Z9c Jac tIf XLb Qcb List.getElem?_cons_zero List.getElem?_cons_succ List.set_cons_zero List.set_cons_succ Option.some.injEq V.int.injEq V.bl.injEq V.str.injEq V.ref.injEq exists_eq_left exists_eq_left' exists_eq_right exists_and_left List.cons.injEq and_true true_and List.append_nil decide_eq_true_eq Bool.not_eq_true' decide_eq_false_iff_not Bool.not_true Bool.not_false if_true if_false Bool.true_eq_false Bool.false_eq_true reduceCtorEq exists_const exists_false false_and and_false not_true_eq_false not_false_eq_true ite_true ite_false".splitOn " ").toArray.map fun s => Lean.mkIdent s.toName; let y := ("YFc JGc JHc JIc Zdc".splitOn " ").toArray.map fun s => Lean.mkIdent s.toName; `(tactic| try simp (maxSteps := 1000000) only [$[↓$y:ident],*, $[$x:ident],*])
local macro_rules | `(tactic| walk_at "side") => `(tactic| first | omega | decide | ((first | unfold QKc | unfold Jqc | (refine Y3a.ok ?_; unfold Y3a) | unfold Y3a); first | omega | decide))
local macro_rules | `(tactic| walk_at "go") => `(tactic| (repeat refine And.intro (by walk_at "side") ?_))
def top(i:Nat):Stmt:=PySem.Challenge.pw_twigtable_k17_rows_and_numbers.main.body.getD i (.Pass ⟨0,0,0,0⟩)
def Xo(i j:Nat):Stmt:=match top i with | .ClassDef _ _ _ body _ _ _ _ _ _ _=>body.getD j (.Pass ⟨0,0,0,0⟩) | s=>s
abbrev Z4:Stmt:=Xo 3 0
theorem QTa:Qn ["self","key"] ["self","key"] (Qi Z4):=by walk_at "sc"
abbrev Ye:Stmt:=Xo 4 0
theorem Jxa:Qn ["self","number"] ["self","number"] (Qi Ye):=by walk_at "sc"
abbrev Yf:Stmt:=top 8
theorem ZV:Qn ["key","mix","sign"] ["key"] (Qi Yf):=by walk_at "sc"
abbrev Xy:Stmt:=Xo 12 0
theorem Xua:Qn ["self","level","entries"] ["self","level","entries"] (Qi Xy):=by walk_at "sc"
abbrev Xz:Stmt:=Xo 12 1
theorem Xva:Qn ["self"] ["self"] (Qi Xz):=by walk_at "sc"
abbrev YW:Stmt:=Xo 12 2
theorem J9a:Qn ["self"] ["self"] (Qi YW):=by walk_at "sc"
abbrev YX:Stmt:=Xo 12 4
theorem Yaa:Qn ["self"] ["self"] (Qi YX):=by walk_at "sc"
abbrev Yh:Stmt:=Xo 13 1
theorem Jya:Qn ["self","pages"] ["self","pages"] (Qi Yh):=by walk_at "sc"
abbrev Jt:Stmt:=Xo 14 1
theorem Yba:Qn ["self"] ["self"] (Qi Jt):=by walk_at "sc"
abbrev YY:Stmt:=Xo 16 0
theorem Yca:Qn ["self"] ["self"] (Qi YY):=by walk_at "sc"
abbrev Jj:Stmt:=Xo 16 5
theorem Zga:Qn ["self"] ["self"] (Qi Jj):=by walk_at "sc"
abbrev Zha:Stmt:=top 18
theorem ZQb:Qn ["value"] ["value"] (Qi Zha):=by walk_at "sc"
abbrev XA:Stmt:=top 28
theorem Xwa:Qn ["_law_script","_law_k"] ["_law_script","_law_k"] (Qi XA):=by walk_at "sc"
abbrev XB:Stmt:=top 29
theorem QG:Qn ["_law_cell_here","_law_signs","_law_mix","_law_many","_law_at","_law_plain","_law_found","_law_k"] ["_law_cell_here"] (Qi XB):=by walk_at "sc"
abbrev XC:Stmt:=top 30
theorem YZ:Qn ["_law_cell_here","_law_left","_law_found"] ["_law_cell_here"] (Qi XC):=by walk_at "sc"
abbrev Y0:Stmt:=top 32
theorem QU:Qn ["_law_key_here","_law_left","_law_sign","_law_level_here"] ["_law_key_here"] (Qi Y0):=by walk_at "sc"
abbrev Y1:Stmt:=top 33
theorem Qda:Qn ["_law_cell_here","_law_found"] ["_law_cell_here"] (Qi Y1):=by walk_at "sc"
abbrev ZB:Stmt:=top 34
theorem Yi:Qn ["_law_known","_law_numbers_here","_law_texts"] ["_law_known"] (Qi ZB):=by walk_at "sc"
abbrev Xxa:Stmt:=top 9
theorem QJb:Qn ["key","mix"] ["key"] (Qi Xxa):=by walk_at "sc"
abbrev XD:Stmt:=Xo 13 0
theorem Xya:Qn ["self","rows"] ["self","rows"] (Qi XD):=by walk_at "sc"
abbrev XE:Stmt:=Xo 14 0
theorem Xza:Qn ["self","level","heads"] ["self","level","heads"] (Qi XE):=by walk_at "sc"
abbrev Y2:Stmt:=Xo 16 1
theorem Yj:Qn ["self","page","told","number"] ["self","page"] (Qi Y2):=by walk_at "sc"
abbrev Jza:Stmt:=top 19
theorem YLb:Qn ["one","other"] ["one","other"] (Qi Jza):=by walk_at "sc"
abbrev Qqa:Stmt:=top 31
theorem ZCa:Qn ["_law_cell_here","_law_kind"] ["_law_cell_here"] (Qi Qqa):=by walk_at "sc"
abbrev Qra:Stmt:=top 10
theorem Jf:Qn ["key","rest","level"] ["key"] (Qi Qra):=by walk_at "sc"
abbrev Jk:Stmt:=Xo 16 2
theorem Zia:Qn ["self","number"] ["self","number"] (Qi Jk):=by walk_at "sc"
abbrev XF:Stmt:=top 35
theorem ZW:Qn ["_law_script","_law_known","_law_start","_law_k","_law_cell_here"] ["_law_script"] (Qi XF):=by walk_at "sc"
abbrev Zja:Stmt:=top 15
theorem ZRb:Qn ["level","entries"] ["level","entries"] (Qi Zja):=by walk_at "sc"
abbrev Y3:Stmt:=Xo 16 4
theorem Qea:Qn ["self","number","told"] ["self","number"] (Qi Y3):=by walk_at "sc"
abbrev Y4:Stmt:=Xo 16 8
theorem Qfa:Qn ["self","number","told"] ["self","number"] (Qi Y4):=by walk_at "sc"
abbrev Qoc:Stmt:=top 21
theorem ZSb:Qn ["entries","level","parts","entry"] ["entries","level"] (Qi Qoc):=by walk_at "sc"
abbrev Y5:Stmt:=Xo 16 3
theorem Qga:Qn ["self","number","told"] ["self","number"] (Qi Y5):=by walk_at "sc"
abbrev Qsa:Stmt:=top 22
theorem J2:Qn ["pages","level","entries","heads","part","page"] ["pages","level","entries"] (Qi Qsa):=by walk_at "sc"
abbrev Zy:Stmt:=top 37
theorem QT:Qn ["_law_pages","_law_numbers_here","_law_rows_here","_law_levels","_law_top","_law_due","_law_level_here","_law_found","_law_number"] ["_law_pages","_law_numbers_here","_law_rows_here"] (Qi Zy):=by walk_at "sc"
abbrev Zka:Stmt:=top 23
theorem JM:Qn ["pages","level","heads","top","above"] ["pages","level","heads"] (Qi Zka):=by walk_at "sc"
abbrev XAa:Stmt:=top 24
theorem QKb:Qn ["pages","rows","at"] ["pages","rows"] (Qi XAa):=by walk_at "sc"
abbrev Yk:Stmt:=Xo 12 5
theorem JN:Qn ["self","pages","rows","number"] ["self","pages"] (Qi Yk):=by walk_at "sc"
abbrev Zla:Stmt:=top 25
theorem ZTb:Qn ["pages","root"] ["pages","root"] (Qi Zla):=by walk_at "sc"
abbrev Y6:Stmt:=top 26
theorem Yl:Qn ["pages","root","numbers","number"] ["pages","root"] (Qi Y6):=by walk_at "sc"
abbrev JO:Stmt:=top 36
theorem ZJ:Qn ["_law_pages","_law_number","_law_found","_law_entry"] ["_law_pages","_law_number"] (Qi JO):=by walk_at "sc"
abbrev JP:Stmt:=top 38
theorem Qx:Qn ["_law_pages","_law_root","_law_number","_law_one","_law_other","_law_third","e"] ["_law_pages","_law_root","_law_number"] (Qi JP):=by walk_at "sc"
abbrev XG:Stmt:=top 39
theorem Ju:Qn ["_law_pages","_law_root","_law_rows_here","_law_numbers_here","_law_found","_law_spread"] ["_law_pages","_law_root","_law_rows_here"] (Qi XG):=by walk_at "sc"
abbrev YSa:Stmt:=top 40
theorem XH:Qn ["_law_script","_law_pages","_law_rows_here","_law_root","_law_numbers_here","_law_places","_law_at","_law_again"] ["_law_script"] (Qi YSa):=by walk_at "sc"
structure Zs(mg:Str->Option Value):Prop where
 int:mg "int"=none
 isinstance:mg "isinstance"=none
 len:mg "len"=none
 list:mg "list"=none
 max:mg "max"=none
 min:mg "min"=none
 ord:mg "ord"=none
 range:mg "range"=none
 set:mg "set"=none
 sorted:mg "sorted"=none
 str:mg "str"=none
 tuple:mg "tuple"=none
 MODULUS:∃ t,mg "MODULUS"=some (.int (2147483647) t)
 TOP_LEVEL:∃ t,mg "TOP_LEVEL"=some (.int (6) t)
def YVc(i j:Nat):Bool:=([(0,0),(1,0),(1,1),(2,0),(2,2),(3,3)]:List (Nat×Nat)).contains (i,j)
structure Tx(K:W.Frag)(mg:Str->Option Value)(CT:Addr)(cs:Nat->Addr)(ob:Nat->Addr):Prop where
 mg_Page:mg "Page"=some (.ref (ob 0))
 mg_Leaf:mg "Leaf"=some (.ref (ob 1))
 mg_Twig:mg "Twig"=some (.ref (ob 2))
 mg_Pages:mg "Pages"=some (.ref (ob 3))
 ob_:∀ i,i < 4->ObC K (ob i) ["level","rows","heads","entries","told_by_number","number_by_told","count"]
 isa:∀ i j,i < 4->j < 4->W.kitOne K (.ref (ob i)) (.ref (ob j))=some (YVc i j)
 top:YNc K mg "TableError" CT
 mg_NoPage:mg "NoPage"=some (.ref (cs 0))
 mg_NotRising:mg "NotRising"=some (.ref (cs 1))
 cl:∀ i,i < 2->W.XCl K (cs i) CT
 no:∀ i,i < 2->∀ f∈(["number","key"]:List Str),ZP K (cs i) f
 tab:∀ i j,i < 2->j < 2->W.kitOne K (.ref (cs i)) (.ref (cs j))=some (decide (i=j))
 tv:∀ i,i < 2->W.kitOne K (.ref (cs i)) (.type "ValueError")=some true
seal PE PT PW PA PS PSs PI PG Q2 PGs PO in
theorem JAa(Z:Zs mg)(T:Tx K mg CT cs ob)(F:Fun K "__init__" "NoPage.__init__" Ye f fd):QF P w K mg base CX0 1 f fd ["self","number"] (Znc (cs 0) ["number"]):=by
 refine F.ok Jxa (fun vs H Q E h=>?_) (fun cdv A outer s H vs Q E hr h=>?_)
 ·obtain⟨e,ws,rfl,hl,_⟩:=h;obtain⟨_,rfl⟩:=length_eq_one_iff.mp hl;rfl
 obtain⟨e,ws,rfl,hl,he,q⟩:=h;obtain⟨w0,rfl⟩:=length_eq_one_iff.mp hl;refine⟨_,(@Qb _ _ _ _ _ (Q7 (Qnb T.top rfl (Qg (pv 0) (Qg (pv 1) Qd))))
  (Qf (XTb CT rfl (pv 0) (pv 1) rfl))),?_⟩
 refine Qm (σ:=[some (.ref e),some w0]) rfl ?_
 walk_at "rd";simp only[tBI,JTc,YMc];walk_at "rd";exact⟨e,cs 0,[w0],⟨rfl,rfl⟩,by show 1<=1000;decide,he,T.cl 0 (by decide),cs 0,he,T.cl 0 (by decide),(T.no 0 (by decide) _ (by decide)),fun d hd hne=>q d hd hne⟩
seal PE PT PW PA PS PSs PI PG Q2 PGs PO in
theorem QUa(Z:Zs mg)(T:Tx K mg CT cs ob)(F:Fun K "__init__" "NotRising.__init__" Z4 f fd):QF P w K mg base CX0 1 f fd ["self","key"] (Znc (cs 1) ["key"]):=by
 refine F.ok QTa (fun vs H Q E h=>?_) (fun cdv A outer s H vs Q E hr h=>?_)
 ·obtain⟨e,ws,rfl,hl,_⟩:=h;obtain⟨_,rfl⟩:=length_eq_one_iff.mp hl;rfl
 obtain⟨e,ws,rfl,hl,he,q⟩:=h;obtain⟨w0,rfl⟩:=length_eq_one_iff.mp hl;refine⟨_,(@Qb _ _ _ _ _ (Q7 (Qnb T.top rfl (Qg (pv 0) (Qg (pv 1) Qd))))
  (Qf (XTb CT rfl (pv 0) (pv 1) rfl))),?_⟩
 refine Qm (σ:=[some (.ref e),some w0]) rfl ?_
 walk_at "rd";simp only[tBI,JTc,YMc];walk_at "rd";exact⟨e,cs 1,[w0],⟨rfl,rfl⟩,by show 1<=1000;decide,he,T.cl 1 (by decide),cs 1,he,T.cl 1 (by decide),(T.no 1 (by decide) _ (by decide)),fun d hd hne=>q d hd hne⟩
section
variable{K:W.Frag}
theorem XI:W.kitOne K (.type "list") (.type "list")=some true:=by rfl
end
theorem JBa(v:V):[v].length<=sizeLine:=show 1<=sizeLine by decide
theorem XJ(h:n<=1000):n<=sizeLine:=Vv (Qv h)
theorem at0(x:V)(r:List V):atI (x::r) 0=some x:=ZR (j:=0) rfl
theorem at1(x y:V)(r:List V):atI (x::y::r) 1=some y:=ZR (j:=1) rfl
namespace M11
def p:Int:=2147483647
theorem Qpc(cs:List Int):∀ (a b:Int),a % 2147483647=b % 2147483647->(cs.foldl (fun m c=>(m * 131+c) % 2147483647) a) % 2147483647=(cs.foldl (fun m c=>m * 131+c) b) % 2147483647:=by
 induction cs with
 | nil=>intro a b h;exact h
 | cons c cs ih =>
  intro a b h;simp only[foldl_cons]
  apply ih
  omega
theorem JCa(cs:List Int):∀ (a:Int),0<=a->a < 2147483647->0<=cs.foldl (fun m c=>(m * 131+c) % 2147483647) a/\cs.foldl (fun m c=>(m * 131+c) % 2147483647) a < 2147483647:=by
 induction cs with
 | nil=>intro a h1 h2;exact⟨h1,h2⟩
 | cons c cs ih =>
  intro a h1 h2;simp only[foldl_cons]
  apply ih <;> omega
def lev:Nat->Int->Nat
 | 0,_=>0
 | n+1,m=>if m % 4=0 then lev n (m / 4)+1 else 0
theorem QLb(n:Nat)(m:Int):lev (n+1) m=if m % 4=0 then lev n (m / 4)+1 else 0:=rfl
theorem Qqc:∀ (n:Nat) (m:Int),lev n m<=n
 | 0,_=>Ve _
 | n+1,m=>by
  unfold lev
  split
  ·have:=Qqc n (m / 4);omega
  ·omega
theorem JDa{r:Int}(h:l+lev (n - l) r=lev n m)(hl:l < n)(e:r % 4=0):(l+1)+lev (n - (l+1)) (r / 4)=lev n m:=by
 have e1:n - l=(n - (l+1))+1:=by omega
 rw[e1,QLb,if_pos e]at h
 omega
theorem ZQa{r:Int}(h:l+lev (n - l) r=lev n m)(hl:¬ (l < n/\r % 4=0))(hn:l<=n):l=lev n m:=by
 by_cases h1:l < n
 ·have h2:r % 4≠0:=fun e=>hl ⟨h1,e⟩
  have e1:n - l=(n - (l+1))+1:=by omega
  rw[e1,QLb,if_neg h2]at h
  omega
 ·have e:n - l=0:=by omega
  rw[e]at h;simp only[lev]at h
  omega
end M11
def ZG:V->Prop
 | .int n => -(10 ^ 30) < n/\n < 10 ^ 30
 | .str z=>z.length<=40
 | _=>False
def Ym(z:Str):List Int:=z.cps.toList.map fun(c:Nat)=>(c:Int)
def Yda:V->Int
 | .int n=>(n * 48271+11) % 2147483647
 | .str z=>(Ym z).foldl (fun m c=>(m * 131+c) % 2147483647) 7
 | _=>0
theorem ZUb(v:V):0<=Yda v/\Yda v < 2147483647:=by
 cases v with
 | int n=>simp only[Yda];omega
 | str z=>exact M11.JCa _ 7 (by decide) (by decide)
 | _=>simp only[Yda];omega
def XBa(v:V):Int:=Builtin.bitXor (Yda v) (Yda v / 32768)
def QB(v:V):Nat:=M11.lev 6 (XBa v)
theorem YTa{α β:Type}{l:List α}{c:α}{f:β->α->β}{a:β}(h:l[i]?=some c):(l.take (i+1)).foldl f a=f ((l.take i).foldl f a) c:=by
 rw[take_add_one,h];simp
theorem JWb{z:Str}{c:Nat}(h:z.cps.toList[i]?=some c):(Ym z)[i]?=some (c:Int):=by
 unfold Ym;rw[getElem?_map,h]
 rfl
theorem QMb(z:Str):(Ym z).length=z.length:=by
 unfold Ym;rw[Vr];simp[Str.length]
theorem ZBc{α:Type}{l:List α}{k:Int}(h0:0<=k)(h1:k < (l.length:Int)):∃ c,atI l k=some c:=by
 have hk:k.toNat < l.length:=by omega
 have ek:k=((k.toNat:Nat):Int):=by omega
 have h:=ZR (xs:=l) (j:=k.toNat) (Vb hk)
 rw[<- ek]at h;exact⟨_,h⟩
inductive JQ(u0_:W.Frag)(vs:List V)(H:Hp)(Q:VK)(E:XK):Prop
 | mk:∀ v,vs=[v]->ZG v->Q (.int (Yda v)) H->JQ u0_ vs H Q E
inductive JEa(u0_:W.Frag)(vs:List V)(H:Hp)(Q:VK)(E:XK):Prop
 | mk:∀ v,vs=[v]->ZG v->Q (.int (XBa v)) H->JEa u0_ vs H Q E
inductive XL(u0_:W.Frag)(vs:List V)(H:Hp)(Q:VK)(E:XK):Prop
 | mk:∀ v,vs=[v]->ZG v->Q (.int (QB v)) H->XL u0_ vs H Q E
theorem J3{K:W.Frag}:W.kitOne K (.type "int") (.type "str")=some false:=by rfl
theorem J4{K:W.Frag}:W.kitOne K (.type "str") (.type "str")=some true:=by rfl
seal PE PT PW PA PS PSs PI PG Q2 PGs PO in
theorem JFa(Z:Zs mg)(T:Tx K mg CT cs ob)(F:Fun K "mixed_first" "mixed_first" Yf f fd):QF P w K mg base CX0 1 f fd ["key"] (JQ K):=by
 refine F.ok ZV (fun vs H Q E h=>?_) (fun cdv A outer s H vs Q E hr h=>?_)
 ·walk_at "n"
 obtain⟨v,rfl,hv,q⟩:=h;refine⟨_,(@Qb _ _ _ _ _ (Q4 (Yb (ZO (Qt Zk rfl (Z.isinstance) Qu (Qg (pv 0) (Qg (JX rfl (Z.str) Z7a (v:=.ty "str") rfl) Qd))) (fun _=>rfl))) (Qf (Qp (Qj QI (Qj Zr (Qj ZA (pv 0) Qc) Qc) (Xfa (Z.MODULUS) rfl)))) QC)
  (@Qb _ _ _ _ _ (Ql (i:=1) ZV.nd rfl (Or.inl rfl) Qc)
  (@Qb _ _ _ _ _ (ZL PassesOwn.never rfl (Xtb (pv 0)) (Ze (i:=2) ZV.nd rfl (Or.inl rfl)) (Qf (Ql (i:=1) ZV.nd rfl (Or.inl rfl) (Qj QI (Qj Zr (Qj ZA (pv 1) Qc) (Qt XYa rfl (Z.ord) Xwb (Qg (pv 2) Qd))) (Xfa (Z.MODULUS) rfl)))))
  (Qf (Qp (pv 1)))))),?_⟩
 refine Qm (σ:=[some v,none,none]) rfl ?_
 walk_at "rd";cases v with
 | int n =>
  refine Z2 (.int n) J3 ⟨_,rfl,?_⟩
  walk_at "rd";walk_at "go";exact q
 | str z =>
  refine Z2 (.str z) J4 ⟨_,rfl,?_⟩
  walk_at "rd";refine Jxb (z:=z) (fun i σ' H'=>H'=H/\∃ x,σ'=[some (.str z),some (.int (((Ym z).take i).foldl (fun m c=>(m * 131+c) % 2147483647) 7)),x]) ⟨rfl,_,rfl⟩ ?_ ?_
  ·rintro i c σ' H' hc ⟨rfl,x,rfl⟩
   walk_at "rd";have hr:=M11.JCa ((Ym z).take i) 7 (by decide) (by decide)
   refine⟨by refine Y3a.ok ?_;unfold Y3a;omega,rfl,?_,_,rfl⟩
   rw[YTa (JWb hc)]
   rfl
  ·rintro σ' H' ⟨rfl,x,rfl⟩
   walk_at "rd";rw[take_of_length_le (by rw[QMb];exact Ve _)]
   exact q
 | _=>exact hv.elim
seal PE PT PW PA PS PSs PI PG Q2 PGs PO in
theorem Qrc(Z:Zs mg)(T:Tx K mg CT cs ob)(Yea:Cal P w K mg base 1 "mixed_first" ["key"] (JQ K))(F:Fun K "mixed" "mixed" Xxa f fd):QF P w K mg base CX0 2 f fd ["key"] (JEa K):=by
 refine F.ok QJb (fun vs H Q E h=>?_) (fun cdv A outer s H vs Q E hr h=>?_)
 ·walk_at "n"
 obtain⟨v,rfl,hv,q⟩:=h;refine⟨_,(@Qb _ _ _ _ _ (Ql (i:=1) QJb.nd rfl (Or.inl rfl) (QJ Yea (k:=1) hr (by decide) rfl (Qg (pv 0) Qd)))
  (Qf (Qp (Qj Zbb (pv 1) (Qj Zab (pv 1) Qc))))),?_⟩
 refine Qm (σ:=[some v,none]) rfl ?_
 walk_at "rd";refine⟨v,rfl,hv,?_⟩
 walk_at "rd";walk_at "go";exact q
seal PE PT PW PA PS PSs PI PG Q2 PGs PO in
theorem QNb(Z:Zs mg)(T:Tx K mg CT cs ob)(ZCc:Cal P w K mg base 2 "mixed" ["key"] (JEa K))(F:Fun K "level_of" "level_of" Qra f fd):QF P w K mg base CX0 3 f fd ["key"] (XL K):=by
 refine F.ok Jf (fun vs H Q E h=>?_) (fun cdv A outer s H vs Q E hr h=>?_)
 ·walk_at "n"
 obtain⟨v,rfl,hv,q⟩:=h;refine⟨_,(@Qb _ _ _ _ _ (Ql (i:=1) Jf.nd rfl (Or.inl rfl) (QJ ZCc (k:=2) hr (by decide) rfl (Qg (pv 0) Qd)))
  (@Qb _ _ _ _ _ (Ql (i:=2) Jf.nd rfl (Or.inl rfl) Qc)
  (@Qb _ _ _ _ _ (XUa PassesOwn.never (PW.pt (YXb (Qz ZPc (pv 2) (Xfa (Z.TOP_LEVEL) rfl) (Qy _)) (Jeb (Qz Xj (Qj QI (pv 1) Qc) Qc (Qy _))))) (@Qb _ _ _ _ _ (Ql (i:=1) Jf.nd rfl (Or.inl rfl) (Qj Zab (pv 1) Qc))
  (Qf (Ql (i:=2) Jf.nd rfl (Or.inl rfl) (Qj Zr (pv 2) Qc)))))
  (Qf (Qp (pv 2)))))),?_⟩
 refine Qm (σ:=[some v,none,none]) rfl ?_
 walk_at "rd";refine⟨v,rfl,hv,?_⟩
 walk_at "rd";refine⟨fun m σ' H'=>H'=H/\∃ (r:Int) (l:Nat),σ'=[some v,some (.int r),some (.int l)]/\l<=6/\m=6 - l/\l+M11.lev (6 - l) r=QB v,⟨6,rfl,XBa v,0,rfl,by decide,rfl,by show 0+M11.lev 6 (XBa v)=QB v;rw[Nat.zero_add];rfl⟩,?_⟩
 rintro m σ' H' ⟨rfl,r,l,rfl,hl,rfl,e⟩;walk_at "rd"
 by_cases h1:l < 6
 ·rw[if_pos (by omega)]
  walk_at "go"
  by_cases h2:r % 4=0
  ·rw[if_pos h2]
   refine⟨fun σ2 H2=>H2=H'/\σ2=[some v,some (.int (r / 4)),some (.int ((l+1:Nat):Int))],fun σ2 H2 ⟨a,b⟩=>⟨6 - (l+1),by omega,a,r / 4,l+1,b,by omega,rfl,M11.JDa e h1 h2⟩,?_⟩
   walk_at "rd";exact⟨rfl,by omega⟩
  ·rw[if_neg h2]
   have:=M11.ZQa e (fun z=>h2 z.2) hl
   rw[this];exact q
 ·rw[if_neg (by omega)]
  have:=M11.ZQa e (fun z=>h1 z.1) hl
  rw[this];exact q
def pgF(tw:Bool)(l:Int)(t:Addr):List (Str×V):=ZE (if tw=true then "heads" else "rows") (.ref t) (ZE "entries" (.ref t) (ZE "level" (.int l) []))
theorem Qsc{tw:Bool}:(if tw=true then 2 else 1) < 4:=by cases tw <;> decide
def PgD(ob:Nat->Addr)(H:Hp)(a:Addr)(l:Int)(es:List Dt):Prop :=
 ∃ tw dx t,tw=decide (l≠0)/\H a=some (.ins (ob (if tw=true then 2 else 1)) dx (pgF tw l t))/\TD H 7 (.t es) (.ref t)
theorem PgD.same{l:Int}(h:PgD ob H a l es)(s:Qk H H'):PgD ob H' a l es:=by
 obtain⟨tw,dx,t,e,h1,h2⟩:=h;exact⟨tw,dx,t,e,s _ _ h1,h2.same s⟩
section
variable{K:W.Frag}{mg:Str->Option Value}{CT:Addr}{cs ob:Nat->Addr}{a t dx:Addr}{tw:Bool}{l:Int}{i:Nat}{σ:St}{H:Hp}{Q:VK}
theorem Qtc(T:Tx K mg CT cs ob)(hs:σ[i]?=some (some (.ref a)))(ha:H a=some (.ins (ob (if tw=true then 2 else 1)) dx (pgF tw l t)))(q:Q (.int l) H):Xab K (YE i) "level" σ H Q :=
 ZF (T.ob_ _ Qsc) (by decide) hs ha (by cases tw <;> rfl) q
theorem JGa(T:Tx K mg CT cs ob)(hs:σ[i]?=some (some (.ref a)))(ha:H a=some (.ins (ob (if tw=true then 2 else 1)) dx (pgF tw l t)))(q:Q (.ref t) H):Xab K (YE i) "entries" σ H Q :=
 ZF (T.ob_ _ Qsc) (by decide) hs ha (by cases tw <;> rfl) q
end
theorem ZDc{x:V}(h:xs[0]?=some x):atI xs 0=some x:=ZR (j:=0) h
inductive QM(u0_:W.Frag)(ob:Nat->Addr)(vs:List V)(H:Hp)(Q:VK)(E:XK):Prop
 | mk:∀ a l es,vs=[.ref a]->PgD ob H a l es->(∀ r H',Qk H H'->H r=none->TD H' 8 (Zx l es) (.ref r)->Q (.ref r) H')->QM u0_ ob vs H Q E
seal PE PT PW PA PS PSs PI PG Q2 PGs PO in
theorem Y7(Z:Zs mg)(T:Tx K mg CT cs ob)(F:Fun K "told" "Page.told" Xz f fd):QF P w K mg base (CX1 P w) 1 f fd ["self"] (QM K ob):=by
 refine F.ok1 Xva (fun vs H Q E h=>?_) (fun cdv A outer s H vs Q E hr h=>?_)
 ·walk_at "n"
 obtain⟨a,l,es,rfl,hP,q⟩:=h;refine⟨_,(Qf (Qp (Zu (Qg (Zt (pv 0) rfl) (Qg (Zt (pv 0) rfl) Qd))))),?_⟩
 refine Qm (σ:=[some (.ref a)]) rfl ?_
 walk_at "rd";obtain⟨tw,dx,t,_,ha,ht⟩:=hP;exact Qtc T rfl ha (JGa T rfl ha ⟨Yd,fun p hp=>q p _ (Qh hp _) hp (TD.pair Qa (.ofV rfl) (ht.same (Qh hp _)))⟩)
inductive Zo(u0_:W.Frag)(ob:Nat->Addr)(vs:List V)(H:Hp)(Q:VK)(E:XK):Prop
 | mk:∀ a l k r es,vs=[.ref a]->PgD ob H a l (.t (.v k::r)::es)->Q k H->Zo u0_ ob vs H Q E
seal PE PT PW PA PS PSs PI PG Q2 PGs PO in
theorem Yn(Z:Zs mg)(T:Tx K mg CT cs ob)(F:Fun K "first" "Page.first" YW f fd):QF P w K mg base (CX1 P w) 1 f fd ["self"] (Zo K ob):=by
 refine F.ok1 J9a (fun vs H Q E h=>?_) (fun cdv A outer s H vs Q E hr h=>?_)
 ·walk_at "n"
 obtain⟨a,l,k,r,es,rfl,hP,q⟩:=h;refine⟨_,(Qf (Qp (Q8 Zl (Q8 Zl (Zt (pv 0) rfl) Qc (fun _ _=>rfl)) Qc (fun _ _=>rfl)))),?_⟩
 refine Qm (σ:=[some (.ref a)]) rfl ?_
 walk_at "rd";obtain⟨tw,dx,t,_,ha,ht⟩:=hP;obtain⟨_,_,xs,_,e,ht',rt⟩:=ht.tup;cases e;cases rt with
 | cons r1 _ =>
  obtain⟨_,b,ys,_,rfl,hb,rb⟩:=r1.tup;cases rb with
  | cons r2 _ =>
   obtain⟨_,rfl⟩:=r2.flat;exact JGa T rfl ha ⟨t,rfl,_,SqT.of ht',_,ZDc rfl,b,rfl,_,SqT.of hb,_,ZDc rfl,q⟩
inductive ZX(K:W.Frag)(ob:Nat->Addr)(vs:List V)(H:Hp)(Q:VK)(E:XK):Prop
 | mk:∀ a tw dx l e b xs,vs=[.ref a,.int l,.ref e]->H a=some (.ins (ob (if tw=true then 2 else 1)) dx [])->HE b H e xs->xs.length<=900->(∀ t H',H' a=some (.ins (ob (if tw=true then 2 else 1)) dx (ZE "entries" (.ref t) (ZE "level" (.int l) [])))->H' t=some (.tup xs)->(∀ fs,Qk (upd H a (.ins (ob (if tw=true then 2 else 1)) dx fs)) (upd H' a (.ins (ob (if tw=true then 2 else 1)) dx fs)))->Q .non H')->ZX K ob vs H Q E
seal PE PT PW PA PS PSs PI PG Q2 PGs PO in
theorem XCa(Z:Zs mg)(T:Tx K mg CT cs ob)(F:Fun K "__init__" "Page.__init__" Xy f fd):QF P w K mg base CX0 1 f fd ["self","level","entries"] (ZX K ob):=by
 refine F.ok Xua (fun vs H Q E h=>?_) (fun cdv A outer s H vs Q E hr h=>?_)
 ·walk_at "n"
 obtain⟨a,tw,dx,l,e,b,xs,rfl,ha,he,lx,q⟩:=h;refine⟨_,(@Qb _ _ _ _ _ (Xr (pv 0) (pv 1) rfl)
  (Qf (Xr (pv 0) (JB X8 rfl (Z.tuple) Qeb (Qg (pv 2) Qd)) rfl))),?_⟩
 refine Qm (σ:=[some (.ref a),some (.int l),some (.ref e)]) rfl ?_
 walk_at "rd";have c:=T.ob_ _ (Qsc (tw:=tw));generalize ob (if tw=true then 2 else 1)=C at *
 refine Xpa c (by decide) rfl (y:=.int l) (H1:=H) (fun Q q=>q) ha (by decide) ?_
 have he1:HE b _ e xs:=HE.upd_ins (o:=.ins C dx (ZE "level" (.int l) [])) he ha;have last:∀ (t:Addr) (H1:Hp),H1 a=some (.ins C dx (ZE "level" (.int l) []))->H1 t=some (.tup xs)->(∀ fs,Qk (upd H a (.ins C dx fs)) (upd H1 a (.ins C dx fs)))->Q .non (upd H1 a (.ins C dx (ZE "entries" (.ref t) (ZE "level" (.int l) [])))):=by
  intro t H1 h1 ht hsame;have ta:t≠a:=fun z=>by rw[z,h1]at ht;cases ht
  exact q t _ Qa (by rw[Qe ta];exact ht) fun fs=>by rw[YD];exact hsame fs
 cases b with
 | false =>
  refine⟨e,rfl,xs,.inl ⟨SqL.of he1,fun t ht=>⟨a,C,dx,_,rfl,Qh ht _ _ _ Qa,c.cl,c.no _ (by decide),show 1 < 1000 by decide,?_⟩⟩⟩
  have ta:t≠a:=fun z=>by rw[z,Qa]at ht;cases ht
  refine last t _ (Qh ht _ _ _ Qa) Qa fun fs=>?_
  rw[Qtb (Ne.symm ta),YD,<- Qtb (Ne.symm ta)];exact Qh (by rw[Qe ta]at ht ⊢;exact ht) _
 | true =>
  refine⟨e,rfl,xs,.inr ⟨SqT.of he1,⟨a,C,dx,_,rfl,Qa,c.cl,c.no _ (by decide),show 1 < 1000 by decide,?_⟩⟩⟩
  exact last e _ Qa he1 fun fs=>by rw[YD];exact Qk.refl _
theorem YUa{C dx C' dx':Addr}{fs fs':List (Str×V)}(ha:H a=some (.ins C dx fs))(s:Qk (upd H a (.ins C' dx' fs')) H'):Zw H H':=fun b xs e=>s _ _ (by rw[Qe (Jo e ha (by intro z;cases z))];exact e)
inductive Jv(K:W.Frag)(ob:Nat->Addr)(vs:List V)(H:Hp)(Q:VK)(E:XK):Prop
 | mk:∀ a dx e b xs es,vs=[.ref a,.ref e]->H a=some (.ins (ob 1) dx [])->HE b H e xs->Paired (fun d v=>TD H 6 d v) es xs->xs.length<=900->(∀ dx fs H',Qk (upd H a (.ins (ob 1) dx fs)) H'->PgD ob H' a 0 es->Q .non H')->Jv K ob vs H Q E
seal PE PT PW PA PS PSs PI PG Q2 PGs PO in
theorem XDa(Z:Zs mg)(T:Tx K mg CT cs ob)(B_Page:BaI P w K mg base 1 "Page" (ZX K ob))(F:Fun K "__init__" "Leaf.__init__" XD f fd):QF P w K mg base CX0 2 f fd ["self","rows"] (Jv K ob):=by
 refine F.ok Xya (fun vs H Q E h=>?_) (fun cdv A outer s H vs Q E hr h=>?_)
 ·walk_at "n"
 obtain⟨a,dx,e,b,xs,es,rfl,ha,he,re,lx,q⟩:=h;refine⟨_,(@Qb _ _ _ _ _ (Q7 (YMa B_Page (k:=1) hr (by decide) rfl (Qg (pv 0) (Qg Qc (Qg (pv 1) Qd)))))
  (Qf (Xr (pv 0) (Zt (pv 0) rfl) rfl))),?_⟩
 refine Qm (σ:=[some (.ref a),some (.ref e)]) rfl ?_
 walk_at "rd";have c:=T.ob_ 1 (by decide)
 refine⟨a,false,dx,0,e,b,xs,rfl,ha,he,lx,fun t H1 h1 ht hs=>?_⟩
 have ta:t≠a:=fun z=>by rw[z,h1]at ht;cases ht
 refine Xpa c (by decide) rfl (y:=.ref t) (H1:=H1) (fun Q q=>ZF c (by decide) rfl h1 rfl q) h1 (show 2 < 1000 by decide) ?_
 exact q dx _ _ (hs _) ⟨false,dx,t,rfl,Qa,TD.ofT (by rw[Qe ta];exact ht) (TDs.sameT re (YUa ha (hs _)))⟩
inductive Jw(K:W.Frag)(ob:Nat->Addr)(vs:List V)(H:Hp)(Q:VK)(E:XK):Prop
 | mk:∀ a dx l e b xs es,vs=[.ref a,.int l,.ref e]->l≠0->H a=some (.ins (ob 2) dx [])->HE b H e xs->Paired (fun d v=>TD H 6 d v) es xs->xs.length<=900->(∀ dx fs H',Qk (upd H a (.ins (ob 2) dx fs)) H'->PgD ob H' a l es->Q .non H')->Jw K ob vs H Q E
seal PE PT PW PA PS PSs PI PG Q2 PGs PO in
theorem XEa(Z:Zs mg)(T:Tx K mg CT cs ob)(B_Page:BaI P w K mg base 1 "Page" (ZX K ob))(F:Fun K "__init__" "Twig.__init__" XE f fd):QF P w K mg base CX0 2 f fd ["self","level","heads"] (Jw K ob):=by
 refine F.ok Xza (fun vs H Q E h=>?_) (fun cdv A outer s H vs Q E hr h=>?_)
 ·walk_at "n"
 obtain⟨a,dx,l,e,b,xs,es,rfl,hl,ha,he,re,lx,q⟩:=h;refine⟨_,(@Qb _ _ _ _ _ (Q7 (YMa B_Page (k:=1) hr (by decide) rfl (Qg (pv 0) (Qg (pv 1) (Qg (pv 2) Qd)))))
  (Qf (Xr (pv 0) (Zt (pv 0) rfl) rfl))),?_⟩
 refine Qm (σ:=[some (.ref a),some (.int l),some (.ref e)]) rfl ?_
 walk_at "rd";have c:=T.ob_ 2 (by decide)
 refine⟨a,true,dx,l,e,b,xs,rfl,ha,he,lx,fun t H1 h1 ht hs=>?_⟩
 have ta:t≠a:=fun z=>by rw[z,h1]at ht;cases ht
 refine Xpa c (by decide) rfl (y:=.ref t) (H1:=H1) (fun Q q=>ZF c (by decide) rfl h1 rfl q) h1 (show 2 < 1000 by decide) ?_
 exact q dx _ _ (hs _) ⟨true,dx,t,(decide_eq_true hl).symm,Qa,TD.ofT (by rw[Qe ta];exact ht) (TDs.sameT re (YUa ha (hs _)))⟩
inductive Y8(u0_:W.Frag)(ob:Nat->Addr)(vs:List V)(H:Hp)(Q:VK)(E:XK):Prop
 | mk:∀ l e b xs es,vs=[.int l,.ref e]->HE b H e xs->Paired (fun d v=>TD H 6 d v) es xs->xs.length<=900->(∀ a H',Qk H H'->H a=none->PgD ob H' a l es->Q (.ref a) H')->Y8 u0_ ob vs H Q E
seal PE PT PW PA PS PSs PI PG Q2 PGs PO in
theorem ZVb(Z:Zs mg)(T:Tx K mg CT cs ob)(ZWb:MkV P w K mg base 2 "Twig" (ob 2) (Jw K ob))(ZXb:MkV P w K mg base 2 "Leaf" (ob 1) (Jv K ob))(F:Fun K "page_of" "page_of" Zja f fd):QF P w K mg base CX0 4 f fd ["level","entries"] (Y8 K ob):=by
 refine F.ok ZRb (fun vs H Q E h=>?_) (fun cdv A outer s H vs Q E hr h=>?_)
 ·walk_at "n"
 obtain⟨l,e,b,xs,es,rfl,he,re,lx,q⟩:=h;refine⟨_,(@Qb _ _ _ _ _ (Q4 (Qz Xj (pv 0) Qc (Qy _)) (Qf (Qp (Z5c ZXb (k:=3) hr (by decide) rfl (Qg (pv 1) Qd)))) QC)
  (Qf (Qp (Z5c ZWb (k:=3) hr (by decide) rfl (Qg (pv 0) (Qg (pv 1) Qd)))))),?_⟩
 refine Qm (σ:=[some (.int l),some (.ref e)]) rfl ?_
 walk_at "rd";have sH:∀ (x dx:Addr) (o u:HO),H x=none->H dx=none->Qk H (upd (upd H dx u) x o):=fun x dx o u h1 h2=>ZOa h1 h2 (Qk.refl _)
 refine YM (fun h=>?_) fun h=>?_
 ·refine fun x dx hx hdx hne=>⟨x,dx,e,b,xs,es,rfl,Qa,he.same (sH _ _ _ _ hx hdx),TDs.sameT re (sH _ _ _ _ hx hdx).t,lx,fun dx' fs H' s' pg=>⟨rfl,q x H' ?_ hx ?_⟩⟩
  ·rw[YD]at s';exact ZOa hx hdx s'
  ·subst h;exact pg
 ·refine fun x dx hx hdx hne=>⟨x,dx,l,e,b,xs,es,rfl,h,Qa,he.same (sH _ _ _ _ hx hdx),TDs.sameT re (sH _ _ _ _ hx hdx).t,lx,fun dx' fs H' s' pg=>⟨rfl,q x H' ?_ hx pg⟩⟩
  rw[YD]at s';exact ZOa hx hdx s'
abbrev StL:=List (Int×Dt×Addr)
def stF(d1 d2:Addr)(c:Int):List (Str×V):=ZE "count" (.int c) (ZE "number_by_told" (.ref d2) (ZE "told_by_number" (.ref d1) []))
def XM(x:Int×Dt×Addr):Key×V:=(.inl x.1,.ref x.2.2)
def Yx(x:Int×Dt×Addr):Dt×Addr×V:=(x.2.1,x.2.2,.int x.1)
def Ycc(d:Dt):Prop:=∃ l k r,∃ es:List Dt,d=Zx l (.t (.v k::r)::es)/\hV k=true/\es.length < 900
structure QK(P:Program)(w:World)(ob:Nat->Addr)(H:Hp)(p d1 d2:Addr)(st:StL)(c:Int):Prop where
 obj:∃ dx,H p=some (.ins (ob 3) dx (stF d1 d2 c))
 num:H d1=some (.dK (st.map XM))
 tol:H d2=some (dN P w d2 (st.map Yx))
 td:∀ x∈st,TD H 8 x.2.1 (.ref x.2.2)
 sh:∀ x∈st,Ycc x.2.1
 lt:∀ x∈st,x.1 < c
 nn:(st.map (·.1)).Nodup
 nd:(st.map (·.2.1)).Nodup
 few:st.length<=1000000
section
variable{P:Program}{w:World}{K:W.Frag}{ob:Nat->Addr}{H H':Hp}{p d1 d2:Addr}{st:StL}{c:Int}
theorem QK.pd1(h:QK P w ob H p d1 d2 st c):p≠d1:=by
 obtain⟨dx,e⟩:=h.obj;exact Jo e h.num (by intro z;cases z)
theorem QK.pd2(h:QK P w ob H p d1 d2 st c):p≠d2:=by
 obtain⟨dx,e⟩:=h.obj;exact Jo e h.tol (by intro z;cases z)
theorem QK.d12(h:QK P w ob H p d1 d2 st c):d1≠d2:=Jo h.num h.tol (by intro z;cases z)
theorem QK.keep(h:QK P w ob H p d1 d2 st c)(s:Zw H H')(hp:H' p=H p)(h1:H' d1=H d1)(h2:H' d2=H d2):QK P w ob H' p d1 d2 st c :=
 ⟨by rw[hp];exact h.obj,by rw[h1];exact h.num,by rw[h2];exact h.tol,fun x hx=>TD.sameT s 8 (h.td x hx),h.sh,h.lt,h.nn,h.nd,h.few⟩
theorem QK.same(h:QK P w ob H p d1 d2 st c)(s:Qk H H'):QK P w ob H' p d1 d2 st c:=by
 obtain⟨dx,e⟩:=h.obj;exact h.keep s.t (by rw[s _ _ e,e]) (by rw[s _ _ h.num,h.num]) (by rw[s _ _ h.tol,h.tol])
theorem QK.dn(h:QK P w ob H p d1 d2 st c):Xw P w K H d2 (st.map Yx):=⟨h.tol,fun x hx=>by
 obtain⟨y,hy,rfl⟩:=mem_map.mp hx;exact⟨(h.td y hy).rep,(h.td y hy).h⟩⟩
theorem QK.get(h:QK P w ob H p d1 d2 st c){x:Int×Dt×Addr}(hx:x∈st):JT (st.map XM) (.inl x.1)=some (.ref x.2.2):=by
 rw[YOa];have:(fun y:Int×Dt×Addr=>decide ((XM y).1=(Sum.inl x.1:Key)))=fun y=>decide (y.1=x.1):=by
  funext y
  exact decide_eq_decide.mpr ⟨fun e=>by injection e,fun e=>by show Sum.inl _=_;rw[e]⟩
 rw[this,Yv (fun y:Int×Dt×Addr=>y.1) h.nn hx];rfl
theorem QK.getN(h:QK P w ob H p d1 d2 st c){x:Int×Dt×Addr}(hx:x∈st):Qoa (st.map Yx) x.2.1=some (.int x.1):=by
 rw[Qxb];have:=Yv (fun y:Int×Dt×Addr=>y.2.1) h.nd hx
 rw[show(fun y:Int×Dt×Addr=>decide ((Yx y).1=x.2.1))=fun y=>decide (y.2.1=x.2.1) from rfl,this];rfl
theorem QK.fun_(h:QK P w ob H p d1 d2 st c){n:Int}{d d':Dt}{t t':Addr}(h1:(n,d,t)∈st)(h2:(n,d',t')∈st):d=d'/\t=t':=by
 have e1:=Yv (fun y:Int×Dt×Addr=>y.1) h.nn h1
 have e2:=Yv (fun y:Int×Dt×Addr=>y.1) h.nn h2
 have e:=e1.symm.trans e2;injection e with e
 injection e with _ e
 injection e with a b
 exact⟨a,b⟩
theorem Jcc{n:Int}(h:∀ x∈st,x.1≠n):JT (st.map XM) (.inl n)=none:=by
 rw[YOa];have:(fun y:Int×Dt×Addr=>decide ((XM y).1=(Sum.inl n:Key)))=fun y=>decide (y.1=n):=by
  funext y
  exact decide_eq_decide.mpr ⟨fun e=>by injection e,fun e=>by show Sum.inl _=_;rw[e]⟩
 rw[this,JPb (fun y:Int×Dt×Addr=>y.1) h];rfl
theorem Quc(h:∀ x∈st,x.2.1≠d):Qoa (st.map Yx) d=none:=by
 rw[Qxb];have:=JPb (fun y:Int×Dt×Addr=>y.2.1) h
 rw[show(fun y:Int×Dt×Addr=>decide ((Yx y).1=d))=fun y=>decide (y.2.1=d) from rfl,this];rfl
theorem Jg(h:QK P w ob H p d1 d2 st c)(s:QY [p,d1,d2] H H'):Zw H H':=fun b xs e=>s b _ (fun z=>by
 obtain⟨dx,eo⟩:=h.obj
 rcases mem_cons.mp z with z | z
 ·rw[z,eo]at e;cases e
 rcases mem_cons.mp z with z | z
 ·rw[z,h.num]at e;cases e
 ·rw[mem_singleton.mp z,h.tol]at e;cases e) e
end
inductive Ja(P:Program)(w:World)(ob:Nat->Addr)(vs:List V)(H:Hp)(Q:VK)(E:XK):Prop
 | mk:∀ p dx,vs=[.ref p]->H p=some (.ins (ob 3) dx [])->(∀ d1 d2 H' dx fs,H d1=none->H d2=none->Qk (upd H p (.ins (ob 3) dx fs)) H'->QK P w ob H' p d1 d2 [] 0->Q .non H')->Ja P w ob vs H Q E
seal PE PT PW PA PS PSs PI PG Q2 PGs PO in
theorem Yfa(Z:Zs mg)(T:Tx K mg CT cs ob)(F:Fun K "__init__" "Pages.__init__" YY f fd):QF P w K mg base CX0 1 f fd ["self"] (Ja P w ob):=by
 refine F.ok Yca (fun vs H Q E h=>?_) (fun cdv A outer s H vs Q E hr h=>?_)
 ·walk_at "n"
 obtain⟨a,dx,rfl,ha,q⟩:=h;refine⟨_,(@Qb _ _ _ _ _ (Xr (pv 0) Qab rfl)
  (@Qb _ _ _ _ _ (Xr (pv 0) Qdc rfl)
  (Qf (Xr (pv 0) Qc rfl)))),?_⟩
 refine Qm (σ:=[some (.ref a)]) rfl ?_
 walk_at "rd";have c:=T.ob_ 3 (by decide)
 intro p hp;have pa:a≠p:=fun z=>by rw[<- z,ha]at hp;cases hp
 refine⟨a,ob 3,dx,_,rfl,by rw[Qe pa];exact ha,c.cl,c.no _ (by decide),by decide,?_⟩
 intro p2 hp2;have pa2:a≠p2:=fun z=>by rw[<- z,Qa]at hp2;cases hp2
 have hp2':upd H p (.dK []) p2=none:=by rw[Qe (Ne.symm pa2)]at hp2;exact hp2
 have pp:p2≠p:=fun z=>by rw[z,Qa]at hp2';cases hp2'
 have hp2'':H p2=none:=by rw[Qe pp]at hp2';exact hp2'
 refine⟨a,ob 3,dx,ZE "told_by_number" (.ref p) [],rfl,by rw[Qe pa2];exact Qa,c.cl,c.no _ (by decide),(show 1 < 1000 by decide),?_⟩
 refine⟨a,ob 3,dx,ZE "number_by_told" (.ref p2) (ZE "told_by_number" (.ref p) []),rfl,Qa,c.cl,c.no _ (by decide),(show 2 < 1000 by decide),?_⟩
 show Q V.non _;rw[YD];refine q p p2 _ dx (stF p p2 0) hp hp2'' (fun b o hb=>?_) ⟨⟨dx,Qa⟩,?_,?_,(fun x hx=>nomatch hx),(fun x hx=>nomatch hx),(fun x hx=>nomatch hx),nodup_nil,nodup_nil,Vk _⟩
 ·by_cases e:b=a
  ·rw[e,Qa]at hb ⊢;exact hb
  ·rw[Qe e]at hb ⊢
   rw[Qe (Qo hb hp2''),Qe e,Qe (Qo hb hp)];exact hb
 ·rw[Qe (Ne.symm pa),Qe (Ne.symm pp),Qe (Ne.symm pa)];exact Qa
 ·rw[Qe (Ne.symm pa2)];exact Qa
inductive Zj(P:Program)(w:World)(cs ob:Nat->Addr)(vs:List V)(H:Hp)(Q:VK)(E:XK):Prop
 | mk:∀ p d1 d2 st c n,vs=[.ref p,.int n]->QK P w ob H p d1 d2 st c->(∀ d t,(n,d,t)∈st->Q (.ref t) H)->((∀ x∈st,x.1≠n)->∀ d,H d=none->E (.ref (cs 0)) (some d) (upd H d (xD d [("number",.int n)])))->Zj P w cs ob vs H Q E
seal PE PT PW PA PS PSs PI PG Q2 PGs PO in
theorem Zma(Z:Zs mg)(T:Tx K mg CT cs ob)(JHa:MkX P w K mg base 1 "NoPage" (cs 0) CT ["number"])(F:Fun K "told_at" "Pages.told_at" Jk f fd):QF P w K mg base (CX1 P w) 3 f fd ["self","number"] (Zj P w cs ob):=by
 refine F.ok1 Zia (fun vs H Q E h=>?_) (fun cdv A outer s H vs Q E hr h=>?_)
 ·walk_at "n"
 obtain⟨p,d1,d2,st,c,n,rfl,hS,q1,q2⟩:=h;refine⟨_,(@Qb _ _ _ _ _ (Q4 (YWb (Yeb hr.u1 (pv 1) (Zt (pv 0) rfl))) (Qf (YKa ZS rfl rfl rfl JHa (k:=2) hr (by decide) (Qg (pv 1) Qd))) QC)
  (Qf (Qp (Jvb hr.u1 (Zt (pv 0) rfl) (pv 1) (fun _ _=>rfl))))),?_⟩
 refine Qm (σ:=[some (.ref p),some (.int n)]) rfl ?_
 walk_at "rd";obtain⟨dx,ho⟩:=hS.obj;have cc:=T.ob_ 3 (by decide)
 refine ZF cc (by decide) rfl ho rfl ⟨d1,rfl,_,JWa.k (k:=.inl n) hS.num,?_⟩
 by_cases hx:∃ x∈st,x.1=n
 ·obtain⟨⟨n',d,t⟩,hm,rfl⟩:=hx
  rw[hS.get hm];rw[if_neg (by simp)]
  exact ZF cc (by decide) rfl ho rfl ⟨d1,rfl,.ref t,by rw[<- hS.get hm];exact JWa.k (k:=.inl _) hS.num,q1 d t hm⟩
 ·have hx':∀ x∈st,x.1≠n:=fun x h e=>hx ⟨x,h,e⟩
  rw[Jcc hx',if_pos (by decide)]
  exact⟨rfl,show 1<=1000 by decide,fun d hd=>q2 hx' d hd⟩
inductive Q1(P:Program)(w:World)(cs ob:Nat->Addr)(vs:List V)(H:Hp)(Q:VK)(E:XK):Prop
 | mk:∀ p d1 d2 st c n,vs=[.ref p,.int n]->QK P w ob H p d1 d2 st c->(∀ l es t,(n,Zx l es,t)∈st->∀ a H',Qk H H'->H a=none->PgD ob H' a l es->Q (.ref a) H')->((∀ x∈st,x.1≠n)->∀ d,H d=none->E (.ref (cs 0)) (some d) (upd H d (xD d [("number",.int n)])))->Q1 P w cs ob vs H Q E
seal PE PT PW PA PS PSs PI PG Q2 PGs PO in
theorem Yga(Z:Zs mg)(T:Tx K mg CT cs ob)(Zna:Cal P w K mg base 4 "page_of" ["level","entries"] (Y8 K ob))(QN:MeV P w K mg base 3 (ob 3) "told_at" (Zj P w cs ob))(F:Fun K "page" "Pages.page" Y5 f fd):QF P w K mg base (CX1 P w) 5 f fd ["self","number"] (Q1 P w cs ob):=by
 refine F.ok1 Qga (fun vs H Q E h=>?_) (fun cdv A outer s H vs Q E hr h=>?_)
 ·walk_at "n"
 obtain⟨p,d1,d2,st,c,n,rfl,hS,q1,q2⟩:=h;refine⟨_,(@Qb _ _ _ _ _ (Ql (i:=2) Qga.nd rfl (Or.inl rfl) (PE1.pe (Q3 (k:=4) (pv 0) hr rfl (Qg (pv 1) Qd)) ZS))
  (Qf (Qp (QJ Zna (k:=4) hr (by decide) rfl (Qg (Q8 Zl (pv 2) Qc (fun _ _=>rfl)) (Qg (Q8 Zl (pv 2) Qc (fun _ _=>rfl)) Qd)))))),?_⟩
 refine Qm (σ:=[some (.ref p),some (.int n),none]) rfl ?_
 walk_at "rd";obtain⟨dx,ho⟩:=hS.obj;have cc:=T.ob_ 3 (by decide)
 refine Zg rfl ho rfl cc.cl (QN.mono (by decide)) ⟨p,d1,d2,st,c,n,rfl,hS,fun d t hm=>?_,fun hx d hd=>q2 hx d hd⟩
 obtain⟨l,k,r,es,ed,hk,le⟩:=hS.sh _ hm;have td:=hS.td _ hm;dsimp only at ed td;subst ed;obtain⟨_,x,z,e,ht,t1,t2⟩:=td.pair_of;cases e;obtain⟨_,rfl⟩:=t1.flat;obtain⟨m,e',xs,em,rfl,he,re⟩:=t2.tup;obtain rfl:m=6:=by omega
 refine⟨t,rfl,_,SqT.of ht,.int l,rfl,⟨t,rfl,_,SqT.of ht,.ref e',rfl,?_⟩⟩
 exact⟨l,e',true,xs,_,rfl,he,re,by have:=Paired.length re;simp at this;omega,fun a H' s ha pg=>q1 l _ t hm a H' s ha pg⟩
inductive Jb(P:Program)(w:World)(ob:Nat->Addr)(vs:List V)(H:Hp)(Q:VK)(E:XK):Prop
 | mk:∀ p d1 d2 st c a l es,vs=[.ref p,.ref a]->QK P w ob H p d1 d2 st c->PgD ob H a l es->Ycc (Zx l es)->st.length < 1000000->(∀ n t,(n,Zx l es,t)∈st->∀ H',Qk H H'->Q (.int n) H')->((∀ x∈st,x.2.1≠Zx l es)->∀ t H',QY [p,d1,d2] H H'->QK P w ob H' p d1 d2 (st++[(c,Zx l es,t)]) (c+1)->Q (.int c) H')->Jb P w ob vs H Q E
seal PE PT PW PA PS PSs PI PG Q2 PGs PO in
theorem Yha(Z:Zs mg)(T:Tx K mg CT cs ob)(J7:MeV P w K mg base 1 (ob 0) "told" (QM K ob))(ZM:MeV P w K mg base 1 (ob 1) "told" (QM K ob))(ZN:MeV P w K mg base 1 (ob 2) "told" (QM K ob))(F:Fun K "kept" "Pages.kept" Y2 f fd):QF P w K mg base (CX1 P w) 2 f fd ["self","page"] (Jb P w ob):=by
 refine F.ok1 Yj (fun vs H Q E h=>?_) (fun cdv A outer s H vs Q E hr h=>?_)
 ·walk_at "n"
 obtain⟨p,d1,d2,st,c,a,l,es,rfl,hS,hP,hsh,few,q1,q2⟩:=h;refine⟨_,(@Qb _ _ _ _ _ (Ql (i:=2) Yj.nd rfl (Or.inl rfl) (PE1.pe (YS (k:=1) (pv 1) hr rfl) ZS))
  (@Qb _ _ _ _ _ (Q4 (YWb (J6c hr.u9 (pv 2) (Zt (pv 0) rfl))) (Qf (Qp (Zsc hr.u9 (Zt (pv 0) rfl) (pv 2) (fun _ _=>rfl)))) QC)
  (@Qb _ _ _ _ _ (Ql (i:=3) Yj.nd rfl (Or.inl rfl) (Zt (pv 0) rfl))
  (@Qb _ _ _ _ _ (Xba hr.u1 (Zt (pv 0) rfl) (pv 3) (pv 2) rfl)
  (@Qb _ _ _ _ _ (Ztc hr.u9 (Zt (pv 0) rfl) (pv 2) (pv 3) rfl)
  (@Qb _ _ _ _ _ (Xr (pv 0) (Qj Zr (pv 3) Qc) rfl)
  (Qf (Qp (pv 3))))))))),?_⟩
 refine Qm (σ:=[some (.ref p),some (.ref a),none,none]) rfl ?_
 walk_at "rd";obtain⟨dx,ho⟩:=hS.obj;have cc:=T.ob_ 3 (by decide)
 obtain⟨tw,dxa,t0,etw,ha,ht⟩:=id hP;have Mt:MeV P w K mg base 1 (ob (if tw=true then 2 else 1)) "told" (QM K ob):=by cases tw with | true=>exact ZN | false=>exact ZM
 refine XY rfl ha (by cases tw <;> rfl) (T.ob_ _ Qsc).cl Mt ⟨a,l,es,rfl,hP,fun r H1 s1 hr1 t1=>?_⟩
 have hS1:=hS.same s1;have ho1:=s1 _ _ ho;refine ZF cc (by decide) rfl ho1 rfl ⟨d2,rfl,r,rfl,_,hS1.dn,Zx l es,t1.rep,t1.h,?_⟩
 by_cases hx:∃ x∈st,x.2.1=Zx l es
 ·obtain⟨⟨n,d,t⟩,hm,e⟩:=hx
  dsimp only at e;subst e;have g:=hS1.getN hm;dsimp only at g;rw[g,if_pos (show(some (V.int n)).isSome=true from rfl)]
  exact ZF cc (by decide) rfl ho1 rfl ⟨d2,rfl,r,rfl,_,hS1.dn,Zx l es,t1.rep,t1.h,_,g,q1 n t hm _ s1⟩
 ·have hx':∀ x∈st,x.2.1≠Zx l es:=fun x h e=>hx ⟨x,h,e⟩
  have hc:∀ x∈st,x.1≠c:=fun x h e=>by have:=hS.lt x h;omega
  rw[Quc hx',if_neg (by decide)]
  refine ZF cc (by decide) rfl ho1 rfl ?_
  refine ZF cc (by decide) rfl ho1 rfl ⟨d1,rfl,_,Zmb.k (k:=.inl c) hS1.num (by rw[Vr,sizeLine_eq];omega),?_⟩
  rw[Xjb _ (Jcc hc)];have sx2:QY [p,d1,d2] H1 (upd H1 d1 (.dK (st.map XM++[(.inl c,.ref r)]))):=(QY.refl _ _).upd (by simp)
  have st2:=Jg hS1 sx2;refine ZF cc (by decide) rfl (by rw[Qe hS.pd1];exact ho1) rfl ⟨d2,rfl,r,rfl,st.map Yx,⟨by rw[Qe (Ne.symm hS.d12)];exact hS1.tol,fun x hx=>?_⟩,Zx l es,(TD.sameT st2 8 t1).rep,t1.h,Quc hx',by rw[Vr,sizeLine_eq];omega,?_⟩
  ·obtain⟨y,hy,rfl⟩:=mem_map.mp hx
   exact⟨(TD.sameT st2 8 (hS1.td y hy)).rep,(hS1.td y hy).h⟩
  generalize e2:upd H1 d1 (.dK (st.map XM++[(.inl c,.ref r)]))=H2 at sx2 st2;have sx3:QY [p,d1,d2] H1 (upd H2 d2 (dN P w d2 (st.map Yx++[(Zx l es,r,.int c)]))):=sx2.upd (by simp)
  have p3:upd H2 d2 (dN P w d2 (st.map Yx++[(Zx l es,r,.int c)])) p=some (.ins (ob 3) dx (stF d1 d2 c)):=by rw[Qe hS.pd2,<- e2,Qe hS.pd1];exact ho1
  refine Xpa (fs:=stF d1 d2 c) cc (by decide) rfl (y:=.int (c+1)) (H1:=upd H2 d2 (dN P w d2 (st.map Yx++[(Zx l es,r,.int c)]))) (fun Q q=>by
   simp only[tOp,Q4b,Q5b,tC,rI0];exact⟨c,1,rfl,rfl,q⟩) p3 (show 3 < 1000 by decide) ?_
  have sx4:QY [p,d1,d2] H1 (upd (upd H2 d2 (dN P w d2 (st.map Yx++[(Zx l es,r,.int c)]))) p (.ins (ob 3) dx (stF d1 d2 (c+1)))):=sx3.upd (by simp)
  have st4:=Jg hS1 sx4;refine q2 hx' r _ ((s1.x _).trans sx4) ⟨⟨dx,Qa⟩,?_,?_,fun x hx=>?_,fun x hx=>?_,fun x hx=>?_,?_,?_,?_⟩
  ·rw[Qe (Ne.symm hS.pd1),Qe hS.d12,<- e2,Qa,map_append];rfl
  ·rw[Qe (Ne.symm hS.pd2),Qa,map_append];rfl
  ·rcases Vl.mp hx with h | h
   ·exact TD.sameT st4 8 (hS1.td x h)
   ·rw[mem_singleton.mp h];exact TD.sameT st4 8 t1
  ·rcases Vl.mp hx with h | h
   ·exact hS.sh x h
   ·rw[mem_singleton.mp h];exact hsh
  ·rcases Vl.mp hx with h | h
   ·have:=hS.lt x h;omega
   ·rw[mem_singleton.mp h];show c < c+1;omega
  ·rw[map_append,nodup_append]
   refine⟨hS.nn,by simp,fun a ha b hb e=>?_⟩
   obtain⟨y,hy,rfl⟩:=mem_map.mp ha;simp at hb;exact hc y hy (by rw[e,hb])
  ·rw[map_append,nodup_append]
   refine⟨hS.nd,by simp,fun a ha b hb e=>?_⟩
   obtain⟨y,hy,rfl⟩:=mem_map.mp ha;simp at hb;exact hx' y hy (by rw[e,hb])
  ·rw[Vs];show _+1<=1000000;omega
inductive Jc(P:Program)(w:World)(cs ob:Nat->Addr)(vs:List V)(H:Hp)(Q:VK)(E:XK):Prop
 | mk:∀ p d1 d2 st c n,vs=[.ref p,.int n]->QK P w ob H p d1 d2 st c->(∀ l k r es t,(n,Zx l (.t (.v k::r)::es),t)∈st->∀ a H',Qk H H'->H a=none->TD H' 1 (.t [.v (.int l),.v k]) (.ref a)->Q (.ref a) H')->((∀ x∈st,x.1≠n)->∀ d,H d=none->E (.ref (cs 0)) (some d) (upd H d (xD d [("number",.int n)])))->Jc P w cs ob vs H Q E
seal PE PT PW PA PS PSs PI PG Q2 PGs PO in
theorem Yia(Z:Zs mg)(T:Tx K mg CT cs ob)(QN:MeV P w K mg base 3 (ob 3) "told_at" (Zj P w cs ob))(F:Fun K "card" "Pages.card" Y3 f fd):QF P w K mg base (CX1 P w) 4 f fd ["self","number"] (Jc P w cs ob):=by
 refine F.ok1 Qea (fun vs H Q E h=>?_) (fun cdv A outer s H vs Q E hr h=>?_)
 ·walk_at "n"
 obtain⟨p,d1,d2,st,c,n,rfl,hS,q1,q2⟩:=h;refine⟨_,(@Qb _ _ _ _ _ (Ql (i:=2) Qea.nd rfl (Or.inl rfl) (PE1.pe (Q3 (k:=3) (pv 0) hr rfl (Qg (pv 1) Qd)) ZS))
  (Qf (Qp (Zu (Qg (Q8 Zl (pv 2) Qc (fun _ _=>rfl)) (Qg (Q8 Zl (Q8 Zl (Q8 Zl (pv 2) Qc (fun _ _=>rfl)) Qc (fun _ _=>rfl)) Qc (fun _ _=>rfl)) Qd)))))),?_⟩
 refine Qm (σ:=[some (.ref p),some (.int n),none]) rfl ?_
 walk_at "rd";obtain⟨dx,ho⟩:=hS.obj;have cc:=T.ob_ 3 (by decide)
 refine Zg rfl ho rfl cc.cl (QN.mono (by decide)) ⟨p,d1,d2,st,c,n,rfl,hS,fun d t hm=>?_,fun hx d hd=>q2 hx d hd⟩
 obtain⟨l,k,r,es,ed,hk,le⟩:=hS.sh _ hm;have td:=hS.td _ hm;dsimp only at ed td;subst ed;obtain⟨_,x,z,e,ht,t1,t2⟩:=td.pair_of;cases e;obtain⟨_,rfl⟩:=t1.flat;obtain⟨m,e',xs,em,rfl,he,re⟩:=t2.tup;cases re with
 | cons r1 _ =>
  obtain⟨_,b,ys,_,rfl,hb,rb⟩:=r1.tup;cases rb with
  | cons r2 _ =>
   obtain⟨_,rfl⟩:=r2.flat;exact⟨t,rfl,_,SqT.of ht,.int l,rfl,t,rfl,_,SqT.of ht,.ref e',rfl,e',rfl,_,SqT.of he,.ref b,ZDc rfl,b,rfl,_,SqT.of hb,_,ZDc rfl,Yd,fun a ha=>q1 l _ _ _ t hm a _ (Qh ha _) ha (TD.pair Qa (.ofV rfl) (.ofV hk))⟩
inductive Z5(P:Program)(w:World)(ob:Nat->Addr)(vs:List V)(H:Hp)(Q:VK)(E:XK):Prop
 | mk:∀ p d1 d2 st c,vs=[.ref p]->QK P w ob H p d1 d2 st c->st.length < 1000->(∀ (r:Addr) (H':Hp) (ms:List Int),Qk H H'->H r=none->H' r=some (.lst (ms.map V.int))->ms.Perm (st.map (·.1))->ms.Pairwise (·<=·)->Q (.ref r) H')->Z5 P w ob vs H Q E
seal PE PT PW PA PS PSs PI PG Q2 PGs PO in
theorem Zoa(Z:Zs mg)(T:Tx K mg CT cs ob)(F:Fun K "numbers" "Pages.numbers" Jj f fd):QF P w K mg base (CX1 P w) 1 f fd ["self"] (Z5 P w ob):=by
 refine F.ok1 Zga (fun vs H Q E h=>?_) (fun cdv A outer s H vs Q E hr h=>?_)
 ·walk_at "n"
 obtain⟨p,d1,d2,st,c,rfl,hS,few,q⟩:=h;refine⟨_,(Qf (Qp (Qt (Xra hr.hd) rfl (Z.sorted) XV (Qg (Zt (pv 0) rfl) Qd)))),?_⟩
 refine Qm (σ:=[some (.ref p)]) rfl ?_
 walk_at "rd";obtain⟨dx,ho⟩:=hS.obj;have cc:=T.ob_ 3 (by decide)
 have em:(st.map XM).map (fun p=>kV p.1)=(st.map (·.1)).map V.int:=by rw[map_map,map_map];rfl
 refine ZF cc (by decide) rfl ho rfl ⟨d1,_,ltP,rfl,hS.num,by rw[Vr];omega,by rw[em];exact Jla (fun v hv=>by obtain⟨n,_,e⟩:=mem_map.mp hv;exact⟨n,e.symm⟩),fun D H' ys s hD hy pm pw=>?_⟩
 rw[em]at pm;obtain⟨ms,rfl,pm',pw'⟩:=Zvc pm pw;exact q D H' ms s hD hy pm' pw'
inductive Yo(P:Program)(w:World)(cs ob:Nat->Addr)(vs:List V)(H:Hp)(Q:VK)(E:XK):Prop
 | mk:∀ p d1 d2 st c n,vs=[.ref p,.int n]->QK P w ob H p d1 d2 st c->((∃ x∈st,x.1=n)->∀ H',QY [p,d1,d2] H H'->QK P w ob H' p d1 d2 (st.filter fun x=>decide (x.1≠n)) c->Q .non H')->((∀ x∈st,x.1≠n)->∀ d,H d=none->E (.ref (cs 0)) (some d) (upd H d (xD d [("number",.int n)])))->Yo P w cs ob vs H Q E
seal PE PT PW PA PS PSs PI PG Q2 PGs PO in
theorem Yja(Z:Zs mg)(T:Tx K mg CT cs ob)(QN:MeV P w K mg base 3 (ob 3) "told_at" (Zj P w cs ob))(F:Fun K "drop" "Pages.drop" Y4 f fd):QF P w K mg base (CX1 P w) 4 f fd ["self","number"] (Yo P w cs ob):=by
 refine F.ok1 Qfa (fun vs H Q E h=>?_) (fun cdv A outer s H vs Q E hr h=>?_)
 ·walk_at "n"
 obtain⟨p,d1,d2,st,c,n,rfl,hS,q1,q2⟩:=h;refine⟨_,(@Qb _ _ _ _ _ (Ql (i:=2) Qfa.nd rfl (Or.inl rfl) (PE1.pe (Q3 (k:=3) (pv 0) hr rfl (Qg (pv 1) Qd)) ZS))
  (@Qb _ _ _ _ _ (Q7 (Xpb (Zt (pv 0) rfl) (pv 1) ⟨rfl,rfl,rfl,rfl⟩))
  (Qf (Q7 (Zuc hr.u9 (Zt (pv 0) rfl) (pv 2) ⟨rfl,rfl,rfl,rfl⟩))))),?_⟩
 refine Qm (σ:=[some (.ref p),some (.int n),none]) rfl ?_
 walk_at "rd";obtain⟨dx,ho⟩:=hS.obj;have cc:=T.ob_ 3 (by decide)
 refine Zg rfl ho rfl cc.cl (QN.mono (by decide)) ⟨p,d1,d2,st,c,n,rfl,hS,fun d t hm=>?_,fun hx d hd=>q2 hx d hd⟩
 obtain⟨l,k,r0,es0,ed,hk,le⟩:=hS.sh _ hm;have t2:=hS.td _ hm;dsimp only at ed t2;show Xab K (YE 0) (Str.ofString "told_by_number") _ _ _;refine ZF cc (by decide) rfl ho rfl ⟨d1,rfl,.inl ⟨_,.inl hS.num⟩,_,hS.num,.inl n,rfl,.ref t,hS.get hm,?_⟩
 have sx3:QY [p,d1,d2] H (upd H d1 (.dK (QDa (st.map XM) (.inl n)))):=(QY.refl _ _).upd (by simp)
 have st3:=Jg hS sx3;have dn3:Xw P w K (upd H d1 (.dK (QDa (st.map XM) (.inl n)))) d2 (st.map Yx):=⟨by rw[Qe (Ne.symm hS.d12)];exact hS.tol,fun x hx=>by
  obtain⟨y,hy,rfl⟩:=mem_map.mp hx;exact⟨(TD.sameT st3 8 (hS.td y hy)).rep,(hS.td y hy).h⟩⟩
 obtain⟨j,hj⟩:=mem_iff_getElem?.mp hm;refine ZF cc (by decide) rfl (by rw[Qe hS.pd1];exact ho) rfl ⟨d2,rfl,_,dn3,t,rfl,_,dn3,d,(TD.sameT st3 8 t2).rep,t2.h,j,t,.int n,by rw[getElem?_map,hj];rfl,?_⟩
 have sx4:=sx3.upd (a:=d2) (o:=dN P w d2 ((st.map Yx).eraseIdx j)) (by simp)
 have st4:=Jg hS sx4;have mf:∀ {x},x∈st.filter (fun x=>decide (x.1≠n))->x∈st:=fun h=>(mem_filter.mp h).1
 refine q1 ⟨_,hm,rfl⟩ _ sx4 ⟨⟨dx,by rw[Qe hS.pd2,Qe hS.pd1];exact ho⟩,?_,?_,fun x hx=>TD.sameT st4 8 (hS.td x (mf hx)),fun x hx=>hS.sh x (mf hx),fun x hx=>hS.lt x (mf hx),?_,?_,Vj (length_filter_le _ _) hS.few⟩
 ·rw[Qe hS.d12,Qa,ZCb]
  have:(fun y:Int×Dt×Addr=>decide ((XM y).1≠(Sum.inl n:Key)))=fun y=>decide (y.1≠n):=by
   funext y
   exact decide_eq_decide.mpr ⟨fun h e=>h (by show Sum.inl _=_;rw[e]),fun h e=>h (by injection e)⟩
  rw[this]
 ·rw[Qa,Zba,QMa (fun y:Int×Dt×Addr=>y.1) hS.nn hj]
 ·exact(filter_sublist.map _).nodup hS.nn
 ·exact(filter_sublist.map _).nodup hS.nd
inductive Qta(u0_:W.Frag)(vs:List V)(H:Hp)(Q:VK)(E:XK):Prop
 | mk:∀ v,vs=[v]->Z3 v->(∀ p,H p=none->Q (.ref p) (upd H p (.tup (rk v))))->Qta u0_ vs H Q E
seal PE PT PW PA PS PSs PI PG Q2 PGs PO in
theorem ZYb(Z:Zs mg)(T:Tx K mg CT cs ob)(F:Fun K "rank_of" "rank_of" Zha f fd):QF P w K mg base CX0 1 f fd ["value"] (Qta K):=by
 refine F.ok ZQb (fun vs H Q E h=>?_) (fun cdv A outer s H vs Q E hr h=>?_)
 ·walk_at "n"
 obtain⟨v,rfl,hv,q⟩:=h;refine⟨_,(@Qb _ _ _ _ _ (Q4 (Qz Y4a (pv 0) JH (Qy _)) (Qf (Qp (Zu (Qg Qc (Qg Qc Qd))))) QC)
  (@Qb _ _ _ _ _ (Q4 (ZO (Qt Zk rfl (Z.isinstance) Qu (Qg (pv 0) (Qg (JX rfl (Z.str) Z7a (v:=.ty "str") rfl) Qd))) (fun _=>rfl)) (Qf (Qp (Zu (Qg Qc (Qg (pv 0) Qd))))) QC)
  (Qf (Qp (Zu (Qg Qc (Qg (pv 0) Qd))))))),?_⟩
 refine Qm (σ:=[some v]) rfl ?_
 walk_at "rd";cases v with
 | non=>walk_at "rd";exact⟨by decide,q⟩
 | int n =>
  walk_at "rd";refine Z2 (.int n) J3 ⟨_,rfl,?_⟩
  walk_at "rd";exact⟨by show 2<=sizeLine;decide,q⟩
 | str z =>
  walk_at "rd";refine Z2 (.str z) J4 ⟨_,rfl,?_⟩
  walk_at "rd";exact⟨by show 2<=sizeLine;decide,q⟩
 | _=>exact hv.elim
inductive Zpa(u0_:W.Frag)(vs:List V)(H:Hp)(Q:VK)(E:XK):Prop
 | mk:∀ a b,vs=[a,b]->Z3 a->Z3 b->(∀ H',Qk H H'->Q (.bl (ltV a b)) H')->Zpa u0_ vs H Q E
seal PE PT PW PA PS PSs PI PG Q2 PGs PO in
theorem YMb(Z:Zs mg)(T:Tx K mg CT cs ob)(YVa:Cal P w K mg base 1 "rank_of" ["value"] (Qta K))(F:Fun K "before" "before" Jza f fd):QF P w K mg base CX0 2 f fd ["one","other"] (Zpa K):=by
 refine F.ok YLb (fun vs H Q E h=>?_) (fun cdv A outer s H vs Q E hr h=>?_)
 ·walk_at "n"
 obtain⟨a,b,rfl,ha,hb,q⟩:=h;refine⟨_,(Qf (Qp (Jr (JAc (hr.units0)) (QJ YVa (k:=1) hr (by decide) rfl (Qg (pv 0) Qd)) (QJ YVa (k:=1) hr (by decide) rfl (Qg (pv 1) Qd)) (Qy _)))),?_⟩
 refine Qm (σ:=[some a,some b]) rfl ?_
 walk_at "rd";refine⟨a,rfl,ha,fun p hp=>?_⟩
 walk_at "rd";refine⟨b,rfl,hb,fun p2 hp2=>?_⟩
 walk_at "rd";exact⟨rk a,SqT.of (by rw[Qe (Qo Qa hp2)];exact Qa),rk b,SqT.of Qa,ltV a b,JPc ha hb,q _ ((Qh hp _).trans (Qh hp2 _))⟩
def QOb(d:Dt):Prop:=∃ k r,d=.t (.v k::r)/\ZG k
theorem Qvc{k:V}(h:ZG k):hV k=true:=by
 cases k with
 | int n=>rfl
 | str z=>rfl
 | _=>exact h.elim
theorem XN{k:V}(h:ZG k):Pl.Z3 k:=by
 cases k with
 | int n=>exact h
 | str z=>exact h
 | _=>exact h.elim
theorem YWc(k:V):QB k<=6:=M11.Qqc 6 _
theorem X4{d:Addr}{o:HO}(s:Qk H H')(n:H d=none):Qk H (upd H' d o):=fun b u hb=>by
 rw[Qe (Qo hb n)];exact s b u hb
structure Jx(H:Hp)(p:Addr)(ps:List Addr)(parts:List (List V)):Prop where
 at_:H p=some (.lst (ps.map V.ref))
 len:ps.length=parts.length
 part:∀ (i:Nat) q l,ps[i]?=some q->parts[i]?=some l->H q=some (.lst l)
 nd:(p::ps).Nodup
section
variable{H:Hp}{p:Addr}{ps:List Addr}{parts:List (List V)}
theorem Jx.more{q:Addr}{l:List V}(pa:Jx H p ps parts)(hq:H q=none):Jx (upd (upd H q (.lst l)) p (.lst ((ps++[q]).map V.ref))) p (ps++[q]) (parts++[l]):=by
 have qp:q≠p:=fun z=>by rw[z,pa.at_]at hq;cases hq
 have nps:q∉ps:=fun z=>by
  obtain⟨i,hi,e⟩:=mem_iff_getElem.mp z;have:=pa.part i q (parts[i]'(by rw[<- pa.len];exact hi)) (by rw[Vb hi,e]) (Vb _)
  rw[hq]at this;cases this
 have npp:p∉ps:=(nodup_cons.mp pa.nd).1;refine⟨Qa,by simp[pa.len],fun i r m e1 e2=>?_,?_⟩
 ·have rp:r≠p:=fun z=>by
   have hm:=Vm e1;rw[z]at hm
   rcases Vl.mp hm with w | w
   ·exact npp w
   ·exact qp (by simpa using w:p=q).symm
  rw[Qe rp]
  by_cases hl:i < ps.length
  ·rw[getElem?_append_left hl]at e1
   rw[getElem?_append_left (by rw[<- pa.len];exact hl)]at e2
   have rq:r≠q:=fun z=>nps (by rw[<- z];exact Vm e1)
   rw[Qe rq];exact pa.part i r m e1 e2
  ·rw[getElem?_append_right (by omega)]at e1
   rw[getElem?_append_right (by rw[<- pa.len];omega),<- pa.len]at e2
   have h0:i - ps.length=0:=by
    cases w:i - ps.length with
    | zero=>rfl
    | succ m=>rw[w]at e1;simp at e1
   rw[h0]at e1 e2;simp at e1 e2;subst e1 e2;exact Qa
 ·have:=pa.nd
  simp only[nodup_cons,nodup_append,Vl,mem_singleton]at this ⊢;refine⟨fun z=>z.elim npp fun z=>qp z.symm,this.2,by simp,fun a ha b hb=>?_⟩
  intro z;subst hb;subst z;exact nps ha
theorem Jx.on{ini:List Addr}{q:Addr}{li:List (List V)}{last new:List V}(pa:Jx H p (ini++[q]) (li++[last])):Jx (upd H q (.lst new)) p (ini++[q]) (li++[new]):=by
 have nd:=pa.nd;have qp:p≠q:=fun z=>(nodup_cons.mp nd).1 (by rw[z];simp)
 have nq:q∉ini:=fun z=>by
  have:=(nodup_cons.mp nd).2;rw[nodup_append]at this;exact this.2.2 q z q (by simp) rfl
 have len:ini.length=li.length:=by have:=pa.len;simp at this;exact this
 refine⟨by rw[Qe qp];exact pa.at_,by simp[len],fun i r m e1 e2=>?_,nd⟩
 by_cases hl:i < ini.length
 ·rw[getElem?_append_left hl]at e1
  rw[getElem?_append_left (by omega)]at e2
  have rq:r≠q:=fun z=>nq (by rw[<- z];exact Vm e1)
  rw[Qe rq];exact pa.part i r m (by rw[getElem?_append_left hl];exact e1) (by rw[getElem?_append_left (by omega)];exact e2)
 ·rw[getElem?_append_right (by omega)]at e1
  rw[getElem?_append_right (by omega),<- len]at e2
  have h0:i - ini.length=0:=by
   cases w:i - ini.length with
   | zero=>rfl
   | succ m=>rw[w]at e1;simp at e1
  rw[h0]at e1 e2;simp at e1 e2;subst e1 e2;exact Qa
end
abbrev PP(H:Hp):List (List Dt)->List (List V)->Prop:=Paired fun ds vs=>Paired (fun d v=>TD H 6 d v) ds vs
theorem QVa{α β:Type}{F:α->β->Prop}:∀ {xs:List α} {us:List β} {u:β},Paired F xs (us++[u])->∃ ys y,xs=ys++[y]/\Paired F ys us/\F y u
 | [],us,u,h=>by have:=Paired.length h;simp at this
 | x::xs,[],u,h=>by
  cases h with
  | cons r t=>cases t;exact⟨[],x,rfl,.nil,r⟩
 | x::xs,v::us,u,h=>by
  cases h with
  | cons r t =>
   obtain⟨ys,y,rfl,t',f⟩:=QVa t;exact⟨x::ys,y,rfl,.cons r t',f⟩
structure Jh(H H':Hp)(l:Int)(es:List Dt)(i:Nat)(p:Addr)(ps:List Addr)(parts:List (List V)):Prop where
 same:Qk H H'
 fresh:∀ q∈p::ps,H q=none
 pa:Jx H' p ps parts
 pp:PP H (QW QB l (es.take i)) parts
 lp:parts.length<=i
 lq:∀ part∈parts,part.length<=i
section
variable{H H':Hp}{l:Int}{es rr:List Dt}{i:Nat}{p p1 q1 e:Addr}{ps ini:List Addr}{parts li:List (List V)}{last:List V}{k:V}
theorem Jh.start(hp:H p=none):Jh H (upd H p (.lst [])) l es 0 p [] [] where
 same:=Qh hp _
 fresh:=fun r hr=>by
  have:r=p:=by simpa using hr
  rw[this];exact hp
 pa:=⟨Qa,rfl,fun i r m e=>by simp at e,by simp⟩
 pp:=.nil
 lp:=Vk _
 lq:=fun x hx=>nomatch hx
theorem Qwc(hd:es[i]?=some (.t (.v k::rr))):QW QB l (es.take (i+1))=Tr.step QB l (QW QB l (es.take i)) (.t (.v k::rr)):=by rw[take_add_one,hd];exact JF _ _
theorem Jh.at1(c:Jh H H' l es i p ps parts)(hp1:H' p1=none):upd (upd H' p1 (.lst [])) p (.lst (ps.map V.ref++[V.ref p1])) p1=some (.lst []):=by
 have p1p:p1≠p:=fun z=>by rw[z,c.pa.at_]at hp1;cases hp1
 rw[Qe p1p];exact Qa
theorem Jh.atp(c:Jh H H' l es i p ps parts)(hp1:H' p1=none):upd H' p1 (.lst []) p=some (.lst (ps.map V.ref)):=by
 have p1p:p1≠p:=fun z=>by rw[z,c.pa.at_]at hp1;cases hp1
 rw[Qe (Ne.symm p1p)];exact c.pa.at_
theorem Jh.more(c:Jh H H' l es i p ps parts)(hd:es[i]?=some (.t (.v k::rr)))(tx:TD H 6 (.t (.v k::rr)) (.ref e))(hp1:H' p1=none)(hc:QW QB l (es.take i)=[]\/l < (QB k:Int)) :
 Jh H (upd (upd (upd H' p1 (.lst [])) p (.lst (ps.map V.ref++[V.ref p1]))) p1 (.lst ([]++[V.ref e]))) l es (i+1) p (ps++[p1]) (parts++[[.ref e]]):=by
 have np:=c.fresh p mem_cons_self;have np1:H p1=none:=by
  cases e:H p1 with
  | none=>rfl
  | some o=>rw[c.same _ _ e]at hp1;cases hp1
 have em:ps.map V.ref++[V.ref p1]=(ps++[p1]).map V.ref:=by simp
 refine⟨X4 (X4 (X4 c.same np1) np) np1,fun r hr=>?_,?_,?_,?_,?_⟩
 ·rcases mem_cons.mp hr with z | z
  ·rw[z];exact np
  ·rcases Vl.mp z with z | z
   ·exact c.fresh r (Vo _ z)
   ·have:r=p1:=by simpa using z
    rw[this];exact np1
 ·rw[em];exact(c.pa.more (l:=[]) hp1).on (new:=[]++[.ref e])
 ·rw[Qwc hd]
  unfold Tr.step;rw[if_pos (show _\/l < (QB (QR (Dt.t (Dt.v k::rr))):Int) from hc)]
  exact Paired.snoc c.pp (.cons tx .nil)
 ·have:=c.lp;simp;omega
 ·intro part hp
  rcases Vl.mp hp with z | z
  ·have:=c.lq part z;omega
  ·rw[mem_singleton.mp z];simp
theorem Jh.on(c:Jh H H' l es i p (ini++[q1]) (li++[last]))(hd:es[i]?=some (.t (.v k::rr)))(tx:TD H 6 (.t (.v k::rr)) (.ref e))(hc:¬ l < (QB k:Int)) :
 Jh H (upd H' q1 (.lst (last++[.ref e]))) l es (i+1) p (ini++[q1]) (li++[last++[.ref e]]):=by
 obtain⟨iniD,lastD,ec,co1,co2⟩:=QVa c.pp;refine⟨X4 c.same (c.fresh q1 (by simp)),c.fresh,c.pa.on,?_,?_,?_⟩
 ·rw[Qwc hd,ec]
  unfold Tr.step;rw[if_neg (fun z=>z.elim (fun z=>by simp at z) fun z=>hc z)]
  simp only[dropLast_concat,getLast?_append,getLast?_singleton,Option.some_or,Option.getD_some]
  exact Paired.snoc co1 (Paired.snoc co2 tx)
 ·have:=c.lp;simp at this ⊢;omega
 ·intro part hp
  rcases Vl.mp hp with z | z
  ·have:=c.lq part (mem_append_left _ z);omega
  ·rw[mem_singleton.mp z]
   have:=c.lq last (by simp)
   simp;omega
theorem Jh.end_(c:Jh H H' l es i p ps parts)(h:ps≠[]):∃ ini q1 li last,ps=ini++[q1]/\parts=li++[last]/\H' q1=some (.lst last)/\last.length<=i:=by
 obtain⟨ini,q1,rfl⟩:=YU h;obtain⟨li,last,rfl⟩:=YU (xs:=parts) (fun z=>by have:=c.pa.len;rw[z]at this;simp at this)
 have len:ini.length=li.length:=by have:=c.pa.len;simp at this;exact this
 exact⟨ini,q1,li,last,rfl,rfl,c.pa.part ini.length q1 last (by simp) (by rw[len];simp),c.lq last (by simp)⟩
theorem Jh.none_(c:Jh H H' l es i p ps parts)(h:ps=[]):QW QB l (es.take i)=[]:=eq_nil_of_length_eq_zero (by rw[Paired.length c.pp,<- c.pa.len,h];rfl)
end
inductive ZZb(K:W.Frag)(vs:List V)(H:Hp)(Q:VK)(E:XK):Prop
 | mk:∀ (a:Addr) (b:Bool) (l:Int) (xs:List V) (es:List Dt),vs=[.ref a,.int l]->SqE b K H a xs->xs.length<=900->Paired (fun d v=>TD H 6 d v) es xs->(∀ d∈es,QOb d)->(∀ p ps parts H',Qk H H'->(∀ q∈p::ps,H q=none)->Jx H' p ps parts->PP H (QW QB l es) parts->Q (.ref p) H')->ZZb K vs H Q E
seal PE PT PW PA PS PSs PI PG Q2 PGs PO in
theorem Ydc(Z:Zs mg)(T:Tx K mg CT cs ob)(Z0b:Cal P w K mg base 3 "level_of" ["key"] (XL K))(F:Fun K "cut" "cut" Qoc f fd):QF P w K mg base CX0 4 f fd ["entries","level"] (ZZb K):=by
 refine F.ok ZSb (fun vs H Q E h=>?_) (fun cdv A outer s H vs Q E hr h=>?_)
 ·walk_at "n"
 obtain⟨a,b,l,xs,es,rfl,hS,h900,re,hent,q⟩:=h;refine⟨_,(@Qb _ _ _ _ _ (Ql (i:=2) ZSb.nd rfl (Or.inl rfl) (Zv Qd))
  (@Qb _ _ _ _ _ (ZL PassesOwn.never rfl (JZc (pv 0)) (Ze (i:=3) ZSb.nd rfl (Or.inl rfl)) (@Qb _ _ _ _ _ (Q4 (PW.pt (Zxa (Yb (XXa (pv 2) (fun _=>rfl))) (QZa (Qz Jjb (QJ Z0b (k:=3) hr (by decide) rfl (Qg (Q8 Zl (pv 3) Qc (fun _ _=>rfl)) Qd)) (pv 1) (Qy _))))) (Qf (Q7 (ZAa PySem.F.plainAttrs_list PySem.F.slot_list_append PySem.F.type_list_append Z1 (pv 2) (Qg (Zv Qd) Qd)))) QC)
  (Qf (Q7 (ZAa PySem.F.plainAttrs_list PySem.F.slot_list_append PySem.F.type_list_append Z1 (Q8 Js (pv 2) (Ync Jsc Qc) (fun _ _=>rfl)) (Qg (pv 3) Qd))))))
  (Qf (Qp (pv 2))))),?_⟩
 refine Qm (σ:=[some (.ref a),some (.int l),none,none]) rfl ?_
 walk_at "rd";refine⟨by decide,fun p hp=>?_⟩
 refine⟨b,⟨_,hS.same (Qh hp _)⟩,?_⟩
 have le:=Paired.length re;refine Zpc xs (fun i σ' H'=>∃ (ps:List Addr) (parts:List (List V)) (x3:Option V),σ'=[some (.ref a),some (.int l),some (.ref p),x3]/\Jh H H' l es i p ps parts) ⟨[],[],_,rfl,.start hp⟩ ?_ ?_ ?_
 ·rintro i σ' H' _ ⟨_,_,_,_,c⟩
  exact hS.same c.same
 ·rintro i x σ' H' hx ⟨ps,parts,x3,rfl,c⟩
  have hi:=(Vc.mp hx).1
  have hd:es[i]?=some (es[i]'(by omega)):=Vb _
  have tx:=QP re hd hx;obtain⟨k,rr,ed,hk⟩:=hent _ (Vm hd);generalize es[i]'(by omega)=d at hd tx ed
  subst ed;obtain⟨m,e,ws,_,rfl,he,rw_⟩:=id tx.tup;have lp:=c.lp;walk_at "rd";refine⟨_,.inl ⟨_,SqL.of c.pa.at_,rfl⟩,YM (fun h=>?_) fun h=>?_⟩
  ·have hps:ps=[]:=by simpa using h
   refine⟨.inl ⟨rfl,_,SqL.of c.pa.at_⟩,by decide,fun p1 hp1=>?_⟩
   exact⟨_,c.atp hp1,Qv (by rw[Vr,c.pa.len];omega),_,SqL.of Qa,.ref p1,ZYa _ _,.inl ⟨rfl,_,SqL.of (c.at1 hp1)⟩,p1,rfl,[],c.at1 hp1,by decide,_,_,c.more hd tx hp1 (.inl (c.none_ hps))⟩
  ·have hne:ps≠[]:=fun z=>h (by rw[z];rfl)
   cases rw_ with
   | @cons _ k' _ ws' r1 rw' =>
   obtain⟨_,rfl⟩:=r1.flat;refine⟨_,SqT.of (c.same _ _ he),_,at0 _ _,_,rfl,hk,_,rfl,YM (fun h2=>?_) fun h2=>?_⟩
   ·refine⟨.inl ⟨rfl,_,SqL.of c.pa.at_⟩,by decide,fun p1 hp1=>?_⟩
    exact⟨_,c.atp hp1,Qv (by rw[Vr,c.pa.len];omega),_,SqL.of Qa,.ref p1,ZYa _ _,.inl ⟨rfl,_,SqL.of (c.at1 hp1)⟩,p1,rfl,[],c.at1 hp1,by decide,_,_,c.more hd tx hp1 (.inr h2)⟩
   ·obtain⟨ini,q1,li,last,rfl,rfl,hq1,ll⟩:=c.end_ hne
    exact⟨_,SqL.of c.pa.at_,.ref q1,by rw[map_append];exact ZYa _ _,.inl ⟨rfl,_,SqL.of hq1⟩,q1,rfl,last,hq1,Qv (by omega),_,_,c.on hd tx h2⟩
 ·rintro σ' H' ⟨ps,parts,x3,rfl,c⟩
  walk_at "rd";have co:=c.pp;rw[take_of_length_le (by omega)]at co
  exact q p ps parts H' c.same c.fresh c.pa co
def Qw(st:StL):List (Int×Dt):=st.map fun x=>(x.1,x.2.1)
theorem QK.fn{p d1 d2:Addr}(h:QK P w ob H p d1 d2 st c):Fn (Qw st) where
 num:=fun n d d' h1 h2=>by
  obtain⟨⟨a,b,t⟩,m1,e1⟩:=mem_map.mp h1;obtain⟨⟨a',b',t'⟩,m2,e2⟩:=mem_map.mp h2;injection e1 with x1 y1
  injection e2 with x2 y2
  dsimp only at x1 y1 x2 y2;subst x1 y1 x2 y2;exact(h.fun_ m1 m2).1
 dat:=fun n n' d h1 h2=>by
  obtain⟨⟨a,b,t⟩,m1,e1⟩:=mem_map.mp h1;obtain⟨⟨a',b',t'⟩,m2,e2⟩:=mem_map.mp h2;injection e1 with x1 y1
  injection e2 with x2 y2
  dsimp only at x1 y1 x2 y2;subst x1 y1 x2 y2;have q1:=h.getN m1;have q2:=h.getN m2;dsimp only at q1 q2;rw[q1]at q2;injection q2 with q2
  injection q2
def HdD(d:Dt):Prop:=∃ k n,d=JU k n/\ZG k
theorem HdD.ent(h:HdD d):QOb d:=by
 obtain⟨k,n,rfl,hk⟩:=h;exact⟨k,_,rfl,hk⟩
section
variable{P:Program}{w:World}{ob:Nat->Addr}{H H':Hp}{p d1 d2 a:Addr}{st:StL}{c l:Int}{es:List Dt}{Q:VK}{E:XK}
theorem ZEc(hS:QK P w ob H p d1 d2 st c)(hP:PgD ob H a l es)(hsh:Ycc (Zx l es))(few:st.length < 1000000)
 (q:∀ n H3 st3 c3,QY [p,d1,d2] H H3->QK P w ob H3 p d1 d2 st3 c3->(n,Zx l es)∈Qw st3->(∀ x∈Qw st,x∈Qw st3)->st3.length<=st.length+1->Q (.int n) H3):Jb P w ob [.ref p,.ref a] H Q E :=
 ⟨p,d1,d2,st,c,a,l,es,rfl,hS,hP,hsh,few,fun n t hm H' s=>q n H' st c (s.x _) (hS.same s) (mem_map.mpr ⟨_,hm,rfl⟩) (fun x h=>h) (by omega),
  fun _ t H' s hS'=>q c H' _ _ s hS' (mem_map.mpr ⟨_,Vp _ (mem_singleton.mpr rfl),rfl⟩) (fun x hx=>by
   obtain⟨y,hy,ey⟩:=mem_map.mp hx;exact mem_map.mpr ⟨y,mem_append_left _ hy,ey⟩) (by rw[Vs];exact Ve _)⟩
end
structure QPb(P:Program)(w:World)(ob:Nat->Addr)(H1 H':Hp)(p d1 d2 hh:Addr)(st:StL)(l:Int)(parts:List (List Dt))(i:Nat)(st':StL)(c':Int)(hs:List Dt)(ys:List V):Prop where
 sx:QY [p,d1,d2,hh] H1 H'
 tt:Zw H1 H'
 at_:H' hh=some (.lst ys)
 tys:Paired (fun d v=>TD H' 6 d v) hs ys
 ehs:∀ d∈hs,HdD d
 hds:QS (Qw st') l (parts.take i) hs
 stA:QK P w ob H' p d1 d2 st' c'
 sub:∀ x∈Qw st,x∈Qw st'
 len:st'.length<=st.length+i
section
variable{P:Program}{w:World}{ob:Nat->Addr}{H1 H' H2 H3:Hp}{p d1 d2 hh u:Addr}{st st' st3:StL}{l c' c3 n:Int}{parts:List (List Dt)}{i:Nat}{hs rr rest:List Dt}{ys:List V}{k:V}
theorem QPb.nhh(h:QPb P w ob H1 H' p d1 d2 hh st l parts i st' c' hs ys):hh∉[p,d1,d2]:=fun z=>by
 obtain⟨dx,ho⟩:=h.stA.obj;simp only[mem_cons,not_mem_nil,or_false]at z
 rcases z with z | z | z
 ·exact Jo h.at_ ho (by intro z;cases z) z
 ·exact Jo h.at_ h.stA.num (by intro z;cases z) z
 ·exact Jo h.at_ h.stA.tol (by intro z;cases z) z
theorem QPb.next(h:QPb P w ob H1 H' p d1 d2 hh st l parts i st' c' hs ys)(hpd:parts[i]?=some (.t (.v k::rr)::rest))(hk:ZG k)(s2:Qk H' H2)(s3:QY [p,d1,d2] H2 H3)(hS3:QK P w ob H3 p d1 d2 st3 c3)
 (hm:(n,Zx l (.t (.v k::rr)::rest))∈Qw st3) (sub3:∀ x∈Qw st',x∈Qw st3) (l3:st3.length<=st'.length+1) (hu:H3 u=none) :
 upd H3 u (.tup [k,.int n]) hh=some (.lst ys)/\QPb P w ob H1 (upd (upd H3 u (.tup [k,.int n])) hh (.lst (ys++[.ref u]))) p d1 d2 hh st l parts (i+1) st3 c3 (hs++[JU k n]) (ys++[.ref u]):=by
 have hS2:=h.stA.same s2;have hh3:=s3 _ _ h.nhh (s2 _ _ h.at_);have hh4:upd H3 u (.tup [k,.int n]) hh=some (.lst ys):=Qh hu _ _ _ hh3;have uh:u≠hh:=fun z=>by rw[z,hh3]at hu;cases hu
 have t35:Zw H3 (upd (upd H3 u (.tup [k,.int n])) hh (.lst (ys++[.ref u]))):=(Qh hu _).t.trans (Yt hh4);have t25:=(Jg hS2 s3).trans t35;have len:=h.len;refine⟨hh4,h.sx.trans ((s2.x _).trans ((s3.mono (by simp)).trans (((Qh hu _).x _).upd (by simp)))),h.tt.trans (s2.t.trans t25),Qa,Paired.snoc (TDs.sameT h.tys (s2.t.trans t25)) (TD.pair (by rw[Qe uh];exact Qa) (.ofV (Qvc hk)) (.ofV rfl)),fun d hd=>?_,?_,?_,fun x hx=>sub3 x (h.sub x hx),by omega⟩
 ·rcases Vl.mp hd with z | z
  ·exact h.ehs d z
  ·rw[mem_singleton.mp z];exact⟨k,_,rfl,hk⟩
 ·rw[take_add_one,hpd]
  exact(h.hds.mono sub3).snoc hm
 ·obtain⟨dx3,ho3⟩:=hS3.obj
  exact hS3.keep t35 (by rw[Qe (Jo ho3 hh3 (by intro z;cases z)),Qe (Qo ho3 hu)]) (by rw[Qe (Jo hS3.num hh3 (by intro z;cases z)),Qe (Qo hS3.num hu)]) (by rw[Qe (Jo hS3.tol hh3 (by intro z;cases z)),Qe (Qo hS3.tol hu)])
theorem QPb.few(h:QPb P w ob H1 H' p d1 d2 hh st l parts i st' c' hs ys):ys.length<=i:=by
 have h1:=Paired.length h.tys;have h2:=h.hds.length;rw[length_take]at h2
 omega
end
theorem Zqa{l:Int}:(QW lv l es).length<=es.length:=by
 have h1:∀ (ls:List (List Dt)),(∀ x∈ls,x≠[])->ls.length<=ls.flatten.length:=by
  intro ls
  induction ls with
  | nil=>intro _;exact Ve _
  | cons y ys ih =>
   intro h;have:=ih fun x hx=>h x (Vo _ hx)
   have:0 < y.length:=length_pos_iff.mpr (h y mem_cons_self);simp only[length_cons,flatten_cons,Vs];omega
 have c:=J1 (lv:=lv) l es;have:=h1 _ c.full;rw[c.flat]at this;exact this
theorem ZFc{ps:List Addr}{parts:List (List V)}{l:Int}{H0:Hp}(pa:Jx H1 a ps parts)(pp:PP H0 (QW QB l es) parts)(hent:∀ d∈es,QOb d){i:Nat}{qa:Addr}(hqa:ps[i]?=some qa) :
 ∃ k rr rest part,(QW QB l es)[i]?=some (.t (.v k::rr)::rest)/\ZG k/\H1 qa=some (.lst part)/\Paired (fun d v=>TD H0 6 d v) (.t (.v k::rr)::rest) part/\part.length<=es.length/\rest.length < es.length:=by
 have hi:=(Vc.mp hqa).1
 have li:i < parts.length:=by rw[<- pa.len];exact hi
 have lpp:=Paired.length pp;have cok:=J1 (lv:=QB) l es;have hpt:parts[i]?=some parts[i]:=Vb li
 have hpd:(QW QB l es)[i]?=some ((QW QB l es)[i]'(by omega)):=Vb _
 have tp:=QP pp hpd hpt;have full:=cok.full _ (Vm hpd);have mem:∀ d∈(QW QB l es)[i]'(by omega),d∈es:=fun d hd=>by rw[<- cok.flat];exact mem_flatten.mpr ⟨_,Vm hpd,hd⟩
 have h1:=(sublist_flatten_of_mem (Vm hpd)).length_le;rw[cok.flat]at h1;generalize (QW QB l es)[i]'(by omega)=partD at hpd tp full mem h1
 match partD,full,hpd,tp,mem,h1 with
 | d0::rest,_,hpd,tp,mem,h1 =>
  obtain⟨k,rr,ed,hk⟩:=hent d0 (mem d0 mem_cons_self);subst ed;have h2:=Paired.length tp;exact⟨k,rr,rest,_,hpd,hk,pa.part i qa _ hqa hpt,tp,by omega,by simp at h1;omega⟩
inductive J9(P:Program)(w:World)(ob:Nat->Addr)(vs:List V)(H:Hp)(Q:VK)(E:XK):Prop
 | mk:∀ p d1 d2 st c l e b xs es,vs=[.ref p,.int l,.ref e]->QK P w ob H p d1 d2 st c->HE b H e xs->Paired (fun d v=>TD H 6 d v) es xs->(∀ d∈es,QOb d)->xs.length<=900->st.length+xs.length<=1000000->(∀ r H' st' c' hs ys,QY [p,d1,d2] H H'->H r=none->H' r=some (.lst ys)->Paired (fun d v=>TD H' 6 d v) hs ys->(∀ d∈hs,HdD d)->QS (Qw st') l (QW QB l es) hs->QK P w ob H' p d1 d2 st' c'->(∀ x∈Qw st,x∈Qw st')->st'.length<=st.length+xs.length->Q (.ref r) H')->J9 P w ob vs H Q E
seal PE PT PW PA PS PSs PI PG Q2 PGs PO in
theorem QQb(Z:Zs mg)(T:Tx K mg CT cs ob)(YXc:Cal P w K mg base 4 "cut" ["entries","level"] (ZZb K))(Zna:Cal P w K mg base 4 "page_of" ["level","entries"] (Y8 K ob))(QWa:MeV P w K mg base 1 (ob 0) "first" (Zo K ob))(Y9:MeV P w K mg base 1 (ob 1) "first" (Zo K ob))(Xa:MeV P w K mg base 1 (ob 2) "first" (Zo K ob))(Xb:MeV P w K mg base 2 (ob 3) "kept" (Jb P w ob))(F:Fun K "heads_of" "heads_of" Qsa f fd):QF P w K mg base CX0 5 f fd ["pages","level","entries"] (J9 P w ob):=by
 refine F.ok J2 (fun vs H Q E h=>?_) (fun cdv A outer s H vs Q E hr h=>?_)
 ·walk_at "n"
 obtain⟨p,d1,d2,st,c,l,e,b,xs,es,rfl,hS,he,re,hent,lx,few,q⟩:=h;refine⟨_,(@Qb _ _ _ _ _ (Ql (i:=3) J2.nd rfl (Or.inl rfl) (Zv Qd))
  (@Qb _ _ _ _ _ (ZL PassesOwn.never rfl (Jq (QJ YXc (k:=4) hr (by decide) rfl (Qg (pv 2) (Qg (pv 1) Qd)))) (Ze (i:=4) J2.nd rfl (Or.inl rfl)) (@Qb _ _ _ _ _ (Ql (i:=5) J2.nd rfl (Or.inl rfl) (QJ Zna (k:=4) hr (by decide) rfl (Qg (pv 1) (Qg (pv 4) Qd))))
  (Qf (Q7 (ZAa PySem.F.plainAttrs_list PySem.F.slot_list_append PySem.F.type_list_append Z1 (pv 3) (Qg (Zu (Qg (PE1.pe (YS (k:=4) (pv 5) hr rfl) Za) (Qg (PE1.pe (Q3 (k:=4) (pv 0) hr rfl (Qg (pv 5) Qd)) Za) Qd))) Qd))))))
  (Qf (Qp (pv 3))))),?_⟩
 refine Qm (σ:=[some (.ref p),some (.int l),some (.ref e),none,none,none]) rfl ?_
 walk_at "rd";have cc:=T.ob_ 3 (by decide)
 have lre:=Paired.length re;refine⟨by decide,fun hh hhh=>?_⟩
 have s0:=Qh hhh (.lst []);have c_hh:upd H hh (.lst []) hh=some (.lst []):=Qa;generalize upd H hh (.lst [])=H0 at s0 c_hh ⊢;have hsq:SqE b K H0 e xs:=by
  have he0:=s0 _ _ he;cases b with
  | true=>exact SqT.of he0
  | false=>exact SqL.of he0
 refine⟨e,b,l,xs,es,rfl,hsq,lx,TDs.sameT re s0.t,hent,fun a ps parts H1 s1 fr pa pp=>⟨a,rfl,⟨_,SqL.of pa.at_⟩,?_⟩⟩
 have s01:=s0.trans s1;have hS1:=hS.same s01;obtain⟨dx1,ho1⟩:=hS1.obj;have hh1:=s1 _ _ c_hh;have nin:∀ q∈a::ps,∀ o,H1 q=some (.lst o)->q∉[p,d1,d2,hh]:=fun q hq o hqo z=>by
  simp only[mem_cons,not_mem_nil,or_false]at z
  rcases z with z | z | z | z
  ·exact Jo hqo ho1 (by intro z;cases z) z
  ·exact Jo hqo hS1.num (by intro z;cases z) z
  ·exact Jo hqo hS1.tol (by intro z;cases z) z
  ·exact Qo c_hh (fr q hq) z.symm
 have lpp:=Paired.length pp;have lpl:(QW QB l es).length<=es.length:=Zqa;refine JI (ps.map V.ref) (fun i σ' H'=>∃ st' c' hs ys x4 x5,σ'=[some (.ref p),some (.int l),some (.ref e),some (.ref hh),x4,x5]/\QPb P w ob H1 H' p d1 d2 hh st l (QW QB l es) i st' c' hs ys)
  ⟨st,c,[],[],_,_,rfl,QY.refl _ _,Zw.refl _,hh1,.nil,(fun d h=>nomatch h),.nil,hS1,(fun x h=>h),by omega⟩ (fun i σ' H' _ ⟨_,_,_,_,_,_,_,h⟩=>SqL.of (h.sx _ _ (nin a mem_cons_self _ pa.at_) pa.at_)) ?_ ?_
 ·rintro i x σ' H' hx ⟨st',c',hs,ys,x4,x5,rfl,hd⟩
  rw[getElem?_map]at hx
  obtain⟨qa,hqa,rfl⟩:=Option.map_eq_some_iff.mp hx;have hi:=(Vc.mp hqa).1
  have hlen:=hd.len;have hfew:=hd.few;have hpl:=pa.len;obtain⟨k,rr,rest,part,hpd,hk,hq1,tp,lpart,lrest⟩:=ZFc pa pp hent hqa;have hqA:=hd.sx _ _ (nin qa (Vo _ (Vm hqa)) _ hq1) hq1;walk_at "rd";refine⟨l,qa,false,part,_,rfl,hqA,TDs.sameT tp (s1.t.trans hd.tt),by omega,fun pg H2 s2 hpg pgd=>?_⟩
  have hS2:=hd.stA.same s2;obtain⟨dx2,ho2⟩:=hS2.obj;obtain⟨tw,dxa,t0,etw,hpa,ht⟩:=id pgd;have Mf:MeV P w K mg base 1 (ob (if tw=true then 2 else 1)) "first" (Zo K ob):=by cases tw with | true=>exact Xa | false=>exact Y9
  refine⟨.inl ⟨rfl,_,SqL.of (s2 _ _ hd.at_)⟩,?_⟩
  refine XY rfl hpa (by cases tw <;> rfl) (T.ob_ _ Qsc).cl (Mf.mono (by decide)) ⟨pg,l,k,rr,rest,rfl,pgd,?_⟩
  refine Zg rfl ho2 rfl cc.cl (Xb.mono (by decide)) ?_
  simp only[Jlb,Q4b,Q5b,XZa];refine ZEc hS2 pgd ⟨l,k,rr,rest,rfl,Qvc hk,by omega⟩ (by omega) fun n H3 st3 c3 s3 hS3 hm sub3 l3=>?_
  show _/\_;refine⟨Yd,fun u hu=>?_⟩
  obtain⟨hh4,hd'⟩:=hd.next hpd hk s2 s3 hS3 hm sub3 l3 hu;exact⟨ys,hh4,Qv (by omega),st3,c3,_,_,_,_,⟨rfl,rfl⟩,hd'⟩
 ·rintro σ' H' ⟨st',c',hs,ys,x4,x5,rfl,hd⟩
  walk_at "rd";have hds:=hd.hds;have l':=hd.len;rw[Vr,take_of_length_le (by rw[lpp,<- pa.len];exact Ve _)]at hds
  rw[Vr,pa.len]at l';exact q hh H' st' c' hs ys (fun b o nb hb=>hd.sx b o (fun z=>by
   simp only[mem_cons,not_mem_nil,or_false]at z nb
   rcases z with z | z | z | z
   ·exact nb (.inl z)
   ·exact nb (.inr (.inl z))
   ·exact nb (.inr (.inr z))
   ·rw[z,hhh]at hb;cases hb) (s01 _ _ hb)) hhh hd.at_ hd.tys hd.ehs hds hd.stA hd.sub (by omega)
inductive Ups(lv:V->Nat)(tbl:List (Int×Dt))(j0:Nat)(hs0:List Dt):Nat->List Dt->Prop
 | refl:Ups lv tbl j0 hs0 j0 hs0
 | snoc {j:Nat} {hs hs':List Dt} (u:Ups lv tbl j0 hs0 j hs) (h1:1 < hs.length) (h2:QS tbl ((j+1:Nat):Int) (QW lv ((j+1:Nat):Int) hs) hs'):Ups lv tbl j0 hs0 (j+1) hs'
theorem Ups.mono{tbl':List (Int×Dt)}{j0 j:Nat}{hs0 hs:List Dt}(u:Ups lv tbl j0 hs0 j hs)(s:∀ x∈tbl,x∈tbl'):Ups lv tbl' j0 hs0 j hs:=by
 induction u with
 | refl=>exact .refl
 | snoc _ h1 h2 ih=>exact .snoc ih h1 (h2.mono s)
theorem Ups.part{rows hs0:List Dt}(h0:QS tbl 0 (QW lv 0 rows) hs0){j:Nat}{hs:List Dt}(u:Ups lv tbl 0 hs0 j hs):∃ L,Zca lv tbl rows (j+1) L/\L (j+1)=hs:=by
 induction u with
 | refl=>exact⟨_,Zca.start h0,rfl⟩
 | @snoc j hs hs' u h1 h2 ih =>
  obtain⟨L,p,e⟩:=ih;subst e;exact⟨_,p.next (fun x h=>h) (by omega) h1 h2,by show(if j+1+1=j+1+1 then hs' else _)=hs';rw[if_pos rfl]⟩
inductive Qua(P:Program)(w:World)(ob:Nat->Addr)(vs:List V)(H:Hp)(Q:VK)(E:XK):Prop
 | mk:∀ p d1 d2 st c e hs ys,∀ j:Nat,vs=[.ref p,.int j,.ref e]->j<=6->QK P w ob H p d1 d2 st c->H e=some (.lst ys)->Paired (fun d v=>TD H 6 d v) hs ys->(∀ d∈hs,HdD d)->ys.length<=900->st.length+7 * ys.length<=1000000->(∀ H' st' c' m above v,QY [p,d1,d2] H H'->QK P w ob H' p d1 d2 st' c'->(∀ x∈Qw st,x∈Qw st')->st'.length<=st.length+7 * ys.length->Ups QB (Qw st') j hs m above->m<=7->((hs=[]/\v=.non)\/(hs≠[]/\∃ k n,above=[JU k n]/\v=.int n))->Q v H')->Qua P w ob vs H Q E
seal PE PT PW PA PS PSs PI PG Q2 PGs PO in
theorem Z1b(Z:Zs mg)(T:Tx K mg CT cs ob)(Qva:Cal P w K mg base 5 "heads_of" ["pages","level","entries"] (J9 P w ob))(F:Fun K "crowned" "crowned" Zka f fd):QF P w K mg base CX0 6 f fd ["pages","level","heads"] (Qua P w ob):=by
 refine F.ok JM (fun vs H Q E h=>?_) (fun cdv A outer s H vs Q E hr h=>?_)
 ·walk_at "n"
 obtain⟨p,d1,d2,st,c,e,hs,ys,j,rfl,hj,hS,he,re,hhd,ly,few,q⟩:=h;refine⟨_,(@Qb _ _ _ _ _ (Ql (i:=3) JM.nd rfl (Or.inl rfl) (pv 1))
  (@Qb _ _ _ _ _ (Ql (i:=4) JM.nd rfl (Or.inl rfl) (pv 2))
  (@Qb _ _ _ _ _ (XUa PassesOwn.never (Qz Jjb (Qt Q9 rfl (Z.len) YO (Qg (pv 4) Qd)) Qc (Qy _)) (@Qb _ _ _ _ _ (Ql (i:=3) JM.nd rfl (Or.inl rfl) (Qj Zr (pv 3) Qc))
  (Qf (Ql (i:=4) JM.nd rfl (Or.inl rfl) (QJ Qva (k:=5) hr (by decide) rfl (Qg (pv 0) (Qg (pv 3) (Qg (pv 4) Qd))))))))
  (Qf (Qp (YYb (XXa (pv 4) (fun _=>rfl)) (Q8 Zl (Q8 Js (pv 4) Qc (fun _ _=>rfl)) Qc (fun _ _=>rfl)) JH)))))),?_⟩
 refine Qm (σ:=[some (.ref p),some (.int j),some (.ref e),none,none]) rfl ?_
 walk_at "rd";refine⟨fun m σ' H'=>∃ (t:Nat) (st':StL) (c':Int) (b:Addr) (above:List Dt) (zs:List V),σ'=[some (.ref p),some (.int j),some (.ref e),some (.int t),some (.ref b)]/\m=7 - t/\t<=7/\(t=7->above.length<=1)/\j<=t/\QY [p,d1,d2] H H'/\H' b=some (.lst zs)/\Paired (fun d v=>TD H' 6 d v) above zs/\(∀ d∈above,HdD d)/\zs.length<=ys.length/\QK P w ob H' p d1 d2 st' c'/\(∀ x∈Qw st,x∈Qw st')/\st'.length<=st.length+(t - j) * ys.length/\Ups QB (Qw st') j hs t above/\(hs=[]↔above=[]),
  ⟨_,j,st,c,e,hs,ys,rfl,rfl,by omega,fun z=>by omega,Ve _,QY.refl _ _,he,re,hhd,Ve _,hS,fun x h=>h,by omega,.refl,Iff.rfl⟩,?_⟩
 rintro m σ' H' ⟨t,st',c',b,above,zs,rfl,rfl,ht,h7,hjt,sx,hb,tz,hd,lz,hS',sub,l',ups,emp⟩;have laz:=Paired.length tz;have e1:((t+1:Nat):Int)=(t:Int)+1:=by omega
 walk_at "rd";refine⟨zs,.inl (SqL.of hb),YM (fun h1=>?_) fun h1=>?_⟩
 ·have ht6:t<=6:=by
   rcases Nat.lt_or_ge t 7 with z | z
   ·omega
   ·have:=h7 (by omega);omega
  have hb1:(t - j) * ys.length<=6 * ys.length:=Nat.mul_le_mul_right _ (by omega)
  refine⟨fun σ2 H2=>∃ (t2:Nat) (st':StL) (c':Int) (b:Addr) (above:List Dt) (zs:List V),t2=t+1/\σ2=[some (.ref p),some (.int j),some (.ref e),some (.int t2),some (.ref b)]/\t2<=7/\(t2=7->above.length<=1)/\j<=t2/\QY [p,d1,d2] H H2/\H2 b=some (.lst zs)/\Paired (fun d v=>TD H2 6 d v) above zs/\(∀ d∈above,HdD d)/\zs.length<=ys.length/\QK P w ob H2 p d1 d2 st' c'/\(∀ x∈Qw st,x∈Qw st')/\st'.length<=st.length+(t2 - j) * ys.length/\Ups QB (Qw st') j hs t2 above/\(hs=[]↔above=[]),
   fun σ2 H2 hZ=>(by obtain⟨t2,a1,a2,a3,a4,a5,a6,a7,b1,b2,b3,b4,b5⟩:=hZ;exact⟨7 - t2,by omega,t2,a1,a2,a3,a7,rfl,b1,a4,b2,b3,b4,a5,b5⟩),?_⟩
  walk_at "rd";refine⟨p,d1,d2,st',c',(t:Int)+1,b,false,zs,above,rfl,hS',hb,tz,fun d h=>(hd d h).ent,by omega,by omega,fun r H2 st2 c2 hs2 ys2 sx2 hr hr2 tys2 hd2 heads2 hS2 sub2 l2=>?_⟩
  have ls2:=heads2.length;have lt2:=Paired.length tys2;have lc:=Zqa (lv:=QB) (l:=(t:Int)+1) (es:=above);have ane:above≠[]:=fun z=>by rw[z]at laz;simp at laz;omega
  refine⟨st2,c2,r,⟨by omega,rfl⟩,by omega,hs2,fun z=>?_,by omega,sx.trans sx2,ys2,hr2,tys2,hd2,by omega,hS2,fun x hx=>sub2 x (sub x hx),?_,.snoc (ups.mono sub2) (by omega) (by rw[e1];exact heads2),?_⟩
  ·obtain rfl:t=6:=by omega
   rw[ls2,Qyb ane (fun d _=>by have:=YWc (QR d);omega)]
   exact Ve _
  ·have:t+1 - j=(t - j)+1:=by omega
   rw[this,Nat.succ_mul]
   omega
  ·constructor
   ·intro z;exact absurd (emp.mp z) ane
   ·intro z
    rw[z]at ls2;exact absurd (length_eq_zero_iff.mp ls2.symm) (X3 ane)
 ·have hb1:(t - j) * ys.length<=7 * ys.length:=Nat.mul_le_mul_right _ (by omega)
  cases tz with
  | nil =>
   refine⟨false,.inl ⟨_,SqL.of hb,rfl⟩,?_⟩
   rw[if_neg (by decide)]
   exact q H' st' c' t [] .non sx hS' sub (by omega) ups ht (.inl ⟨emp.mpr rfl,rfl⟩)
  | @cons d z _ _ tz tz2 =>
   cases tz2 with
   | nil =>
    obtain⟨k,n,rfl,hk⟩:=hd d mem_cons_self;obtain⟨u,x1,x2,rfl,hu,u1,u2⟩:=TD.pair_of tz;obtain⟨_,rfl⟩:=u1.flat;obtain⟨_,rfl⟩:=u2.flat;refine⟨true,.inl ⟨_,SqL.of hb,rfl⟩,?_⟩
    rw[if_pos rfl];exact⟨_,SqL.of hb,.ref u,rfl,u,rfl,_,SqT.of hu,.int n,rfl,q H' st' c' t [JU x1 n] (.int n) sx hS' sub (by omega) ups ht (.inr ⟨(fun z=>by have:=emp.mp z;cases this),x1,n,rfl,rfl⟩)⟩
   | cons _ _=>simp at h1;omega
def ZRa(ks:List V)(i:Nat)(k:V):Prop:=ks[i+1]?=some k/\(∀ j,j < i->∀ a b,ks[j]?=some a->ks[j+1]?=some b->Pl.ltV a b=true)/\∀ a,ks[i]?=some a->Pl.ltV a k=false
theorem XFa{ks:List V}(up:ks.Pairwise fun a b=>Pl.ltV a b=true){i:Nat}{k:V}(h:ZRa ks i k):False:=by
 obtain⟨a1,b1⟩:=Vc.mp h.1
 have:=pairwise_iff_getElem.mp up i (i+1) (by omega) a1 (by omega)
 rw[b1,h.2.2 _ (Vb (show i < ks.length by omega))]at this
 cases this
inductive JIa(P:Program)(w:World)(cs ob:Nat->Addr)(vs:List V)(H:Hp)(Q:VK)(E:XK):Prop
 | mk:∀ p d1 d2 st c e xs es,vs=[.ref p,.ref e]->QK P w ob H p d1 d2 st c->H e=some (.lst xs)->Paired (fun d v=>TD H 6 d v) es xs->(∀ d∈es,QOb d)->xs.length<=900->st.length+8 * xs.length<=1000000->(((es.map QR).Pairwise (fun a b=>Pl.ltV a b=true)/\∀ H' st' c' v,QY [p,d1,d2] H H'->QK P w ob H' p d1 d2 st' c'->(∀ x∈Qw st,x∈Qw st')->st'.length<=st.length+8 * xs.length->((es=[]/\v=.non)\/(es≠[]/\∃ top L k n,top<=6/\Jsa QB (Qw st') es top L/\L (top+1)=[JU k n]/\v=.int n))->Q v H')\/∃ i k,ZRa (es.map QR) i k/\∀ H' d,Qk H H'->H' d=none->E (.ref (cs 1)) (some d) (upd H' d (xD d [("key",k)])))->JIa P w cs ob vs H Q E
seal PE PT PW PA PS PSs PI PG Q2 PGs PO in
theorem Qxc(Z:Zs mg)(T:Tx K mg CT cs ob)(YNb:Cal P w K mg base 6 "crowned" ["pages","level","heads"] (Qua P w ob))(Qva:Cal P w K mg base 5 "heads_of" ["pages","level","entries"] (J9 P w ob))(Qyc:Cal P w K mg base 2 "before" ["one","other"] (Zpa K))(XO:MkX P w K mg base 1 "NotRising" (cs 1) CT ["key"])(F:Fun K "built" "built" XAa f fd):QF P w K mg base (CX1 P w) 7 f fd ["pages","rows"] (JIa P w cs ob):=by
 refine F.ok1 QKb (fun vs H Q E h=>?_) (fun cdv A outer s H vs Q E hr h=>?_)
 ·walk_at "n"
 obtain⟨p,d1,d2,st,c,e,xs,es,rfl,hS,he,re,hent,lx,few,hq⟩:=h;refine⟨_,(@Qb _ _ _ _ _ (ZL JSc rfl (J4b rfl (Z.range) (Qg Qc (Qg (Qt Q9 rfl (Z.len) YO (Qg (pv 1) Qd)) Qd))) (Ze (i:=2) QKb.nd rfl (Or.inl rfl)) (Qf (Q4 (Yb (ZO (QJ Qyc (k:=6) hr (by decide) rfl (Qg (Q8 Zl (Q8 Js (pv 1) (Qj Yc (pv 2) Qc) (fun _ _=>rfl)) Qc (fun _ _=>rfl)) (Qg (Q8 Zl (Q8 Js (pv 1) (pv 2) (fun _ _=>rfl)) Qc (fun _ _=>rfl)) Qd))) (fun _=>rfl))) (Qf (YKa ZS rfl rfl rfl XO (k:=6) hr (by decide) (Qg (Q8 Zl (Q8 Js (pv 1) (pv 2) (fun _ _=>rfl)) Qc (fun _ _=>rfl)) Qd))) QC)))
  (Qf (Qp (QJ YNb (k:=6) hr (by decide) rfl (Qg (pv 0) (Qg Qc (Qg (QJ Qva (k:=6) hr (by decide) rfl (Qg (pv 0) (Qg Qc (Qg (pv 1) Qd)))) Qd))))))),?_⟩
 refine Qm (σ:=[some (.ref p),some (.ref e),none]) rfl ?_
 walk_at "rd";have le:=Paired.length re;refine⟨xs,.inl (SqL.of he),1,_,⟨rfl,rfl⟩,⟨by decide,by decide,by omega,by omega⟩,?_⟩
 refine JC (fun i σ' H'=>∃ x2,σ'=[some (.ref p),some (.ref e),x2]/\Qk H H'/\∀ i' k',ZRa (es.map QR) i' k'->i<=i') ⟨_,rfl,Qk.refl _,fun _ _ _=>Vk _⟩ ?_ ?_
 ·rintro i σ' H' hi ⟨x2,rfl,s1,nw⟩
  have hi':i+1 < xs.length:=by omega
  have row:∀ n,n < xs.length->∃ u k r,xs[n]?=some (.ref u)/\H' u=some (.tup (k::r))/\ZG k/\(es.map QR)[n]?=some k:=fun n hn=>by
   have hx:xs[n]?=some xs[n]:=Vb hn
   have hd:es[n]?=some (es[n]'(by omega)):=Vb _
   have tx:=QP re hd hx;obtain⟨k,rr,ed,hk⟩:=hent _ (Vm hd);rw[ed]at tx;obtain⟨m,u,ws,_,eu,hu,rw_⟩:=tx.tup;cases rw_ with
   | @cons _ k' _ ws' r1 rw' =>
   obtain⟨_,rfl⟩:=r1.flat;exact⟨u,_,ws',by rw[hx,eu],s1 _ _ hu,hk,by rw[getElem?_map,hd,ed];rfl⟩
  obtain⟨u0,k0,r0,g0,t0,hk0,m0⟩:=row i (by omega)
  obtain⟨u1,k1,r1,g1,t1,hk1,m1⟩:=row (i+1) hi';walk_at "rd";refine⟨_,SqL.of (s1 _ _ he),.ref u0,by rw[show(1:Int)+(i:Int) - 1=((i:Nat):Int) by omega];exact ZR g0,u0,rfl,_,SqT.of t0,k0,at0 _ _,_,SqL.of (s1 _ _ he),.ref u1,by rw[show(1:Int)+(i:Int)=((i+1:Nat):Int) by omega];exact ZR g1,u1,rfl,_,SqT.of t1,k1,at0 _ _,k0,k1,rfl,XN hk0,XN hk1,fun H2 s2=>⟨_,rfl,?_⟩⟩
  rcases hq with ⟨up,q⟩ | ⟨iw,kw,⟨w1,w2,w3⟩,qe⟩
  ·have lt:Pl.ltV k0 k1=true:=by
    obtain⟨a0,b0⟩:=Vc.mp m0
    obtain⟨a1,b1⟩:=Vc.mp m1
    have:=pairwise_iff_getElem.mp up i (i+1) a0 a1 (by omega)
    rw[b0,b1]at this;exact this
   rw[lt,if_neg (by decide)]
   exact⟨s1.trans s2,fun i' k' h=>(XFa up h).elim⟩
  ·have wk:i<=iw:=nw iw kw ⟨w1,w2,w3⟩
   have nxt:Pl.ltV k0 k1=true->∀ i' k',ZRa (es.map QR) i' k'->i+1<=i':=fun lt i' k' h=>by
    rcases Nat.lt_or_ge i i' with z | z
    ·omega
    ·have e:i'=i:=by have:=nw i' k' h;omega
     subst e;have h1:=h.1;rw[m1]at h1;cases h1;rw[h.2.2 _ m0]at lt;cases lt
   by_cases e:i=iw
   ·subst e
    rw[m1]at w1;cases w1;rw[w3 _ m0,if_pos rfl];exact⟨e,xs,_,.ref u1,rfl,rfl,SqL.of ((s1.trans s2) _ _ he),by rw[show(1:Int)+(i:Int)=((i+1:Nat):Int) by omega];exact ZR g1,u1,_,_,k1,rfl,rfl,SqT.of (s2 _ _ t1),at0 _ _,rfl,show 1<=1000 by decide,fun d hd=>qe _ d (s1.trans s2) hd⟩
   ·have lt:=w2 i (by omega) _ _ m0 m1
    rw[lt,if_neg (by decide)]
    exact⟨s1.trans s2,nxt lt⟩
 ·rintro σ' H' ⟨x2,rfl,s1,nw⟩
  rcases hq with ⟨up,q⟩ | ⟨iw,kw,hw,qe⟩
  case inr =>
   have h1:=nw iw kw hw;have h2:=(Vc.mp hw.1).1
   rw[Vr]at h2
   omega
  walk_at "rd";refine⟨p,d1,d2,st,c,0,e,false,xs,es,rfl,hS.same s1,s1 _ _ he,TDs.sameT re s1.t,hent,lx,by omega,fun r H2 st2 c2 hs ys sx hr hr2 tys hd heads hS2 sub l2=>?_⟩
  have lh:=heads.length;have lt:=Paired.length tys;have lc:=Zqa (lv:=QB) (l:=0) (es:=es);refine⟨p,d1,d2,st2,c2,r,hs,ys,0,rfl,by decide,hS2,hr2,tys,hd,by omega,by omega,fun H3 st3 c3 m above v sx3 hS3 sub3 l3 ups hm hv=>?_⟩
  refine q H3 st3 c3 v ((s1.x _).trans (sx.trans sx3)) hS3 (fun x hx=>sub3 x (sub x hx)) (by omega) ?_
  have emp:es=[]↔hs=[]:=by
   constructor
   ·intro z;exact length_eq_zero_iff.mp (by rw[lh,z];rfl)
   ·intro z
    rw[z]at lh;cases hes:es with
    | nil=>rfl
    | cons y ys'=>exact absurd (length_eq_zero_iff.mp lh.symm) (X3 (by rw[hes];simp))
  rcases hv with ⟨h1,h2⟩ | ⟨h1,k,n,ea,ev⟩
  ·exact .inl ⟨emp.mpr h1,h2⟩
  ·have hes:es≠[]:=fun z=>h1 (emp.mp z)
   obtain⟨L,pt,eL⟩:=ups.part (heads.mono sub3);have h1L:(L (m+1)).length=1:=by rw[eL,ea];rfl
   have m6:m<=6:=by
    rcases Nat.lt_or_ge m 7 with z | z
    ·omega
    ·have a:=pt.top YWc hes (by omega)
     have b:=pt.two 7 (by omega) (by omega)
     omega
   exact .inr ⟨hes,m,L,k,n,m6,pt.chain h1L,by rw[eL,ea],ev⟩
theorem Zra{K:W.Frag}{k:Nat}{fd:FuncData}{ps:List Str}:QF P w K mg base CX k f fd ps (fun _ _ _ _=>False) :=
 ⟨fun _ _ _ _ h=>h.elim,fun _ _ _ _ _ _ _ _ _ _ _ _ _ h=>h.elim⟩
inductive ZH(u0_:W.Frag)(ob:Nat->Addr)(vs:List V)(H:Hp)(Q:VK)(E:XK):Prop
 | mk:∀ a l es,vs=[.ref a]->PgD ob H a l es->l≠0->es.length<=900->(∀ d∈es,∃ k n,d=JU k n)->(∀ r H',Qk H H'->H r=none->H' r=some (.lst ((es.map ZHa).map V.int))->Q (.ref r) H')->ZH u0_ ob vs H Q E
seal PE PT PW PA PS PSs PI PG Q2 PGs PO in
theorem Yka(Z:Zs mg)(T:Tx K mg CT cs ob)(F:Fun K "under" "Twig.under" Jt f fd):QF P w K mg base (CX1 P w) 1 f fd ["self"] (ZH K ob):=by
 refine F.ok1 Yba (fun vs H Q E h=>?_) (fun cdv A outer s H vs Q E hr h=>?_)
 ·walk_at "n"
 obtain⟨a,l,es,rfl,hP,hl,lx,hh,q⟩:=h;refine⟨_,(Qf (Qp (Xt ["self"] rfl (YEa (N:=["self"]) (dsc:=Qi Jt) rfl rfl (by decide +kernel)) (Y2b (Zt (pv 0) rfl)) (fun _ _ _ _ _=>Xca) (fun _ _ _ _ _=>(Q8 (r:=Q7c K) Zl (pv 0) Qc (fun _ _=>rfl)))))),?_⟩
 refine Qm (σ:=[some (.ref a)]) rfl ?_
 walk_at "rd";obtain⟨tw,dx,t,etw,ha,ht⟩:=hP;obtain rfl:tw=true:=by rw[etw];exact decide_eq_true hl
 obtain⟨m,t',xs,em,e,ht',rt⟩:=ht.tup;cases e;have le:=Paired.length rt;have hx:∀ (i:Nat) x,xs[i]?=some x->∃ b k n,x=.ref b/\H b=some (.tup [k,.int n])/\(es.map ZHa)[i]?=some n:=fun i x hi=>by
  have h2:=(Vc.mp hi).1
  have hd:es[i]?=some (es[i]'(by omega)):=Vb _
  have tx:=QP rt hd hi;obtain⟨k,n,ed⟩:=hh _ (Vm hd);rw[ed]at tx;obtain rfl:m=6:=by omega
  obtain⟨b,x1,x2,eb,hb,w1,w2⟩:=TD.pair_of tx;obtain⟨_,rfl⟩:=w2.flat;exact⟨b,x1,n,eb,hb,by rw[getElem?_map,hd,ed];rfl⟩
 have hmap:xs.map (X5b H)=(es.map ZHa).map V.int:=by
  refine ext_getElem (by simp[le]) fun i g1 g2=>?_
  have b1:i < xs.length:=by simpa using g1
  obtain⟨b,k,n,ex,hb,hn⟩:=hx i _ (Vb b1)
  simp only[getElem_map];rw[ex,Qsb hb];obtain⟨_,e⟩:=Vc.mp hn
  simp only[getElem_map]at e;rw[e]
 refine ZF (T.ob_ 2 (by decide)) (by decide) rfl ha rfl ⟨t,rfl,⟨_,SqT.of ht'⟩,Zqc xs (fun _=>true) (X5b H) (SqT.of ht') (XJ (by omega)) (fun i x H2 R _ _ r=>r) (fun i x H2 R hi _ s r=>?_) fun D H2 hD s2 hd=>?_⟩
 ·obtain⟨b,k,n,rfl,hb,_⟩:=hx i x hi
  walk_at "rd";exact⟨_,SqT.of (s _ _ hb),_,rfl,by rw[Qsb hb]at r;exact r⟩
 ·exact q D H2 s2 hD (by rw[hd,filter_eq_self.mpr (fun _ _=>rfl),hmap])
inductive Zc(u0_:W.Frag)(ob:Nat->Addr)(vs:List V)(H:Hp)(Q:VK)(E:XK):Prop
 | mk:∀ a,vs=[.ref a]->(∀ r H',Qk H H'->H r=none->H' r=some (.lst [])->Q (.ref r) H')->Zc u0_ ob vs H Q E
seal PE PT PW PA PS PSs PI PG Q2 PGs PO in
theorem Qha(Z:Zs mg)(T:Tx K mg CT cs ob)(F:Fun K "under" "Page.under" YX f fd):QF P w K mg base (CX1 P w) 1 f fd ["self"] (Zc K ob):=by
 refine F.ok1 Yaa (fun vs H Q E h=>?_) (fun cdv A outer s H vs Q E hr h=>?_)
 ·walk_at "n"
 obtain⟨a,rfl,q⟩:=h;refine⟨_,(Qf (Qp (Zv Qd))),?_⟩
 refine Qm (σ:=[some (.ref a)]) rfl ?_
 walk_at "rd";exact⟨by decide,fun p hp=>q p _ (Qh hp _) hp Qa⟩
inductive Q5(u0_:Program)(u1_:World)(ob:Nat->Addr)(vs:List V)(H:Hp)(Q:VK)(E:XK):Prop
 | mk:∀ a o es,vs=[.ref a,o]->PgD ob H a 0 es->(∀ r H' xs,Qk H H'->H r=none->H' r=some (.lst xs)->Paired (fun d v=>TD H' 6 d v) es xs->Q (.ref r) H')->Q5 u0_ u1_ ob vs H Q E
seal PE PT PW PA PS PSs PI PG Q2 PGs PO in
theorem JJa(Z:Zs mg)(T:Tx K mg CT cs ob)(F:Fun K "spread" "Leaf.spread" Yh f fd):QF P w K mg base (CX1 P w) 1 f fd ["self","pages"] (Q5 P w ob):=by
 refine F.ok1 Jya (fun vs H Q E h=>?_) (fun cdv A outer s H vs Q E hr h=>?_)
 ·walk_at "n"
 obtain⟨a,o,es,rfl,hP,q⟩:=h;refine⟨_,(Qf (Qp (JB YK rfl (Z.list) XU (Qg (Zt (pv 0) rfl) Qd)))),?_⟩
 refine Qm (σ:=[some (.ref a),some o]) rfl ?_
 walk_at "rd";obtain⟨tw,dx,t,etw,ha,ht⟩:=hP;obtain rfl:tw=false:=by rw[etw];rfl
 obtain⟨m,t',xs,em,e,ht',rt⟩:=ht.tup;cases e;obtain rfl:m=6:=by omega
 exact ZF (T.ob_ 1 (by decide)) (by decide) rfl ha rfl ⟨t,rfl,xs,.inr (SqT.of ht'),fun p hp=>q p _ xs (Qh hp _) hp Qa (TDs.sameT rt (Qh hp _).t)⟩
theorem Qia{α β:Type}{F:α->β->Prop}:∀ {xs ys:List α} {us vs:List β},Paired F xs us->Paired F ys vs->Paired F (xs++ys) (us++vs)
 | _,_,_,_,.nil,h=>h
 | _,_,_,_,.cons r t,h=>.cons r (Qia t h)
def Z2b(st:StL)(es:List Dt)(v:V):Prop:=(es=[]/\v=.non)\/(es≠[]/\∃ top L k n,top<=6/\Jsa QB (Qw st) es top L/\L (top+1)=[JU k n]/\v=.int n)
section
variable{P:Program}{w:World}{K:W.Frag}{ob:Nat->Addr}{H H':Hp}{p d1 d2:Addr}{st:StL}{c:Int}
theorem QK.off(h:QK P w ob H p d1 d2 st c){b:Addr}{o:HO}(hb:H b=some o)(h1:∀ C dx fs,o≠.ins C dx fs)(h2:∀ kvs,o≠.dK kvs)(h3:∀ φ,o≠.ext φ):b∉[p,d1,d2]:=fun z=>by
 obtain⟨dx,eo⟩:=h.obj;simp only[mem_cons,not_mem_nil,or_false]at z
 rcases z with z | z | z
 ·rw[z,eo]at hb;injection hb with hb;exact h1 _ _ _ hb.symm
 ·rw[z,h.num]at hb;injection hb with hb;exact h2 _ hb.symm
 ·rw[z,h.tol]at hb;injection hb with hb;exact h3 _ hb.symm
theorem QK.lst(h:QK P w ob H p d1 d2 st c)(s:QY [p,d1,d2] H H'){b:Addr}{xs:List V}(hb:H b=some (.lst xs)):H' b=some (.lst xs):=s _ _ (h.off hb (by intros;intro z;cases z) (by intros;intro z;cases z) (by intros;intro z;cases z)) hb
theorem QK.seq(h:QK P w ob H p d1 d2 st c)(s:QY [p,d1,d2] H H'){b:Addr}{xs:List V}(hb:SqL K H b xs):SqL K H' b xs:=by
 rcases hb with hb | hb
 ·rcases hb with hb | ⟨o,hb⟩
  ·exact .inl (.inl (h.lst s hb))
  ·exact .inl (.inr ⟨o,s _ _ (h.off hb (by intros;intro z;cases z) (by intros;intro z;cases z) (by intros;intro z;cases z)) hb⟩)
 ·exact .inr hb
theorem QK.updL(h:QK P w ob H p d1 d2 st c){b:Addr}{xs ys:List V}(hb:H b=some (.lst xs)):QK P w ob (upd H b (.lst ys)) p d1 d2 st c:=by
 have n:=h.off hb (by intros;intro z;cases z) (by intros;intro z;cases z) (by intros;intro z;cases z)
 have go:∀ {a},a∈[p,d1,d2]->upd H b (.lst ys) a=H a:=fun {a} ha=>Qe (fun z=>n (by rw[<- z];exact ha))
 exact h.keep (Yt hb) (go (by simp)) (go (by simp)) (go (by simp))
end
theorem Yy{K:W.Frag}{b:Addr}(hb:H b=some (.lst xs))(re:Paired (fun d v=>TD H 6 d v) es xs):Rep K H 7 (.l es) (.ref b):=.l (SqL.of hb) (Paired.length re) fun i d x h1 h2=>(QP re h1 h2).rep
theorem Y8c(xs:List V)(k:Nat):Y7a xs (some (k:Int)) none=xs.drop k:=by
 have e1:=HT.Q4c xs.length 0 k;have e2:HT.sIx xs.length xs.length none=xs.length:=rfl;unfold Y7a;rw[e1,e2]
 rcases Nat.le_total k xs.length with h | h
 ·rw[Nat.min_eq_left h,take_of_length_le (by rw[length_drop];exact Ve _)]
 ·rw[Nat.min_eq_right h,drop_of_length_le (Ve _),drop_of_length_le h];simp
def ltK(a b:V):Prop:=ZG a/\ZG b/\Pl.ltV a b=true
theorem ltK.irr(a:V):¬ ltK a a:=fun h=>by
 have h2:=h.2.2;rw[Pl.irr (XN h.1)]at h2;exact Vf h2
theorem ltK.tr{a b c:V}(h:ltK a b)(h':ltK b c):ltK a c:=⟨h.1,h'.2.1,Pl.tr (XN h.1) (XN h.2.1) (XN h'.2.1) h.2.2 h'.2.2⟩
theorem ltK.tri{a b:V}(ha:ZG a)(hb:ZG b):ltK a b\/a=b\/ltK b a:=by
 cases h1:Pl.ltV a b with
 | true=>exact .inl ⟨ha,hb,h1⟩
 | false =>
  cases h2:Pl.ltV b a with
  | true=>exact .inr (.inr ⟨hb,ha,h2⟩)
  | false=>exact .inr (.inl (Pl.tri (XN ha) (XN hb) h1 h2))
theorem QOb.key(h:QOb d):ZG (QR d):=by
 obtain⟨k,r,rfl,hk⟩:=h;exact hk
def XGa(d:Dt):Prop:=∃ k c,d=.t [.v k,.t c]/\ZG k
theorem XGa.ent(h:XGa d):QOb d:=by obtain⟨k,c,rfl,hk⟩:=h;exact⟨k,_,rfl,hk⟩
structure Y9c(es:List Dt):Prop where
 row:∀ d∈es,XGa d
 up:UpR ltK es
 len:es.length<=900
theorem Yz{K:W.Frag}(h:H a=some (.tup xs))(f:∀ x∈xs,Zf x=true):Rep K H 1 (.t (xs.map Dt.v)) (.ref a):=.t (SqT.of h) (by simp) fun i d x h1 h2=>by
 rw[getElem?_map,h2]at h1
 cases h1;exact .v (f x (Vm h2))
inductive Jy(K:W.Frag)(vs:List V)(H:Hp)(Q:VK)(E:XK):Prop
 | mk:∀ (a:Addr) (ns:List Int) (k:Nat),vs=[.ref a,.int k]->SqL K H a (ns.map V.int)->ns.length<=63->(∀ c,Q (.int c) H)->Jy K vs H Q E
seal PE PT PW PA PS PSs PI PG Q2 PGs PO in
theorem XHa(Z:Zs mg)(T:Tx K mg CT cs ob)(F:Fun K "_law_cell" "_law_cell" XA f fd):QF P w K mg base CX0 1 f fd ["_law_script","_law_k"] (Jy K):=by
 refine F.ok Xwa (fun vs H Q E h=>?_) (fun cdv A outer s H vs Q E hr h=>?_)
 ·walk_at "n"
 obtain⟨a,ns,k,rfl,hS,hl,q⟩:=h;refine⟨_,(@Qb _ _ _ _ _ (Q4 (Qz ZPc (pv 1) (Qt Q9 rfl (Z.len) YO (Qg (pv 0) Qd)) (Qy _)) (Qf (Qp (Q8 Js (pv 0) (pv 1) (fun _ _=>rfl)))) QC)
  (Qf (Qp Qc))),?_⟩
 refine Qm (σ:=[some (.ref a),some (.int k)]) rfl ?_
 walk_at "rd";refine⟨_,.inl hS,YM (fun h=>?_) fun _=>?_⟩
 ·rw[Vr]at h
  have hk:k < ns.length:=by omega
  exact⟨_,hS,.int ns[k],ZR (j:=k) (by simp[hk]),q _⟩
 ·exact q 0
theorem YOb:(Str.ofString " !\"#$&'()*+,-./0123456789:;<=>?@ABCDEFGHIJKLMNOPQRSTUVWXYZ[\\]^_`"++Str.ofString "abcdefghijklmnopqrstuvwxyz{|}~").cps.toList.length=94:=by decide +kernel
inductive Xc(u0_:W.Frag)(vs:List V)(H:Hp)(Q:VK)(E:XK):Prop
 | mk:∀ c:Int,vs=[.int c]->(∀ z:Str,z.length<=40->Q (.str z) H)->Xc u0_ vs H Q E
seal PE PT PW PA PS PSs PI PG Q2 PGs PO in
theorem XIa(Z:Zs mg)(T:Tx K mg CT cs ob)(F:Fun K "_law_text" "_law_text" XB f fd):QF P w K mg base CX0 1 f fd ["_law_cell_here"] (Xc K):=by
 refine F.ok QG (fun vs H Q E h=>?_) (fun cdv A outer s H vs Q E hr h=>?_)
 ·walk_at "n"
 obtain⟨c,rfl,q⟩:=h;refine⟨_,(@Qb _ _ _ _ _ (Ql (i:=1) QG.nd rfl (Or.inl rfl) YF)
  (@Qb _ _ _ _ _ (Ql (i:=1) QG.nd rfl (Or.inl rfl) (Qj YI (pv 1) YF))
  (@Qb _ _ _ _ _ (Ql (i:=2) QG.nd rfl (Or.inl rfl) (Qj QI (Qj Zr (Qj ZA (Qj QI (pv 0) Qc) Qc) Qc) Qc))
  (@Qb _ _ _ _ _ (Ql (i:=3) QG.nd rfl (Or.inl rfl) (Qj Zr Qc (Qj QI (pv 2) Qc)))
  (@Qb _ _ _ _ _ (Q4 (Qz Xj (Qj QI (Qj QX (pv 2) Qc) Qc) Qc (Qy _)) (Qf (Ql (i:=3) QG.nd rfl (Or.inl rfl) (Qj Zr Qc (Qj QI (Qj QX (pv 2) Qc) Qc)))) QC)
  (@Qb _ _ _ _ _ (Ql (i:=4) QG.nd rfl (Or.inl rfl) (Qj QI (Qj QX (pv 2) Qc) (pv 3)))
  (@Qb _ _ _ _ _ (Ql (i:=5) QG.nd rfl (Or.inl rfl) (Jr Xj (Qj QI (Qj QX (pv 2) Qc) Qc) Qc (Qy _)))
  (@Qb _ _ _ _ _ (Ql (i:=6) QG.nd rfl (Or.inl rfl) YF)
  (@Qb _ _ _ _ _ (ZL PassesOwn.never rfl (XT rfl (Z.range) (Qg (pv 3) Qd)) (Ze (i:=7) QG.nd rfl (Or.inl rfl)) (@Qb _ _ _ _ _ (Ql (i:=2) QG.nd rfl (Or.inl rfl) (Qj QI (Qj Zr (Qj ZA (pv 2) Qc) Qc) Qc))
  (Qf (Q4 (PW.pt (YXb (ZO (pv 5) (fun _=>rfl)) (Jeb (Qz Y7b (pv 7) (pv 4) (Qy _))))) (Qf (Ql (i:=6) QG.nd rfl (Or.inl rfl) (Qj YI (pv 6) YF))) (Qf (Ql (i:=6) QG.nd rfl (Or.inl rfl) (Qj YI (pv 6) (Q8 Juc (pv 1) (Qj QI (pv 2) Qc) (fun _ _=>rfl)))))))))
  (Qf (Qp (pv 6)))))))))))),?_⟩
 refine Qm (σ:=[some (.int c),none,none,none,none,none,none,none]) rfl ?_
 walk_at "rd";refine⟨by decide,?_⟩
 walk_at "go";refine YM (fun _=>?_) fun _=>?_
 all_goals
  walk_at "go";refine JC (fun i σ' H'=>H'=H/\∃ (m:Int) (z:Str) (x:Option V) (many:Option V) (at':Int) (plain:Bool),σ'=[some (.int c),some (.str (Str.ofString " !\"#$&'()*+,-./0123456789:;<=>?@ABCDEFGHIJKLMNOPQRSTUVWXYZ[\\]^_`"++Str.ofString "abcdefghijklmnopqrstuvwxyz{|}~")),some (.int m),many,some (.int at'),some (.bl plain),some (.str z),x]/\0<=m/\m < 2147483629/\z.length=i/\i<=40) ⟨rfl,_,_,_,_,_,_,rfl,by omega,by omega,rfl,by decide⟩ ?_ ?_
  ·rintro i σ' H' hi ⟨rfl,m,z,x,many,at',plain,rfl,h1,h2,h3,h4⟩
   walk_at "rd";refine⟨by walk_at "side",?_⟩
   have hi40:i+1<=40:=by omega
   have sg:∃ x,atI (Str.ofString " !\"#$&'()*+,-./0123456789:;<=>?@ABCDEFGHIJKLMNOPQRSTUVWXYZ[\\]^_`"++Str.ofString "abcdefghijklmnopqrstuvwxyz{|}~").cps.toList ((m * 48271+12345) % 2147483629 % 94)=some x:=ZBc (by omega) (by rw[YOb];omega)
   have lz:∀ y:Str,y.length=1->z.length+y.length<=sizeLine/\(z++y).length=i+1:=fun y hy=>⟨by rw[hy];exact Vv (Qv (by omega)),by rw[strLen_append,hy,h3]⟩
   have one:∀ x:Nat,z.length+({ cps:=#[x] }:Str).length<=sizeLine/\(z++({ cps:=#[x] }:Str)).length=i+1:=fun x=>lz _ rfl
   obtain⟨x,hx⟩:=sg;refine YM (fun _=>YM (fun _=>?_) fun _=>?_) fun _=>?_
   ·exact⟨(lz _ rfl).1,_,_,_,_,_,_,⟨rfl,rfl,rfl,rfl,rfl,rfl⟩,by omega,by omega,(lz _ rfl).2,hi40⟩
   ·exact⟨by decide,x,hx,(one x).1,_,_,_,_,_,_,⟨rfl,rfl,rfl,rfl,rfl,rfl⟩,by omega,by omega,(one x).2,hi40⟩
   ·exact⟨by decide,x,hx,(one x).1,_,_,_,_,_,_,⟨rfl,rfl,rfl,rfl,rfl,rfl⟩,by omega,by omega,(one x).2,hi40⟩
  ·rintro σ' H' ⟨rfl,m,z,x,many,at',plain,rfl,h1,h2,h3,h4⟩
   exact q z (by omega)
inductive Xd(u0_:W.Frag)(vs:List V)(H:Hp)(Q:VK)(E:XK):Prop
 | mk:∀ c:Int,vs=[.int c]->(∀ i,0<=i->i < 2147483647->Q (.int i) H)->Xd u0_ vs H Q E
seal PE PT PW PA PS PSs PI PG Q2 PGs PO in
theorem XJa(Z:Zs mg)(T:Tx K mg CT cs ob)(F:Fun K "_law_tall" "_law_tall" XC f fd):QF P w K mg base CX0 1 f fd ["_law_cell_here"] (Xd K):=by
 refine F.ok YZ (fun vs H Q E h=>?_) (fun cdv A outer s H vs Q E hr h=>?_)
 ·walk_at "n"
 obtain⟨c,rfl,q⟩:=h;refine⟨_,(@Qb _ _ _ _ _ (Ql (i:=1) YZ.nd rfl (Or.inl rfl) (Qj Jrc (Qj QI (Qj QX (pv 0) Qc) Qc) (Qj ZA Qc (Qj QI (pv 0) Qc))))
  (@Qb _ _ _ _ _ (Ql (i:=2) YZ.nd rfl (Or.inl rfl) (Qj Zbb (pv 1) (Qj Zab (pv 1) Qc)))
  (Qf (Qp (Qj QI (Qj ZA (Qj Yc (pv 2) Qc) Qc) Qc))))),?_⟩
 refine Qm (σ:=[some (.int c),none,none]) rfl ?_
 walk_at "rd";walk_at "go";exact q _ (Int.emod_nonneg _ (by decide)) (Int.emod_lt_of_pos _ (by decide))
theorem ZGc{i a b:Int}(h0:0<=i)(h1:i < 2147483647)(ha:a=0\/a=1)(hb:0<=b/\b < 10 ^ 19):ZG (.int (i - a * 2147483647 * b)):=by
 show _/\_
 rcases ha with rfl | rfl <;> omega
inductive XQ(u0_:W.Frag)(vs:List V)(H:Hp)(Q:VK)(E:XK):Prop
 | mk:∀ c:Int,vs=[.int c]->(∀ v,ZG v->Q v H)->XQ u0_ vs H Q E
seal PE PT PW PA PS PSs PI PG Q2 PGs PO in
theorem QRb(Z:Zs mg)(T:Tx K mg CT cs ob)(QSb:Cal P w K mg base 1 "_law_text" ["_law_cell_here"] (Xc K))(QTb:Cal P w K mg base 1 "_law_tall" ["_law_cell_here"] (Xd K))(F:Fun K "_law_key" "_law_key" Qqa f fd):QF P w K mg base CX0 2 f fd ["_law_cell_here"] (XQ K):=by
 refine F.ok ZCa (fun vs H Q E h=>?_) (fun cdv A outer s H vs Q E hr h=>?_)
 ·walk_at "n"
 obtain⟨c,rfl,q⟩:=h;refine⟨_,(@Qb _ _ _ _ _ (Ql (i:=1) ZCa.nd rfl (Or.inl rfl) (Qj QI (pv 0) Qc))
  (@Qb _ _ _ _ _ (Q4 (Qz Xj (pv 1) Qc (Qy _)) (Qf (Qp (Qj Yc (Qj QI (Qj QX (pv 0) Qc) (Qj Yc (Qj ZA Qc (Qj ZWa Qc Qc)) Qc)) (Qj Yc (Qj ZWa Qc Qc) Qc)))) QC)
  (@Qb _ _ _ _ _ (Q4 (Qz Xj (pv 1) Qc (Qy _)) (Qf (Qp (Qj Yc (Qj QI (Qj QX (pv 0) Qc) Qc) Qc))) QC)
  (@Qb _ _ _ _ _ (Q4 (Qz Xj (pv 1) Qc (Qy _)) (Qf (Qp (QJ QSb (k:=1) hr (by decide) rfl (Qg (Qj QX (pv 0) Qc) Qd)))) QC)
  (Qf (Qp (Qj Yc (QJ QTb (k:=1) hr (by decide) rfl (Qg (Qj QX (pv 0) Qc) Qd)) (Qj ZA (Qj ZA (Qj Yc (pv 1) Qc) Qc) (Qj QI (Qj QX (pv 0) Qc) (Qj ZWa Qc Qc)))))))))),?_⟩
 refine Qm (σ:=[some (.int c),none]) rfl ?_
 walk_at "rd";walk_at "go";refine YM (fun _=>?_) fun _=>YM (fun _=>?_) fun _=>YM (fun _=>?_) fun _=>?_
 ·walk_at "go"
  exact q _ (show _/\_ by omega)
 ·walk_at "go"
  exact q _ (show _/\_ by omega)
 ·walk_at "go"
  exact⟨_,rfl,fun z hz=>q _ (show _<=_ by omega)⟩
 ·walk_at "go"
  refine⟨_,rfl,fun i h0 h1=>?_⟩
  walk_at "rd";walk_at "go";exact q _ (ZGc h0 h1 (by omega) (by omega))
inductive Yp(u0_:W.Frag)(vs:List V)(H:Hp)(Q:VK)(E:XK):Prop
 | mk:∀ v,vs=[v]->ZG v->Q (.int (QB v)) H->Yp u0_ vs H Q E
seal PE PT PW PA PS PSs PI PG Q2 PGs PO in
theorem Yla(Z:Zs mg)(T:Tx K mg CT cs ob)(F:Fun K "_law_level" "_law_level" Y0 f fd):QF P w K mg base CX0 1 f fd ["_law_key_here"] (Yp K):=by
 refine F.ok QU (fun vs H Q E h=>?_) (fun cdv A outer s H vs Q E hr h=>?_)
 ·walk_at "n"
 obtain⟨v,rfl,hv,q⟩:=h;refine⟨_,(@Qb _ _ _ _ _ (Ql (i:=1) QU.nd rfl (Or.inl rfl) Qc)
  (@Qb _ _ _ _ _ (Q4 (ZO (Qt Zk rfl (Z.isinstance) Qu (Qg (pv 0) (Qg (JX rfl (Z.str) Z7a (v:=.ty "str") rfl) Qd))) (fun _=>rfl)) (Qf (ZL PassesOwn.never rfl (Xtb (pv 0)) (Ze (i:=2) QU.nd rfl (Or.inl rfl)) (Qf (Ql (i:=1) QU.nd rfl (Or.inl rfl) (Qj Zr (Qj ZA (pv 1) Qc) (Qt XYa rfl (Z.ord) Xwb (Qg (pv 2) Qd))))))) (Qf (Ql (i:=1) QU.nd rfl (Or.inl rfl) (Qj Zr (Qj ZA (pv 0) Qc) Qc))))
  (@Qb _ _ _ _ _ (Ql (i:=1) QU.nd rfl (Or.inl rfl) (Qj QI (pv 1) Qc))
  (@Qb _ _ _ _ _ (Ql (i:=1) QU.nd rfl (Or.inl rfl) (Qj Zbb (pv 1) (Qj QX (pv 1) Qc)))
  (@Qb _ _ _ _ _ (ZL PassesOwn.never rfl (XT rfl (Z.range) (Qg Qc Qd)) (Ze (i:=3) QU.nd rfl (Or.inl rfl)) (@Qb _ _ _ _ _ (Q4 (Qz Y7b (Qj QI (pv 1) Qc) Qc (Qy _)) (Qf (Qp (pv 3))) QC)
  (Qf (Ql (i:=1) QU.nd rfl (Or.inl rfl) (Qj QX (pv 1) Qc)))))
  (Qf (Qp Qc))))))),?_⟩
 refine Qm (σ:=[some v,none,none,none]) rfl ?_
 walk_at "rd";cases v with
 | int n =>
  refine Z2 (.int n) J3 ⟨_,rfl,?_⟩
  walk_at "rd";refine⟨by walk_at "side",by walk_at "side",by decide,by decide,?_⟩
  refine JC (fun i σ' H'=>H'=H/\∃ (r:Int) (x3:Option V),σ'=[some (V.int n),some (.int r),none,x3]/\i+M11.lev (6 - i) r=QB (V.int n)) ⟨rfl,_,_,rfl,by show 0+M11.lev 6 _=QB (V.int n);rw[Nat.zero_add];rfl⟩ ?_ ?_
  ·rintro i σ' H' hi ⟨rfl,r,x3,rfl,e⟩
   walk_at "rd";walk_at "go";refine YM (fun h2=>?_) fun h2=>?_
   ·have:=M11.ZQa e (fun z=>h2 z.2) (by omega)
    rw[Int.zero_add,this];exact q
   ·have h2:r % 4=0:=by omega
    exact⟨by walk_at "side",_,_,⟨rfl,rfl⟩,M11.JDa e hi h2⟩
  ·rintro σ' H' ⟨rfl,r,x3,rfl,e⟩
   walk_at "rd";have e:6+0=QB (V.int n):=e;rw[Nat.add_zero]at e;rw[<- e]at q;exact q
 | str z =>
  refine Z2 (.str z) J4 ⟨_,rfl,?_⟩
  walk_at "rd";refine Jxb (z:=z) (fun i σ' H'=>H'=H/\∃ x,σ'=[some (.str z),some (.int (((Ym z).take i).foldl (fun m c=>m * 131+c) 7)),x,none]) ⟨rfl,_,rfl⟩ ?_ ?_
  ·rintro i c σ' H' hc ⟨rfl,x,rfl⟩
   walk_at "rd";refine⟨by refine Y3a.ok ?_;unfold Y3a;omega,rfl,?_,_,rfl⟩
   rw[YTa (JWb hc)]
   rfl
  ·rintro σ' H1 ⟨eH,x,rfl⟩
   rw[eH];walk_at "rd";walk_at "go";rw[take_of_length_le (by rw[QMb];exact Ve _)]
   have e:(Ym z).foldl (fun m c=>m * 131+c) 7 % 2147483647=Yda (.str z):=by
    rw[<- M11.Qpc (Ym z) 7 7 rfl];have hr:=ZUb (.str z);show Yda (.str z) % 2147483647=Yda (.str z)
    omega
   rw[e];refine JC (fun i σ' H'=>H'=H/\∃ (r:Int) (x3:Option V),σ'=[some (V.str z),some (.int r),x,x3]/\i+M11.lev (6 - i) r=QB (V.str z)) ⟨rfl,_,_,rfl,by show 0+M11.lev 6 _=QB (V.str z);rw[Nat.zero_add];rfl⟩ ?_ ?_
   ·rintro i σ' H' hi ⟨rfl,r,x3,rfl,e⟩
    walk_at "rd";walk_at "go";refine YM (fun h2=>?_) fun h2=>?_
    ·have:=M11.ZQa e (fun z=>h2 z.2) (by omega)
     rw[Int.zero_add,this];exact q
    ·have h2:r % 4=0:=by omega
     exact⟨by walk_at "side",_,_,⟨rfl,rfl⟩,M11.JDa e hi h2⟩
   ·rintro σ' H' ⟨rfl,r,x3,rfl,e⟩
    walk_at "rd";have e:6+0=QB (V.str z):=e;rw[Nat.add_zero]at e;rw[<- e]at q;exact q
 | _=>exact hv.elim
theorem Z3b:∀ n:Fin 1000,(Str.ofString (toString ((n.val:Nat):Int))).length<=10:=by decide +kernel
theorem YPb(h:0<=c/\c < 1000):(Str.ofString "x ").length+(Str.ofString (toString c)).length<=sizeLine:=by
 obtain⟨n,rfl⟩:=Int.eq_ofNat_of_zero_le h.1;have:=Z3b ⟨n,by omega⟩
 have e:(Str.ofString "x ").length=2:=by decide
 rw[e];exact Vv (Qv (by simp only at this;omega))
inductive Yq(K:W.Frag)(vs:List V)(H:Hp)(Q:VK)(E:XK):Prop
 | mk:∀ (c:Int),vs=[.int c]->(∀ r H',Qk H H'->FzH H' 4 (.ref r)->Q (.ref r) H')->Yq K vs H Q E
seal PE PT PW PA PS PSs PI PG Q2 PGs PO in
theorem Yma(Z:Zs mg)(T:Tx K mg CT cs ob)(F:Fun K "_law_cells" "_law_cells" Y1 f fd):QF P w K mg base CX0 1 f fd ["_law_cell_here"] (Yq K):=by
 refine F.ok Qda (fun vs H Q E h=>?_) (fun cdv A outer s H vs Q E hr h=>?_)
 ·walk_at "n"
 obtain⟨c,rfl,q⟩:=h;refine⟨_,(@Qb _ _ _ _ _ (Ql (i:=1) Qda.nd rfl (Or.inl rfl) (Zv Qd))
  (@Qb _ _ _ _ _ (Q4 (Qz Xj (Qj QI (pv 0) Qc) Qc (Qy _)) (Qf (Q7 (ZAa PySem.F.plainAttrs_list PySem.F.slot_list_append PySem.F.type_list_append Z1 (pv 1) (Qg (Zu (Qg YF (Qg (Qj Yc (Qj QI (Qj QX (pv 0) Qc) Qc) Qc) Qd))) Qd)))) QC)
  (@Qb _ _ _ _ _ (Q4 (Qz Xj (Qj QI (Qj QX (pv 0) Qc) Qc) Qc (Qy _)) (Qf (Q7 (ZAa PySem.F.plainAttrs_list PySem.F.slot_list_append PySem.F.type_list_append Z1 (pv 1) (Qg (Zu (Qg YF (Qg (Qj YI YF (JB Y5a rfl (Z.str) Z7a (Qg (Qj QI (Qj QX (pv 0) Qc) Qc) Qd))) Qd))) Qd)))) QC)
  (@Qb _ _ _ _ _ (Q4 (Qz Xj (Qj QI (Qj QX (pv 0) Qc) Qc) Qc (Qy _)) (Qf (Q7 (ZAa PySem.F.plainAttrs_list PySem.F.slot_list_append PySem.F.type_list_append Z1 (pv 1) (Qg (Zu (Qg YF (Qg (Zu (Qg JH (Qg (Zu (Qg (Qj QI (Qj QX (pv 0) Qc) Qc) (Qg YF Qd))) Qd))) Qd))) Qd)))) QC)
  (Qf (Qp (JB X8 rfl (Z.tuple) Qeb (Qg (pv 1) Qd)))))))),?_⟩
 refine Qm (σ:=[some (.int c),none]) rfl ?_
 refine Zwc fun R hR=>?_
 have f1:∀ p H1 xs,ZZ H 3 p H1 xs->xs.length<=1->R [some (.int c),some (.ref p)] H1:=by
  intro p H1 xs c1 l1;refine hR _ _ (YV fun R2 hR2=>?_)
  have f2:∀ H1 xs,ZZ H 3 p H1 xs->xs.length<=2->R2 [some (.int c),some (.ref p)] H1:=by
   intro H1 xs c2 l2;refine hR2 _ _ (YV fun R3 hR3=>?_)
   have f3:∀ H1 xs,ZZ H 3 p H1 xs->R3 [some (.int c),some (.ref p)] H1:=by
    intro H1 xs c3;refine hR3 _ _ ?_
    walk_at "rd";exact⟨_,.inl ⟨SqL.of c3.at_,fun r hr=>q r _ ((c3.same).trans (Qh hr _)) (.t Qa fun x hx=>(c3.fz x hx).same (Qh hr _))⟩⟩
   clear hR3 hR2;walk_at "rd";refine⟨by walk_at "side",YM (fun _=>?_) fun _=>?_⟩
   ·refine⟨.inl ⟨rfl,_,SqL.of c2.at_⟩,by walk_at "side",Yd,fun pa ha=>⟨Yd,fun pb hb=>⟨Yd,fun pc hc=>⟨_,Qh hc _ _ _ (Qh hb _ _ _ (Qh ha _ _ _ c2.at_)),Qv (by omega),?_⟩⟩⟩⟩
    exact f3 _ _ (ZZ.nest (n:=0) (.str (Str.ofString "zz")) .non (.int (c / 24 % 90)) (.str (Str.ofString "x")) c2 ha hb hc)
   ·exact f3 _ _ c2
  clear hR2 hR;walk_at "rd";refine⟨by walk_at "side",YM (fun _=>?_) fun _=>?_⟩
  ·refine⟨.inl ⟨rfl,_,SqL.of c1.at_⟩,by walk_at "side",JQc (by omega),YPb (by omega),Yd,fun p1 hp1=>⟨_,Qh hp1 _ _ _ c1.at_,Qv (by omega),?_⟩⟩
   exact f2 _ _ (ZZ.pair (.str (Str.ofString "b")) (.str (Str.ofString "x "++Str.ofString (toString (c / 6 % 1000)))) c1 hp1) (by simp;omega)
  ·exact f2 _ _ c1 (by omega)
 clear hR;walk_at "rd";refine⟨by decide,fun p hp=>?_⟩
 have c0:=ZZ.start (n:=3) hp;refine YM (fun _=>?_) fun _=>?_
 ·refine⟨.inl ⟨rfl,_,SqL.of c0.at_⟩,by walk_at "side",Yd,fun p0 hp0=>⟨_,Qh hp0 _ _ _ c0.at_,Qv (by simp),?_⟩⟩
  exact f1 _ _ _ (ZZ.pair (.str (Str.ofString "ab")) (.int (c / 2 % 2000 - 1000)) c0 hp0) (by simp)
 ·exact f1 _ _ _ c0 (by simp)
theorem Q3a(h:ZG v):∃ k:Key,v=kV k:=by
 cases v with
 | int n=>exact⟨.inl n,rfl⟩
 | str z=>exact⟨.inr z,rfl⟩
 | _=>exact h.elim
theorem YWa(h:ZG v):Pl.Z3 v:=by
 cases v with
 | int n=>exact h
 | str z=>exact h
 | _=>exact h.elim
theorem Z4b(h:(kvs.map Prod.fst).Nodup):((Yr kvs k v).map Prod.fst).Nodup:=by
 unfold Yr
 split
 ·rw[map_map]
  have e:kvs.map (Prod.fst ∘ fun q=>if q.1=k then (q.1,v) else q)=kvs.map Prod.fst:=map_congr_left fun q _=>by
   show(if q.1=k then (q.1,v) else q).1=q.1
   split <;> rfl
  rw[e];exact h
 ·rename_i hn
  rw[map_append,nodup_append];refine⟨h,by simp,fun a ha b hb=>?_⟩
  have hb:b=k:=by simpa using hb
  subst hb;intro z;subst z;obtain⟨q,hq,e⟩:=mem_map.mp ha;exact hn (any_eq_true.mpr ⟨q,hq,decide_eq_true e⟩)
theorem Z5b{a b:Key}(h:kV a=kV b):a=b:=by
 cases a <;> cases b <;> cases h <;> rfl
def Zsa:V->Bool | .int _=>true | _=>false
def Zta:V->Bool | .str _=>true | _=>false
theorem Z6b{l:List V}(h:∀ v∈l,ZG v):(l.filter Zsa++l.filter Zta).Perm l:=by
 have e:l.filter Zta=l.filter (fun v=>!Zsa v):=filter_congr fun v hv=>by
  have:=h v hv;cases v <;> first | rfl | exact this.elim
 rw[e];exact filter_append_perm _ _
theorem QUb{K:W.Frag}:W.kitOne K (.type "int") (.type "int")=some true:=by rfl
theorem QVb{K:W.Frag}:W.kitOne K (.type "str") (.type "int")=some false:=by rfl
theorem YQb{K:W.Frag}{Q:VK}(q:Q (.bl (Zsa (kV k))) H):Yfb K [kV k,.ty "int"] H Q:=by
 cases k with
 | inl n=>exact Z2 (.int n) QUb q
 | inr z=>exact Z2 (.str z) QVb q
theorem YRb{K:W.Frag}{Q:VK}(q:Q (.bl (Zta (kV k))) H):Yfb K [kV k,.ty "str"] H Q:=by
 cases k with
 | inl n=>exact Z2 (.int n) J3 q
 | inr z=>exact Z2 (.str z) J4 q
theorem JKa{d:Addr}{x y:HO}(n:H1 d=some y)(s2:Qk (upd H1 d x) H2):Qk H1 (upd H2 d y):=fun b o hb=>by
 by_cases z:b=d
 ·subst z;rw[n]at hb;rw[Qa,hb]
 ·rw[Qe z];exact s2 b o (by rw[Qe z];exact hb)
theorem Jdc{ys:List V}(hk:∀ v∈ys,ZG v)(ho:(∀ v∈ys,∃ n,v=.int n)\/∀ v∈ys,∃ z,v=.str z)(nd:ys.Nodup)(h:ys.Pairwise fun a b=>ltP b a=false):ys.Pairwise fun a b=>Pl.ltV a b=true:=by
 refine List.Pairwise.imp_of_mem (fun {a b} ha hb hab=>?_) (h.and nd)
 obtain⟨h1,h2⟩:=hab;have e:Pl.ltV b a=false:=by
  rcases ho with ho | ho
  ·obtain⟨x,rfl⟩:=ho a ha
   obtain⟨y,rfl⟩:=ho b hb;rw[Pl.JDb];exact h1
  ·obtain⟨x,rfl⟩:=ho a ha
   obtain⟨y,rfl⟩:=ho b hb;rw[Pl.JEb];exact h1
 cases e2:Pl.ltV a b with
 | true=>rfl
 | false=>exact(h2 (Pl.tri (YWa (hk a ha)) (YWa (hk b hb)) e2 e)).elim
structure Z7b(H:Hp)(kvs:List (Key×V))(ks xs:List V):Prop where
 len:xs.length=ks.length
 at_:∀ (i:Nat) x,xs[i]?=some x->∃ a k v,x=.ref a/\ks[i]?=some (kV k)/\H a=some (.tup [kV k,v])/\(k,v)∈kvs
 up:ks.Pairwise fun a b=>Pl.ltV a b=true
 perm:ks.Perm (kvs.map fun p=>kV p.1)
theorem Qzc{w':V}(h:(k,w')∈kvs):∃ w,JT kvs k=some w/\(k,w)∈kvs:=by
 unfold JT;cases e:kvs.find? fun kv=>decide (kv.1=k) with
 | none =>
  have:=find?_eq_none.mp e _ h
  simp at this
 | some p =>
  have h1:=find?_some e
  have h2:=mem_of_find?_eq_some e
  have h1:p.1=k:=by simpa using h1
  exact⟨p.2,rfl,by rw[<- h1];exact h2⟩
inductive Jd(K:W.Frag)(vs:List V)(H:Hp)(Q:VK)(E:XK):Prop
 | mk:∀ d kvs,vs=[.ref d]->H d=some (.dK kvs)->kvs.length<=400->(∀ p∈kvs,ZG (kV p.1))->(kvs.map Prod.fst).Nodup->(∀ r H' xs ks,Qk H H'->H r=none->H' r=some (.lst xs)->Z7b H' kvs ks xs->Q (.ref r) H')->Jd K vs H Q E
seal PE PT PW PA PS PSs PI PG Q2 PGs PO in
theorem Yna(Z:Zs mg)(T:Tx K mg CT cs ob)(F:Fun K "_law_risen" "_law_risen" ZB f fd):QF P w K mg base CX0 1 f fd ["_law_known"] (Jd K):=by
 refine F.ok Yi (fun vs H Q E h=>?_) (fun cdv A outer s H vs Q E hr h=>?_)
 ·walk_at "n"
 obtain⟨d,kvs,rfl,g1,l1,k1,nd1,q⟩:=h;refine⟨_,(@Qb _ _ _ _ _ (Ql (i:=1) Yi.nd rfl (Or.inl rfl) (Qt QJa rfl (Z.sorted) XV (Qg (JJb (Xt ["_law_known","_law_numbers_here","_law_texts"] rfl (YEa (N:=["_law_known","_law_numbers_here","_law_texts"]) (dsc:=Qi ZB) rfl rfl (by decide +kernel)) (JIb (pv 0)) (fun _ _ _ _ _=>(Xda (ZO (Qt (r:=Yfb K) Zk rfl (Z.isinstance) Qu (Qg (pv 0) (Qg (JX rfl (Z.int) JFc (v:=.ty "int") rfl) Qd))) (fun _=>rfl)))) (fun _ _ _ _ _=>(pv 0)))) Qd)))
  (@Qb _ _ _ _ _ (Ql (i:=2) Yi.nd rfl (Or.inl rfl) (Qt QJa rfl (Z.sorted) XV (Qg (JJb (Xt ["_law_known","_law_numbers_here","_law_texts"] rfl (YEa (N:=["_law_known","_law_numbers_here","_law_texts"]) (dsc:=Qi ZB) rfl rfl (by decide +kernel)) (JIb (pv 0)) (fun _ _ _ _ _=>(Xda (ZO (Qt (r:=Yfb K) Zk rfl (Z.isinstance) Qu (Qg (pv 0) (Qg (JX rfl (Z.str) Z7a (v:=.ty "str") rfl) Qd))) (fun _=>rfl)))) (fun _ _ _ _ _=>(pv 0)))) Qd)))
  (Qf (Qp (Xt ["_law_known","_law_numbers_here","_law_texts"] rfl (YEa (N:=["_law_known","_law_numbers_here","_law_texts"]) (dsc:=Qi ZB) rfl rfl (by decide +kernel)) (Jq (Qj Zlb (pv 1) (pv 2))) (fun _ _ _ _ _=>Xca) (fun _ _ _ _ _=>(Zu (Qg (pv 0) (Qg (Jvb hr.u1 (pv 1) (pv 0) (fun _ _=>rfl)) Qd))))))))),?_⟩
 refine Qm (σ:=[some (.ref d),none,none]) rfl ?_
 walk_at "rd";have kl:∀ v∈kvs.map fun q=>kV q.1,ZG v:=fun v hv=>by
  obtain⟨r,hr,rfl⟩:=mem_map.mp hv;exact k1 r hr
 have ndl:(kvs.map fun q=>kV q.1).Nodup:=by
  have:=List.Pairwise.map (S:=(·≠·)) kV (fun a b h e=>h (Z5b e)) nd1
  rw[map_map]at this;exact this
 refine⟨kvs,g1,fun ob nf=>Qqb Zsa (XJ (by omega)) Qa (fun k v H3 R hm s3 hR=>?_) fun D H2 hD s2 hy=>?_⟩
 ·walk_at "rd"
  exact YQb ⟨_,rfl,hR _ (Qk.refl _)⟩
 have dD:D≠d:=fun z=>by rw[z,Qa]at hD;cases hD
 have lf:∀ p:V->Bool,((kvs.map fun q=>kV q.1).filter p).length<=400:=fun p=>Vj (length_filter_le _ _) (by rw[Vr];omega)
 have kf:∀ p:V->Bool,∀ v∈(kvs.map fun q=>kV q.1).filter p,ZG v/\p v=true:=fun p v hv=>by
  obtain⟨h1,h2⟩:=mem_filter.mp hv;exact⟨kl v h1,h2⟩
 have i1:∀ v∈(kvs.map fun q=>kV q.1).filter Zsa,∃ n,v=.int n:=fun v hv=>by
  have:=(kf _ v hv).2;cases v <;> first | exact⟨_,rfl⟩ | cases this
 have i2:∀ v∈(kvs.map fun q=>kV q.1).filter Zta,∃ n,v=.str n:=fun v hv=>by
  have:=(kf _ v hv).2;cases v <;> first | exact⟨_,rfl⟩ | cases this
 have t2:Qk H (upd H2 d (.dK kvs)):=JKa g1 s2;refine⟨d,nf,ob,kvs,s2 _ _ Qa,D,_,ltP,rfl,SqL.of (by rw[Qe dD];exact hy),by have:=lf Zsa;omega,Jla i1,fun D2 H3 ys s3 hD2 hy2 pm so=>?_⟩
 have g3:H3 d=some (.dK kvs):=s3 _ _ Qa;have dD2:D2≠d:=fun z=>by rw[z,g3]at hy2;cases hy2
 refine⟨kvs,g3,fun ob2 nf2=>Qqb Zta (XJ (by omega)) Qa (fun k v H3 R hm s3 hR=>?_) fun E1 H4 hE s4 hy4=>?_⟩
 ·walk_at "rd"
  exact YRb ⟨_,rfl,hR _ (Qk.refl _)⟩
 have dE:E1≠d:=fun z=>by rw[z,Qa]at hE;cases hE
 have t4:Qk H (upd H4 d (.dK kvs)):=(t2.trans s3).trans (JKa g3 s4);refine⟨d,nf2,ob2,kvs,s4 _ _ Qa,E1,_,ltP,rfl,SqL.of (by rw[Qe dE];exact hy4),by have:=lf Zta;omega,XXb i2,fun D3 H5 zs s5 hD3 hy5 pm2 so2=>?_⟩
 have l2:ys.length<=kvs.length:=by rw[pm.length_eq];exact Vj (length_filter_le _ _) (by rw[Vr];exact Ve _)
 have l3:zs.length<=kvs.length:=by rw[pm2.length_eq];exact Vj (length_filter_le _ _) (by rw[Vr];exact Ve _)
 have g5:H5 d=some (.dK kvs):=s5 _ _ Qa;have t5:=t4.trans s5;refine⟨D2,rfl,D3,rfl,ys,s5 _ _ (by rw[Qe dD2];exact s4 _ _ (by rw[Qe dD2];exact hy2)),zs,hy5,XJ (by omega),fun p hp=>?_⟩
 have ks_perm:(ys++zs).Perm (kvs.map fun p=>kV p.1):=(pm.append pm2).trans (Z6b kl)
 have up:(ys++zs).Pairwise fun a b=>Pl.ltV a b=true:=by
  rw[pairwise_append];refine⟨Jdc (fun v hv=>(kf _ v (pm.mem_iff.mp hv)).1) (.inl fun v hv=>i1 v (pm.mem_iff.mp hv)) (pm.nodup_iff.mpr (ndl.filter _)) so,Jdc (fun v hv=>(kf _ v (pm2.mem_iff.mp hv)).1) (.inr fun v hv=>i2 v (pm2.mem_iff.mp hv)) (pm2.nodup_iff.mpr (ndl.filter _)) so2,fun a ha b hb=>?_⟩
  obtain⟨x,rfl⟩:=i1 a (pm.mem_iff.mp ha);obtain⟨y,rfl⟩:=i2 b (pm2.mem_iff.mp hb);exact Pl.XJb _ _
 have lk:(ys++zs).length<=400:=by rw[ks_perm.length_eq,Vr];exact l1
 generalize ys++zs=ks at ks_perm up lk ⊢;have s6:Qk H5 (upd H5 p (.lst ks)):=Qh hp _;have g6:upd H5 p (.lst ks) p=some (.lst ks):=Qa;have np:H p=none:=by
  cases e:H p with
  | none=>rfl
  | some o=>rw[t5 _ _ e]at hp;cases hp
 generalize upd H5 p (.lst ks)=H6 at s6 g6 ⊢;refine⟨⟨_,SqL.of g6⟩,Yob ks (fun H' i v=>∃ a k w,v=.ref a/\ks[i]?=some (kV k)/\H' a=some (.tup [kV k,w])/\(k,w)∈kvs) (fun H H' i v st ⟨a,k,w,e1,e2,e3,e4⟩=>⟨a,k,w,e1,e2,st _ _ e3,e4⟩) (SqL.of g6) (XJ (by omega)) (fun i x H7 R hx s7 hR=>?_) fun r H7 xs hr0 s7 hr7 le pe=>?_⟩
 ·obtain⟨⟨k,w'⟩,hm,ek⟩:=mem_map.mp (ks_perm.mem_iff.mp (Vm hx))
  obtain⟨w,hw,hmw⟩:=Qzc hm;subst ek;walk_at "rd";exact⟨w,hw ▸ JWa.k (k:=k) ((s6.trans s7) _ _ g5),Yd,fun q1 hq1=>hR _ _ ⟨q1,k,w,rfl,hx,Qa,hmw⟩ (Qh hq1 _)⟩
 ·refine q r H7 xs ks (t5.trans (s6.trans s7)) ?_ hr7 ⟨le,pe,up,ks_perm⟩
  cases e:H r with
  | none=>rfl
  | some o=>rw[(t5.trans s6) _ _ e]at hr0;cases hr0
theorem QXa{d:Addr}{o:HO}(h:H d=some (.dK kvs)):Zw H (upd H d o):=fun b xs hb=>by
 rw[Qe (Jo hb h (by intro z;cases z))];exact hb
theorem QAc{s:Int}(hi : -(10 ^ 21) < s/\s < 10 ^ 21/\i < 1000):ZG (.int (s+(0+(i:Int)) * (1+c % 5))):=by
 have h0:0<=(0+(i:Int)) * (1+c % 5):=Int.mul_nonneg (by omega) (by omega)
 have h1:(0+(i:Int)) * (1+c % 5)<=1000 * 5:=Int.mul_le_mul (by omega) (by omega) (by omega) (by decide)
 show _/\_
 omega
structure DkD(H:Hp)(kvs:List (Key×V))(es:List Dt):Prop where
 row:∀ d∈es,XGa d
 up:UpR ltK es
 nd:(kvs.map Prod.fst).Nodup
 to:∀ k w,(k,w)∈kvs->∃ c,TD H 5 (.t c) w/\Dt.t [.v (kV k),.t c]∈es
 of:∀ d∈es,∃ k w c,(k,w)∈kvs/\d=.t [.v (kV k),.t c]/\TD H 5 (.t c) w
theorem DkD.sameT(h:DkD H kvs es)(s:Zw H H'):DkD H' kvs es :=
 ⟨h.row,h.up,h.nd,fun k w hm=>let ⟨c,t,m⟩:=h.to k w hm;⟨c,TD.sameT s 5 t,m⟩,fun d hd=>let ⟨k,w,c,a,b,t⟩:=h.of d hd;⟨k,w,c,a,b,TD.sameT s 5 t⟩⟩
theorem DkD.key(h:DkD H kvs es){k:Key}{w:V}(hm:(k,w)∈kvs):ZG (kV k):=by
 obtain⟨c,_,m⟩:=h.to k w hm;exact(h.row _ m).ent.key
theorem JXb(nd:(kvs.map Prod.fst).Nodup){k:Key}{w:V}(h:(k,w)∈kvs):JT kvs k=some w:=by
 have:=Yv Prod.fst nd h;unfold JT;rw[this];rfl
theorem ZHc{k:V}{row:Dt}(hrow:∀ d∈es,XGa d)(up:UpR ltK es)(hk:ZG k):∃ es',YIb ltK k row es es':=by
 induction es with
 | nil=>exact⟨[row],[],[],rfl,.inl rfl,(fun a h=>nomatch h),fun a h=>nomatch h⟩
 | cons x r ih =>
  have ur:=pairwise_cons.mp up
  rcases ltK.tri (hrow x (by simp)).ent.key hk with z | z | z
  ·obtain⟨es',A,C,e,e2,h1,h2⟩:=ih (fun d hd=>hrow d (Vo _ hd)) ur.2
   refine⟨x::es',x::A,C,by rw[e];rfl,?_,fun a ha=>?_,h2⟩
   ·rcases e2 with e2 | ⟨o,e2,ho⟩
    ·exact .inl (by rw[e2];rfl)
    ·exact .inr ⟨o,by rw[e2];rfl,ho⟩
   ·rcases mem_cons.mp ha with y | y
    ·rw[y];exact z
    ·exact h1 a y
  ·exact⟨row::r,[],r,rfl,.inr ⟨x,rfl,z⟩,(fun a h=>nomatch h),fun c hc=>by rw[<- z];exact ur.1 c hc⟩
  ·refine⟨row::x::r,[],x::r,rfl,.inl rfl,(fun a h=>nomatch h),fun c hc=>?_⟩
   rcases mem_cons.mp hc with y | y
   ·rw[y];exact z
   ·exact ltK.tr z (ur.1 c y)
theorem DkD.put{es':List Dt}{w:V}{c:List Dt}(h:DkD H kvs es)(hk:ZG (kV k))(t:TD H 5 (.t c) w)(p:YIb ltK (kV k) (.t [.v (kV k),.t c]) es es'):DkD H (Yr kvs k w) es':=by
 have mem:∀ k' w',(k',w')∈Yr kvs k w↔(k'=k/\w'=w)\/(k'≠k/\(k',w')∈kvs):=fun k' w'=>by
  unfold Yr
  by_cases e:(kvs.any fun x=>decide (x.1=k))=true
  ·rw[if_pos e,mem_map]
   constructor
   ·rintro⟨⟨k2,w2⟩,hm,e2⟩
    dsimp only at e2
    split at e2
    ·rename_i z;injection e2 with a b;exact .inl ⟨by rw[<- a];exact z,b.symm⟩
    ·rename_i z;injection e2 with a b;subst a b;exact .inr ⟨z,hm⟩
   ·rintro(⟨rfl,rfl⟩ | ⟨hne,hm⟩)
    ·obtain⟨⟨k2,w2⟩,hm2,e2⟩:=any_eq_true.mp e
     have e2:k2=k':=by simpa using e2
     exact⟨(k2,w2),hm2,by dsimp only;rw[if_pos e2,e2]⟩
    ·exact⟨(k',w'),hm,by dsimp only;rw[if_neg hne]⟩
  ·rw[if_neg e,Vl,mem_singleton]
   constructor
   ·rintro(hm | e2)
    ·refine .inr ⟨fun z=>e ?_,hm⟩
     exact any_eq_true.mpr ⟨(k',w'),hm,by simpa using z⟩
    ·injection e2 with a b;exact .inl ⟨a,b⟩
   ·rintro(⟨rfl,rfl⟩ | ⟨_,hm⟩)
    ·exact .inr rfl
    ·exact .inl hm
 refine⟨fun d hd=>?_,p.up h.up rfl ltK.tr,Z4b h.nd,fun k' w' hm=>?_,fun d hd=>?_⟩
 ·rcases(p.mem ltK.irr d).mp hd with z | z
  ·rw[z];exact⟨_,c,rfl,hk⟩
  ·exact h.row d z.1
 ·rcases(mem k' w').mp hm with ⟨rfl,rfl⟩ | ⟨hne,hm⟩
  ·exact⟨c,t,(p.mem ltK.irr _).mpr (.inl rfl)⟩
  ·obtain⟨c',t',m'⟩:=h.to k' w' hm
   exact⟨c',t',(p.mem ltK.irr _).mpr (.inr ⟨m',fun z=>hne (Z5b z)⟩)⟩
 ·rcases(p.mem ltK.irr d).mp hd with z | ⟨z,hne⟩
  ·exact⟨k,w,c,(mem k w).mpr (.inl ⟨rfl,rfl⟩),z,t⟩
  ·obtain⟨k',w',c',hm,rfl,t'⟩:=h.of d z
   exact⟨k',w',c',(mem k' w').mpr (.inr ⟨fun y=>hne (by rw[y];rfl),hm⟩),rfl,t'⟩
theorem Z7b.dk{ks:List V}(h:Z7b H kvs ks xs)(nd:(kvs.map Prod.fst).Nodup)(hk:∀ p∈kvs,ZG (kV p.1))(hc:∀ p∈kvs,∃ c,TD H 5 (.t c) p.2):∃ es,DkD H kvs es/\Paired (fun d v=>TD H 6 d v) es xs:=by
 obtain⟨es,re,pd⟩:=TDs.of (H:=H) (n:=6) (Pd:=fun d=>∃ k w c,(k,w)∈kvs/\d=Dt.t [.v (kV k),.t c]/\TD H 5 (.t c) w) (xs:=xs) fun x hx=>by
  obtain⟨i,hi⟩:=mem_iff_getElem?.mp hx;obtain⟨a,k,w,rfl,_,ha,hm⟩:=h.at_ i x hi;obtain⟨c,t⟩:=hc _ hm;exact⟨_,TD.pair ha (.ofV (Qvc (hk _ hm))) t,k,w,c,hm,rfl,t⟩
 have le:=Paired.length re;have keyAt:∀ (i:Nat) d,es[i]?=some d->ks[i]?=some (QR d):=fun i d hd=>by
  have hi:=(Vc.mp hd).1
  have hx:xs[i]?=some (xs[i]'(by omega)):=Vb _
  obtain⟨a,k,w,ex,hks,ha,hm⟩:=h.at_ i _ hx;have tx:=QP re hd hx;obtain⟨k',w',c,_,rfl,_⟩:=pd d (Vm hd);obtain⟨a',u1,u2,ea,ha',x1,_⟩:=TD.pair_of (n:=5) tx;rw[ex]at ea;cases ea;rw[ha]at ha';cases ha';obtain⟨_,e⟩:=x1.flat;rw[hks,e];rfl
 refine⟨es,⟨fun d hd=>?_,?_,nd,fun k w hm=>?_,pd⟩,re⟩
 ·obtain⟨k,w,c,hm,rfl,_⟩:=pd d hd
  exact⟨kV k,c,rfl,hk _ hm⟩
 ·refine pairwise_iff_getElem.mpr fun i j hi hj hij=>?_
  obtain⟨li,e1⟩:=Vc.mp (keyAt i _ (Vb hi))
  obtain⟨lj,e2⟩:=Vc.mp (keyAt j _ (Vb hj))
  have:=pairwise_iff_getElem.mp h.up i j li lj hij;rw[e1,e2]at this;have kk:∀ d∈es,ZG (QR d):=fun d hd=>by obtain⟨k,w,c,hm,rfl,_⟩:=pd d hd;exact hk _ hm
  exact⟨kk _ (getElem_mem hi),kk _ (getElem_mem hj),this⟩
 ·have:kV k∈ks:=h.perm.mem_iff.mpr (mem_map.mpr ⟨(k,w),hm,rfl⟩)
  obtain⟨i,hi,e⟩:=mem_iff_getElem.mp this;have lx:=h.len;have hd:es[i]?=some (es[i]'(by omega)):=Vb _
  have hk':=keyAt i _ hd;rw[Vb hi,e]at hk'
  obtain⟨k',w',c,hm',ed,t⟩:=pd _ (Vm hd);rw[ed]at hk';injection hk' with hk'
  have ek:k=k':=Z5b hk';subst ek;have ew:w=w':=by have a:=JXb nd hm;rw[JXb nd hm']at a;injection a with a;exact a.symm
  subst ew;exact⟨c,t,by rw[<- ed];exact Vm hd⟩
def Yoa(H:Hp)(kvs:List (Key×V)):Prop:=∃ es,DkD H kvs es
theorem Yoa.nil:Yoa H []:=⟨[],fun d h=>(nomatch h),.nil,.nil,fun k w h=>(nomatch h),fun d h=>(nomatch h)⟩
theorem QBc{r:Addr}(fz:FzH H 4 (.ref r)):∃ cd,TD H 4 (.t cd) (.ref r):=by
 obtain⟨d,td⟩:=fz.td;cases d with
 | v z=>obtain⟨hz,e⟩:=td.flat;rw[<- e]at hz;cases hz
 | l ds=>cases td.h
 | t cd=>exact⟨cd,td⟩
theorem Yoa.put{r:Addr}(h:Yoa H kvs)(s:Zw H H')(hk:ZG (kV k))(hv:FzH H' 4 (.ref r)):Yoa H' (Yr kvs k (.ref r)):=by
 obtain⟨es,dk⟩:=h;have dk':=dk.sameT s;obtain⟨cd,tc⟩:=QBc hv;obtain⟨es',pr⟩:=ZHc (row:=.t [.v (kV k),.t cd]) dk'.row dk'.up hk;exact⟨es',DkD.put dk' hk (TD.mono 4 (by decide) tc) pr⟩
inductive Xe(K:W.Frag)(vs:List V)(H:Hp)(Q:VK)(E:XK):Prop
 | mk:∀ (a:Addr) (ns:List Int),vs=[.ref a]->SqL K H a (ns.map V.int)->ns.length<=63->(∀ r H' xs es,Qk H H'->H r=none->H' r=some (.lst xs)->Paired (fun d v=>TD H' 6 d v) es xs->(∀ d∈es,XGa d)->UpR ltK es->es.length<=91->Q (.ref r) H')->Xe K vs H Q E
seal PE PT PW PA PS PSs PI PG Q2 PGs PO in
theorem XKa(Z:Zs mg)(T:Tx K mg CT cs ob)(XLa:Cal P w K mg base 1 "_law_risen" ["_law_known"] (Jd K))(Zz:Cal P w K mg base 1 "_law_cell" ["_law_script","_law_k"] (Jy K))(QYa:Cal P w K mg base 1 "_law_cells" ["_law_cell_here"] (Yq K))(Z8b:Cal P w K mg base 2 "_law_key" ["_law_cell_here"] (XQ K))(F:Fun K "_law_rows" "_law_rows" XF f fd):QF P w K mg base CX0 3 f fd ["_law_script"] (Xe K):=by
 refine F.ok ZW (fun vs H Q E h=>?_) (fun cdv A outer s H vs Q E hr h=>?_)
 ·walk_at "n"
 obtain⟨a,ns,rfl,hS,h63,q⟩:=h;refine⟨_,(@Qb _ _ _ _ _ (Ql (i:=1) ZW.nd rfl (Or.inl rfl) Qab)
  (@Qb _ _ _ _ _ (Q4 (Qz Xj (Qj QI (QJ Zz (k:=2) hr (by decide) rfl (Qg (pv 0) (Qg Qc Qd))) Qc) Qc (Qy _)) (@Qb _ _ _ _ _ (Ql (i:=2) ZW.nd rfl (Or.inl rfl) (Qj Yc (Qj QI (QJ Zz (k:=2) hr (by decide) rfl (Qg (pv 0) (Qg Qc Qd))) (Qj ZWa Qc Qc)) (Qj ZWa Qc Qc)))
  (Qf (ZL PassesOwn.never rfl (XT rfl (Z.range) (Qg (Qj QI (QJ Zz (k:=2) hr (by decide) rfl (Qg (pv 0) (Qg Qc Qd))) Qc) Qd)) (Ze (i:=3) ZW.nd rfl (Or.inl rfl)) (Qf (Xba hr.u1 (pv 1) (Qj Zr (pv 2) (Qj ZA (pv 3) (Qj Zr Qc (Qj QI (QJ Zz (k:=2) hr (by decide) rfl (Qg (pv 0) (Qg Qc Qd))) Qc)))) (QJ QYa (k:=2) hr (by decide) rfl (Qg (Qj Zr (pv 2) (Qj ZA (pv 3) Qc)) Qd)) rfl))))) (Qf (ZL PassesOwn.never rfl (Jq (X2a Jqb (pv 0) (Y6a Qc) (Y6a Qc))) (Ze (i:=4) ZW.nd rfl (Or.inl rfl)) (Qf (Xba hr.u1 (pv 1) (QJ Z8b (k:=2) hr (by decide) rfl (Qg (pv 4) Qd)) (QJ QYa (k:=2) hr (by decide) rfl (Qg (Qj QX (pv 4) Qc) Qd)) rfl)))))
  (Qf (Qp (QJ XLa (k:=2) hr (by decide) rfl (Qg (pv 1) Qd)))))),?_⟩
 refine Qm (σ:=[some (.ref a),none,none,none,none]) rfl ?_
 walk_at "rd";intro d hd0;have s0:Qk H (upd H d (.dK [])):=Qh hd0 _;have g0:upd H d (.dK []) d=some (.dK []):=Qa;generalize upd H d (.dK [])=H0 at s0 g0 ⊢;have fin:∀ (H1:Hp) (kvs:List (Key×V)),Qk H H1->H1 d=some (.dK kvs)->kvs.length<=91->Yoa H1 kvs->Jd K [.ref d] H1 Q E0:=fun H1 kvs s1 g1 l1 ⟨es,dk⟩=>⟨d,kvs,rfl,g1,by omega,fun p hp=>dk.key (w:=p.2) hp,dk.nd,fun r H' xs ks s2 hr0 hr ra=>?_⟩
 ·refine⟨a,ns,0,rfl,s0.seq hS,h63,fun c0=>⟨_,rfl,?_⟩⟩
  refine YM (fun _=>?_) fun _=>?_
  ·refine⟨a,ns,1,rfl,s0.seq hS,h63,fun c1=>⟨by walk_at "side",_,rfl,by decide,by walk_at "side",?_⟩⟩
   refine⟨a,ns,2,rfl,s0.seq hS,h63,fun c2=>⟨_,rfl,by omega,by omega,?_⟩⟩
   refine JC (fun i σ' H'=>∃ (kvs:List (Key×V)) (x3:Option V),σ'=[some (.ref a),some (.ref d),some (.int (c1 % 10 ^ 20 - 10 ^ 10)),x3,none]/\Qk H H'/\H' d=some (.dK kvs)/\kvs.length<=i/\Yoa H' kvs) ⟨[],_,rfl,s0,g0,Vk _,Yoa.nil⟩ ?_ ?_
   ·rintro i σ' H' hi ⟨kvs,x3,rfl,s1,g1,l1,k1⟩
    walk_at "rd";refine⟨by walk_at "side",_,rfl,fun r H2 s2 fz=>?_⟩
    have g2:=s2 _ _ g1;refine⟨a,ns,1,rfl,s2.seq (s1.seq hS),h63,fun c3=>⟨_,rfl,by walk_at "side",_,Zmb.k (k:=.inl _) g2 (Qv (by omega)),JD (s1.trans s2) hd0,_,Qa,Vj (JZ _ _ _) (by omega),?_⟩⟩
    exact k1.put (s2.t.trans (QXa g2)) (QAc (by omega)) (fz.sameT (QXa g2))
   ·rintro σ' H1 ⟨kvs,x3,rfl,s1,g1,l1,k1⟩
    walk_at "rd";exact fin H1 kvs s1 g1 (by omega) k1
  ·refine⟨_,s0.seq hS,fun p hp=>?_⟩
   obtain⟨ms,em,lm,hm⟩:=Xyb V.int ns (some 3) (some 63);rw[em];have s00:Qk H (upd H0 p (.lst (ms.map V.int))):=s0.trans (Qh hp _);have g00:upd H0 p (.lst (ms.map V.int)) d=some (.dK []):=Qh hp _ _ _ g0;have gp:upd H0 p (.lst (ms.map V.int)) p=some (.lst (ms.map V.int)):=Qa;have dp:p≠d:=fun z=>by rw[z,g0]at hp;cases hp
   generalize upd H0 p (.lst (ms.map V.int))=H00 at s00 g00 gp ⊢;refine⟨⟨_,SqL.of gp⟩,?_⟩
   refine JI (ms.map V.int) (fun i σ' H'=>∃ (kvs:List (Key×V)) (x4:Option V),σ'=[some (.ref a),some (.ref d),none,none,x4]/\Qk H H'/\H' p=some (.lst (ms.map V.int))/\H' d=some (.dK kvs)/\kvs.length<=i/\Yoa H' kvs) ⟨[],_,rfl,s00,gp,g00,Vk _,Yoa.nil⟩ (fun i σ' H' _ ⟨_,_,_,_,h,_⟩=>SqL.of h) ?_ ?_
   ·rintro i x σ' H' hx ⟨kvs,x4,rfl,s1,gp1,g1,l1,k1⟩
    have hi:i < 63:=by
     have:=(Vc.mp hx).1
     rw[Vr]at this
     omega
    rw[getElem?_map]at hx
    obtain⟨n,_,rfl⟩:=Option.map_eq_some_iff.mp hx;walk_at "rd";refine⟨by walk_at "side",_,rfl,fun r H2 s2 fz=>⟨n,rfl,fun y hy=>?_⟩⟩
    have g2:=s2 _ _ g1;obtain⟨k,rfl⟩:=Q3a hy;refine⟨_,Zmb.k g2 (Qv (by omega)),JD (s1.trans s2) hd0,by rw[Qe dp];exact s2 _ _ gp1,_,Qa,Vj (JZ _ _ _) (by omega),?_⟩
    exact k1.put (s2.t.trans (QXa g2)) hy (fz.sameT (QXa g2))
   ·rintro σ' H1 ⟨kvs,x4,rfl,s1,gp1,g1,l1,k1⟩
    rw[Vr]at l1;walk_at "rd";exact fin H1 kvs s1 g1 (by omega) k1
 ·obtain⟨es6,dk6,re6⟩:=ra.dk dk.nd (fun q hq=>dk.key (w:=q.2) hq) fun q hq=>by obtain⟨c,t,_⟩:=dk.to q.1 q.2 hq;exact⟨c,t.same s2⟩
  have le6:=Paired.length re6;have lks:ks.length=kvs.length:=by rw[ra.perm.length_eq,Vr]
  have lxs:=ra.len;refine q r H' xs es6 (s1.trans s2) ?_ hr re6 dk6.row dk6.up (by omega)
  cases e:H r with
  | none=>rfl
  | some o=>rw[s1 _ _ e]at hr0;cases hr0
theorem Xf{H0:Hp}{b:Addr}(s:Qk H0 H1)(h:H1 b=none):H0 b=none:=by
 cases e:H0 b with
 | none=>rfl
 | some o=>rw[s _ _ e]at h;cases h
theorem QCc{K:W.Frag}(T:Tx K mg CT cs ob){k1 k2 k:Nat}(Zm:MeV P w K mg base k1 (ob 1) "under" (Zc K ob))(Zb:MeV P w K mg base k2 (ob 2) "under" (ZH K ob))(h1:k1<=k)(h2:k2<=k)
 {H:Hp} {pg:Addr} {l:Nat} {part:List Dt} {Q:VK} {E:XK} (hP:PgD ob H pg (l:Int) part) (hds:l≠0->∀ d∈part,∃ k n,d=JU k n) (lp:part.length<=900)
 (q:∀ u H',Qk H H'->H u=none->H' u=some (.lst ((if l=0 then [] else part.map ZHa).map V.int))->Q (.ref u) H'):∃ a,V.ref pg=.ref a/\∃ C dx fs,H a=some (.ins C dx fs)/\fs.lookup ("under":Str)=none/\Cls K C/\∃ sp,MeV P w K mg base k C "under" sp/\sp [.ref pg] H Q E:=by
 obtain⟨tw,dx,t,etw,hpa,ht⟩:=id hP
 by_cases h0:l=0
 ·subst h0
  obtain rfl:tw=false:=by rw[etw];rfl
  exact⟨pg,rfl,_,dx,_,hpa,rfl,(T.ob_ 1 (by decide)).cl,_,Zm.mono h1,⟨pg,rfl,fun u H' s hu gu=>q u H' s hu gu⟩⟩
 ·obtain rfl:tw=true:=by rw[etw];exact decide_eq_true (by omega)
  rw[if_neg h0]at q;exact⟨pg,rfl,_,dx,_,hpa,rfl,(T.ob_ 2 (by decide)).cl,_,Zb.mono h2,⟨pg,_,part,rfl,hP,by omega,lp,hds h0,fun u H' s hu gu=>q u H' s hu gu⟩⟩
theorem QK.partLen{p d1 d2:Addr}{l:Int}{part:List Dt}{t:Addr}(hS:QK P w ob H p d1 d2 st c)(hm:(m,Zx l part,t)∈st):part.length<=900:=by
 obtain⟨l3,k3,r3,es3,e3,_,h3⟩:=hS.sh _ hm;rw[(Zi e3).2];simp;omega
theorem Zua{n:Int}(h:(n,d)∈Qw st):∃ t,(n,d,t)∈st:=by
 obtain⟨⟨n',pd',t'⟩,hmm,en⟩:=mem_map.mp h;injection en with en1 en2
 dsimp only at en1 en2;subst en1 en2;exact⟨t',hmm⟩
def Z6(st:StL)(ns:List Int):Option Int:=ns.find? fun k=>!(st.map (·.1)).contains k
theorem YA(st:StL)(a b:List Int):Z6 st (a++b)=(Z6 st a).or (Z6 st b):=find?_append
theorem Ya(h:∃ x∈st,x.1=m):Z6 st (m::ns)=Z6 st ns:=by
 unfold Z6;obtain⟨x,hx,rfl⟩:=h;rw[find?_cons_of_neg]
 simp only[Bool.not_eq_true',Bool.not_eq_false,contains_iff_mem];exact mem_map.mpr ⟨x,hx,rfl⟩
theorem YB(h:∀ x∈st,x.1≠m):Z6 st (m::ns)=some m:=by
 unfold Z6;rw[find?_cons_of_pos]
 rw[Bool.not_eq_true',<- Bool.not_eq_true,contains_iff_mem];intro z;obtain⟨x,hx,e⟩:=mem_map.mp z;exact h x hx e
theorem Qwa{W:Int->List (Int×Nat)->List Dt->Prop}:∀ {es:List Dt} {q:List (Int×Nat)} {rs:List Dt},Qnc W es q rs->∃ (ps:List (List (Int×Nat))) (rss:List (List Dt)),es.length=ps.length/\ps.length=rss.length/\q=ps.flatten/\rs=rss.flatten/\∀ (i:Nat) e p r,es[i]?=some e->ps[i]?=some p->rss[i]?=some r->∃ k n,e=JU k n/\W n p r
 | [],q,rs,⟨h1,h2⟩=>⟨[],[],rfl,rfl,h1,h2,fun i e p r h=>by simp at h⟩
 | e::es,q,rs,⟨p,q',r1,r2,h1,h2,h3,h4⟩=>by
  obtain⟨ps,rss,l1,l2,e1,e2,f⟩:=Qwa h4;refine⟨p::ps,r1::rss,by simp[l1],by simp[l2],by simp[h1,e1],by simp[h2,e2],fun i e' p' r' a b c=>?_⟩
  cases i with
  | zero =>
   simp only[getElem?_cons_zero,Option.some.injEq]at a b c
   subst a b c;exact h3
  | succ i=>exact f i e' p' r' a b c
theorem Z7{ful:List (Int×Dt)}{M:List Dt}(h:Wlk ful l m ws M):∃ (es:List Dt) (ps:List (List (Int×Nat))) (rss:List (List Dt)),(m,Zx (l:Int) es)∈ful/\ws=(m,l)::ps.flatten/\ps.length=rss.length/\(if l=0 then [] else es.map ZHa).length=ps.length/\(∀ (i:Nat) n p r,(if l=0 then [] else es.map ZHa)[i]?=some n->ps[i]?=some p->rss[i]?=some r->Wlk ful (l - 1) n p r)/\(l≠0->rss.flatten=M)/\(l=0->es=M)/\(l≠0->∀ d∈es,∃ k n,d=JU k n):=by
 cases l with
 | zero =>
  obtain⟨a,b⟩:=h;exact⟨M,[],[],a,b,rfl,rfl,fun i n p r h=>by simp at h,fun h=>absurd rfl h,fun _=>rfl,fun h=>absurd rfl h⟩
 | succ l =>
  obtain⟨es,q,a,b,c⟩:=h;obtain⟨ps,rss,l1,l2,e1,e2,f⟩:=Qwa c;refine⟨es,ps,rss,a,by rw[b,e1],l2,by rw[if_neg (Nat.succ_ne_zero l),Vr];exact l1,fun i n p r h1 h2 h3=>?_,fun _=>e2.symm,fun h=>absurd h (Nat.succ_ne_zero l),fun _ d hd=>?_⟩
  ·rw[if_neg (Nat.succ_ne_zero l),getElem?_map,Option.map_eq_some_iff]at h1
   obtain⟨e,he,rfl⟩:=h1;obtain⟨k,n,rfl,w⟩:=f i e p r he h2 h3;exact w
  ·obtain⟨i,hi⟩:=mem_iff_getElem?.mp hd
   have hl:=(Vc.mp hi).1
   obtain⟨k,n,e,_⟩:=f i d _ _ hi (Vb (by omega)) (Vb (by omega))
   exact⟨k,n,e⟩
theorem JG{α:Type}{ps:List (List α)}{p:List α}(h:ps[i]?=some p):(ps.take (i+1)).flatten=(ps.take i).flatten++p:=by
 rw[take_add_one,h];simp
theorem Xg{α:Type}{ps:List (List α)}{p:List α}(h:ps[i]?=some p):∃ t,ps.flatten=(ps.take i).flatten++(p++t):=by
 refine⟨(ps.drop (i+1)).flatten,?_⟩
 rw[<- Vq,<- JG h,<- flatten_append,take_append_drop]
def Xp(E:XK)(cs:Nat->Addr)(H:Hp)(st:StL)(ns:List Int):Prop:=∀ k,Z6 st ns=some k->∀ d H',Qk H H'->H' d=none->E (.ref (cs 0)) (some d) (upd H' d (xD d [("number",.int k)]))
theorem Xp.part{a b c:List Int}(h:Xp E cs H st (m::(a++(b++c))))(s:Qk H H2)(hm:∃ x∈st,x.1=m)(ha:Z6 st a=none):Xp E cs H2 st b:=fun k hk d H' s' hd=>h k (by rw[Ya hm,YA,YA,ha,hk];rfl) d H' (s.trans s') hd
inductive XR(P:Program)(w:World)(cs ob:Nat->Addr)(n:Nat)(vs:List V)(H:Hp)(Q:VK)(E:XK):Prop
 | mk:∀ p d1 d2 st c v,∀ (ful:List (Int×Dt)) (ws:List (Int×Nat)),vs=[.ref p,v]->QK P w ob H p d1 d2 st c->Fn ful->(∀ x∈Qw st,x∈ful)->((v=.non/\ws=[])\/∃ l m M,v=.int m/\l<=n/\Wlk ful l m ws M)->ws.length<=2100->(Z6 st (ws.map Prod.fst)=none->∀ r H',Qk H H'->H r=none->H' r=some (.lst ((ws.map Prod.fst).map V.int))->Q (.ref r) H')->Xp E cs H st (ws.map Prod.fst)->XR P w cs ob n vs H Q E
def Zp(P:Program)(w:World)(cs ob:Nat->Addr):Nat->Sp
 | 0=>fun _ _ _ _=>False
 | n+1=>XR P w cs ob n
seal PE PT PW PA PS PSs PI PG Q2 PGs PO in
theorem Ypa(Z:Zs mg)(T:Tx K mg CT cs ob)(Jz:MeV P w K mg base 1 (ob 0) "under" (Zc K ob))(Zm:MeV P w K mg base 1 (ob 1) "under" (Zc K ob))(Zb:MeV P w K mg base 1 (ob 2) "under" (ZH K ob))(Qs:MeV P w K mg base 5 (ob 3) "page" (Q1 P w cs ob)){n:Nat}(IH:Jha P w K mg base (6+n) "numbers_of" ["pages","root"] (Zp P w cs ob n))(F:Fun K "numbers_of" "numbers_of" Y6 f fd):QF P w K mg base (CX1 P w) (6+n+1) f fd ["pages","root"] (Zp P w cs ob (n+1)):=by
 refine F.ok1 Yl (fun vs H Q E h=>?_) (fun cdv A outer s H vs Q E hr h=>?_)
 ·walk_at "n"
 obtain⟨p,d1,d2,st,c,v,ful,ws,rfl,hS,fn,sub,hv,lws,q,qe⟩:=h;refine⟨_,(@Qb _ _ _ _ _ (Q4 (Qz Y4a (pv 1) JH (Qy _)) (Qf (Qp (Zv Qd))) QC)
  (@Qb _ _ _ _ _ (Ql (i:=2) Yl.nd rfl (Or.inl rfl) (Zv (Qg (pv 1) Qd)))
  (@Qb _ _ _ _ _ (ZL JSc rfl (Jq (PE1.pe (Jra (k:=(6+n)) (Q3 (k:=(6+n)) (pv 0) hr rfl (Qg (pv 1) Qd)) hr rfl) ZS)) (Ze (i:=3) Yl.nd rfl (Or.inl rfl)) (Qf (Q7 (ZAa PySem.F.plainAttrs_list PySem.F.slot_list_extend PySem.F.type_list_extend Jma (pv 2) (Qg (PE1.pe (ZI IH (k:=(6+n)) hr (by omega) rfl rfl (Qg (pv 0) (Qg (pv 3) Qd))) ZS) Qd)))))
  (Qf (Qp (pv 2)))))),?_⟩
 refine Qm (σ:=[some (.ref p),some v,none,none]) rfl ?_
 walk_at "rd"
 rcases hv with ⟨rfl,rfl⟩ | ⟨l,m,M,rfl,hln,hw⟩
 ·rw[if_pos rfl]
  exact⟨by decide,fun r hr=>q rfl r _ (Qh hr _) hr Qa⟩
 rw[if_neg (show ¬ V.int m=V.non from fun z=>nomatch z)]
 refine⟨JBa _,fun rp hrp=>?_⟩
 have s0:=Qh hrp (.lst [.int m]);have c_r:upd H rp (.lst [.int m]) rp=some (.lst [.int m]):=Qa;generalize upd H rp (.lst [.int m])=H0 at s0 c_r ⊢;have hS0:=hS.same s0;obtain⟨part,ps,rss,hm,rfl,lpr,lps,kid,_,_,hds⟩:=Z7 hw;obtain⟨dx,ho⟩:=hS0.obj;refine Zg rfl ho rfl (T.ob_ 3 (by decide)).cl (Qs.mono (by omega)) ⟨p,d1,d2,st,c,m,rfl,hS0,fun l2 es2 t2 hm2 pg H2 s2 hpg2 pgd=>?_,fun hno d hd=>qe m (YB hno) d H0 s0 hd⟩
 obtain⟨el,ee2⟩:=Zi (fn.num _ _ _ (sub _ (mem_map.mpr ⟨_,hm2,rfl⟩)) hm);subst el ee2;have hin:∃ x∈st,x.1=m:=⟨_,hm2,rfl⟩;refine QCc T Zm Zb (by omega) (by omega) pgd hds (hS.partLen hm2) fun u H3 s3 hu gu=>?_
 have s03:=s0.trans (s2.trans s3);have ru:u≠rp:=fun z=>by rw[z,s2 _ _ c_r]at hu;cases hu
 have hl0:ps≠[]->l≠0:=fun z e=>by
  rw[if_pos e]at lps;exact z (length_eq_zero_iff.mp lps.symm)
 generalize (if l=0 then [] else es2.map ZHa)=ms at lps kid gu
 refine⟨u,rfl,⟨_,SqL.of gu⟩,JI (ms.map V.int) (fun i σ' H'=>∃ x3,σ'=[some (.ref p),some (.int m),some (.ref rp),x3]/\Qk H H'/\H' u=some (.lst (ms.map V.int))/\H' rp=some (.lst ((m::(ps.take i).flatten.map Prod.fst).map V.int))/\Z6 st ((ps.take i).flatten.map Prod.fst)=none) ⟨_,rfl,s03,gu,s3 _ _ (s2 _ _ c_r),rfl⟩ (fun i σ' H' _ ⟨_,_,_,h,_⟩=>SqL.of h) ?_ ?_⟩
 ·rintro i x σ' H' hx ⟨x3,rfl,s',gu',gr',hn⟩
  rw[getElem?_map]at hx
  obtain⟨k,hk,rfl⟩:=Option.map_eq_some_iff.mp hx;have hi:=(Vc.mp hk).1
  have hp:ps[i]?=some (ps[i]'(by omega)):=Vb _
  have hW:=kid i k _ _ hk hp (Vb (by omega))
  generalize ps[i]'(by omega)=pw at hp hW
  have l0:=hl0 (fun z=>by rw[z]at hp;cases hp)
  obtain⟨n0,rfl⟩:∃ n0,n=n0+1:=⟨n - 1,by omega⟩
  obtain⟨t,et⟩:=Xg hp;have lq:=congrArg List.length et;simp only[Vs]at lq;simp only[length_cons]at lws;walk_at "rd";refine⟨.inl ⟨rfl,_,SqL.of gr'⟩,⟨p,d1,d2,st,c,.int k,ful,pw,rfl,hS.same s',fn,sub,.inr ⟨l - 1,k,_,rfl,by omega,hW⟩,by omega,fun hm' r2 H4 s4 hr2 g4=>?_,Xp.part (m:=m) (a:=(ps.take i).flatten.map Prod.fst) (c:=t.map Prod.fst) (by rw[map_cons,et,map_append,map_append]at qe;exact qe) s' hin hn⟩⟩
  refine⟨r2,rfl,_,s4 _ _ gr',_,.inl (SqL.of g4),Vj (show _<=5000 by simp only[Vr,length_cons];omega) (by rw[sizeLine_eq];decide),?_⟩
  rw[<- map_append,cons_append,<- map_append,<- JG hp];exact⟨JD (s'.trans s4) hrp,by rw[Qe ru];exact s4 _ _ gu',Qa,by rw[JG hp,map_append,YA,hn,hm'];rfl⟩
 ·rintro σ' H' ⟨x3,rfl,s',gu',gr',hn⟩
  walk_at "rd";rw[take_of_length_le (by rw[Vr];omega)]at hn gr'
  exact q (by rw[map_cons,Ya hin];exact hn) rp H' s' hrp (by rw[map_cons];exact gr')
theorem Xp.part0{a b c:List Int}(h:Xp E cs H st (a++(b++c)))(s:Qk H H2)(ha:Z6 st a=none):Xp E cs H2 st b:=fun k hk d H' s' hd=>h k (by rw[YA,YA,ha,hk];rfl) d H' (s.trans s') hd
theorem Xp.tail{a:List Int}(h:Xp E cs H st (m::a))(s:Qk H H2)(hm:∃ x∈st,x.1=m):Xp E cs H2 st a:=fun k hk d H' s' hd=>h k (by rw[Ya hm];exact hk) d H' (s.trans s') hd
inductive Xm(P:Program)(w:World)(cs ob:Nat->Addr)(n:Nat)(vs:List V)(H:Hp)(Q:VK)(E:XK):Prop
 | mk:∀ a p d1 d2 st c,∀ l:Nat,∀ (part rs:List Dt) (ful:List (Int×Dt)) (q:List (Int×Nat)),vs=[.ref a,.ref p]->QK P w ob H p d1 d2 st c->PgD ob H a ((l+1:Nat):Int) part->l<=n->Fn ful->(∀ x∈Qw st,x∈ful)->Qnc (Wlk ful l) part q rs->rs.length<=900->part.length<=900->(Z6 st (q.map Prod.fst)=none->∀ r H' xs,Qk H H'->H r=none->H' r=some (.lst xs)->Paired (fun d v=>TD H' 6 d v) rs xs->Q (.ref r) H')->Xp E cs H st (q.map Prod.fst)->Xm P w cs ob n vs H Q E
def Q6(P:Program)(w:World)(cs ob:Nat->Addr):Nat->Sp
 | 0=>fun _ _ _ _=>False
 | n+1=>Xm P w cs ob n
seal PE PT PW PA PS PSs PI PG Q2 PGs PO in
theorem JLa(Z:Zs mg)(T:Tx K mg CT cs ob)(Jz:MeV P w K mg base 1 (ob 0) "under" (Zc K ob))(Zm:MeV P w K mg base 1 (ob 1) "under" (Zc K ob))(Zb:MeV P w K mg base 1 (ob 2) "under" (ZH K ob))(QE:MeV P w K mg base 1 (ob 1) "spread" (Q5 P w ob))(Qs:MeV P w K mg base 5 (ob 3) "page" (Q1 P w cs ob)){n:Nat}(IH:MeV P w K mg base (5+n) (ob 2) "spread" (Q6 P w cs ob n))(F:Fun K "spread" "Page.spread" Yk f fd):QF P w K mg base (CX1 P w) (5+n+1) f fd ["self","pages"] (Q6 P w cs ob (n+1)):=by
 refine F.ok1 JN (fun vs H Q E h=>?_) (fun cdv A outer s H vs Q E hr h=>?_)
 ·walk_at "n"
 obtain⟨a,p,d1,d2,st,c,l,part,rs,ful,qs,rfl,hS,hP,hl,fn,sub,hw,lrs,lp,q,qe⟩:=h;refine⟨_,(@Qb _ _ _ _ _ (Ql (i:=2) JN.nd rfl (Or.inl rfl) (Zv Qd))
  (@Qb _ _ _ _ _ (ZL JSc rfl (Jq (PE1.pe (YS (k:=(5+n)) (pv 0) hr rfl) ZS)) (Ze (i:=3) JN.nd rfl (Or.inl rfl)) (Qf (Q7 (ZAa PySem.F.plainAttrs_list PySem.F.slot_list_extend PySem.F.type_list_extend Jma (pv 2) (Qg (PE1.pe (X2 (k:=(5+n)) (Q3 (k:=(5+n)) (pv 1) hr rfl (Qg (pv 3) Qd)) hr rfl (Qg (pv 1) Qd)) ZS) Qd)))))
  (Qf (Qp (pv 2))))),?_⟩
 refine Qm (σ:=[some (.ref a),some (.ref p),none,none]) rfl ?_
 walk_at "rd";refine⟨by decide,fun rp hrp=>?_⟩
 have s0:=Qh hrp (.lst []);have c_r:upd H rp (.lst []) rp=some (.lst []):=Qa;generalize upd H rp (.lst [])=H0 at s0 c_r ⊢;have hP0:=hP.same s0;obtain⟨tw,dx,t,etw,ha,ht⟩:=id hP0;obtain rfl:tw=true:=by rw[etw];exact decide_eq_true (by omega)
 obtain⟨ps,rss,l1,l2,e1,e2,kid⟩:=Qwa hw;subst e1 e2;have hds:∀ d∈part,∃ k n,d=JU k n:=fun d hd=>by
  obtain⟨i,hi⟩:=mem_iff_getElem?.mp hd;have hl:=(Vc.mp hi).1
  obtain⟨k,n,e,_⟩:=kid i d _ _ hi (Vb (by omega)) (Vb (by omega))
  exact⟨k,n,e⟩
 refine XY rfl ha rfl (T.ob_ 2 (by decide)).cl (Zb.mono (by omega)) ⟨a,_,part,rfl,hP0,by omega,lp,hds,fun u H1 s1 hu hu1=>?_⟩
 refine⟨u,rfl,⟨_,SqL.of hu1⟩,?_⟩
 have s01:=s0.trans s1;have ru:u≠rp:=fun z=>by rw[z,c_r]at hu;cases hu
 refine JI ((part.map ZHa).map V.int) (fun i σ' H'=>∃ zs x3,σ'=[some (.ref a),some (.ref p),some (.ref rp),x3]/\Qk H H'/\H' u=some (.lst ((part.map ZHa).map V.int))/\H' rp=some (.lst zs)/\Paired (fun d v=>TD H' 6 d v) (rss.take i).flatten zs/\Z6 st ((ps.take i).flatten.map Prod.fst)=none) ⟨[],_,rfl,s01,hu1,s1 _ _ c_r,.nil,rfl⟩ (fun i σ' H' _ ⟨_,_,_,_,h,_⟩=>SqL.of h) ?_ ?_
 ·rintro i x σ' H' hx ⟨zs,x3,rfl,s',hu',hr',tz,hn⟩
  rw[getElem?_map,getElem?_map]at hx
  obtain⟨m,hm,rfl⟩:=Option.map_eq_some_iff.mp hx;obtain⟨d,hd,rfl⟩:=Option.map_eq_some_iff.mp hm;have hi:=(Vc.mp hd).1
  have hp:ps[i]?=some (ps[i]'(by omega)):=Vb _
  have he:rss[i]?=some (rss[i]'(by omega)):=Vb _
  obtain⟨k,nn,rfl,hW⟩:=kid i d _ _ hd hp he;generalize ps[i]'(by omega)=pw at hp hW
  generalize rss[i]'(by omega)=es' at he hW
  obtain⟨t',et⟩:=Xg hp;obtain⟨t2,et2⟩:=Xg he;have les:(rss.take i).flatten.length+es'.length<=900:=by
   have:=congrArg List.length et2;simp only[Vs]at this
   omega
  have lz:=Paired.length tz;have qe':Xp E cs H' st (pw.map Prod.fst):=by
   rw[et,map_append,map_append]at qe;exact qe.part0 s' hn
  have hS':=hS.same s';obtain⟨dx',ho'⟩:=hS'.obj;have fin:∀ (w:Addr) (H2:Hp) (xs:List V),Qk H' H2->H2 w=some (.lst xs)->Paired (fun d v=>TD H2 6 d v) es' xs->Z6 st (pw.map Prod.fst)=none->∃ x,V.ref w=V.ref x/\∃ zs',H2 rp=some (.lst zs')/\∃ x_1,(SqL K H2 x x_1\/SqT K H2 x x_1)/\zs'.length+x_1.length<=sizeLine/\Qk H (upd H2 rp (.lst (zs'++x_1)))/\upd H2 rp (.lst (zs'++x_1)) u=some (.lst ((part.map ZHa).map V.int))/\∃ zs,upd H2 rp (.lst (zs'++x_1)) rp=some (.lst zs)/\Paired (fun d v=>TD (upd H2 rp (.lst (zs'++x_1))) 6 d v) (rss.take (i+1)).flatten zs/\Z6 st ((ps.take (i+1)).flatten.map Prod.fst)=none:=by
   intro w H2 xs s2 hw px hmi;have hr2:=s2 _ _ hr';have t5:Zw H2 (upd H2 rp (.lst (zs++xs))):=Yt hr2;have lxs:=Paired.length px;refine⟨w,rfl,zs,hr2,xs,.inl (SqL.of hw),Vj (show zs.length+xs.length<=5000 by omega) (by rw[sizeLine_eq];decide),JD (s'.trans s2) hrp,by rw[Qe ru];exact s2 _ _ hu',_,Qa,?_,by rw[JG hp,map_append,YA,hn,hmi];rfl⟩
   rw[JG he];exact Qia (TDs.sameT tz (s2.t.trans t5)) (TDs.sameT px t5)
  walk_at "rd";refine⟨.inl ⟨rfl,_,SqL.of hr'⟩,Zg rfl ho' rfl (T.ob_ 3 (by decide)).cl (Qs.mono (by omega)) ⟨p,d1,d2,st,c,nn,rfl,hS',fun l2 es2 t2 hm2 pg H2 s2 hpg pgd=>?_,fun hno d hd=>?_⟩⟩
  rotate_left
  ·obtain⟨_,ps',_,_,e,_⟩:=Z7 hW
   rw[e,map_cons]at qe';exact qe' nn (YB hno) d H' (Qk.refl _) hd
  have hin:∃ x∈st,x.1=nn:=⟨_,hm2,rfl⟩;have inF:=sub _ (mem_map.mpr ⟨_,hm2,rfl⟩);have lp':=hS.partLen hm2;cases l with
  | zero =>
   obtain⟨hm0,ew⟩:=hW;obtain⟨el,ee2⟩:=Zi (fn.num _ _ _ inF hm0);subst el ee2;obtain⟨tw2,dx2,t0,etw2,hpa,ht0⟩:=id pgd;obtain rfl:tw2=false:=by rw[etw2];rfl
   refine⟨pg,rfl,_,dx2,_,hpa,rfl,(T.ob_ 1 (by decide)).cl,_,QE.mono (by omega),⟨pg,.ref p,es2,rfl,pgd,fun w H3 xs s3 hw hw3 px=>?_⟩⟩
   exact fin w H3 xs (s2.trans s3) hw3 px (by rw[ew];exact Ya hin)
  | succ l =>
   obtain⟨esF,q',hm0,ew,hL⟩:=hW;obtain⟨el,ee2⟩:=Zi (fn.num _ _ _ inF hm0);subst el ee2;subst ew;obtain⟨tw2,dx2,t0,etw2,hpa,ht0⟩:=id pgd;obtain rfl:tw2=true:=by rw[etw2];exact decide_eq_true (by omega)
   obtain⟨n0,rfl⟩:∃ n0,n=n0+1:=⟨n - 1,by omega⟩
   rw[map_cons]at qe';refine⟨pg,rfl,_,dx2,_,hpa,rfl,(T.ob_ 2 (by decide)).cl,_,IH,⟨pg,p,d1,d2,st,c,l,es2,es',ful,q',rfl,hS'.same s2,pgd,by omega,fn,sub,hL,by omega,lp',fun hmi w H3 xs s3 hw hw3 px=>?_,qe'.tail s2 hin⟩⟩
   exact fin w H3 xs (s2.trans s3) hw3 px (by rw[map_cons,Ya hin];exact hmi)
 ·rintro σ' H' ⟨zs,x3,rfl,s',hu',hr',tz,hn⟩
  walk_at "rd";rw[take_of_length_le (by rw[Vr,Vr];omega)]at tz hn
  exact q hn rp H' zs s' hrp hr' tz
theorem Zva{K:W.Frag}(T:Tx K mg CT cs ob){k1 B k:Nat}(ML:MeV P w K mg base k1 (ob 1) "spread" (Q5 P w ob))(MT:∀ n,MeV P w K mg base (B+n) (ob 2) "spread" (Q6 P w cs ob n))(h1:k1<=k)(h2:B+8<=k)
 {H:Hp} {pg p d1 d2:Addr} {st:StL} {c m:Int} {l:Nat} {l2:Int} {es:List Dt} {t:Addr} {ful:List (Int×Dt)} {ws:List (Int×Nat)} {M:List Dt} {Q:VK} {E:XK} (hS:QK P w ob H p d1 d2 st c) (hP:PgD ob H pg l2 es) (hm:(m,Zx l2 es,t)∈st) (fn:Fn ful) (sub:∀ x∈Qw st,x∈ful) (hl:l<=6) (hw:Wlk ful l m ws M) (lM:M.length<=900)
 (q:Z6 st (ws.map Prod.fst)=none->∀ r H' xs,Qk H H'->H r=none->H' r=some (.lst xs)->Paired (fun d v=>TD H' 6 d v) M xs->Q (.ref r) H') (qe:Xp E cs H st (ws.map Prod.fst)) :
 ∃ a,V.ref pg=.ref a/\∃ C dx fs,H a=some (.ins C dx fs)/\fs.lookup ("spread":Str)=none/\Cls K C/\∃ sp,MeV P w K mg base k C "spread" sp/\sp [.ref pg,.ref p] H Q E:=by
 have hin:∃ x∈st,x.1=m:=⟨_,hm,rfl⟩;have inF:=sub _ (mem_map.mpr ⟨_,hm,rfl⟩);have lp:=hS.partLen hm;cases l with
 | zero =>
  obtain⟨hm0,ew⟩:=hw;obtain⟨el,ee2⟩:=Zi (fn.num _ _ _ inF hm0);subst el ee2;obtain⟨tw2,dx2,t0,etw2,hpa,ht0⟩:=id hP;obtain rfl:tw2=false:=by rw[etw2];rfl
  exact⟨pg,rfl,_,dx2,_,hpa,rfl,(T.ob_ 1 (by decide)).cl,_,ML.mono h1,⟨pg,.ref p,es,rfl,hP,fun w H3 xs s3 hw hw3 px=>q (by rw[ew];exact Ya hin) w H3 xs s3 hw hw3 px⟩⟩
 | succ l =>
  obtain⟨esF,q',hm0,ew,hL⟩:=hw;obtain⟨el,ee2⟩:=Zi (fn.num _ _ _ inF hm0);subst el ee2;subst ew;obtain⟨tw2,dx2,t0,etw2,hpa,ht0⟩:=id hP;obtain rfl:tw2=true:=by rw[etw2];exact decide_eq_true (by omega)
  rw[map_cons]at qe;exact⟨pg,rfl,_,dx2,_,hpa,rfl,(T.ob_ 2 (by decide)).cl,_,(MT 8).mono h2,⟨pg,p,d1,d2,st,c,l,es,M,ful,q',rfl,hS,hP,Nat.le_succ_of_le (Nat.le_of_succ_le hl),fn,sub,hL,lM,lp,fun hmi=>q (by rw[map_cons,Ya hin];exact hmi),qe.tail (Qk.refl _) hin⟩⟩
inductive JR(P:Program)(w:World)(cs ob:Nat->Addr)(vs:List V)(H:Hp)(Q:VK)(E:XK):Prop
 | mk:∀ p d1 d2 st c v,∀ (ful:List (Int×Dt)) (ws:List (Int×Nat)) (M:List Dt),vs=[.ref p,v]->QK P w ob H p d1 d2 st c->Fn ful->(∀ x∈Qw st,x∈ful)->((v=.non/\ws=[]/\M=[])\/∃ l m,v=.int m/\l<=6/\Wlk ful l m ws M)->M.length<=900->(Z6 st (ws.map Prod.fst)=none->∀ r H' xs,Qk H H'->H r=none->H' r=some (.lst xs)->Paired (fun d v=>TD H' 6 d v) M xs->Q (.ref r) H')->Xp E cs H st (ws.map Prod.fst)->JR P w cs ob vs H Q E
seal PE PT PW PA PS PSs PI PG Q2 PGs PO in
theorem Z9b(Z:Zs mg)(T:Tx K mg CT cs ob)(QV:∀ n,MeV P w K mg base (5+n) (ob 2) "spread" (Q6 P w cs ob n))(QE:MeV P w K mg base 1 (ob 1) "spread" (Q5 P w ob))(Qs:MeV P w K mg base 5 (ob 3) "page" (Q1 P w cs ob))(F:Fun K "rows_of" "rows_of" Zla f fd):QF P w K mg base (CX1 P w) 14 f fd ["pages","root"] (JR P w cs ob):=by
 refine F.ok1 ZTb (fun vs H Q E h=>?_) (fun cdv A outer s H vs Q E hr h=>?_)
 ·walk_at "n"
 obtain⟨p,d1,d2,st,c,v,ful,ws,M,rfl,hS,fn,sub,hv,lM,q,qe⟩:=h;refine⟨_,(@Qb _ _ _ _ _ (Q4 (Qz Y4a (pv 1) JH (Qy _)) (Qf (Qp (Zv Qd))) QC)
  (Qf (Qp (PE1.pe (X2 (k:=13) (Q3 (k:=13) (pv 0) hr rfl (Qg (pv 1) Qd)) hr rfl (Qg (pv 0) Qd)) ZS)))),?_⟩
 refine Qm (σ:=[some (.ref p),some v]) rfl ?_
 walk_at "rd"
 rcases hv with ⟨rfl,rfl,rfl⟩ | ⟨l,m,rfl,hl,hw⟩
 ·rw[if_pos rfl]
  exact⟨by decide,fun r hr=>q rfl r _ [] (Qh hr _) hr Qa .nil⟩
 rw[if_neg (show ¬ V.int m=V.non from fun z=>nomatch z)]
 obtain⟨dx,ho⟩:=hS.obj;refine Zg rfl ho rfl (T.ob_ 3 (by decide)).cl (Qs.mono (by decide)) ⟨p,d1,d2,st,c,m,rfl,hS,fun l2 es2 t2 hm2 pg H2 s2 hpg2 pgd=>?_,fun hno d hd=>?_⟩
 ·refine Zva T QE QV (by decide) (by decide) (hS.same s2) pgd hm2 fn sub hl hw lM (fun hmi r H' xs s3 hr3 g3 p3=>q hmi r H' xs (s2.trans s3) (Xf s2 hr3) g3 p3) fun k hk d H' s' hd=>qe k hk d H' (s2.trans s') hd
 ·obtain⟨_,ps',_,_,e,_⟩:=Z7 hw
  rw[e,map_cons]at qe;exact qe m (YB hno) d H (Qk.refl _) hd
theorem ZIc{K:W.Frag}(T:Tx K mg CT cs ob){k1 k2 k:Nat}(M1:MeV P w K mg base k1 (ob 1) "told" (QM K ob))(M2:MeV P w K mg base k2 (ob 2) "told" (QM K ob))(h1:k1<=k)(h2:k2<=k)
 {H:Hp} {pg:Addr} {l:Int} {part:List Dt} {Q:VK} {E:XK} (hP:PgD ob H pg l part)
 (q:∀ u H' e ys,Qk H H'->H' u=some (.tup [.int l,.ref e])->H' e=some (.tup ys)->Paired (fun d v=>TD H' 6 d v) part ys->Q (.ref u) H'):∃ a,V.ref pg=.ref a/\∃ C dx fs,H a=some (.ins C dx fs)/\fs.lookup ("told":Str)=none/\Cls K C/\∃ sp,MeV P w K mg base k C "told" sp/\sp [.ref pg] H Q E:=by
 obtain⟨tw,dx,t,etw,hpa,ht⟩:=id hP;have fin:QM K ob [.ref pg] H Q E:=⟨pg,l,part,rfl,hP,fun u H' s hu td=>by
  obtain⟨b,x,y,eb,hb,tx,ty⟩:=TD.pair_of td;cases eb;obtain⟨_,rfl⟩:=tx.flat;obtain⟨mm,e,ys,em,ee,he,pe⟩:=TD.tup ty;subst ee;obtain rfl:mm=6:=by omega
  exact q _ H' e ys s hb he pe⟩
 cases tw with
 | false=>exact⟨pg,rfl,_,dx,_,hpa,rfl,(T.ob_ 1 (by decide)).cl,_,M1.mono h1,fin⟩
 | true=>exact⟨pg,rfl,_,dx,_,hpa,rfl,(T.ob_ 2 (by decide)).cl,_,M2.mono h2,fin⟩
inductive YC(P:Program)(w:World)(_cs ob:Nat->Addr)(n:Nat)(vs:List V)(H:Hp)(Q:VK)(E:XK):Prop
 | mk:∀ p d1 d2 st c m,∀ l:Nat,∀ ws M,vs=[.ref p,.int m]->QK P w ob H p d1 d2 st c->l<=n->Wlk (Qw st) l m ws M->ws.length<=2100->(∀ r H',Qk H H'->H r=none->H' r=some (.lst ((ws.map Prod.fst).map V.int))->Q (.ref r) H')->YC P w _cs ob n vs H Q E
def ZK(P:Program)(w:World)(_cs ob:Nat->Addr):Nat->Sp
 | 0=>fun _ _ _ _=>False
 | n+1=>YC P w _cs ob n
seal PE PT PW PA PS PSs PI PG Q2 PGs PO in
theorem ZIa(Z:Zs mg)(T:Tx K mg CT cs ob)(J7:MeV P w K mg base 1 (ob 0) "told" (QM K ob))(ZM:MeV P w K mg base 1 (ob 1) "told" (QM K ob))(ZN:MeV P w K mg base 1 (ob 2) "told" (QM K ob))(Qs:MeV P w K mg base 5 (ob 3) "page" (Q1 P w cs ob))(ZC:MeV P w K mg base 4 (ob 3) "card" (Jc P w cs ob)){n:Nat}(IH:Cal P w K mg base (6+n) "_law_numbers" ["_law_pages","_law_number"] (ZK P w cs ob n))(F:Fun K "_law_numbers" "_law_numbers" JO f fd):QF P w K mg base CX0 (6+n+1) f fd ["_law_pages","_law_number"] (ZK P w cs ob (n+1)):=by
 refine F.ok ZJ (fun vs H Q E h=>?_) (fun cdv A outer s H vs Q E hr h=>?_)
 ·walk_at "n"
 obtain⟨p,d1,d2,st,c,m,l,ws,M,rfl,hS,hln,hw,lws,q⟩:=h;refine⟨_,(@Qb _ _ _ _ _ (Ql (i:=2) ZJ.nd rfl (Or.inl rfl) (Zv (Qg (pv 1) Qd)))
  (@Qb _ _ _ _ _ (ZL PassesOwn.never rfl (Y2b (Q8 Zl (PE1.pe (Jra (k:=(6+n)) (Q3 (k:=(6+n)) (pv 0) hr rfl (Qg (pv 1) Qd)) hr rfl) Za) Qc (fun _ _=>rfl))) (Ze (i:=3) ZJ.nd rfl (Or.inl rfl)) (Qf (Q4 (Qz Jjb (Q8 Zl (PE1.pe (Q3 (k:=(6+n)) (pv 0) hr rfl (Qg (pv 1) Qd)) Za) Qc (fun _ _=>rfl)) Qc (Qy _)) (Qf (Ql (i:=2) ZJ.nd rfl (Or.inl rfl) (Qj Zlb (pv 2) (QJ IH (k:=(6+n)) hr (by omega) rfl (Qg (pv 0) (Qg (Q8 Zl (pv 3) Qc (fun _ _=>rfl)) Qd)))))) QC)))
  (Qf (Qp (pv 2))))),?_⟩
 refine Qm (σ:=[some (.ref p),some (.int m),none,none]) rfl ?_
 walk_at "rd";refine⟨JBa _,fun rp hrp=>?_⟩
 have s0:=Qh hrp (.lst [.int m]);have c_r:upd H rp (.lst [.int m]) rp=some (.lst [.int m]):=Qa;generalize upd H rp (.lst [.int m])=H0 at s0 c_r ⊢;have hS0:=hS.same s0;obtain⟨part,ps,rss,hm,rfl,lpr,lps,kid,_,_,hds⟩:=Z7 hw;obtain⟨tt,hmm⟩:=Zua hm;obtain⟨dx,ho⟩:=hS0.obj;refine Zg rfl ho rfl (T.ob_ 3 (by decide)).cl (Qs.mono (by omega)) ⟨p,d1,d2,st,c,m,rfl,hS0,fun l2 es2 t2 hm2 pg H2 s2 hpg2 pgd=>?_,fun z=>(z _ hmm rfl).elim⟩
 obtain⟨el,ee2⟩:=Zi (hS.fun_ hmm hm2).1;subst el ee2;refine ZIc T ZM ZN (by omega) (by omega) pgd fun u H3 e ys s3 gu ge py=>?_
 have s03:=s0.trans (s2.trans s3);have lys:=Paired.length py;obtain⟨l3,k3,r3,es3,e3,hk3,_⟩:=hS.sh _ hmm;have e3:=(Zi e3).2;have hps:l=0->ps=[]:=fun e=>by
  rw[if_pos e]at lps;exact length_eq_zero_iff.mp lps.symm
 refine⟨u,rfl,_,SqT.of gu,_,at1 _ _ _,e,rfl,⟨_,SqT.of ge⟩,Jwb ys (fun i σ' H'=>∃ fp x3,σ'=[some (.ref p),some (.int m),some (.ref fp),x3]/\Qk H H'/\H' e=some (.tup ys)/\Paired (fun d v=>TD H' 6 d v) part ys/\H' fp=some (.lst ((m::(ps.take i).flatten.map Prod.fst).map V.int))/\H fp=none) ⟨rp,_,rfl,s03,ge,py,s3 _ _ (s2 _ _ c_r),hrp⟩ (fun i σ' H' _ ⟨_,_,_,_,h,_⟩=>SqT.of h) ?_ ?_⟩
 ·rintro i x σ' H' hx ⟨fp,x3,rfl,s',ge',py',gf,hfp⟩
  have hS':=hS.same s';obtain⟨dx',ho'⟩:=hS'.obj;have hi:=(Vc.mp hx).1
  walk_at "rd";refine Zg rfl ho' rfl (T.ob_ 3 (by decide)).cl (ZC.mono (by omega)) ⟨p,d1,d2,st,c,m,rfl,hS',fun l4 k4 r4 es4 t4 hm4 t H4 s4 ht tdt=>?_,fun z=>(z _ hmm rfl).elim⟩
  obtain⟨el,_⟩:=Zi (hS.fun_ hmm hm4).1;subst el;obtain⟨b,u1,u2,eb,hb,t1,_⟩:=TD.pair_of tdt;cases eb;obtain⟨_,rfl⟩:=t1.flat;have s04:=s'.trans s4;have py4:=TDs.sameT py' s4.t;refine⟨t,rfl,_,SqT.of hb,_,at0 _ _,_,rfl,?_⟩
  by_cases h0:l=0
  ·rw[if_neg (by omega)]
   have e0:=hps h0;subst e0;exact⟨fp,_,⟨rfl,rfl⟩,s04,s4 _ _ ge',py4,by have:=s4 _ _ gf;simpa using this,hfp⟩
  rw[if_pos (by omega)]
  rw[if_neg h0]at lps kid;rw[Vr]at lps;have hd:part[i]?=some (part[i]'(by omega)):=Vb _
  have td:=QP py4 hd hx;obtain⟨k,nn,ed⟩:=hds h0 _ (Vm hd);have hk:(part.map ZHa)[i]?=some nn:=by rw[getElem?_map,hd,ed];rfl
  rw[ed]at td;obtain⟨b,u1,u3,rfl,hb2,x1,x2⟩:=TD.pair_of td;obtain⟨_,rfl⟩:=x1.flat;obtain⟨_,rfl⟩:=x2.flat;have hp:ps[i]?=some (ps[i]'(by omega)):=Vb _
  have hW:=kid i nn _ _ hk hp (Vb (by omega))
  generalize ps[i]'(by omega)=pw at hp hW
  obtain⟨n0,rfl⟩:∃ n0,n=n0+1:=⟨n - 1,by omega⟩
  obtain⟨t',et⟩:=Xg hp;have lq:=congrArg List.length et;simp only[Vs]at lq;simp only[length_cons]at lws;refine⟨b,rfl,_,SqT.of hb2,_,at1 _ _ _,⟨p,d1,d2,st,c,nn,l - 1,pw,_,rfl,hS.same s04,by omega,hW,by omega,fun r2 H5 s5 hr2 g5=>?_⟩⟩
  refine⟨r2,rfl,_,s5 _ _ (s4 _ _ gf),_,g5,Vj (show _<=5000 by simp only[Vr,length_cons];omega) (by rw[sizeLine_eq];decide),fun f2 hf2=>?_⟩
  have s6:=Qh hf2 (.lst ((m::(ps.take i).flatten.map Prod.fst).map V.int++(pw.map Prod.fst).map V.int));have s06:=s04.trans (s5.trans s6);refine⟨f2,_,⟨rfl,rfl⟩,s06,s6 _ _ (s5 _ _ (s4 _ _ ge')),TDs.sameT py4 (s5.trans s6).t,?_,Xf (s04.trans s5) hf2⟩
  rw[Qa,<- map_append,cons_append,<- map_append,<- JG hp]
 ·rintro σ' H' ⟨fp,x3,rfl,s',ge',py',gf,hfp⟩
  walk_at "rd";refine q fp H' s' hfp ?_
  rw[gf,map_cons]
  by_cases h0:l=0
  ·rw[hps h0];simp
  ·rw[if_neg h0,Vr]at lps
   rw[take_of_length_le (by omega)];simp
def JW(f:Nat->Int):List V:=(List.range 7).map fun j=>V.int (f j)
theorem QWb(f:Nat->Int)(i:Nat)(v:Int):(JW f).set i (.int v)=JW fun j=>if j=i then v else f j:=by
 refine ext_getElem? fun k=>?_
 unfold JW;rw[getElem?_set,getElem?_map,getElem?_map,Vr,length_range]
 by_cases hk:k < 7
 ·rw[getElem?_range hk]
  by_cases e:i=k
  ·subst e;simp[hk]
  ·simp[e,Ne.symm e]
 ·rw[getElem?_eq_none (by simpa using hk)]
  by_cases e:i=k
  ·subst e;simp[hk]
  ·simp[e]
theorem ZJc(f:Nat->Int){i:Nat}(h:i < 7):(JW f)[i]?=some (.int (f i)):=by
 unfold JW;rw[getElem?_map,getElem?_range h];rfl
theorem QXb(f:Nat->Int):(JW f).length=7:=by simp[JW]
theorem QDc{k:Int}(e:k=i)(h:i < n):ixN n k=some i:=by
 unfold ixN;subst e;rw[if_pos (by omega),if_pos (by omega)]
 rfl
theorem QYb{n:Int}(r:J8a QB tbl es l n)(wo:WOk QB tbl l es ws)(j:Nat):(ws.filter fun x=>x.2 == j).length=if j<=l then 1+(((es.map QR).tail).filter fun k=>decide (j < QB k)).length else 0:=by
 obtain⟨k,t⟩:=r.one;have hne:es≠[]:=t.ne' (by simp)
 by_cases h:j<=l
 ·rw[if_pos h]
  obtain⟨hs,th⟩:=t.below (j:=j+1) (by omega)
  have:=congrArg List.length (wo.lev j hs h th);rw[Vr,Vr]at this;rw[this,th.many hne]
 ·rw[if_neg h,length_eq_zero_iff,filter_eq_nil_iff]
  intro x hx;have:=(wo.pg x hx).1;simp;omega
theorem QEc{n:Int}(r:J8a QB tbl es l n){m:Int}(hm:m∈((es.map QR).tail).map (fun k=>(QB k:Int))++[0])(hx:∀ y∈((es.map QR).tail).map (fun k=>(QB k:Int))++[0],¬ m < y):m=l:=by
 obtain⟨k,t⟩:=r.one;have hne:es≠[]:=t.ne' (by simp)
 have c1:=t.many hne;have all:∀ k∈(es.map QR).tail,QB k<=l:=fun k hk=>by
  have:((es.map QR).tail).filter (fun k=>decide (l < QB k))=[]:=length_eq_zero_iff.mp (by simp at c1;simpa using c1)
  have:=filter_eq_nil_iff.mp this k hk;simp at this;exact this
 have le:m<=l:=by
  rcases Vl.mp hm with h | h
  ·obtain⟨k,hk,rfl⟩:=mem_map.mp h
   have:=all k hk;omega
  ·rw[mem_singleton.mp h];omega
 have h0:=hx 0 (by simp)
 by_cases hl:l=0
 ·omega
 ·obtain⟨l',rfl⟩:∃ l',l=l'+1:=⟨l - 1,by omega⟩
  obtain⟨hs,th⟩:=t.below (j:=l'+1) (by omega)
  have h2:=r.two (l'+1) hs (by omega) (Ve _) th
  have c2:=th.many hne;have:((es.map QR).tail).filter (fun k=>decide (l' < QB k))≠[]:=fun z=>by rw[z]at c2;simp at c2;omega
  obtain⟨k,hk⟩:=exists_mem_of_ne_nil _ this;rw[mem_filter]at hk;have h3:=hx (QB k) (mem_append_left _ (mem_map.mpr ⟨k,hk.1,rfl⟩));have h4:=all k hk.1;have h5:l' < QB k:=by simpa using hk.2
  omega
inductive Jl(P:Program)(w:World)(_cs ob:Nat->Addr)(vs:List V)(H:Hp)(Q:VK)(E:XK):Prop
 | mk:∀ p d1 d2 st c rn rr xs es,∀ l:Nat,∀ n ws,vs=[.ref p,.ref rn,.ref rr]->QK P w ob H p d1 d2 st c->H rn=some (.lst (((ws:List (Int×Nat)).map Prod.fst).map V.int))->H rr=some (.lst xs)->Paired (fun d v=>TD H 6 d v) es xs->(∀ d∈es,XGa d)->J8a QB (Qw st) es l n->l<=6->WOk QB (Qw st) l es ws->ws.length<=2100->es.length<=300->(∀ H',Qk H H'->Q (.bl true) H')->Jl P w _cs ob vs H Q E
seal PE PT PW PA PS PSs PI PG Q2 PGs PO in
theorem ZJa(Z:Zs mg)(T:Tx K mg CT cs ob)(XMa:Cal P w K mg base 1 "_law_level" ["_law_key_here"] (Yp K))(ZC:MeV P w K mg base 4 (ob 3) "card" (Jc P w cs ob))(F:Fun K "_law_counted" "_law_counted" Zy f fd):QF P w K mg base CX0 5 f fd ["_law_pages","_law_numbers_here","_law_rows_here"] (Jl P w cs ob):=by
 refine F.ok QT (fun vs H Q E h=>?_) (fun cdv A outer s H vs Q E hr h=>?_)
 ·walk_at "n"
 obtain⟨p,d1,d2,st,c,rn,rr,xs,es,l,n,ws,rfl,hS,gn,gr,px,row,root,l6,wo,lw,le,q⟩:=h;refine⟨_,(@Qb _ _ _ _ _ (Xrb (j:=3) ["_law_pages","_law_numbers_here","_law_rows_here","_law_levels","_law_top","_law_due","_law_level_here","_law_found","_law_number"] rfl QT.nd rfl rfl (YEa (N:=["_law_pages","_law_numbers_here","_law_rows_here","_law_levels","_law_top","_law_due","_law_level_here","_law_found","_law_number"]) (dsc:=Qi Zy) rfl rfl (by decide +kernel)) (Jq (X2a Jqb (pv 2) (Y6a Qc) Q5c)) (fun _ _ _ _ _=>Xca) (fun _ _ _ _ _=>(QJ XMa (k:=4) hr (by decide) rfl (Qg (Q8 (r:=Q7c K) Zl (pv 0) Qc (fun _ _=>rfl)) Qd))))
  (@Qb _ _ _ _ _ (Ql (i:=4) QT.nd rfl (Or.inl rfl) (Qt (YJb hr.hd) rfl (Z.max) JDc (Qg (Qj Zlb (pv 3) (Zv (Qg Qc Qd))) Qd)))
  (@Qb _ _ _ _ _ (Ql (i:=5) QT.nd rfl (Or.inl rfl) (Qj Xhb (Zv (Qg Qc Qd)) Qc))
  (@Qb _ _ _ _ _ (ZL PassesOwn.never rfl (XT rfl (Z.range) (Qg (Qj Zr (pv 4) Qc) Qd)) (Ze (i:=6) QT.nd rfl (Or.inr rfl)) (Qf (Y0b (Qj Zr Qc (Qt Q9 rfl (Z.len) YO (Qg (Xt ["_law_pages","_law_numbers_here","_law_rows_here","_law_levels","_law_top","_law_due","_law_level_here","_law_found","_law_number"] rfl (YEa (N:=["_law_pages","_law_numbers_here","_law_rows_here","_law_levels","_law_top","_law_due","_law_level_here","_law_found","_law_number"]) (dsc:=Qi Zy) rfl rfl (by decide +kernel)) (Jq (pv 3)) (fun _ _ _ _ _=>(Xda (Qz Jjb (pv 0) (pv 7) (Qy _)))) (fun _ _ _ _ _=>(pv 0))) Qd))) (YZb (pv 5) (pv 6) X4a))))
  (@Qb _ _ _ _ _ (Ql (i:=7) QT.nd rfl (Or.inl rfl) (Qj Xhb (Zv (Qg Qc Qd)) Qc))
  (@Qb _ _ _ _ _ (ZL PassesOwn.never rfl (Jq (pv 1)) (Ze (i:=8) QT.nd rfl (Or.inl rfl)) (@Qb _ _ _ _ _ (Ql (i:=6) QT.nd rfl (Or.inr rfl) (Q8 Zl (PE1.pe (Q3 (k:=4) (pv 0) hr rfl (Qg (pv 8) Qd)) Za) Qc (fun _ _=>rfl)))
  (Qf (Y0b (Qj Zr (Q8 Js (pv 7) (pv 6) (fun _ _=>rfl)) Qc) (YZb (pv 7) (pv 6) X4a)))))
  (Qf (Qp (Jr (Xub (hr.units0)) (pv 7) (pv 5) (Qy _)))))))))),?_⟩
 refine Qm (σ:=[some (.ref p),some (.ref rn),some (.ref rr),none,none,none,none,none,none]) rfl ?_
 refine YV fun R hR=>?_
 walk_at "rd";have lx:=Paired.length px;refine⟨xs,SqL.of gr,fun a1 ha1=>?_⟩
 rw[show Y7a xs (some 1) none=xs.drop 1 from Y8c xs 1]
 have s1:=Qh ha1 (.lst (xs.drop 1));have g1:upd H a1 (.lst (xs.drop 1)) a1=some (.lst (xs.drop 1)):=Qa;generalize upd H a1 (.lst (xs.drop 1))=H1 at s1 g1 ⊢;refine⟨⟨_,SqL.of g1⟩,XDb (xs.drop 1) (fun i v=>∀ d,es[1+i]?=some d->v=.int (QB (QR d))) (SqL.of g1) (Vv (Qv (by rw[length_drop];omega))) (fun i x H2 R hx s2 hR=>?_) fun D H2 ys hD s2 gD ly py=>?_⟩
 ·rw[getElem?_drop]at hx
  have hi:=(Vc.mp hx).1
  have hd:es[1+i]?=some (es[1+i]'(by omega)):=Vb _
  have td:=TD.sameT (s1.trans s2).t 6 (QP px hd hx);obtain⟨k,cc,ed,hk⟩:=row _ (Vm hd);rw[ed]at td;obtain⟨b,u1,u2,rfl,hb,t1,_⟩:=TD.pair_of td;obtain⟨_,rfl⟩:=t1.flat;walk_at "rd";refine⟨_,SqT.of hb,_,at0 _ _,_,rfl,hk,hR _ _ (fun d e=>?_) (Qk.refl _)⟩
  rw[hd]at e;cases e;rw[ed];rfl
 have hys:ys=(((es.map QR).tail).map fun k=>(QB k:Int)).map V.int:=by
  refine ext_getElem? fun i=>?_
  rw[length_drop]at ly;rw[getElem?_map,getElem?_map,getElem?_tail,getElem?_map]
  by_cases hi:i < ys.length
  ·have hd:es[1+i]?=some (es[1+i]'(by omega)):=Vb _
   rw[Vb hi,py i _ (Vb hi) _ hd,Nat.add_comm i 1,hd];rfl
  ·rw[getElem?_eq_none (by omega),getElem?_eq_none (by omega)];rfl
 subst hys;have s02:=s1.trans s2;have lk:((es.map QR).tail).length<=300:=by rw[length_tail,Vr];omega
 generalize hks:(es.map QR).tail=ks at gD lk ly py;refine hR _ _ (QNa fun R2 hR2=>?_)
 clear hR;walk_at "rd";refine⟨JBa _,fun a2 ha2=>?_⟩
 have s3:=Qh ha2 (.lst [.int 0]);have g3:upd H2 a2 (.lst [.int 0]) a2=some (.lst [.int 0]):=Qa;generalize upd H2 a2 (.lst [.int 0])=H3 at s3 g3 ⊢;refine⟨_,s3 _ _ gD,_,g3,Vv (Qv (by simp;omega)),fun a3 ha3=>?_⟩
 have s4:=Qh ha3 (.lst ((ks.map fun k=>(QB k:Int)).map V.int++[V.int 0]))
 have g4:upd H3 a3 (.lst ((ks.map fun k=>(QB k:Int)).map V.int++[V.int 0])) a3=some (.lst (((ks.map fun k=>(QB k:Int))++[0]).map V.int)):=by rw[Qa,map_append];rfl
 generalize upd H3 a3 (.lst ((ks.map fun k=>(QB k:Int)).map V.int++[V.int 0]))=H4 at s4 g4 ⊢
 refine⟨a3,_,rfl,SqL.of g4,by simp,fun m hm hmx=>?_⟩
 rw[<- hks]at hm hmx;obtain rfl:=QEc root hm fun y hy hlt=>hmx y hy hlt
 clear hm hmx;refine⟨JBa _,fun a4 ha4=>?_⟩
 have s5:=Qh ha4 (.lst [.int 0]);have g5:upd H4 a4 (.lst [.int 0]) a4=some (.lst [.int 0]):=Qa;generalize upd H4 a4 (.lst [.int 0])=H5 at s5 g5 ⊢;refine⟨a4,7,_,rfl,rfl,g5,by decide,by decide,by rw[sizeLine_eq];decide,fun a5 ha5=>?_⟩
 rw[show(List.replicate (7:Int).toNat [V.int 0]).flatten=JW fun j=>if j < 0 then (1+((ks.filter fun k=>decide (j < QB k)).length:Int)) else 0 from rfl]
 have s6:=Qh ha5 (.lst (JW fun j=>if j < 0 then (1+((ks.filter fun k=>decide (j < QB k)).length:Int)) else 0))
 have g6:upd H5 a5 (.lst (JW fun j=>if j < 0 then (1+((ks.filter fun k=>decide (j < QB k)).length:Int)) else 0)) a5=_:=Qa
 generalize upd H5 a5 (.lst (JW fun j=>if j < 0 then (1+((ks.filter fun k=>decide (j < QB k)).length:Int)) else 0))=H6 at s6 g6 ⊢
 have s25:=s3.trans (s4.trans s5);have n5:H a5=none:=Xf (s02.trans s25) ha5;have s06:=s02.trans (s25.trans s6);have gD6:=(s25.trans s6) _ _ gD;have nD5:D≠a5:=Qo (s25 _ _ gD) ha5;refine⟨_,rfl,by omega,by omega,?_⟩
 rw[show((l:Int)+1).toNat=l+1 by omega]
 refine JC (fun i σ' H'=>∃ x6,σ'=[some (.ref p),some (.ref rn),some (.ref rr),some (.ref D),some (.int l),some (.ref a5),x6,none,none]/\Qk H H'/\H' D=some (.lst ((ks.map fun k=>(QB k:Int)).map V.int))/\H' a5=some (.lst (JW fun j=>if j < i then (1+((ks.filter fun k=>decide (j < QB k)).length:Int)) else 0))) ⟨_,rfl,s06,gD6,g6⟩ ?_ ?_
 ·rintro i σ' H' hi ⟨x6,rfl,s',gD',g5'⟩
  walk_at "rd";refine⟨⟨_,SqL.of gD'⟩,X4b _ (fun v=>match v with | .int x=>decide (0+(i:Int) < x) | _=>false) id (SqL.of gD') (Vv (Qv (by simp;omega))) (fun j x H2 R hx s2 hR=>?_) (fun j x H2 R hx _ s2 hR=>hR) fun D2 H2 hD2 s2 g2=>?_⟩
  ·rw[getElem?_map]at hx
   obtain⟨y,_,rfl⟩:=Option.map_eq_some_iff.mp hx;walk_at "rd";exact hR
  have lc:(((((ks.map fun k=>(QB k:Int)).map V.int).filter fun v=>match v with | .int x=>decide (0+(i:Int) < x) | _=>false).map id).length:Int)=((ks.filter fun k=>decide (i < QB k)).length:Int):=by
   rw[Vr,filter_map,Vr,filter_map,Vr]
   congr 3
   funext k
   simp only[Function.comp,Int.zero_add];exact decide_eq_decide.mpr (by omega)
  refine⟨D2,rfl,_,.inl (SqL.of g2),?_⟩
  rw[lc];simp only[Jkc];walk_at "rd";refine⟨a5,_,_,i,rfl,rfl,s2 _ _ g5',by rw[QXb];exact QDc (by omega) (by omega),JD (s'.trans s2) n5,by rw[Qe nD5];exact s2 _ _ gD',?_⟩
  rw[Qa,QWb]
  congr 3
  funext j
  by_cases e:j=i
  ·rw[if_pos e,if_pos (by omega),e]
  ·rw[if_neg e]
   by_cases h:j < i
   ·rw[if_pos h,if_pos (by omega)]
   ·rw[if_neg h,if_neg (by omega)]
 ·rintro σ' H' ⟨x6,rfl,s',gD',g5'⟩
  refine hR2 _ _ ?_
  clear hR2;walk_at "rd";refine⟨JBa _,fun a6 ha6=>?_⟩
  have s7:=Qh ha6 (.lst [.int 0]);have g7:upd H' a6 (.lst [.int 0]) a6=some (.lst [.int 0]):=Qa;generalize upd H' a6 (.lst [.int 0])=H7 at s7 g7 ⊢;refine⟨a6,7,_,rfl,rfl,g7,by decide,by decide,by rw[sizeLine_eq];decide,fun a7 ha7=>?_⟩
  rw[show(List.replicate (7:Int).toNat [V.int 0]).flatten=JW fun j=>(((ws.take 0).filter fun x=>x.2 == j).length:Int) from rfl]
  have s8:=Qh ha7 (.lst (JW fun j=>(((ws.take 0).filter fun x=>x.2 == j).length:Int)))
  have g8:upd H7 a7 (.lst (JW fun j=>(((ws.take 0).filter fun x=>x.2 == j).length:Int))) a7=_:=Qa
  have n75:a5≠a7:=Qo (s7 _ _ g5') ha7;have n7:H a7=none:=Xf (s'.trans s7) ha7;generalize upd H7 a7 (.lst (JW fun j=>(((ws.take 0).filter fun x=>x.2 == j).length:Int)))=H8 at s8 g8 ⊢
  have s08:=s'.trans (s7.trans s8);have g58:=s8 _ _ (s7 _ _ g5');have nrn:rn≠a7:=Qo (s7 _ _ (s' _ _ gn)) ha7;refine⟨⟨_,SqL.of (s08 _ _ gn)⟩,JI ((ws.map Prod.fst).map V.int) (fun i σ' H'=>∃ x6 x8,σ'=[some (.ref p),some (.ref rn),some (.ref rr),some (.ref D),some (.int l),some (.ref a5),x6,some (.ref a7),x8]/\Qk H H'/\H' a5=some (.lst (JW fun j=>if j < l+1 then (1+((ks.filter fun k=>decide (j < QB k)).length:Int)) else 0))/\H' a7=some (.lst (JW fun j=>(((ws.take i).filter fun x=>x.2 == j).length:Int)))) ⟨_,_,rfl,s08,g58,g8⟩ (fun i σ' H' _ ⟨_,_,_,h,_⟩=>SqL.of (h _ _ gn)) ?_ ?_⟩
  ·rintro i x σ' H9 hx ⟨x6,x8,rfl,s9,g59,g79⟩
   rw[getElem?_map,getElem?_map]at hx
   obtain⟨m,hm,rfl⟩:=Option.map_eq_some_iff.mp hx;obtain⟨⟨m',lv⟩,hw,rfl⟩:=Option.map_eq_some_iff.mp hm;obtain⟨llv,es',hmem,_⟩:=wo.pg _ (Vm hw);dsimp only at llv hmem;obtain⟨tt,hmm⟩:=Zua hmem;obtain⟨l3,k3,r3,es3,e3,hk3,_⟩:=hS.sh _ hmm;obtain⟨_,rfl⟩:=Zi e3;have hS9:=hS.same s9;obtain⟨dx,ho⟩:=hS9.obj;walk_at "rd";refine Zg rfl ho rfl (T.ob_ 3 (by decide)).cl (ZC.mono (by decide)) ⟨p,d1,d2,st,c,m',rfl,hS9,fun l4 k4 r4 es4 t4 hm4 t H10 s10 ht tdt=>?_,fun z=>(z _ hmm rfl).elim⟩
   obtain⟨el,_⟩:=Zi (hS.fun_ hmm hm4).1;subst el;obtain⟨b,u1,u2,eb,hb,t1,_⟩:=TD.pair_of tdt;cases eb;obtain⟨_,rfl⟩:=t1.flat;refine⟨t,rfl,_,SqT.of hb,_,at0 _ _,?_⟩
   have g710:=s10 _ _ g79;simp only[Jkc];walk_at "rd";refine⟨_,SqL.of g710,_,ZR (ZJc _ (by omega)),_,rfl,a7,_,_,lv,rfl,rfl,g710,by rw[QXb];exact QDc rfl (by omega),_,_,⟨rfl,rfl⟩,JD (s9.trans s10) n7,by rw[Qe n75];exact s10 _ _ g59,?_⟩
   rw[Qa,QWb]
   congr 3
   funext j
   rw[take_add_one,hw,filter_append,Vs]
   by_cases e:j=lv
   ·rw[if_pos e,e]
    simp
   ·rw[if_neg e]
    have:(lv == j)=false:=by rw[beq_eq_false_iff_ne];exact Ne.symm e
    simp[this]
  ·rintro σ' H9 ⟨x6,x8,rfl,s9,g59,g79⟩
   walk_at "rd";have ef:(fun j=>(((ws.take ((ws.map Prod.fst).map V.int).length).filter fun x=>x.2 == j).length:Int))=fun j=>if j < l+1 then (1+((ks.filter fun k=>decide (j < QB k)).length:Int)) else 0:=by
    funext j
    rw[take_of_length_le (by rw[Vr,Vr];exact Ve _),QYb root wo j,hks]
    by_cases h:j<=l
    ·rw[if_pos h,if_pos (by omega)];simp
    ·rw[if_neg h,if_neg (by omega)];rfl
   rw[ef]at g79;have fl:∀ f,(JW f).all Zf=true:=fun f=>by
    rw[all_eq_true];intro x hx;obtain⟨j,_,rfl⟩:=mem_map.mp hx
    rfl
   refine⟨_,SqL.of g79,_,SqL.of g59,fl _,fl _,?_⟩
   rw[show ∀ f,Q4a (JW f) (JW f)=true from fun f=>by simp[JW,List.range,List.range.loop,Q4a,eqV]]
   exact q H9 s9
theorem Jab{K:W.Frag}(T:Tx K mg CT cs ob){σ:Addr->St}{N:Addr->Addr->Hp->Prop}{H:Hp}{d:Addr}{k:Int}(hs:∀ ea,(σ ea)[6]?=some (some (.ref ea)))(hd:H d=none)(q:∀ ea p3 H',Qk H H'->H p3=none->H' p3=some (.tup [.int k,.bl true,.bl false])->N ea p3 H') :
 Value.ref (cs 0)=Value.ref (cs 0)/\∀ ea,upd H d (xD d [("number",.int k)]) ea=none->tXF K CT (YE 6) "number" (σ ea) (upd (upd H d (xD d [("number",.int k)])) ea (xC ea (cs 0) (some d))) fun x H1=>Zlc K CT [.ref ea,.ref CT] H1 fun x5 H1=>Zlc K CT [.ref ea,.ref (cs 1)] H1 fun x6 H1=>[x,x5,x6].length<=sizeLine/\∀ p3,H1 p3=none->N ea p3 (upd H1 p3 (.tup [x,x5,x6])):=by
 refine⟨rfl,fun ea hea=>?_⟩
 have hne:d≠ea:=fun z=>by rw[<- z,Qa]at hea;cases hea
 have xa:XAt (upd (upd H d (xD d [("number",.int k)])) ea (xC ea (cs 0) (some d))) ea (cs 0) [("number",.int k)]:=.inr ⟨d,Qa,by rw[Qe hne];exact Qa⟩
 have xc:=T.cl 0 (by decide)
 have s1:=(Qh hd (xD d [("number",.int k)])).trans (Qh hea (xC ea (cs 0) (some d)));refine Qxa (hs ea) ⟨ea,cs 0,_,_,rfl,xa,xc,T.no 0 (by decide) _ (by decide),rfl,ea,cs 0,_,.ref CT,.ref CT,_,rfl,rfl,xa,xc,J3c xc T.top.cl,ea,cs 0,_,.ref (cs 1),.ref (cs 1),_,rfl,rfl,xa,xc,T.tab 0 1 (by decide) (by decide),show 3<=sizeLine by decide,fun p3 hp3=>?_⟩
 exact q ea p3 _ (s1.trans (Qh hp3 _)) (Xf s1 hp3) Qa
inductive Jm(P:Program)(w:World)(_cs ob:Nat->Addr)(vs:List V)(H:Hp)(Q:VK)(E:XK):Prop
 | mk:∀ p d1 d2 st c m k,∀ l:Nat,∀ (ful:List (Int×Dt)) (ws:List (Int×Nat)) (M:List Dt),vs=[.ref p,.int m,.int k]->QK P w ob H p d1 d2 st c->st.length < 1000->Fn ful->(∀ x∈Qw st,x∈ful)->l<=6->Wlk ful l m ws M->M.length<=300->ws.length<=2100->Z6 st (ws.map Prod.fst)=some k->(∀ H',Qk H H'->Q (.bl true) H')->Jm P w _cs ob vs H Q E
seal PE PT PW PA PS PSs PI PG Q2 PGs PO in
theorem ZKa(Z:Zs mg)(T:Tx K mg CT cs ob)(Z8:Jha P w K mg base 14 "rows_of" ["pages","root"] (JR P w cs ob))(ZD:∀ n,Jha P w K mg base (6+n) "numbers_of" ["pages","root"] (Zp P w cs ob n))(Jn:MeV P w K mg base 1 (ob 3) "numbers" (Z5 P w ob))(QV:∀ n,MeV P w K mg base (5+n) (ob 2) "spread" (Q6 P w cs ob n))(QE:MeV P w K mg base 1 (ob 1) "spread" (Q5 P w ob))(Qs:MeV P w K mg base 5 (ob 3) "page" (Q1 P w cs ob))(F:Fun K "_law_refused" "_law_refused" JP f fd):QF P w K mg base CX0 15 f fd ["_law_pages","_law_root","_law_number"] (Jm P w cs ob):=by
 refine F.ok Qx (fun vs H Q E h=>?_) (fun cdv A outer s H vs Q E hr h=>?_)
 ·walk_at "n"
 obtain⟨p,d1,d2,st,c,m,k,l,ful,ws,M,rfl,hS,few,fn,sub,hl,hw,lM,lw,hmi,q⟩:=h;refine⟨_,(@Qb _ _ _ _ _ (Ql (i:=3) Qx.nd rfl (Or.inl rfl) JH)
  (@Qb _ _ _ _ _ (Ql (i:=4) Qx.nd rfl (Or.inl rfl) JH)
  (@Qb _ _ _ _ _ (Ql (i:=5) Qx.nd rfl (Or.inl rfl) (Zu (Qg (pv 2) (Qg Xq (Qg Xq Qd)))))
  (@Qb _ _ _ _ _ (Q4 (Qz J9b (pv 1) (PE1.pe (YS (k:=14) (pv 0) hr rfl) Za) rfl) (@Qb _ _ _ _ _ (Ql (i:=5) Qx.nd rfl (Or.inl rfl) JH)
  (Qf (Xsa (i:=6) (Jga (X2 (k:=14) (Q3 (k:=14) (pv 0) hr rfl (Qg (pv 1) Qd)) hr rfl (Qg (pv 0) Qd))) rfl rfl rfl rfl T.mg_NoPage (T.cl 0 (by decide)) Qx.nd rfl rfl (fun ea ok=>(Qf (Ql (i:=5) Qx.nd rfl (Or.inl rfl) (Zu (Qg (Jna CT (pv 6) rfl) (Qg (Qt (JE CT) rfl (Z.isinstance) Qu (Qg (pv 6) (Qg (Q5a T.top.mg_ rfl) Qd))) (Qg (Qt (JE CT) rfl (Z.isinstance) Qu (Qg (pv 6) (Qg (Q5a T.mg_NotRising rfl) Qd))) Qd)))))))))) QC)
  (@Qb _ _ _ _ _ (Xsa (i:=6) (Jga (ZI Z8 (k:=14) hr (by decide) rfl rfl (Qg (pv 0) (Qg (pv 1) Qd)))) rfl rfl rfl rfl T.mg_NoPage (T.cl 0 (by decide)) Qx.nd rfl rfl (fun ea ok=>(Qf (Ql (i:=3) Qx.nd rfl (Or.inl rfl) (Zu (Qg (Jna CT (pv 6) rfl) (Qg (Qt (JE CT) rfl (Z.isinstance) Qu (Qg (pv 6) (Qg (Q5a T.top.mg_ rfl) Qd))) (Qg (Qt (JE CT) rfl (Z.isinstance) Qu (Qg (pv 6) (Qg (Q5a T.mg_NotRising rfl) Qd))) Qd))))))))
  (@Qb _ _ _ _ _ (Xsa (i:=6) (Jga (ZI (ZD 8) (k:=14) hr (by decide) rfl rfl (Qg (pv 0) (Qg (pv 1) Qd)))) rfl rfl rfl rfl T.mg_NoPage (T.cl 0 (by decide)) Qx.nd rfl rfl (fun ea ok=>(Qf (Ql (i:=4) Qx.nd rfl (Or.inl rfl) (Zu (Qg (Jna CT (pv 6) rfl) (Qg (Qt (JE CT) rfl (Z.isinstance) Qu (Qg (pv 6) (Qg (Q5a T.top.mg_ rfl) Qd))) (Qg (Qt (JE CT) rfl (Z.isinstance) Qu (Qg (pv 6) (Qg (Q5a T.mg_NotRising rfl) Qd))) Qd))))))))
  (Qf (Qp (Y2a (Jr (Xna (hr.units)) (pv 3) (Zu (Qg (pv 2) (Qg Xq (Qg Xq Qd)))) (Qy _)) (Y2a (Jr (Xna (hr.units)) (pv 4) (pv 3) (Qy _)) (Q6b (Jr (Xna (hr.units)) (pv 5) (pv 3) (Qy _))))))))))))),?_⟩
 refine Qm (σ:=[some (.ref p),some (.int m),some (.int k),none,none,none,none]) rfl ?_
 refine Zxc fun R hR=>?_
 have nop:∀ {E:XK} {H0:Hp},(∀ d H',Qk H0 H'->H' d=none->E (.ref (cs 0)) (some d) (upd H' d (xD d [("number",.int k)])))->Xp E cs H0 st (ws.map Prod.fst):=fun {E H0} h k' hk' d H' s' hd=>by
  rw[hmi]at hk';cases hk';exact h d H' s' hd
 have nom:Z6 st (ws.map Prod.fst)≠none:=fun z=>by rw[hmi]at z;cases z
 have go:∀ t H1,Qk H H1->H1 t=some (.tup [.int k,.bl true,.bl false])->R [some (.ref p),some (.int m),some (.int k),some .non,some .non,some (.ref t),none] H1:=by
  intro t H1 s1 gt;refine hR _ _ (YV fun R2 hR2=>?_)
  clear hR;have go2:∀ o H2,Qk H1 H2->H2 o=some (.tup [.int k,.bl true,.bl false])->R2 [some (.ref p),some (.int m),some (.int k),some (.ref o),some .non,some (.ref t),none] H2:=by
   intro o H2 s2 go_;have s02:=s1.trans s2;refine hR2 _ _ (YV fun R3 hR3=>?_)
   clear hR2;have go3:∀ o3 H3,Qk H2 H3->H3 o3=some (.tup [.int k,.bl true,.bl false])->R3 [some (.ref p),some (.int m),some (.int k),some (.ref o),some (.ref o3),some (.ref t),none] H3:=by
    intro o3 H3 s3 g3;refine hR3 _ _ ?_
    clear hR3;walk_at "rd";have fl:∀ x∈[V.int k,.bl true,.bl false],Zf x=true:=by simp[Zf]
    refine⟨show 3<=sizeLine by decide,fun p4 hp4=>?_⟩
    have s4:=Qh hp4 (.tup [.int k,.bl true,.bl false]);have g4:upd H3 p4 (.tup [.int k,.bl true,.bl false]) p4=some (.tup [.int k,.bl true,.bl false]):=Qa;generalize upd H3 p4 (.tup [.int k,.bl true,.bl false])=H4 at s4 g4 ⊢;have go4:=s4 _ _ (s3 _ _ go_);refine XZ (n:=1) (by decide) (Yz go4 fl) (Yz g4 fl) ⟨true,rfl,?_⟩
    rw[if_pos rfl];refine XZ (n:=1) (by decide) (Yz (s4 _ _ g3) fl) (Yz go4 fl) ⟨true,rfl,?_⟩
    rw[if_pos rfl];exact XZ (n:=1) (by decide) (Yz (s4 _ _ (s3 _ _ (s2 _ _ gt))) fl) (Yz go4 fl) (q _ (s02.trans (s3.trans s4)))
   clear hR3;walk_at "rd";refine⟨p,d1,d2,st,c,.int m,ful,ws,rfl,hS.same s02,fn,sub,.inr ⟨l,m,M,rfl,Nat.le_succ_of_le hl,hw⟩,lw,fun z=>absurd z nom,nop fun d H' s' hd=>?_⟩
   refine Jab T (σ:=fun ea=>[some (.ref p),some (.int m),some (.int k),some (.ref o),some .non,some (.ref t),some (.ref ea)]) (N:=fun ea p3 H''=>({ nx:=R3,rt:=Q }:Zq).gone 6 |>.nx [some (.ref p),some (.int m),some (.int k),some (.ref o),some (.ref p3),some (.ref t),some (.ref ea)] H'') (fun _=>rfl) hd fun ea p3 H'' s'' hp3 g3=>?_
   simp only[Zq.gone];walk_at "rd";exact go3 p3 H'' (s'.trans s'') g3
  clear hR2;walk_at "rd";refine⟨p,d1,d2,st,c,.int m,ful,ws,M,rfl,hS.same s1,fn,sub,.inr ⟨l,m,rfl,hl,hw⟩,by omega,fun z=>absurd z nom,nop fun d H' s' hd=>?_⟩
  refine Jab T (σ:=fun ea=>[some (.ref p),some (.int m),some (.int k),some .non,some .non,some (.ref t),some (.ref ea)]) (N:=fun ea p3 H''=>({ nx:=R2,rt:=Q }:Zq).gone 6 |>.nx [some (.ref p),some (.int m),some (.int k),some (.ref p3),some .non,some (.ref t),some (.ref ea)] H'') (fun _=>rfl) hd fun ea p3 H'' s'' hp3 g3=>?_
  simp only[Zq.gone];walk_at "rd";exact go2 p3 H'' (s'.trans s'') g3
 clear hR;walk_at "rd";refine⟨show 3<=sizeLine by decide,fun t0 ht0=>?_⟩
 have s0:=Qh ht0 (.tup [.int k,.bl true,.bl false]);have g0:upd H t0 (.tup [.int k,.bl true,.bl false]) t0=some (.tup [.int k,.bl true,.bl false]):=Qa;generalize upd H t0 (.tup [.int k,.bl true,.bl false])=H0 at s0 g0 ⊢;have hS0:=hS.same s0;obtain⟨dx,ho⟩:=hS0.obj;have cc:=T.ob_ 3 (by decide)
 refine XY rfl ho rfl cc.cl (Jn.mono (by decide)) ⟨p,d1,d2,st,c,rfl,hS0,few,fun r H2 ms s2 hr2 g2 _ _=>⟨r,rfl,_,.inl (SqL.of g2),rfl,?_,YM (fun _=>?_) fun _=>go t0 H2 (s0.trans s2) (s2 _ _ g0)⟩⟩
 ·rw[all_eq_true]
  intro x hx;obtain⟨j,_,rfl⟩:=mem_map.mp hx
  rfl
 have s02:=s0.trans s2;have hS2:=hS.same s02;obtain⟨dx2,ho2⟩:=hS2.obj;have fin:∀ {H1:Hp},Qk H H1->∀ d H',Qk H1 H'->H' d=none->_:=fun {H1} s1 d H' s' hd=>Jab T (k:=k) (σ:=fun ea=>[some (.ref p),some (.int m),some (.int k),some .non,some .non,some .non,some (.ref ea)]) (N:=fun ea p3 H''=>({ nx:=R,rt:=Q }:Zq).gone 6 |>.nx [some (.ref p),some (.int m),some (.int k),some .non,some .non,some (.ref p3),some (.ref ea)] H'') (fun _=>rfl) hd fun ea p3 H'' s'' hp3 g3=>by
  simp only[Zq.gone];walk_at "rd";exact go p3 H'' (s1.trans (s'.trans s'')) g3
 refine Zg rfl ho2 rfl cc.cl (Qs.mono (by decide)) ⟨p,d1,d2,st,c,m,rfl,hS2,fun l2 es2 t2 hm2 pg H3 s3 hpg pgd=>?_,fun hno d hd=>?_⟩
 ·exact Zva T QE QV (by decide) (by decide) (hS2.same s3) pgd hm2 fn sub hl hw (by omega) (fun z=>absurd z nom) (nop fun d H' s' hd=>fin (s02.trans s3) d H' s' hd)
 ·obtain⟨_,ps',_,_,e,_⟩:=Z7 hw
  rw[e,map_cons,YB hno]at hmi;cases hmi;exact fin s02 d H2 (Qk.refl _) hd
theorem YSb(ns:List Int):Q4a (ns.map V.int) (ns.map V.int)=true:=by
 unfold Q4a;rw[Nat.min_self,beq_self_eq_true,Bool.and_true,all_eq_true];intro i hi;rw[mem_range,Vr]at hi;rw[getD_eq_getElem?_getD,getElem?_map,Vb hi]
 simp[eqV]
theorem YXa(ns:List Int):(ns.map V.int).all Zf=true:=by
 rw[all_eq_true];intro x hx;obtain⟨j,_,rfl⟩:=mem_map.mp hx
 rfl
inductive JA(P:Program)(w:World)(_cs ob:Nat->Addr)(vs:List V)(H:Hp)(Q:VK)(E:XK):Prop
 | mk:∀ p d1 d2 st c m rr xs es,∀ l:Nat,∀ ws,vs=[.ref p,.int m,.ref rr]->QK P w ob H p d1 d2 st c->Fn (Qw st)->H rr=some (.lst xs)->Paired (fun d v=>TD H 6 d v) es xs->(∀ d∈es,XGa d)->J8a QB (Qw st) es l m->l<=6->Wlk (Qw st) l m ws es->WOk QB (Qw st) l es ws->es.length<=300->(∀ H',Qk H H'->Q (.bl true) H')->JA P w _cs ob vs H Q E
seal PE PT PW PA PS PSs PI PG Q2 PGs PO in
theorem XNa(Z:Zs mg)(T:Tx K mg CT cs ob)(ZD:∀ n,Jha P w K mg base (6+n) "numbers_of" ["pages","root"] (Zp P w cs ob n))(Z8:Jha P w K mg base 14 "rows_of" ["pages","root"] (JR P w cs ob))(JMa:∀ n,Cal P w K mg base (6+n) "_law_numbers" ["_law_pages","_law_number"] (ZK P w cs ob n))(JNa:Cal P w K mg base 5 "_law_counted" ["_law_pages","_law_numbers_here","_law_rows_here"] (Jl P w cs ob))(QV:∀ n,MeV P w K mg base (5+n) (ob 2) "spread" (Q6 P w cs ob n))(QE:MeV P w K mg base 1 (ob 1) "spread" (Q5 P w ob))(Qs:MeV P w K mg base 5 (ob 3) "page" (Q1 P w cs ob))(F:Fun K "_law_told" "_law_told" XG f fd):QF P w K mg base CX0 15 f fd ["_law_pages","_law_root","_law_rows_here"] (JA P w cs ob):=by
 refine F.ok Ju (fun vs H Q E h=>?_) (fun cdv A outer s H vs Q E hr h=>?_)
 ·walk_at "n"
 obtain⟨p,d1,d2,st,c,m,rr,xs,es,l,ws,rfl,hS,fn,gr,px,row,root,l6,hw,wo,le,q⟩:=h;refine⟨_,(@Qb _ _ _ _ _ (Ql (i:=3) Ju.nd rfl (Or.inl rfl) (PE1.pe (ZI (ZD 8) (k:=14) hr (by decide) rfl rfl (Qg (pv 0) (Qg (pv 1) Qd))) Za))
  (@Qb _ _ _ _ _ (Q4 (PW.pt (Zxa (Yb (ZO (Qt Zk rfl (Z.isinstance) Qu (Qg (pv 3) (Qg (JX rfl (Z.list) XU (v:=.ty "list") rfl) Qd))) (fun _=>rfl))) (QZa (Qz (Zub (hr.units0)) (pv 3) (QJ (JMa 8) (k:=14) hr (by decide) rfl (Qg (pv 0) (Qg (pv 1) Qd))) (Qy _))))) (Qf (Qp Xq)) QC)
  (@Qb _ _ _ _ _ (Q4 (PW.pt (Zxa (Qz Y7b (Yyb (pv 3) hr.hd rfl (Z.set) rfl (Z.len) YO) (Qt Q9 rfl (Z.len) YO (Qg (pv 3) Qd)) (Qy _)) (QZa (Yb (ZO (QJ JNa (k:=14) hr (by decide) rfl (Qg (pv 0) (Qg (pv 3) (Qg (pv 2) Qd)))) (fun _=>rfl)))))) (Qf (Qp Xq)) QC)
  (@Qb _ _ _ _ _ (Ql (i:=4) Ju.nd rfl (Or.inl rfl) (PE1.pe (ZI Z8 (k:=14) hr (by decide) rfl rfl (Qg (pv 0) (Qg (pv 1) Qd))) Za))
  (@Qb _ _ _ _ _ (Ql (i:=5) Ju.nd rfl (Or.inl rfl) (PE1.pe (X2 (k:=14) (Q3 (k:=14) (pv 0) hr rfl (Qg (pv 1) Qd)) hr rfl (Qg (pv 0) Qd)) Za))
  (@Qb _ _ _ _ _ (Q4 (PW.pt (Zxa (Yb (ZO (Qt Zk rfl (Z.isinstance) Qu (Qg (pv 4) (Qg (JX rfl (Z.list) XU (v:=.ty "list") rfl) Qd))) (fun _=>rfl))) (Zxa (Qz (XVb (hr.units)) (pv 4) (pv 2) (Qy _)) (Zxa (Yb (ZO (Qt Zk rfl (Z.isinstance) Qu (Qg (pv 5) (Qg (JX rfl (Z.list) XU (v:=.ty "list") rfl) Qd))) (fun _=>rfl))) (QZa (Qz (XVb (hr.units)) (pv 5) (pv 2) (Qy _))))))) (Qf (Qp Xq)) QC)
  (@Qb _ _ _ _ _ (Q7 (Zkb PySem.F.plainAttrs_list PySem.F.slot_list_clear PySem.F.type_list_clear Z1a (pv 3)))
  (@Qb _ _ _ _ _ (Q7 (Zkb PySem.F.plainAttrs_list PySem.F.slot_list_clear PySem.F.type_list_clear Z1a (pv 4)))
  (@Qb _ _ _ _ _ (Q7 (Zkb PySem.F.plainAttrs_list PySem.F.slot_list_clear PySem.F.type_list_clear Z1a (pv 5)))
  (Qf (Qp Xq))))))))))),?_⟩
 refine Qm (σ:=[some (.ref p),some (.int m),some (.ref rr),none,none,none]) rfl ?_
 have lw:ws.length<=2100:=Vj wo.len (Nat.mul_le_mul (show l+1<=7 by omega) le)
 have nom:Z6 st (ws.map Prod.fst)=none:=by
  unfold Z6;rw[find?_eq_none]
  intro k hk;obtain⟨x,hx,rfl⟩:=mem_map.mp hk;obtain⟨_,es',hm,_⟩:=wo.pg x hx;obtain⟨t,hmm⟩:=Zua hm;simp only[Bool.not_eq_true',Bool.not_eq_false,contains_iff_mem];exact mem_map.mpr ⟨_,hmm,rfl⟩
 have nop:∀ {E:XK} {H0:Hp},Xp E cs H0 st (ws.map Prod.fst):=fun {E H0} k' hk'=>by rw[nom]at hk';cases hk'
 refine YV fun R hR=>?_
 walk_at "rd";refine⟨p,d1,d2,st,c,.int m,Qw st,ws,rfl,hS,fn,(fun x h=>h),.inr ⟨l,m,es,rfl,Nat.le_succ_of_le l6,hw⟩,lw,fun _ rn H1 s1 hrn g1=>?_,nop⟩
 refine hR _ _ (QNa fun R2 hR2=>?_)
 clear hR;walk_at "rd";have rnr:rn≠rr:=fun z=>by rw[z,gr]at hrn;cases hrn
 refine Z2 (.lst g1) XI ⟨true,rfl,?_⟩
 rw[if_neg (by decide)]
 refine⟨p,d1,d2,st,c,m,l,ws,es,rfl,hS.same s1,Nat.le_succ_of_le l6,hw,lw,fun r2 H2 s2 hr2 g2=>⟨r2,rfl,_,SqL.of (s2 _ _ g1),_,SqL.of g2,YXa _,YXa _,?_⟩⟩
 rw[if_neg (by rw[YSb];decide)]
 have g12:=s2 _ _ g1;have s02:=s1.trans s2;refine⟨(ws.map Prod.fst).map Sum.inl,by rw[map_map];exact SqL.of g12,by rw[Vr,Vr];omega,_,.inl (SqL.of g12),?_⟩
 rw[if_neg (by rw[ZBa (pairwise_map.mpr (List.Pairwise.imp (fun h e=>h (Sum.inl.inj e)) wo.nd))];simp)]
 refine⟨p,d1,d2,st,c,rn,rr,xs,es,l,m,ws,rfl,hS.same s02,g12,s02 _ _ gr,TDs.sameT px s02.t,row,root,l6,wo,lw,le,fun H3 s3=>⟨true,rfl,?_⟩⟩
 rw[if_neg (by decide)]
 have s03:=s02.trans s3;refine⟨p,d1,d2,st,c,.int m,Qw st,ws,es,rfl,hS.same s03,fn,(fun x h=>h),.inr ⟨l,m,rfl,l6,hw⟩,by omega,fun _ r4 H4 xs4 s4 hr4 g4 p4=>?_,nop⟩
 refine hR2 _ _ ?_
 clear hR2;walk_at "rd";have s04:=s03.trans s4;have hS4:=hS.same s04;obtain⟨dx,ho⟩:=hS4.obj;refine Zg rfl ho rfl (T.ob_ 3 (by decide)).cl (Qs.mono (by decide)) ⟨p,d1,d2,st,c,m,rfl,hS4,fun l2 es2 t2 hm2 pg H5 s5 hpg pgd=>?_,fun hno d hd=>?_⟩
 rotate_left
 ·obtain⟨_,ps',_,_,e,_⟩:=Z7 hw
  rw[e,map_cons,YB hno]at nom;cases nom
 refine Zva T QE QV (by decide) (by decide) (hS4.same s5) pgd hm2 fn (fun x h=>h) l6 hw (by omega) (fun _ r6 H6 xs6 s6 hr6 g6 p6=>?_) nop
 have s46:=s5.trans s6;have g46:=s46 _ _ g4;have gr6:=(s04.trans s46) _ _ gr;have px6:=TDs.sameT px (s04.trans s46).t;have g16:=(s3.trans (s4.trans s46)) _ _ g12;refine Z2 (.lst g46) XI ⟨true,rfl,?_⟩
 rw[if_neg (by decide)]
 refine XZ (n:=7) (by decide) (Yy g46 (TDs.sameT p4 s46.t)) (Yy gr6 px6) ⟨false,rfl,?_⟩
 rw[if_neg (by decide)]
 refine Z2 (.lst g6) XI ⟨true,rfl,?_⟩
 rw[if_neg (by decide)]
 refine XZ (n:=7) (by decide) (Yy g6 p6) (Yy gr6 px6) ⟨false,rfl,?_⟩
 rw[if_neg (by decide)]
 have n1:r4≠rn:=fun z=>by rw[z,s3 _ _ g12]at hr4;cases hr4
 have n2:r6≠rn:=fun z=>by rw[z,(s3.trans (s4.trans s5)) _ _ g12]at hr6;cases hr6
 have n3:r6≠r4:=fun z=>by rw[z,s5 _ _ g4]at hr6;cases hr6
 have e4:upd H6 rn (.lst []) r4=some (.lst xs4):=by rw[Qe n1];exact g46
 have e6:upd (upd H6 rn (.lst [])) r4 (.lst []) r6=some (.lst xs6):=by rw[Qe n3,Qe n2];exact g6
 exact⟨.inl ⟨rfl,_,SqL.of g16⟩,rn,_,rfl,rfl,g16,.inl ⟨rfl,_,SqL.of e4⟩,r4,_,rfl,rfl,e4,.inl ⟨rfl,_,SqL.of e6⟩,r6,_,rfl,rfl,e6,q _ ((((s04.trans s46).updL hrn _).updL (Xf s03 hr4) _).updL (Xf (s04.trans s5) hr6) _)⟩
theorem YYa(f:Fn (Qw st))(h:Z2b st es v)(up:UpR ltK es)(hne:es≠[]):∃ l m ws,v=.int m/\l<=6/\J8a QB (Qw st) es l m/\Wlk (Qw st) l m ws es/\WOk QB (Qw st) l es ws:=by
 rcases h with ⟨a,_⟩ | ⟨_,top,L,k,n,h6,c,e,rfl⟩
 ·exact absurd a hne
 ·have r:=c.toRoot f e
  obtain⟨ws,w1,w2⟩:=r.wlk f (pairwise_map.mpr (List.Pairwise.imp (fun {a b} h e=>by rw[e]at h;exact ltK.irr _ h) up))
  exact⟨top,n,ws,rfl,h6,r,w1,w2⟩
theorem YZa(e:tbl=Qw st)(wo:WOk QB tbl l es ws):Z6 st (ws.map Prod.fst)=none:=by
 subst e;unfold Z6;rw[find?_eq_none]
 intro k hk;obtain⟨x,hx,rfl⟩:=mem_map.mp hk;obtain⟨_,es',hm,_⟩:=wo.pg x hx;obtain⟨t,hmm⟩:=Zua hm;simp only[Bool.not_eq_true',Bool.not_eq_false,contains_iff_mem];exact mem_map.mpr ⟨_,hmm,rfl⟩
theorem JYb:∀ {ns:List Int} {j:Nat} {k:Int},ns[j]?=some k->(∀ x∈st,x.1≠k)->(∀ (i:Nat) k',i < j->ns[i]?=some k'->∃ x∈st,x.1=k')->Z6 st ns=some k
 | [],_,_,h,_,_=>by simp at h
 | n::ns,0,k,h,h1,_=>by
  simp at h;subst h;exact YB h1
 | n::ns,j+1,k,h,h1,h2=>by
  rw[Ya (h2 0 n (by omega) rfl)]
  exact JYb (j:=j) h h1 fun i k' hi e=>h2 (i+1) k' (by omega) e
theorem Yec{j0 j1:Nat}{ys:List V}(h:ys.Perm ((QH [(.inl (j0:Int):Key),.inl (j1:Int)]).map kV)):∃ js:List Nat,ys=js.map (fun j=>V.int (j:Nat))/\js.Nodup/\∀ j,j∈js↔j=j0\/j=j1:=by
 by_cases e:j0=j1
 ·subst e
  have:QH [(.inl (j0:Int):Key),.inl (j0:Int)]=[.inl (j0:Int)]:=by simp[QH]
  rw[this]at h;exact⟨[j0],perm_singleton.mp h,by simp,by simp⟩
 ·have:QH [(.inl (j0:Int):Key),.inl (j1:Int)]=[.inl (j0:Int),.inl (j1:Int)]:=ZBa (by simp;omega)
  rw[this]at h;have ly:=h.length_eq
  match ys,ly with
  | [x,y],_ =>
   have hx:x∈[V.int (j0:Int),.int (j1:Int)]:=h.mem_iff.mp (by simp)
   have hy:y∈[V.int (j0:Int),.int (j1:Int)]:=h.mem_iff.mp (by simp)
   have nd:[x,y].Nodup:=h.nodup_iff.mpr (by simp[kV];omega)
   simp only[mem_cons,not_mem_nil,or_false]at hx hy;simp only[nodup_cons,mem_singleton,not_mem_nil,not_false_eq_true,nodup_nil,and_true]at nd
   rcases hx with rfl | rfl <;> rcases hy with rfl | rfl
   ·exact absurd rfl nd
   ·exact⟨[j0,j1],rfl,by simp[e],by simp⟩
   ·exact⟨[j1,j0],rfl,by simp[Ne.symm e],by simp[or_comm]⟩
   ·exact absurd rfl nd
theorem JZb(c:Int){n:Nat}(h:0 < n):∃ j:Nat,c % (n:Int)=j/\j < n:=by
 have h1:=Int.emod_nonneg c (show(n:Int)≠0 by omega)
 have h2:=Int.emod_lt_of_pos c (show(0:Int) < n by omega)
 exact⟨(c % n).toNat,by omega,by omega⟩
inductive JOa(K:W.Frag)(vs:List V)(H:Hp)(Q:VK)(E:XK):Prop
 | mk:∀ (a:Addr) (ns:List Int),vs=[.ref a]->SqL K H a (ns.map V.int)->ns.length<=63->(∀ H',Q (.bl true) H')->JOa K vs H Q E
seal PE PT PW PA PS PSs PI PG Q2 PGs PO in
theorem Yfc(Z:Zs mg)(T:Tx K mg CT cs ob)(QZb:Cal P w K mg base 3 "_law_rows" ["_law_script"] (Xe K))(J0b:Jha P w K mg base 7 "built" ["pages","rows"] (JIa P w cs ob))(ZD:∀ n,Jha P w K mg base (6+n) "numbers_of" ["pages","root"] (Zp P w cs ob n))(JPa:Cal P w K mg base 15 "_law_refused" ["_law_pages","_law_root","_law_number"] (Jm P w cs ob))(XS:Cal P w K mg base 15 "_law_told" ["_law_pages","_law_root","_law_rows_here"] (JA P w cs ob))(Z8:Jha P w K mg base 14 "rows_of" ["pages","root"] (JR P w cs ob))(Zz:Cal P w K mg base 1 "_law_cell" ["_law_script","_law_k"] (Jy K))(XOa:MkV P w K mg base 1 "Pages" (ob 3) (Ja P w ob))(Xh:MeV P w K mg base 4 (ob 3) "drop" (Yo P w cs ob))(F:Fun K "law" "law" YSa f fd):QF P w K mg base CX0 16 f fd ["_law_script"] (JOa K):=by
 refine F.ok XH (fun vs H Q E h=>?_) (fun cdv A outer s H vs Q E hr h=>?_)
 ·walk_at "n"
 obtain⟨a,ns,rfl,hS,hl_,q⟩:=h;refine⟨_,(@Qb _ _ _ _ _ (Ql (i:=1) XH.nd rfl (Or.inl rfl) (J1c XOa (k:=15) hr (by decide) rfl))
  (@Qb _ _ _ _ _ (Ql (i:=2) XH.nd rfl (Or.inl rfl) (QJ QZb (k:=15) hr (by decide) rfl (Qg (pv 0) Qd)))
  (@Qb _ _ _ _ _ (Ql (i:=3) XH.nd rfl (Or.inl rfl) (PE1.pe (ZI J0b (k:=15) hr (by decide) rfl rfl (Qg (pv 1) (Qg (JB YK rfl (Z.list) XU (Qg (pv 2) Qd)) Qd))) Za))
  (@Qb _ _ _ _ _ (Q4 (PW.pt (Zxa (Qz (Zub (hr.units0)) (PE1.pe (ZI Z8 (k:=15) hr (by decide) rfl rfl (Qg (pv 1) (Qg JH Qd))) Za) (Zv Qd) (Qy _)) (QZa (Qz (Zub (hr.units0)) (PE1.pe (ZI (ZD 8) (k:=15) hr (by decide) rfl rfl (Qg (pv 1) (Qg JH Qd))) Za) (Zv Qd) (Qy _))))) (Qf (Qp Xq)) QC)
  (@Qb _ _ _ _ _ (Q4 (Qz Xj (Qt Q9 rfl (Z.len) YO (Qg (pv 2) Qd)) Qc (Qy _)) (Qf (Qp (Y2a (Jr Y4a (pv 3) JH (Qy _)) (Q6b (Jr (Xub (hr.units0)) (PE1.pe (ZI Z8 (k:=15) hr (by decide) rfl rfl (Qg (pv 1) (Qg (pv 3) Qd))) Za) (Zv Qd) (Qy _)))))) QC)
  (@Qb _ _ _ _ _ (Q4 (PW.pt (Zxa (Yb (ZO (QJ XS (k:=15) hr (by decide) rfl (Qg (pv 1) (Qg (pv 3) (Qg (pv 2) Qd)))) (fun _=>rfl))) (QZa (Yb (ZO (QJ XS (k:=15) hr (by decide) rfl (Qg (pv 1) (Qg (pv 3) (Qg (pv 2) Qd)))) (fun _=>rfl)))))) (Qf (Qp Xq)) QC)
  (@Qb _ _ _ _ _ (Ql (i:=4) XH.nd rfl (Or.inl rfl) (PE1.pe (ZI (ZD 8) (k:=15) hr (by decide) rfl rfl (Qg (pv 1) (Qg (pv 3) Qd))) Za))
  (@Qb _ _ _ _ _ (Ql (i:=5) XH.nd rfl (Or.inl rfl) (Zv (Qg (Qj QI (Qj QX (QJ Zz (k:=15) hr (by decide) rfl (Qg (pv 0) (Qg Qc Qd))) Qc) (Qt Q9 rfl (Z.len) YO (Qg (pv 4) Qd))) (Qg (Qj QI (Qj QX (QJ Zz (k:=15) hr (by decide) rfl (Qg (pv 0) (Qg Qc Qd))) Qc) (Qt Q9 rfl (Z.len) YO (Qg (pv 4) Qd))) Qd))))
  (@Qb _ _ _ _ _ (ZL PassesOwn.never rfl (Jq (ZOb (pv 5) hr.hd rfl (Z.set) rfl (Z.sorted))) (Ze (i:=6) XH.nd rfl (Or.inl rfl)) (Qf (Q7 (PE1.pe (Q3 (k:=15) (pv 1) hr rfl (Qg (Q8 Js (pv 4) (pv 6) (fun _ _=>rfl)) Qd)) Za))))
  (@Qb _ _ _ _ _ (Q4 (Yb (ZO (QJ JPa (k:=15) hr (by decide) rfl (Qg (pv 1) (Qg (pv 3) (Qg (Q8 Js (pv 4) (Qt (YKb hr.hd) rfl (Z.min) JEc (Qg (pv 5) Qd)) (fun _ _=>rfl)) Qd)))) (fun _=>rfl))) (Qf (Qp Xq)) QC)
  (@Qb _ _ _ _ _ (Ql (i:=7) XH.nd rfl (Or.inl rfl) (PE1.pe (ZI J0b (k:=15) hr (by decide) rfl rfl (Qg (pv 1) (Qg (JB YK rfl (Z.list) XU (Qg (pv 2) Qd)) Qd))) Za))
  (Qf (Qp (Y2a (Jr (Xna (hr.units)) (PE1.pe (ZI Z8 (k:=15) hr (by decide) rfl rfl (Qg (pv 1) (Qg (pv 7) Qd))) Za) (pv 2) (Qy _)) (Q6b (QJ XS (k:=15) hr (by decide) rfl (Qg (pv 1) (Qg (pv 7) (Qg (pv 2) Qd))))))))))))))))))),?_⟩
 refine Qm (σ:=[some (.ref a),none,none,none,none,none,none,none]) rfl ?_
 refine QNa fun R hR=>?_
 have go:∀ p d1 d2 r xs es v st c H1,QK P w ob H1 p d1 d2 st c->Z2b st es v->H1 r=some (.lst xs)->Paired (fun d v=>TD H1 6 d v) es xs->(∀ d∈es,XGa d)->UpR ltK es->es.length<=91->st.length<=728->SqL K H1 a (ns.map V.int)->R [some (.ref a),some (.ref p),some (.ref r),some v,none,none,none,none] H1:=by
  intro p d1 d2 r xs es v st c H1 hA tr gr px row up le ls hS1;refine hR _ _ (QNa fun R2 hR2=>?_)
  clear hR;have fn:=hA.fn;have lx:=Paired.length px;have no0:∀ {E:XK} {H0:Hp} {st:StL},Xp E cs H0 st (([]:List (Int×Nat)).map Prod.fst):=fun {E H0 st} k hk=>by cases hk
  walk_at "rd";refine⟨p,d1,d2,st,c,.non,Qw st,[],[],rfl,hA,fn,(fun x h=>h),.inl ⟨rfl,rfl,rfl⟩,Vk _,fun _ r1 H2 xs1 s2 hr1 g1 p1=>⟨Vk _,fun l1 hl1=>?_⟩,no0⟩
  cases p1;have s3:=Qh hl1 (.lst []);refine⟨r1,rfl,[],SqL.of (s3 _ _ g1),[],SqL.of Qa,rfl,rfl,?_⟩
  rw[if_neg (by decide)]
  generalize upd H2 l1 (.lst [])=H3 at s3 ⊢;have s13:=s2.trans s3;refine⟨p,d1,d2,st,c,.non,Qw st,[],rfl,hA.same s13,fn,(fun x h=>h),.inl ⟨rfl,rfl⟩,Vk _,fun _ r2 H4 s4 hr2 g2=>⟨Vk _,fun l2 hl2=>?_⟩,no0⟩
  have s5:=Qh hl2 (.lst []);refine⟨r2,rfl,[],SqL.of (s5 _ _ g2),[],SqL.of Qa,rfl,rfl,?_⟩
  rw[if_neg (by decide)]
  generalize upd H4 l2 (.lst [])=H5 at s5 ⊢;have s15:=s13.trans (s4.trans s5);have hA5:=hA.same s15;refine⟨xs,.inl (SqL.of (s15 _ _ gr)),YM (fun h0=>?_) fun h0=>?_⟩
  ·have e0:es=[]:=length_eq_zero_iff.mp (by omega)
   subst e0;obtain rfl:v=.non:=by
    rcases tr with ⟨_,h⟩ | ⟨h,_⟩
    ·exact h
    ·exact absurd rfl h
   rw[if_pos rfl];refine⟨p,d1,d2,st,c,.non,Qw st,[],[],rfl,hA5,fn,(fun x h=>h),.inl ⟨rfl,rfl,rfl⟩,Vk _,fun _ r3 H6 xs3 s6 hr3 g3 p3=>⟨Vk _,fun l3 hl3=>?_⟩,no0⟩
   cases p3;exact⟨r3,rfl,[],SqL.of (Qh hl3 _ _ _ g3),[],SqL.of Qa,rfl,rfl,q _⟩
  have hne:es≠[]:=fun z=>h0 (by rw[z]at lx;simp at lx;omega)
  obtain⟨l,m,ws,rfl,l6,root,hw,wo⟩:=YYa fn tr up hne;have told:∀ {H:Hp} {Q:VK},Qk H1 H->(∀ H',Qk H H'->Q (.bl true) H')->JA P w cs ob [.ref p,.int m,.ref r] H Q E0:=fun {H Q} s k=>⟨p,d1,d2,st,c,m,r,xs,es,l,ws,rfl,hA.same s,fn,s _ _ gr,TDs.sameT px s.t,row,root,l6,hw,wo,by omega,k⟩
  refine told s15 fun H6 s6=>⟨true,rfl,?_⟩
  rw[if_neg (by decide)]
  refine told (s15.trans s6) fun H7 s7=>⟨true,rfl,?_⟩
  rw[if_neg (by decide)]
  have s17:=s15.trans (s6.trans s7);refine hR2 _ _ (QNa fun R3 hR3=>?_)
  clear hR2;have lw:ws.length<=2100:=Vj wo.len (Vj (Nat.mul_le_mul (show l+1<=7 by omega) le) (by decide))
  have nom:=YZa rfl wo;have hw0:0 < ws.length:=by
   obtain⟨_,_,_,_,e,_⟩:=Z7 hw;rw[e];simp
  walk_at "rd";refine⟨p,d1,d2,st,c,.int m,Qw st,ws,rfl,hA.same s17,fn,(fun x h=>h),.inr ⟨l,m,es,rfl,Nat.le_succ_of_le l6,hw⟩,lw,fun _ rn H8 s8 hrn gn=>?_,fun k hk=>by rw[nom]at hk;cases hk⟩
  have s18:=s17.trans s8;refine⟨a,ns,0,rfl,s18.seq hS1,hl_,fun c0=>⟨c0,rfl,by unfold QKc;decide,rn,rfl,_,.inl (SqL.of gn),by rw[Vr,Vr];omega,⟨a,ns,1,rfl,s18.seq hS1,hl_,fun c1=>⟨c1,rfl,by unfold QKc;decide,rn,rfl,_,.inl (SqL.of gn),by rw[Vr,Vr];omega,Yd,fun pl hpl=>?_⟩⟩⟩⟩
  rw[Vr,Vr];obtain⟨j0,e0,h0⟩:=JZb (c0 / 4) hw0;obtain⟨j1,e1,h1⟩:=JZb (c1 / 4) hw0;rw[e0,e1];have s9:=Qh hpl (.lst [.int (j0:Int),.int (j1:Int)]);have g9:upd H8 pl (.lst [.int (j0:Int),.int (j1:Int)]) pl=some (.lst [.int (j0:Int),.int (j1:Int)]):=Qa;generalize upd H8 pl (.lst [.int (j0:Int),.int (j1:Int)])=H9 at s9 g9 ⊢;simp only[QFb,YLa];walk_at "rd";refine⟨[.inl (j0:Int),.inl (j1:Int)],SqL.of g9,show 2 < 4000 by decide,ltP,Jla (fun v hv=>?_),show 2 < 1000 by decide,fun D H10 ys s10 hD gD perm _=>?_⟩
  ·obtain⟨k,hk,rfl⟩:=mem_map.mp hv
   have:=(Yxb _ k).mp hk;simp only[mem_cons,not_mem_nil,or_false]at this
   rcases this with rfl | rfl <;> exact⟨_,rfl⟩
  obtain⟨js,rfl,jnd,jm⟩:=Yec perm;have s8a:=s9.trans s10;have s1a:=s18.trans s8a;have gna:=s8a _ _ gn;have hAa:=hA.same s1a;have gra:=s1a _ _ gr;have pxa:=TDs.sameT px s1a.t;have g9a:=s10 _ _ g9;have hSa:=s1a.seq hS1;clear hrn hpl hD s2 s3 s4 s5 s6 s7 s13 s15 s17 s18 s8 s9 s10 told gn g9 g1 g2;have nsl:(ws.map Prod.fst).length=ws.length:=Vr _;refine⟨⟨_,SqL.of gD⟩,JI _ (fun i σ' H'=>∃ st' x6,σ'=[some (.ref a),some (.ref p),some (.ref r),some (.int m),some (.ref rn),some (.ref pl),x6,none]/\QK P w ob H' p d1 d2 st' c/\(∀ x,x∈st'↔x∈st/\∀ j∈js.take i,(ws.map Prod.fst)[j]?≠some x.1)/\st'.length<=728/\H' D=some (.lst (js.map fun j=>V.int (j:Nat)))/\H' rn=some (.lst ((ws.map Prod.fst).map V.int))/\H' r=some (.lst xs)/\Paired (fun d v=>TD H' 6 d v) es xs/\H' pl=some (.lst [.int (j0:Int),.int (j1:Int)])/\SqL K H' a (ns.map V.int)) ⟨st,_,rfl,hAa,(fun x=>by simp),ls,gD,gna,gra,pxa,g9a,hSa⟩ (fun i σ' H' _ ⟨_,_,_,_,_,_,h,_⟩=>SqL.of h) ?_ ?_⟩
  ·rintro i x σ' H' hx ⟨st',x6,rfl,hA',mem',l',gD',gn',gr',px',g9',hS'⟩
   rw[getElem?_map]at hx
   obtain⟨j,hj,rfl⟩:=Option.map_eq_some_iff.mp hx;have jlt:j < ws.length:=by rcases(jm j).mp (Vm hj) with rfl | rfl <;> assumption
   have hk:(ws.map Prod.fst)[j]?=some ((ws.map Prod.fst)[j]'(by omega)):=Vb _
   generalize (ws.map Prod.fst)[j]'(by omega)=k at hk
   obtain⟨dx,ho⟩:=hA'.obj;walk_at "rd";refine Zg rfl ho rfl (T.ob_ 3 (by decide)).cl (Xh.mono (by decide)) ?_
   walk_at "rd";have nds:=wo.nd;refine⟨_,SqL.of gn',_,ZR (by rw[getElem?_map,hk];rfl),⟨p,d1,d2,st',c,k,rfl,hA',fun _ H'' sx hA''=>?_,fun hno=>?_⟩⟩
   ·refine⟨_,hA'',fun x=>?_,Vj (length_filter_le _ _) l',hA'.lst sx gD',hA'.lst sx gn',hA'.lst sx gr',TDs.sameT px' (Jg hA' sx),hA'.lst sx g9',hA'.seq sx hS'⟩
    rw[mem_filter,mem',take_add_one,hj];simp only[Option.toList_some,Vl,mem_singleton,decide_eq_true_eq]
    constructor
    ·rintro⟨⟨a1,a2⟩,a3⟩
     refine⟨a1,fun j' hj'=>?_⟩
     rcases hj' with h | rfl
     ·exact a2 j' h
     ·rw[hk];exact fun z=>a3 (Option.some.inj z).symm
    ·rintro⟨a1,a2⟩
     exact⟨⟨a1,fun j' h=>a2 j' (.inl h)⟩,fun z=>a2 j (.inr rfl) (by rw[hk,z])⟩
   ·exfalso
    obtain⟨x,hx,ex⟩:=mem_map.mp (Vm hk);obtain⟨_,es',hm,_⟩:=wo.pg x hx;obtain⟨t,hmm⟩:=Zua hm;refine hno _ ((mem' _).mpr ⟨hmm,fun j' hj' z=>?_⟩) ex
    dsimp only at z;rw[ex,<- hk]at z;have jl':j' < (ws.map Prod.fst).length:=by rw[hk]at z;exact(Vc.mp z).1
    have ee:j'=j:=(getElem?_inj jl' nds).mp z
    subst ee;obtain⟨i',hi',ei⟩:=mem_iff_getElem.mp hj';rw[length_take]at hi';rw[getElem_take]at ei;obtain⟨hjl,ej⟩:=Vc.mp hj
    have:=(nodup_iff_pairwise_ne.mp jnd |> pairwise_iff_getElem.mp) i' i (by omega) hjl (by omega)
    exact this (by rw[ei,ej])
  ·rintro σ' H' ⟨st',x6,rfl,hA',mem',l',gD',gn',gr',px',g9',hS'⟩
   rw[Vr,take_of_length_le (Ve _)]at mem';refine hR3 _ _ (YV fun R4 hR4=>?_)
   clear hR3;walk_at "rd";refine⟨pl,[(j0:Int),(j1:Int)],rfl,SqL.of g9',by simp,fun m' hm' hx'=>?_⟩
   obtain⟨jx,rfl,hjx,jle⟩:∃ jx:Nat,m'=jx/\(jx=j0\/jx=j1)/\jx<=j0/\jx<=j1:=by
    have b0:¬ m' > (j0:Int):=hx' _ (by simp)
    have b1:¬ m' > (j1:Int):=hx' _ (by simp)
    simp only[mem_cons,not_mem_nil,or_false]at hm'
    rcases hm' with rfl | rfl
    ·exact⟨j0,rfl,.inl rfl,by omega,by omega⟩
    ·exact⟨j1,rfl,.inr rfl,by omega,by omega⟩
   have jlt:jx < ws.length:=by rcases hjx with rfl | rfl <;> assumption
   have hk:(ws.map Prod.fst)[jx]?=some ((ws.map Prod.fst)[jx]'(by omega)):=Vb _
   generalize (ws.map Prod.fst)[jx]'(by omega)=k at hk
   have nds:=wo.nd;have hmi:Z6 st' (ws.map Prod.fst)=some k:=by
    refine JYb hk (fun x hx z=>?_) fun i k' hi hk'=>?_
    ·exact((mem' x).mp hx).2 jx ((jm jx).mpr hjx) (by rw[hk,z])
    ·obtain⟨x,hx,ex⟩:=mem_map.mp (Vm hk')
     obtain⟨_,es',hm,_⟩:=wo.pg x hx;obtain⟨t,hmm⟩:=Zua hm;refine⟨_,(mem' _).mpr ⟨hmm,fun j' hj' z=>?_⟩,ex⟩
     dsimp only at z;rw[ex,<- hk']at z;have jl':j' < (ws.map Prod.fst).length:=by rw[hk']at z;exact(Vc.mp z).1
     have ee:j'=i:=(getElem?_inj jl' nds).mp z
     rcases(jm j').mp hj' with e | e <;> omega
   refine⟨_,_,rfl,SqL.of gn',_,ZR (by rw[getElem?_map,hk];rfl),⟨p,d1,d2,st',c,m,k,l,Qw st,ws,es,rfl,hA',by omega,fn,fun x hx=>?_,l6,hw,by omega,lw,hmi,fun H'' s''=>⟨true,rfl,?_⟩⟩⟩
   ·obtain⟨y,hy,rfl⟩:=mem_map.mp hx
    exact mem_map.mpr ⟨y,((mem' y).mp hy).1,rfl⟩
   rw[if_neg (by decide)]
   have hA2:=hA'.same s'';have gr2:=s'' _ _ gr';have px2:=TDs.sameT px' s''.t;refine hR4 _ _ ?_
   clear hR4;walk_at "rd";refine⟨xs,.inl (SqL.of gr2),fun lb hlb=>?_⟩
   have s3:=Qh hlb (.lst xs);have g3:upd H'' lb (.lst xs) lb=some (.lst xs):=Qa;generalize upd H'' lb (.lst xs)=H3 at s3 g3 ⊢;have hA3:=hA2.same s3;have px3:=TDs.sameT px2 s3.t;have upk:(es.map QR).Pairwise fun a b=>Pl.ltV a b=true:=by rw[pairwise_map];exact List.Pairwise.imp (fun {a b} h=>h.2.2) up
   refine⟨p,d1,d2,st',c,lb,xs,es,rfl,hA3,g3,px3,(fun d hd=>(row d hd).ent),by omega,by omega,.inl ⟨upk,fun H4 st4 c4 v4 sx4 hS4 sub4 l4 ht4=>?_⟩⟩
   have gr4:=hA3.lst sx4 (s3 _ _ gr2);have px4:=TDs.sameT px3 (Jg hA3 sx4);obtain⟨l',m',ws',rfl,l6',root',hw',wo'⟩:=YYa hS4.fn (show Z2b st4 es v4 from ht4) up hne
   have nom':=YZa rfl wo';refine⟨p,d1,d2,st4,c4,.int m',Qw st4,ws',es,rfl,hS4,hS4.fn,(fun x h=>h),.inr ⟨l',m',rfl,l6',hw'⟩,by omega,fun _ r5 H5 xs5 s5 hr5 g5 p5=>?_,fun k hk=>by rw[nom']at hk;cases hk⟩
   refine XZ (n:=7) (by decide) (Yy g5 p5) (Yy (s5 _ _ gr4) (TDs.sameT px4 s5.t)) ⟨true,rfl,?_⟩
   rw[if_pos rfl];exact⟨p,d1,d2,st4,c4,m',r,xs,es,l',ws',rfl,hS4.same s5,hS4.fn,s5 _ _ gr4,TDs.sameT px4 s5.t,row,root',l6',hw',wo',by omega,fun H' _=>q H'⟩
 clear hR;walk_at "rd";intro x0 dx0 hx0 hdx0 hne0;refine⟨x0,dx0,rfl,Qa,fun d1 d2 H1 dx fs f1 f2 s1 st1=>⟨rfl,?_⟩⟩
 have S1:Qk H H1:=by rw[YD]at s1;exact ZOa hx0 hdx0 s1
 walk_at "rd";refine⟨a,ns,rfl,S1.seq hS,hl_,fun r H2 xs es s2 hr2 g2 re row up le=>⟨r,rfl,xs,.inl (SqL.of g2),fun l hl=>?_⟩⟩
 have s3:=Qh hl (.lst xs);have g3:upd H2 l (.lst xs) l=some (.lst xs):=Qa;generalize upd H2 l (.lst xs)=H3 at s3 g3 ⊢;have S13:=S1.trans (s2.trans s3);have hA3:=st1.same (s2.trans s3);have lx:=Paired.length re;have re3:=TDs.sameT re s3.t;have upk:(es.map QR).Pairwise fun a b=>Pl.ltV a b=true:=by rw[pairwise_map];exact List.Pairwise.imp (fun {a b} h=>h.2.2) up
 refine⟨x0,d1,d2,[],0,l,xs,es,rfl,hA3,g3,re3,(fun d hd=>(row d hd).ent),by omega,by simp;omega,.inl ⟨upk,fun H4 st4 c4 v4 sx4 hS4 sub4 l4 ht4=>?_⟩⟩
 exact go x0 d1 d2 r xs es v4 st4 c4 H4 hS4 ht4 (hA3.lst sx4 (s3 _ _ g2)) (TDs.sameT re3 (Jg hA3 sx4)) row up le (by simp at l4;omega) (hA3.seq sx4 (S13.seq hS))
theorem Ygc{K:W.Frag}(hl:ns.length<=63)(_:∀ i∈ns,Builtin.Int.intBits i<=2 ^ 20)(hS:SqL K H a (ns.map V.int)):JOa K [.ref a] H (fun v _=>v=.bl true) fun _ _ _=>False :=
 ⟨a,ns,rfl,hS,hl,fun _=>rfl⟩
theorem Ji{α:Type}{C:List α->Prop}(h:∀ a,C [a]):∀ us:List α,us.length=1->C us:=fun us hl=>by
 match us,hl with
 | [_],_=>exact h _
theorem Z0{α:Type}{C:List α->Prop}(h:∀ a b,C [a,b]):∀ us:List α,us.length=2->C us:=fun us hl=>by
 match us,hl with
 | [_,_],_=>exact h _ _
theorem JQa{α:Type}{C:List α->Prop}(h:∀ a b c,C [a,b,c]):∀ us:List α,us.length=3->C us:=fun us hl=>by
 match us,hl with
 | [_,_,_],_=>exact h _ _ _
theorem cq0{P:Program}{w:World}{K:W.Frag}{mg:Str->Option Value}{base h:Heap}(X:K.In h)(G:h.Ns mainGlobals mg){k:Nat}{f:Addr}{fd:FuncData}{ps:List Str}{sp:Sp}{x:Str}(F:QF P w K mg base CX0 k f fd ps sp)(b:ZQ K fd ps [])(kk:W.keepIn K (.ref f)=true)(a:W.nsIn K mainGlobals x=some (some (.ref f))):Cal P w K mg base k x ps sp:=⟨_,_,F,b,kk,W.mg_of X G a⟩
theorem cq1{P:Program}{w:World}{K:W.Frag}{mg:Str->Option Value}{base h:Heap}(X:K.In h)(G:h.Ns mainGlobals mg){k:Nat}{f:Addr}{fd:FuncData}{ps:List Str}{sp:Sp}{x:Str}(F:QF P w K mg base (CX1 P w) k f fd ps sp)(b:ZQ K fd ps [])(kk:W.keepIn K (.ref f)=true)(a:W.nsIn K mainGlobals x=some (some (.ref f))):Jha P w K mg base k x ps sp:=⟨_,_,F,b,kk,W.mg_of X G a⟩
theorem mq1{P:Program}{w:World}{K:W.Frag}{mg:Str->Option Value}{base:Heap}{k:Nat}{C f:Addr}{fd:FuncData}{ps:List Str}{sp:Sp}{m:Str}(F:QF P w K mg base (CX1 P w) k f fd ps sp)(b:ZQ K fd ps [])(a:W.findIn K (.ref C) m=some (some (.ref f)))(j:W.isFn K (.ref f)=true)(kk:W.keepIn K (.ref f)=true):MeV P w K mg base k C m sp:=⟨_,_,_,⟨a,j,kk⟩,F,b⟩
theorem Yhc{l:W.OpenLaw}{K:W.Frag}{h:Heap}{fa:Addr}(X:K.In h)(G:h.Ns mainGlobals mg)(hfa:mg "law"=some (.ref fa))
 {f1 f2 f3 f4 f5 f6 f7 f8 f9 f10 f11 f12 f13 f14 f15 f16 f17 f18 f19 f20 f21 f22 f23 f24 f25 f26 f27 f28 f29 f30 f31 f32 f33 f34 f35 f36 f37 f38 f39 f40 f41 f42 f43:Addr} {d1 d2 d3 d4 d5 d6 d7 d8 d9 d10 d11 d12 d13 d14 d15 d16 d17 d18 d19 d20 d21 d22 d23 d24 d25 d26 d27 d28 d29 d30 d31 d32 d33 d34 d35 d36 d37 d38 d39 d40 d41 d42 d43:FuncData}
 (ta:W.specialIn K (.builtin "object.__class__") "__get__"=some (some (.builtin "getset_descriptor.__get__"))) (tb:W.takesIn K (.builtin "object.__class__")=some true)
 {O0:Addr} (oa0:W.nsIn K mainGlobals "Page"=some (some (.ref O0))) (of0:W.JJ K O0 ["level","rows","heads","entries","told_by_number","number_by_told","count"]=true)
 {O1:Addr} (oa1:W.nsIn K mainGlobals "Leaf"=some (some (.ref O1))) (of1:W.JJ K O1 ["level","rows","heads","entries","told_by_number","number_by_told","count"]=true)
 (om1:W.makesIn K O1=true) (ok1:W.keepIn K (.ref O1)=true)
 {O2:Addr} (oa2:W.nsIn K mainGlobals "Twig"=some (some (.ref O2))) (of2:W.JJ K O2 ["level","rows","heads","entries","told_by_number","number_by_told","count"]=true)
 (om2:W.makesIn K O2=true) (ok2:W.keepIn K (.ref O2)=true)
 {O3:Addr} (oa3:W.nsIn K mainGlobals "Pages"=some (some (.ref O3))) (of3:W.JJ K O3 ["level","rows","heads","entries","told_by_number","number_by_told","count"]=true)
 (om3:W.makesIn K O3=true) (ok3:W.keepIn K (.ref O3)=true)
 (oo:W.X2b K [O0,O1,O2,O3] YVc=true)
 {CT:Addr} {thd:Bool} {ynm yq:Str} {yN:Addr} {ybs:List Value} {ysn:List Str} {ysub:List Value} {yab:Bool} {ycol:Option Bool} {ydd:Option Addr} {yk0 yk1 yk2 yk3 yk5:Option Value}
 (t1:W.nsIn K mainGlobals "TableError"=some (some (.ref CT))) (t2:K.lookup CT=some (excClassObj ynm yq CT yN ybs W.bmV thd ysn ysub yab ycol ydd yk0 yk1 yk2 yk3 yk5 "ValueError.__new__")) (t3:W.nsOkIn K yN=true) (t4:W.nsIn K yN "__init__"=some none) (t5:W.tailIn K W.bmV W.bmV=true)
 (t6:W.specialIn K (.ref CT) "__getattribute__"=some (some (.builtin "type.__getattribute__"))) (t7:W.readsIn K CT (.type "type")=true) (t8:W.findCls K (.ref CT) (.type "type") "__init__"=some (.val (.builtin "ValueError.__init__")))
 (t9:W.tailIn K W.bmV (.ref CT::W.bmV)=true)
 {C0:Addr} {v0nm v0q:Str} {v0N:Addr} {v0bs:List Value} {v0sn:List Str} {v0sub:List Value} {v0ab:Bool} {v0col:Option Bool} {v0dd:Option Addr} {v0k0 v0k1 v0k2 v0k3 v0k5:Option Value}
 (p0:W.nsIn K mainGlobals "NoPage"=some (some (.ref C0))) (q0:K.lookup C0=some (excClassObj v0nm v0q C0 v0N v0bs (.ref CT::W.bmV) true v0sn v0sub v0ab v0col v0dd v0k0 v0k1 v0k2 v0k3 v0k5 "ValueError.__new__")) (r0:W.nsOkIn K v0N=true) (u0:W.Q7a K C0 ["number","key"]=true)
 (o0:W.keepIn K (.ref C0)=true)
 {C1:Addr} {v1nm v1q:Str} {v1N:Addr} {v1bs:List Value} {v1sn:List Str} {v1sub:List Value} {v1ab:Bool} {v1col:Option Bool} {v1dd:Option Addr} {v1k0 v1k1 v1k2 v1k3 v1k5:Option Value}
 (p1:W.nsIn K mainGlobals "NotRising"=some (some (.ref C1))) (q1:K.lookup C1=some (excClassObj v1nm v1q C1 v1N v1bs (.ref CT::W.bmV) true v1sn v1sub v1ab v1col v1dd v1k0 v1k1 v1k2 v1k3 v1k5 "ValueError.__new__")) (r1:W.nsOkIn K v1N=true) (u1:W.Q7a K C1 ["number","key"]=true)
 (o1:W.keepIn K (.ref C1)=true)
 (tt:W.XUb K [C0,C1]=true) (tu:W.JWc K [C0,C1]=true)
 (a1:W.findIn K (.ref C1) "__init__"=some (some (.ref f1))) (j1:W.isFn K (.ref f1)=true)
 (F1:Fun K "__init__" "NotRising.__init__" Z4 f1 d1)
 (a2:W.findIn K (.ref C0) "__init__"=some (some (.ref f2))) (j2:W.isFn K (.ref f2)=true)
 (F2:Fun K "__init__" "NoPage.__init__" Ye f2 d2)
 (a3:W.nsIn K mainGlobals "mixed_first"=some (some (.ref f3)))
 (F3:Fun K "mixed_first" "mixed_first" Yf f3 d3)
 (a4_0:W.findIn K (.ref O0) "__init__"=some (some (.ref f4)))
 (j4:W.isFn K (.ref f4)=true)
 (F4:Fun K "__init__" "Page.__init__" Xy f4 d4)
 (e4:W.clI K O0 f4=true)
 (a5_0:W.findIn K (.ref O0) "told"=some (some (.ref f5)))
 (a5_1:W.findIn K (.ref O1) "told"=some (some (.ref f5)))
 (a5_2:W.findIn K (.ref O2) "told"=some (some (.ref f5)))
 (j5:W.isFn K (.ref f5)=true)
 (F5:Fun K "told" "Page.told" Xz f5 d5)
 (a6_0:W.findIn K (.ref O0) "first"=some (some (.ref f6)))
 (a6_1:W.findIn K (.ref O1) "first"=some (some (.ref f6)))
 (a6_2:W.findIn K (.ref O2) "first"=some (some (.ref f6)))
 (j6:W.isFn K (.ref f6)=true)
 (F6:Fun K "first" "Page.first" YW f6 d6)
 (a7_0:W.findIn K (.ref O0) "under"=some (some (.ref f7)))
 (a7_1:W.findIn K (.ref O1) "under"=some (some (.ref f7)))
 (j7:W.isFn K (.ref f7)=true)
 (F7:Fun K "under" "Page.under" YX f7 d7)
 (a8_1:W.findIn K (.ref O1) "spread"=some (some (.ref f8)))
 (j8:W.isFn K (.ref f8)=true)
 (F8:Fun K "spread" "Leaf.spread" Yh f8 d8)
 (a9_2:W.findIn K (.ref O2) "under"=some (some (.ref f9)))
 (j9:W.isFn K (.ref f9)=true)
 (F9:Fun K "under" "Twig.under" Jt f9 d9)
 (a10_3:W.findIn K (.ref O3) "__init__"=some (some (.ref f10)))
 (j10:W.isFn K (.ref f10)=true)
 (F10:Fun K "__init__" "Pages.__init__" YY f10 d10)
 (a11_3:W.findIn K (.ref O3) "numbers"=some (some (.ref f11)))
 (j11:W.isFn K (.ref f11)=true)
 (F11:Fun K "numbers" "Pages.numbers" Jj f11 d11)
 (a12:W.nsIn K mainGlobals "rank_of"=some (some (.ref f12)))
 (F12:Fun K "rank_of" "rank_of" Zha f12 d12)
 (a13:W.nsIn K mainGlobals "_law_cell"=some (some (.ref f13)))
 (F13:Fun K "_law_cell" "_law_cell" XA f13 d13)
 (a14:W.nsIn K mainGlobals "_law_text"=some (some (.ref f14)))
 (F14:Fun K "_law_text" "_law_text" XB f14 d14)
 (a15:W.nsIn K mainGlobals "_law_tall"=some (some (.ref f15)))
 (F15:Fun K "_law_tall" "_law_tall" XC f15 d15)
 (a16:W.nsIn K mainGlobals "_law_level"=some (some (.ref f16)))
 (F16:Fun K "_law_level" "_law_level" Y0 f16 d16)
 (a17:W.nsIn K mainGlobals "_law_cells"=some (some (.ref f17)))
 (F17:Fun K "_law_cells" "_law_cells" Y1 f17 d17)
 (a18:W.nsIn K mainGlobals "_law_risen"=some (some (.ref f18)))
 (F18:Fun K "_law_risen" "_law_risen" ZB f18 d18)
 (a19:W.nsIn K mainGlobals "mixed"=some (some (.ref f19)))
 (F19:Fun K "mixed" "mixed" Xxa f19 d19)
 (a20_1:W.findIn K (.ref O1) "__init__"=some (some (.ref f20)))
 (j20:W.isFn K (.ref f20)=true)
 (F20:Fun K "__init__" "Leaf.__init__" XD f20 d20)
 (a21_2:W.findIn K (.ref O2) "__init__"=some (some (.ref f21)))
 (j21:W.isFn K (.ref f21)=true)
 (F21:Fun K "__init__" "Twig.__init__" XE f21 d21)
 (a22_3:W.findIn K (.ref O3) "kept"=some (some (.ref f22)))
 (j22:W.isFn K (.ref f22)=true)
 (F22:Fun K "kept" "Pages.kept" Y2 f22 d22)
 (a23:W.nsIn K mainGlobals "before"=some (some (.ref f23)))
 (F23:Fun K "before" "before" Jza f23 d23)
 (a24:W.nsIn K mainGlobals "_law_key"=some (some (.ref f24)))
 (F24:Fun K "_law_key" "_law_key" Qqa f24 d24)
 (a25:W.nsIn K mainGlobals "level_of"=some (some (.ref f25)))
 (F25:Fun K "level_of" "level_of" Qra f25 d25)
 (a26_3:W.findIn K (.ref O3) "told_at"=some (some (.ref f26)))
 (j26:W.isFn K (.ref f26)=true)
 (F26:Fun K "told_at" "Pages.told_at" Jk f26 d26)
 (a27:W.nsIn K mainGlobals "_law_rows"=some (some (.ref f27)))
 (F27:Fun K "_law_rows" "_law_rows" XF f27 d27)
 (a28:W.nsIn K mainGlobals "page_of"=some (some (.ref f28)))
 (F28:Fun K "page_of" "page_of" Zja f28 d28)
 (a29_3:W.findIn K (.ref O3) "card"=some (some (.ref f29)))
 (j29:W.isFn K (.ref f29)=true)
 (F29:Fun K "card" "Pages.card" Y3 f29 d29)
 (a30_3:W.findIn K (.ref O3) "drop"=some (some (.ref f30)))
 (j30:W.isFn K (.ref f30)=true)
 (F30:Fun K "drop" "Pages.drop" Y4 f30 d30)
 (a31:W.nsIn K mainGlobals "cut"=some (some (.ref f31)))
 (F31:Fun K "cut" "cut" Qoc f31 d31)
 (a32_3:W.findIn K (.ref O3) "page"=some (some (.ref f32)))
 (j32:W.isFn K (.ref f32)=true)
 (F32:Fun K "page" "Pages.page" Y5 f32 d32)
 (a33:W.nsIn K mainGlobals "heads_of"=some (some (.ref f33)))
 (F33:Fun K "heads_of" "heads_of" Qsa f33 d33)
 (a34:W.nsIn K mainGlobals "_law_counted"=some (some (.ref f34)))
 (F34:Fun K "_law_counted" "_law_counted" Zy f34 d34)
 (a35:W.nsIn K mainGlobals "crowned"=some (some (.ref f35)))
 (F35:Fun K "crowned" "crowned" Zka f35 d35)
 (a36:W.nsIn K mainGlobals "built"=some (some (.ref f36)))
 (F36:Fun K "built" "built" XAa f36 d36)
 (a37_0:W.findIn K (.ref O0) "spread"=some (some (.ref f37)))
 (a37_2:W.findIn K (.ref O2) "spread"=some (some (.ref f37)))
 (j37:W.isFn K (.ref f37)=true)
 (F37:Fun K "spread" "Page.spread" Yk f37 d37)
 (a38:W.nsIn K mainGlobals "rows_of"=some (some (.ref f38)))
 (F38:Fun K "rows_of" "rows_of" Zla f38 d38)
 (a39:W.nsIn K mainGlobals "numbers_of"=some (some (.ref f39)))
 (F39:Fun K "numbers_of" "numbers_of" Y6 f39 d39)
 (a40:W.nsIn K mainGlobals "_law_numbers"=some (some (.ref f40)))
 (F40:Fun K "_law_numbers" "_law_numbers" JO f40 d40)
 (a41:W.nsIn K mainGlobals "_law_refused"=some (some (.ref f41)))
 (F41:Fun K "_law_refused" "_law_refused" JP f41 d41)
 (a42:W.nsIn K mainGlobals "_law_told"=some (some (.ref f42)))
 (F42:Fun K "_law_told" "_law_told" XG f42 d42)
 (a43:W.nsIn K mainGlobals "law"=some (some (.ref f43)))
 (F43:Fun K "law" "law" YSa f43 d43)
 (z1:W.nsIn K mainGlobals "int"=some none)
 (z2:W.nsIn K mainGlobals "isinstance"=some none)
 (z3:W.nsIn K mainGlobals "len"=some none)
 (z4:W.nsIn K mainGlobals "list"=some none)
 (z5:W.nsIn K mainGlobals "max"=some none)
 (z6:W.nsIn K mainGlobals "min"=some none)
 (z7:W.nsIn K mainGlobals "ord"=some none)
 (z8:W.nsIn K mainGlobals "range"=some none)
 (z9:W.nsIn K mainGlobals "set"=some none)
 (z10:W.nsIn K mainGlobals "sorted"=some none)
 (z11:W.nsIn K mainGlobals "str"=some none)
 (z12:W.nsIn K mainGlobals "tuple"=some none)
 {tk1:Tok} (g1:W.nsIn K mainGlobals "MODULUS"=some (some (.int (2147483647) tk1)))
 {tk2:Tok} (g2:W.nsIn K mainGlobals "TOP_LEVEL"=some (some (.int (6) tk2)))
 : ∃ fd:FuncData,(∀ (s:Shared) (v:Value),BindsTo s fd ⟨[v],[]⟩ [("_law_script",v)])/\∀ base:Heap,K.In base->base.Ns mainGlobals mg->QF l.prog w K mg base CX0 16 fa fd ["_law_script"] (JOa K):=by
 have e:=hfa.symm.trans (W.mg_of X G a43);cases e;have k1:=F1.kp;have b1:=F1.binds (ps:=["self","key"]) fun _ _ _ _ _ _=>Z0 fun _ _=>rfl
 have k2:=F2.kp;have b2:=F2.binds (ps:=["self","number"]) fun _ _ _ _ _ _=>Z0 fun _ _=>rfl
 have k4:=F4.kp;have b4:=F4.binds (ps:=["self","level","entries"]) fun _ _ _ _ _ _=>JQa fun _ _ _=>rfl
 have k5:=F5.kp;have b5:=F5.binds (ps:=["self"]) fun _ _ _ _ _ _=>Ji fun _=>rfl
 have k6:=F6.kp;have b6:=F6.binds (ps:=["self"]) fun _ _ _ _ _ _=>Ji fun _=>rfl
 have k7:=F7.kp;have b7:=F7.binds (ps:=["self"]) fun _ _ _ _ _ _=>Ji fun _=>rfl
 have k8:=F8.kp;have b8:=F8.binds (ps:=["self","pages"]) fun _ _ _ _ _ _=>Z0 fun _ _=>rfl
 have k9:=F9.kp;have b9:=F9.binds (ps:=["self"]) fun _ _ _ _ _ _=>Ji fun _=>rfl
 have k10:=F10.kp;have b10:=F10.binds (ps:=["self"]) fun _ _ _ _ _ _=>Ji fun _=>rfl
 have k11:=F11.kp;have b11:=F11.binds (ps:=["self"]) fun _ _ _ _ _ _=>Ji fun _=>rfl
 have k20:=F20.kp;have b20:=F20.binds (ps:=["self","rows"]) fun _ _ _ _ _ _=>Z0 fun _ _=>rfl
 have k21:=F21.kp;have b21:=F21.binds (ps:=["self","level","heads"]) fun _ _ _ _ _ _=>JQa fun _ _ _=>rfl
 have k22:=F22.kp;have b22:=F22.binds (ps:=["self","page"]) fun _ _ _ _ _ _=>Z0 fun _ _=>rfl
 have k26:=F26.kp;have b26:=F26.binds (ps:=["self","number"]) fun _ _ _ _ _ _=>Z0 fun _ _=>rfl
 have k29:=F29.kp;have b29:=F29.binds (ps:=["self","number"]) fun _ _ _ _ _ _=>Z0 fun _ _=>rfl
 have k30:=F30.kp;have b30:=F30.binds (ps:=["self","number"]) fun _ _ _ _ _ _=>Z0 fun _ _=>rfl
 have k32:=F32.kp;have b32:=F32.binds (ps:=["self","number"]) fun _ _ _ _ _ _=>Z0 fun _ _=>rfl
 have k37:=F37.kp;have b37:=F37.binds (ps:=["self","pages"]) fun _ _ _ _ _ _=>Z0 fun _ _=>rfl
 have k39:=F39.kp;have b39:=F39.binds (ps:=["pages","root"]) fun _ _ _ _ _ _=>Z0 fun _ _=>rfl
 have k40:=F40.kp;have b40:=F40.binds (ps:=["_law_pages","_law_number"]) fun _ _ _ _ _ _=>Z0 fun _ _=>rfl
 have Z:Zs mg:=⟨W.mg_none_of X G z1,W.mg_none_of X G z2,W.mg_none_of X G z3,W.mg_none_of X G z4,W.mg_none_of X G z5,W.mg_none_of X G z6,W.mg_none_of X G z7,W.mg_none_of X G z8,W.mg_none_of X G z9,W.mg_none_of X G z10,W.mg_none_of X G z11,W.mg_none_of X G z12,⟨_,W.mg_of X G g1⟩,⟨_,W.mg_of X G g2⟩⟩;have X0:W.XCl K C0 CT:=W.XCl.of ⟨v0nm,v0q,v0N,v0bs,v0sn,v0sub,v0ab,v0col,v0dd,v0k0,v0k1,v0k2,v0k3,v0k5,q0,r0⟩ t9 u0 ta tb;have X1:W.XCl K C1 CT:=W.XCl.of ⟨v1nm,v1q,v1N,v1bs,v1sn,v1sub,v1ab,v1col,v1dd,v1k0,v1k1,v1k2,v1k3,v1k5,q1,r1⟩ t9 u1 ta tb;have T:Tx K mg CT (fun i=>[C0,C1].getD i 0) (fun i=>[O0,O1,O2,O3].getD i 0):=⟨W.mg_of X G oa0,
  W.mg_of X G oa1,
  W.mg_of X G oa2,
  W.mg_of X G oa3,
  fun i hi=>match i,hi with | 0,_=>ObC.of of0 ta tb | 1,_=>ObC.of of1 ta tb | 2,_=>ObC.of of2 ta tb | 3,_=>ObC.of of3 ta tb | m+4,h=>absurd h (by omega),
  W.J0c oo,
  ⟨W.mg_of X G t1,⟨⟨ynm,yq,yN,ybs,thd,ysn,ysub,yab,ycol,ydd,yk0,yk1,yk2,yk3,yk5,t2,t3,t4⟩,t5⟩,t6,t7,t8⟩,
  W.mg_of X G p0,
  W.mg_of X G p1,
  fun i hi=>match i,hi with | 0,_=>X0 | 1,_=>X1 | m+2,h=>absurd h (by omega),
  fun i hi=>match i,hi with | 0,_=>fun f hf=>W.YJa u0 hf | 1,_=>fun f hf=>W.YJa u1 hf | m+2,h=>absurd h (by omega),
  W.Zmc tt,
  W.JXc tu⟩
 have FL:=F43;obtain⟨_,_,kV,dc,pm,an,cdv,ct,_,rfl,_,_⟩:=FL.ex;refine⟨W.fnOf "law" "law" (QCa YSa) (YL YSa) (Qi YSa) .none kV dc pm an cdv ct,fun s v=>.of_eq rfl,fun base _ _=>?_⟩
 have c0:=@cq0 l.prog w K mg base h X G;have c1:=@cq1 l.prog w K mg base h X G;have m1:=@mq1 l.prog w K mg base;have XO:MkX l.prog w K mg base 1 "NotRising" C1 CT ["key"]:=⟨_,_,_,QUa Z T F1,b1,X1,a1,j1,o1,W.mg_of X G p1⟩;have JHa:MkX l.prog w K mg base 1 "NoPage" C0 CT ["number"]:=⟨_,_,_,JAa Z T F2,b2,X0,a2,j2,o0,W.mg_of X G p0⟩;have Yqa:=c0 (JFa Z T  F3) (F3.binds fun _ _ _ _ _ _=>Ji fun _=>rfl) F3.kp a3
 have B_Page:BaI l.prog w K mg base 1 "Page" (ZX K (fun i=>[O0,O1,O2,O3].getD i 0)):=⟨O0,_,_,_,W.mg_of X G oa0,ClI.of e4,k4,XCa Z T  F4,b4⟩
 have J7:=m1 (Y7 Z T  F5) b5 a5_0 j5 k5;have ZM:=m1 (Y7 Z T  F5) b5 a5_1 j5 k5;have ZN:=m1 (Y7 Z T  F5) b5 a5_2 j5 k5;have QWa:=m1 (Yn Z T  F6) b6 a6_0 j6 k6;have Y9:=m1 (Yn Z T  F6) b6 a6_1 j6 k6;have Xa:=m1 (Yn Z T  F6) b6 a6_2 j6 k6;have Jz:=m1 (Qha Z T  F7) b7 a7_0 j7 k7;have Zm:=m1 (Qha Z T  F7) b7 a7_1 j7 k7;have QE:=m1 (JJa Z T  F8) b8 a8_1 j8 k8;have Zb:=m1 (Yka Z T  F9) b9 a9_2 j9 k9;have XOa:MkV l.prog w K mg base 1 "Pages" O3 (Ja l.prog w (fun i=>[O0,O1,O2,O3].getD i 0)):=⟨_,_,_,⟨om3,a10_3,j10,ok3⟩,Yfa Z T  F10,b10,W.mg_of X G oa3⟩
 have Jn:=m1 (Zoa Z T  F11) b11 a11_3 j11 k11;have YTb:=c0 (ZYb Z T  F12) (F12.binds fun _ _ _ _ _ _=>Ji fun _=>rfl) F12.kp a12
 have ZDa:=c0 (XHa Z T  F13) (F13.binds fun _ _ _ _ _ _=>Z0 fun _ _=>rfl) F13.kp a13
 have Q0b:=c0 (XIa Z T  F14) (F14.binds fun _ _ _ _ _ _=>Ji fun _=>rfl) F14.kp a14
 have Q1b:=c0 (XJa Z T  F15) (F15.binds fun _ _ _ _ _ _=>Ji fun _=>rfl) F15.kp a15
 have XPa:=c0 (Yla Z T  F16) (F16.binds fun _ _ _ _ _ _=>Ji fun _=>rfl) F16.kp a16
 have XQa:=c0 (Yma Z T  F17) (F17.binds fun _ _ _ _ _ _=>Ji fun _=>rfl) F17.kp a17
 have XRa:=c0 (Yna Z T  F18) (F18.binds fun _ _ _ _ _ _=>Ji fun _=>rfl) F18.kp a18
 have ZKc:=c0 (Qrc Z T Yqa F19) (F19.binds fun _ _ _ _ _ _=>Ji fun _=>rfl) F19.kp a19
 have ZXb:MkV l.prog w K mg base 2 "Leaf" O1 (Jv K (fun i=>[O0,O1,O2,O3].getD i 0)):=⟨_,_,_,⟨om1,a20_1,j20,ok1⟩,XDa Z T B_Page F20,b20,W.mg_of X G oa1⟩
 have ZWb:MkV l.prog w K mg base 2 "Twig" O2 (Jw K (fun i=>[O0,O1,O2,O3].getD i 0)):=⟨_,_,_,⟨om2,a21_2,j21,ok2⟩,XEa Z T B_Page F21,b21,W.mg_of X G oa2⟩
 have Xb:=m1 (Yha Z T J7 ZM ZN F22) b22 a22_3 j22 k22;have QFc:=c0 (YMb Z T YTb F23) (F23.binds fun _ _ _ _ _ _=>Z0 fun _ _=>rfl) F23.kp a23
 have Jbb:=c0 (QRb Z T Q0b Q1b F24) (F24.binds fun _ _ _ _ _ _=>Ji fun _=>rfl) F24.kp a24
 have Jcb:=c0 (QNb Z T ZKc F25) (F25.binds fun _ _ _ _ _ _=>Ji fun _=>rfl) F25.kp a25
 have QN:=m1 (Zma Z T JHa F26) b26 a26_3 j26 k26;have Q2b:=c0 (XKa Z T XRa ZDa XQa Jbb F27) (F27.binds fun _ _ _ _ _ _=>Ji fun _=>rfl) F27.kp a27
 have Y0a:=c0 (ZVb Z T ZWb ZXb F28) (F28.binds fun _ _ _ _ _ _=>Z0 fun _ _=>rfl) F28.kp a28
 have ZC:=m1 (Yia Z T QN F29) b29 a29_3 j29 k29;have Xh:=m1 (Yja Z T QN F30) b30 a30_3 j30 k30;have YYc:=c0 (Ydc Z T Jcb F31) (F31.binds fun _ _ _ _ _ _=>Z0 fun _ _=>rfl) F31.kp a31
 have Qs:=m1 (Yga Z T Y0a QN F32) b32 a32_3 j32 k32;have JRa:=c0 (QQb Z T YYc Y0a QWa Y9 Xa Xb F33) (F33.binds fun _ _ _ _ _ _=>JQa fun _ _ _=>rfl) F33.kp a33
 have JSa:=c0 (ZJa Z T XPa ZC F34) (F34.binds fun _ _ _ _ _ _=>JQa fun _ _ _=>rfl) F34.kp a34
 have YUb:=c0 (Z1b Z T JRa F35) (F35.binds fun _ _ _ _ _ _=>JQa fun _ _ _=>rfl) F35.kp a35
 have ZLc:=c1 (Qxc Z T YUb JRa QFc XO F36) (F36.binds fun _ _ _ _ _ _=>Z0 fun _ _=>rfl) F36.kp a36
 have QV:∀ n,MeV l.prog w K mg base (5+n) O2 "spread" (Q6 l.prog w (fun i=>[C0,C1].getD i 0) (fun i=>[O0,O1,O2,O3].getD i 0) n):=fun n=>by
  induction n with
  | zero=>exact⟨_,_,_,⟨a37_2,j37,k37⟩,Zra,b37⟩
  | succ n ih=>exact⟨_,_,_,⟨a37_2,j37,k37⟩,JLa Z T Jz Zm Zb QE Qs ih F37,b37⟩
 have Zwa:=c1 (Z9b Z T QV QE Qs F38) (F38.binds fun _ _ _ _ _ _=>Z0 fun _ _=>rfl) F38.kp a38
 have Xi:∀ n,Jha l.prog w K mg base (6+n) "numbers_of" ["pages","root"] (Zp l.prog w (fun i=>[C0,C1].getD i 0) (fun i=>[O0,O1,O2,O3].getD i 0) n):=fun n=>by
  induction n with
  | zero=>exact c1 Zra b39 k39 a39
  | succ n ih=>exact c1 (Ypa Z T Jz Zm Zb Qs ih F39) b39 k39 a39
 have JTa:∀ n,Cal l.prog w K mg base (6+n) "_law_numbers" ["_law_pages","_law_number"] (ZK l.prog w (fun i=>[C0,C1].getD i 0) (fun i=>[O0,O1,O2,O3].getD i 0) n):=fun n=>by
  induction n with
  | zero=>exact c0 Zra b40 k40 a40
  | succ n ih=>exact c0 (ZIa Z T J7 ZM ZN Qs ZC ih F40) b40 k40 a40
 have JUa:=c0 (ZKa Z T Zwa Xi Jn QV QE Qs F41) (F41.binds fun _ _ _ _ _ _=>JQa fun _ _ _=>rfl) F41.kp a41
 have Q3b:=c0 (XNa Z T Xi Zwa JTa JSa QV QE Qs F42) (F42.binds fun _ _ _ _ _ _=>JQa fun _ _ _=>rfl) F42.kp a42
 exact Yfc Z T Q2b ZLc Xi JUa Q3b Zwa ZDa XOa Xh F43
end My
namespace PySem.W.Fast
def tw13291339732689808139:Nat:=0
def tw13599464716323060545:Nat:=0
def tw17506424101870267960:Nat:=0
def tw1135735484350257048:Nat:=0
def tw1270984899751354235:Nat:=0
def tw15150013672409287020:Nat:=0
def tw18205068908009551577:Nat:=0
def tw57793616138960274:Nat:=0
def tw6221873451143048862:Nat:=0
def tw17235262141200780819:Nat:=0
def tw13563301602409925010:Nat:=0
def tw376963633410246916:Nat:=0
def tw16286536780384490264:Nat:=0
def tw13937770466308265885:Nat:=0
def tw11222224412990202761:Nat:=0
def tw6565493177845506904:Nat:=0
def tw72344986864086282:Nat:=0
def tw11184427983525888354:Nat:=0
def tw9037789511284013194:Nat:=0
def tw13927285769038054430:Nat:=0
def tw12818260408630652852:Nat:=0
def tw1249235979184458798:Nat:=0
def tw12581538544474907187:Nat:=0
def tw5563273140607876188:Nat:=0
def tw1145681756758317239:Nat:=0
def tw14861495893316055787:Nat:=0
def tw10966881034816634543:Nat:=0
def tw14778676868232490875:Nat:=0
def tw8231912503706525848:Nat:=0
def tw1469112369229547960:Nat:=0
def tw3044071708991366298:Nat:=0
def tw3675201203706498758:Nat:=0
def tw14706533692038679072:Nat:=0
def tw7090503459979922060:Nat:=0
def tw5878404374375973640:Nat:=0
def tw10615131648670212235:Nat:=0
def tw13419411042925968447:Nat:=0
def tw2052168465062848843:Nat:=0
def tw17813555727376114179:Nat:=0
def tw2808413883952973682:Nat:=0
def tw14225470757880035997:Nat:=0
def tw4124631308501825347:Nat:=0
def tw13204146838169345516:Nat:=0
def tw5794849236638783744:Nat:=0
def tw4591902230553193663:Nat:=0
def tw11854573800656699432:Nat:=0
def tw12410940819928629307:Nat:=0
def tw15414464063843561624:Nat:=0
def tw15651419399580287332:Nat:=0
def tw7027601290098699396:Nat:=0
def tw17129493244167448053:Nat:=0
def tw17542278572891780854:Nat:=0
def tw2893814317104665339:Nat:=0
def tw6609211202648837443:Nat:=0
def tw12074264794714177741:Nat:=0
def tw2921667258444404511:Nat:=0
def tw9256028539483951227:Nat:=0
def tw9457777992098145601:Nat:=0
def tw1340517436451020844:Nat:=0
def tw4327104698984130925:Nat:=0
def tw3975893980658449402:Nat:=0
def tw14386339069170374891:Nat:=0
def tw12500517276020785871:Nat:=0
def tw5251959653598585413:Nat:=0
def tw17367591523816421484:Nat:=0
def tw11864469881994119724:Nat:=0
def tw4273010055858236468:Nat:=0
def tw10480232019314217834:Nat:=0
def tw1403548901572047390:Nat:=0
def tw9638132461561700490:Nat:=0
def tw5437653403845557616:Nat:=0
def tw14248945450422566820:Nat:=0
def tw10059957521199621485:Nat:=0
def tw3247282420480825787:Nat:=0
def tw14349496560571493718:Nat:=0
def tw4028625124417658399:Nat:=0
def tw9247150540170323882:Nat:=0
def tw11463269334492497177:Nat:=0
def tw15197074108938902353:Nat:=0
def tw5089875668962737392:Nat:=0
def tw1445660269654030808:Nat:=0
def tw10784930995395769421:Nat:=0
def tw10518214134004744148:Nat:=0
def tw64911288877829996:Nat:=0
def tw16209646053028930553:Nat:=0
def tw14645785488213992301:Nat:=0
def tw8790741456342782033:Nat:=0
def tw14906699066509748448:Nat:=0
def tw17595977911092031329:Nat:=0
def tw12958580914863916828:Nat:=0
def tw7603160035895450213:Nat:=0
def tw11703883681131093388:Nat:=0
def tw9747062673148273186:Nat:=0
def tw6623063756994007054:Nat:=0
def tw16682102935570584667:Nat:=0
def tw6421037166987231061:Nat:=0
def tw1927844116362178655:Nat:=0
def tw2069327953425386318:Nat:=0
def tw12831678812663261192:Nat:=0
def tw10161772287343196167:Nat:=0
def tw851028792127397023:Nat:=0
def tw2324515892897080800:Nat:=0
def tw3203507940964373812:Nat:=0
def tw4499913567202834412:Nat:=0
def tw295761742211430866:Nat:=0
def tw898437594410176493:Nat:=0
def tw9950838541163164724:Nat:=0
def tw7603956836446544991:Nat:=0
def tw1788272966157163836:Nat:=0
def tw12554922704792574177:Nat:=0
def tw11864632583135965835:Nat:=0
def tw3086747001656088929:Nat:=0
def tw11197802762820382701:Nat:=0
def tw5879166378545516511:Nat:=0
def tw14533460283190310233:Nat:=0
def tw899811925137439872:Nat:=0
def tw17520108037566837968:Nat:=0
def tw4065185059324191510:Nat:=0
def tw3949014252689310340:Nat:=0
def tw15739780004059792635:Nat:=0
def tw15570552565049020167:Nat:=0
def tw6416745060408674298:Nat:=0
def tw4576074714257600088:Nat:=0
def tw1980918928914238109:Nat:=0
def tw15732395478854032115:Nat:=0
def tw2329459125311305291:Nat:=0
def tw15598801012395797499:Nat:=0
def tw2614653266698429428:Nat:=0
def tw16193118006824016737:Nat:=0
def tw18113170707755269786:Nat:=0
def tw14615168956306079045:Nat:=0
def tw1662458763138289003:Nat:=0
def tw16663243106018650748:Nat:=0
def tw14865005725641897827:Nat:=0
def tw8806373362826261896:Nat:=0
def tw15886447797025210108:Nat:=0
def tw11580644985798952940:Nat:=0
def tw12283881243924118466:Nat:=0
def tw8735987720291403991:Nat:=0
def tw1087396537125034924:Nat:=0
def tw11489219518815048251:Nat:=0
def tw17375355150062467897:Nat:=0
def tw18418970166091252150:Nat:=0
def tw13433631362553396101:Nat:=0
def tw10810503104846058901:Nat:=0
def tw4198028841409530015:Nat:=0
def tw13773311704322885965:Nat:=0
def tw15586038346287788117:Nat:=0
def tw11658330755978411601:Nat:=0
def tw5804116662001959585:Nat:=0
def tw3424168395640746921:Nat:=0
def tw4051684292733518117:Nat:=0
def tw18298821757686125074:Nat:=0
def tw7444154085090796962:Nat:=0
def tw14131596471596984210:Nat:=0
def tw15589742835279365526:Nat:=0
def tw7910023747431441395:Nat:=0
def tw997666180371084910:Nat:=0
def tw9384857910225395319:Nat:=0
def tw17111980722116243914:Nat:=0
def tw7844691268735980948:Nat:=0
def tw4784428165795165903:Nat:=0
def tw14043040169938266914:Nat:=0
def tw1812794539276782835:Nat:=0
def tw4680593670402887535:Nat:=0
def tw17435090020843466172:Nat:=0
def tw2461122833780975804:Nat:=0
def tw16680012827398445229:Nat:=0
def tw4675935431012181071:Nat:=0
def tw5734005385784166058:Nat:=0
def tw9878196548282402205:Nat:=0
def tw12461725220343853243:Nat:=0
def tw18335177969325747892:Nat:=0
def tw12282659745225132021:Nat:=0
def tw13874094878737311749:Nat:=0
def tw13480367796309135822:Nat:=0
def tw5115674831551722459:Nat:=0
def tw6462052095744262121:Nat:=0
def tw7879875964485350718:Nat:=0
def tw17410287546684001156:Nat:=0
def tw1332697511934445137:Nat:=0
def tw1313346367796071198:Nat:=0
def tw12106224610977569221:Nat:=0
def tw151421324967706417:Nat:=0
def tw15335619891222946247:Nat:=0
def tw16271610739058429165:Nat:=0
def tw15971482757370657909:Nat:=0
def tw4316518618672404528:Nat:=0
def tw5399328681701516450:Nat:=0
def tw14633298195719484068:Nat:=0
def tw12505963216375490488:Nat:=0
def tw17539385554651306242:Nat:=0
def tw9731596688942787789:Nat:=0
def tw15417859582501238196:Nat:=0
def tw6095027736721691196:Nat:=0
def tw11751845015271465507:Nat:=0
def tw9431801907855285880:Nat:=0
def tw7849817698756571670:Nat:=0
def tw8856098096498957203:Nat:=0
def tw13021197157948130959:Nat:=0
def tw10179634382056301356:Nat:=0
def tw3266033219922065746:Nat:=0
def tw3833279780388725658:Nat:=0
def tw2118102193236838061:Nat:=0
def tw15086563037949626688:Nat:=0
def tw379414098161958798:Nat:=0
def tw17290942481096325699:Nat:=0
def tw18295239510575293307:Nat:=0
def tw8293445718810214342:Nat:=0
def tw10400616679358890753:Nat:=0
def tw6994292415879296941:Nat:=0
def tw18197479053940837591:Nat:=0
def tw355479494447241720:Nat:=0
def tw9587952434457039641:Nat:=0
def tw7879931552433810495:Nat:=0
def tw9394946163489581234:Nat:=0
def tw8869005816395744946:Nat:=0
def tw4403383829618054948:Nat:=0
def tw9192099420897654048:Nat:=0
def tw11566863369819958355:Nat:=0
def tw6635602519257234333:Nat:=0
def tw2607014132543388182:Nat:=0
def tw17712893393754480452:Nat:=0
def tw10896922830793106049:Nat:=0
def tw9339874029876255118:Nat:=0
def tw10321639828534291080:Nat:=0
def tw2183322556384143445:Nat:=0
def tw5818521466673160486:Nat:=0
def tw4716096648929104591:Nat:=0
def tw4679687576238085202:Nat:=0
def tw16641244971428380236:Nat:=0
def tw10823527536675524324:Nat:=0
def tw13330603386282066994:Nat:=0
def tw8913806924618428705:Nat:=0
def tw5332974549955021517:Nat:=0
def tw7549698686922567614:Nat:=0
def tw16305495565061256196:Nat:=0
def tw7679041949950988973:Nat:=0
def tw8122469015342509651:Nat:=0
def tw3274415496723357286:Nat:=0
def tw15154612701480908582:Nat:=0
def tw2367512561521344114:Nat:=0
def tw3896121405054757798:Nat:=0
def tw5275057353033582140:Nat:=0
def tw939872880630258169:Nat:=0
def tw3715871463809613025:Nat:=0
def tw4984759272690665354:Nat:=0
def tw7859701832961166739:Nat:=0
def tw1071017231655644031:Nat:=0
def tw5448919773313474095:Nat:=0
def tw9620371802593874748:Nat:=0
def tw6645484332461138586:Nat:=0
def tw14768517502695693019:Nat:=0
def tw10526658815571249584:Nat:=0
def tw13689152933958478333:Nat:=0
def tw14518342441611004124:Nat:=0
def tw12233425510888209350:Nat:=0
def tw14105993043875703708:Nat:=0
def tw4687023264380565969:Nat:=0
end PySem.W.Fast
open PySem PySem.W PyProof.Rows
local macro_rules | `(tactic| walk_at "fn") => `(tactic| exact L2.Jxc (by k_is) (by k_is) (by k_is))
set_option maxRecDepth 100000 in
set_option maxHeartbeats 0 in
theorem PySem.Challenge.cw_twigtable_k17_rows_and_numbers_holds : PySem.Challenge.rw_twigtable_k17_rows_and_numbers.Holds := by
 w_on;o_law;k_head;(case hw=>w_witness2)
 k_fill
 refine L2.Xxb (l:=PySem.Challenge.rw_twigtable_k17_rows_and_numbers) (n:=63) (k:=16) (x:="_law_script") (CX:=fun _=>L2.CX0) (sp:=My.JOa) rfl (by decide) rfl ⟨rfl,by decide,by decide⟩ (fun w h Y=>W.kIn_of Y) ?F ?S ?C
 case F =>
  intro w mg fa h KX G hmg;refine' My.Yhc KX G hmg ?ta ?tb ?oa0 ?of0 ?oa1 ?of1 ?om1 ?ok1 ?oa2 ?of2 ?om2 ?ok2 ?oa3 ?of3 ?om3 ?ok3 ?oo ?t1 ?t2 ?t3 ?t4 ?t5 ?t6 ?t7 ?t8 ?t9 ?p0 ?q0 ?r0 ?u0 ?o0 ?p1 ?q1 ?r1 ?u1 ?o1 ?tt ?tu ?a1 ?j1 ?F1 ?a2 ?j2 ?F2 ?a3 ?F3 ?a4_0 ?j4 ?F4 ?e4 ?a5_0 ?a5_1 ?a5_2 ?j5 ?F5 ?a6_0 ?a6_1 ?a6_2 ?j6 ?F6 ?a7_0 ?a7_1 ?j7 ?F7 ?a8_1 ?j8 ?F8 ?a9_2 ?j9 ?F9 ?a10_3 ?j10 ?F10 ?a11_3 ?j11 ?F11 ?a12 ?F12 ?a13 ?F13 ?a14 ?F14 ?a15 ?F15 ?a16 ?F16 ?a17 ?F17 ?a18 ?F18 ?a19 ?F19 ?a20_1 ?j20 ?F20 ?a21_2 ?j21 ?F21 ?a22_3 ?j22 ?F22 ?a23 ?F23 ?a24 ?F24 ?a25 ?F25 ?a26_3 ?j26 ?F26 ?a27 ?F27 ?a28 ?F28 ?a29_3 ?j29 ?F29 ?a30_3 ?j30 ?F30 ?a31 ?F31 ?a32_3 ?j32 ?F32 ?a33 ?F33 ?a34 ?F34 ?a35 ?F35 ?a36 ?F36 ?a37_0 ?a37_2 ?j37 ?F37 ?a38 ?F38 ?a39 ?F39 ?a40 ?F40 ?a41 ?F41 ?a42 ?F42 ?a43 ?F43 ?z1 ?z2 ?z3 ?z4 ?z5 ?z6 ?z7 ?z8 ?z9 ?z10 ?z11 ?z12 ?g1 ?g2
  (case ta=>(first | rfl | kernel_rfl | decide +kernel))
  (case tb=>(first | rfl | kernel_rfl | decide +kernel))
  (case oa0=>k_is)
  (case of0=>(first | rfl | kernel_rfl | decide +kernel))
  (case oa1=>k_is)
  (case of1=>(first | rfl | kernel_rfl | decide +kernel))
  (case om1|ok1|oa2=>k_is)
  (case of2=>(first | rfl | kernel_rfl | decide +kernel))
  (case om2|ok2|oa3=>k_is)
  (case of3=>(first | rfl | kernel_rfl | decide +kernel))
  (case om3|ok3=>k_is)
  (case oo=>(first | rfl | kernel_rfl | decide +kernel))
  (case t1|t2=>k_is)
  (case t3=>(first | rfl | kernel_rfl | decide +kernel))
  (case t4=>(first | rfl | kernel_rfl | decide +kernel))
  (case t5=>(first | rfl | kernel_rfl | decide +kernel))
  (case t6=>(first | rfl | kernel_rfl | decide +kernel))
  (case t7=>(first | rfl | kernel_rfl | decide +kernel))
  (case t8=>(first | rfl | kernel_rfl | decide +kernel))
  (case t9=>(first | rfl | kernel_rfl | decide +kernel))
  (case p0|q0=>k_is)
  (case r0=>(first | rfl | kernel_rfl | decide +kernel))
  (case u0=>(first | rfl | kernel_rfl | decide +kernel))
  (case o0|p1|q1=>k_is)
  (case r1=>(first | rfl | kernel_rfl | decide +kernel))
  (case u1=>(first | rfl | kernel_rfl | decide +kernel))
  (case o1=>k_is)
  (case tt=>(first | rfl | kernel_rfl | decide +kernel))
  (case tu=>(first | rfl | kernel_rfl | decide +kernel))
  (case a1|j1|a2|j2|a3|a4_0|j4=>k_is)
  (case e4=>(first | rfl | kernel_rfl | decide +kernel))
  (case a5_0|a5_1|a5_2|j5|a6_0|a6_1|a6_2|j6|a7_0|a7_1|j7|a8_1|j8|a9_2|j9|a10_3|j10|a11_3|j11|a12|a13|a14|a15|a16|a17|a18|a19|a20_1|j20|a21_2|j21|a22_3|j22|a23|a24|a25|a26_3|j26|a27|a28|a29_3|j29|a30_3|j30|a31|a32_3|j32|a33|a34|a35|a36|a37_0|a37_2|j37|a38|a39|a40|a41|a42|a43|z1|z2|z3|z4|z5|z6|z7|z8|z9|z10|z11|z12|g1|g2=>k_is)
  (case F1 | F2 | F3 | F4 | F5 | F6 | F7 | F8 | F9 | F10 | F11 | F12 | F13 | F14 | F15 | F16 | F17 | F18 | F19 | F20 | F21 | F22 | F23 | F24 | F25 | F26 | F27 | F28 | F29 | F30 | F31 | F32 | F33 | F34 | F35 | F36 | F37 | F38 | F39 | F40 | F41 | F42 | F43=>walk_at "fn")
 case S=>exact fun w H a ns hl hb hO hS=>My.Ygc hl hb hS
 case C=>exact fun _ _ _ _ _ z=>z
end
