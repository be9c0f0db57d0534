import PyProof.Rows.All
import Wide.All
import OpenK.AllK
import Wide.FinOn
import Lean
import PyProof.EqAt
import PyProof.EqKinds
import PyProof.TupleCall
import PyProof.NeKinds
import PyProof.StrOps2
import PySem.Challenge.RW_twigtable_k41_makes_kept
set_option Elab.async false
set_option linter.all false
set_option maxRecDepth 100000
set_option maxHeartbeats 4000000
section
namespace L2
open PySem PySem.Spec PyProof.Rows
abbrev Key:=Sum Int Str
def keyIs:Key->Value->Bool
 | .inl k,v=>Value.isInt k v
 | .inr x,v=>Value.isStrOf x v
def keyH(w:World):Key->Int
 | .inl k=>hashInt k
 | .inr x=>hashStr w x
theorem keyIs_shape:∀ {k:Key} {v:Value},keyIs k v=true->(∃ i t,k=Sum.inl i/\v=Value.int i t)\/(∃ x t,k=Sum.inr x/\v=Value.str x t)
 | .inl i,v,h=>by
  obtain⟨t,e⟩:=Value.isInt_shape (k:=i) (v:=v) h
  exact .inl ⟨i,t,rfl,e⟩
 | .inr x,v,h=>by
  obtain⟨t,e⟩:=Value.isStrOf_shape (x:=x) (v:=v) h
  exact .inr ⟨x,t,rfl,e⟩
theorem keyIs_int(i:Int)(t:Tok):keyIs (.inl i) (.int i t)=true:=by simp[keyIs,Value.isInt]
theorem keyIs_str(x:Str)(t:Tok):keyIs (.inr x) (.str x t)=true:=by simp[keyIs,Value.isStrOf]
theorem key_ll(a b:Int):decide ((Sum.inl a:Key)=Sum.inl b)=(a == b):=by
 by_cases e:a=b
 ·subst e;simp
 ·have h:¬ (Sum.inl a:Key)=Sum.inl b:=fun q=>e (Sum.inl.inj q)
  rw[decide_eq_false h]
  exact(beq_eq_false_iff_ne.mpr e).symm
theorem key_rr(a b:Str):decide ((Sum.inr a:Key)=Sum.inr b)=decide (a=b):=by
 by_cases e:a=b
 ·subst e;simp
 ·have h:¬ (Sum.inr a:Key)=Sum.inr b:=fun q=>e (Sum.inr.inj q)
  rw[decide_eq_false h,decide_eq_false e]
theorem key_lr(a:Int)(b:Str):decide ((Sum.inl a:Key)=Sum.inr b)=false:=decide_eq_false (fun q=>nomatch q)
theorem key_rl(a:Str)(b:Int):decide ((Sum.inr a:Key)=Sum.inl b)=false:=decide_eq_false (fun q=>nomatch q)
def mixKind(prog:Program)(w:World):PySem.KeyKind prog w Key where
 is:=keyIs
 hash:=keyH w
 inj:=fun v a b ha hb=>by
  rcases keyIs_shape ha with ⟨i,t,rfl,rfl⟩ | ⟨x,t,rfl,rfl⟩
  ·rcases keyIs_shape hb with ⟨j,u,rfl,e⟩ | ⟨y,u,rfl,e⟩
   ·injection e with e1 _;rw[e1]
   ·exact nomatch e
  ·rcases keyIs_shape hb with ⟨j,u,rfl,e⟩ | ⟨y,u,rfl,e⟩
   ·exact nomatch e
   ·injection e with e1 _;rw[e1]
 byValue:=fun k v h=>by
  rcases keyIs_shape h with ⟨i,t,rfl,rfl⟩ | ⟨x,t,rfl,rfl⟩ <;> rfl
 pyHash:=fun hv h=>by
  rcases keyIs_shape hv with ⟨i,t,rfl,rfl⟩ | ⟨x,t,rfl,rfl⟩
  ·exact wpAny_pyHash_int h
  ·exact wpAny_pyHash_str h
 eqBool:=fun hu hv h=>by
  rcases keyIs_shape hu with ⟨i,t,rfl,rfl⟩ | ⟨x,t,rfl,rfl⟩
  ·rcases keyIs_shape hv with ⟨j,u,rfl,rfl⟩ | ⟨y,u,rfl,rfl⟩
   ·rw[key_ll]at h;exact wpAny_eqBool_int h
   ·rw[key_lr]at h;exact SeqAt.EqAt.int_str i t y u _ _ _ _ h
  ·rcases keyIs_shape hv with ⟨j,u,rfl,rfl⟩ | ⟨y,u,rfl,rfl⟩
   ·rw[key_rl]at h;exact SeqAt.EqAt.str_int x t j u _ _ _ _ h
   ·rw[key_rr]at h;exact wpAny_eqBool_str h
 «strs»:=fun k x t v h=>by
  rcases keyIs_shape h with ⟨i,u,rfl,e⟩ | ⟨y,u,rfl,e⟩
  ·exact nomatch e
  ·injection e with e1 _
   subst e1
   cases v <;> rfl
theorem mixKind_int(prog:Program)(w:World)(i:Int)(t:Tok):(mixKind prog w).is (.inl i) (.int i t)=true:=keyIs_int i t
theorem mixKind_str(prog:Program)(w:World)(x:Str)(t:Tok):(mixKind prog w).is (.inr x) (.str x t)=true:=keyIs_str x t
end L2
namespace L2
open PySem PySem.Spec PyProof.Rows
inductive V where
 | non | bl (b:Bool) | int (i:Int) | str (x:Str) | byt (b:Array UInt8) | flt (b:UInt64) | ref (a:Addr) | ty (n:String)
 deriving DecidableEq
def RelV:V->Value->Prop
 | .non,u=>u=Value.none
 | .bl b,u=>u=Value.bool b
 | .int i,u=>∃ t,u=Value.int i t
 | .str x,u=>∃ t,u=Value.str x t
 | .byt b,u=>∃ t,u=Value.bytes b t
 | .flt b,u=>∃ t,u=Value.float b t
 | .ref a,u=>u=Value.ref a
 | .ty n,u=>u=Value.type n
abbrev Vals:List V->List Value->Prop:=Paired RelV
theorem Vals.length{xs:List V}{us:List Value}(r:Vals xs us):xs.length=us.length:=Paired.length r
theorem Vals.get:∀ {xs:List V} {us:List Value} {i:Nat} {x:V},Vals xs us->xs[i]?=some x->∃ u,us[i]?=some u/\RelV x u
 | _,_,_,_,.nil,e=>by simp at e
 | _,_,0,_,.cons r _,e=>by simp at e;subst e;exact⟨_,rfl,r⟩
 | _,_,i+1,x,.cons _ t,e=>by
  obtain⟨u,h1,h2⟩:=Vals.get (i:=i) (x:=x) t (by simpa using e)
  exact⟨u,by simpa using h1,h2⟩
theorem Vals.append:∀ {xs ys:List V} {us ws:List Value},Vals xs us->Vals ys ws->Vals (xs++ys) (us++ws)
 | _,_,_,_,.nil,s=>s
 | _,_,_,_,.cons r t,s=>.cons r (Vals.append t s)
theorem Vals.take:∀ {xs:List V} {us:List Value} (n:Nat),Vals xs us->Vals (xs.take n) (us.take n)
 | _,_,0,_=>.nil
 | _,_,_+1,.nil=>.nil
 | _,_,n+1,.cons r t=>.cons r (Vals.take n t)
theorem Vals.drop:∀ {xs:List V} {us:List Value} (n:Nat),Vals xs us->Vals (xs.drop n) (us.drop n)
 | _,_,0,r=>r
 | _,_,_+1,.nil=>.nil
 | _,_,n+1,.cons _ t=>Vals.drop n t
theorem Vals.none_of:∀ {xs:List V} {us:List Value} {i:Nat},Vals xs us->xs[i]?=none->us[i]?=none:=fun {xs us i} r e=>by
 have h1:=r.length
 have h2:xs.length<=i:=List.getElem?_eq_none_iff.mp e
 exact List.getElem?_eq_none_iff.mpr (by omega)
def RelO:Option V->Option Value->Prop
 | some v,some u=>RelV v u
 | none,none=>True
 | _,_=>False
def KV{κ:Type}:List (κ×V)->List (κ×Value)->Prop:=Paired fun(p:κ×V) (q:κ×Value)=>p.1=q.1/\RelV p.2 q.2
def kV:Key->V
 | .inl i=>.int i
 | .inr x=>.str x
inductive HO where
 | lst (xs:List V)
 | tup (xs:List V)
 | dK (kvs:List (Key×V)) | dT (kvs:List (List Key×V))
 | set (S:Int->Bool) (n:Nat)
 | ins (C dx:Addr) (fs:List (Str×V))
 | own (x:Addr)
 | xd (fs:List (Str×V))
 | met (f x:Addr)
 | rng (lo hi:Int)
 | frz (o:Obj) (u:HO)
 | tbl (ps:Array Value)
 | ext (φ:Heap->Prop)
abbrev Hp:=Addr->Option HO
def upd(H:Hp)(a:Addr)(o:HO):Hp:=fun b=>if b=a then some o else H b
theorem upd_same{H:Hp}{a:Addr}{o:HO}:upd H a o a=some o:=by unfold upd;rw[if_pos rfl]
theorem upd_ne{H:Hp}{a b:Addr}{o:HO}(h:b≠a):upd H a o b=H b:=by unfold upd;rw[if_neg h]
theorem upd_upd{H:Hp}{a:Addr}{o u:HO}:upd (upd H a o) a u=upd H a u:=by
 funext b;unfold upd;split <;> rfl
theorem ne_of{H:Hp}{a b:Addr}{o u:HO}(h:H a=some o)(h':H b=some u)(d:o≠u):a≠b:=by
 intro e;subst e;rw[h]at h';exact d (Option.some.inj h')
theorem ne_of_none{H:Hp}{a b:Addr}{o:HO}(h:H a=some o)(h':H b=none):a≠b:=by
 intro e;subst e;rw[h]at h';cases h'
section
variable(P:Program)(w:World)
def ObjOk(H:Hp)(h:Heap)(a:Addr):HO->Prop
 | .lst xs=>xs.length<=sizeLine/\∃ (its:List Value) (n:Nat),Vals xs its/\h.get? a=some { cls:=.type "list",data:=.seq its.toArray n }
 | .tup xs=>(xs.length<=sizeLine/\∃ o,h.get? a=some o/\o.dict=none)/\∃ its:List Value,Vals xs its/\IsTup h a its.toArray
 | .dK kvs=>kvs.length<=sizeLine/\(a == sysModules)=false/\∃ vs,KV kvs vs/\h.DictOf (mixKind P w) a vs
 | .dT kvs=>kvs.length<=sizeLine/\(a == sysModules)=false/\∃ xs:List (List Key×Addr×Value),
  Paired (fun(p:List Key×V) (q:List Key×Addr×Value)=>p.1=q.1/\H q.2.1=some (.tup (p.1.map kV))/\RelV p.2 q.2.2) kvs xs /\
  ∃ o es ep,h.get? a=some o/\o.ExactDict/\o.data=.dict es ep/\es.toList=xs.map (entryOfKey (tupleKind (mixKind P w)))/\(xs.map (·.1)).Nodup
 | .set S n=>h.SetOf (intKind P w) a S n
 | .ins C dx fs=>H dx=some (.own a)/\fs.length<=1000/\dx≠a/\h.get? a=some (PySem.W.instObj C dx) /\
  ∃ mA,h.Ns1 dx mA/\(∀ f,RelO (fs.lookup f) (mA f))/\PySem.Within mA (fs.map (·.1))
 | .own _=>∃ o,h.get? a=some o
 | .xd fs=>∃ mA,h.Ns1 a mA/\∀ f,RelO (fs.lookup f) (mA f)
 | .rng lo hi=>∃ t u v,h.get? a=some { cls:=.type "range",data:=.fields #[.int lo t,.int hi u,.int 1 v] }
 | .frz o u=>h.get? a=some o/\ObjOk H h a u
 | .tbl ps=>h.get? a=some { cls:=.none,data:=.fields ps }
 | .met f x=>h.get? a=some (PySem.W.methodObj (.ref f) (.ref x))
 | .ext φ=>φ h/\(∃ o,h.get? a=some o)/\∀ h1 h2:Heap,φ h1->(∀ o,h1.get? a=some o->h2.get? a=some o)->φ h2
def HOk(H:Hp)(h:Heap):Prop:=∀ a o,H a=some o->ObjOk P w H h a o
end
section
variable{P:Program}{w:World}{H H':Hp}{h h':Heap}{a:Addr}{o:HO}
theorem ObjOk.lt(x:ObjOk P w H h a o):a < h.objs.size:=by
 cases o with
 | lst xs=>obtain⟨_,_,_,_,e⟩:=x;exact Heap.lt_size e
 | tup xs=>obtain⟨_,_,_,p⟩:=x;exact p.lt
 | dK kvs=>obtain⟨_,_,_,_,o,_,_,e,_⟩:=x;exact Heap.lt_size e
 | dT kvs=>obtain⟨_,_,_,_,o,_,_,e,_⟩:=x;exact Heap.lt_size e
 | set S n=>obtain⟨o,_,_,_,e,_⟩:=x;exact Heap.lt_size e
 | ins C dx fs=>obtain⟨_,_,_,e,_⟩:=x;exact Heap.lt_size e
 | own y=>obtain⟨_,e⟩:=x;exact Heap.lt_size e
 | xd fs=>obtain⟨_,⟨_,_,_,e,_⟩,_⟩:=x;exact Heap.lt_size e
 | rng lo hi=>obtain⟨_,_,_,e⟩:=x;exact Heap.lt_size e
 | frz ob u=>obtain⟨e,_⟩:=x;exact Heap.lt_size e
 | tbl ps=>exact Heap.lt_size (show h.get? a=some _ from x)
 | met f y=>exact Heap.lt_size (show h.get? a=some _ from x)
 | ext φ=>obtain⟨_,⟨_,e⟩,_⟩:=x;exact Heap.lt_size e
theorem Paired.mapP{α β:Type}{F G:α->β->Prop}:∀ {l₁:List α} {l₂:List β},Paired F l₁ l₂->(∀ a b,F a b->G a b)->Paired G l₁ l₂
 | _,_,.nil,_=>.nil
 | _,_,.cons r t,f=>.cons (f _ _ r) (Paired.mapP t f)
theorem ObjOk.stay(x:ObjOk P w H h a o)(k:∀ b u,(b=a\/H b=some (.own a))->h.get? b=some u->h'.get? b=some u)
 (ho:∀ b,H b=some (.own a)->H' b=some (.own a)) (ht:∀ b xs,H b=some (.tup xs)->H' b=some (.tup xs)):ObjOk P w H' h' a o:=by
 induction o with
 | lst xs=>obtain⟨z,its,n,r,e⟩:=x;exact⟨z,its,n,r,k _ _ (.inl rfl) e⟩
 | tup xs=>obtain⟨⟨z,o1,e1,d1⟩,its,r,ob,e,c⟩:=x;exact⟨⟨z,o1,k _ _ (.inl rfl) e1,d1⟩,its,r,ob,k _ _ (.inl rfl) e,c⟩
 | dK kvs=>obtain⟨z,y,vs,r,ob,es,ep,e,c⟩:=x;exact⟨z,y,vs,r,ob,es,ep,k _ _ (.inl rfl) e,c⟩
 | dT kvs =>
  obtain⟨z,y,xs,r,ob,es,ep,e,c⟩:=x
  exact⟨z,y,xs,Paired.mapP r fun p q z=>⟨z.1,ht _ _ z.2.1,z.2.2⟩,ob,es,ep,k _ _ (.inl rfl) e,c⟩
 | set S n=>obtain⟨ob,es,ep,t,e,c⟩:=x;exact⟨ob,es,ep,t,k _ _ (.inl rfl) e,c⟩
 | ins C dx fs =>
  obtain⟨d,z,ne,e,mA,⟨od,es,ep,e2,c⟩,r⟩:=x
  exact⟨ho _ d,z,ne,k _ _ (.inl rfl) e,mA,⟨od,es,ep,k _ _ (.inr d) e2,c⟩,r⟩
 | own y=>obtain⟨ob,e⟩:=x;exact⟨ob,k _ _ (.inl rfl) e⟩
 | xd fs=>obtain⟨mA,⟨od,es,ep,e,c⟩,r⟩:=x;exact⟨mA,⟨od,es,ep,k _ _ (.inl rfl) e,c⟩,r⟩
 | rng lo hi=>obtain⟨t,u,v,e⟩:=x;exact⟨t,u,v,k _ _ (.inl rfl) e⟩
 | frz ob u ih=>obtain⟨e,q⟩:=x;exact⟨k _ _ (.inl rfl) e,ih q⟩
 | tbl ps =>
  have e:h.get? a=some { cls:=.none,data:=.fields ps }:=x
  show h'.get? a=some { cls:=.none,data:=.fields ps }
  exact k a _ (.inl rfl) e
 | met f y =>
  have e:h.get? a=some (PySem.W.methodObj (.ref f) (.ref y)):=x
  show h'.get? a=some (PySem.W.methodObj (.ref f) (.ref y))
  exact k a _ (.inl rfl) e
 | ext φ=>obtain⟨p,⟨o,e⟩,st⟩:=x;exact⟨st _ _ p fun o q=>k _ _ (.inl rfl) q,⟨o,k _ _ (.inl rfl) e⟩,st⟩
theorem HOk.lt(x:HOk P w H h)(e:H a=some o):a < h.objs.size:=(x a o e).lt
theorem HOk.fresh(x:HOk P w H h)(e:h.objs.size<=a):H a=none:=by
 cases q:H a with
 | none=>rfl
 | some u=>exact absurd (Nat.lt_of_lt_of_le (x.lt q) e) (Nat.lt_irrefl _)
theorem HOk.kept(x:HOk P w H h)(k:∀ b u,h.get? b=some u->h'.get? b=some u):HOk P w H h':=fun a o e =>
 (x a o e).stay (fun b u _ q=>k b u q) (fun _ q=>q) fun _ _ q=>q
theorem HOk.laid(x:HOk P w H h)(k:∀ b u,h.get? b=some u->h'.get? b=some u)(hp:h.objs.size<=a)(new:ObjOk P w (upd H a o) h' a o):HOk P w (upd H a o) h':=fun b u e=>by
 have hn:=x.fresh hp
 by_cases hb:b=a
 ·subst hb;rw[upd_same]at e;cases e;exact new
 ·rw[upd_ne hb]at e
  exact(x b u e).stay (fun c v _ q=>k c v q) (fun c q=>by rw[upd_ne (ne_of_none q hn)];exact q) fun c xs q=>by rw[upd_ne (ne_of_none q hn)];exact q
end
def Rd(H:Hp)(a:Addr)(u:HO):Prop:=H a=some u\/∃ o,H a=some (.frz o u)
theorem Rd.ok{P:Program}{w:World}{H:Hp}{h:Heap}{a:Addr}{u:HO}(r:Rd H a u)(x:HOk P w H h):ObjOk P w H h a u:=by
 rcases r with r | ⟨o,r⟩
 ·exact x a u r
 ·obtain⟨_,q⟩:=x a _ r
  exact q
def Mut:Option HO->Prop
 | some (.lst _)=>True
 | some (.dK _)=>True
 | some (.dT _)=>True
 | some (.set _ _)=>True
 | some (.ins _ _ _)=>True
 | some (.ext _)=>True
 | _=>False
section
variable{P:Program}{w:World}{H:Hp}{h h':Heap}{x e:Addr}{o':HO}
theorem HOk.write(ok:HOk P w H h)(mu:Mut (H x))(he:e=x\/H e=some (.own x))(k:∀ b u,b≠e->h.get? b=some u->h'.get? b=some u)(heo:∃ u,h'.get? e=some u)
 (new:ObjOk P w (upd H x o') h' x o'):HOk P w (upd H x o') h':=fun b u q=>by
 have nown:∀ c y,H c=some (.own y)->c≠x:=fun c y r z=>by subst z;rw[r]at mu;exact mu
 have ntup:∀ c xs,H c=some (.tup xs)->c≠x:=fun c xs r z=>by subst z;rw[r]at mu;exact mu
 by_cases hb:b=x
 ·subst hb;rw[upd_same]at q;cases q;exact new
 ·rw[upd_ne hb]at q
  by_cases hbe:b=e
  ·have q':H b=some (.own x):=by
    rcases he with z | z
    ·exact absurd (hbe.trans z) hb
    ·rw[hbe];exact z
   rw[q]at q';cases q'
   obtain⟨v,hv⟩:=heo
   exact⟨v,by rw[hbe];exact hv⟩
  ·refine(ok b u q).stay (fun c v hc r=>k c v ?_ r) (fun c r=>by rw[upd_ne (nown c b r)];exact r) fun c xs r=>by rw[upd_ne (ntup c xs r)];exact r
   rcases hc with rfl | hc
   ·exact hbe
   ·rintro rfl
    rcases he with z | z
    ·exact nown c b hc z
    ·rw[hc]at z;cases z;exact hb rfl
end
structure Un(fs ex:List Addr)(H H':Hp)(h h':Heap):Prop where
 keep:∀ b o,h.get? b=some o->H b=none->b∉fs->b∉ex->h'.get? b=some o
 slot:∀ b o,h.get? b=some o->H b=none->b∈fs->b∉ex->∃ sl,h'.get? b=some { o with slots:=sl }
 free:∀ b o,h.get? b=some o->H b=none->b∉ex->H' b=none
 there:∀ b o,h.get? b=some o->b∉ex->∃ o',h'.get? b=some o'
 tups:∀ b xs,H b=some (.tup xs)->H' b=some (.tup xs)
 frzs:∀ b o u,H b=some (.frz o u)->H' b=some (.frz o u)
 tbls:∀ b ps,H b=some (.tbl ps)->∃ more,H' b=some (.tbl (ps++more))
section
variable{fs fs' ex ex':List Addr}{H H1 H2:Hp}{h h1 h2 h':Heap}{a x e:Addr}{o:HO}
theorem Un.any(u:Un fs ex H H1 h h1){b:Addr}{ob:Obj}(q:h.get? b=some ob)(n:H b=none)(hx:b∉ex):∃ sl,h1.get? b=some { ob with slots:=sl }:=by
 by_cases hb:b∈fs
 ·exact u.slot b ob q n hb hx
 ·exact⟨ob.slots,u.keep b ob q n hb hx⟩
theorem Un.kept(k:∀ b u,h.get? b=some u->h'.get? b=some u):Un fs ex H H h h' :=
 ⟨fun b ob q _ _ _=>k b ob q,fun b ob q _ _ _=>⟨ob.slots,k b ob q⟩,fun _ _ _ n _=>n,fun b ob q _=>⟨ob,k b ob q⟩,fun _ _ q=>q,fun _ _ _ q=>q,fun _ ps q=>⟨#[],by rw[q];simp⟩⟩
theorem Un.refl:Un fs ex H H h h:=Un.kept fun _ _ q=>q
theorem Un.laid(k:∀ b u,h.get? b=some u->h'.get? b=some u)(hp:h.objs.size<=a)(hn:H a=none):Un fs ex H (upd H a o) h h' where
 keep:=fun b u q _ _ _=>k b u q
 slot:=fun b u q _ _ _=>⟨u.slots,k b u q⟩
 free:=fun b u q n _=>by rw[upd_ne (Nat.ne_of_lt (Nat.lt_of_lt_of_le (Heap.lt_size q) hp))];exact n
 there:=fun b u q _=>⟨u,k b u q⟩
 tups:=fun b xs q=>by rw[upd_ne (ne_of_none q hn)];exact q
 frzs:=fun b u xs q=>by rw[upd_ne (ne_of_none q hn)];exact q
 tbls:=fun b ps q=>⟨#[],by rw[upd_ne (ne_of_none q hn),q];simp⟩
theorem Un.write(mu:Mut (H x))(he:e=x\/H e=some (.own x))(k:∀ b u,b≠e->h.get? b=some u->h'.get? b=some u)(heo:∃ u,h'.get? e=some u):Un fs ex H (upd H x o) h h':=by
 have hx:∀ b,H b=none->b≠x:=fun b n z=>by subst z;rw[n]at mu;exact mu
 have hb:∀ b,H b=none->b≠e:=fun b n z=>by
  subst z
  rcases he with r | r
  ·exact hx b n r
  ·rw[n]at r;cases r
 have hm:∀ b u,H b=some u->¬ Mut (some u)->b≠x:=fun b u q nm z=>by subst z;rw[q]at mu;exact nm mu
 refine⟨fun b u q n _ _=>k b u (hb b n) q,fun b u q n _ _=>⟨u.slots,k b u (hb b n) q⟩,fun b u q n _=>by rw[upd_ne (hx b n)];exact n,fun b u q _=>?_,
  fun b xs q=>by rw[upd_ne (hm b _ q fun z=>z)];exact q,fun b u xs q=>by rw[upd_ne (hm b _ q fun z=>z)];exact q,fun b ps q=>⟨#[],by rw[upd_ne (hm b _ q fun z=>z),q];simp⟩⟩
 by_cases hbe:b=e
 ·subst hbe;exact heo
 ·exact⟨u,k b u hbe q⟩
end
def trk(h:Heap)(H:Hp):List Addr:=(List.range h.objs.size).filter fun a=>(H a).isSome
def hidT(h:Heap)(H:Hp):Heap:=PySem.W.hideAll h (trk h H)
theorem hidT_size(h:Heap)(H:Hp):(hidT h H).objs.size=h.objs.size:=PySem.W.hideAll_size _ _
theorem hidT_get{h:Heap}{H:Hp}{b:Addr}{o:Obj}(e:h.get? b=some o)(n:H b=none):(hidT h H).get? b=some o :=
 PySem.W.hideAll_get _ e fun hm=>by
  have q:(H b).isSome=true:=(List.mem_filter.mp hm).2
  rw[n]at q;simp at q
theorem of_hidT{h:Heap}{H:Hp}{b:Addr}{o:Obj}(e:(hidT h H).get? b=some o):h.get? b=some o/\H b=none:=by
 have e':h.get? b=some o:=PySem.W.of_hideAll (trk h H) e
 refine⟨e',?_⟩
 cases q:H b with
 | none=>rfl
 | some x =>
  have hm:b∈trk h H:=List.mem_filter.mpr ⟨List.mem_range.mpr (Heap.lt_size e'),by simp[q]⟩
  have z:(hidT h H).get? b=none:=PySem.W.hideAll_none (trk h H) hm
  rw[z]at e;cases e
def allNews(g h:Heap)(L:Addr):List (Addr×Obj):=(List.range h.objs.size).filterMap fun a=>if a=L\/(g.get? a).isSome=true then none else (h.get? a).map fun o=>(a,o)
def rest(g h:Heap)(L d:Addr):List (Addr×Obj):=(allNews g h L).filter fun p=>decide (p.1≠d)
end L2
namespace L2
open PySem PySem.Spec PyProof.Rows
structure Mod(K:PySem.W.Frag)(mg:Str->Option Value)(base:Heap):Prop where
 kin:K.In base
 glob:base.Ns mainGlobals mg
 blt:∃ mb,base.Ns builtinsNs mb/\∀ x:Str,x≠"__name__"->mb x=bootBuiltins x
 nolimit:base.NoLimit
structure Cx where
 prog:Program
 w:World
 K:PySem.W.Frag
 mg:Str->Option Value
 base:Heap
 A:Around
 N:List Str
 s₀:Shared
 H₀:Hp
 env:Env
 outer:List Env
 stack:List Env
 ex:List Addr
 fn:Str->Bool
 calm:Bool
 pn:List (Addr×Obj)
 xe:Value->Shared->Prop
def frs(l:List Env):List Addr:=l.filterMap (·.frame)
abbrev Cx.fs(X:Cx):List Addr:=frs X.outer
def Vis(sc:Scope)(x:Str):Prop:=sc.names.lookup x=some .local\/sc.names.lookup x=some .cell\/sc.names.lookup x=some .free
def Loc(sc:Scope)(x:Str):Prop:=sc.names.lookup x=some .local\/sc.names.lookup x=some .cell
def Look(env:Env)(h:Heap)(m:Str->Option Value)(x:Str)(u:Value):Prop :=
 (env.kindOf x=some .local/\m x=some u)\/((env.kindOf x=some .cell\/env.kindOf x=some .free)/\∃ c,env.cells.lookup x=some c/\h.IsCell c (some u))
structure Cx.Ok(X:Cx):Prop where
 mod:Mod X.K X.mg X.base
 kind:X.env.scope.kind=.function
 glob:X.env.globals=mainGlobals
 blt:X.env.builtins=builtinsNs
 above:X.s₀.heap.objs.size<=X.env.locals
 inj:∀ x y c,X.env.cells.lookup x=some c->X.env.cells.lookup y=some c->x=y
 has:∀ x,(X.env.kindOf x=some .cell\/X.env.kindOf x=some .free)->∃ c,X.env.cells.lookup x=some c
 cab:∀ x c,X.fn x=true->X.env.cells.lookup x=some c->X.s₀.heap.objs.size<=c
 hd:X.calm=true->X.A.handled=none
 frames:X.A.frames=some X.stack
 stk:X.stack=X.outer\/(X.stack=X.env::X.outer/\X.env.frame=some X.env.locals)
 exf:∀ b∈X.ex,b≠X.env.locals/\∀ x c,X.env.cells.lookup x=some c->c≠b
 bs:∀ b o,X.base.get? b=some o->X.s₀.heap.get? b=some o/\X.H₀ b=none
 bsz:X.base.objs.size<=X.s₀.heap.objs.size
 noex:∀ b o,X.base.get? b=some o->b∉X.ex
 exfs:∀ b∈X.ex,b∉X.fs
 funs:X.s₀.heap.FunFrames X.base X.outer
 frf:∀ b∈X.fs,X.H₀ b=none
structure Inv(X:Cx)(pins:List (Addr×Obj))(σ:List (Option V))(H:Hp)(s:Shared):Prop where
 ok:X.Ok
 os:s.os=X.s₀.os
 bare:AllBare s.gens
 base:Un X.fs X.ex X.H₀ H X.s₀.heap s.heap
 loc:∃ m,s.heap.Ns X.env.locals m/\∀ (i:Nat) (x:Str) (v:V),X.N[i]?=some x->σ[i]?=some (some v)->Vis X.env.scope x->∃ u,RelV v u/\Look X.env s.heap m x u
 cell:∀ x c,X.env.cells.lookup x=some c->∃ v,s.heap.IsCell c v
 free:H X.env.locals=none
 freeC:∀ x c,X.env.cells.lookup x=some c->H c=none
 pin:∀ p∈X.pn++pins,s.heap.get? p.1=some p.2/\H p.1=none/\p.1≠X.env.locals/\p.1∉X.fs/\∀ v,p.2.data≠.cell v
 hok:HOk X.prog X.w H s.heap
 len:σ.length=X.N.length
section
variable{X:Cx}{pins:List (Addr×Obj)}{σ:List (Option V)}{H H':Hp}{s:Shared}{h':Heap}
theorem Cx.Ok.nofr(ok:X.Ok){b:Addr}{o:Obj}(e:X.base.get? b=some o):b∉X.fs:=fun hb=>by
 have:=(ok.funs.mem hb).1
 rw[e]at this;cases this
theorem Inv.bs(I:Inv X pins σ H s):∀ b o,X.base.get? b=some o->s.heap.get? b=some o/\H b=none:=fun b o e =>
 ⟨I.base.keep b o (I.ok.bs b o e).1 (I.ok.bs b o e).2 (I.ok.nofr e) (I.ok.noex b o e),I.base.free b o (I.ok.bs b o e).1 (I.ok.bs b o e).2 (I.ok.noex b o e)⟩
theorem Inv.bk(I:Inv X pins σ H s):∀ b o,X.base.get? b=some o->s.heap.get? b=some o:=fun b o e=>(I.bs b o e).1
theorem Inv.mod(I:Inv X pins σ H s):Mod X.K X.mg X.base:=I.ok.mod
theorem Inv.kIn(I:Inv X pins σ H s):X.K.In s.heap:=I.ok.mod.kin.keeps I.bk
theorem Inv.lt(I:Inv X pins σ H s):X.env.locals < s.heap.objs.size:=let ⟨_,hn,_⟩:=I.loc;hn.lt
theorem Inv.sz(I:Inv X pins σ H s):X.s₀.heap.objs.size<=s.heap.objs.size:=Nat.le_trans I.ok.above (Nat.le_of_lt I.lt)
theorem Inv.nofs(I:Inv X pins σ H s){a:Addr}(h:s.heap.objs.size<=a):a∉X.fs:=fun hb=>by
 obtain⟨_,o,ho,_⟩:=I.ok.funs.mem hb
 exact absurd (Nat.lt_of_lt_of_le (Heap.lt_size ho) (Nat.le_trans I.sz h)) (Nat.lt_irrefl _)
theorem Inv.cne(I:Inv X pins σ H s):∀ x c,X.env.cells.lookup x=some c->c≠X.env.locals:=fun x c e z=>by
 obtain⟨v,o,ho,hd⟩:=I.cell x c e
 obtain⟨m,⟨o',es,ep,ho',hd',_⟩,_⟩:=I.loc
 rw[z,ho']at ho;cases ho;rw[hd']at hd;cases hd
theorem Inv.funs(I:Inv X pins σ H s):s.heap.FunFrames X.base X.outer:=by
 have all:∀ (l:List Env),(∀ b∈frs l,b∈X.fs)->X.s₀.heap.FunFrames X.base l->s.heap.FunFrames X.base l:=by
  intro l
  induction l with
  | nil=>intro _ _;trivial
  | cons env r ih =>
   intro hs hl
   obtain⟨hk,⟨L,o,hf,hn,ho,hd⟩,hr⟩:=hl
   have hL:L∈X.fs:=hs L (by unfold frs;rw[List.filterMap_cons,hf];exact List.mem_cons_self)
   obtain⟨sl,e⟩:=I.base.slot L o ho (I.ok.frf L hL) hL fun z=>I.ok.exfs L z hL
   exact⟨hk,⟨L,_,hf,hn,e,hd⟩,ih (fun b hb=>hs b (by unfold frs;rw[List.filterMap_cons,hf];exact List.mem_cons_of_mem _ hb)) hr⟩
 exact all X.outer (fun _ hb=>hb) I.ok.funs
theorem Inv.stack(I:Inv X pins σ H s):s.heap.FunFrames X.base X.stack:=by
 rcases I.ok.stk with e | ⟨e,hf⟩
 ·rw[e];exact I.funs
 ·rw[e]
  obtain⟨m,hn,_⟩:=I.loc
  refine .cons (by rw[I.ok.kind];decide) hf hn ?_ I.funs
  exact Heap.get?_none_of_le (Nat.le_trans I.ok.bsz I.ok.above)
theorem Inv.stkSub(I:Inv X pins σ H s):∀ b∈frs X.stack,b∈X.env.locals::X.fs:=fun b hb=>by
 rcases I.ok.stk with e | ⟨e,hf⟩
 ·rw[e]at hb;exact List.mem_cons_of_mem _ hb
 ·rw[e]at hb
  unfold frs at hb
  rw[List.filterMap_cons,hf]at hb
  exact hb
theorem Inv.stkFree(I:Inv X pins σ H s):∀ b∈frs X.stack,H b=none:=fun b hb=>by
 rcases List.mem_cons.mp (I.stkSub b hb) with e | hb
 ·rw[e];exact I.free
 ·obtain⟨_,o,ho,_⟩:=I.ok.funs.mem hb
  exact I.base.free b o ho (I.ok.frf b hb) fun z=>I.ok.exfs b z hb
theorem Inv.step{g':Array GenState}{t':Nat}{d':Drawn}{ch:List Addr}(I:Inv X pins σ H s)
 (hch:∀ b∈ch,(b∈X.ex\/X.s₀.heap.objs.size<=b)/\b≠X.env.locals/\(∀ x c,X.env.cells.lookup x=some c->c≠b)/\∀ p∈X.pn++pins,p.1≠b)
 (keep:∀ b o,b≠X.env.locals->b∉X.fs->b∉ch->s.heap.get? b=some o->H b=none->h'.get? b=some o)
 (slot:∀ b o,b≠X.env.locals->b∈X.fs->b∉ch->s.heap.get? b=some o->H b=none->∃ sl,h'.get? b=some { o with slots:=sl }) (free:∀ b o,b∉ch->s.heap.get? b=some o->H b=none->H' b=none)
 (there:∀ b o,b∉ch->s.heap.get? b=some o->∃ o',h'.get? b=some o')
 (tups:∀ b xs,H b=some (.tup xs)->H' b=some (.tup xs)) (frzs:∀ b o u,H b=some (.frz o u)->H' b=some (.frz o u)) (tbls:∀ b ps,H b=some (.tbl ps)->∃ more,H' b=some (.tbl (ps++more)))
 (ns:∀ m,s.heap.Ns X.env.locals m->h'.Ns X.env.locals m) (hok:HOk X.prog X.w H' h') (hg:AllBare g') :
 Inv X pins σ H' { s with heap:=h',gens:=g',drawn:=d',toks:=t' }:=by
 have neL:∀ b o,X.s₀.heap.get? b=some o->b≠X.env.locals:=fun b o e=>Nat.ne_of_lt (Nat.lt_of_lt_of_le (Heap.lt_size e) I.ok.above)
 have neC:∀ b o,X.s₀.heap.get? b=some o->b∉X.ex->b∉ch:=fun b o e hx hb=>by
  rcases(hch b hb).1 with z | z
  ·exact hx z
  ·exact absurd (Nat.lt_of_lt_of_le (Heap.lt_size e) z) (Nat.lt_irrefl _)
 have cellK:∀ x c,X.env.cells.lookup x=some c->∀ v,s.heap.IsCell c v->h'.IsCell c v:=fun x c e v ⟨o,ho,hd⟩=>by
  have nch:c∉ch:=fun z=>(hch c z).2.2.1 x c e rfl
  by_cases hc:c∈X.fs
  ·obtain⟨sl,q⟩:=slot c o (I.cne x c e) hc nch ho (I.freeC x c e)
   exact⟨_,q,hd⟩
  ·exact⟨o,keep c o (I.cne x c e) hc nch ho (I.freeC x c e),hd⟩
 refine⟨I.ok,I.os,hg,⟨fun b o e n hb hx=>?_,fun b o e n hb hx=>?_,fun b o e n hx=>?_,fun b o e hx=>?_,fun b xs e=>tups b xs (I.base.tups b xs e),fun b o xs e=>frzs b o xs (I.base.frzs b o xs e),fun b ps e=>?_⟩,?_,fun x c e=>?_,?_,fun x c e=>?_,fun p hp=>?_,hok,I.len⟩
 ·exact keep b o (neL b o e) hb (neC b o e hx) (I.base.keep b o e n hb hx) (I.base.free b o e n hx)
 ·obtain⟨sl,e1⟩:=I.base.slot b o e n hb hx
  obtain⟨sl',e2⟩:=slot b _ (neL b o e) hb (neC b o e hx) e1 (I.base.free b o e n hx)
  exact⟨sl',e2⟩
 ·obtain⟨o',e1⟩:=I.base.there b o e hx
  exact free b o' (neC b o e hx) e1 (I.base.free b o e n hx)
 ·obtain⟨o',e1⟩:=I.base.there b o e hx
  exact there b o' (neC b o e hx) e1
 ·obtain⟨m1,e1⟩:=I.base.tbls b ps e
  obtain⟨m2,e2⟩:=tbls b _ e1
  exact⟨m1++m2,by rw[e2,Array.append_assoc]⟩
 ·obtain⟨m,hn,hl⟩:=I.loc
  refine⟨m,ns m hn,fun i x v e1 e2 e3=>?_⟩
  obtain⟨u,r,l⟩:=hl i x v e1 e2 e3
  refine⟨u,r,?_⟩
  rcases l with l | ⟨k,c,e,z⟩
  ·exact .inl l
  ·exact .inr ⟨k,c,e,cellK x c e _ z⟩
 ·obtain⟨v,z⟩:=I.cell x c e
  exact⟨v,cellK x c e v z⟩
 ·obtain⟨m,⟨o,_,_,ho,_⟩,_⟩:=I.loc
  exact free _ o (fun z=>(hch _ z).2.1 rfl) ho I.free
 ·obtain⟨v,o,ho,hd⟩:=I.cell x c e
  exact free c o (fun z=>(hch c z).2.2.1 x c e rfl) ho (I.freeC x c e)
 ·obtain⟨e,n,ne,nf,d⟩:=I.pin p hp
  have nch:p.1∉ch:=fun z=>(hch p.1 z).2.2.2 p hp rfl
  exact⟨keep p.1 p.2 ne nf nch e n,free p.1 p.2 nch e n,ne,nf,d⟩
theorem Inv.un{t':Nat}(I:Inv X pins σ H s)(u:Un X.fs [] H H' s.heap h')(hok:HOk X.prog X.w H' h'):Inv X pins σ H' { s with heap:=h',toks:=t' }:=by
 obtain⟨m,⟨o,es,ep,ho,r⟩,_⟩:=id I.loc
 obtain⟨sl,hL⟩:=u.any ho I.free (by simp)
 exact I.step (g':=s.gens) (d':=s.drawn) (ch:=[]) (fun _ z=>nomatch z) (fun b o _ hb _ e n=>u.keep b o e n hb (by simp)) (fun b o _ hb _ e n=>u.slot b o e n hb (by simp)) (fun b o _ e n=>u.free b o e n (by simp)) (fun b o _ e=>u.there b o e (by simp)) u.tups u.frzs u.tbls (fun m' hm=>by
  obtain⟨o',es',ep',ho',r'⟩:=hm
  rw[ho]at ho';cases ho'
  exact⟨_,es',ep',hL,r'⟩) hok I.bare
theorem Inv.call{g':Array GenState}{t':Nat}{d':Drawn}{ch:List Addr}(I:Inv X pins σ H s)(u:Un (frs X.stack) ch H H' s.heap h')(hok:HOk X.prog X.w H' h')(hg:AllBare g')
 (hch:∀ b∈ch,(b∈X.ex\/X.s₀.heap.objs.size<=b)/\b≠X.env.locals/\(∀ x c,X.env.cells.lookup x=some c->c≠b)/\∀ p∈X.pn++pins,p.1≠b) :
 Inv X pins σ H' { s with heap:=h',gens:=g',drawn:=d',toks:=t' }:=by
 obtain⟨m,⟨o,es,ep,ho,r⟩,_⟩:=id I.loc
 obtain⟨sl,hL⟩:=u.any ho I.free fun z=>(hch _ z).2.1 rfl
 exact I.step (ch:=ch) hch (fun b o hL hb hc e n=>u.keep b o e n (fun z=>(List.mem_cons.mp (I.stkSub b z)).elim hL hb) hc) (fun b o _ _ hc e n=>u.any e n hc) (fun b o hc e n=>u.free b o e n hc) (fun b o hc e=>u.there b o e hc) u.tups u.frzs u.tbls (fun m' hm=>by
  obtain⟨o',es',ep',ho',r'⟩:=hm
  rw[ho]at ho';cases ho'
  exact⟨_,es',ep',hL,r'⟩) hok hg
theorem Inv.turned{t':Nat}{it:Addr}(I:Inv X pins σ H s)(k:∀ b o,b≠it->s.heap.get? b=some o->h'.get? b=some o)(hn:H it=none)(hL:it≠X.env.locals)
 (h1:it∈X.ex\/X.s₀.heap.objs.size<=it) (h2:∀ x c,X.env.cells.lookup x=some c->c≠it) (h3:∀ p∈X.pn++pins,p.1≠it):Inv X pins σ H { s with heap:=h',toks:=t' }:=by
 have nit:∀ b u,H b=some u->b≠it:=fun b u e z=>by rw[z,hn]at e;cases e
 refine I.step (g':=s.gens) (d':=s.drawn) (ch:=[it]) (fun b hb=>?_) (fun b o _ _ hc e _=>k b o (fun z=>hc (by simp[z])) e) (fun b o _ _ hc e _=>⟨o.slots,k b o (fun z=>hc (by simp[z])) e⟩) (fun _ _ _ _ n=>n)
  (fun b o hc e=>⟨o,k b o (fun z=>hc (by simp[z])) e⟩) (fun _ _ e=>e) (fun _ _ _ e=>e) (fun b ps e=>⟨#[],by rw[e];simp⟩) (fun m hm=>?_) (fun b u e=>?_) I.bare
 ·have e:b=it:=by simpa using hb
  subst e
  exact⟨h1,hL,h2,h3⟩
 ·obtain⟨o,es,ep,ho,r⟩:=hm
  exact⟨o,es,ep,k _ o (Ne.symm hL) ho,r⟩
 ·refine(I.hok b u e).stay (fun c v hc q=>k c v ?_ q) (fun _ q=>q) fun _ _ q=>q
  rcases hc with z | z
  ·rw[z];exact nit b u e
  ·exact nit c _ z
theorem Inv.tok(I:Inv X pins σ H s)(t:Nat):Inv X pins σ H { s with toks:=t }:=I.un (h':=s.heap) (t':=t) Un.refl I.hok
theorem Inv.kept{t':Nat}(I:Inv X pins σ H s)(k:∀ b u,s.heap.get? b=some u->h'.get? b=some u):Inv X pins σ H { s with heap:=h',toks:=t' }:=I.un (Un.kept k) (I.hok.kept k)
theorem Inv.laid{a:Addr}{o:HO}{t':Nat}(I:Inv X pins σ H s)(k:∀ b u,s.heap.get? b=some u->h'.get? b=some u)(hp:s.heap.objs.size<=a)(new:ObjOk X.prog X.w (upd H a o) h' a o) :
 Inv X pins σ (upd H a o) { s with heap:=h',toks:=t' }:=I.un (Un.laid k hp (I.hok.fresh hp)) (I.hok.laid k hp new)
theorem Inv.write{x e:Addr}{o:HO}{t':Nat}(I:Inv X pins σ H s)(mu:Mut (H x))(he:e=x\/H e=some (.own x))(k:∀ b u,b≠e->s.heap.get? b=some u->h'.get? b=some u)(heo:∃ u,h'.get? e=some u)
 (new:ObjOk X.prog X.w (upd H x o) h' x o):Inv X pins σ (upd H x o) { s with heap:=h',toks:=t' }:=I.un (Un.write mu he k heo) (I.hok.write mu he k heo new)
theorem Inv.pins_of{pins':List (Addr×Obj)}(I:Inv X pins σ H s)(h:∀ p∈pins',s.heap.get? p.1=some p.2/\H p.1=none/\p.1≠X.env.locals/\p.1∉X.fs/\∀ v,p.2.data≠.cell v):Inv X pins' σ H s :=
 ⟨I.ok,I.os,I.bare,I.base,I.loc,I.cell,I.free,I.freeC,fun p hp=>(List.mem_append.mp hp).elim (fun z=>I.pin p (List.mem_append_left _ z)) (h p),I.hok,I.len⟩
theorem nodup_ix{N:List Str}(hN:N.Nodup){i j:Nat}{x:Str}(a:N[i]?=some x)(b:N[j]?=some x):i=j:=by
 obtain⟨h1,e1⟩:=List.getElem?_eq_some_iff.mp a
 obtain⟨h2,e2⟩:=List.getElem?_eq_some_iff.mp b
 exact(List.getElem_inj hN).mp (e1.trans e2.symm)
theorem store_ok2{M:Model}{A:Around}{E:Value->Shared->Prop}{i:Nat}{x:Str}{v:V}{u:Value}{Q:Unit->Shared->Prop}(I:Inv X pins σ H s)(hN:X.N.Nodup)(hi:X.N[i]?=some x)(hx:Loc X.env.scope x)(r:RelV v u)
 (h:∀ s',Inv X pins (σ.set i (some v)) H s'->(∃ a,Heap.SameBut a s.heap s'.heap/\(a=X.env.locals\/X.env.cells.lookup x=some a))->Q () s') (hf:X.fn x=true\/X.env.scope.names.lookup x=some .local:=by first | exact .inl rfl | exact .inr rfl | assumption):wpAny M A (storeName X.env x u) Q E s:=by
 obtain⟨m,hn,hl⟩:=id I.loc
 have hcls:(X.env.scope.kind == .class || (X.env.scope.kind == .module && X.env.locals != X.env.globals))=false:=by rw[I.ok.kind];rfl
 have hiσ:i < σ.length:=by rw[I.len];exact(List.getElem?_eq_some_iff.mp hi).1
 have cne:=I.cne
 have tracked:∀ {a:Addr} {h':Heap},(∃ o,s.heap.get? a=some o/\H a=none)->Heap.SameBut a s.heap h'->HOk X.prog X.w H h':=fun {a h'} ha hs b ob e=>by
  obtain⟨_,_,hfree⟩:=ha
  refine(I.hok b ob e).stay (fun c w' hc q=>(hs.2 c ?_).trans q) (fun _ q=>q) fun _ _ q=>q
  rintro rfl
  rcases hc with rfl | hc
  ·rw[hfree]at e;cases e
  ·rw[hfree]at hc;cases hc
 rcases hx with hk | hk
 ·refine wpAny_storeName_local hk hn (fun h' hn' hs=>?_) hcls
  obtain⟨oL,_,_,hoL,_⟩:=id hn
  refine h _ ⟨I.ok,I.os,I.bare,⟨fun b o e n hb hx=>?_,fun b o e n hb hx=>?_,I.base.free,fun b o e hx=>?_,I.base.tups,I.base.frzs,I.base.tbls⟩,⟨_,hn',fun j y v' e1 e2 e3=>?_⟩,fun y c e=>?_,I.free,I.freeC,fun p hp=>?_,tracked ⟨oL,hoL,I.free⟩ hs,by simpa using I.len⟩ ⟨_,hs,.inl rfl⟩
  ·exact(hs.2 b (Nat.ne_of_lt (Nat.lt_of_lt_of_le (Heap.lt_size e) I.ok.above))).trans (I.base.keep b o e n hb hx)
  ·obtain⟨sl,e1⟩:=I.base.slot b o e n hb hx
   exact⟨sl,(hs.2 b (Nat.ne_of_lt (Nat.lt_of_lt_of_le (Heap.lt_size e) I.ok.above))).trans e1⟩
  ·obtain⟨o',e1⟩:=I.base.there b o e hx
   exact⟨o',(hs.2 b (Nat.ne_of_lt (Nat.lt_of_lt_of_le (Heap.lt_size e) I.ok.above))).trans e1⟩
  ·by_cases hj:j=i
   ·subst hj
    rw[hi]at e1;cases e1
    rw[List.getElem?_set_self hiσ]at e2
    cases e2
    exact⟨u,r,.inl ⟨hk,by simp⟩⟩
   ·rw[List.getElem?_set_ne (Ne.symm hj)]at e2
    obtain⟨u',r',q⟩:=hl j y v' e1 e2 e3
    refine⟨u',r',?_⟩
    rcases q with ⟨k,e⟩ | ⟨k,c,e,z⟩
    ·refine .inl ⟨k,?_⟩
     have:y≠x:=fun e=>hj (nodup_ix hN e1 (e ▸ hi))
     simp[this,e]
    ·exact .inr ⟨k,c,e,z.sameBut hs (cne y c e)⟩
  ·obtain⟨w',z⟩:=I.cell y c e
   exact⟨w',z.sameBut hs (cne y c e)⟩
  ·obtain⟨e,n,ne,nf,d⟩:=I.pin p hp
   exact⟨(hs.2 p.1 ne).trans e,n,ne,nf,d⟩
 ·have hfn:X.fn x=true:=by
   rcases hf with z | z
   ·exact z
   ·rw[z]at hk;cases hk
  obtain⟨c,hc⟩:=I.ok.has x (.inl hk)
  obtain⟨w',z⟩:=I.cell x c hc
  refine wpAny_storeName_cell I.ok.kind hk hc z (fun h' hc' hs=>?_)
  obtain⟨oc,hoc,hocd⟩:=id z
  refine h { s with heap:=h' } ⟨I.ok,I.os,I.bare,⟨fun b o e n hb hx=>?_,fun b o e n hb hx=>?_,I.base.free,fun b o e hx=>?_,I.base.tups,I.base.frzs,I.base.tbls⟩,⟨m,hn.sameBut hs (Ne.symm (cne x c hc)),fun j y v' e1 e2 e3=>?_⟩,fun y c' e=>?_,I.free,I.freeC,fun p hp=>?_,tracked ⟨oc,hoc,I.freeC x c hc⟩ hs,by simpa using I.len⟩ ⟨c,hs,.inr hc⟩
  ·exact(hs.2 b (Nat.ne_of_lt (Nat.lt_of_lt_of_le (Heap.lt_size e) (I.ok.cab x c hfn hc)))).trans (I.base.keep b o e n hb hx)
  ·obtain⟨sl,e1⟩:=I.base.slot b o e n hb hx
   exact⟨sl,(hs.2 b (Nat.ne_of_lt (Nat.lt_of_lt_of_le (Heap.lt_size e) (I.ok.cab x c hfn hc)))).trans e1⟩
  ·obtain⟨o',e1⟩:=I.base.there b o e hx
   exact⟨o',(hs.2 b (Nat.ne_of_lt (Nat.lt_of_lt_of_le (Heap.lt_size e) (I.ok.cab x c hfn hc)))).trans e1⟩
  ·by_cases hj:j=i
   ·subst hj
    rw[hi]at e1;cases e1
    rw[List.getElem?_set_self hiσ]at e2
    cases e2
    exact⟨u,r,.inr ⟨.inl hk,c,hc,hc'⟩⟩
   ·rw[List.getElem?_set_ne (Ne.symm hj)]at e2
    obtain⟨u',r',q⟩:=hl j y v' e1 e2 e3
    refine⟨u',r',?_⟩
    rcases q with q | ⟨k,c',e,z'⟩
    ·exact .inl q
    ·refine .inr ⟨k,c',e,z'.sameBut hs ?_⟩
     rintro rfl
     exact hj (nodup_ix hN e1 (I.ok.inj _ _ _ e hc ▸ hi))
  ·by_cases hcc:c'=c
   ·subst hcc;exact⟨_,hc'⟩
   ·obtain⟨w2,z2⟩:=I.cell y c' e
    exact⟨w2,z2.sameBut hs hcc⟩
  ·obtain⟨e,n,ne,nf,d⟩:=I.pin p hp
   refine⟨(hs.2 p.1 ?_).trans e,n,ne,nf,d⟩
   intro q
   rw[q,hoc]at e
   have q':oc=p.2:=Option.some.inj e
   exact d w' (by rw[<- q'];exact hocd)
theorem store_ok{M:Model}{A:Around}{E:Value->Shared->Prop}{i:Nat}{x:Str}{v:V}{u:Value}{Q:Unit->Shared->Prop}(I:Inv X pins σ H s)(hN:X.N.Nodup)(hi:X.N[i]?=some x)(hx:Loc X.env.scope x)(r:RelV v u)
 (h:∀ s',Inv X pins (σ.set i (some v)) H s'->Q () s') (hf:X.fn x=true\/X.env.scope.names.lookup x=some .local:=by first | exact .inl rfl | exact .inr rfl | assumption):wpAny M A (storeName X.env x u) Q E s :=
 store_ok2 I hN hi hx r (fun s' I' _=>h s' I') hf
theorem Inv.call'{s':Shared}{ch:List Addr}(I:Inv X pins σ H s)(ho:s'.os=s.os)(u:Un (frs X.stack) ch H H' s.heap s'.heap)(hok:HOk X.prog X.w H' s'.heap)(hg:AllBare s'.gens)
 (hch:∀ b∈ch,(b∈X.ex\/X.s₀.heap.objs.size<=b)/\b≠X.env.locals/\(∀ x c,X.env.cells.lookup x=some c->c≠b)/\∀ p∈X.pn++pins,p.1≠b):Inv X pins σ H' s':=by
 obtain⟨h',g',d',t',o'⟩:=s'
 have e:o'=s.os:=ho
 subst e
 exact I.call (g':=g') (t':=t') (d':=d') u hok hg hch
end
abbrev XK:=Value->Option Addr->Hp->Prop
abbrev St:=List (Option V)
abbrev VK:=V->Hp->Prop
abbrev TE:=St->Hp->VK->Prop
abbrev TT:=St->Hp->(Bool->Hp->Prop)->Prop
abbrev TA:=St->Hp->(List V->Hp->Prop)->Prop
structure Ends where
 nx:St->Hp->Prop
 rt:VK
 bk:St->Hp->Prop:=fun _ _=>False
 ct:St->Hp->Prop:=fun _ _=>False
abbrev TS:=Ends->St->Hp->Prop
def EP(X:Cx)(pins:List (Addr×Obj))(σ:St)(Q:VK)(u:Value)(s':Shared):Prop:=∃ v H',Inv X pins σ H' s'/\RelV v u/\Q v H'
def TP(X:Cx)(pins:List (Addr×Obj))(σ:St)(Q:Bool->Hp->Prop)(b:Bool)(s':Shared):Prop:=∃ H',Inv X pins σ H' s'/\Q b H'
def AP(X:Cx)(pins:List (Addr×Obj))(σ:St)(Q:List V->Hp->Prop)(us:List Value)(s':Shared):Prop:=∃ vs H',Inv X pins σ H' s'/\Vals vs us/\Q vs H'
def SP(X:Cx)(pins:List (Addr×Obj))(D:Ends)(f:Flow)(s':Shared):Prop :=
 match f with
 | .next=>∃ σ' H',Inv X pins σ' H' s'/\D.nx σ' H'
 | .brk=>∃ σ' H',Inv X pins σ' H' s'/\D.bk σ' H'
 | .cont=>∃ σ' H',Inv X pins σ' H' s'/\D.ct σ' H'
 | .ret u=>∃ v σ' H',Inv X pins σ' H' s'/\RelV v u/\D.rt v H'
def PE(X:Cx)(e:Expr)(t:TE):Prop :=
 ∀ (pins:List (Addr×Obj)) (s:Shared) (σ:St) (H:Hp) (Q:VK),Inv X pins σ H s->t σ H Q->wpAny (model X.prog X.w) X.A (eval e X.env) (EP X pins σ Q) X.xe s
def PT(X:Cx)(e:Expr)(t:TT):Prop :=
 ∀ (pins:List (Addr×Obj)) (s:Shared) (σ:St) (H:Hp) (Q:Bool->Hp->Prop),Inv X pins σ H s->t σ H Q->wpAny (model X.prog X.w) X.A (isTrue e X.env (eval e X.env)) (TP X pins σ Q) X.xe s
def PW(X:Cx)(e:Expr)(t:TT):Prop :=
 ∀ (whole:Sem Value) (pins:List (Addr×Obj)) (s:Shared) (σ:St) (H:Hp) (Q:Bool->Hp->Prop),Inv X pins σ H s->t σ H Q->wpAny (model X.prog X.w) X.A (isTrue e X.env whole) (TP X pins σ Q) X.xe s
theorem PW.pt{X:Cx}{e:Expr}{t:TT}(h:PW X e t):PT X e t:=h _
def PA(X:Cx)(es:List Expr)(t:TA):Prop :=
 ∀ (pos:Pos) (pins:List (Addr×Obj)) (s:Shared) (σ:St) (H:Hp) (Q:List V->Hp->Prop),Inv X pins σ H s->t σ H Q->wpAny (model X.prog X.w) X.A (spliced (backTo pos (starEach es X.env))) (AP X pins σ Q) X.xe s
def PS(X:Cx)(st:Stmt)(t:TS):Prop :=
 ∀ (pins:List (Addr×Obj)) (s:Shared) (σ:St) (H:Hp) (D:Ends),Inv X pins σ H s->t D σ H->wpAny (model X.prog X.w) X.A (exec st X.env) (SP X pins D) X.xe s
def PSs(X:Cx)(st:List Stmt)(t:TS):Prop :=
 ∀ (pins:List (Addr×Obj)) (s:Shared) (σ:St) (H:Hp) (D:Ends),Inv X pins σ H s->t D σ H->wpAny (model X.prog X.w) X.A (execs st X.env) (SP X pins D) X.xe s
theorem thn{α:Type}{t:Sem α}{Q Q':α->Shared->Prop}{M:Model}{A:Around}{E:Value->Shared->Prop}{s:Shared}(h:wpAny M A t Q E s)(hQ:∀ a s,Q a s->Q' a s):wpAny M A t Q' E s:=wpAny_mono h hQ fun _ _ x=>x
end L2
namespace L2
open PySem PySem.Spec PyProof.Rows
section
variable{X:Cx}
def tVar(i:Nat):TE:=fun σ H Q=>∃ v,σ[i]?=some (some v)/\Q v H
def tC(v:V):TE:=fun _ H Q=>Q v H
theorem pe_var{i:Nat}{x:Str}{pos:Pos}(hN:X.N[i]?=some x)(hv:Vis X.env.scope x)(hd:(x == ("__debug__":Str))=false:=by decide)(hcd:(x == ("__classdict__":Str))=false:=by decide):PE X (.Name x pos) (tVar i):=by
 intro pins s σ H Q I h
 obtain⟨v,e,h⟩:=h
 obtain⟨m,hn,hl⟩:=I.loc
 obtain⟨u,r,l⟩:=hl i x v hN e hv
 have fin:EP X pins σ Q u s:=⟨v,H,I,r,h⟩
 rcases l with ⟨hk,hm⟩ | ⟨hk,c,hc,hcell⟩
 ·exact wpAny_Name (wpAny_loadName_local I.ok.kind hk hn hm fin) hd
 ·rcases hk with hk | hk
  ·exact wpAny_Name (wpAny_loadName_cell I.ok.kind hk hc hcell fin) hd
  ·exact wpAny_Name (wpAny_loadName_free I.ok.kind hk hc hcell fin hcd) hd
theorem pe_int{i j pos}:PE X (.Constant (.int i) j pos) (tC (.int i)):=fun _ _ _ H _ I h=>wpAny_Constant_int ⟨.int i,H,I.tok _,⟨_,rfl⟩,h⟩
theorem pe_bl{b j pos}:PE X (.Constant (.bool b) j pos) (tC (.bl b)):=fun _ _ _ H _ I h=>Constant_bool ⟨.bl b,H,I,rfl,h⟩
theorem pe_non{j pos}:PE X (.Constant .none j pos) (tC .non):=fun _ _ _ H _ I h=>Constant_none ⟨.non,H,I,rfl,h⟩
theorem pe_str{x j pos}:PE X (.Constant (.str x) j pos) (tC (.str x)):=fun _ _ _ H _ I h=>Calls.Constant_str ⟨.str x,H,I.tok _,⟨_,rfl⟩,h⟩
def Gl(X:Cx)(x:Str):Prop:=X.env.kindOf x=some .globalImplicit
theorem ld_glob{E:Value->Shared->Prop}{pins:List (Addr×Obj)}{s:Shared}{σ:St}{H:Hp}{x:Str}{u:Value}{pos:Pos}{Q:Value->Shared->Prop}(I:Inv X pins σ H s)(hg:Gl X x)(hm:X.mg x=some u)(h:Q u s)
 (hd:(x == ("__debug__":Str))=false:=by decide):wpAny (model X.prog X.w) X.A (eval (.Name x pos) X.env) Q E s :=
 Calls.Name_function_global I.ok.kind hg (Calls.loadGlobal_global (by rw[I.ok.glob];exact I.mod.glob.keeps I.bk) hm h) hd
theorem ld_blt{E:Value->Shared->Prop}{pins:List (Addr×Obj)}{s:Shared}{σ:St}{H:Hp}{x:Str}{u:Value}{pos:Pos}{Q:Value->Shared->Prop}(I:Inv X pins σ H s)(hg:Gl X x)(hm:X.mg x=none)(hv:bootBuiltins x=some u)(h:Q u s)
 (hn:x≠"__name__":=by decide) (hd:(x == ("__debug__":Str))=false:=by decide):wpAny (model X.prog X.w) X.A (eval (.Name x pos) X.env) Q E s:=by
 obtain⟨mb,h1,h2⟩:=I.mod.blt
 exact Calls.Name_function_global I.ok.kind hg (Calls.loadGlobal_builtin (by rw[I.ok.glob];exact I.mod.glob.keeps I.bk) hm (by rw[I.ok.blt];exact h1.keeps I.bk) ((h2 x hn).trans hv) h) hd
theorem pe_glob{x:Str}{v:V}{u:Value}{pos:Pos}(hg:Gl X x)(hm:X.mg x=some u)(r:RelV v u)(hd:(x == ("__debug__":Str))=false:=by decide):PE X (.Name x pos) (tC v) :=
 fun _ _ _ H _ I h=>ld_glob I hg hm ⟨v,H,I,r,h⟩ hd
theorem pe_bltn{x:Str}{v:V}{u:Value}{pos:Pos}(hg:Gl X x)(hm:X.mg x=none)(hv:bootBuiltins x=some u)(r:RelV v u)(hn:x≠"__name__":=by decide)(hd:(x == ("__debug__":Str))=false:=by decide):PE X (.Name x pos) (tC v) :=
 fun _ _ _ H _ I h=>ld_blt I hg hm hv ⟨v,H,I,r,h⟩ hn hd
variable{a b:Expr}{ta tb:TE}{pos:Pos}
def PC(X:Cx)(op:CmpOp)(a b:Expr)(t:TE):Prop :=
 ∀ (pins:List (Addr×Obj)) (s:Shared) (σ:St) (H:Hp) (Q:VK),Inv X pins σ H s->t σ H Q ->
  wpAny (model X.prog X.w) X.A (eval a X.env) (fun v s₁=>wpAny (model X.prog X.w) X.A (eval b X.env) (fun u s₂=>wpAny (model X.prog X.w) X.A (compareOp op v u) (EP X pins σ Q) X.xe s₂) X.xe s₁) X.xe s
def tB(t:TE):TT:=fun σ H Q=>t σ H fun x H1=>∃ c,x=.bl c/\Q c H1
theorem pt_cmp{op:CmpOp}{t:TE}(h:PC X op a b t)(h1:behindInMarks op b=false:=by first | exact nobehind _ (by decide) (by decide) | rfl):PT X (.Compare a [op] [b] pos) (tB t):=by
 intro pins s σ H Q I hw
 refine wpAny_isTrue_Compare1 (thn (h pins s σ H _ I hw) fun v s1 h1=>thn h1 fun u s2 h2=>thn h2 fun c s3 ⟨x,H1,I1,r1,q1⟩=>?_) h1
 obtain⟨d,rfl,q⟩:=q1
 cases r1
 exact wpAny_truthy_bool ⟨H1,I1,q⟩
theorem pt_val{e:Expr}{t:TE}(h:PE X e t)(he:∀ whole,isTrue e X.env whole=(do let v <- whole;standAt e.pos;holding [v] (truthy v)):=by intro _;rfl):PT X e (tB t):=by
 intro pins s σ H Q I hw
 refine isTrue_plain (thn (h pins s σ H _ I hw) fun v s1 ⟨x,H1,I1,r1,q1⟩=>?_) (he _)
 obtain⟨d,rfl,q⟩:=q1
 cases r1
 exact wpAny_truthy_bool ⟨H1,I1,q⟩
variable{tA tB':TT}{rest:List Expr}
def tAnd(t u:TT):TT:=fun σ H Q=>t σ H fun c H1=>if c=true then u σ H1 Q else Q false H1
def tOr(t u:TT):TT:=fun σ H Q=>t σ H fun c H1=>if c=true then Q true H1 else u σ H1 Q
def tNot(t:TT):TT:=fun σ H Q=>t σ H fun c H1=>Q (!c) H1
theorem pw_and1(ha:PT X a tA):PW X (.BoolOp .And [a] pos) tA:=by
 intro wh pins s σ H Q I h
 refine isTrue_and (thn (ha pins s σ H Q I h) fun c s1 e=>?_)
 cases c with
 | true=>exact isTrue_and_nil e
 | false=>exact e
theorem pw_or1(ha:PT X a tA):PW X (.BoolOp .Or [a] pos) tA:=by
 intro wh pins s σ H Q I h
 refine isTrue_or (thn (ha pins s σ H Q I h) fun c s1 e=>?_)
 cases c with
 | false=>exact isTrue_or_nil e
 | true=>exact e
theorem pw_and(ha:PT X a tA)(hb:PW X (.BoolOp .And (b::rest) pos) tB'):PW X (.BoolOp .And (a::b::rest) pos) (tAnd tA tB'):=by
 intro wh pins s σ H Q I h
 refine isTrue_and (thn (ha pins s σ H _ I h) fun c s1 ⟨H1,I1,q1⟩=>?_)
 cases c with
 | true=>exact hb wh pins s1 σ H1 Q I1 q1
 | false=>exact⟨H1,I1,q1⟩
theorem pw_or(ha:PT X a tA)(hb:PW X (.BoolOp .Or (b::rest) pos) tB'):PW X (.BoolOp .Or (a::b::rest) pos) (tOr tA tB'):=by
 intro wh pins s σ H Q I h
 refine isTrue_or (thn (ha pins s σ H _ I h) fun c s1 ⟨H1,I1,q1⟩=>?_)
 cases c with
 | true=>exact⟨H1,I1,q1⟩
 | false=>exact hb wh pins s1 σ H1 Q I1 q1
theorem pt_not(ha:PT X a tA):PT X (.UnaryOp .Not a pos) (tNot tA):=by
 intro pins s σ H Q I h
 exact isTrue_not (ha pins s σ H (fun c H1=>Q (!c) H1) I h)
def tAndV(ta tb:TE):TE:=fun σ H Q=>ta σ H fun x H1=>∃ c,x=.bl c/\if c=true then tb σ H1 Q else Q (.bl false) H1
def tOrV(ta tb:TE):TE:=fun σ H Q=>ta σ H fun x H1=>∃ c,x=.bl c/\if c=true then Q (.bl true) H1 else tb σ H1 Q
def tNotV(ta:TE):TE:=fun σ H Q=>ta σ H fun x H1=>∃ c,x=.bl c/\Q (.bl (!c)) H1
theorem pe_one{op}{t:TE}(h:PE X a t):PE X (.BoolOp op [a] pos) t:=fun pins s σ H Q I hw=>BoolOp_one (h pins s σ H Q I hw)
theorem pe_and(ha:PE X a ta)(hb:PE X (.BoolOp .And (b::rest) pos) tb):PE X (.BoolOp .And (a::b::rest) pos) (tAndV ta tb):=by
 intro pins s σ H Q I h
 refine BoolOp_and (thn (ha pins s σ H _ I h) fun v s1 ⟨x,H1,I1,r1,q1⟩=>?_)
 obtain⟨c,rfl,q1⟩:=q1
 cases r1
 refine wpAny_truthy_bool ?_
 cases c with
 | true=>exact hb pins s1 σ H1 Q I1 q1
 | false=>exact⟨.bl false,H1,I1,rfl,q1⟩
theorem pe_not(ha:PE X a ta):PE X (.UnaryOp .Not a pos) (tNotV ta):=by
 intro pins s σ H Q I h
 refine UnaryOp_ (thn (ha pins s σ H _ I h) fun v s1 ⟨x,H1,I1,r1,q1⟩=>?_)
 obtain⟨c,rfl,q1⟩:=q1
 cases r1
 exact not_of (wpAny_truthy_bool ⟨.bl (!c),H1,I1,rfl,q1⟩)
def tIf(t:TT)(ta tb:TE):TE:=fun σ H Q=>t σ H fun c H1=>if c=true then ta σ H1 Q else tb σ H1 Q
end
end L2
namespace L2
open PySem PySem.Spec PyProof.Rows
def SqL(K:PySem.W.Frag)(H:Hp)(a:Addr)(xs:List V):Prop :=
 Rd H a (.lst xs) \/
  ∃ (o:Obj) (its:Array Value) (n:Nat),K.lookup a=some o/\o.cls=.type "list"/\o.dict=none/\o.data=.seq its n/\its.size<=sizeLine/\Vals xs its.toList
def SqT(K:PySem.W.Frag)(H:Hp)(a:Addr)(xs:List V):Prop :=
 Rd H a (.tup xs) \/
  ∃ (o:Obj) (its:Array Value) (n:Nat),K.lookup a=some o/\o.cls=.type "tuple"/\o.data=.seq its n/\its.size<=sizeLine/\Vals xs its.toList
def absV:Value->Option V
 | .none=>some .non
 | .bool b=>some (.bl b)
 | .int i _=>some (.int i)
 | .str x _=>some (.str x)
 | .bytes b _=>some (.byt b)
 | .float b _=>some (.flt b)
 | .ref a=>some (.ref a)
 | .type n=>some (.ty n)
 | _=>none
theorem RelV.abs{x:V}{u:Value}(r:RelV x u):absV u=some x:=by
 cases x with
 | non=>cases r;rfl
 | bl _=>cases r;rfl
 | int _=>obtain⟨t,rfl⟩:=r;rfl
 | str _=>obtain⟨t,rfl⟩:=r;rfl
 | byt _=>obtain⟨t,rfl⟩:=r;rfl
 | flt _=>obtain⟨t,rfl⟩:=r;rfl
 | ref _=>cases r;rfl
 | ty _=>cases r;rfl
theorem RelV.inj{x y:V}{u:Value}(r:RelV x u)(q:RelV y u):x=y:=Option.some.inj (r.abs.symm.trans q.abs)
theorem Vals.inj:∀ {xs ys:List V} {us:List Value},Vals xs us->Vals ys us->xs=ys
 | _,_,_,.nil,.nil=>rfl
 | _,_,_,.cons r t,.cons r' t'=>by rw[r.inj r',Vals.inj t t']
section
variable{X:Cx}{pins:List (Addr×Obj)}{σ:St}{H:Hp}{s:Shared}{a:Addr}{xs ys:List V}
theorem SqL.of{K:PySem.W.Frag}(h:H a=some (.lst xs)):SqL K H a xs:=.inl (.inl h)
theorem SqT.of{K:PySem.W.Frag}(h:H a=some (.tup xs)):SqT K H a xs:=.inl (.inl h)
theorem Inv.list(I:Inv X pins σ H s)(h:SqL X.K H a xs):∃ its:List Value,Vals xs its/\PlainL s.heap a its.toArray/\xs.length<=sizeLine:=by
 rcases h with h | ⟨o,its,n,hk,hc,hd,hs,hz,r⟩
 ·obtain⟨z,its,n,r,e⟩:=h.ok I.hok
  exact⟨its,r,⟨_,n,e,rfl,rfl,rfl⟩,z⟩
 ·refine⟨its.toList,r,⟨o,n,I.kIn a o hk,hc,hd,by simpa using hs⟩,?_⟩
  have e:=r.length
  simp only[Array.length_toList]at e
  omega
theorem Inv.tuple(I:Inv X pins σ H s)(h:SqT X.K H a xs):∃ its:List Value,Vals xs its/\IsTup s.heap a its.toArray/\xs.length<=sizeLine:=by
 rcases h with h | ⟨o,its,n,hk,hc,hs,hz,r⟩
 ·obtain⟨⟨z,_⟩,its,r,p⟩:=h.ok I.hok
  exact⟨its,r,p,z⟩
 ·refine⟨its.toList,r,⟨o,I.kIn a o hk,hc,n,by simpa using hs⟩,?_⟩
  have e:=r.length
  simp only[Array.length_toList]at e
  omega
theorem Inv.list_inj(I:Inv X pins σ H s)(h:SqL X.K H a xs)(h':SqL X.K H a ys):xs=ys:=by
 obtain⟨its,r,⟨o,n,e,_,_,d⟩,_⟩:=I.list h
 obtain⟨its',r',⟨o',n',e',_,_,d'⟩,_⟩:=I.list h'
 rw[e]at e';cases e'
 rw[d]at d'
 injection d' with d1 _
 have:its=its':=by simpa using congrArg Array.toList d1
 subst this
 exact r.inj r'
theorem Inv.tuple_inj(I:Inv X pins σ H s)(h:SqT X.K H a xs)(h':SqT X.K H a ys):xs=ys:=by
 obtain⟨its,r,⟨o,e,_,n,d⟩,_⟩:=I.tuple h
 obtain⟨its',r',⟨o',e',_,n',d'⟩,_⟩:=I.tuple h'
 rw[e]at e';cases e'
 rw[d]at d'
 injection d' with d1 _
 have:its=its':=by simpa using congrArg Array.toList d1
 subst this
 exact r.inj r'
end
abbrev Cx.wish(X:Cx)(E:Value->Shared->Prop):Cx:={ X with xe:=E }
abbrev Cx.nox(X:Cx):Cx:=X.wish fun _ _=>False
theorem Cx.Ok.wish{X:Cx}(ok:X.Ok)(E:Value->Shared->Prop):(X.wish E).Ok :=
 ⟨ok.mod,ok.kind,ok.glob,ok.blt,ok.above,ok.inj,ok.has,ok.cab,ok.hd,ok.frames,ok.stk,ok.exf,ok.bs,ok.bsz,ok.noex,ok.exfs,ok.funs,ok.frf⟩
theorem Cx.Ok.unwish{X:Cx}{E:Value->Shared->Prop}(ok:(X.wish E).Ok):X.Ok :=
 ⟨ok.mod,ok.kind,ok.glob,ok.blt,ok.above,ok.inj,ok.has,ok.cab,ok.hd,ok.frames,ok.stk,ok.exf,ok.bs,ok.bsz,ok.noex,ok.exfs,ok.funs,ok.frf⟩
section
variable{X:Cx}{pins:List (Addr×Obj)}{σ:St}{H:Hp}{s:Shared}{E:Value->Shared->Prop}
theorem Inv.wish(I:Inv X pins σ H s)(E:Value->Shared->Prop):Inv (X.wish E) pins σ H s:=⟨I.ok.wish E,I.os,I.bare,I.base,I.loc,I.cell,I.free,I.freeC,I.pin,I.hok,I.len⟩
theorem Inv.unwish(I:Inv (X.wish E) pins σ H s):Inv X pins σ H s:=⟨I.ok.unwish,I.os,I.bare,I.base,I.loc,I.cell,I.free,I.freeC,I.pin,I.hok,I.len⟩
theorem SP.unwish{D:Ends}{f:Flow}{s':Shared}(h:SP (X.wish E) pins D f s'):SP X pins D f s':=by
 cases f with
 | next=>obtain⟨σ',H',I,q⟩:=h;exact⟨σ',H',I.unwish,q⟩
 | brk=>obtain⟨σ',H',I,q⟩:=h;exact⟨σ',H',I.unwish,q⟩
 | cont=>obtain⟨σ',H',I,q⟩:=h;exact⟨σ',H',I.unwish,q⟩
 | ret u=>obtain⟨v,σ',H',I,r,q⟩:=h;exact⟨v,σ',H',I.unwish,r,q⟩
theorem PSs.nox{st:List Stmt}{t:TS}(h:PSs X.nox st t):PSs X st t:=fun pins s σ H D I hw =>
 wpAny_mono (h pins s σ H D (I.wish _) hw) (fun _ _ q=>q.unwish) fun _ _ z=>False.elim z
end
section
variable{X:Cx}{st:Stmt}{rest:List Stmt}{t u:TS}{e:Expr}{te:TE}{pos:Pos}
def tNext:TS:=fun D σ H=>D.nx σ H
def tSeq(t u:TS):TS:=fun D σ H=>t { D with nx:=u D } σ H
theorem pss_nil:PSs X [] tNext:=fun _ _ σ H _ I h=>wpAny_execs_nil ⟨σ,H,I,h⟩
theorem pss_cons(h1:PS X st t)(h2:PSs X rest u):PSs X (st::rest) (tSeq t u):=by
 intro pins s σ H D I h
 refine wpAny_execs_cons (thn (h1 pins s σ H { D with nx:=u D } I h) fun f s1 q=>?_)
 cases f with
 | next =>
  obtain⟨σ',H',I',q⟩:=q
  exact h2 pins s1 σ' H' D I' q
 | ret v=>exact q
 | brk=>exact q
 | cont=>exact q
theorem pss_one(h1:PS X st t):PSs X [st] t:=by
 intro pins s σ H D I h
 refine wpAny_execs_cons (thn (h1 pins s σ H D I h) fun f s1 q=>?_)
 cases f with
 | next=>exact wpAny_execs_nil q
 | ret v=>exact q
 | brk=>exact q
 | cont=>exact q
theorem Inv.quiet{pins:List (Addr×Obj)}{σ:St}{H:Hp}{s:Shared}(I:Inv X pins σ H s):interactive X.env=false:=by simp[interactive,I.ok.kind]
def tDrop(te:TE):TS:=fun D σ H=>te σ H fun _ H1=>D.nx σ H1
theorem ps_expr(he:PE X e te)(hs:swapsWith e none pos.line X.env=pure false:=by rfl):PS X (.Expr e pos) (tDrop te):=by
 intro pins s σ H D I h
 exact wpAny_Expr_any (thn (he pins s σ H _ I h) fun v s1 ⟨x,H1,I1,r1,q1⟩=>⟨σ,H1,I1,q1⟩) I.quiet hs
def tRet(te:TE):TS:=fun D σ H=>te σ H D.rt
theorem ps_ret(he:PE X e te):PS X (.Return (some e) pos) (tRet te):=by
 intro pins s σ H D I h
 exact wpAny_Return_some (thn (he pins s σ H _ I h) fun v s1 ⟨x,H1,I1,r1,q1⟩=>⟨x,σ,H1,I1,r1,q1⟩)
def tRetN:TS:=fun D _ H=>D.rt .non H
def tIfS(c:TT)(t u:TS):TS:=fun D σ H=>c σ H fun b H1=>if b=true then t D σ H1 else u D σ H1
theorem ps_if{c:Expr}{a b:List Stmt}{tc:TT}(hc:PT X c tc)(ha:PSs X a t)(hb:PSs X b u):PS X (.If c a b pos) (tIfS tc t u):=by
 intro pins s σ H D I h
 refine wpAny_If (thn (hc pins s σ H _ I h) fun d s1 ⟨H1,I1,q1⟩=>?_)
 cases d with
 | true=>exact ha pins s1 σ H1 D I1 q1
 | false=>exact hb pins s1 σ H1 D I1 q1
end
abbrev TG:=V->St->Hp->(St->Hp->Prop)->Prop
abbrev TGs:=List V->St->Hp->(St->Hp->Prop)->Prop
def PG(X:Cx)(target:Expr)(t:TG):Prop :=
 ∀ (pins:List (Addr×Obj)) (s:Shared) (σ:St) (H:Hp) (v:V) (u:Value) (Q:St->Hp->Prop),Inv X pins σ H s->RelV v u->t v σ H Q ->
  wpAny (model X.prog X.w) X.A (assign target X.env u) (fun _ s'=>∃ σ' H',Inv X pins σ' H' s'/\Q σ' H') X.xe s
def PGs(X:Cx)(ts:List Expr)(t:TGs):Prop :=
 ∀ (pins:List (Addr×Obj)) (s:Shared) (σ:St) (H:Hp) (vs:List V) (us:List Value) (Q:St->Hp->Prop),Inv X pins σ H s->Vals vs us->t vs σ H Q ->
  wpAny (model X.prog X.w) X.A (assignInOrder ((assignEach ts X.env).map (·.2)) us) (fun _ s'=>∃ σ' H',Inv X pins σ' H' s'/\Q σ' H') X.xe s
section
variable{X:Cx}{pos:Pos}
def gName(i:Nat):TG:=fun v σ H Q=>Q (σ.set i (some v)) H
theorem pg_name{i:Nat}{x:Str}(hN:X.N.Nodup)(hi:X.N[i]?=some x)(hx:Loc X.env.scope x)(hf:X.fn x=true\/X.env.scope.names.lookup x=some .local:=by first | exact .inl rfl | exact .inr rfl | assumption):PG X (.Name x pos) (gName i):=by
 intro pins s σ H v u Q I r h
 exact wpAny_assign_Name (store_ok I hN hi hx r (fun s' I'=>⟨_,H,I',h⟩) hf)
def gNil:TGs:=fun vs σ H Q=>vs=[]/\Q σ H
def gCons(t:TG)(u:TGs):TGs:=fun vs σ H Q=>∃ v r,vs=v::r/\t v σ H fun σ' H'=>u r σ' H' Q
def gTup(K:PySem.W.Frag)(n:Nat)(t:TGs):TG:=fun v σ H Q=>∃ a xs,v=.ref a/\SqT K H a xs/\xs.length=n/\t xs σ H Q
def tAsg(te:TE)(g:TG):TS:=fun D σ H=>te σ H fun x H1=>g x σ H1 D.nx
theorem ps_set{i:Nat}{x:Str}{e:Expr}{te:TE}{pos':Pos}(hN:X.N.Nodup)(hi:X.N[i]?=some x)(hx:Loc X.env.scope x)(he:PE X e te)(hs:swapsWith e (some (.Name x pos')) pos.line X.env=pure false:=by rfl)(hf:X.fn x=true\/X.env.scope.names.lookup x=some .local:=by first | exact .inl rfl | exact .inr rfl | assumption) :
 PS X (.Assign [.Name x pos'] e pos) (tAsg te (gName i)):=by
 intro pins s σ H D I h
 refine wpAny_Assign_Name (thn (he pins s σ H _ I h) fun v s1 ⟨y,H1,I1,r1,q1⟩=>?_) hs
 exact store_ok I1 hN hi hx r1 (fun s2 I2=>⟨_,H1,I2,q1⟩) hf
end
section
variable{X:Cx}{pos:Pos}
end
structure It where
 go:Nat->Hp->Prop
 yld:Nat->Hp->V->Hp->Prop
 stop:Nat->Hp->Prop
def FpOk(X:Cx)(pins:List (Addr×Obj))(H:Hp)(b:Addr):Prop :=
 H b=none/\b≠X.env.locals/\b∉X.fs/\(b∈X.ex\/X.s₀.heap.objs.size<=b)/\(∀ x c,X.env.cells.lookup x=some c->c≠b)/\∀ p∈X.pn++pins,p.1≠b
theorem Inv.fpOk{X:Cx}{pins:List (Addr×Obj)}{σ:St}{H H':Hp}{s:Shared}{b:Addr}(I:Inv X pins σ H s)(hb:s.heap.objs.size<=b)(hn:H' b=none):FpOk X pins H' b:=by
 refine⟨hn,Nat.ne_of_gt (Nat.lt_of_lt_of_le I.lt hb),I.nofs hb,.inr (Nat.le_trans I.sz hb),fun x c e z=>?_,fun p hp z=>?_⟩
 ·obtain⟨v,q⟩:=I.cell x c e
  exact absurd (Nat.lt_of_lt_of_le q.lt (by rw[z];exact hb)) (Nat.lt_irrefl _)
 ·exact absurd (Nat.lt_of_lt_of_le (Heap.lt_size (I.pin p hp).1) (by rw[z];exact hb)) (Nat.lt_irrefl _)
structure Turn(P:Program)(w:World)(K:PySem.W.Frag)(tg:Expr)(J:It)(fp:List Addr)(it:Addr)(tn:Nat->Heap->Prop):Prop where
 mem:it∈fp
 obj:∀ i h,tn i h->∀ b∈fp,∃ o,h.get? b=some o/\∀ v,o.data≠.cell v
 keep:∀ i h h',tn i h->(∀ b∈fp,∀ o,h.get? b=some o->h'.get? b=some o)->tn i h'
 item:∀ (X:Cx),X.prog=P->X.w=w->X.K=K->X.calm=true->∀ (i:Nat) (pins:List (Addr×Obj)) (s:Shared) (σ:St) (H:Hp) (E:Value->Shared->Prop),Inv X pins σ H s->(∀ b∈fp,FpOk X pins H b)->tn i s.heap->J.go i H ->
  wpAny (model P w) X.A (pyNext (.ref it)) (fun r s1=>∃ u,r=some u /\
   wpAny (model P w) X.A (letOwnedTupleGo tg (.ref it) u) (fun _ s2=>∃ x H',Inv X pins σ H' s2/\RelV x u/\J.yld i H x H'/\tn (i+1) s2.heap/\∀ b∈fp,H' b=none) E s1) E s
 done:∀ (X:Cx),X.prog=P->X.w=w->X.K=K->X.calm=true->∀ (i:Nat) (pins:List (Addr×Obj)) (s:Shared) (σ:St) (H:Hp) (E:Value->Shared->Prop),Inv X pins σ H s->(∀ b∈fp,FpOk X pins H b)->tn i s.heap->J.stop i H ->
  wpAny (model P w) X.A (pyNext (.ref it)) (fun r s1=>r=none/\Inv X pins σ H s1) E s
 self:∀ (A:Around) (i:Nat) (s:Shared) (Q:Value->Shared->Prop) (E:Value->Shared->Prop),tn i s.heap->Q (.ref it) s->wpAny (model P w) A (pyIter (.ref it)) Q E s
abbrev TI:=St->Hp->(It->Hp->Prop)->Prop
def PIE(X:Cx)(pins:List (Addr×Obj))(σ:St)(tg:Expr)(R:It->Hp->Prop)(itv:Value)(s2:Shared):Prop :=
 ∃ (it:Addr) (fp:List Addr) (tn:Nat->Heap->Prop) (J:It) (H':Hp),itv=.ref it/\Inv X pins σ H' s2/\Turn X.prog X.w X.K tg J fp it tn/\tn 0 s2.heap/\(∀ b∈fp,FpOk X pins H' b)/\R J H'
def PI(X:Cx)(tg iter:Expr)(wi:TI):Prop :=
 ∀ (pins:List (Addr×Obj)) (s:Shared) (σ:St) (H:Hp) (R:It->Hp->Prop),Inv X pins σ H s->wi σ H R ->
  wpAny (model X.prog X.w) X.A (eval iter X.env) (fun v s1=>wpAny (model X.prog X.w) X.A (pyIter v) (PIE X pins σ tg R) X.xe s1) X.xe s
theorem go_of{M:Model}{A:Around}{E:Value->Shared->Prop}{s:Shared}{tg:Expr}{it:Addr}{u:Value}{o:Obj}{n:String}{vs:Array Value}{Q:Unit->Shared->Prop}(ho:s.heap.get? it=some o)(hc:o.cls=.type n)(hd:o.data=.fields vs)
 (hn:["enumerate","zip","dict_itemiterator","dict_reverseitemiterator","odict_iterator","itertools.zip_longest","itertools.pairwise"].contains n=false) (hQ:Q () s):wpAny M A (letOwnedTupleGo tg (.ref it) u) Q E s:=by
 unfold letOwnedTupleGo
 cases tg <;> first
  | exact wpAny_pure hQ
  | (cases u <;> first
   | exact wpAny_pure hQ
   | (refine wpAny_bind (wpAny_load ho ?_)
      rw[hc,hd]
      show wpAny M A (if (["enumerate","zip","dict_itemiterator","dict_reverseitemiterator","odict_iterator","itertools.zip_longest","itertools.pairwise"].contains n && vs[0]? == some (rawInt _))=true then _ else _) Q E s
      rw[if_neg (by intro h;rw[hn,Bool.false_and]at h;cases h)]
      exact wpAny_pure hQ))
def Itl(K:PySem.W.Frag)(a:Addr):It :=
 ⟨fun i H=>∃ xs x,SqL K H a xs/\xs[i]?=some x,fun i H x H'=>H'=H/\∀ xs,SqL K H a xs->xs[i]?=some x,fun i H=>∃ xs,SqL K H a xs/\xs.length<=i⟩
def Itt(K:PySem.W.Frag)(a:Addr):It :=
 ⟨fun i H=>∃ xs x,SqT K H a xs/\xs[i]?=some x,fun i H x H'=>H'=H/\∀ xs,SqT K H a xs->xs[i]?=some x,fun i H=>∃ xs,SqT K H a xs/\xs.length<=i⟩
def Itr(lo:Int)(n:Nat):It:=⟨fun i _=>i < n,fun i H x H'=>H'=H/\x=.int (lo+i),fun i _=>n<=i⟩
theorem turn_list{P:Program}{w:World}{K:PySem.W.Frag}{tg:Expr}(a it:Addr):Turn P w K tg (Itl K a) [it] it (fun i h=>h.IsListIter it a i) where
 mem:=by simp
 obj:=fun i h st b hb=>by
  have e:b=it:=by simpa using hb
  subst e
  obtain⟨o,e,c,d⟩:=st
  exact⟨o,e,fun v z=>by rw[d]at z;cases z⟩
 keep:=fun i h h' st k=>st.at fun o e=>k it (by simp) o e
 item:=by
  intro X hP hw hK hc i pins s σ H E I hf st hg
  subst hP hw hK
  obtain⟨xs,x,hq,hx⟩:=hg
  obtain⟨its,rv,p,hz⟩:=I.list hq
  obtain⟨u,hu,ru⟩:=rv.get hx
  obtain⟨f0,f1,f2,f3,f4,f5⟩:=hf it (by simp)
  refine wpAny_pyNext_list_item st p.isList (x:=u) (by simpa using hu) fun h' st' sb=>?_
  have I1:Inv X pins σ H { s with heap:=h' }:=I.turned (t':=s.toks) (fun b o hb e=>(sb.2 b hb).trans e) f0 f1 f3 f4 f5
  obtain⟨o,e,c,d⟩:=id st'
  exact⟨u,rfl,go_of (s:={ s with heap:=h' }) e c d (by decide) ⟨x,H,I1,ru,⟨rfl,fun ys hy=>by rw[I.list_inj hy hq];exact hx⟩,st',fun b hb=>(hf b hb).1⟩⟩
 done:=by
  intro X hP hw hK hc i pins s σ H E I hf st hg
  subst hP hw hK
  obtain⟨xs,hq,hx⟩:=hg
  obtain⟨its,rv,p,hz⟩:=I.list hq
  obtain⟨f0,f1,f2,f3,f4,f5⟩:=hf it (by simp)
  have hl:=rv.length
  exact wpAny_pyNext_list_end (I.ok.hd hc) st p.isList (by simp;omega) fun h' eb=>⟨rfl,I.turned (t':=s.toks) (fun b o hb e=>eb b o hb e) f0 f1 f3 f4 f5⟩
 self:=fun _ _ _ _ _ st h=>wpAny_pyIter_listiter st h
theorem turn_tuple{P:Program}{w:World}{K:PySem.W.Frag}{tg:Expr}(a it:Addr):Turn P w K tg (Itt K a) [it] it (fun i h=>h.IsTupleIter it a i) where
 mem:=by simp
 obj:=fun i h st b hb=>by
  have e:b=it:=by simpa using hb
  subst e
  obtain⟨o,e,c,d⟩:=st
  exact⟨o,e,fun v z=>by rw[d]at z;cases z⟩
 keep:=fun i h h' st k=>st.at fun o e=>k it (by simp) o e
 item:=by
  intro X hP hw hK hc i pins s σ H E I hf st hg
  subst hP hw hK
  obtain⟨xs,x,hq,hx⟩:=hg
  obtain⟨its,rv,p,hz⟩:=I.tuple hq
  obtain⟨u,hu,ru⟩:=rv.get hx
  obtain⟨f0,f1,f2,f3,f4,f5⟩:=hf it (by simp)
  refine wpAny_pyNext_tuple_item st (show s.heap.IsTuple a its.toArray from p) (x:=u) (by simpa using hu) fun h' st' sb=>?_
  have I1:Inv X pins σ H { s with heap:=h' }:=I.turned (t':=s.toks) (fun b o hb e=>(sb.2 b hb).trans e) f0 f1 f3 f4 f5
  obtain⟨o,e,c,d⟩:=id st'
  exact⟨u,rfl,go_of (s:={ s with heap:=h' }) e c d (by decide) ⟨x,H,I1,ru,⟨rfl,fun ys hy=>by rw[I.tuple_inj hy hq];exact hx⟩,st',fun b hb=>(hf b hb).1⟩⟩
 done:=by
  intro X hP hw hK hc i pins s σ H E I hf st hg
  subst hP hw hK
  obtain⟨xs,hq,hx⟩:=hg
  obtain⟨its,rv,p,hz⟩:=I.tuple hq
  obtain⟨f0,f1,f2,f3,f4,f5⟩:=hf it (by simp)
  have hl:=rv.length
  exact wpAny_pyNext_tuple_end (I.ok.hd hc) st (show s.heap.IsTuple a its.toArray from p) (by simp;omega) fun h' eb=>⟨rfl,I.turned (t':=s.toks) (fun b o hb e=>eb b o hb e) f0 f1 f3 f4 f5⟩
 self:=fun _ _ _ _ _ st h=>wpAny_pyIter_tupleiter st h
theorem turn_range{P:Program}{w:World}{K:PySem.W.Frag}{tg:Expr}(it:Addr)(lo:Int)(n:Nat):Turn P w K tg (Itr lo n) [it] it (fun i h=>IsRangeIter h it (lo+(i:Nat) * 1) ((n:Int) - (i:Nat)) 1) where
 mem:=by simp
 obj:=fun i h st b hb=>by
  have e:b=it:=by simpa using hb
  subst e
  exact⟨_,st,fun v z=>by
   have z':Data.fields _=Data.cell v:=z
   cases z'⟩
 keep:=fun i h h' st k=>k it (by simp) _ st
 item:=by
  intro X hP hw hK hc i pins s σ H E I hf st hg
  subst hP hw hK
  obtain⟨f0,f1,f2,f3,f4,f5⟩:=hf it (by simp)
  have W:=Walks.range (prog:=X.prog) (w:=X.w) (I.ok.hd hc) it lo 1 n
  refine W.item i s _ _ hg st fun v h' tk hv st' kk=>?_
  obtain⟨t,rfl⟩:=hv
  have I1:Inv X pins σ H { s with heap:=h',toks:=tk }:=I.turned (fun b o hb e=>kk b o (by simpa using hb) e) f0 f1 f3 f4 f5
  refine⟨_,rfl,go_of (s:={ s with heap:=h',toks:=tk }) (n:="range_iterator") st' rfl rfl (by decide) ⟨.int (lo+i),H,I1,⟨t,?_⟩,⟨rfl,rfl⟩,st',fun b hb=>(hf b hb).1⟩⟩
  rw[Int.mul_one]
 done:=by
  intro X hP hw hK hc i pins s σ H E I hf st hg
  subst hP hw hK
  obtain⟨f0,f1,f2,f3,f4,f5⟩:=hf it (by simp)
  exact wpAny_pyNext_range_end (I.ok.hd hc) st (by have:n<=i:=hg;omega) fun h' eb=>⟨rfl,I.turned (t':=s.toks) (fun b o hb e=>eb b o hb e) f0 f1 f3 f4 f5⟩
 self:=fun _ _ _ _ _ st h=>wpAny_pyIter_rangeiter st h
end L2
namespace L2
open PySem PySem.Spec PyProof.Rows
section
variable{X:Cx}{tg:Expr}
def iList(K:PySem.W.Frag)(tl:TE):TI:=fun σ H R=>tl σ H fun x H1=>∃ a,x=.ref a/\(∃ xs,SqL K H1 a xs)/\R (Itl K a) H1
def iTup(K:PySem.W.Frag)(tl:TE):TI:=fun σ H R=>tl σ H fun x H1=>∃ a,x=.ref a/\(∃ xs,SqT K H1 a xs)/\R (Itt K a) H1
theorem pi_list{l:Expr}{tl:TE}(hl:PE X l tl):PI X tg l (iList X.K tl):=by
 intro pins s σ H R I h
 refine thn (hl pins s σ H _ I h) fun v s1 ⟨x,H1,I1,r1,q1⟩=>?_
 obtain⟨a,e,⟨xs,hq⟩,q⟩:=q1
 subst e
 cases r1
 obtain⟨its,rv,p,hz⟩:=I1.list hq
 refine wpAny_pyIter_list p.isList ?_
 refine⟨s1.heap.objs.size,[s1.heap.objs.size],_,_,H1,rfl,I1.kept (t':=s1.toks) fun b o e=>Heap.get?_push_of_some _ e,turn_list a _,⟨_,Heap.get?_push_size _ rfl,rfl,rfl⟩,fun b hb=>?_,q⟩
 have e:b=s1.heap.objs.size:=by simpa using hb
 subst e
 exact I1.fpOk (Nat.le_refl _) (I1.hok.fresh (Nat.le_refl _))
theorem pi_tup{l:Expr}{tl:TE}(hl:PE X l tl):PI X tg l (iTup X.K tl):=by
 intro pins s σ H R I h
 refine thn (hl pins s σ H _ I h) fun v s1 ⟨x,H1,I1,r1,q1⟩=>?_
 obtain⟨a,e,⟨xs,hq⟩,q⟩:=q1
 subst e
 cases r1
 obtain⟨its,rv,p,hz⟩:=I1.tuple hq
 refine wpAny_pyIter_tuple (show s1.heap.IsTuple a its.toArray from p) ?_
 refine⟨s1.heap.objs.size,[s1.heap.objs.size],_,_,H1,rfl,I1.kept (t':=s1.toks) fun b o e=>Heap.get?_push_of_some _ e,turn_tuple a _,⟨_,Heap.get?_push_size _ rfl,rfl,rfl⟩,fun b hb=>?_,q⟩
 have e:b=s1.heap.objs.size:=by simpa using hb
 subst e
 exact I1.fpOk (Nat.le_refl _) (I1.hok.fresh (Nat.le_refl _))
theorem range_it{pins:List (Addr×Obj)}{σ:St}{H:Hp}{s:Shared}{R:It->Hp->Prop}{E:Value->Shared->Prop}{lo hi:Int}{t u v:Tok}{tk:Nat}(I:Inv X pins σ H s)(h1 : -(2 ^ 62)<=lo)(h2:lo < 2 ^ 62)(h3 : -(2 ^ 62)<=hi)(h4:hi < 2 ^ 62)
 (q:R (Itr lo (hi - lo).toNat) H):wpAny (model X.prog X.w) X.A (pyIter (.ref s.heap.objs.size)) (PIE X pins σ tg R) E { s with heap:=s.heap.push { cls:=.type "range",data:=.fields #[.int lo t,.int hi u,.int 1 v] },toks:=tk }:=by
 refine wpAny_pyIter_range (IsRange.new ..) (small_one h1 h2 h3 h4) ?_
 have I1:Inv X pins σ H { s with heap:=s.heap.push { cls:=.type "range",data:=.fields #[.int lo t,.int hi u,.int 1 v] },toks:=tk }:=I.kept fun b o e=>Heap.get?_push_of_some _ e
 refine⟨(s.heap.push { cls:=.type "range",data:=.fields #[.int lo t,.int hi u,.int 1 v] }).objs.size,[(s.heap.push { cls:=.type "range",data:=.fields #[.int lo t,.int hi u,.int 1 v] }).objs.size],_,_,H,rfl,
  I1.kept (t':=tk) fun b o e=>Heap.get?_push_of_some _ e,turn_range _ lo (hi - lo).toNat,?_,fun b hb=>?_,q⟩
 ·have e1:lo+((0:Nat):Int) * 1=lo:=by simp
  have e2:(((hi - lo).toNat:Nat):Int) - ((0:Nat):Int)=Builtin.Range.rangeSize lo hi 1:=by rw[rangeSize_one];split <;> omega
  show IsRangeIter _ _ (lo+((0:Nat):Int) * 1) ((((hi - lo).toNat:Nat):Int) - ((0:Nat):Int)) 1
  rw[e1,e2]
  exact Heap.get?_push_size _ rfl
 ·have e:b=(s.heap.push { cls:=.type "range",data:=.fields #[.int lo t,.int hi u,.int 1 v] }).objs.size:=by simpa using hb
  subst e
  exact I1.fpOk (Nat.le_refl _) (I1.hok.fresh (Nat.le_refl _))
def iRng1(ta:TA):TI:=fun σ H R=>ta σ H fun vs H1=>∃ j:Int,vs=[.int j] /\ -(2 ^ 62)<=j/\j < 2 ^ 62/\R (Itr 0 j.toNat) H1
def iRng2(ta:TA):TI:=fun σ H R=>ta σ H fun vs H1=>∃ i j:Int,vs=[.int i,.int j]/\(-(2 ^ 62)<=i/\i < 2 ^ 62 /\ -(2 ^ 62)<=j/\j < 2 ^ 62)/\R (Itr i (j - i).toNat) H1
theorem pi_range1{a:Expr}{ta:TA}{p pos:Pos}(hg:Gl X "range")(hm:X.mg "range"=none)(ha:PA X [a] ta)(hs:starEach [a] X.env=[(false,eval a X.env)]:=by rfl):PI X tg (.Call (.Name "range" p) [a] [] pos) (iRng1 ta):=by
 intro pins s σ H R I h
 refine Call_ (ld_blt I hg hm boot_range (PyProof.Rows.callWith_type1 (thn (ha pos pins s σ H _ I h) fun us s1 ⟨vs,H1,I1,r1,q1⟩=>?_) hs rfl))
 obtain⟨j,e,q1,q2,q⟩:=q1
 subst e
 cases r1 with
 | cons r rr =>
  cases rr
  obtain⟨t,rfl⟩:=r
  exact call_range_1 (range_it I1 (by omega) (by omega) q1 q2 (by simpa using q))
theorem pi_range2{a b:Expr}{ta:TA}{p pos:Pos}(hg:Gl X "range")(hm:X.mg "range"=none)(ha:PA X [a,b] ta)(hs:starEach [a,b] X.env=[(false,eval a X.env),(false,eval b X.env)]:=by rfl)(hs2:starEach [b] X.env=[(false,eval b X.env)]:=by rfl) :
 PI X tg (.Call (.Name "range" p) [a,b] [] pos) (iRng2 ta):=by
 intro pins s σ H R I h
 refine Call_ (ld_blt I hg hm boot_range (PyProof.Rows.callWith_type1 (thn (ha pos pins s σ H _ I h) fun us s1 ⟨vs,H1,I1,r1,q1⟩=>?_) (by rw[hs,hs2]) (by rw[hs2];rfl)))
 obtain⟨i,j,e,⟨q1,q2,q3,q4⟩,q⟩:=q1
 subst e
 cases r1 with
 | cons r rr =>
  cases rr with
  | cons r' rr =>
   cases rr
   obtain⟨t,rfl⟩:=r
   obtain⟨t',rfl⟩:=r'
   exact call_range_2 (range_it I1 q1 q2 q3 q4 q)
def tFor(wi:TI)(g:TG)(tb:TS):TS:=fun D σ H=>wi σ H fun J H1=>∃ W:Nat->Nat->St->Hp->Prop,(∃ m,W 0 m σ H1)/\∀ i m σ H,W i m σ H ->
 (J.stop i H/\D.nx σ H)\/(J.go i H/\∃ N:St->Hp->Prop,(∀ σ' H',N σ' H'->∃ m',m' < m/\W (i+1) m' σ' H')/\∀ x H',J.yld i H x H'->g x σ H' fun σ2 H2=>tb { D with nx:=N,ct:=N,bk:=D.nx } σ2 H2)
def pinsAt(fp:List Addr)(h:Heap):List (Addr×Obj):=fp.filterMap fun b=>(h.get? b).map fun o=>(b,o)
theorem mem_pinsAt{fp:List Addr}{h:Heap}{b:Addr}{o:Obj}(hb:b∈fp)(e:h.get? b=some o):(b,o)∈pinsAt fp h:=List.mem_filterMap.mpr ⟨b,hb,by rw[e];rfl⟩
theorem of_pinsAt{fp:List Addr}{h:Heap}{p:Addr×Obj}(hp:p∈pinsAt fp h):p.1∈fp/\h.get? p.1=some p.2:=by
 obtain⟨b,hb,e⟩:=List.mem_filterMap.mp hp
 cases q:h.get? b with
 | none=>rw[q]at e;cases e
 | some o =>
  rw[q]at e
  have e':(b,o)=p:=Option.some.inj e
  subst e'
  exact⟨hb,q⟩
theorem Inv.pinned{pins:List (Addr×Obj)}{σ:St}{H:Hp}{s:Shared}{fp:List Addr}(I:Inv X pins σ H s)(hf:∀ b∈fp,FpOk X pins H b)(ho:∀ b∈fp,∃ o,s.heap.get? b=some o/\∀ v,o.data≠.cell v):Inv X (pins++pinsAt fp s.heap) σ H s :=
 I.pins_of fun p hp=>(List.mem_append.mp hp).elim (fun z=>I.pin p (List.mem_append_right _ z)) fun z=>by
  obtain⟨hb,e⟩:=of_pinsAt z
  obtain⟨f0,f1,f2,_⟩:=hf p.1 hb
  obtain⟨o,e',d⟩:=ho p.1 hb
  rw[e]at e';cases e'
  exact⟨e,f0,f1,f2,d⟩
theorem Inv.unpinned{pins pl:List (Addr×Obj)}{σ:St}{H:Hp}{s:Shared}(I:Inv X (pins++pl) σ H s):Inv X pins σ H s:=I.pins_of fun p hp=>I.pin p (List.mem_append_right _ (List.mem_append_left _ hp))
theorem ps_for{iter:Expr}{body:List Stmt}{wi:TI}{g:TG}{tb:TS}{pos:Pos}(hp:PassesOwn (model X.prog X.w) X.A X.env X.xe)(hc:X.calm=true)(hi:PI X tg iter wi)(hg:PG X tg g)(hb:PSs X body tb)
 (hs:∀ x,foldedSetIterable iter X.env x=pure x:=by intro _;rfl):PS X (.For tg iter body [] pos) (tFor wi g tb):=by
 intro pins s σ H D I h
 refine wpAny_For (thn (hi pins s σ H _ I h) fun v s1 h1=>thn h1 fun itv s2 h2=>?_) hs
 obtain⟨it,fp,tn,J,H2,e,I2,T,st2,f2,W,⟨m0,w0⟩,turn⟩:=h2
 subst e
 have stat:∀ {H':Hp},(∀ b∈fp,H' b=none)->∀ b∈fp,FpOk X pins H' b:=fun hn b hb=>⟨hn b hb,(f2 b hb).2⟩
 refine codeAny_forLoop_any (fun n s'=>∃ i σ' H',Inv X pins σ' H' s'/\tn i s'.heap/\(∀ b∈fp,H' b=none)/\W i n σ' H') ?_ m0 ⟨0,σ,H2,I2,st2,fun b hb=>(f2 b hb).1,w0⟩
 rintro n s3 ⟨i,σ3,H3,I3,st3,fr3,w3⟩
 rcases turn i n σ3 H3 w3 with ⟨stop,qn⟩ | ⟨go,N,hN,step⟩
 ·refine wpAny_passesOwn hp (thn (T.done X rfl rfl rfl hc i pins s3 σ3 H3 X.xe I3 (stat fr3) st3 stop) fun r s4 ⟨hr,I4⟩=>?_)
  subst hr
  exact wpAny_execs_nil ⟨σ3,H3,I4,qn⟩
 ·refine wpAny_passesOwn hp (thn (T.item X rfl rfl rfl hc i pins s3 σ3 H3 X.xe I3 (stat fr3) st3 go) fun r s4 ⟨u,hr,h4⟩=>?_)
  subst hr
  refine wpAny_passesOwn hp (thn h4 fun _ s5 ⟨x,H5,I5,r5,y5,st5,fr5⟩=>?_)
  have I5':=I5.pinned (stat fr5) (T.obj _ _ st5)
  refine wpAny_passesOwn hp (thn (hg _ s5 σ3 H5 x u _ I5' r5 (step x H5 y5)) fun _ s6 ⟨σ6,H6,I6,q6⟩=>?_)
  refine wpAny_passesOwn hp (thn (hb _ s6 σ6 H6 _ I6 q6) fun f s7 q7=>?_)
  have again:∀ {σ7:St} {H7:Hp},Inv X (pins++pinsAt fp s5.heap) σ7 H7 s7->N σ7 H7->∃ m,m < n/\∃ i σ' H',Inv X pins σ' H' s7/\tn i s7.heap/\(∀ b∈fp,H' b=none)/\W i m σ' H':=fun {σ7 H7} I7 n7=>by
   obtain⟨m',hm,w7⟩:=hN σ7 H7 n7
   refine⟨m',hm,i+1,σ7,H7,I7.unpinned,T.keep _ _ _ st5 fun b hb o e=>(I7.pin (b,o) (List.mem_append_right _ (List.mem_append_right _ (mem_pinsAt hb e)))).1,fun b hb=>?_,w7⟩
   obtain⟨o,e,d⟩:=T.obj _ _ st5 b hb
   exact(I7.pin (b,o) (List.mem_append_right _ (List.mem_append_right _ (mem_pinsAt hb e)))).2.1
  cases f with
  | next=>obtain⟨σ7,H7,I7,n7⟩:=q7;exact again I7 n7
  | cont=>obtain⟨σ7,H7,I7,n7⟩:=q7;exact again I7 n7
  | brk=>obtain⟨σ7,H7,I7,q7⟩:=q7;exact⟨σ7,H7,I7.unpinned,q7⟩
  | ret v=>obtain⟨x7,σ7,H7,I7,r7,q7⟩:=q7;exact⟨x7,σ7,H7,I7.unpinned,r7,q7⟩
end
theorem for_list{K:PySem.W.Frag}{a:Addr}{xs:List V}{g:TG}{tb:TS}{D:Ends}{σ:St}{H:Hp}(Pv:Nat->St->Hp->Prop)(h0:Pv 0 σ H)(hl:∀ i σ H,i<=xs.length->Pv i σ H->SqL K H a xs)
 (hs:∀ i x σ H,xs[i]?=some x->Pv i σ H->g x σ H fun σ2 H2=>tb { D with nx:=Pv (i+1),ct:=Pv (i+1),bk:=D.nx } σ2 H2) (hd:∀ σ H,Pv xs.length σ H->D.nx σ H) :
 ∃ W:Nat->Nat->St->Hp->Prop,(∃ m,W 0 m σ H)/\∀ i m σ H,W i m σ H ->
  ((Itl K a).stop i H/\D.nx σ H)\/((Itl K a).go i H/\∃ N:St->Hp->Prop,(∀ σ' H',N σ' H'->∃ m',m' < m/\W (i+1) m' σ' H')/\∀ x H',(Itl K a).yld i H x H'->g x σ H' fun σ2 H2=>tb { D with nx:=N,ct:=N,bk:=D.nx } σ2 H2):=by
 refine⟨fun i m σ H=>m=xs.length - i/\i<=xs.length/\Pv i σ H,⟨xs.length,by simp,Nat.zero_le _,h0⟩,?_⟩
 rintro i m σ H ⟨rfl,hi,p⟩
 have q:=hl i σ H hi p
 by_cases hlt:i < xs.length
 ·refine .inr ⟨⟨xs,xs[i],q,by simp[hlt]⟩,Pv (i+1),fun σ' H' p'=>⟨xs.length - (i+1),by omega,rfl,hlt,p'⟩,fun x H' y=>?_⟩
  obtain⟨e,y⟩:=y
  subst e
  exact hs i x σ _ (y xs q) p
 ·have e:i=xs.length:=by omega
  subst e
  exact .inl ⟨⟨xs,q,Nat.le_refl _⟩,hd σ H p⟩
theorem for_tup{K:PySem.W.Frag}{a:Addr}{xs:List V}{g:TG}{tb:TS}{D:Ends}{σ:St}{H:Hp}(Pv:Nat->St->Hp->Prop)(h0:Pv 0 σ H)(hl:∀ i σ H,i<=xs.length->Pv i σ H->SqT K H a xs)
 (hs:∀ i x σ H,xs[i]?=some x->Pv i σ H->g x σ H fun σ2 H2=>tb { D with nx:=Pv (i+1),ct:=Pv (i+1),bk:=D.nx } σ2 H2) (hd:∀ σ H,Pv xs.length σ H->D.nx σ H) :
 ∃ W:Nat->Nat->St->Hp->Prop,(∃ m,W 0 m σ H)/\∀ i m σ H,W i m σ H ->
  ((Itt K a).stop i H/\D.nx σ H)\/((Itt K a).go i H/\∃ N:St->Hp->Prop,(∀ σ' H',N σ' H'->∃ m',m' < m/\W (i+1) m' σ' H')/\∀ x H',(Itt K a).yld i H x H'->g x σ H' fun σ2 H2=>tb { D with nx:=N,ct:=N,bk:=D.nx } σ2 H2):=by
 refine⟨fun i m σ H=>m=xs.length - i/\i<=xs.length/\Pv i σ H,⟨xs.length,by simp,Nat.zero_le _,h0⟩,?_⟩
 rintro i m σ H ⟨rfl,hi,p⟩
 have q:=hl i σ H hi p
 by_cases hlt:i < xs.length
 ·refine .inr ⟨⟨xs,xs[i],q,by simp[hlt]⟩,Pv (i+1),fun σ' H' p'=>⟨xs.length - (i+1),by omega,rfl,hlt,p'⟩,fun x H' y=>?_⟩
  obtain⟨e,y⟩:=y
  subst e
  exact hs i x σ _ (y xs q) p
 ·have e:i=xs.length:=by omega
  subst e
  exact .inl ⟨⟨xs,q,Nat.le_refl _⟩,hd σ H p⟩
theorem for_range{lo:Int}{n:Nat}{g:TG}{tb:TS}{D:Ends}{σ:St}{H:Hp}(Pv:Nat->St->Hp->Prop)(h0:Pv 0 σ H)
 (hs:∀ i σ H,i < n->Pv i σ H->g (.int (lo+i)) σ H fun σ2 H2=>tb { D with nx:=Pv (i+1),ct:=Pv (i+1),bk:=D.nx } σ2 H2) (hd:∀ σ H,Pv n σ H->D.nx σ H) :
 ∃ W:Nat->Nat->St->Hp->Prop,(∃ m,W 0 m σ H)/\∀ i m σ H,W i m σ H ->
  ((Itr lo n).stop i H/\D.nx σ H)\/((Itr lo n).go i H/\∃ N:St->Hp->Prop,(∀ σ' H',N σ' H'->∃ m',m' < m/\W (i+1) m' σ' H')/\∀ x H',(Itr lo n).yld i H x H'->g x σ H' fun σ2 H2=>tb { D with nx:=N,ct:=N,bk:=D.nx } σ2 H2):=by
 refine⟨fun i m σ H=>m=n - i/\i<=n/\Pv i σ H,⟨n,by simp,Nat.zero_le _,h0⟩,?_⟩
 rintro i m σ H ⟨rfl,hi,p⟩
 by_cases hlt:i < n
 ·refine .inr ⟨hlt,Pv (i+1),fun σ' H' p'=>⟨n - (i+1),by omega,rfl,hlt,p'⟩,fun x H' y=>?_⟩
  obtain⟨e,y⟩:=y
  subst e y
  exact hs i σ _ hlt p
 ·have e:i=n:=by omega
  subst e
  exact .inl ⟨Nat.le_refl _,hd σ H p⟩
end L2
namespace L2
open PySem PySem.Spec PyProof.Rows
abbrev R2:=V->V->Hp->VK->Prop
def OpR(X:Cx)(f:Value->Value->Sem Value)(r:R2):Prop :=
 ∀ (pins:List (Addr×Obj)) (s:Shared) (σ:St) (H:Hp) (x y:V) (v u:Value) (Q:VK),Inv X pins σ H s->RelV x v->RelV y u->r x y H Q ->
  wpAny (model X.prog X.w) X.A (f v u) (EP X pins σ Q) X.xe s
def UnR(X:Cx)(f:Value->Sem Value)(r:V->Hp->VK->Prop):Prop :=
 ∀ (pins:List (Addr×Obj)) (s:Shared) (σ:St) (H:Hp) (x:V) (v:Value) (Q:VK),Inv X pins σ H s->RelV x v->r x H Q ->
  wpAny (model X.prog X.w) X.A (f v) (EP X pins σ Q) X.xe s
def CallR(X:Cx)(f:Value)(r:List V->Hp->VK->Prop):Prop :=
 ∀ (pins:List (Addr×Obj)) (s:Shared) (σ:St) (H:Hp) (xs:List V) (us:List Value) (Q:VK),Inv X pins σ H s->Vals xs us->r xs H Q ->
  wpAny (model X.prog X.w) X.A (call f us) (EP X pins σ Q) X.xe s
def TruR(X:Cx)(r:V->Hp->(Bool->Hp->Prop)->Prop):Prop :=
 ∀ (pins:List (Addr×Obj)) (s:Shared) (σ:St) (H:Hp) (x:V) (v:Value) (Q:Bool->Hp->Prop),Inv X pins σ H s->RelV x v->r x H Q ->
  wpAny (model X.prog X.w) X.A (truthy v) (TP X pins σ Q) X.xe s
def tOp(r:R2)(ta tb:TE):TE:=fun σ H Q=>ta σ H fun x H1=>tb σ H1 fun y H2=>r x y H2 Q
def tUn(r:V->Hp->VK->Prop)(ta:TE):TE:=fun σ H Q=>ta σ H fun x H1=>r x H1 Q
def rI(C:Int->Int->Prop)(g:Int->Int->V):R2:=fun x y H Q=>∃ i j,x=.int i/\y=.int j/\C i j/\Q (g i j) H
def rI0(g:Int->Int->V):R2:=fun x y H Q=>∃ i j,x=.int i/\y=.int j/\Q (g i j) H
def rU(g:Int->V):V->Hp->VK->Prop:=fun x H Q=>∃ i,x=.int i/\Q (g i) H
section
variable{X:Cx}{a b c:Expr}{ta tb tc:TE}{pos:Pos}
theorem binT(ha:PE X a ta)(hb:PE X b tb){pins:List (Addr×Obj)}{s:Shared}{σ:St}{H:Hp}{R:V->V->Hp->Prop}(I:Inv X pins σ H s)
 (h:ta σ H fun x H1=>tb σ H1 fun y H2=>R x y H2) {Q:Value->Shared->Prop} {f:Value->Value->Sem Value}
 (hf:∀ v u s2 x y H2,Inv X pins σ H2 s2->RelV x v->RelV y u->R x y H2->wpAny (model X.prog X.w) X.A (f v u) Q X.xe s2) :
 wpAny (model X.prog X.w) X.A (eval a X.env) (fun v s₁=>wpAny (model X.prog X.w) X.A (eval b X.env) (fun u s₂=>wpAny (model X.prog X.w) X.A (f v u) Q X.xe s₂) X.xe s₁) X.xe s:=by
 refine thn (ha pins s σ H _ I h) fun v s1 ⟨x,H1,I1,r1,q1⟩=>?_
 refine thn (hb pins s1 σ H1 _ I1 q1) fun u s2 ⟨y,H2,I2,r2,q2⟩=>?_
 exact hf v u s2 x y H2 I2 r1 r2 q2
theorem pe_op{op:Operator}{r:R2}(ho:OpR X (binaryOp op) r)(ha:PE X a ta)(hb:PE X b tb):PE X (.BinOp a op b pos) (tOp r ta tb):=by
 intro pins s σ H Q I h
 exact wpAny_BinOp (binT ha hb I h fun v u s2 x y H2 I2 rx ry q=>ho pins s2 σ H2 x y v u Q I2 rx ry q)
theorem pe_un{op:UnaryOp}{r:V->Hp->VK->Prop}(ho:UnR X (unaryOp op) r)(ha:PE X a ta):PE X (.UnaryOp op a pos) (tUn r ta):=by
 intro pins s σ H Q I h
 exact UnaryOp_ (thn (ha pins s σ H _ I h) fun v s1 ⟨x,H1,I1,r1,q1⟩=>ho pins s1 σ H1 x v Q I1 r1 q1)
theorem opI{f:Value->Value->Sem Value}{C:Int->Int->Prop}{g:Int->Int->Int}
 (rule:∀ (i j:Int) (t u:Tok) (s:Shared) (Q:Value->Shared->Prop) (E:Value->Shared->Prop),C i j->Q (.int (g i j) s.toks) { s with toks:=s.toks+1 }->wpAny (model X.prog X.w) X.A (f (.int i t) (.int j u)) Q E s) :
 OpR X f (rI C fun i j=>.int (g i j)):=by
 intro pins s σ H x y v u Q I rx ry h
 obtain⟨i,j,rfl,rfl,hc,q⟩:=h
 obtain⟨t,rfl⟩:=rx
 obtain⟨t',rfl⟩:=ry
 exact rule i j t t' s _ _ hc ⟨.int (g i j),H,I.tok _,⟨_,rfl⟩,q⟩
theorem opI0{f:Value->Value->Sem Value}{g:Int->Int->Int}
 (rule:∀ (i j:Int) (t u:Tok) (s:Shared) (Q:Value->Shared->Prop) (E:Value->Shared->Prop),Q (.int (g i j) s.toks) { s with toks:=s.toks+1 }->wpAny (model X.prog X.w) X.A (f (.int i t) (.int j u)) Q E s) :
 OpR X f (rI0 fun i j=>.int (g i j)):=by
 intro pins s σ H x y v u Q I rx ry h
 obtain⟨i,j,rfl,rfl,q⟩:=h
 obtain⟨t,rfl⟩:=rx
 obtain⟨t',rfl⟩:=ry
 exact rule i j t t' s _ _ ⟨.int (g i j),H,I.tok _,⟨_,rfl⟩,q⟩
theorem opB0{f:Value->Value->Sem Value}{g:Int->Int->Bool}
 (rule:∀ (i j:Int) (t u:Tok) (s:Shared) (Q:Value->Shared->Prop) (E:Value->Shared->Prop),Q (.bool (g i j)) s->wpAny (model X.prog X.w) X.A (f (.int i t) (.int j u)) Q E s) :
 OpR X f (rI0 fun i j=>.bl (g i j)):=by
 intro pins s σ H x y v u Q I rx ry h
 obtain⟨i,j,rfl,rfl,q⟩:=h
 obtain⟨t,rfl⟩:=rx
 obtain⟨t',rfl⟩:=ry
 exact rule i j t t' s _ _ ⟨.bl (g i j),H,I,rfl,q⟩
def CDiv(i j:Int):Prop:=0 < j/\j < 1073741824
def CPow(i j:Int):Prop:=0<=j/\j<=1000000/\i.natAbs < 2 ^ 64
def CMul(i j:Int):Prop:=(-(2 ^ 64) < i/\i < 2 ^ 64)\/(-(2 ^ 64) < j/\j < 2 ^ 64)
theorem CMul.ok{i j:Int}(h:CMul i j):IntMulOk i j:=by
 rcases h with ⟨h1,h2⟩ | ⟨h1,h2⟩
 ·exact .of_left (intBits_le_64 h1 h2)
 ·exact .of_right (intBits_le_64 h1 h2)
theorem op_add:OpR X (binaryOp .Add) (rI0 fun i j=>.int (i+j)):=opI0 fun _ _ _ _ _ _ _ q=>add_int q
theorem op_sub:OpR X (binaryOp .Sub) (rI0 fun i j=>.int (i - j)):=opI0 fun _ _ _ _ _ _ _ q=>sub_int q
theorem op_fdiv:OpR X (binaryOp .FloorDiv) (rI CDiv fun i j=>.int (i / j)):=opI fun i j _ _ _ _ _ hc q=>by
 have h1:(0:Int) < j:=hc.1
 have h2:j < 1073741824:=hc.2
 exact floordiv_int (by omega) (by rw[Int.fdiv_eq_ediv_of_nonneg i (by omega)];exact q) (.inl (PyProof.noPylong_small (by omega)))
theorem op_mod:OpR X (binaryOp .Mod) (rI (fun _ j=>0 < j) fun i j=>.int (i % j)):=opI fun i j _ _ _ _ _ hc q=>by
 have h1:(0:Int) < j:=hc
 exact mod_int' (by omega) (by rw[Int.fmod_eq_emod_of_nonneg i (by omega)];exact q)
theorem unI{f:Value->Sem Value}{g:Int->Int}
 (rule:∀ (i:Int) (t:Tok) (s:Shared) (Q:Value->Shared->Prop) (E:Value->Shared->Prop),Q (.int (g i) s.toks) { s with toks:=s.toks+1 }->wpAny (model X.prog X.w) X.A (f (.int i t)) Q E s) :
 UnR X f (rU fun i=>.int (g i)):=by
 intro pins s σ H x v Q I rx h
 obtain⟨i,rfl,q⟩:=h
 obtain⟨t,rfl⟩:=rx
 exact rule i t s _ _ ⟨.int (g i),H,I.tok _,⟨_,rfl⟩,q⟩
theorem un_neg:UnR X (unaryOp .USub) (rU fun i=>.int (-i)):=unI fun _ _ _ _ _ q=>neg_int q
end
def scal:V->V->Bool
 | .non,.non=>true | .non,.int _=>true | .int _,.non=>true | .non,.bl _=>true | .bl _,.non=>true | .non,.str _=>true | .str _,.non=>true
 | .int _,.int _=>true | .bl _,.bl _=>true | .str _,.str _=>true | .byt _,.byt _=>true
 | .int _,.str _=>true | .str _,.int _=>true | .bl _,.str _=>true | .str _,.bl _=>true
 | _,_=>false
def rEq:R2:=fun x y H Q=>scal x y=true/\Q (.bl (decide (x=y))) H
def rNe:R2:=fun x y H Q=>scal x y=true/\Q (.bl (!decide (x=y))) H
theorem dec_int{i j:Int}:decide (V.int i=V.int j)=(i == j):=by
 rw[Bool.eq_iff_iff]
 simp
theorem dec_bl{i j:Bool}:decide (V.bl i=V.bl j)=(i == j):=by
 rw[Bool.eq_iff_iff]
 simp
theorem dec_str{i j:Str}:decide (V.str i=V.str j)=(i == j):=by
 rw[Bool.eq_iff_iff]
 simp
theorem dec_byt{i j:Array UInt8}:decide (V.byt i=V.byt j)=(i.toList == j.toList):=by
 rw[Bool.eq_iff_iff]
 cases i
 cases j
 simp
section
variable{X:Cx}{a b c:Expr}{ta tb tc:TE}{pos:Pos}
theorem fin_bl{pins:List (Addr×Obj)}{σ:St}{H:Hp}{s:Shared}{Q:VK}{k k':Bool}(I:Inv X pins σ H s)(q:Q (.bl k) H)(e:k=k'):EP X pins σ Q (.bool k') s:=by
 subst e
 exact⟨.bl k,H,I,rfl,q⟩
theorem op_eq:OpR X (compareOp .Eq) rEq:=by
 intro pins s σ H x y v u Q I rx ry h
 obtain⟨hs,q⟩:=h
 cases x with
 | non =>
  cases rx
  cases y with
  | non=>cases ry;exact PySem.EqNone.eq_none_none (fin_bl I q (by simp))
  | bl j=>cases ry;exact PySem.EqNone.eq_none_bool (fin_bl I q (by simp))
  | int j=>obtain⟨t',rfl⟩:=ry;exact PySem.EqNone.eq_none_int (fin_bl I q (by simp))
  | str j=>obtain⟨t',rfl⟩:=ry;exact PySem.EqNone.eq_none_str (fin_bl I q (by simp))
  | _=>exact absurd (show false=true from hs) Bool.false_ne_true
 | bl i =>
  cases rx
  cases y with
  | non=>cases ry;exact PySem.EqNone.eq_bool_none (fin_bl I q (by simp))
  | bl j=>cases ry;exact eq_bool (fin_bl I q dec_bl)
  | str j=>obtain⟨t',rfl⟩:=ry;exact PySem.EqMixed.eq_bool_str (fin_bl I q (by simp))
  | _=>exact absurd (show false=true from hs) Bool.false_ne_true
 | int i =>
  obtain⟨t,rfl⟩:=rx
  cases y with
  | non=>cases ry;exact PySem.EqNone.eq_int_none (fin_bl I q (by simp))
  | int j=>obtain⟨t',rfl⟩:=ry;exact eq_int (fin_bl I q dec_int)
  | str j=>obtain⟨t',rfl⟩:=ry;exact PySem.EqMixed.eq_int_str (fin_bl I q (by simp))
  | _=>exact absurd (show false=true from hs) Bool.false_ne_true
 | str i =>
  obtain⟨t,rfl⟩:=rx
  cases y with
  | non=>cases ry;exact PySem.EqNone.eq_str_none (fin_bl I q (by simp))
  | bl j=>cases ry;exact PySem.EqMixed.eq_str_bool (fin_bl I q (by simp))
  | int j=>obtain⟨t',rfl⟩:=ry;exact PySem.EqMixed.eq_str_int (fin_bl I q (by simp))
  | str j=>obtain⟨t',rfl⟩:=ry;exact eq_str (fin_bl I q dec_str)
  | _=>exact absurd (show false=true from hs) Bool.false_ne_true
 | byt i =>
  obtain⟨t,rfl⟩:=rx
  cases y with
  | byt j=>obtain⟨t',rfl⟩:=ry;exact PySem.W.eq_bytes (fin_bl I q dec_byt)
  | _=>exact absurd (show false=true from hs) Bool.false_ne_true
 | _=>cases y <;> exact absurd (show false=true from hs) Bool.false_ne_true
theorem op_ne:OpR X (compareOp .NotEq) rNe:=by
 intro pins s σ H x y v u Q I rx ry h
 obtain⟨hs,q⟩:=h
 cases x with
 | non =>
  cases rx
  cases y with
  | non=>cases ry;exact PySem.EqNone.ne_none_none (fin_bl I q (by simp))
  | bl j=>cases ry;exact PySem.EqNone.ne_none_bool (fin_bl I q (by simp))
  | int j=>obtain⟨t',rfl⟩:=ry;exact PySem.EqNone.ne_none_int (fin_bl I q (by simp))
  | str j=>obtain⟨t',rfl⟩:=ry;exact PySem.EqNone.ne_none_str (fin_bl I q (by simp))
  | _=>exact absurd (show false=true from hs) Bool.false_ne_true
 | bl i =>
  cases rx
  cases y with
  | non=>cases ry;exact PySem.EqNone.ne_bool_none (fin_bl I q (by simp))
  | bl j=>cases ry;exact ne_bool (fin_bl I q (congrArg not dec_bl))
  | str j=>obtain⟨t',rfl⟩:=ry;exact PySem.EqMixed.ne_bool_str (fin_bl I q (by simp))
  | _=>exact absurd (show false=true from hs) Bool.false_ne_true
 | int i =>
  obtain⟨t,rfl⟩:=rx
  cases y with
  | non=>cases ry;exact PySem.EqNone.ne_int_none (fin_bl I q (by simp))
  | int j=>obtain⟨t',rfl⟩:=ry;exact ne_int (fin_bl I q (congrArg not dec_int))
  | str j=>obtain⟨t',rfl⟩:=ry;exact PySem.EqMixed.ne_int_str (fin_bl I q (by simp))
  | _=>exact absurd (show false=true from hs) Bool.false_ne_true
 | str i =>
  obtain⟨t,rfl⟩:=rx
  cases y with
  | non=>cases ry;exact PySem.EqNone.ne_str_none (fin_bl I q (by simp))
  | bl j=>cases ry;exact PySem.EqMixed.ne_str_bool (fin_bl I q (by simp))
  | int j=>obtain⟨t',rfl⟩:=ry;exact PySem.EqMixed.ne_str_int (fin_bl I q (by simp))
  | str j=>obtain⟨t',rfl⟩:=ry;exact ne_str (fin_bl I q (congrArg not dec_str))
  | _=>exact absurd (show false=true from hs) Bool.false_ne_true
 | byt i =>
  obtain⟨t,rfl⟩:=rx
  cases y with
  | byt j=>obtain⟨t',rfl⟩:=ry;exact PySem.W.ne_bytes (fin_bl I q (congrArg not dec_byt))
  | _=>exact absurd (show false=true from hs) Bool.false_ne_true
 | _=>cases y <;> exact absurd (show false=true from hs) Bool.false_ne_true
theorem op_lt:OpR X (compareOp .Lt) (rI0 fun i j=>.bl (decide (i < j))):=opB0 fun _ _ _ _ _ _ _ q=>lt_int q
theorem op_gt:OpR X (compareOp .Gt) (rI0 fun i j=>.bl (decide (j < i))):=opB0 fun _ _ _ _ _ _ _ q=>gt_int q
theorem op_isN:OpR X (compareOp .Is) (fun x y H Q=>y=.non/\Q (.bl (decide (x=.non))) H):=by
 intro pins s σ H x y v u Q I rx ry h
 obtain⟨rfl,q⟩:=h
 cases ry
 refine is_none_gen (fin_bl I q ?_)
 cases x <;> first
  | (cases rx;rfl)
  | (obtain⟨t,rfl⟩:=rx;rfl)
theorem nomark(b:Expr){op:CmpOp}(h:op≠.In:=by decide)(h2:op≠.NotIn:=by decide):behindInMarks op b=false:=by
 have e1:(op == CmpOp.In)=false:=by cases op <;> first | rfl | exact absurd rfl h
 have e2:(op == CmpOp.NotIn)=false:=by cases op <;> first | rfl | exact absurd rfl h2
 cases b <;> simp[behindInMarks,e1,e2]
theorem pe_cmpR{op:CmpOp}{r:R2}(ho:OpR X (compareOp op) r)(ha:PE X a ta)(hb:PE X b tb)(hm:behindInMarks op b=false):PE X (.Compare a [op] [b] pos) (tOp r ta tb):=by
 intro pins s σ H Q I h
 exact wpAny_Compare1 (binT ha hb I h fun v u s2 x y H2 I2 rx ry q=>ho pins s2 σ H2 x y v u Q I2 rx ry q) hm
def tTest(t:TE):TT:=fun σ H Q=>t σ H fun x H'=>∃ k,x=.bl k/\Q k H'
theorem pt_cmpR{op:CmpOp}{r:R2}(ho:OpR X (compareOp op) r)(ha:PE X a ta)(hb:PE X b tb)(hm:behindInMarks op b=false):PT X (.Compare a [op] [b] pos) (tTest (tOp r ta tb)):=by
 intro pins s σ H Q I h
 refine wpAny_isTrue_Compare1 (thn (ha pins s σ H _ I h) fun v s1 ⟨x,H1,I1,r1,q1⟩=>thn (hb pins s1 σ H1 _ I1 q1) fun u s2 ⟨y,H2,I2,r2,q2⟩ =>
  thn (ho pins s2 σ H2 x y v u _ I2 r1 r2 q2) fun c s3 ⟨z,H3,I3,r3,k,e,q3⟩=>?_) hm
 subst e
 cases r3
 exact wpAny_truthy_bool ⟨H3,I3,q3⟩
def tChain(r r':R2)(ta tb tc:TE):TE:=fun σ H Q=>ta σ H fun x H1=>tb σ H1 fun y H2=>r x y H2 fun z H3=>∃ k,z=.bl k /\
 (if k=true then tc σ H3 fun w' H4=>r' y w' H4 Q else Q (.bl false) H3)
def TruV(K:PySem.W.Frag)(x:V)(H:Hp)(k:Bool):Prop :=
 match x with
 | .non=>k=false
 | .bl b=>k=b
 | .int i=>k=(i != 0)
 | .str y=>y.length<=sizeLine/\k=((y.length:Int) != 0)
 | .byt y=>y.size<=sizeLine/\k=((y.size:Int) != 0)
 | .ref p=>(∃ xs,SqL K H p xs/\k=!xs.isEmpty)\/(∃ xs,SqT K H p xs/\k=!xs.isEmpty)\/∃ kvs,H p=some (.dK kvs)/\k=!kvs.isEmpty
 | _=>False
theorem isEmpty_kv{κ:Type}{kvs:List (κ×V)}{vs:List (κ×Value)}(r:KV kvs vs):(!vs.isEmpty)=!kvs.isEmpty:=by
 cases r <;> rfl
theorem isEmpty_of{xs:List V}{its:List Value}(r:Vals xs its):(!its.toArray.isEmpty)=!xs.isEmpty:=by
 cases r <;> simp
theorem line63:(sizeLine:Nat) < 2 ^ 63:=by rw[sizeLine_eq];decide
theorem tru_ok:TruR X (fun x H Q=>∃ k,TruV X.K x H k/\Q k H):=by
 intro pins s σ H x v Q I rx h
 obtain⟨k,e,q⟩:=h
 have hl:=line63
 have hs:sizeLine=16777216:=sizeLine_eq
 cases x with
 | non =>
  cases rx
  have e':k=false:=e
  subst e'
  exact truthy_none ⟨H,I,q⟩
 | bl b =>
  cases rx
  have e':k=b:=e
  subst e'
  exact wpAny_truthy_bool ⟨H,I,q⟩
 | int i =>
  obtain⟨t,rfl⟩:=rx
  have e':k=(i != 0):=e
  subst e'
  exact PySem.P.truthy_int ⟨H,I,q⟩
 | str y =>
  obtain⟨t,rfl⟩:=rx
  obtain⟨hy,e'⟩:y.length<=sizeLine/\k=((y.length:Int) != 0):=e
  subst e'
  exact PySem.P.truthy_str (by omega) ⟨H,I.tok _,q⟩
 | byt y =>
  obtain⟨t,rfl⟩:=rx
  obtain⟨hy,e'⟩:y.size<=sizeLine/\k=((y.size:Int) != 0):=e
  subst e'
  exact PySem.W.truthy_bytes (by omega) ⟨H,I.tok _,q⟩
 | ref p =>
  cases rx
  have e':(∃ xs,SqL X.K H p xs/\k=!xs.isEmpty)\/(∃ xs,SqT X.K H p xs/\k=!xs.isEmpty)\/∃ kvs,H p=some (.dK kvs)/\k=!kvs.isEmpty:=e
  rcases e' with ⟨xs,hx,e'⟩ | ⟨xs,hx,e'⟩ | ⟨kvs,hx,e'⟩
  ·subst e'
   obtain⟨its,r,pl,hz⟩:=I.list hx
   have hlen:=r.length
   exact wpAny_truthy_list pl.isList (by simp only[List.size_toArray];omega) ⟨H,I.tok _,by rw[isEmpty_of r];exact q⟩
  ·subst e'
   obtain⟨its,r,pl,hz⟩:=I.tuple hx
   have hlen:=r.length
   exact truthy_tuple pl (by simp only[List.size_toArray];omega) ⟨H,I.tok _,by rw[isEmpty_of r];exact q⟩
  ·subst e'
   obtain⟨hz,hS,vs,r,m⟩:kvs.length<=sizeLine/\(p == sysModules)=false/\∃ vs,KV kvs vs/\s.heap.DictOf (mixKind X.prog X.w) p vs:=I.hok p _ hx
   have hlen:kvs.length=vs.length:=Paired.length r
   exact wpAny_truthy_dict hS m (by omega) ⟨H,I.tok _,by rw[isEmpty_kv r];exact q⟩
 | _=>exact(show False from e).elim
theorem pt_truth(ha:PE X a ta)(he:∀ whole,isTrue a X.env whole=(do let v <- whole;standAt a.pos;holding [v] (truthy v))) :
 PT X a (fun σ H Q=>ta σ H fun x H'=>∃ k,TruV X.K x H' k/\Q k H'):=by
 intro pins s σ H Q I h
 exact isTrue_plain (thn (ha pins s σ H _ I h) fun v s1 ⟨x,H1,I1,r1,q1⟩=>tru_ok pins s1 σ H1 x v Q I1 r1 q1) (he _)
theorem op_add_str:OpR X (binaryOp .Add) (fun x y H Q=>∃ i j,x=.str i/\y=.str j/\i.length+j.length<=sizeLine/\Q (.str (i++j)) H):=by
 intro pins s σ H x y v u Q I rx ry h
 obtain⟨i,j,rfl,rfl,hz,q⟩:=h
 obtain⟨t,rfl⟩:=rx
 obtain⟨t',rfl⟩:=ry
 exact add_str (fun t' tk=>⟨.str (i++j),H,I.tok _,⟨_,rfl⟩,q⟩) hz
theorem vals1{x:V}{us:List Value}(r:Vals [x] us):∃ u,us=[u]/\RelV x u:=by
 cases r with
 | cons r1 r2=>cases r2;exact⟨_,rfl,r1⟩
theorem vals2{x y:V}{us:List Value}(r:Vals [x,y] us):∃ u w',us=[u,w']/\RelV x u/\RelV y w':=by
 cases r with
 | cons r1 r2 =>
  cases r2 with
  | cons r3 r4=>cases r4;exact⟨_,_,rfl,r1,r3⟩
theorem call_min2(hc:X.calm=true):CallR X (.builtin "min") (fun xs H Q=>∃ i j,xs=[.int i,.int j]/\Q (.int (if j < i then j else i)) H):=by
 intro pins s σ H xs us Q I r h
 obtain⟨i,j,rfl,q⟩:=h
 obtain⟨u,w',rfl,⟨t,rfl⟩,⟨t',rfl⟩⟩:=vals2 r
 refine min_two_ints (I.ok.hd hc) fun h' tk k=>⟨_,H,I.kept k,?_,q⟩
 by_cases hj:j < i
 ·rw[if_pos hj,if_pos hj];exact⟨_,rfl⟩
 ·rw[if_neg hj,if_neg hj];exact⟨_,rfl⟩
end
end L2
namespace L2
open PySem PySem.Spec PyProof.Rows
structure ObjM(h:Heap)(x dx C:Addr)(mA:Str->Option Value):Prop where
 obj:h.get? x=some (PySem.W.instObj C dx)
 ns:h.Ns1 dx mA
 ne:dx≠x
theorem lookIn_ns{h:Heap}{dx:Addr}{mA:Str->Option Value}(n:h.Ns1 dx mA):∃ od,h.get? dx=some od/\∀ name,PySem.W.lookIn name od=some (mA name):=by
 obtain⟨o,es,ep,ho,hd,hk,_,hm⟩:=n
 refine⟨o,ho,fun name=>?_⟩
 have e:=hm name
 unfold nsFind findBy at e
 rw[<- Array.find?_toList]at e
 unfold PySem.W.lookIn
 rw[hd]
 dsimp only
 split
 ·rename_i y q
  rw[q]at e
  exact congrArg some e
 ·rename_i q
  rw[q]at e
  have a:es.toList.any (·.refKey)=false:=by
   rw[List.any_eq_false]
   intro y hy
   obtain⟨z,t,hkey⟩:=hk y (Array.mem_toList_iff.mp hy)
   simp[DictEntry.refKey,hkey]
  have a':¬ es.toList.any (·.refKey)=true:=by rw[a];exact Bool.false_ne_true
  rw[if_neg a']
  exact congrArg some e
theorem ObjM.look{h:Heap}{x dx C:Addr}{mA:Str->Option Value}(I:ObjM h x dx C mA):∃ od,PySem.W.InstAt h x (PySem.W.instObj C dx) C (some od)/\∀ name,PySem.W.lookIn name od=some (mA name) :=
 let ⟨od,ho,hl⟩:=lookIn_ns I.ns
 ⟨od,⟨I.obj,rfl,rfl,ho⟩,hl⟩
section
variable{prog:Program}{w:World}{A:Around}{E:Value->Shared->Prop}{s:Shared}{K:PySem.W.Frag}{x dx C f:Addr}{mA:Str->Option Value}{name:Str}{v:Value}
theorem get_map{expr:Bool}{Q:Value->Shared->Prop}(X:K.In s.heap)(I:ObjM s.heap x dx C mA)(hg:PySem.W.plainGet K C name=true)(hh:PySem.W.hasDictIn K C=true)
 (ha:PySem.W.findIn K (.ref C) name=some none) (hv:mA name=some v) (hv':PySem.W.handedIn v=true) (h:Q v { s with toks:=s.toks+1 }) :
 wpAny (model prog w) A (getAttr (.ref x) name expr) Q E s:=by
 obtain⟨od,J,hl⟩:=I.look
 exact PySem.W.get_value X J (PySem.W.plainGet_of hg).1 (PySem.W.findObj_own hh ha rfl (by rw[hl,hv])) hv' h
theorem get_meth{pl:Sem Bool}{Q:Value×List Value->Shared->Prop}(X:K.In s.heap)(I:ObjM s.heap x dx C mA)(hg:PySem.W.plainGet K C name=true)
 (hf:PySem.W.findIn K (.ref C) name=some (some (.ref f))) (ht:PySem.W.isFn K (.ref f)=true) (hv:mA name=none) (h:Q (.ref f,[.ref x]) s) :
 wpAny (model prog w) A (getMethod (.ref x) name pl) Q E s:=by
 obtain⟨od,J,hl⟩:=I.look
 exact PySem.W.method_fn X J (PySem.W.plainGet_of hg).1 (PySem.W.plainGet_of hg).2 hf (beq_iff_eq.mp ht) (by show(PySem.W.lookIn name od).map (·.isSome)=some false;rw[hl,hv];rfl) h
theorem set_map{ns:List Str}{Q:Unit->Shared->Prop}(X:K.In s.heap)(I:ObjM s.heap x dx C mA)
 (hs:PySem.W.findIn K (.ref C) "__setattr__"=some (some (.builtin "object.__setattr__"))) (hp:PySem.W.plainOver K C=true) (ht:PySem.W.takerIn K C name=some none) (hh:PySem.W.hasDictIn K C=true)
 (hw:PySem.Within mA ns) (hsz:ns.length<=sizeLine)
 (h:∀ h',ObjM h' x dx C (fun y=>if y=name then some v else mA y)->Heap.SameBut dx s.heap h'->Q () { s with heap:=h',toks:=s.toks+2 }) :
 wpAny (model prog w) A (setAttr (.ref x) name v) Q E s:=by
 obtain⟨od,J,hl⟩:=I.look
 refine PySem.W.set_plain X J hs (PySem.W.osa_open (s:={ s with toks:=s.toks+1 }) (r:=none) X J hp ht fun b=>?_)
 obtain⟨cd,hc,hd'⟩:=PySem.W.any_some hh
 have hx:s.heap.get? x=some ⟨.ref C,some dx,.plain,#[]⟩:=I.obj
 refine wpAny_bind (wpAny_pure (wpAny_bind (wpAny_bind (wpAny_loadPart hx (wpAny_bind (PySem.W.Looks.here (s:={ s with toks:=s.toks+1 }) (PySem.W.looks_clsIn X hc) ?_))))))
 rw[hd']
 refine wpAny_pure (a:=some dx) (wpAny_bind (wpAny_pure (wpAny_bind ?_)))
 refine wpAny_nsSet1 (s:={ s with toks:=s.toks+1 }) I.ns fun h' hn2 hs2=>?_
 obtain⟨oD,esD,epD,hoD,hdD,hcD⟩:=hn2.count (PySem.Within.cons name v hw)
 refine wpAny_bind (wpAny_lookBehind hoD (by rw[hdD];exact pastItsLine_dict (Nat.le_trans hcD (by rw[List.length_cons];omega))) ?_)
 exact wpAny_pure (h _ ⟨(hs2.2 _ (Ne.symm I.ne)).trans I.obj,hn2,I.ne⟩ hs2)
theorem make_map{R:Result->Shared->Prop}{vs:List Value}{kw:List (Str×Value)}(X:K.In s.heap)(hm:PySem.W.makesIn K C=true)
 (hi:PySem.W.findIn K (.ref C) "__init__"=some (some (.ref f))) (hf:PySem.W.typeIn K (.ref f)=some (.type "function"))
 (h:codeAny (model prog w) (A.under (.builtin "type.__call__" ⟨.ref C::vs,kw⟩)) (.call (.ref f) ⟨.ref (s.heap.objs.size+1)::vs,kw⟩) (PySem.W.InitBack (s.heap.objs.size+1) R)
  { s with heap:=(s.heap.push PySem.W.emptyDict).push (PySem.W.instObj C s.heap.objs.size) }) :
 codeAny (model prog w) A (.call (.ref C) ⟨vs,kw⟩) R s:=by
 obtain⟨hh,g,d,t,os⟩:=s
 exact PySem.W.make_core (PySem.W.makes_of X hm) (PySem.W.looks_findIn X hi) (fun self=>PySem.W.bind_fn X self hf) (.inl rfl) h
end
def putF(f:Str)(v:V):List (Str×V)->List (Str×V)
 | []=>[(f,v)]
 | (g,x)::r=>if g=f then (g,v)::r else (g,x)::putF f v r
theorem lookup_putF(f g:Str)(v:V):∀ fs:List (Str×V),(putF f v fs).lookup g=if g=f then some v else fs.lookup g
 | []=>by
  show List.lookup g [(f,v)]=_
  by_cases h:g=f
  ·have hb:(g == f)=true:=beq_iff_eq.mpr h
   simp only[List.lookup,hb,if_pos h]
  ·have hb:(g == f)=false:=beq_eq_false_iff_ne.mpr h
   simp only[List.lookup,hb,if_neg h]
 | (k,x)::r=>by
  have ih:=lookup_putF f g v r
  rw[show putF f v ((k,x)::r)=(if k=f then (k,v)::r else (k,x)::putF f v r) from rfl]
  by_cases hk:k=f
  ·rw[if_pos hk]
   by_cases h:g=k
   ·have hb:(g == k)=true:=beq_iff_eq.mpr h
    simp only[List.lookup,hb,if_pos (h.trans hk)]
   ·have hb:(g == k)=false:=beq_eq_false_iff_ne.mpr h
    simp only[List.lookup,hb,if_neg (fun e:g=f=>h (e.trans hk.symm))]
  ·rw[if_neg hk]
   by_cases h:g=k
   ·have hb:(g == k)=true:=beq_iff_eq.mpr h
    simp only[List.lookup,hb,if_neg (fun e:g=f=>hk (h.symm.trans e))]
   ·have hb:(g == k)=false:=beq_eq_false_iff_ne.mpr h
    simp only[List.lookup,hb]
    exact ih
theorem keys_putF(f:Str)(v:V):∀ fs:List (Str×V),f∈(putF f v fs).map (·.1)/\∀ g,g∈fs.map (·.1)->g∈(putF f v fs).map (·.1)
 | []=>⟨by simp[putF],fun g h=>by simp at h⟩
 | (k,x)::r=>by
  obtain⟨i1,i2⟩:=keys_putF f v r
  rw[show putF f v ((k,x)::r)=(if k=f then (k,v)::r else (k,x)::putF f v r) from rfl]
  by_cases hk:k=f
  ·rw[if_pos hk]
   subst hk
   exact⟨by simp,fun g h=>by simpa using h⟩
  ·rw[if_neg hk]
   refine⟨?_,fun g h=>?_⟩
   ·rw[List.map_cons]
    exact List.mem_cons_of_mem _ i1
   ·rw[List.map_cons]at h ⊢
    rcases List.mem_cons.mp h with e | e
    ·exact List.mem_cons.mpr (.inl e)
    ·exact List.mem_cons_of_mem _ (i2 g e)
theorem length_putF(f:Str)(v:V):∀ fs:List (Str×V),(putF f v fs).length<=fs.length+1
 | []=>by simp[putF]
 | (k,x)::r=>by
  have ih:=length_putF f v r
  rw[show putF f v ((k,x)::r)=(if k=f then (k,v)::r else (k,x)::putF f v r) from rfl]
  by_cases hk:k=f
  ·rw[if_pos hk,List.length_cons,List.length_cons];omega
  ·rw[if_neg hk,List.length_cons,List.length_cons];omega
theorem RelO.some_of{v:V}{o:Option Value}(r:RelO (some v) o):∃ u,o=some u/\RelV v u:=by
 cases o with
 | none=>exact(show False from r).elim
 | some u=>exact⟨u,rfl,r⟩
theorem RelO.none_of{o:Option Value}(r:RelO none o):o=none:=by
 cases o with
 | none=>rfl
 | some u=>exact(show False from r).elim
theorem handed_of{v:V}{u:Value}(r:RelV v u):PySem.W.handedIn u=true:=by
 cases v with
 | non=>cases (show u=Value.none from r);rfl
 | bl b=>cases (show u=Value.bool b from r);rfl
 | int i=>obtain⟨t,e⟩:=(show ∃ t,u=Value.int i t from r);cases e;rfl
 | str x=>obtain⟨t,e⟩:=(show ∃ t,u=Value.str x t from r);cases e;rfl
 | byt b=>obtain⟨t,e⟩:=(show ∃ t,u=Value.bytes b t from r);cases e;rfl
 | flt b=>obtain⟨t,e⟩:=(show ∃ t,u=Value.float b t from r);cases e;rfl
 | ref a=>cases (show u=Value.ref a from r);rfl
 | ty n=>cases (show u=Value.type n from r);rfl
section
variable{P:Program}{w:World}{H H':Hp}{h h':Heap}{a C dx:Addr}{fs fs':List (Str×V)}
theorem ins_get(hok:HOk P w H h)(e:H a=some (.ins C dx fs)):∃ mA,ObjM h a dx C mA/\(∀ f,RelO (fs.lookup f) (mA f))/\PySem.Within mA (fs.map (·.1))/\fs.length<=1000/\H dx=some (.own a):=by
 obtain⟨d,z,ne,ob,mA,n,r,q⟩:=(show ObjOk P w H h a (.ins C dx fs) from hok a _ e)
 exact⟨mA,⟨ob,n,ne⟩,r,q,z,d⟩
end
structure Cls(K:PySem.W.Frag)(C:Addr):Prop where
 pg:PySem.W.plainGet K C Str.empty=true
 hd:PySem.W.hasDictIn K C=true
 po:PySem.W.plainOver K C=true
 sa:PySem.W.findIn K (.ref C) "__setattr__"=some (some (.builtin "object.__setattr__"))
theorem Cls.get{K:PySem.W.Frag}{C:Addr}(c:Cls K C)(f:Str):PySem.W.plainGet K C f=true:=c.pg
def NoAttr(K:PySem.W.Frag)(C:Addr)(f:Str):Prop:=PySem.W.findIn K (.ref C) f=some none
theorem NoAttr.taker{K:PySem.W.Frag}{C:Addr}{f:Str}(n:NoAttr K C f):PySem.W.takerIn K C f=some none:=by
 unfold PySem.W.takerIn
 rw[show PySem.W.findIn K (.ref C) f=some none from n]
 rfl
structure Meth(K:PySem.W.Frag)(C:Addr)(m:Str)(f:Addr):Prop where
 at_:PySem.W.findIn K (.ref C) m=some (some (.ref f))
 fn:PySem.W.isFn K (.ref f)=true
 kp:PySem.W.keepIn K (.ref f)=true
section
variable{X:Cx}{pins:List (Addr×Obj)}{σ:St}{H:Hp}{s:Shared}{a C dx:Addr}{fs:List (Str×V)}{f:Str}{v:V}{A:Around}{E:Value->Shared->Prop}
theorem getattr_ok{b:Bool}{Q:Value->Shared->Prop}(I:Inv X pins σ H s)(e:H a=some (.ins C dx fs))(c:Cls X.K C)(n:NoAttr X.K C f)(l:fs.lookup f=some v)
 (h:∀ u s',Inv X pins σ H s'->RelV v u->Q u s'):wpAny (model X.prog X.w) A (getAttr (.ref a) f b) Q E s:=by
 obtain⟨mA,O,r,_,_,_⟩:=ins_get I.hok e
 obtain⟨u,hu,ru⟩:=RelO.some_of (v:=v) (o:=mA f) (by rw[<- l];exact r f)
 exact get_map I.kIn O (c.get f) c.hd n hu (handed_of ru) (h u _ (I.tok _) ru)
theorem getmeth_ok{m:Str}{g:Addr}{pl:Sem Bool}{Q:Value×List Value->Shared->Prop}(I:Inv X pins σ H s)(e:H a=some (.ins C dx fs))(c:Cls X.K C)(k:Meth X.K C m g)(l:fs.lookup m=none)
 (h:Q (.ref g,[.ref a]) s):wpAny (model X.prog X.w) A (getMethod (.ref a) m pl) Q E s:=by
 obtain⟨mA,O,r,_,_,_⟩:=ins_get I.hok e
 have hn:mA m=none:=RelO.none_of (by rw[<- l];exact r m)
 exact get_meth I.kIn O (c.get m) k.at_ k.fn hn h
theorem setattr_ok{y:V}{u:Value}{Q:Unit->Shared->Prop}(I:Inv X pins σ H s)(e:H a=some (.ins C dx fs))(c:Cls X.K C)(n:NoAttr X.K C f)(hl:fs.length < 1000)(ry:RelV y u)
 (h:∀ s',Inv X pins σ (upd H a (.ins C dx (putF f y fs))) s'->Q () s'):wpAny (model X.prog X.w) A (setAttr (.ref a) f u) Q E s:=by
 obtain⟨mA,O,r,wi,_,ho⟩:=ins_get I.hok e
 have hz:(fs.map (·.1)).length<=sizeLine:=by rw[List.length_map,sizeLine_eq];omega
 refine set_map I.kIn O c.sa c.po n.taker c.hd wi hz fun h' O' sb=>h _ ?_
 have hd:∃ o,h'.get? dx=some o:=let ⟨o,_,_,e',_⟩:=O'.ns;⟨o,e'⟩
 refine I.write (x:=a) (e:=dx) (by rw[e];exact True.intro) (.inr ho) (fun b q hb z=>(sb.2 b hb).trans z) hd ?_
 refine⟨by rw[upd_ne O.ne];exact ho,?_,O.ne,O'.obj,_,O'.ns,fun g=>?_,fun g hg=>?_⟩
 ·have:=length_putF f y fs;omega
 ·show RelO ((putF f y fs).lookup g) (if g=f then some u else mA g)
  rw[lookup_putF]
  by_cases q:g=f
  ·rw[if_pos q,if_pos q];exact ry
  ·rw[if_neg q,if_neg q];exact r g
 ·by_cases q:g=f
  ·rw[q];exact(keys_putF f y fs).1
  ·refine(keys_putF f y fs).2 g (wi g fun z=>hg ?_)
   show(if g=f then some u else mA g)=none
   rw[if_neg q];exact z
theorem Inv.made(I:Inv X pins σ H s):Inv X pins σ (upd (upd H s.heap.objs.size (.own (s.heap.objs.size+1))) (s.heap.objs.size+1) (.ins C s.heap.objs.size []))
 { s with heap:=(s.heap.push PySem.W.emptyDict).push (PySem.W.instObj C s.heap.objs.size) }:=by
 have e1:(s.heap.push PySem.W.emptyDict).get? s.heap.objs.size=some PySem.W.emptyDict:=Heap.get?_push_size s.heap rfl
 have e2:((s.heap.push PySem.W.emptyDict).push (PySem.W.instObj C s.heap.objs.size)).get? (s.heap.objs.size+1)=some (PySem.W.instObj C s.heap.objs.size):=by
  have:=Heap.get?_push_size (s.heap.push PySem.W.emptyDict) (o:=PySem.W.instObj C s.heap.objs.size) rfl
  rwa [Heap.size_push]at this
 have e3:(s.heap.push PySem.W.emptyDict).Ns s.heap.objs.size (fun _=>none):=⟨PySem.W.emptyDict,#[],_,e1,rfl,(fun e he=>absurd he (by simp)),fun _=>rfl⟩
 have I1:=I.laid (a:=s.heap.objs.size) (o:=.own (s.heap.objs.size+1)) (h':=s.heap.push PySem.W.emptyDict) (t':=s.toks) (fun b u q=>Heap.get?_push_of_some _ q) (Nat.le_refl _) ⟨_,e1⟩
 refine I1.laid (a:=s.heap.objs.size+1) (o:=.ins C s.heap.objs.size []) (t':=s.toks) (fun b u q=>Heap.get?_push_of_some _ q) (Nat.le_of_eq (Heap.size_push _ _)) ?_
 have ne:s.heap.objs.size≠s.heap.objs.size+1:=Nat.ne_of_lt (Nat.lt_succ_self _)
 refine⟨by rw[upd_ne ne,upd_same],Nat.zero_le _,ne,e2,fun _=>none,(Heap.Ns1.of_empty e3).at fun o q=>Heap.get?_push_of_some _ q,fun _=>True.intro,fun y hy=>absurd rfl hy⟩
theorem attr_of{prog:Program}{w:World}{env:Env}{e:Expr}{f:Str}{pos:Pos}{s:Shared}{Q:Value->Shared->Prop}(hb:attributeBase e f env (eval e env)=eval e env)
 (h:wpAny (model prog w) A (eval e env) (fun o s₁=>wpAny (model prog w) A (getAttr o f true) Q E s₁) E s):wpAny (model prog w) A (eval (.Attribute e f pos) env) Q E s :=
 Attribute_any_ h (by rw[arm_eval_Attribute,hb])
end
def tFld(K:PySem.W.Frag)(ta:TE)(f:Str):TE:=fun σ H Q=>ta σ H fun x H1=>∃ a C dx fs v,x=.ref a/\H1 a=some (.ins C dx fs)/\Cls K C/\NoAttr K C f/\fs.lookup f=some v/\Q v H1
def sFld(K:PySem.W.Frag)(ta tv:TE)(f:Str):TS:=fun D σ H=>tv σ H fun y H1=>ta σ H1 fun x H2=>∃ a C dx fs,x=.ref a/\H2 a=some (.ins C dx fs)/\Cls K C/\NoAttr K C f/\fs.length < 1000 /\
 D.nx σ (upd H2 a (.ins C dx (putF f y fs)))
section
variable{X:Cx}{o e value:Expr}{f:Str}{pos pos' tpos:Pos}{ta tv:TE}
theorem pe_fld(he:PE X e ta)(hb:attributeBase e f X.env (eval e X.env)=eval e X.env):PE X (.Attribute e f pos) (tFld X.K ta f):=by
 intro pins s σ H Q I h
 refine attr_of hb (thn (he pins s σ H _ I h) fun u s1 ⟨x,H1,I1,rx,a,C,dx,fs,v,ex,ea,c,n,l,q⟩=>?_)
 subst ex
 obtain rfl:u=Value.ref a:=rx
 exact getattr_ok I1 ea c n l fun u' s2 I2 ru=>⟨v,H1,I2,ru,q⟩
theorem ps_fld(ha:PE X o ta)(hv:PE X value tv)(hs:swapsWith value (some (.Attribute o f pos')) pos.line X.env=pure false):PS X (.Assign [.Attribute o f pos'] value pos) (sFld X.K ta tv f):=by
 intro pins s σ H D I h
 refine plainObj_wpAny_Assign_Attribute (thn (hv pins s σ H _ I h) fun u s1 ⟨y,H1,I1,ry,q⟩=>thn (ha pins s1 σ H1 _ I1 q) fun ov s2 ⟨x,H2,I2,rx,a,C,dx,fs,ex,ea,c,n,l,q2⟩=>?_) hs
 subst ex
 obtain rfl:ov=Value.ref a:=rx
 exact setattr_ok I2 ea c n l ry fun s3 I3=>⟨σ,_,I3,q2⟩
end
section
variable{X:Cx}{pins:List (Addr×Obj)}{σ:St}{H:Hp}{s:Shared}{A:Around}{E:Value->Shared->Prop}{Q:Value->Shared->Prop}{c:Value}{b:Bool}
inductive TyOf(K:PySem.W.Frag)(H:Hp):V->Value->Prop where
 | non:TyOf K H .non (.type "NoneType")
 | bl (x:Bool):TyOf K H (.bl x) (.type "bool")
 | int (i:Int):TyOf K H (.int i) (.type "int")
 | str (x:Str):TyOf K H (.str x) (.type "str")
 | flt (x:UInt64):TyOf K H (.flt x) (.type "float")
 | lst {a:Addr} {xs:List V} (e:H a=some (.lst xs)):TyOf K H (.ref a) (.type "list")
 | frz {a:Addr} {o:Obj} {xs:List V} (e:H a=some (.frz o (.lst xs))):TyOf K H (.ref a) (.type "list")
 | tup {a:Addr} {xs:List V} (e:H a=some (.tup xs)):TyOf K H (.ref a) (.type "tuple")
 | dK {a:Addr} {kvs:List (Key×V)} (e:H a=some (.dK kvs)):TyOf K H (.ref a) (.type "dict")
 | dT {a:Addr} {kvs:List (List Key×V)} (e:H a=some (.dT kvs)):TyOf K H (.ref a) (.type "dict")
 | ins {a C dx:Addr} {fs:List (Str×V)} (e:H a=some (.ins C dx fs)) (cl:Cls K C) (ha:PySem.W.findIn K (.ref C) "__class__"=some (some (.builtin "object.__class__")))
  (hn:PySem.W.specialIn K (.builtin "object.__class__") "__get__"=some (some (.builtin "getset_descriptor.__get__"))) (htk:PySem.W.takesIn K (.builtin "object.__class__")=some true)
  (hm:PySem.W.mroIn K C (.type "object")=some true):TyOf K H (.ref a) (.ref C)
theorem isinst_ok{x:V}{u t:Value}(I:Inv X pins σ H s)(rx:RelV x u)(ty:TyOf X.K H x t)(e:PySem.W.kitOne X.K t c=some b)(h:∀ tk,Q (.bool b) { s with toks:=tk }) :
 wpAny (model X.prog X.w) A (call (.builtin "isinstance") [u,c]) Q E s:=by
 cases ty with
 | non=>cases (show u=Value.none from rx);exact PySem.W.kia_one PySem.W.kitx_none I.kIn True.intro e (fun z=>nomatch z) h
 | bl y=>cases (show u=Value.bool y from rx);exact PySem.W.kia_one PySem.W.kitx_bool I.kIn True.intro e (fun z=>nomatch z) h
 | int i=>obtain⟨t,q⟩:=(show ∃ t,u=Value.int i t from rx);cases q;exact PySem.W.kia_one PySem.W.kitx_int I.kIn True.intro e (fun z=>nomatch z) h
 | str y=>obtain⟨t,q⟩:=(show ∃ t,u=Value.str y t from rx);cases q;exact PySem.W.kia_one PySem.W.kitx_str I.kIn True.intro e (fun z=>nomatch z) h
 | flt y=>obtain⟨t,q⟩:=(show ∃ t,u=Value.float y t from rx);cases q;exact PySem.W.kia_one PySem.W.kitx_float I.kIn True.intro e (fun z=>nomatch z) h
 | @lst a xs ea =>
  cases (show u=Value.ref a from rx)
  obtain⟨_,_,n,_,h1⟩:=(show ObjOk X.prog X.w H s.heap a (.lst xs) from I.hok a _ ea)
  exact PySem.W.kia_one PySem.W.kitx_list I.kIn ⟨_,h1,rfl⟩ e (fun z=>nomatch z) h
 | @frz a ob xs ea =>
  cases (show u=Value.ref a from rx)
  obtain⟨_,_,_,n,_,h1⟩:=(show ObjOk X.prog X.w H s.heap a (.frz ob (.lst xs)) from I.hok a _ ea)
  exact PySem.W.kia_one PySem.W.kitx_list I.kIn ⟨_,h1,rfl⟩ e (fun z=>nomatch z) h
 | @tup a xs ea =>
  cases (show u=Value.ref a from rx)
  obtain⟨_,_,_,p⟩:=(show ObjOk X.prog X.w H s.heap a (.tup xs) from I.hok a _ ea)
  obtain⟨o,h1,h2,_⟩:=p
  exact PySem.W.kia_one PySem.W.kitx_tuple I.kIn ⟨o,h1,h2⟩ e (fun z=>nomatch z) h
 | @dK a kvs ea =>
  cases (show u=Value.ref a from rx)
  obtain⟨_,_,vs,_,p⟩:=(show ObjOk X.prog X.w H s.heap a (.dK kvs) from I.hok a _ ea)
  obtain⟨o,es,ep,h1,h2,_⟩:=p
  exact PySem.W.kia_one PySem.W.kitx_dict I.kIn ⟨o,h1,h2.1⟩ e (fun z=>nomatch z) h
 | @dT a kvs ea =>
  cases (show u=Value.ref a from rx)
  obtain⟨_,_,xs,_,o,es,ep,h1,h2,_⟩:=(show ObjOk X.prog X.w H s.heap a (.dT kvs) from I.hok a _ ea)
  exact PySem.W.kia_one PySem.W.kitx_dict I.kIn ⟨o,h1,h2.1⟩ e (fun z=>nomatch z) h
 | @ins a C dx fs ea cl ha hn htk hm =>
  cases (show u=Value.ref a from rx)
  obtain⟨mA,O,_⟩:=ins_get I.hok ea
  obtain⟨od,J,_⟩:=O.look
  exact PySem.W.kia_one (PySem.W.kitx_own (cl.get _) cl.hd ha hn htk hm) I.kIn J e (fun z=>nomatch z) h
end
end L2
namespace L2
open PySem PySem.Spec PyProof.Rows
structure Room(k:Nat)(A:Around):Prop where
 hd:A.handled=none
 dp:A.depth+3 * k+5 < recursionLimit
 un:A.units+16 * k+200 < cLine
theorem Room.mono{j k:Nat}{A:Around}(r:Room k A)(h:j<=k):Room j A:=⟨r.hd,by have:=r.dp;omega,by have:=r.un;omega⟩
theorem Room.deeper{k:Nat}{A:Around}(r:Room (k+1) A)(env:Env):Room k (A.deeper env) :=
 ⟨r.hd,by have:=r.dp;show A.depth+1+3 * k+5 < _;omega,by have:=r.un;show A.units+3+16 * k+200 < _;omega⟩
theorem Room.in1{k:Nat}{A:Around}(r:Room (k+1) A):Room k A.in1 :=
 ⟨r.hd,by have:=r.dp;show A.depth+3 * k+5 < _;omega,by have:=r.un;show A.units+1+16 * k+200 < _;omega⟩
theorem make_depth{A:Around}{C:Addr}{us:List Value}{kw:List (Str×Value)}:(A.under (.builtin "type.__call__" ⟨.ref C::us,kw⟩)).depth=A.depth+1:=by
 first | rfl | simp[Around.under,Code.weight,Code.isCreation,Code.isGuard,Code.isCaller,Code.frames,Code.isFrame,guardIds]
theorem make_units{A:Around}{C:Addr}{us:List Value}{kw:List (Str×Value)}:(A.under (.builtin "type.__call__" ⟨.ref C::us,kw⟩)).units=A.units+1:=by
 first | rfl | simp[Around.under,Code.cUnits,Code.frames,Code.isFrame]
theorem Room.make{k:Nat}{A:Around}(r:Room (k+1) A)(C:Addr)(us:List Value)(kw:List (Str×Value)):Room k (A.under (.builtin "type.__call__" ⟨.ref C::us,kw⟩)) :=
 ⟨r.hd,by have:=r.dp;rw[make_depth];omega,by have:=r.un;rw[make_units];omega⟩
theorem Room.depth{k:Nat}{A:Around}(r:Room k A):A.depth < recursionLimit:=by have:=r.dp;omega
theorem Room.units{k:Nat}{A:Around}(r:Room k A):A.units+64 < cLine:=by have:=r.un;omega
theorem Room.units0{k:Nat}{A:Around}(r:Room k A):A.units < cLine:=by have:=r.un;omega
def tNil:TA:=fun _ H Q=>Q [] H
def tCons(ta:TE)(tr:TA):TA:=fun σ H Q=>ta σ H fun x H1=>tr σ H1 fun xs H2=>Q (x::xs) H2
section
variable{X:Cx}{e:Expr}{es:List Expr}{te:TE}{t:TA}{pos:Pos}
theorem pa_nil:PA X [] tNil:=fun _ _ _ _ H Q I h=>Calls.spliced_nil ⟨[],H,I,.nil,h⟩
theorem pa_cons(ha:PE X e te)(hr:PA X es t)(hs:starEach (e::es) X.env=(false,eval e X.env)::starEach es X.env:=by rfl):PA X (e::es) (tCons te t):=by
 intro pos pins s σ H Q I h
 rw[hs]
 show wpAny _ _ (spliced ((false,eval e X.env)::backTo pos (starEach es X.env))) _ _ s
 refine Calls.spliced_cons (thn (ha pins s σ H _ I h) fun u s1 ⟨x,H1,I1,r1,q1⟩=>?_)
 exact thn (hr pos pins s1 σ H1 _ I1 q1) fun us s2 ⟨xs,H2,I2,r2,q2⟩=>⟨x::xs,H2,I2,.cons r1 r2,q2⟩
def tTup(t:TA):TE:=fun σ H Q=>t σ H fun xs H1=>xs.length<=sizeLine/\∀ p,H1 p=none->Q (.ref p) (upd H1 p (.tup xs))
def tLst(t:TA):TE:=fun σ H Q=>t σ H fun xs H1=>xs.length<=sizeLine/\∀ p,H1 p=none->Q (.ref p) (upd H1 p (.lst xs))
theorem pe_tup{x1}(h:PA X es t):PE X (.Tuple es x1 pos) (tTup t):=by
 intro pins s σ H Q I hq
 refine wpAny_Tuple_spliced (thn (h pos pins s σ H _ I hq) fun us s1 ⟨xs,H1,I1,r,z,q⟩=>⟨by rw[<- r.length];exact z,?_⟩)
 have hf:H1 s1.heap.objs.size=none:=I1.hok.fresh (Nat.le_refl _)
 refine⟨.ref s1.heap.objs.size,upd H1 s1.heap.objs.size (.tup xs),I1.laid (t':=s1.toks) (fun b u e=>Heap.get?_push_of_some _ e) (Nat.le_refl _) ?_,rfl,q _ hf⟩
 exact⟨⟨z,_,Heap.get?_push_size _ rfl,rfl⟩,us,r,⟨_,Heap.get?_push_size _ rfl,rfl,_,rfl⟩⟩
theorem pe_lst(h:PA X es t):PE X (.List es pos) (tLst t):=by
 intro pins s σ H Q I hq
 refine wpAny_List_spliced (thn (h pos pins s σ H _ I hq) fun us s1 ⟨xs,H1,I1,r,z,q⟩=>⟨by rw[<- r.length];exact z,?_⟩)
 have hf:H1 s1.heap.objs.size=none:=I1.hok.fresh (Nat.le_refl _)
 refine⟨.ref s1.heap.objs.size,upd H1 s1.heap.objs.size (.lst xs),I1.laid (t':=s1.toks) (fun b u e=>Heap.get?_push_of_some _ e) (Nat.le_refl _) ?_,rfl,q _ hf⟩
 exact⟨z,us,0,r,Heap.get?_push_size _ rfl⟩
end
abbrev Sp:=List V->Hp->VK->XK->Prop
abbrev CXT:=List Env->Hp->Shared->XK->Value->Shared->Prop
structure Env0(P:Program)(w:World)(K:PySem.W.Frag)(mg:Str->Option Value)(base:Heap)(A:Around)(outer:List Env)(s:Shared)(H:Hp):Prop where
 frames:A.frames=some outer
 mod:Mod K mg base
 bs:∀ b o,base.get? b=some o->s.heap.get? b=some o/\H b=none
 bsz:base.objs.size<=s.heap.objs.size
 funs:s.heap.FunFrames base outer
 frf:∀ b∈frs outer,H b=none
 hok:HOk P w H s.heap
 bare:AllBare s.gens
def CE(outer:List Env)(P:Program)(w:World)(H:Hp)(s:Shared)(Q:VK)(u:Value)(s':Shared):Prop :=
 ∃ v H',s'.os=s.os/\AllBare s'.gens/\Un (frs outer) [] H H' s.heap s'.heap/\HOk P w H' s'.heap/\RelV v u/\Q v H'
def CR(CX:CXT)(outer:List Env)(P:Program)(w:World)(H:Hp)(s:Shared)(Q:VK)(E:XK)(r:Result)(s':Shared):Prop :=
 match r with
 | .ok (.ret u)=>CE outer P w H s Q u s'
 | .ok _=>False
 | .error e=>CX outer H s E e s'
structure FnOk(P:Program)(w:World)(K:PySem.W.Frag)(mg:Str->Option Value)(base:Heap)(CX:CXT)(k:Nat)(f:Addr)(fd:FuncData)(ps:List Str)(sp:Sp):Prop where
 len:∀ vs H Q E,sp vs H Q E->vs.length=ps.length
 run:∀ (A:Around) (outer:List Env) (s:Shared) (H:Hp) (args:Args) (us:List Value) (vs:List V) (Q:VK) (E:XK),Room k A->Env0 P w K mg base A outer s H->BindsTo s fd args (ps.zip us)->Vals vs us->sp vs H Q E ->
  codeAny (model P w) A (.call (.ref f) args) (CR CX outer P w H s Q E) s
theorem FnOk.mono{P:Program}{w:World}{K:PySem.W.Frag}{mg:Str->Option Value}{base:Heap}{CX:CXT}{j k:Nat}{f:Addr}{fd:FuncData}{ps:List Str}{sp:Sp}(F:FnOk P w K mg base CX j f fd ps sp)(h:j<=k) :
 FnOk P w K mg base CX k f fd ps sp:=⟨F.len,fun A outer s H args us vs Q E hr=>F.run A outer s H args us vs Q E (hr.mono h)⟩
theorem Env0.make{P:Program}{w:World}{K:PySem.W.Frag}{mg:Str->Option Value}{base:Heap}{A:Around}{outer:List Env}{s:Shared}{H:Hp}(e:Env0 P w K mg base A outer s H)(C:Addr)(us:List Value)(kw:List (Str×Value)) :
 Env0 P w K mg base (A.under (.builtin "type.__call__" ⟨.ref C::us,kw⟩)) outer s H:=⟨by first | exact e.frames | (simpa[Around.under,Code.envs,Code.isFrame,pushEnvs]using e.frames),e.mod,e.bs,e.bsz,e.funs,e.frf,e.hok,e.bare⟩
section
variable{X:Cx}{pins:List (Addr×Obj)}{σ:St}{H:Hp}{s s':Shared}
theorem Inv.env0(I:Inv X pins σ H s):Env0 X.prog X.w X.K X.mg X.base X.A X.stack s H :=
 ⟨I.ok.frames,I.ok.mod,I.bs,Nat.le_trans I.ok.bsz I.sz,I.stack,I.stkFree,I.hok,I.bare⟩
theorem Inv.after{Q:VK}{u:Value}(I:Inv X pins σ H s)(h:CE X.stack X.prog X.w H s Q u s'):EP X pins σ Q u s':=by
 obtain⟨v,H',os,bare,un,hok,r,q⟩:=h
 obtain⟨hh,g,d,t,os'⟩:=s'
 obtain rfl:os'=s.os:=os
 exact⟨v,H',I.call (h':=hh) (g':=g) (d':=d) (t':=t) (ch:=[]) un hok bare (fun b z=>absurd z (by simp)),r,q⟩
end
def tCall(sp:Sp)(dvs:List V)(E:XK)(t:TA):TE:=fun σ H Q=>t σ H fun vs H1=>sp (vs++dvs) H1 Q E
def tMake(C:Addr)(sp:Sp)(dvs:List V)(E:XK)(t:TA):TE:=fun σ H Q=>t σ H fun vs H1=>∀ x dx,H1 x=none->H1 dx=none->dx≠x ->
 sp (.ref x::(vs++dvs)) (upd (upd H1 dx (.own x)) x (.ins C dx [])) (fun v H2=>v=.non/\Q (.ref x) H2) E
def Binds(K:PySem.W.Frag)(fd:FuncData)(ps:List Str)(ds:List Value):Prop :=
 ∀ (s:Shared) (us:List Value),K.In s.heap->(us++ds).length=ps.length->BindsTo s fd ⟨us,[]⟩ (ps.zip (us++ds))
theorem Binds.all{K:PySem.W.Frag}{fd:FuncData}{ps:List Str}(h:∀ us:List Value,us.length=ps.length->bindArgs fd ⟨us,[]⟩=pure (ps.zip us)):Binds K fd ps []:=fun s us _ hl=>by
 rw[List.append_nil]at hl ⊢
 exact .of_eq (h us hl)
def Passes(CX:CXT)(X:Cx)(E:XK):Prop:=∀ (pins:List (Addr×Obj)) (σ:St) (H:Hp) (s:Shared) (e:Value) (s':Shared),Inv X pins σ H s->CX X.stack H s E e s'->X.xe e s'
section
variable{X:Cx}{CX:CXT}{k:Nat}{f C:Addr}{fd:FuncData}{ps:List Str}{sp:Sp}{dvs:List V}{ds:List Value}{E:XK}{x m:Str}{p pos apos:Pos}{e o:Expr}{es:List Expr}{ta:TE}{t:TA}
theorem run_fn{pins:List (Addr×Obj)}{σ:St}{H:Hp}{s:Shared}{Q:VK}{us:List Value}{vs:List V}(F:FnOk X.prog X.w X.K X.mg X.base CX k f fd ps sp)(hr:Room k X.A)(hb:Binds X.K fd ps ds)(hd:Vals dvs ds)(hx:Passes CX X E)
 (I:Inv X pins σ H s) (r:Vals vs us) (h:sp (vs++dvs) H Q E):wpAny (model X.prog X.w) X.A (call (.ref f) us) (EP X pins σ Q) X.xe s:=by
 have r2:Vals (vs++dvs) (us++ds):=r.append hd
 have hl:(us++ds).length=ps.length:=by rw[<- r2.length];exact F.len _ _ _ _ h
 refine wpAny_call (codeAny_mono (F.run X.A X.stack s H ⟨us,[]⟩ (us++ds) (vs++dvs) Q E hr I.env0 (hb s us I.kIn hl) r2 h) fun r s' hq=>?_)
 cases r with
 | error e=>exact hx pins σ H s e s' I hq
 | ok fl =>
  cases fl with
  | ret u=>exact I.after hq
  | next=>exact False.elim hq
  | brk=>exact False.elim hq
  | cont=>exact False.elim hq
theorem pe_call(F:FnOk X.prog X.w X.K X.mg X.base CX k f fd ps sp)(hr:Room k X.A)(hg:Gl X x)(hm:X.mg x=some (.ref f))(hk:PySem.W.keepIn X.K (.ref f)=true)(hb:Binds X.K fd ps ds)(hd:Vals dvs ds)(hx:Passes CX X E)
 (ha:PA X (e::es) t) (hdb:(x == ("__debug__":Str))=false:=by decide) (he:starEach (e::es) X.env=(false,eval e X.env)::starEach es X.env:=by rfl) (hpl:(backTo pos (starEach es X.env)).any (·.1)=false:=by rfl) :
 PE X (.Call (.Name x p) (e::es) [] pos) (tCall sp dvs E t):=by
 intro pins s σ H Q I h
 refine wpAny_Call_Name_kw (ld_glob I hg hm ?_ hdb)
 refine PySem.W.callWith_K (h₀:=X.base) I.ok.mod.kin hk (thn (ha pos pins s σ H _ I h) fun us s1 ⟨vs,H1,I1,r,q⟩=>⟨I1.kIn,?_⟩) he hpl
 exact run_fn F hr hb hd hx I1 r q
theorem pe_call0(F:FnOk X.prog X.w X.K X.mg X.base CX k f fd ps sp)(hr:Room k X.A)(hg:Gl X x)(hm:X.mg x=some (.ref f))(hk:PySem.W.keepIn X.K (.ref f)=true)(hb:Binds X.K fd ps ds)(hd:Vals dvs ds)(hx:Passes CX X E)
 (hdb:(x == ("__debug__":Str))=false:=by decide):PE X (.Call (.Name x p) [] [] pos) (tCall sp dvs E tNil):=by
 intro pins s σ H Q I h
 refine wpAny_Call_Name_kw (ld_glob I hg hm ?_ hdb)
 exact PySem.W.callWith_K0 I.kIn hk (run_fn (us:=[]) F hr hb hd hx I .nil h)
structure Mk(K:PySem.W.Frag)(C f:Addr):Prop where
 makes:PySem.W.makesIn K C=true
 init:PySem.W.findIn K (.ref C) "__init__"=some (some (.ref f))
 fn:PySem.W.isFn K (.ref f)=true
 kp:PySem.W.keepIn K (.ref C)=true
theorem run_make{pins:List (Addr×Obj)}{σ:St}{H:Hp}{s:Shared}{Q:VK}{us:List Value}{vs:List V}(M:Mk X.K C f)(F:FnOk X.prog X.w X.K X.mg X.base CX k f fd ps sp)(hr:Room (k+1) X.A)(hb:Binds X.K fd ps ds)(hd:Vals dvs ds)
 (hx:Passes CX X E) (I:Inv X pins σ H s) (r:Vals vs us)
 (h:∀ x dx,H x=none->H dx=none->dx≠x->sp (.ref x::(vs++dvs)) (upd (upd H dx (.own x)) x (.ins C dx [])) (fun v H2=>v=.non/\Q (.ref x) H2) E) :
 wpAny (model X.prog X.w) X.A (call (.ref C) us) (EP X pins σ Q) X.xe s:=by
 have hq:=h (s.heap.objs.size+1) s.heap.objs.size (I.hok.fresh (Nat.le_succ _)) (I.hok.fresh (Nat.le_refl _)) (Nat.ne_of_lt (Nat.lt_succ_self _))
 have I2:=Inv.made (C:=C) I
 have r2:Vals (V.ref (s.heap.objs.size+1)::(vs++dvs)) (Value.ref (s.heap.objs.size+1)::(us++ds)):=.cons rfl (r.append hd)
 have hl:(Value.ref (s.heap.objs.size+1)::us++ds).length=ps.length:=by
  have e:=r2.length
  rw[F.len _ _ _ _ hq]at e
  exact e.symm
 refine wpAny_call (make_map (f:=f) I.kIn M.makes M.init (beq_iff_eq.mp M.fn) (codeAny_mono (F.run _ X.stack _ _ ⟨Value.ref (s.heap.objs.size+1)::us,[]⟩ (Value.ref (s.heap.objs.size+1)::(us++ds)) _ _ E (hr.make C us [])
  (I2.env0.make C us []) (hb _ (Value.ref (s.heap.objs.size+1)::us) I2.kIn hl) r2 hq) fun r s' hq'=>?_))
 cases r with
 | error e=>exact hx pins σ _ _ e s' I2 hq'
 | ok fl =>
  cases fl with
  | ret u =>
   obtain⟨v,H',I3,rv,ev,q3⟩:=I2.after hq'
   subst ev
   exact⟨rv,⟨V.ref (s.heap.objs.size+1),H',I3,rfl,q3⟩⟩
  | next=>exact False.elim hq'
  | brk=>exact False.elim hq'
  | cont=>exact False.elim hq'
theorem pe_make0(M:Mk X.K C f)(F:FnOk X.prog X.w X.K X.mg X.base CX k f fd ps sp)(hr:Room (k+1) X.A)(hg:Gl X x)(hm:X.mg x=some (.ref C))(hb:Binds X.K fd ps ds)(hd:Vals dvs ds)(hx:Passes CX X E)
 (hdb:(x == ("__debug__":Str))=false:=by decide):PE X (.Call (.Name x p) [] [] pos) (tMake C sp dvs E tNil):=by
 intro pins s σ H Q I h
 refine wpAny_Call_Name_kw (ld_glob I hg hm ?_ hdb)
 exact PySem.W.callWith_K0 I.kIn M.kp (run_make (us:=[]) M F hr hb hd hx I .nil h)
end
def PK(X:Cx)(kws:List Keyword)(t:TA):Prop :=
 ∀ (pos:Pos) (pins:List (Addr×Obj)) (s:Shared) (σ:St) (H:Hp) (Q:List V->Hp->Prop),Inv X pins σ H s->t σ H Q->wpAny (model X.prog X.w) X.A (evalAll ((backToKw pos (keywordEach kws X.env)).map (·.2))) (AP X pins σ Q) X.xe s
section
variable{X:Cx}{CX:CXT}{k:Nat}{f C:Addr}{fd:FuncData}{ps ks:List Str}{sp:Sp}{E:XK}{x m:Str}{p pos apos kpos:Pos}{e o:Expr}{es:List Expr}{kws:List Keyword}{te ta:TE}{t tk:TA}{nm:Option Str}
theorem pk_nil:PK X [] tNil:=fun _ _ _ _ H Q I h=>wpAny_evalAll_nil ⟨[],H,I,.nil,h⟩
theorem pk_cons(ha:PE X e te)(hr:PK X kws t):PK X (⟨nm,e,kpos⟩::kws) (tCons te t):=by
 intro pos pins s σ H Q I h
 show wpAny _ _ (evalAll ((do let v <- eval e X.env;standAt pos;pure v)::(backToKw pos (keywordEach kws X.env)).map (·.2))) _ _ s
 refine wpAny_evalAll_cons (wpAny_bind (thn (ha pins s σ H _ I h) fun u s1 ⟨x,H1,I1,r1,q1⟩=>wpAny_bind (wpAny_standAt (wpAny_pure ?_))))
 exact thn (hr pos pins s1 σ H1 _ I1 q1) fun us s2 ⟨xs,H2,I2,r2,q2⟩=>⟨x::xs,H2,I2,.cons r1 r2,q2⟩
variable{g:List Value->List Value->List Value}{gV:List V->List V->List V}
end
structure FnScope(N P:List Str)(sc:Scope):Prop where
 kind:sc.kind=.function
 co:sc.isCoroutine=false
 gen:sc.isGenerator=false
 nd:N.Nodup
 pre:N.take P.length=P
 par:∀ x∈P,sc.names.lookup x=some .local\/sc.names.lookup x=some .cell
 nofree:∀ y∈sc.names,y.2≠.free
theorem bindL_out{kindOf:Str->Option NameKind}{x:Str}:∀ {binds:List (Str×Value)} {m:Str->Option Value},(∀ v,(x,v)∉binds)->bindL kindOf binds m x=m x
 | [],_,_=>rfl
 | (n,v)::r,m,h=>by
  unfold bindL
  rw[bindL_out fun w hw=>h w (List.mem_cons_of_mem _ hw)]
  split
  ·have:x≠n:=by rintro rfl;exact h v List.mem_cons_self
   simp[this]
  ·rfl
theorem bindC_out{kindOf:Str->Option NameKind}{x:Str}:∀ {binds:List (Str×Value)} {m:Str->Option Value},(∀ v,(x,v)∉binds)->bindC kindOf binds m x=m x
 | [],_,_=>rfl
 | (n,v)::r,m,h=>by
  unfold bindC
  rw[bindC_out fun w hw=>h w (List.mem_cons_of_mem _ hw)]
  split
  ·rfl
  ·have:x≠n:=by rintro rfl;exact h v List.mem_cons_self
   simp[this]
theorem bindL_get{kindOf:Str->Option NameKind}{x:Str}{v:Value}:∀ {P:List Str} {vs:List Value} {i:Nat} {m:Str->Option Value},P.Nodup->P[i]?=some x->vs[i]?=some v->kindOf x=some .local ->
 bindL kindOf (P.zip vs) m x=some v
 | [],_,_,_,_,h,_,_=>by simp at h
 | _::_,[],_,_,_,_,h,_=>by simp at h
 | p::P,w::vs,0,m,nd,h1,h2,hk=>by
  simp at h1 h2;subst h1;subst h2
  show bindL kindOf ((p,w)::P.zip vs) m p=_
  unfold bindL
  rw[bindL_out fun v hv=>(List.nodup_cons.mp nd).1 (List.of_mem_zip hv).1,if_pos hk]
  simp
 | p::P,w::vs,i+1,m,nd,h1,h2,hk=>by
  show bindL kindOf ((p,w)::P.zip vs) m x=_
  unfold bindL
  exact bindL_get (i:=i) (List.nodup_cons.mp nd).2 (by simpa using h1) (by simpa using h2) hk
theorem bindC_get{kindOf:Str->Option NameKind}{x:Str}{v:Value}:∀ {P:List Str} {vs:List Value} {i:Nat} {m:Str->Option Value},P.Nodup->P[i]?=some x->vs[i]?=some v->kindOf x≠some .local ->
 bindC kindOf (P.zip vs) m x=some v
 | [],_,_,_,_,h,_,_=>by simp at h
 | _::_,[],_,_,_,_,h,_=>by simp at h
 | p::P,w::vs,0,m,nd,h1,h2,hk=>by
  simp at h1 h2;subst h1;subst h2
  show bindC kindOf ((p,w)::P.zip vs) m p=_
  unfold bindC
  rw[bindC_out fun v hv=>(List.nodup_cons.mp nd).1 (List.of_mem_zip hv).1,if_neg hk]
  simp
 | p::P,w::vs,i+1,m,nd,h1,h2,hk=>by
  show bindC kindOf ((p,w)::P.zip vs) m x=_
  unfold bindC
  exact bindC_get (i:=i) (List.nodup_cons.mp nd).2 (by simpa using h1) (by simpa using h2) hk
def start(N:List Str)(vs:List V):St:=vs.map some++List.replicate (N.length - vs.length) none
def cxOf(CX:CXT)(P:Program)(w:World)(K:PySem.W.Frag)(mg:Str->Option Value)(base:Heap)(N:List Str)(qual:Str)(scope:Scope)(f:Addr)(cd:Value)(A:Around)(outer:List Env)(s:Shared)(H:Hp)(E:XK):Cx where
 prog:=P
 w:=w
 K:=K
 mg:=mg
 base:=base
 A:=A.deeper (envOfC qual scope s.heap.objs.size f cd)
 N:=N
 s₀:=s
 H₀:=H
 env:=envOfC qual scope s.heap.objs.size f cd
 outer:=outer
 stack:=envOfC qual scope s.heap.objs.size f cd::outer
 ex:=[]
 calm:=true
 fn:=fun _=>true
 pn:=[]
 xe:=fun e s'=>wpAny (model P w) (A.deeper (envOfC qual scope s.heap.objs.size f cd)) (leaving (envOfC qual scope s.heap.objs.size f cd) e) (fun _ s''=>CX outer H s E e s'') (fun e' s''=>CX outer H s E e' s'') s'
theorem cell_has{sc:Scope}{n:Nat}{x:Str}(h:sc.names.lookup x=some .cell):∃ c,(cellsFrom n sc.names []).lookup x=some c:=by
 have q:=PySem.W.cellsFrom_some sc.names n [] (.inl h)
 exact Option.isSome_iff_exists.mp q
theorem inv_start{CX:CXT}{P:Program}{w:World}{K:PySem.W.Frag}{mg:Str->Option Value}{base:Heap}{N ps:List Str}{qual:Str}{scope:Scope}{f:Addr}{cd:Value}{A:Around}{outer:List Env}{s s1:Shared}{H:Hp}{E:XK}{us:List Value}{vs:List V}
 (S:FnScope N ps scope) (hd:A.handled=none) (e0:Env0 P w K mg base A outer s H) (hl:vs.length=ps.length) (r:Vals vs us)
 (x:InCallC s s.heap.objs.size (bindL (envOfC qual scope s.heap.objs.size f cd).kindOf (ps.zip us) fun _=>none) (cellsFrom (s.heap.objs.size+1) scope.names []) (bindC (envOfC qual scope s.heap.objs.size f cd).kindOf (ps.zip us) fun _=>none) s1) :
 Inv (cxOf CX P w K mg base N qual scope f cd A outer s H E) [] (start N vs) H s1:=by
 have hpl:ps.length<=N.length:=by have:=congrArg List.length S.pre;rw[List.length_take]at this;omega
 obtain⟨h1,tk,rfl,hk⟩:=x.done
 have noA:∀ b:Addr,b∉(cxOf CX P w K mg base N qual scope f cd A outer s H E).ex:=fun b z=>absurd (show b∈([]:List Addr) from z) (by simp)
 refine⟨⟨e0.mod,S.kind,rfl,rfl,Nat.le_refl _,fun y z c h1 h2=>?_,fun y hy=>?_,fun y c _ h=>?_,fun _=>hd,Around.frames_deeper e0.frames,.inr ⟨rfl,rfl⟩,fun b z=>absurd z (noA b),e0.bs,e0.bsz,fun b _ _=>noA b,fun b z=>absurd z (noA b),e0.funs,e0.frf⟩,
  rfl,e0.bare,Un.kept hk,⟨_,x.toInCall.ns,fun i y v h1 h2 h3=>?_⟩,fun y c h=>⟨_,x.cell y c h⟩,e0.hok.fresh (Nat.le_refl _),fun y c h=>?_,fun p hp=>absurd (show p∈([]:List (Addr×Obj)) from hp) (by simp),e0.hok.kept hk,?_⟩
 ·exact name_of_addr x.apart (PySem.mem_of_lookup h1) (PySem.mem_of_lookup h2)
 ·have hy:scope.names.lookup y=some .cell\/scope.names.lookup y=some .free:=hy
  rcases hy with hy | hy
  ·exact cell_has hy
  ·exact absurd rfl (S.nofree _ (PySem.mem_of_lookup hy))
 ·exact Nat.le_of_lt (x.above y c (PySem.mem_of_lookup h))
 ·have hi:i < vs.length:=by
   unfold start at h2
   by_cases hi:i < vs.length
   ·exact hi
   ·rw[List.getElem?_append_right (by simpa using hi)]at h2
    rw[List.getElem?_replicate]at h2
    split at h2 <;> cases h2
  have ha:vs[i]?=some v:=by
   unfold start at h2
   rw[List.getElem?_append_left (by simpa using hi),List.getElem?_map]at h2
   cases e:vs[i]? with
   | none=>rw[e]at h2;cases h2
   | some a=>rw[e]at h2;cases h2;rfl
  obtain⟨u,hu,rv⟩:=r.get ha
  have hp:ps[i]?=some y:=by
   rw[<- S.pre,List.getElem?_take_of_lt (by omega)];exact h1
  have ndP:ps.Nodup:=by rw[<- S.pre];exact S.nd.sublist (List.take_sublist _ _)
  refine⟨u,rv,?_⟩
  rcases S.par y (List.mem_of_getElem? hp) with k | k
  ·exact .inl ⟨k,bindL_get ndP hp hu k⟩
  ·obtain⟨c,e⟩:=cell_has (n:=s.heap.objs.size+1) k
   refine .inr ⟨.inl k,c,e,?_⟩
   have q:=x.cell y c e
   rw[bindC_get ndP hp hu (by show scope.names.lookup y≠_;rw[k];decide)]at q
   exact q
 ·exact e0.hok.fresh (Nat.le_of_lt (x.above y c (PySem.mem_of_lookup h)))
 ·unfold start
  show _=N.length
  rw[List.length_append,List.length_map,List.length_replicate]
  omega
theorem fn_of{CX:CXT}{P:Program}{w:World}{K:PySem.W.Frag}{mg:Str->Option Value}{base:Heap}{k:Nat}{f:Addr}{name qual:Str}{params:Arguments}{body:List Stmt}{scope:Scope}{dV kV doc pm cdv ct oc:Value}{an od:Option Addr}
 {osl:Array (Option Value)} {N ps:List Str} {sp:Sp} (lk:K.lookup f=some ⟨oc,od,.func (PySem.W.fnOf name qual params body scope dV kV doc pm an cdv ct),osl⟩) (hcd:PySem.W.codeIn K cdv qual=true) (S:FnScope N ps scope)
 (len:∀ vs H Q E,sp vs H Q E->vs.length=ps.length)
 (hbody:∀ (A:Around) (outer:List Env) (s:Shared) (H:Hp) (vs:List V) (Q:VK) (E:XK),Room k (A.deeper (envOfC qual scope s.heap.objs.size f cdv))->sp vs H Q E ->
  ∃ t,PSs (cxOf CX P w K mg base N qual scope f cdv A outer s H E) body t/\t { nx:=fun _ H'=>Q .non H',rt:=Q } (start N vs) H) :
 FnOk P w K mg base CX (k+1) f (PySem.W.fnOf name qual params body scope dV kV doc pm an cdv ct) ps sp:=by
 refine⟨len,fun A outer s H args us vs Q E hr e0 hb r hsp=>?_⟩
 have hl:=len _ _ _ _ hsp
 have KX:K.In s.heap:=e0.mod.kin.keeps fun b o e=>(e0.bs b o e).1
 have lim:s.heap.NoLimit:=e0.mod.nolimit.keeps fun b o e=>(e0.bs b o e).1
 have hkind:∀ y∈ps.zip us,scope.names.lookup y.1=some .local\/(scope.names.lookup y.1=some .cell/\((cellsFrom (s.heap.objs.size+1) scope.names []).lookup y.1).isSome=true):=fun⟨n,v⟩ hy=>by
  rcases S.par n (List.of_mem_zip hy).1 with q | q
  ·exact .inl q
  ·exact .inr ⟨q,PySem.W.cellsFrom_some _ _ _ (.inl q)⟩
 refine codeAny_call_function hr.depth (KX _ _ lk) rfl S.co S.gen rfl (PySem.W.codeRec_of KX hcd) (hb _ _ _ _ ?_)
 refine wpAny_newFunctionEnv_cells S.kind hkind fun env he s1 x=>?_
 subst he
 refine⟨lim.keeps x.toInCall.keep,codeAny_func ?_⟩
 obtain⟨t,ht,hq⟩:=hbody A outer s H vs Q E (hr.deeper _) hsp
 have I:Inv (cxOf CX P w K mg base N qual scope f cdv A outer s H E) [] (start N vs) H s1:=inv_start S hr.hd e0 hl r x
 refine wpAny_mono (ht [] s1 (start N vs) H _ I hq) (fun fl s' hs=>?_) fun e s' hs=>hs
 have fin:∀ {σ':St} {H':Hp} {v:V} {u:Value},Inv (cxOf CX P w K mg base N qual scope f cdv A outer s H E) [] σ' H' s'->RelV v u->Q v H'->CE outer P w H s Q u s' :=
  fun {σ' H' v u} J rv q=>⟨v,H',J.os,J.bare,J.base,J.hok,rv,q⟩
 cases fl with
 | ret u =>
  obtain⟨v,σ',H',J,rv,q⟩:=hs
  exact fin J rv q
 | next =>
  obtain⟨σ',H',J,q⟩:=hs
  exact fin (v:=V.non) (u:=Value.none) J rfl q
 | brk =>
  obtain⟨_,_,_,q⟩:=hs
  exact False.elim q
 | cont =>
  obtain⟨_,_,_,q⟩:=hs
  exact False.elim q
end L2
namespace L2
open PySem PySem.Spec PyProof.Rows
section
variable{X:Cx}{x:Str}{p pos:Pos}{e:Expr}{es:List Expr}{t:TA}{id T:String}{r:List V->Hp->VK->Prop}
def tCB(r:List V->Hp->VK->Prop)(t:TA):TE:=fun σ H Q=>t σ H fun vs H1=>r vs H1 Q
theorem pe_callB(hc:CallR X (.builtin id) r)(hg:Gl X x)(hm:X.mg x=none)(hv:bootBuiltins x=some (.builtin id))(ha:PA X (e::es) t)(hn:x≠"__name__":=by decide)(hdb:(x == ("__debug__":Str))=false:=by decide)
 (he:starEach (e::es) X.env=(false,eval e X.env)::starEach es X.env:=by rfl) (hpl:(backTo pos (starEach es X.env)).any (·.1)=false:=by rfl):PE X (.Call (.Name x p) (e::es) [] pos) (tCB r t):=by
 intro pins s σ H Q I h
 refine wpAny_Call_Name_kw (ld_blt I hg hm hv ?_ hn hdb)
 exact PyProof.Rows.callWith_builtin1 (thn (ha pos pins s σ H _ I h) fun us s1 ⟨vs,H1,I1,r1,q1⟩=>hc pins s1 σ H1 vs us Q I1 r1 q1) he hpl
theorem pe_callTy(hc:CallR X (.type T) r)(hg:Gl X x)(hm:X.mg x=none)(hv:bootBuiltins x=some (.type T))(ha:PA X (e::es) t)(hn:x≠"__name__":=by decide)(hdb:(x == ("__debug__":Str))=false:=by decide)
 (he:starEach (e::es) X.env=(false,eval e X.env)::starEach es X.env:=by rfl) (hpl:(backTo pos (starEach es X.env)).any (·.1)=false:=by rfl):PE X (.Call (.Name x p) (e::es) [] pos) (tCB r t):=by
 intro pins s σ H Q I h
 refine wpAny_Call_Name_kw (ld_blt I hg hm hv ?_ hn hdb)
 exact PyProof.Rows.callWith_type1 (thn (ha pos pins s σ H _ I h) fun us s1 ⟨vs,H1,I1,r1,q1⟩=>hc pins s1 σ H1 vs us Q I1 r1 q1) he hpl
end
end L2
namespace HT
open PySem PyProof.Rows
theorem eqAt_int(A:Around)(s:Shared)(a:Int)(t:Tok)(c:Int)(u:Tok):∃ e,SeqAt.EqAt A s (.int a t) (.int c u) e/\(e=true↔a=c) :=
 ⟨(a == c),SeqAt.EqAt.int_int a t c u,by simp⟩
theorem rcLt_int(A:Around)(s:Shared)(a:Int)(t:Tok)(c:Int)(u:Tok)(prog:Program)(w:World)(E:Value->Shared->Prop)(Q:Value->Shared->Prop)(h:Q (.bool (decide (a < c))) s) :
 wpAny (model prog w) A (richCompare .Lt (.int a t) (.int c u)) Q E s :=
 (PyProof.Rows.lt_int h:wpAny (model prog w) A (compareOp .Lt (.int a t) (.int c u)) Q E s)
section
open PySem.SeqAt
open PySem.AutoSeq1 (wpAny_loadPart')
open PySem.MeetsSeq PySem.MeetsSeq2 PySem.MeetsSeq3
end
section
variable{prog:Program}{w:World}{A:Around}{E:Value->Shared->Prop}{s:Shared}
def sIx(n d:Nat):Option Int->Nat
 | none=>d
 | some v=>if v < 0 then (v+(n:Int)).toNat else min v.toNat n
theorem sIx_none(n d:Nat):sIx n d none=d:=rfl
theorem sIx_nat(n d k:Nat):sIx n d (some (k:Int))=min k n:=by
 show(if (k:Int) < 0 then ((k:Int)+(n:Int)).toNat else min (k:Int).toNat n)=min k n
 rw[if_neg (by omega),Int.toNat_natCast]
end
end HT
namespace L2
open PySem PySem.Spec PyProof.Rows
abbrev TO:=St->Hp->(Option Int->Hp->Prop)->Prop
def PO(X:Cx)(e:Option Expr)(t:TO):Prop :=
 ∀ (pins:List (Addr×Obj)) (s:Shared) (σ:St) (H:Hp) (Q:Option Int->Hp->Prop),Inv X pins σ H s->t σ H Q ->
  wpAny (model X.prog X.w) X.A (evalPart e X.env) (fun u s'=>∃ o H',Inv X pins σ H' s'/\IsPart u o/\Q o H') X.xe s
def tNoPart:TO:=fun _ H Q=>Q none H
def tPart(t:TE):TO:=fun σ H Q=>t σ H fun x H1=>∃ i,x=.int i/\Q (some i) H1
section
variable{X:Cx}{e:Expr}{te:TE}{lo hi:Option Expr}{tl th:TO}{pos p2:Pos}
theorem po_none:PO X none tNoPart:=by
 intro pins s σ H Q I h
 rw[evalPart_none]
 exact wpAny_pure ⟨none,H,I,.none,h⟩
theorem po_some(h:PE X e te):PO X (some e) (tPart te):=by
 intro pins s σ H Q I hw
 rw[evalPart_some]
 refine thn (h pins s σ H _ I hw) fun u s1 ⟨x,H1,I1,r1,q1⟩=>?_
 obtain⟨i,rfl,q⟩:=q1
 obtain⟨t,rfl⟩:=r1
 exact⟨some i,H1,I1,.int i t,q⟩
def SlR(X:Cx)(r:V->Option Int->Option Int->Hp->VK->Prop):Prop :=
 ∀ (pins:List (Addr×Obj)) (s:Shared) (σ:St) (H:Hp) (x:V) (v vl vu:Value) (lo hi:Option Int) (sl:Addr) (Q:VK),Inv X pins σ H s->RelV x v->s.heap.IsSliceOf sl vl vu .none->IsPart vl lo->IsPart vu hi->r x lo hi H Q ->
  ∃ T id,typeLookup (.type T) "__getitem__"=pure (some (.builtin id))/\s.TypeIs v T/\wpAny (model X.prog X.w) X.A (getItem v (.ref sl)) (EP X pins σ Q) X.xe s
def tSl(r:V->Option Int->Option Int->Hp->VK->Prop)(te:TE)(tl th:TO):TE:=fun σ H Q=>te σ H fun x H1=>tl σ H1 fun l H2=>th σ H2 fun u H3=>r x l u H3 Q
theorem pe_slice{r:V->Option Int->Option Int->Hp->VK->Prop}(hr:SlR X r)(he:PE X e te)(hl:PO X lo tl)(hu:PO X hi th):PE X (.Subscript e (.Slice lo hi none p2) pos) (tSl r te tl th):=by
 intro pins s σ H Q I h
 refine Subscript_ (thn (he pins s σ H _ I h) fun v s1 ⟨x,H1,I1,r1,q1⟩=>?_)
 refine wpAny_Slice (thn (hl pins s1 σ H1 _ I1 q1) fun vl s2 ⟨l,H2,I2,pl,q2⟩=>thn (hu pins s2 σ H2 _ I2 q2) fun vu s3 ⟨u,H3,I3,pu,q3⟩=>?_)
 rw[evalPart_none]
 refine wpAny_pure ?_
 have I4:Inv X pins σ H3 { s3 with heap:=s3.heap.push { cls:=.type "slice",data:=.fields #[vl,vu,.none] } }:=I3.kept (t':=s3.toks) fun b ob q=>Heap.get?_push_of_some _ q
 obtain⟨T,id,hT,ht,hg⟩:=hr pins { s3 with heap:=s3.heap.push { cls:=.type "slice",data:=.fields #[vl,vu,.none] } } σ H3 x v vl vu l u s3.heap.objs.size Q I4 r1 (Heap.IsSliceOf.new ..) pl pu q3
 show wpAny (model X.prog X.w) X.A (subscriptTail e (.Slice lo hi none p2) v (.ref s3.heap.objs.size)) (EP X pins σ Q) X.xe { s3 with heap:=s3.heap.push { cls:=.type "slice",data:=.fields #[vl,vu,.none] } }
 exact tail_any (ops:=[.ref s3.heap.objs.size,v]) ht hT hg (by with_unfolding_all rfl)
def cutV(xs:List V)(lo hi:Option Int):List V:=(xs.drop (HT.sIx xs.length 0 lo)).take (HT.sIx xs.length xs.length hi - HT.sIx xs.length 0 lo)
theorem cutV_length(xs:List V)(lo hi:Option Int):(cutV xs lo hi).length<=xs.length:=by
 unfold cutV
 rw[List.length_take,List.length_drop]
 omega
end
end L2
namespace L2
open PySem PySem.Spec PyProof.Rows
def ixN(n:Nat)(i:Int):Option Nat:=if 0<=i then (if i < n then some i.toNat else none) else if -(n:Int)<=i then some (i+n).toNat else none
def atI{α:Type}(xs:List α)(i:Int):Option α:=(ixN xs.length i).bind fun j=>xs[j]?
theorem ixN_seq{n:Nat}{i:Int}{j:Nat}(h:ixN n i=some j):seqIndex? i n=some j/\j < n /\ -(n:Int)<=i/\i < n:=by
 unfold ixN at h
 by_cases h0:0<=i
 ·rw[if_pos h0]at h
  by_cases h1:i < n
  ·rw[if_pos h1]at h
   have e:i.toNat=j:=Option.some.inj h
   exact⟨by rw[seqIndex_of h0 h1,e],by omega,by omega,h1⟩
  ·rw[if_neg h1]at h;cases h
 ·rw[if_neg h0]at h
  by_cases h1 : -(n:Int)<=i
  ·rw[if_pos h1]at h
   have e:(i+n).toNat=j:=Option.some.inj h
   exact⟨by rw[seqIndex_neg (by omega) h1,e],by omega,h1,by omega⟩
  ·rw[if_neg h1]at h;cases h
theorem atI_get{α:Type}{xs:List α}{i:Int}{v:α}(h:atI xs i=some v):∃ j,seqIndex? i xs.length=some j/\xs[j]?=some v/\j < xs.length /\ -(xs.length:Int)<=i/\i < xs.length:=by
 unfold atI at h
 cases e:ixN xs.length i with
 | none=>rw[e]at h;cases h
 | some j =>
  rw[e]at h
  obtain⟨h1,h2,h3,h4⟩:=ixN_seq e
  exact⟨j,h1,h,h2,h3,h4⟩
theorem atI_nat{α:Type}{xs:List α}{j:Nat}{v:α}(h:xs[j]?=some v):atI xs (j:Int)=some v:=by
 have hj:j < xs.length:=(List.getElem?_eq_some_iff.mp h).1
 have e:ixN xs.length (j:Int)=some j:=by
  unfold ixN
  rw[if_pos (by omega),if_pos (by omega)];simp
 unfold atI;rw[e];exact h
theorem atI_last{α:Type}(xs:List α)(v:α):atI (xs++[v]) (-1)=some v:=by
 have hl:(xs++[v]).length=xs.length+1:=by simp
 have e:ixN (xs++[v]).length (-1)=some xs.length:=by
  unfold ixN
  rw[hl,if_neg (by decide),if_pos (by omega)]
  congr 1
  omega
 unfold atI
 rw[e]
 show(xs++[v])[xs.length]?=some v
 simp
def PlainIx(b:Expr):Prop:=∀ o i,subscripted b false o i=operate [o,i] (getItem o i)
def IxR(X:Cx)(r:R2):Prop :=
 ∀ (value slice:Expr) (pins:List (Addr×Obj)) (s:Shared) (σ:St) (H:Hp) (x y:V) (v u:Value) (Q:VK),Inv X pins σ H s->RelV x v->RelV y u->r x y H Q ->
  subscripted slice false v u=operate [v,u] (getItem v u)->wpAny (model X.prog X.w) X.A (subscriptTail value slice v u) (EP X pins σ Q) X.xe s
def MtR(X:Cx)(id:String)(r:V->List V->Hp->VK->Prop):Prop :=
 ∀ (pins:List (Addr×Obj)) (s:Shared) (σ:St) (H:Hp) (x:V) (xs:List V) (v:Value) (us:List Value) (Q:VK),Inv X pins σ H s->RelV x v->Vals xs us->r x xs H Q ->
  wpAny (model X.prog X.w) X.A (call (.builtin id) (v::us)) (EP X pins σ Q) X.xe s
section
variable{X:Cx}{a b:Expr}{ta tb:TE}{pos:Pos}
theorem pe_ix{r:R2}(hr:IxR X r)(ha:PE X a ta)(hb:PE X b tb)(hs:PlainIx b):PE X (.Subscript a b pos) (tOp r ta tb):=by
 intro pins s σ H Q I h
 exact Subscript_ (binT ha hb I h fun v u s2 x y H2 I2 rx ry q=>hr a b pins s2 σ H2 x y v u Q I2 rx ry q (hs _ _))
def rIxL(K:PySem.W.Frag):R2:=fun x y H Q=>∃ p xs i v,x=.ref p/\y=.int i/\SqL K H p xs/\atI xs i=some v/\Q v H
def rIxT(K:PySem.W.Frag):R2:=fun x y H Q=>∃ p xs i v,x=.ref p/\y=.int i/\SqT K H p xs/\atI xs i=some v/\Q v H
def rIxS:R2:=fun x y H Q=>∃ z i c,x=.str z/\y=.int i/\z.length<=sizeLine/\atI z.cps.toList i=some c/\Q (.str ⟨#[c]⟩) H
theorem ix_list:IxR X (rIxL X.K):=by
 intro value slice pins s σ H x y v u Q I rx ry h hs
 obtain⟨p,xs,i,z,rfl,rfl,hq,he,q⟩:=h
 cases rx
 obtain⟨t,rfl⟩:=ry
 obtain⟨its,r,pl,hz⟩:=I.list hq
 obtain⟨j,h1,h2,h3,h4,h5⟩:=atI_get he
 obtain⟨w,ew,rw'⟩:=r.get h2
 have hl:=r.length
 have hn:=line63
 have fin:EP X pins σ Q w s:=⟨z,H,I,rw',q⟩
 by_cases h0:0<=i
 ·have hj:i.toNat=j:=by
   rw[seqIndex_of h0 h5]at h1
   exact Option.some.inj h1
  exact item_listR pl.isList h0 (by omega) (by rw[hj];simpa using ew) fin hs
 ·have hj:(i+(its.toArray.size:Int)).toNat=j:=by
   rw[seqIndex_neg (by omega) h4]at h1
   rw[List.size_toArray,<- hl]
   exact Option.some.inj h1
  exact subscriptTail_builtinR (x:=w) pl.isList.typeIs slot_list_getitem.lookup
   (wpAny_getItem_list_neg (Q:=fun r s'=>r=w/\EP X pins σ Q r s') pl.isList (by omega) (by rw[List.size_toArray] <;> omega) (by omega) (by rw[hj];simpa using ew) ⟨rfl,fin⟩) hs
theorem ix_str:IxR X rIxS:=by
 intro value slice pins s σ H x y v u Q I rx ry h hs
 obtain⟨z,i,c,rfl,rfl,hz,he,q⟩:=h
 obtain⟨t,rfl⟩:=rx
 obtain⟨t',rfl⟩:=ry
 obtain⟨j,h1,h2,h3,h4,h5⟩:=atI_get he
 have hl:z.cps.toList.length=z.length:=by simp[Str.length]
 rw[hl]at h1 h4 h5
 have hn:=line63
 exact tail_any (typeIs_str s z t) slot_str_getitem.lookup (getItem_str (c:=c) (by
  have e1:decide (i < -(2 ^ 63:Int))=false:=decide_eq_false (by omega)
  have e2:decide (i >= 2 ^ 63)=false:=decide_eq_false (by omega)
  rw[e1,e2,Bool.or_false]) (by rw[h1];simpa using h2) ⟨.str ⟨#[c]⟩,H,I.tok _,⟨_,rfl⟩,q⟩) hs
theorem slice_bounds(lo hi:Option Int)(n:Nat):(sliceBounds lo hi none n).1=((HT.sIx n 0 lo:Nat):Int)/\(sliceBounds lo hi none n).2.1=((HT.sIx n n hi:Nat):Int)/\(sliceBounds lo hi none n).2.2=1:=by
 refine⟨?_,?_,rfl⟩
 ·cases lo with
  | none=>simp[sliceBounds,HT.sIx]
  | some i =>
   simp only[sliceBounds,HT.sIx,Option.getD_none,show(1:Int) > 0 by decide,if_true]
   by_cases h:i < 0
   ·simp only[h,if_true] <;> omega
   ·simp only[h,if_false] <;> omega
 ·cases hi with
  | none=>simp[sliceBounds,HT.sIx]
  | some i =>
   simp only[sliceBounds,HT.sIx,Option.getD_none,show(1:Int) > 0 by decide,if_true]
   by_cases h:i < 0
   ·simp only[h,if_true] <;> omega
   ·simp only[h,if_false] <;> omega
theorem slicePick_cut(its:List Value)(lo hi:Option Int):slicePick its.toArray lo hi none=((its.drop (HT.sIx its.length 0 lo)).take (HT.sIx its.length its.length hi - HT.sIx its.length 0 lo)).toArray:=by
 obtain⟨h1,h2,h3⟩:=slice_bounds lo hi its.toArray.size
 unfold slicePick
 rw[h1,h2,h3]
 simp only[sliceRange_one,pick_run,List.size_toArray] <;> rfl
def rSlL(K:PySem.W.Frag):V->Option Int->Option Int->Hp->VK->Prop:=fun x lo hi H Q=>∃ a xs,x=.ref a/\SqL K H a xs/\∀ p,H p=none->Q (.ref p) (upd H p (.lst (cutV xs lo hi)))
theorem sl_list:SlR X (rSlL X.K):=by
 intro pins s σ H x v vl vu lo hi sl Q I rx hs pl pu h
 obtain⟨a,xs,rfl,hx,q⟩:=h
 cases rx
 obtain⟨its,r,ht,hz⟩:=I.list hx
 have hlen:=r.length
 refine⟨"list",_,slot_list_getitem.lookup,ht.isList.typeIs,?_⟩
 refine wpAny_getItem_list_slice ht.isList hs pl pu .none (by simp) ?_ (by rw[List.size_toArray] <;> omega)
 rw[slicePick_cut,<- hlen]
 refine⟨.ref s.heap.objs.size,_,I.laid (t':=s.toks) (o:=.lst (cutV xs lo hi)) (fun b ob q=>Heap.get?_push_of_some _ q) (Nat.le_refl _) ?_,rfl,q _ (I.hok.fresh (Nat.le_refl _))⟩
 exact⟨Nat.le_trans (cutV_length xs lo hi) hz,_,0,(r.drop (HT.sIx xs.length 0 lo)).take (HT.sIx xs.length xs.length hi - HT.sIx xs.length 0 lo),Heap.get?_push_size _ rfl⟩
def flatV:V->Bool
 | .non=>true
 | .bl _=>true
 | .int _=>true
 | .str _=>true
 | _=>false
def eqV:V->V->Bool
 | .non,.non=>true
 | .bl a,.bl b=>a == b
 | .bl a,.int b=>(if a then 1 else 0) == b
 | .int a,.bl b=>a == (if b then 1 else 0)
 | .int a,.int b=>a == b
 | .str a,.str b=>a == b
 | _,_=>false
theorem eqAt_V{A:Around}{s:Shared}{y x:V}{u v:Value}(ry:RelV y u)(rx:RelV x v)(fy:flatV y=true)(fx:flatV x=true):SeqAt.EqAt A s u v (eqV y x):=by
 cases y with
 | non =>
  cases ry
  cases x with
  | non=>cases rx;exact SeqAt.EqAt.same _
  | bl b=>cases rx;exact SeqAt.EqAt.none_bool b
  | int b=>obtain⟨t,rfl⟩:=rx;exact SeqAt.EqAt.none_int b t
  | str b=>obtain⟨t,rfl⟩:=rx;exact SeqAt.EqAt.none_str b t
  | _=>exact absurd (show false=true from fx) Bool.false_ne_true
 | bl a =>
  cases ry
  cases x with
  | non=>cases rx;exact SeqAt.EqAt.bool_none a
  | bl b=>cases rx;exact SeqAt.EqAt.bool_bool a b
  | int b=>obtain⟨t,rfl⟩:=rx;exact SeqAt.EqAt.bool_int a b t
  | str b=>obtain⟨t,rfl⟩:=rx;exact SeqAt.EqAt.bool_str a b t
  | _=>exact absurd (show false=true from fx) Bool.false_ne_true
 | int a =>
  obtain⟨t',rfl⟩:=ry
  cases x with
  | non=>cases rx;exact SeqAt.EqAt.int_none a t'
  | bl b=>cases rx;exact SeqAt.EqAt.int_bool a t' b
  | int b=>obtain⟨t,rfl⟩:=rx;exact SeqAt.EqAt.int_int a t' b t
  | str b=>obtain⟨t,rfl⟩:=rx;exact SeqAt.EqAt.int_str a t' b t
  | _=>exact absurd (show false=true from fx) Bool.false_ne_true
 | str a =>
  obtain⟨t',rfl⟩:=ry
  cases x with
  | non=>cases rx;exact SeqAt.EqAt.str_none a t'
  | bl b=>cases rx;exact SeqAt.EqAt.str_bool a t' b
  | int b=>obtain⟨t,rfl⟩:=rx;exact SeqAt.EqAt.str_int a t' b t
  | str b=>obtain⟨t,rfl⟩:=rx;exact SeqAt.EqAt.str_str a t' b t
  | _=>exact absurd (show false=true from fx) Bool.false_ne_true
 | _=>exact absurd (show false=true from fy) Bool.false_ne_true
def inV(x:V)(xs:List V):Bool:=xs.any fun y=>eqV y x
def rIn(K:PySem.W.Frag)(neg:Bool):R2:=fun x y H Q=>∃ p xs,y=.ref p/\(SqL K H p xs\/SqT K H p xs)/\flatV x=true/\xs.all flatV=true/\Q (.bl (if neg then !inV x xs else inV x xs)) H
theorem call_len_seq:CallR X (.builtin "len") (fun xs H Q=>∃ p ys,xs=[.ref p]/\(SqL X.K H p ys\/SqT X.K H p ys)/\Q (.int ys.length) H):=by
 intro pins s σ H xs us Q I r h
 obtain⟨p,ys,rfl,hq,q⟩:=h
 obtain⟨u,rfl,rx⟩:=vals1 r
 cases rx
 have hn:=line63
 rcases hq with hq | hq
 ·obtain⟨its,r',pl,hz⟩:=I.list hq
  have hlen:=r'.length
  exact Calls.call_len_list pl.isList (by simp only[List.size_toArray] <;> omega) ⟨.int ys.length,H,I.tok _,⟨s.toks+1,by rw[List.size_toArray,hlen]⟩,q⟩
 ·obtain⟨its,r',pl,hz⟩:=I.tuple hq
  have hlen:=r'.length
  exact len_tuple pl (by simp only[List.size_toArray] <;> omega) ⟨.int ys.length,H,I.tok _,⟨s.toks+1,by rw[List.size_toArray,hlen]⟩,q⟩
theorem call_list_of:CallR X (.type "list") (fun xs H Q=>∃ p ys,xs=[.ref p]/\(SqL X.K H p ys\/SqT X.K H p ys)/\∀ l,H l=none->Q (.ref l) (upd H l (.lst ys))):=by
 intro pins s σ H xs us Q I r h
 obtain⟨p,ys,rfl,hq,q⟩:=h
 obtain⟨u,rfl,rx⟩:=vals1 r
 cases rx
 have fin:∀ (its:List Value),Vals ys its->ys.length<=sizeLine->∀ (h':Heap) (c':Nat),(∀ b o',s.heap.get? b=some o'->h'.get? b=some o') ->
  h'.get? s.heap.objs.size=some { cls:=.type "list",dict:=none,data:=.seq its.toArray c',slots:=#[] }->EP X pins σ Q (.ref s.heap.objs.size) { s with heap:=h' }:=fun its r' hz h' c' kp e =>
  ⟨.ref s.heap.objs.size,_,I.laid (t':=s.toks) kp (Nat.le_refl _) (show ObjOk X.prog X.w _ h' _ (.lst ys) from⟨hz,its,c',r',e⟩),rfl,q _ (I.hok.fresh (Nat.le_refl _))⟩
 rcases hq with hq | hq
 ·obtain⟨its,r',pl,hz⟩:=I.list hq
  have hlen:=r'.length
  obtain⟨o,ho,hc,n,hd⟩:=pl.isList
  exact call_list_seq p (.inl rfl) ho hc hd (fun h' c' kp e=>fin its r' hz h' c' kp e) (by simp only[List.size_toArray] <;> omega)
 ·obtain⟨its,r',pl,hz⟩:=I.tuple hq
  have hlen:=r'.length
  obtain⟨o,ho,hc,n,hd⟩:=pl
  exact call_list_seq p (.inr rfl) ho hc hd (fun h' c' kp e=>fin its r' hz h' c' kp e) (by simp only[List.size_toArray] <;> omega)
theorem call_tuple_of:CallR X (.type "tuple") (fun xs H Q=>∃ p ys,xs=[.ref p]/\((SqL X.K H p ys/\∀ l,H l=none->Q (.ref l) (upd H l (.tup ys)))\/(SqT X.K H p ys/\Q (.ref p) H))):=by
 intro pins s σ H xs us Q I r h
 obtain⟨p,ys,rfl,h⟩:=h
 obtain⟨u,rfl,rx⟩:=vals1 r
 cases rx
 rcases h with ⟨hq,q⟩ | ⟨hq,q⟩
 ·obtain⟨its,r',pl,hz⟩:=I.list hq
  have hlen:=r'.length
  refine call_tuple_list pl.isList (fun h' kp=>?_) (by simp only[List.size_toArray] <;> omega)
  have I1:Inv X pins σ H { s with heap:=h' }:=I.kept (t':=s.toks) kp
  have I2:Inv X pins σ (upd H h'.objs.size (.tup ys)) { s with heap:=h'.push { cls:=.type "tuple",data:=.seq its.toArray } } :=
   I1.laid (t':=s.toks) (fun b o e=>Heap.get?_push_of_some _ e) (Nat.le_refl _) (show ObjOk X.prog X.w _ _ _ (.tup ys) from⟨⟨hz,_,Heap.get?_push_size _ rfl,rfl⟩,its,r',IsTup.new _ _⟩)
  exact⟨.ref h'.objs.size,_,I2,rfl,q _ (I1.hok.fresh (Nat.le_refl _))⟩
 ·obtain⟨its,r',pl,hz⟩:=I.tuple hq
  exact call_tuple_same pl ⟨.ref p,H,I,rfl,q⟩
def tyV(K:PySem.W.Frag)(T:String)(x:V)(H:Hp):Prop:=match x with
 | .str _=>T="str"
 | .int _=>T="int"
 | .ref p=>(T="list"/\∃ xs,SqL K H p xs)\/(T="tuple"/\∃ o,K.lookup p=some o/\o.cls=.type "tuple"/\o.dict=none) \/
  (T="dict"/\((∃ kvs,H p=some (.dK kvs))\/∃ kvs,H p=some (.dT kvs)))\/(T="set"/\∃ S n,H p=some (.set S n))
 | _=>False
theorem tyV_is{pins:List (Addr×Obj)}{σ:St}{H:Hp}{s:Shared}{T:String}{x:V}{v:Value}(I:Inv X pins σ H s)(r:RelV x v)(ty:tyV X.K T x H) :
 s.TypeIs v T/\∀ a,v=.ref a->∃ ob,s.heap.get? a=some ob/\ob.dict=none:=by
 cases x with
 | str z =>
  obtain⟨t,rfl⟩:=r
  cases (show T="str" from ty)
  exact⟨typeIs_str s z t,fun _ e=>nomatch e⟩
 | int i =>
  obtain⟨t,rfl⟩:=r
  cases (show T="int" from ty)
  exact⟨typeIs_int s i t,fun _ e=>nomatch e⟩
 | ref p =>
  cases r
  rcases ty with ⟨rfl,xs,hq⟩ | ⟨rfl,o,hk,hc,hd⟩ | ⟨rfl,hk⟩ | ⟨rfl,S,n,hk⟩
  ·obtain⟨its,_,pl,_⟩:=I.list hq
   refine⟨pl.isList.typeIs,fun a e=>?_⟩
   cases e
   obtain⟨o,n,e,c,hd,_⟩:=pl
   exact⟨o,e,hd⟩
  ·refine⟨⟨o,I.kIn p o hk,hc⟩,fun a e=>?_⟩
   cases e
   exact⟨o,I.kIn _ o hk,hd⟩
  ·have z:∃ o,s.heap.get? p=some o/\o.ExactDict:=by
    rcases hk with ⟨kvs,hk⟩ | ⟨kvs,hk⟩
    ·obtain⟨_,_,_,_,o,_,_,e,ex,_⟩:=I.hok p _ hk
     exact⟨o,e,ex⟩
    ·obtain⟨_,_,_,_,o,_,_,e,ex,_⟩:=I.hok p _ hk
     exact⟨o,e,ex⟩
   obtain⟨o,e,ex⟩:=z
   refine⟨⟨o,e,ex.1⟩,fun a e2=>?_⟩
   cases e2
   exact⟨o,e,ex.2.1⟩
  ·obtain⟨o,_,_,_,e,ex,_⟩:=I.hok p _ hk
   refine⟨⟨o,e,ex.1⟩,fun a e2=>?_⟩
   cases e2
   exact⟨o,e,ex.2.1⟩
 | _=>exact False.elim ty
def tBM0(K:PySem.W.Frag)(T:String)(r:V->List V->Hp->VK->Prop)(to:TE):TE:=fun σ H Q=>to σ H fun x H1=>tyV K T x H1/\r x [] H1 Q
def tBM(K:PySem.W.Frag)(T:String)(r:V->List V->Hp->VK->Prop)(to:TE)(t:TA):TE:=fun σ H Q=>to σ H fun x H1=>tyV K T x H1/\t σ H1 fun xs H2=>r x xs H2 Q
variable{o e:Expr}{es:List Expr}{to:TE}{t:TA}{name:Str}{apos cpos:Pos}{T id:String}{r:V->List V->Hp->VK->Prop}
theorem pe_bm0(pa:PlainAttrs T)(slot:Slot T name id)(hty:typeOf (.builtin id)=pure (.type "method_descriptor"))(hm:MtR X id r)(ho:PE X o to)
 (hbase:attributeBase o name X.env (eval o X.env)=eval o X.env:=by rfl) (hline:(apos.endLine == cpos.line)=true:=by rfl):PE X (.Call (.Attribute o name apos) [] [] cpos) (tBM0 X.K T r to):=by
 intro pins s σ H Q I h
 refine wpAny_Call_method0_late hbase hline (thn (ho pins s σ H _ I h) fun v s1 ⟨x,H1,I1,r1,ty,q1⟩=>?_)
 obtain⟨h1,h2⟩:=tyV_is I1 r1 ty
 exact⟨T,id,pa,slot,hty,h1,h2,Calls.callWith_builtin rfl (PySem.evalArgs_none (hm pins s1 σ H1 x [] v [] Q I1 r1 .nil q1))⟩
theorem pe_bm(pa:PlainAttrs T)(slot:Slot T name id)(hty:typeOf (.builtin id)=pure (.type "method_descriptor"))(hm:MtR X id r)(ho:PE X o to)(ha:PA X (e::es) t)
 (hbase:attributeBase o name X.env (eval o X.env)=eval o X.env:=by rfl)
 (hfew:((backTo cpos (starEach (e::es) X.env)).all (fun x=>!x.1) && (backToKw cpos (keywordEach [] X.env)).all (fun x=>x.1.isSome)
  && decide ((e::es).length+([]:List Keyword).length+(if ([]:List Keyword).isEmpty then 0 else 1) < 30))=true:=by rfl)
 (hline:(apos.endLine == cpos.line)=true:=by rfl) (hs:starEach (e::es) X.env=(false,eval e X.env)::starEach es X.env:=by rfl) (hplain:(backTo cpos (starEach es X.env)).any (·.1)=false:=by rfl) :
 PE X (.Call (.Attribute o name apos) (e::es) [] cpos) (tBM X.K T r to t):=by
 intro pins s σ H Q I h
 refine wpAny_Call_method_late hbase hfew hline rfl (thn (ho pins s σ H _ I h) fun v s1 ⟨x,H1,I1,r1,ty,q1⟩=>?_)
 obtain⟨h1,h2⟩:=tyV_is I1 r1 ty
 refine⟨T,id,pa,slot,hty,h1,h2,?_⟩
 have hA:=ha cpos pins s1 σ H1 _ I1 q1
 rw[hs]at hA ⊢
 refine Calls.callWith_builtin (by show(false || (backTo cpos (starEach es X.env)).any (·.1))=false;rw[hplain] <;> rfl) (Calls.evalArgs_plain ?_)
 exact thn hA fun us s2 ⟨vs,H2,I2,r2,q2⟩=>hm pins s2 σ H2 x vs v us Q I2 r1 r2 q2
end
end L2
namespace L2
open PySem PySem.Spec PyProof.Rows
def MtM(X:Cx)(id:String)(r:V->List V->Hp->VK->Prop):Prop :=
 ∀ (pins:List (Addr×Obj)) (s:Shared) (σ:St) (H:Hp) (x:V) (xs:List V) (v:Value) (us:List Value) (Q:VK),Inv X pins σ H s->RelV x v->Vals xs us->r x xs H Q ->
  wpAny (model X.prog X.w) X.A (call (.builtin id) (v::us)) (EP X pins σ Q) X.xe s
theorem Vals.one:∀ {x:V} {us:List Value},Vals [x] us->∃ u,us=[u]/\RelV x u
 | _,_,.cons r .nil=>⟨_,rfl,r⟩
theorem Vals.zero:∀ {us:List Value},Vals [] us->us=[]
 | _,.nil=>rfl
section
variable{X:Cx}{pins:List (Addr×Obj)}{σ:St}{H:Hp}{s:Shared}{l b:Addr}{xs ys zs:List V}
theorem Inv.lset{its its':List Value}{n:Nat}{f:Array Value->Array Value}{t':Nat}(I:Inv X pins σ H s)(hH:H l=some (.lst xs))
 (e:s.heap.get? l=some { cls:=.type "list",data:=.seq its.toArray n }) (hf:f its.toArray=its'.toArray) (hv:Vals ys its') (hz:ys.length<=sizeLine) :
 Inv X pins σ (upd H l (.lst ys)) { s with heap:=s.heap.update l (Obj.mapSeq f),toks:=t' }:=by
 have q:=PySem.IsL.update e f
 rw[hf]at q
 refine I.write (x:=l) (e:=l) (by rw[hH];exact trivial) (.inl rfl) (fun b' u hb hu=>(Heap.get?_update_other s.heap (Obj.mapSeq f) (Ne.symm hb)).trans hu) ⟨_,q⟩ ?_
 exact⟨hz,its',_,hv,q⟩
theorem Inv.lnew{its:List Value}{t':Nat}(I:Inv X pins σ H s)(hv:Vals ys its)(hz:ys.length<=sizeLine) :
 Inv X pins σ (upd H s.heap.objs.size (.lst ys)) { s with heap:=s.heap.push { cls:=.type "list",data:=.seq its.toArray },toks:=t' } :=
 I.laid (fun _ _ q=>Heap.get?_push_of_some _ q) (Nat.le_refl _) ⟨hz,its,0,hv,Heap.get?_push_size _ rfl⟩
theorem Inv.fresh(I:Inv X pins σ H s):H s.heap.objs.size=none:=I.hok.fresh (Nat.le_refl _)
theorem Inv.lstM(I:Inv X pins σ H s)(hH:H l=some (.lst xs)):xs.length<=sizeLine/\∃ (its:List Value) (n:Nat),Vals xs its/\xs.length=its.length/\s.heap.get? l=some { cls:=.type "list",data:=.seq its.toArray n }:=by
 obtain⟨z,its,n,r,e⟩:=I.hok l _ hH
 exact⟨z,its,n,r,r.length,e⟩
end
section
variable{X:Cx}
def rAppend:V->List V->Hp->VK->Prop:=fun x vs H Q=>∃ l xs y,x=.ref l/\vs=[y]/\H l=some (.lst xs)/\xs.length < sizeLine/\Q .non (upd H l (.lst (xs++[y])))
theorem mt_append:MtM X "list.append" rAppend:=by
 intro pins s σ H x vs v us Q I rx rv h
 obtain⟨l,xs,y,rfl,rfl,hH,hz,q⟩:=h
 cases rx
 obtain⟨u,rfl,ru⟩:=rv.one
 obtain⟨z,its,n,r,hl,e⟩:=I.lstM hH
 refine call_meets F.slot_list_append ⟨_,e,rfl⟩ F.entry_list_append (F.args_list_append_2 _ _) (PySem.list_append l its.toArray n u (by rw[List.size_toArray];omega)) ⟨e,?_⟩
 refine⟨.non,_,I.lset (its':=its++[u]) hH e (by simp) (r.append (.cons ru .nil)) ?_,rfl,q⟩
 rw[List.length_append,List.length_singleton]
 omega
def rClear:V->List V->Hp->VK->Prop:=fun x vs H Q=>∃ l xs,x=.ref l/\vs=[]/\H l=some (.lst xs)/\Q .non (upd H l (.lst []))
theorem mt_clear:MtM X "list.clear" rClear:=by
 intro pins s σ H x vs v us Q I rx rv h
 obtain⟨l,xs,rfl,rfl,hH,q⟩:=h
 cases rx
 have hus:=rv.zero
 subst hus
 obtain⟨z,its,n,r,hl,e⟩:=I.lstM hH
 refine call_meets F.slot_list_clear ⟨_,e,rfl⟩ F.entry_list_clear (F.args_list_clear_1 _) (AutoSeq1.list_clear_list_0 l its.toArray n (by rw[List.size_toArray];omega)) ⟨e,?_⟩
 exact⟨.non,_,I.lset (its':=[]) (ys:=[]) hH e rfl .nil (Nat.zero_le _),rfl,q⟩
def rCat:R2:=fun x y H Q=>∃ l b xs zs,x=.ref l/\y=.ref b/\H l=some (.lst xs)/\H b=some (.lst zs)/\xs.length+zs.length<=sizeLine/\∀ p,H p=none->Q (.ref p) (upd H p (.lst (xs++zs)))
theorem op_cat:OpR X (binaryOp .Add) rCat:=by
 intro pins s σ H x y v u Q I rx ry h
 obtain⟨l,b,xs,zs,rfl,rfl,hH,hB,hz,q⟩:=h
 cases rx
 cases ry
 obtain⟨z,its,n,r,hl,e⟩:=I.lstM hH
 obtain⟨z2,its2,n2,r2,hl2,e2⟩:=I.lstM hB
 refine PySem.P.add_list e e2 ?_ (by rw[List.size_toArray,List.size_toArray];omega)
 have ea:its.toArray++its2.toArray=(its++its2).toArray:=by simp
 rw[ea]
 exact⟨.ref _,_,I.lnew (t':=s.toks) (r.append r2) (by rw[List.length_append];omega),rfl,q _ I.fresh⟩
end
section
variable{prog:Program}{w:World}{A:Around}{E:Value->Shared->Prop}{s:Shared}
end
section
variable{X:Cx}
end
end L2
namespace Att
open PySem PySem.W PySem.Calls PyProof.Rows
theorem ints_of_wellAll{P:Params}{h:Heap}:∀ (ns:List Int) (vs:List Value),WellAll P h vs (ns.map WData.int)->IntsAre vs ns:=by
 intro ns
 induction ns with
 | nil =>
  intro vs w
  rw[List.map_nil]at w
  cases w
  exact .nil
 | cons n ns ih =>
  intro vs w
  rw[List.map_cons]at w
  cases w with
  | cons a b =>
   cases a
   exact .cons _ _ (ih _ b)
theorem script_of{l:OpenLaw}{n:Nat}(hn:l.most=some n){P:Params}{h:Heap}{args:List WData}{vals:List Value}
 (hpre:l.row.toRowW.claim.pre args=true) (hwl:WellAll P h vals args) :
 ∃ a vs ns,vals=[Value.ref a]/\args=[WData.list (ns.map WData.int)]/\h.get? a=some { cls:=.type "list",data:=.seq vs.toArray }/\IntsAre vs ns/\ns.length<=n:=by
 have hsh:WShape.hasAll [] args [.list .int]=true:=(pre_splitW hpre).1
 have hc:l.pre.holds [] { args:=args }=true:=(pre_splitW hpre).2
 obtain⟨d,r,rfl,h1,h2⟩:=hasAllW_cons hsh
 obtain rfl:=hasAllW_nil h2
 obtain⟨xs,rfl,h3⟩:=hasW_list h1
 obtain⟨ns,rfl⟩:=items_int h3
 have hlen:ns.length<=n:=by
  unfold OpenLaw.pre at hc
  have h4:(WTm.not (.lt (.lit (.int (n:Int))) (.len (.arg 0)))).holds [] { args:=[.list (ns.map .int)] }=true:=by
   have h4:=(holds_andW hc).1
   rw[hn]at h4
   exact h4
  have h5:=condW_of h4 (w_not (w_lt w_lit (w_len_list (w_arg rfl))))
  rw[List.length_map]at h5
  refine Nat.le_of_not_lt fun q=>?_
  have q':(n:Int) < ((ns.length:Nat):Int):=by omega
  first
   | (rw[decide_eq_true q']at h5;exact absurd h5 (by decide))
   | (simp at h5;omega)
 cases hwl with
 | cons w1 w2 =>
  cases w2
  cases w1 with
  | list ho hall=>exact⟨_,_,ns,rfl,rfl,ho,ints_of_wellAll ns _ hall,hlen⟩
theorem post_true(l:OpenLaw)(args:List WData):l.row.toRowW.claim.post args (.bool true) args=true :=
 postW_of (r:=l.row.toRowW) (X:=(true == true))
  (show WShape.has [] (.bool true) .bool=true by first | rfl | decide | simp[WShape.has,WShape.arms,WShape.armsAll])
  (show(WTm.eq .res (.lit (.bool true))).value [] { args:=args,res:=some (.bool true),after:=args }=some (.bool (true == true)) from w_eq_bool (w_res rfl) w_lit) rfl
section
variable{prog:Program}{w:World}{A:Around}{E:Value->Shared->Prop}{s:Shared}{K:Frag}
end
end Att
namespace L2
open PySem PySem.Spec PyProof.Rows
theorem vals_ints:∀ {vs:List Value} {ns:List Int},IntsAre vs ns->Vals (ns.map V.int) vs
 | _,_,.nil=>.nil
 | _,_,.cons n t h=>.cons ⟨t,rfl⟩ (vals_ints h)
def Only(H:Hp):Prop:=∀ b,H b=none\/∃ o xs,H b=some (.frz o (.lst xs))
theorem law_call{P:Program}{w:World}{K:PySem.W.Frag}{mg mb:Str->Option Value}{CX:CXT}{k:Nat}{fa a:Addr}{fd:FuncData}{x:Str}{sp:Sp}{s₁:Shared}{vs:List Value}{ns:List Int}
 (KX:K.In s₁.heap) (hns:s₁.heap.Ns mainGlobals mg) (hb:s₁.heap.Ns builtinsNs mb) (hbb:∀ x:Str,x≠"__name__"->mb x=bootBuiltins x) (hlim:s₁.heap.NoLimit) (hg:s₁.gens=#[])
 (ha:s₁.heap.get? a=some { cls:=.type "list",data:=.seq vs.toArray }) (hi:IntsAre vs ns) (hl:ns.length<=sizeLine) (hr:Room k callerA)
 (F:∀ base:Heap,K.In base->base.Ns mainGlobals mg->FnOk P w K mg base CX k fa fd [x] sp) (hbind:∀ (s:Shared) (u:Value),BindsTo s fd ⟨[u],[]⟩ [(x,u)])
 (hsp:∀ H:Hp,Only H->SqL K H a (ns.map V.int)->sp [.ref a] H (fun v _=>v=.bl true) fun _ _ _=>False)
 (hCX:∀ H e s',CX [] H s₁ (fun _ _ _=>False) e s'->False) :
 codeAny (model P w) callerA (.call (.ref fa) ⟨[.ref a],[]⟩) (fun r s'=>r=.ok (.ret (.bool true))/\OldK s₁.heap s'.heap/\s'.os=s₁.os/\AllBare s'.gens) s₁:=by
 have rv:=vals_ints hi
 have lenV:=hi.length
 have core:∀ H:Hp,Only H->SqL K H a (ns.map V.int)->HOk P w H s₁.heap->(∀ b,H b≠none->b=a)->(H a≠none->K.lookup a=none) ->
  codeAny (model P w) callerA (.call (.ref fa) ⟨[.ref a],[]⟩) (fun r s'=>r=.ok (.ret (.bool true))/\OldK s₁.heap s'.heap/\s'.os=s₁.os/\AllBare s'.gens) s₁:=by
  intro H hO hS hok hA hK
  have base_of:∀ {b:Addr} {o:Obj},s₁.heap.get? b=some o->H b=none->(hidT s₁.heap H).get? b=some o:=fun e n=>hidT_get e n
  have noA:∀ {b:Addr} {o:Obj} {es:Array DictEntry} {ep:Nat},s₁.heap.get? b=some o->o.data=.dict es ep->H b=none:=fun {b o es ep} e d=>by
   cases q:H b with
   | none=>rfl
   | some u =>
    have e':b=a:=hA b (by rw[q];simp)
    subst e'
    rw[ha]at e;cases e
    have d':Data.seq vs.toArray _=Data.dict es ep:=d
    cases d'
  have nsK:∀ {b:Addr} {m:Str->Option Value},s₁.heap.Ns b m->(hidT s₁.heap H).Ns b m:=fun {b m} ⟨o,es,ep,e,d,r⟩=>⟨o,es,ep,base_of e (noA e d),d,r⟩
  have hKb:K.In (hidT s₁.heap H):=fun b o e=>base_of (KX b o e) (by
   cases q:H b with
   | none=>rfl
   | some u =>
    have e':b=a:=hA b (by rw[q];simp)
    subst e'
    rw[hK (by rw[q];simp)]at e;cases e)
  have hM:Mod K mg (hidT s₁.heap H):=⟨hKb,nsK hns,⟨mb,nsK hb,hbb⟩,let ⟨mc,h1,h2⟩:=hlim;⟨mc,nsK h1,h2⟩⟩
  have e0:Env0 P w K mg (hidT s₁.heap H) callerA [] s₁ H:=⟨rfl,hM,fun b o e=>of_hidT e,Nat.le_of_eq (hidT_size _ _),trivial,fun b hb=>absurd (show b∈([]:List Addr) from hb) (by simp),hok,.of_eq hg⟩
  refine codeAny_mono ((F _ hKb (nsK hns)).run callerA [] s₁ H ⟨[.ref a],[]⟩ [.ref a] [.ref a] _ _ hr e0 (hbind s₁ (.ref a)) (.cons rfl .nil) (hsp H hO hS)) fun r s' h=>?_
  cases r with
  | error e=>exact(hCX H e s' h).elim
  | ok fl =>
   cases fl with
   | next=>exact False.elim h
   | brk=>exact False.elim h
   | cont=>exact False.elim h
   | ret u =>
    obtain⟨v,H',os,bare,un,hok',r',q⟩:=h
    have q':v=.bl true:=q
    subst q'
    obtain rfl:u=Value.bool true:=r'
    refine⟨rfl,OldK.of_keep fun b o e=>?_,os,bare⟩
    cases q:H b with
    | none=>exact un.keep b o e q (by intro z;exact absurd (show b∈([]:List Addr) from z) (by simp)) (by simp)
    | some u =>
     rcases hO b with z | ⟨ob,xs,z⟩
     ·rw[q]at z;cases z
     ·have z2:=un.frzs b ob _ z
      obtain⟨e1,_⟩:=hok b _ z
      obtain⟨e2,_⟩:=hok' b _ z2
      rw[e]at e1;cases e1
      exact e2
 cases hk:K.lookup a with
 | some o =>
  have e:=KX a o hk
  rw[ha]at e
  cases e
  refine core (fun _=>none) (fun _=>.inl rfl) (.inr ⟨_,vs.toArray,_,hk,rfl,rfl,rfl,by rw[List.size_toArray,lenV];exact hl,by simpa using rv⟩) (fun b u z=>by have z':(none:Option HO)=some u:=z;cases z') (fun b z=>absurd rfl z) fun z=>absurd rfl z
 | none =>
  refine core (fun b=>if b=a then some (.frz { cls:=.type "list",data:=.seq vs.toArray } (.lst (ns.map V.int))) else none) (fun b=>?_) (.inl (.inr ⟨{ cls:=.type "list",data:=.seq vs.toArray },if_pos rfl⟩)) (fun b u z=>?_) (fun b z=>?_) fun _=>hk
  ·by_cases hb:b=a
   ·exact .inr ⟨_,_,if_pos hb⟩
   ·exact .inl (if_neg hb)
  ·by_cases hb:b=a
   ·have z':=(if_pos hb).symm.trans z
    cases z'
    subst hb
    exact⟨ha,by rw[List.length_map];exact hl,vs,_,rv,ha⟩
   ·have z':=(if_neg hb).symm.trans z
    cases z'
  ·by_cases hb:b=a
   ·exact hb
   ·exact absurd (if_neg hb) z
end L2
namespace L2
open PySem PySem.Spec PyProof.Rows
end L2
namespace L2
open PySem PySem.Spec PyProof.Rows
def defArgs(s:Stmt):Arguments:=match s with
 | .FunctionDef _ a _ _ _ _ _ _ _ _=>a
 | _=>{ posonlyargs:=[],args:=[],vararg:=none,kwonlyargs:=[],kw_defaults:=[],kwarg:=none,defaults:=[] }
def defBody(s:Stmt):List Stmt:=match s with
 | .FunctionDef _ _ b _ _ _ _ _ _ _=>b
 | _=>[]
def defScope(s:Stmt):Scope:=match s with
 | .FunctionDef _ _ _ _ _ _ sc _ _ _=>sc
 | _=>{ kind:=.function,names:=[],isGenerator:=false,isCoroutine:=false }
abbrev CX0:CXT:=fun _ _ _ _ _ _=>False
abbrev E0:XK:=fun _ _ _=>False
theorem pass0{X:Cx}:Passes CX0 X E0:=fun _ _ _ _ _ _ _ h=>h.elim
structure Fun(K:PySem.W.Frag)(x qual:Str)(st:Stmt)(f:Addr)(fd:FuncData):Prop where
 ex:∃ (oc:Value) (od:Option Addr) (kV doc pm:Value) (an:Option Addr) (cdv ct:Value) (osl:Array (Option Value)),
  fd=PySem.W.fnOf x qual (defArgs st) (defBody st) (defScope st) .none kV doc pm an cdv ct/\K.lookup f=some ⟨oc,od,.func fd,osl⟩/\PySem.W.codeIn K cdv qual=true
 kp:PySem.W.keepIn K (.ref f)=true
section
variable{P:Program}{w:World}{K:PySem.W.Frag}{mg:Str->Option Value}{base:Heap}
theorem Fun.ok{x qual:Str}{st:Stmt}{f:Addr}{fd:FuncData}{N ps:List Str}{k:Nat}{sp:Sp}(F:Fun K x qual st f fd)(S:FnScope N ps (defScope st))(len:∀ vs H Q E,sp vs H Q E->vs.length=ps.length)
 (hbody:∀ (cdv:Value) (A:Around) (outer:List Env) (s:Shared) (H:Hp) (vs:List V) (Q:VK) (E:XK),Room k (A.deeper (envOfC qual (defScope st) s.heap.objs.size f cdv))->sp vs H Q E ->
  ∃ t,PSs (cxOf CX0 P w K mg base N qual (defScope st) f cdv A outer s H E).nox (defBody st) t/\t { nx:=fun _ H'=>Q .non H',rt:=Q } (start N vs) H):FnOk P w K mg base CX0 (k+1) f fd ps sp:=by
 obtain⟨oc,od,kV,doc,pm,an,cdv,ct,osl,rfl,lk,hcd⟩:=F.ex
 refine fn_of lk hcd S len fun A outer s H vs Q E hr hsp=>?_
 obtain⟨t,h,q⟩:=hbody cdv A outer s H vs Q E hr hsp
 exact⟨t,h.nox,q⟩
theorem Fun.binds{x qual:Str}{st:Stmt}{f:Addr}{fd:FuncData}{ps:List Str}(F:Fun K x qual st f fd)
 (h:∀ (kV doc pm:Value) (an:Option Addr) (cdv ct:Value) (us:List Value),us.length=ps.length->bindArgs (PySem.W.fnOf x qual (defArgs st) (defBody st) (defScope st) .none kV doc pm an cdv ct) ⟨us,[]⟩=pure (ps.zip us)):Binds K fd ps []:=by
 obtain⟨oc,od,kV,doc,pm,an,cdv,ct,osl,rfl,lk,hcd⟩:=F.ex
 exact .all (h kV doc pm an cdv ct)
theorem fun_mk{x qual:Str}{st:Stmt}{f:Addr}{oc:Value}{od an:Option Addr}{osl:Array (Option Value)}{kV doc pm cdv ct:Value}(l:K.lookup f=some ⟨oc,od,.func (PySem.W.fnOf x qual (defArgs st) (defBody st) (defScope st) .none kV doc pm an cdv ct),osl⟩)
 (c:PySem.W.codeIn K cdv qual=true) (k:PySem.W.keepIn K (.ref f)=true):Fun K x qual st f (PySem.W.fnOf x qual (defArgs st) (defBody st) (defScope st) .none kV doc pm an cdv ct):=⟨⟨oc,od,kV,doc,pm,an,cdv,ct,osl,rfl,l,c⟩,k⟩
end
theorem small1000{n:Nat}(h:n<=1000):n < sizeLine:=Nat.lt_of_le_of_lt h (by decide)
section
variable{X:Cx}
theorem pv(i:Nat){x:Str}{pos:Pos}(hN:X.N[i]?=some x:=by rfl)(hv:Vis X.env.scope x:=by first | exact Or.inl rfl | exact Or.inr (Or.inl rfl) | exact Or.inr (Or.inr rfl))(hd:(x == ("__debug__":Str))=false:=by decide)
 (hcd:(x == ("__classdict__":Str))=false:=by decide):PE X (.Name x pos) (tVar i):=pe_var hN hv hd hcd
end
theorem iteT{A B:Prop}(h:A):if true=true then A else B:=by
 rw[if_pos rfl]
 exact h
theorem ite2{c A B:Prop}[Decidable c](h1:c->A)(h2:¬ c->B):if c then A else B:=by
 by_cases h:c
 ·rw[if_pos h]
  exact h1 h
 ·rw[if_neg h]
  exact h2 h
def Same(H H':Hp):Prop:=∀ b o,H b=some o->H' b=some o
theorem Same.refl(H:Hp):Same H H:=fun _ _ h=>h
theorem Same.trans{H H1 H2:Hp}(a:Same H H1)(b:Same H1 H2):Same H H2:=fun c o h=>b c o (a c o h)
theorem Same.seq{K:PySem.W.Frag}{H H':Hp}{a:Addr}{xs:List V}(e:Same H H')(h:SqL K H a xs):SqL K H' a xs:=by
 rcases h with (h | ⟨o,h⟩) | h
 ·exact .inl (.inl (e _ _ h))
 ·exact .inl (.inr ⟨o,e _ _ h⟩)
 ·exact .inr h
end L2
end
section
namespace L2
open PySem PySem.Spec PyProof.Rows
end L2
namespace L2
open PySem PySem.Spec PyProof.Rows
section
variable(P:Program)(w:World)
end
section
variable{P:Program}{w:World}{H H':Hp}{h h':Heap}{a:Addr}{o:HO}
end
section
variable{P:Program}{w:World}{H:Hp}{h h':Heap}{x e:Addr}{o':HO}
end
section
variable{fs fs' ex ex':List Addr}{H H1 H2:Hp}{h h1 h2 h':Heap}{a x e:Addr}{o:HO}
end
end L2
namespace L2
open PySem PySem.Spec PyProof.Rows
section
variable{X:Cx}{pins:List (Addr×Obj)}{σ:List (Option V)}{H H':Hp}{s:Shared}{h':Heap}
end
end L2
namespace L2
open PySem PySem.Spec PyProof.Rows
section
variable{X:Cx}
variable{a b:Expr}{ta tb:TE}{pos:Pos}
variable{tA tB':TT}{rest:List Expr}
end
end L2
namespace L2
open PySem PySem.Spec PyProof.Rows
section
variable{X:Cx}{pins:List (Addr×Obj)}{σ:St}{H:Hp}{s:Shared}{a:Addr}{xs ys:List V}
end
section
variable{X:Cx}{pins:List (Addr×Obj)}{σ:St}{H:Hp}{s:Shared}{E:Value->Shared->Prop}
end
section
variable{X:Cx}{st:Stmt}{rest:List Stmt}{t u:TS}{e:Expr}{te:TE}{pos:Pos}
end
section
variable{X:Cx}{pos:Pos}
end
section
variable{X:Cx}{pos:Pos}
end
end L2
namespace L2
open PySem PySem.Spec PyProof.Rows
section
variable{X:Cx}{tg:Expr}
end
end L2
namespace L2
open PySem PySem.Spec PyProof.Rows
section
variable{X:Cx}{a b c:Expr}{ta tb tc:TE}{pos:Pos}
end
section
variable{X:Cx}{a b c:Expr}{ta tb tc:TE}{pos:Pos}
end
end L2
namespace L2
open PySem PySem.Spec PyProof.Rows
section
variable{prog:Program}{w:World}{A:Around}{E:Value->Shared->Prop}{s:Shared}{K:PySem.W.Frag}{x dx C f:Addr}{mA:Str->Option Value}{name:Str}{v:Value}
end
section
variable{P:Program}{w:World}{H H':Hp}{h h':Heap}{a C dx:Addr}{fs fs':List (Str×V)}
end
section
variable{X:Cx}{pins:List (Addr×Obj)}{σ:St}{H:Hp}{s:Shared}{a C dx:Addr}{fs:List (Str×V)}{f:Str}{v:V}{A:Around}{E:Value->Shared->Prop}
end
section
variable{X:Cx}{o e value:Expr}{f:Str}{pos pos' tpos:Pos}{ta tv:TE}
end
section
variable{X:Cx}{pins:List (Addr×Obj)}{σ:St}{H:Hp}{s:Shared}{A:Around}{E:Value->Shared->Prop}{Q:Value->Shared->Prop}{c:Value}{b:Bool}
end
end L2
namespace L2
open PySem PySem.Spec PyProof.Rows
section
variable{X:Cx}{e:Expr}{es:List Expr}{te:TE}{t:TA}{pos:Pos}
end
section
variable{X:Cx}{pins:List (Addr×Obj)}{σ:St}{H:Hp}{s s':Shared}
end
section
variable{X:Cx}{CX:CXT}{k:Nat}{f C:Addr}{fd:FuncData}{ps:List Str}{sp:Sp}{dvs:List V}{ds:List Value}{E:XK}{x m:Str}{p pos apos:Pos}{e o:Expr}{es:List Expr}{ta:TE}{t:TA}
end
section
variable{X:Cx}{CX:CXT}{k:Nat}{f C:Addr}{fd:FuncData}{ps ks:List Str}{sp:Sp}{E:XK}{x m:Str}{p pos apos kpos:Pos}{e o:Expr}{es:List Expr}{kws:List Keyword}{te ta:TE}{t tk:TA}{nm:Option Str}
variable{g:List Value->List Value->List Value}{gV:List V->List V->List V}
end
end L2
namespace L2
open PySem PySem.Spec PyProof.Rows
section
variable{X:Cx}{x:Str}{p pos:Pos}{e:Expr}{es:List Expr}{t:TA}{id T:String}{r:List V->Hp->VK->Prop}
end
end L2
namespace L2
open PySem PySem.Spec PyProof.Rows
section
variable{κ:Type}[DecidableEq κ]
def valV(kvs:List (κ×V))(k:κ):Option V:=(kvs.find? fun kv=>decide (kv.1=k)).map (·.2)
def putK(kvs:List (κ×V))(k:κ)(v:V):List (κ×V) :=
 if (kvs.any fun kv=>decide (kv.1=k))=true then kvs.map (fun kv=>if kv.1=k then (kv.1,v) else kv) else kvs++[(k,v)]
def dropK(kvs:List (κ×V))(k:κ):List (κ×V):=kvs.filter fun kv=>decide (kv.1≠k)
theorem valV_pos{p:κ×V}{r:List (κ×V)}{k:κ}(e:p.1=k):valV (p::r) k=some p.2:=by simp[valV,List.find?_cons,e]
theorem valV_neg{p:κ×V}{r:List (κ×V)}{k:κ}(e:¬ p.1=k):valV (p::r) k=valV r k:=by simp[valV,List.find?_cons,e]
theorem valV_any(k:κ):∀ kvs:List (κ×V),(kvs.any fun kv=>decide (kv.1=k))=(valV kvs k).isSome
 | []=>rfl
 | p::r=>by
  rw[List.any_cons]
  by_cases e:p.1=k
  ·simp only[valV_pos e,decide_eq_true e,Bool.true_or,Option.isSome_some]
  ·rw[valV_neg e,decide_eq_false e,Bool.false_or];exact valV_any k r
theorem length_putK(kvs:List (κ×V))(k:κ)(v:V):(putK kvs k v).length<=kvs.length+1:=by
 unfold putK
 split
 ·rw[List.length_map];omega
 ·rw[List.length_append,List.length_cons,List.length_nil];omega
theorem RelO.isSome_eq{o:Option V}{u:Option Value}(r:RelO o u):o.isSome=u.isSome:=by
 cases o with
 | none=>cases u with
  | none=>rfl
  | some _=>exact(show False from r).elim
 | some _=>cases u with
  | none=>exact(show False from r).elim
  | some _=>rfl
theorem KV.val{kvs:List (κ×V)}{vs:List (κ×Value)}(r:KV kvs vs)(k:κ):RelO (valV kvs k) (valueAt vs k):=by
 unfold KV at r
 induction r with
 | nil=>exact True.intro
 | @cons p q ps qs h t ih =>
  obtain⟨h1,h2⟩:=h
  by_cases e:p.1=k
  ·have e':q.1=k:=h1.symm.trans e
   have b:valueAt (q::qs) k=some q.2:=by simp[valueAt,List.find?_cons,e']
   rw[valV_pos e,b];exact h2
  ·have e':¬ q.1=k:=fun z=>e (h1.trans z)
   have b:valueAt (q::qs) k=valueAt qs k:=by simp[valueAt,List.find?_cons,e']
   rw[valV_neg e,b];exact ih
theorem KV.any{kvs:List (κ×V)}{vs:List (κ×Value)}(r:KV kvs vs)(k:κ):(kvs.any fun kv=>decide (kv.1=k))=vs.any fun kv=>decide (kv.1=k):=by
 unfold KV at r
 induction r with
 | nil=>rfl
 | cons h t ih=>rw[List.any_cons,List.any_cons,ih,h.1]
theorem KV.repl{kvs:List (κ×V)}{vs:List (κ×Value)}(r:KV kvs vs)(k:κ){y:V}{u:Value}(ry:RelV y u) :
 KV (kvs.map fun kv=>if kv.1=k then (kv.1,y) else kv) (vs.map fun kv=>if kv.1=k then (kv.1,u) else kv):=by
 unfold KV at r ⊢
 induction r with
 | nil=>exact .nil
 | @cons p q ps qs h t ih =>
  rw[List.map_cons,List.map_cons]
  refine .cons ?_ ih
  obtain⟨h1,h2⟩:=h
  by_cases e:p.1=k
  ·rw[if_pos e,if_pos (h1.symm.trans e)];exact⟨h1,ry⟩
  ·rw[if_neg e,if_neg (fun z=>e (h1.trans z))];exact⟨h1,h2⟩
theorem KV.put{kvs:List (κ×V)}{vs:List (κ×Value)}(r:KV kvs vs)(k:κ){y:V}{u:Value}(ry:RelV y u):KV (putK kvs k y) (stored vs k u):=by
 unfold putK stored
 rw[r.any k]
 by_cases e:(vs.any fun kv=>decide (kv.1=k))=true
 ·rw[if_pos e,if_pos e];exact r.repl k ry
 ·rw[if_neg e,if_neg e];exact Paired.snoc r ⟨rfl,ry⟩
theorem KV.length{kvs:List (κ×V)}{vs:List (κ×Value)}(r:KV kvs vs):kvs.length=vs.length:=Paired.length r
end
theorem kV_is{P:Program}{w:World}{k:Key}{u:Value}(r:RelV (kV k) u):(mixKind P w).is k u=true:=by
 cases k with
 | inl i=>obtain⟨t,e⟩:=(show ∃ t,u=Value.int i t from r);subst e;exact mixKind_int P w i t
 | inr x=>obtain⟨t,e⟩:=(show ∃ t,u=Value.str x t from r);subst e;exact mixKind_str P w x t
theorem kV_inj{a b:Key}(e:kV a=kV b):a=b:=by
 cases a with
 | inl i=>cases b with
  | inl j=>have e':V.int i=V.int j:=e;injection e' with e';rw[e']
  | inr y=>exact nomatch (show V.int i=V.str y from e)
 | inr x=>cases b with
  | inl j=>exact nomatch (show V.str x=V.int j from e)
  | inr y=>have e':V.str x=V.str y:=e;injection e' with e';rw[e']
theorem items_are{P:Program}{w:World}:∀ {ks:List Key} {us:List Value},Vals (ks.map kV) us->ItemsAre (mixKind P w) ks us
 | [],_,r=>by rw[List.map_nil]at r;cases r;exact .nil
 | k::ks,_,r=>by
  rw[List.map_cons]at r
  cases r with
  | cons h t=>exact .cons (kV_is h) (items_are t)
abbrev KT(H:Hp):List (List Key×V)->List (List Key×Addr×Value)->Prop:=Paired fun p q=>p.1=q.1/\H q.2.1=some (.tup (p.1.map kV))/\RelV p.2 q.2.2
theorem KT.val{H:Hp}{kvs:List (List Key×V)}{xs:List (List Key×Addr×Value)}(r:KT H kvs xs)(k:List Key):RelO (valV kvs k) ((atKey xs k).map (·.2)):=by
 induction r with
 | nil=>exact True.intro
 | @cons p q ps qs h t ih =>
  obtain⟨h1,_,h2⟩:=h
  by_cases e:p.1=k
  ·have e':q.1=k:=h1.symm.trans e
   have b:atKey (q::qs) k=some q.2:=by simp[atKey,List.find?_cons,e']
   rw[valV_pos e,b];exact h2
  ·have e':¬ q.1=k:=fun z=>e (h1.trans z)
   have b:atKey (q::qs) k=atKey qs k:=by simp[atKey,List.find?_cons,e']
   rw[valV_neg e,b];exact ih
theorem KT.repl{H:Hp}{kvs:List (List Key×V)}{xs:List (List Key×Addr×Value)}(r:KT H kvs xs)(k:List Key){y:V}{u:Value}(ry:RelV y u) :
 KT H (kvs.map fun kv=>if kv.1=k then (kv.1,y) else kv) (xs.map (putAt k u)):=by
 induction r with
 | nil=>exact .nil
 | @cons p q ps qs h t ih =>
  rw[List.map_cons,List.map_cons]
  refine .cons ?_ ih
  obtain⟨h1,h2,h3⟩:=h
  unfold putAt
  by_cases e:p.1=k
  ·rw[if_pos e,if_pos (h1.symm.trans e)];exact⟨h1,h2,ry⟩
  ·rw[if_neg e,if_neg (fun z=>e (h1.trans z))];exact⟨h1,h2,h3⟩
theorem KT.put{H:Hp}{kvs:List (List Key×V)}{xs:List (List Key×Addr×Value)}(r:KT H kvs xs)(k:List Key){b:Addr}{y:V}{u:Value}(hb:H b=some (.tup (k.map kV)))(ry:RelV y u) :
 KT H (putK kvs k y) (storedH xs k b u):=by
 have e:(kvs.any fun kv=>decide (kv.1=k))=(atKey xs k).isSome:=by
  rw[valV_any,(r.val k).isSome_eq,Option.isSome_map]
 unfold putK storedH
 rw[e]
 by_cases q:(atKey xs k).isSome=true
 ·rw[if_pos q,if_pos q];exact r.repl k ry
 ·rw[if_neg q,if_neg q];exact Paired.snoc r ⟨rfl,hb,ry⟩
theorem KT.keeps{H H':Hp}{kvs:List (List Key×V)}{xs:List (List Key×Addr×Value)}(r:KT H kvs xs)(ht:∀ b ys,H b=some (.tup ys)->H' b=some (.tup ys)):KT H' kvs xs :=
 Paired.mapP r fun _ _ z=>⟨z.1,ht _ _ z.2.1,z.2.2⟩
section
variable{P:Program}{w:World}{H:Hp}{h:Heap}{a:Addr}
theorem rd_of{u:HO}(ok:HOk P w H h)(e:Rd H a u):ObjOk P w H h a u:=e.ok ok
theorem dk_rd{kvs:List (Key×V)}(ok:HOk P w H h)(e:Rd H a (.dK kvs)):kvs.length<=sizeLine/\(a == sysModules)=false/\∃ vs,KV kvs vs/\h.DictOf (mixKind P w) a vs :=
 show ObjOk P w H h a (.dK kvs) from rd_of ok e
theorem dk_of{kvs:List (Key×V)}(ok:HOk P w H h)(e:H a=some (.dK kvs)):kvs.length<=sizeLine/\(a == sysModules)=false/\∃ vs,KV kvs vs/\h.DictOf (mixKind P w) a vs:=dk_rd ok (.inl e)
theorem key_of{ks:List Key}(ok:HOk P w H h)(e:H a=some (.tup (ks.map kV))):(tupleKind (mixKind P w)).is h ks a:=by
 obtain⟨_,its,r,o,h1,h2,n,h3⟩:=(show ObjOk P w H h a (.tup (ks.map kV)) from ok a _ e)
 exact⟨o,its.toArray,n,h1,h2,h3,by simpa using items_are r⟩
theorem dt_rd{kvs:List (List Key×V)}(ok:HOk P w H h)(e:Rd H a (.dT kvs)):kvs.length<=sizeLine/\(a == sysModules)=false /\
 ∃ xs,KT H kvs xs/\h.DictOfH (tupleKind (mixKind P w)) a xs:=by
 obtain⟨z,y,xs,r,o,es,ep,h1,h2,h3,h4,h5⟩:=(show ObjOk P w H h a (.dT kvs) from rd_of ok e)
 refine⟨z,y,xs,r,o,es,ep,h1,h2,h3,h4,fun x hx=>?_,h5⟩
 have all:∀ {l:List (List Key×V)} {m:List (List Key×Addr×Value)},KT H l m->∀ x∈m,(tupleKind (mixKind P w)).is h x.1 x.2.1:=by
  intro l m q
  induction q with
  | nil=>intro x hx;exact nomatch hx
  | @cons p q ps qs hq t ih =>
   intro x hx
   rcases List.mem_cons.mp hx with e | hx
   ·subst e
    exact key_of ok (by rw[<- hq.1];exact hq.2.1)
   ·exact ih x hx
 exact all r x hx
theorem dt_of{kvs:List (List Key×V)}(ok:HOk P w H h)(e:H a=some (.dT kvs)):kvs.length<=sizeLine/\(a == sysModules)=false /\
 ∃ xs,KT H kvs xs/\h.DictOfH (tupleKind (mixKind P w)) a xs:=dt_rd ok (.inl e)
end
def DGet(H:Hp)(a:Addr)(y:V)(r:Option V):Prop :=
 (∃ kvs k,Rd H a (.dK kvs)/\y=kV k/\r=valV kvs k)\/∃ kvs k b,Rd H a (.dT kvs)/\y=.ref b/\H b=some (.tup (k.map kV))/\r=valV kvs k
def DPut(H:Hp)(a:Addr)(y v:V)(H':Hp):Prop :=
 (∃ kvs k,H a=some (.dK kvs)/\y=kV k/\kvs.length < sizeLine/\H'=upd H a (.dK (putK kvs k v))) \/
 ∃ kvs k b,H a=some (.dT kvs)/\y=.ref b/\H b=some (.tup (k.map kV))/\kvs.length < sizeLine/\H'=upd H a (.dT (putK kvs k v))
theorem DGet.k{H:Hp}{a:Addr}{kvs:List (Key×V)}{k:Key}(e:H a=some (.dK kvs)):DGet H a (kV k) (valV kvs k):=.inl ⟨kvs,k,.inl e,rfl,rfl⟩
theorem DPut.k{H:Hp}{a:Addr}{kvs:List (Key×V)}{k:Key}{v:V}(e:H a=some (.dK kvs))(hl:kvs.length < sizeLine):DPut H a (kV k) v (upd H a (.dK (putK kvs k v))):=.inl ⟨kvs,k,e,rfl,hl,rfl⟩
section
variable{X:Cx}{pins:List (Addr×Obj)}{σ:St}{H:Hp}{s:Shared}{a:Addr}{y v:V}{u r:Value}{o:Option V}{A:Around}{E:Value->Shared->Prop}
theorem Inv.big(I:Inv X pins σ H s):sysModules < s.heap.objs.size:=by
 have h:mainGlobals < s.heap.objs.size:=(I.mod.glob.keeps I.bk).lt
 exact Nat.lt_trans (by decide) h
theorem d_getItem{Q:Value->Shared->Prop}(hu:A.units+1 < cLine)(I:Inv X pins σ H s)(g:DGet H a y (some v))(ry:RelV y u)(h:∀ w' s',Inv X pins σ H s'->RelV v w'->Q w' s') :
 wpAny (model X.prog X.w) A (getItem (.ref a) u) Q E s:=by
 rcases g with ⟨kvs,k,e,ey,l⟩ | ⟨kvs,k,b,e,ey,eb,l⟩
 ·subst ey
  obtain⟨z,hd,vs,rel,dd⟩:=dk_rd I.hok e
  obtain⟨w',hw,rw'⟩:=RelO.some_of (v:=v) (o:=valueAt vs k) (by rw[l];exact rel.val k)
  exact wpAny_getItem_of (kV_is ry) dd.mapOf hw (h w' _ (I.tok _) rw')
 ·subst ey
  cases (show u=Value.ref b from ry)
  obtain⟨z,hd,xs,rel,dd⟩:=dt_rd I.hok e
  obtain⟨w',hw,rw'⟩:=RelO.some_of (v:=v) (o:=(atKey xs k).map (·.2)) (by rw[l];exact rel.val k)
  obtain⟨p,hp,hp2⟩:=Option.map_eq_some_iff.mp hw
  refine wpAny_getItem_heap (tupleKind_room_in1 hu) (key_of I.hok eb) dd hp ?_
  rw[hp2]
  exact h w' _ (I.tok _) rw'
theorem d_notIn{Q:Value->Shared->Prop}(hu:A.units+1 < cLine)(I:Inv X pins σ H s)(g:DGet H a y o)(ry:RelV y u)(h:∀ s',Inv X pins σ H s'->Q (.bool (!o.isSome)) s') :
 wpAny (model X.prog X.w) A (compareOp .NotIn u (.ref a)) Q E s:=by
 rcases g with ⟨kvs,k,e,ey,l⟩ | ⟨kvs,k,b,e,ey,eb,l⟩
 ·subst ey
  obtain⟨z,hd,vs,rel,dd⟩:=dk_rd I.hok e
  refine wpAny_notIn_of (kV_is ry) hd dd.mapOf ?_
  rw[<- (rel.val k).isSome_eq,<- l]
  exact h _ (I.tok _)
 ·subst ey
  cases (show u=Value.ref b from ry)
  obtain⟨z,hd,xs,rel,dd⟩:=dt_rd I.hok e
  refine wpAny_notIn_heap (tupleKind_room_in1 hu) (key_of I.hok eb) hd dd ?_
  have q:=(rel.val k).isSome_eq
  rw[Option.isSome_map]at q
  rw[<- q,<- l]
  exact h _ (I.tok _)
theorem d_write{h':Heap}{t':Nat}{ob:HO}(I:Inv X pins σ H s)(mu:Mut (H a))(hs:Heap.SameBut a s.heap h')(he:∃ q,h'.get? a=some q)(new:ObjOk X.prog X.w (upd H a ob) h' a ob) :
 Inv X pins σ (upd H a ob) { s with heap:=h',toks:=t' } :=
 I.write (x:=a) (e:=a) mu (.inl rfl) (fun b q hb z=>(hs.2 b hb).trans z) he new
theorem dk_new{P:Program}{w:World}{H':Hp}{h':Heap}{kvs:List (Key×V)}{vs:List (Key×Value)}(z:kvs.length<=sizeLine)(hd:(a == sysModules)=false)(rel:KV kvs vs)(dd:h'.DictOf (mixKind P w) a vs) :
 ObjOk P w H' h' a (.dK kvs):=⟨z,hd,vs,rel,dd⟩
theorem d_setItem{H':Hp}{Q:Unit->Shared->Prop}(hu:A.units+1 < cLine)(I:Inv X pins σ H s)(g:DPut H a y v H')(ry:RelV y u)(rv:RelV v r)(h:∀ s',Inv X pins σ H' s'->Q () s') :
 wpAny (model X.prog X.w) A (setItem (.ref a) u r) Q E s:=by
 rcases g with ⟨kvs,k,e,ey,l,eH⟩ | ⟨kvs,k,b,e,ey,eb,l,eH⟩
 ·subst ey eH
  obtain⟨z,hd,vs,rel,dd⟩:=dk_of I.hok e
  have hz:vs.length<=sizeLine:=by rw[<- rel.length];exact z
  have hl:(putK kvs k v).length<=sizeLine:=by have:=length_putK kvs k v;omega
  refine wpAny_setItem_pairs (hsz:=hz) (kV_is ry) dd fun h' dd' hs=>h _ ?_
  have he:∃ q,h'.get? a=some q:=let ⟨q,_,_,hq,_⟩:=dd';⟨q,hq⟩
  exact d_write I (by rw[e];exact True.intro) hs he (dk_new hl hd (rel.put k rv) dd')
 ·subst ey eH
  cases (show u=Value.ref b from ry)
  obtain⟨z,hd,xs,rel,dd⟩:=dt_of I.hok e
  have hz:xs.length<=sizeLine:=by rw[<- Paired.length rel];exact z
  have hl:(putK kvs k v).length<=sizeLine:=by have:=length_putK kvs k v;omega
  refine wpAny_setItem_heap (hsz:=hz) (tupleKind_room_in1 hu) (key_of I.hok eb) dd fun h' dd' hs=>h _ ?_
  obtain⟨q,es,ep,hq,h2,h3,h4,_,h5⟩:=dd'
  refine d_write I (by rw[e];exact True.intro) hs ⟨q,hq⟩ ⟨hl,hd,_,(rel.put k eb rv).keeps fun c ys ec=>?_,q,es,ep,hq,h2,h3,h4,h5⟩
  rw[upd_ne (ne_of ec e (fun z=>nomatch z))]
  exact ec
end
section
variable{X:Cx}{pins:List (Addr×Obj)}{σ:St}{H:Hp}{s:Shared}{a:Addr}{kvs:List (Key×V)}{k:Key}{u:Value}{A:Around}{E:Value->Shared->Prop}
end
def NoSl(i:Expr):Prop:=∀ ov iv,subscripted i false ov iv=operate [ov,iv] (getItem ov iv)
theorem subD_of{prog:Program}{w:World}{A:Around}{E:Value->Shared->Prop}{s:Shared}{env:Env}{value slice:Expr}{pos:Pos}{T id:String}{Q:Value->Shared->Prop}
 (hl:typeLookup (.type T) "__getitem__"=pure (some (.builtin id))) (hs:NoSl slice)
 (h:wpAny (model prog w) A (eval value env) (fun o s₁=>wpAny (model prog w) A (eval slice env) (fun i s₂=>s₂.TypeIs o T/\wpAny (model prog w) A (getItem o i) Q E s₂) E s₁) E s) :
 wpAny (model prog w) A (eval (.Subscript value slice pos) env) Q E s:=by
 refine Subscript_ (wpAny_mono h (fun o s₁ h₁=>wpAny_mono h₁ (fun i s₂ h₂=>?_) fun _ _ x=>x) fun _ _ x=>x)
 obtain⟨hT,h₂⟩:=h₂
 unfold subscriptTail
 refine wpAny_bind ?_
 rw[getitemInPython_of_ne hT.not_modules]
 refine wpAny_bind (wpAny_specialOf hT hl ?_)
 have fin:wpAny (model prog w) A (subscripted slice false o i) (fun r s₃=>wpAny (model prog w) A (letTemporaryGo value o r >>= fun _=>pure r) Q E s₃) E s₂:=by
  rw[hs o i]
  exact wpAny_operating (wpAny_mono h₂ (fun r s₃ h₃=>wpAny_bind (wpAny_letTemporaryGo (wpAny_pure h₃))) fun _ _ x=>x)
 first
  | exact wpAny_pure (wpAny_bind fin)
  | exact wpAny_bind (wpAny_pure (wpAny_bind fin))
  | exact wpAny_bind fin
theorem dict_typeIs{X:Cx}{pins:List (Addr×Obj)}{σ:St}{H:Hp}{s:Shared}{a:Addr}{y:V}{o:Option V}(I:Inv X pins σ H s)(g:DGet H a y o):s.TypeIs (.ref a) "dict":=by
 rcases g with ⟨kvs,k,e,_,_⟩ | ⟨kvs,k,b,e,_,_,_⟩
 ·obtain⟨_,_,vs,_,dd⟩:=dk_rd I.hok e
  exact dd.typeIs
 ·obtain⟨_,_,xs,_,dd⟩:=dt_rd I.hok e
  exact dd.typeIs
def tDGet(td ty:TE):TE:=fun σ H Q=>td σ H fun x H1=>ty σ H1 fun y H2=>∃ a v,x=.ref a/\DGet H2 a y (some v)/\Q v H2
def tDIn(ty td:TE):TE:=fun σ H Q=>ty σ H fun y H1=>td σ H1 fun x H2=>∃ a o,x=.ref a/\DGet H2 a y o/\Q (.bl o.isSome) H2
def tDNotIn(ty td:TE):TE:=fun σ H Q=>ty σ H fun y H1=>td σ H1 fun x H2=>∃ a o,x=.ref a/\DGet H2 a y o/\Q (.bl (!o.isSome)) H2
def sDPut(td ty tv:TE):TS:=fun D σ H=>tv σ H fun v H1=>td σ H1 fun x H2=>ty σ H2 fun y H3=>∃ a H4,x=.ref a/\DPut H3 a y v H4/\D.nx σ H4
section
variable{X:Cx}{o i e value:Expr}{pos pos' tpos:Pos}{td ty tv:TE}
theorem pe_dget(hu:X.A.units+1 < cLine)(ho:PE X o td)(hi:PE X i ty)(hs:NoSl i):PE X (.Subscript o i pos) (tDGet td ty):=by
 intro pins s σ H Q I h
 refine subD_of PySem.F.slot_dict_getitem.lookup hs (thn (ho pins s σ H _ I h) fun u s1 ⟨x,H1,I1,rx,q1⟩=>thn (hi pins s1 σ H1 _ I1 q1) fun iv s2 ⟨y,H2,I2,ry,a,v,ex,g,q2⟩=>?_)
 subst ex
 obtain rfl:u=Value.ref a:=rx
 exact⟨dict_typeIs I2 g,d_getItem hu I2 g ry fun w' s3 I3 rw'=>⟨v,H2,I3,rw',q2⟩⟩
theorem pc_dnotin(hu:X.A.units+1 < cLine)(hi:PE X i ty)(ho:PE X o td):PC X .NotIn i o (tDNotIn ty td):=by
 intro pins s σ H Q I h
 refine thn (hi pins s σ H _ I h) fun iv s1 ⟨y,H1,I1,ry,q1⟩=>thn (ho pins s1 σ H1 _ I1 q1) fun u s2 ⟨x,H2,I2,rx,a,ov,ex,g,q2⟩=>?_
 subst ex
 obtain rfl:u=Value.ref a:=rx
 exact d_notIn hu I2 g ry fun s3 I3=>⟨.bl (!ov.isSome),H2,I3,rfl,q2⟩
theorem ps_dput(hu:X.A.units+1 < cLine)(ho:PE X o td)(hi:PE X i ty)(hv:PE X value tv)(hs:swapsWith value (some (.Subscript o i pos')) pos.line X.env=pure false) :
 PS X (.Assign [.Subscript o i pos'] value pos) (sDPut td ty tv):=by
 intro pins s σ H D I h
 refine wpAny_Assign_Subscript (thn (hv pins s σ H _ I h) fun r s1 ⟨v,H1,I1,rv,q1⟩=>thn (ho pins s1 σ H1 _ I1 q1) fun u s2 ⟨x,H2,I2,rx,q2⟩=>thn (hi pins s2 σ H2 _ I2 q2) fun iv s3 ⟨y,H3,I3,ry,a,H4,ex,g,q3⟩=>?_) hs
 subst ex
 obtain rfl:u=Value.ref a:=rx
 exact d_setItem hu I3 g ry rv fun s4 I4=>⟨σ,H4,I4,q3⟩
end
theorem dk_empty{P:Program}{w:World}{H:Hp}(h:Heap)(hb:sysModules < h.objs.size):ObjOk P w H (h.push { cls:=.type "dict",data:=.dict #[] }) h.objs.size (.dK []) :=
 ⟨Nat.zero_le _,beq_eq_false_iff_ne.mpr (Ne.symm (Nat.ne_of_lt hb)),[],.nil,Heap.DictOf.new h⟩
def tDNewK:TE:=fun _ H Q=>∀ p,H p=none->Q (.ref p) (upd H p (.dK []))
section
variable{X:Cx}{pos:Pos}
end
def tPairs:List (TE×TE)->St->Hp->(List (V×V)->Hp->Prop)->Prop
 | [],_,H,Q=>Q [] H
 | (tk,tv)::r,σ,H,Q=>tk σ H fun x H1=>tv σ H1 fun y H2=>tPairs r σ H2 fun ps H3=>Q ((x,y)::ps) H3
abbrev VV:List (V×V)->List (Value×Value)->Prop:=Paired fun p q=>RelV p.1 q.1/\RelV p.2 q.2
def PPs(X:Cx)(pos:Pos)(keys:List (Option Expr))(values:List Expr)(trs:List (TE×TE)):Prop :=
 ∀ (pins:List (Addr×Obj)) (s:Shared) (σ:St) (H:Hp) (Q:List (V×V)->Hp->Prop),Inv X pins σ H s->tPairs trs σ H Q ->
  wpAny (model X.prog X.w) X.A (evalPairs (pairTrees keys values X.env pos)) (fun vs s'=>∃ ps H',Inv X pins σ H' s'/\VV ps vs/\Q ps H') X.xe s
theorem pps_nil{X:Cx}{pos:Pos}:PPs X pos [] [] []:=fun pins s σ H Q I h=>pairTrees_nil_walk ⟨[],H,I,.nil,h⟩
theorem pps_cons{X:Cx}{pos:Pos}{k v:Expr}{ks:List (Option Expr)}{vs:List Expr}{tk tv:TE}{trs:List (TE×TE)}(hk:PE X k tk)(hv:PE X v tv)(hr:PPs X pos ks vs trs) :
 PPs X pos (some k::ks) (v::vs) ((tk,tv)::trs):=fun pins s σ H Q I h =>
 pairTrees_cons_walk (thn (hk pins s σ H _ I h) fun u s1 ⟨x,H1,I1,rx,q1⟩=>thn (hv pins s1 σ H1 _ I1 q1) fun w2 s2 ⟨y,H2,I2,ry,q2⟩ =>
  thn (hr pins s2 σ H2 _ I2 q2) fun ws s3 ⟨ps,H3,I3,rel,q3⟩=>⟨(x,y)::ps,H3,I3,.cons ⟨rx,ry⟩ rel,q3⟩)
def mergeK(kvs more:List (Key×V)):List (Key×V):=more.foldl (fun acc kv=>putK acc kv.1 kv.2) kvs
theorem KV.merge:∀ {more:List (Key×V)} {rs:List (Key×Value)} {kvs:List (Key×V)} {vs:List (Key×Value)},KV more rs->KV kvs vs->KV (mergeK kvs more) (merged vs rs):=by
 intro more rs kvs vs r
 unfold KV at r
 induction r generalizing kvs vs with
 | nil=>intro q;exact q
 | @cons p q ps qs h t ih =>
  intro r0
  have e:KV (putK kvs p.1 p.2) (stored vs q.1 q.2):=by
   have:=r0.put p.1 h.2
   rw[<- h.1];exact this
  exact ih e
theorem length_mergeK:∀ (more kvs:List (Key×V)),(mergeK kvs more).length<=kvs.length+more.length
 | [],kvs=>by show kvs.length<=kvs.length+0;omega
 | p::r,kvs=>by
  have h1:=length_mergeK r (putK kvs p.1 p.2)
  have h2:=length_putK kvs p.1 p.2
  show(mergeK (putK kvs p.1 p.2) r).length<=_
  rw[List.length_cons];omega
theorem carries_of{P:Program}{w:World}:∀ {kvs:List (Key×V)} {ws:List (Value×Value)},VV (kvs.map fun kv=>(kV kv.1,kv.2)) ws->∃ rs,Carries (mixKind P w) ws rs/\KV kvs rs
 | [],_,r=>by rw[List.map_nil]at r;cases r;exact⟨[],True.intro,.nil⟩
 | p::kvs,_,r=>by
  rw[List.map_cons]at r
  cases r with
  | @cons a b as bs h t =>
   obtain⟨rs,c,q⟩:=carries_of (P:=P) (w:=w) t
   obtain⟨b1,b2⟩:=b
   exact⟨(p.1,b2)::rs,⟨kV_is h.1,rfl,c⟩,.cons ⟨rfl,h.2⟩ q⟩
def tDisp(trs:List (TE×TE)):TE:=fun σ H Q=>∀ p,H p=none->tPairs trs σ (upd H p (.dK [])) fun ps H2=>H2 p=some (.dK [])/\∃ kvs:List (Key×V),ps=kvs.map (fun kv=>(kV kv.1,kv.2))/\kvs.length<=15/\Q (.ref p) (upd H2 p (.dK (mergeK [] kvs)))
theorem pe_disp{X:Cx}{pos:Pos}{keys:List (Option Expr)}{values:List Expr}{trs:List (TE×TE)}(h:PPs X pos keys values trs)(hall:keys.all (·.isSome)=true)(hl:keys.length=values.length)(h0:keys≠[])
 (h15:keys.length<=15):PE X (.Dict keys values pos) (tDisp trs):=by
 intro pins s σ H Q I q
 have hn:=I.hok.fresh (Nat.le_refl s.heap.objs.size)
 have I1:=I.laid (a:=s.heap.objs.size) (o:=.dK []) (h':=s.heap.push { cls:=.type "dict",data:=.dict #[] }) (t':=s.toks) (fun _ _ q=>Heap.get?_push_of_some _ q) (Nat.le_refl _) (dk_empty s.heap I.big)
 refine wpAny_Dict_walk (knd:=mixKind X.prog X.w) hall hl h0 h15 (thn (h pins _ σ _ _ I1 (q _ hn)) fun ws s2 ⟨ps,H2,I2,rel,e,kvs,ep,lk,q2⟩=>?_)
 subst ep
 obtain⟨rs,c,rk⟩:=carries_of (P:=X.prog) (w:=X.w) rel
 obtain⟨z,hd,vs0,r0,dd⟩:=dk_of I2.hok e
 cases r0
 refine⟨rs,c,dd,fun h' dd' hs=>⟨.ref s.heap.objs.size,_,?_,rfl,q2⟩⟩
 have hz:(mergeK [] kvs).length<=sizeLine:=by
  have h1:=length_mergeK kvs []
  rw[List.length_nil]at h1
  rw[sizeLine_eq];omega
 have he:∃ q,h'.get? s.heap.objs.size=some q:=let ⟨q,_,_,hq,_⟩:=dd';⟨q,hq⟩
 exact d_write I2 (by rw[e];exact True.intro) hs he (dk_new hz hd (rk.merge .nil) dd')
def IsD(H:Hp)(a:Addr):Prop:=(∃ kvs,Rd H a (.dK kvs))\/∃ kvs,Rd H a (.dT kvs)
section
variable{X:Cx}{pins:List (Addr×Obj)}{σ:St}{H:Hp}{s:Shared}{a:Addr}{y d:V}{u r:Value}{o:Option V}{A:Around}{E:Value->Shared->Prop}
end
def tDGet1(td ty:TE):TE:=fun σ H Q=>td σ H fun x H1=>∃ a,x=.ref a/\IsD H1 a/\ty σ H1 fun y H2=>∃ o,DGet H2 a y o/\Q (o.getD .non) H2
def tDPop1(td ty:TE):TE:=fun σ H Q=>td σ H fun x H1=>∃ a,x=.ref a/\IsD H1 a/\ty σ H1 fun y H2=>∃ kvs k v,H2 a=some (.dK kvs)/\y=kV k/\valV kvs k=some v/\Q v (upd H2 a (.dK (dropK kvs k)))
section
variable{X:Cx}{o e f:Expr}{apos cpos:Pos}{td ty tx:TE}
end
section
variable{X:Cx}{pins:List (Addr×Obj)}{σ:St}{H:Hp}{s:Shared}{a:Addr}{kvs:List (Key×V)}{A:Around}{E:Value->Shared->Prop}
end
section
variable{X:Cx}{pins:List (Addr×Obj)}{σ:St}{H:Hp}{s:Shared}{a:Addr}{y:V}{u:Value}{A:Around}{E:Value->Shared->Prop}
end
end L2
namespace Att
open PySem PySem.W PySem.Calls PyProof.Rows
section
variable{prog:Program}{w:World}{A:Around}{E:Value->Shared->Prop}{s:Shared}{K:Frag}
end
end Att
namespace L2
open PySem PySem.Spec PyProof.Rows
end L2
namespace L2
open PySem PySem.Spec PyProof.Rows
end L2
namespace L2
open PySem PySem.Spec PyProof.Rows
section
variable{P:Program}{w:World}{K:PySem.W.Frag}{mg:Str->Option Value}{base:Heap}
end
section
variable{X:Cx}
end
section
variable{κ:Type}[DecidableEq κ]
end
end L2
end
section
namespace L2
open PySem PySem.Spec PyProof.Rows
theorem relabel_lookup(env:Env):∀ (l:List (Str×NameKind)) (x:Str),
 (l.map fun(n,k)=>if (k == NameKind.free && env.scope.kind == .function && env.kindOf n == some .cell) then (n,NameKind.cell) else (n,k)).lookup x
  = (l.lookup x).map fun k=>if (k == NameKind.free && env.scope.kind == .function && env.kindOf x == some .cell) then NameKind.cell else k
 | [],_=>rfl
 | (n,k)::r,x=>by
  have ih:=relabel_lookup env r x
  show List.lookup x ((if (k == NameKind.free && env.scope.kind == .function && env.kindOf n == some .cell)=true then (n,NameKind.cell) else (n,k))::_)=_
  cases hx:x == n with
  | true =>
   have e:x=n:=by simpa using hx
   subst e
   by_cases hc:(k == NameKind.free && env.scope.kind == .function && env.kindOf x == some .cell)=true
   ·rw[if_pos hc];simp only[List.lookup_cons,hx,Option.map_some,hc,if_true]
   ·rw[if_neg hc];simp only[List.lookup_cons,hx,Option.map_some,if_neg hc]
  | false =>
   by_cases hc:(k == NameKind.free && env.scope.kind == .function && env.kindOf n == some .cell)=true
   ·rw[if_pos hc];simp only[List.lookup_cons,hx];exact ih
   ·rw[if_neg hc];simp only[List.lookup_cons,hx];exact ih
theorem closure_go{env:Env}:∀ (l:List (Str×NameKind)) (acc:List (Str×Addr)),(∀ y∈l,y.2=.free->∃ c,env.cells.lookup y.1=some c)->(∀ y c,acc.lookup y=some c->env.cells.lookup y=some c) ->
 ∃ cl,(forIn l acc fun x (cs:List (Str×Addr))=>(if (x.2 == NameKind.free)=true then (do let a <- cellOf env x.1;pure (ForInStep.yield ((x.1,a)::cs))) else pure (ForInStep.yield cs):Sem (ForInStep (List (Str×Addr)))))=pure cl/\(∀ y c,cl.lookup y=some c->env.cells.lookup y=some c)/\(∀ y c,acc.lookup y=some c->∃ c',cl.lookup y=some c') /\
  ∀ y∈l,y.2=.free->∃ c,cl.lookup y.1=some c
 | [],acc,_,h2=>⟨acc,rfl,h2,fun _ c h=>⟨c,h⟩,fun _ h=>nomatch h⟩
 | (n,k)::r,acc,h1,h2=>by
  by_cases hk:k=.free
  ·subst hk
   obtain⟨c,hc⟩:=h1 (n,.free) List.mem_cons_self rfl
   have h2':∀ y c',((n,c)::acc).lookup y=some c'->env.cells.lookup y=some c':=fun y c' h=>by
    rw[List.lookup_cons]at h
    cases hy:y == n with
    | true=>rw[hy]at h;have e:y=n:=by simpa using hy
            subst e;cases h;exact hc
    | false=>rw[hy]at h;exact h2 y c' h
   obtain⟨cl,e,q1,q2,q3⟩:=closure_go r ((n,c)::acc) (fun y hy=>h1 y (List.mem_cons_of_mem _ hy)) h2'
   refine⟨cl,?_,q1,fun y c' h=>?_,fun y hy hf=>?_⟩
   ·rw[List.forIn_cons]
    simp only[beq_self_eq_true,if_true]
    unfold cellOf
    rw[hc]
    exact e
   ·cases hy:y == n with
    | true=>exact q2 y c (by rw[List.lookup_cons,hy])
    | false=>exact q2 y c' (by rw[List.lookup_cons,hy];exact h)
   ·rcases List.mem_cons.mp hy with e' | hy
    ·subst e'
     exact q2 n c (by simp[List.lookup_cons])
    ·exact q3 y hy hf
  ·have hb:(k == NameKind.free)=false:=by simpa using hk
   obtain⟨cl,e,q1,q2,q3⟩:=closure_go r acc (fun y hy=>h1 y (List.mem_cons_of_mem _ hy)) h2
   refine⟨cl,?_,q1,q2,fun y hy hf=>?_⟩
   ·rw[List.forIn_cons]
    simp only[hb,Bool.false_eq_true,if_false]
    exact e
   ·rcases List.mem_cons.mp hy with e' | hy
    ·subst e';exact absurd hf hk
    ·exact q3 y hy hf
theorem closure_ok(env:Env)(sc:Scope)(h:∀ y∈sc.names,y.2=.free->∃ c,env.cells.lookup y.1=some c) :
 ∃ cl,closureFor sc env=pure cl/\(∀ y c,cl.lookup y=some c->env.cells.lookup y=some c)/\∀ y∈sc.names,y.2=.free->∃ c,cl.lookup y.1=some c:=by
 obtain⟨cl,e,q1,_,q3⟩:=closure_go (env:=env) sc.names [] h (fun y c z=>by simp at z)
 refine⟨cl,?_,q1,q3⟩
 unfold closureFor
 rw[<- e]
 simp only[bind_pure]
def blk(X:Cx)(sc:Scope)(x:Str)(M:List Str)(cl:List (Str×Addr))(C:Addr)(s:Shared)(H:Hp)(fp:List Addr):Cx :=
 { X with N:=x::M,s₀:=s,H₀:=H,env:=compEnvC sc cl C X.env,outer:=X.stack,ex:=fp,fn:=fun _=>false,pn:=[],xe:=fun _ _=>False }
structure BlkOk(X:Cx)(sc:Scope)(x:Str)(M:List Str):Prop where
 kind:sc.kind=.function
 nocell:∀ y∈sc.names,y.2≠.cell
 names:∀ y∈sc.names,y.2=.local->sc.names.lookup y.1=some .local
 own:sc.names.lookup x=some .local
 nd:(x::M).Nodup
 len:M.length=X.N.length
 free:∀ y∈sc.names,y.2=.free->X.env.kindOf y.1=some .cell\/X.env.kindOf y.1=some .free
 same:∀ (i:Nat) (y:Str),M[i]?=some y->sc.names.lookup y=some .free->X.N[i]?=some y
 noloc:∀ y∈M,sc.names.lookup y≠some .local
section
variable{X:Cx}
theorem Inv.toBlk{pins:List (Addr×Obj)}{σ:St}{H:Hp}{s:Shared}{sc:Scope}{x:Str}{M:List Str}{cl:List (Str×Addr)}{fp:List Addr}{h₁:Heap}{tk:Nat}
 (I:Inv X pins σ H s) (B:BlkOk X sc x M) (q1:∀ y c,cl.lookup y=some c->X.env.cells.lookup y=some c) (q3:∀ y∈sc.names,y.2=.free->∃ c,cl.lookup y.1=some c)
 (fpk:∀ b∈fp,FpOk X pins H b) (fpl:∀ b∈fp,b < s.heap.objs.size) {m:Str->Option Value} (hn:h₁.Ns s.heap.objs.size m) (keep:∀ b o,s.heap.get? b=some o->h₁.get? b=some o) :
 Inv (blk X sc x M cl s.heap.objs.size s H fp) [] (none::σ) H { s with heap:=h₁,toks:=tk }:=by
 have kindOf':∀ y,(blk X sc x M cl s.heap.objs.size s H fp).env.kindOf y=(sc.names.lookup y).map fun k=>if (k == NameKind.free && X.env.scope.kind == .function && X.env.kindOf y == some .cell) then NameKind.cell else k:=fun y=>relabel_lookup X.env sc.names y
 have isfree:∀ y,((blk X sc x M cl s.heap.objs.size s H fp).env.kindOf y=some .cell\/(blk X sc x M cl s.heap.objs.size s H fp).env.kindOf y=some .free)->sc.names.lookup y=some .free:=fun y hy=>by
  rw[kindOf']at hy
  cases e:sc.names.lookup y with
  | none=>rw[e]at hy;simp at hy
  | some k =>
   rw[e]at hy
   by_cases hk:k=.free
   ·rw[hk]
   ·exfalso
    have hb:(k == NameKind.free)=false:=by simpa using hk
    simp only[hb,Bool.false_and,Option.map_some,Bool.false_eq_true,if_false,Option.some.injEq]at hy
    rcases hy with z | z
    ·exact B.nocell (y,k) (PySem.mem_of_lookup e) z
    ·exact hk z
 have ncell:∀ y c,X.env.cells.lookup y=some c->c < s.heap.objs.size:=fun y c e=>by
  obtain⟨v,o,ho,_⟩:=I.cell y c e
  exact Heap.lt_size ho
 have below:∀ b∈fp,FpOk X pins H b:=fpk
 refine⟨⟨I.ok.mod,B.kind,I.ok.glob,I.ok.blt,Nat.le_refl _,fun y z c h1 h2=>I.ok.inj y z c (q1 y c h1) (q1 z c h2),fun y hy=>q3 _ (PySem.mem_of_lookup (isfree y hy)) rfl,fun y c h _=>absurd (show false=true from h) Bool.false_ne_true,I.ok.hd,I.ok.frames,.inl rfl,
  fun b hb=>?_,I.bs,Nat.le_trans I.ok.bsz I.sz,fun b o e hb=>?_,fun b hb z=>?_,I.stack,I.stkFree⟩,rfl,I.bare,Un.kept keep,⟨_,hn,fun i y v e1 e2 e3=>?_⟩,fun y c h=>?_,I.hok.fresh (Nat.le_refl _),fun y c h=>I.freeC y c (q1 y c h),fun p hp=>absurd (show p∈([]:List (Addr×Obj)) from hp) (by simp),I.hok.kept keep,?_⟩
 ·exact⟨Nat.ne_of_lt (fpl b hb),fun y c h=>(fpk b hb).2.2.2.2.1 y c (q1 y c h)⟩
 ·rcases(fpk b hb).2.2.2.1 with z | z
  ·exact I.ok.noex b o e z
  ·exact absurd (Nat.lt_of_lt_of_le (Heap.lt_size e) (Nat.le_trans I.ok.bsz z)) (Nat.lt_irrefl _)
 ·rcases List.mem_cons.mp (I.stkSub b z) with e | z
  ·exact(fpk b hb).2.1 e
  ·exact(fpk b hb).2.2.1 z
 ·cases i with
  | zero=>simp at e2
  | succ i =>
   have e1':M[i]?=some y:=e1
   have e2':σ[i]?=some (some v):=e2
   have hy:sc.names.lookup y=some .free:=by
    rcases e3 with z | z | z
    ·exfalso
     have z':(blk X sc x M cl s.heap.objs.size s H fp).env.kindOf y=some .local:=z
     rw[kindOf']at z'
     cases e:sc.names.lookup y with
     | none=>rw[e]at z';simp at z'
     | some k =>
      rw[e]at z'
      simp only[Option.map_some,Option.some.injEq]at z'
      split at z'
      ·cases z'
      ·subst z'
       exact B.noloc y (List.mem_of_getElem? e1') e
    ·exact isfree y (.inl z)
    ·exact isfree y (.inr z)
   have hk:=B.free _ (PySem.mem_of_lookup hy) rfl
   obtain⟨m0,hn0,hl⟩:=I.loc
   obtain⟨u,r,l⟩:=hl i y v (B.same i y e1' hy) e2' (hk.elim (fun z=>.inr (.inl z)) fun z=>.inr (.inr z))
   refine⟨u,r,.inr ⟨?_,?_⟩⟩
   ·rcases e3 with z | z | z
    ·exfalso
     have z':(blk X sc x M cl s.heap.objs.size s H fp).env.kindOf y=some .local:=z
     rw[kindOf',hy]at z'
     simp only[Option.map_some,Option.some.injEq]at z'
     split at z' <;> cases z'
    ·exact .inl z
    ·exact .inr z
   ·rcases l with ⟨k,_⟩ | ⟨_,c,e,hc⟩
    ·rcases hk with z | z <;> (have z':X.env.kindOf y=_:=z;rw[k]at z';cases z')
    ·obtain⟨c',e'⟩:=q3 _ (PySem.mem_of_lookup hy) rfl
     have e'':=q1 y c' e'
     rw[e]at e'';cases e''
     obtain⟨o,ho,hd⟩:=hc
     exact⟨c,e',o,keep c o ho,hd⟩
 ·obtain⟨v,o,ho,hd⟩:=I.cell y c (q1 y c h)
  exact⟨v,o,keep c o ho,hd⟩
 ·show(none::σ).length=(x::M).length
  rw[List.length_cons,List.length_cons,I.len,B.len]
end
def PIfs(X:Cx)(ifs:List Expr)(t:TT):Prop :=
 ∀ (pins:List (Addr×Obj)) (s:Shared) (σ:St) (H:Hp) (Q:Bool->Hp->Prop),Inv X pins σ H s->t σ H Q ->
  wpAny (model X.prog X.w) X.A (forIn ifs true fun c r=>if r=true then do let ok <- isTrue c X.env (eval c X.env);pure (ForInStep.yield ok) else pure (ForInStep.yield r)) (TP X pins σ Q) X.xe s
def tYes:TT:=fun _ H Q=>Q true H
theorem pif_nil{X:Cx}:PIfs X [] tYes:=fun _ _ _ H _ I h=>wpAny_tests_nil ⟨H,I,h⟩
section
variable{prog:Program}{w:World}{A:Around}{E:Value->Shared->Prop}{R:Result->Shared->Prop}{s:Shared}
theorem compLoop_go{elt target iter:Expr}{ifs:List Expr}{scope:Scope}{pos:Pos}{it acc:Value}{env:Env}(I:Nat->Shared->Prop)
 (turn:∀ n s,I n s->wpAny (model prog w) A (pyNext it) (fun r s₁=>match r with
  | none=>R (.ok .next) s₁
  | some v=>wpAny (model prog w) A (letOwnedTupleGo target it v) (fun _ s₁=>wpAny (model prog w) A (assign target env v) (fun _ s₂ =>
   wpAny (model prog w) A (forIn ifs true fun c r=>if r=true then do let ok <- isTrue c env (eval c env);pure (ForInStep.yield ok) else pure (ForInStep.yield r)) (fun ok s₃ =>
    if ok=true then wpAny (model prog w) A (eval elt env) (fun x s₄ =>
     wpAny (model prog w) A (call (.builtin "list.append") [acc,x]) (fun _ s₅=>∃ m,m < n/\I m s₅) (fun _ _=>False) s₄) (fun _ _=>False) s₃
    else ∃ m,m < n/\I m s₃) (fun _ _=>False) s₂) (fun _ _=>False) s₁) (fun _ _=>False) s₁) (fun _ _=>False) s)
 (n:Nat) (h:I n s) :
 codeAny (model prog w) A (.compLoop (.ListComp elt [⟨target,iter,ifs,0⟩] scope pos) 0 it acc env) R s:=by
 refine codeAny_loop rfl I (fun n s hI=>?_) n h
 show wpAny _ A ((compTurn (.ListComp elt [⟨target,iter,ifs,0⟩] scope pos) 0 it acc env).onRaise (fun x=>do noteFrame x env;theTreesLotGoes x)) _ _ s
 refine wpAny_noted ?_
 rw[compTurn_list]
 refine wpAny_bind (wpAny_standAt (wpAny_bind (wpAny_mono (turn n s hI) (fun r s₁ h₁=>?_) fun _ _ h'=>h'.elim)))
 cases r with
 | none=>exact wpAny_pure h₁
 | some v =>
  refine wpAny_bind (wpAny_mono h₁ (fun _ s₁ h₁=>?_) fun _ _ h'=>h'.elim)
  refine wpAny_bind (wpAny_mono h₁ (fun _ s₂ h₂=>wpAny_bind (wpAny_mono h₂ (fun ok s₃ h₃=>?_) fun _ _ h'=>h'.elim)) fun _ _ h'=>h'.elim)
  cases ok with
  | false=>exact wpAny_pure ⟨rfl,h₃⟩
  | true =>
   exact wpAny_bind (wpAny_bind (wpAny_mono h₃ (fun x s₄ h₄=>wpAny_bind (wpAny_mono h₄ (fun _ s₅ h₅=>wpAny_pure (wpAny_pure ⟨rfl,h₅⟩)) fun _ _ h'=>h'.elim)) fun _ _ h'=>h'.elim))
end
def tLc(wi:TI)(tt:TT)(te:TE):TE:=fun σ H Q=>wi σ H fun J H1=>∀ D,H1 D=none->∃ W:Nat->Nat->List V->Hp->Prop,(∃ m,W 0 m [] (upd H1 D (.lst [])))/\∀ i m ys H,W i m ys H ->
 H D=some (.lst ys)/\((J.stop i H/\Q (.ref D) H)\/(J.go i H/\ys.length < sizeLine/\∀ x H',J.yld i H x H'->tt (some x::σ) H' fun b H2=>if b=true then te (some x::σ) H2 fun v H3 =>
  H3 D=some (.lst ys)/\∃ m',m' < m/\W (i+1) m' (ys++[v]) (upd H3 D (.lst (ys++[v]))) else ∃ m',m' < m/\W (i+1) m' ys H2))
section
variable{X:Cx}
theorem lcomp_core{sc:Scope}{x:Str}{px pos:Pos}{iter elt:Expr}{ifs:List Expr}{M:List Str}{wi:TI}{tt:TT}{te:TE}{cl:List (Str×Addr)}{RR:Value->Addr->Result->Shared->Prop}{pins:List (Addr×Obj)}{s:Shared}{σ:St}{H:Hp}{Q:VK}
 (hc:X.calm=true) (B:BlkOk X sc x M) (hi:PI X (.Name x px) iter wi) (ht:∀ C s H fp,PIfs (blk X sc x M cl C s H fp) ifs tt) (he:∀ C s H fp,PE (blk X sc x M cl C s H fp) elt te)
 (q1:∀ y c,cl.lookup y=some c->X.env.cells.lookup y=some c) (q3:∀ y∈sc.names,y.2=.free->∃ c,cl.lookup y.1=some c)
 (I:Inv X pins σ H s) (h:tLc wi tt te σ H Q)
 (hRR:∀ (D C:Addr) (s':Shared) (m:Str->Option Value) (H':Hp),Inv X pins σ H' s'->s'.heap.Ns C m->FpOk X pins H' C->Q (.ref D) H'->RR (.ref D) C (.ok .next) s') :
 wpAny (model X.prog X.w) X.A (eval iter X.env) (fun xv s₁=>wpAny (model X.prog X.w) X.A (pyIter xv) (fun it s₂=>wpAny (model X.prog X.w) X.A (newList []) (fun acc s₃ =>
  wpAny (model X.prog X.w) X.A (newFunctionEnv sc X.env.globals cl [] X.env.qual none .none (some X.env)) (fun cenv s₄ =>
   codeAny (model X.prog X.w) X.A (.compStart (.ListComp elt [⟨.Name x px,iter,ifs,0⟩] sc pos) 0 it acc { cenv with scope:=relabel sc X.env }) (RR acc cenv.locals) s₄) X.xe s₃) X.xe s₂) X.xe s₁) X.xe s:=by
 refine thn (hi pins s σ H _ I h) fun v s1 h1=>thn h1 fun itv s2 h2=>?_
 obtain⟨it,fp,tn,J,H2,rfl,I2,T,st2,f2,q2⟩:=h2
 refine wpAny_newObj_type (wpAny_newFunctionEnv B.nocell (by intro y hy;simp at hy) (fun h₁ hns₁ hsb₁=>?_) B.kind)
 dsimp only at hns₁ hsb₁ ⊢
 obtain⟨W,⟨m0,w0⟩,turn⟩:=q2 s2.heap.objs.size I2.fresh
 have I3:Inv X pins σ (upd H2 s2.heap.objs.size (.lst [])) { s2 with heap:=s2.heap.push { cls:=.type "list",data:=.seq ([]:List Value).toArray },toks:=s2.toks }:=I2.lnew .nil (Nat.zero_le _)
 generalize hs3:({ s2 with heap:=s2.heap.push { cls:=.type "list",data:=.seq ([]:List Value).toArray },toks:=s2.toks }:Shared)=s3 at I3
 have eh:s2.heap.push { cls:=.type "list",dict:=none,data:=.seq ([]:List Value).toArray }=s3.heap:=by rw[<- hs3]
 have fpl:∀ b∈fp,b < s2.heap.objs.size:=fun b hb=>by
  obtain⟨o,e,_⟩:=T.obj _ _ st2 b hb
  exact Heap.lt_size e
 have sz:s3.heap.objs.size=s2.heap.objs.size+1:=by rw[<- eh,Heap.size_push]
 have fpl3:∀ b∈fp,b < s3.heap.objs.size:=fun b hb=>by rw[sz];exact Nat.lt_succ_of_lt (fpl b hb)
 have fp3:∀ b∈fp,FpOk X pins (upd H2 s2.heap.objs.size (.lst [])) b:=fun b hb=>⟨by rw[upd_ne (Nat.ne_of_lt (fpl b hb))];exact(f2 b hb).1,(f2 b hb).2⟩
 rw[eh]at hns₁ hsb₁ ⊢
 have keep:∀ b o,s3.heap.get? b=some o->h₁.get? b=some o:=fun b o e=>hsb₁.extBut b o (Nat.ne_of_lt (Heap.lt_size e)) (Heap.get?_push_of_some _ e)
 have IB:=I3.toBlk (tk:=s2.toks+([]:List (Str×Value)).length) B q1 q3 fp3 fpl3 hns₁ keep
 have st4:tn 0 h₁:=T.keep _ _ _ st2 fun b hb o e=>keep b o (by rw[<- eh];exact Heap.get?_push_of_some _ e)
 have es:({ s3 with heap:=h₁,toks:=s2.toks+([]:List (Str×Value)).length }:Shared)={ s2 with heap:=h₁,toks:=s2.toks+([]:List (Str×Value)).length }:=by rw[<- hs3]
 rw[es]at IB
 have hx':(blk X sc x M cl s3.heap.objs.size s3 (upd H2 s2.heap.objs.size (.lst [])) fp).env.scope.names.lookup x=some .local:=lookup_relabel_local B.own
 have hg:PG (blk X sc x M cl s3.heap.objs.size s3 (upd H2 s2.heap.objs.size (.lst [])) fp) (.Name x px) (gName 0):=pg_name B.nd rfl (.inl hx') (.inr hx')
 have he':=he s3.heap.objs.size s3 (upd H2 s2.heap.objs.size (.lst [])) fp
 have ht':=ht s3.heap.objs.size s3 (upd H2 s2.heap.objs.size (.lst [])) fp
 have loop:∀ s₄:Shared,s₄={ s2 with heap:=h₁,toks:=s2.toks+([]:List (Str×Value)).length } ->
  codeAny (model X.prog X.w) X.A (.compLoop (.ListComp elt [⟨.Name x px,iter,ifs,0⟩] sc pos) 0 (.ref it) (.ref s2.heap.objs.size) (compEnvC sc cl s3.heap.objs.size X.env)) (RR (.ref s2.heap.objs.size) s3.heap.objs.size) s₄:=by
  rintro s₄ rfl
  refine compLoop_go (fun n s'=>∃ i ys o H',Inv (blk X sc x M cl s3.heap.objs.size s3 (upd H2 s2.heap.objs.size (.lst [])) fp) [] (o::σ) H' s'/\tn i s'.heap/\(∀ b∈fp,H' b=none)/\W i n ys H') ?_ m0
   ⟨0,[],none,_,IB,st4,fun b hb=>(fp3 b hb).1,w0⟩
  rintro n s' ⟨i,ys,o,H',I',st',fr',w'⟩
  have fpB:∀ {H':Hp} {pl:List (Addr×Obj)},(∀ b∈fp,H' b=none)->∀ b∈fp,FpOk (blk X sc x M cl s3.heap.objs.size s3 (upd H2 s2.heap.objs.size (.lst [])) fp) [] H' b:=fun {H' pl} hn b hb =>
   ⟨hn b hb,Nat.ne_of_lt (fpl3 b hb),fun z=>I'.ok.exfs b hb z,.inl hb,fun y c hy=>(fp3 b hb).2.2.2.2.1 y c (q1 y c hy),fun p hp=>absurd (show p∈([]:List (Addr×Obj)) from hp) (by simp)⟩
  obtain⟨hD,⟨stop,q⟩ | ⟨go,hlen,step⟩⟩:=turn i n ys H' w'
  ·refine wpAny_mono (T.done (blk X sc x M cl s3.heap.objs.size s3 (upd H2 s2.heap.objs.size (.lst [])) fp) rfl rfl rfl hc i [] s' (o::σ) H' (fun _ _=>False) I' (fpB (pl:=[]) fr') st' stop) (fun r s4 ⟨hr,I4⟩=>?_) fun _ _ f=>f.elim
   subst hr
   obtain⟨m,hn,_⟩:=I4.loc
   refine hRR _ _ s4 m H' (I3.call' (ch:=fp) I4.os I4.base I4.hok I4.bare fun b hb=>⟨(fp3 b hb).2.2.2.1,(fp3 b hb).2.1,(fp3 b hb).2.2.2.2.1,(fp3 b hb).2.2.2.2.2⟩) hn (I3.fpOk (Nat.le_refl _) I4.free) q
  ·refine wpAny_mono (T.item (blk X sc x M cl s3.heap.objs.size s3 (upd H2 s2.heap.objs.size (.lst [])) fp) rfl rfl rfl hc i [] s' (o::σ) H' (fun _ _=>False) I' (fpB (pl:=[]) fr') st' go) (fun r s4 ⟨u,hr,h4⟩=>?_) fun _ _ f=>f.elim
   subst hr
   refine wpAny_mono h4 (fun _ s5 ⟨y,H5,I5,r5,y5,st5,fr5⟩=>?_) fun _ _ f=>f.elim
   have I5':=I5.pinned (fpB (pl:=[]) fr5) (T.obj _ _ st5)
   refine wpAny_mono (hg _ s5 (o::σ) H5 y u (fun σ' H'=>σ'=some y::σ/\H'=H5) I5' r5 ⟨rfl,rfl⟩) (fun _ s6 ⟨σ6,H6,I6,e6,e6'⟩=>?_) fun _ _ f=>f.elim
   subst e6 e6'
   have again:∀ {H7:Hp} {s7:Shared} {zs:List V} {m':Nat},Inv (blk X sc x M cl s3.heap.objs.size s3 (upd H2 s2.heap.objs.size (.lst [])) fp) ([]++pinsAt fp s5.heap) (some y::σ) H7 s7->m' < n->W (i+1) m' zs H7 ->
    ∃ m,m < n/\∃ i ys o H',Inv (blk X sc x M cl s3.heap.objs.size s3 (upd H2 s2.heap.objs.size (.lst [])) fp) [] (o::σ) H' s7/\tn i s7.heap/\(∀ b∈fp,H' b=none)/\W i m ys H':=fun {H7 s7 zs m'} I7 hm w7=>by
    refine⟨m',hm,i+1,zs,some y,H7,I7.unpinned,T.keep _ _ _ st5 fun b hb o e=>(I7.pin (b,o) (List.mem_append_right _ (List.mem_append_right _ (mem_pinsAt hb e)))).1,fun b hb=>?_,w7⟩
    obtain⟨o,e,d⟩:=T.obj _ _ st5 b hb
    exact(I7.pin (b,o) (List.mem_append_right _ (List.mem_append_right _ (mem_pinsAt hb e)))).2.1
   refine wpAny_mono (ht' _ s6 (some y::σ) H6 _ I6 (step y H6 y5)) (fun b s7 ⟨H7,I7,q7⟩=>?_) fun _ _ f=>f.elim
   cases b with
   | false =>
    rw[if_neg Bool.false_ne_true]at q7 ⊢
    obtain⟨m',hm,w7⟩:=q7
    exact again I7 hm w7
   | true =>
    rw[if_pos rfl]at q7 ⊢
    refine wpAny_mono (he' _ s7 (some y::σ) H7 _ I7 q7) (fun u8 s8 ⟨v8,H8,I8,r8,hD8,m',hm,w8⟩=>?_) fun _ _ f=>f.elim
    refine wpAny_mono (mt_append (X:=blk X sc x M cl s3.heap.objs.size s3 (upd H2 s2.heap.objs.size (.lst [])) fp) _ s8 (some y::σ) H8 (.ref s2.heap.objs.size) [v8] (.ref s2.heap.objs.size) [u8] (fun _ H9=>H9=upd H8 s2.heap.objs.size (.lst (ys++[v8]))) I8 rfl (.cons r8 .nil) ⟨_,ys,v8,rfl,rfl,hD8,hlen,rfl⟩) (fun _ s9 ⟨_,H9,I9,_,e9⟩=>?_) fun _ _ f=>f.elim
    subst e9
    exact again I9 hm w8
 exact codeAny_compStart_list (loop _ rfl) (T.self X.A 0 _ _ _ st4 (loop _ rfl))
theorem pe_lcomp{sc:Scope}{x:Str}{px pos:Pos}{iter elt:Expr}{ifs:List Expr}(M:List Str){wi:TI}{tt:TT}{te:TE}(hc:X.calm=true)(B:BlkOk X sc x M)(hi:PI X (.Name x px) iter wi)
 (ht:∀ cl C s H fp,PIfs (blk X sc x M cl C s H fp) ifs tt) (he:∀ cl C s H fp,PE (blk X sc x M cl C s H fp) elt te) (hs:∀ x,foldedSetIterable iter X.env x=pure x:=by intro _;rfl) :
 PE X (.ListComp elt [⟨.Name x px,iter,ifs,0⟩] sc pos) (tLc wi tt te):=by
 intro pins s σ H Q I h
 obtain⟨cl,hcl,q1,q3⟩:=closure_ok X.env sc (fun y hy hf=>I.ok.has y.1 (B.free y hy hf))
 rw[eval_ListComp]
 refine wpAny_comprehension_free (use:=none) rfl hs hcl B.kind B.names (lcomp_core (RR:=fun acc C=>compPost (model X.prog X.w) X.A X.xe none (EP X pins σ Q) acc C) hc B hi (ht cl) (he cl) q1 q3 I h ?_)
 intro D C s' m H' I' hn fpC q
 exact⟨m,hn,fun h' sb=>⟨.ref D,H',I'.turned (t':=s'.toks) (fun b o hb e=>sb.extBut b o hb e) fpC.1 fpC.2.1 fpC.2.2.2.1 fpC.2.2.2.2.1 fpC.2.2.2.2.2,rfl,q⟩⟩
def tSetLc(j:Nat)(wi:TI)(tt:TT)(te:TE):TS:=fun D σ H=>tLc wi tt te σ H fun v H'=>D.nx (σ.set j (some v)) H'
theorem ps_lcomp{sc:Scope}{x y:Str}{px py pos spos:Pos}{iter elt:Expr}{ifs:List Expr}{j:Nat}(M:List Str){wi:TI}{tt:TT}{te:TE}(hc:X.calm=true)(hN:X.N.Nodup)(hj:X.N[j]?=some y)(hy:X.env.scope.names.lookup y=some .local)
 (B:BlkOk X sc x M) (hi:PI X (.Name x px) iter wi)
 (ht:∀ cl C s H fp,PIfs (blk X sc x M cl C s H fp) ifs tt) (he:∀ cl C s H fp,PE (blk X sc x M cl C s H fp) elt te)
 (hsw:swapsWith (.ListComp elt [⟨.Name x px,iter,ifs,0⟩] sc pos) (some (.Name y py)) spos.line X.env=pure true:=by rfl) (hs:∀ x,foldedSetIterable iter X.env x=pure x:=by intro _;rfl) :
 PS X (.Assign [.Name y py] (.ListComp elt [⟨.Name x px,iter,ifs,0⟩] sc pos) spos) (tSetLc j wi tt te):=by
 intro pins s σ H D I h
 obtain⟨cl,hcl,q1,q3⟩:=closure_ok X.env sc (fun y hy hf=>I.ok.has y.1 (B.free y hy hf))
 rw[exec_Assign_Name_used _ _ _ _ hsw]
 refine wpAny_bind (wpAny_standAt (wpAny_bind ?_))
 show wpAny _ X.A (do let _ <- comprehension (.ListComp elt [⟨.Name x px,iter,ifs,0⟩] sc pos) sc X.env _ (newList []) false (eval iter X.env) (some (assign (.Name y py) X.env))) _ _ s
 refine wpAny_bind (wpAny_mono (wpAny_comprehension_free (use:=some (assign (.Name y py) X.env)) (Q:=fun _ s'=>SP X pins D .next s') rfl hs hcl B.kind B.names
  (lcomp_core (RR:=fun acc C=>compPost (model X.prog X.w) X.A X.xe (some (assign (.Name y py) X.env)) (fun _ s'=>SP X pins D .next s') acc C) hc B hi (ht cl) (he cl) q1 q3 I h ?_)) (fun _ s' hq=>wpAny_pure (wpAny_pure hq)) fun _ _ e=>e)
 intro A C s' m H' I' hn fpC q
 show wpAny _ X.A (assign (.Name y py) X.env (.ref A)) _ _ s'
 refine wpAny_assign_Name (store_ok2 I' hN hj (.inl hy) (v:=.ref A) rfl (fun s'' I'' ⟨a,sb,ha⟩=>?_) (.inr hy))
 have hne:C≠a:=by
  rcases ha with e | e
  ·rw[e];exact fpC.2.1
  ·exact fun z=>fpC.2.2.2.2.1 y a e z.symm
 exact⟨m,hn.sameBut sb hne,fun h' sb'=>⟨_,H',I''.turned (t':=s''.toks) (fun b o hb e=>sb'.extBut b o hb e) fpC.1 fpC.2.1 fpC.2.2.2.1 fpC.2.2.2.2.1 fpC.2.2.2.2.2,q⟩⟩
end
end L2
end
section
namespace HT
open PySem PyProof.Rows L2
def lexV:List V->List V->Option Bool
 | [],[]=>some false
 | [],_::_=>some true
 | _::_,[]=>some false
 | .int i::xs,.int j::ys=>if i=j then lexV xs ys else some (decide (i < j))
 | .str i::xs,.str j::ys=>if i=j then lexV xs ys else some (decide (i.cps.toList < j.cps.toList))
 | _::_,_::_=>none
theorem lexV_nil_nil:lexV [] []=some false:=rfl
theorem lexV_nil_cons(y:V)(ys:List V):lexV [] (y::ys)=some true:=rfl
theorem lexV_cons_nil(x:V)(xs:List V):lexV (x::xs) []=some false:=by cases x <;> rfl
theorem rcLt_str(A:Around)(s:Shared)(a:Str)(t:Tok)(c:Str)(u:Tok)(prog:Program)(w:World)(E:Value->Shared->Prop)(Q:Value->Shared->Prop)(h:Q (.bool (decide (a.cps.toList < c.cps.toList))) s) :
 wpAny (model prog w) A (richCompare .Lt (.str a t) (.str c u)) Q E s :=
 (lt_str h:wpAny (model prog w) A (compareOp .Lt (.str a t) (.str c u)) Q E s)
section
open PySem.SeqAt
open PySem.AutoSeq1 (wpAny_loadPart')
open PySem.MeetsSeq PySem.MeetsSeq2 PySem.MeetsSeq3
theorem tuple_lt_V(l b:Addr)(items items2:Array Value)(n n2:Nat)(dd dd2:Option Addr)(sl sl2:Array (Option Value))(xs ys:List V)(hi:Vals xs items.toList)(hj:Vals ys items2.toList)(r:Bool)(hr:lexV xs ys=some r) :
 Meets (Builtin.«tuple.__lt__» ⟨[.ref l,.ref b],[]⟩)
  (fun _ R s=>s.heap.get? l=some { cls:=.type "tuple",dict:=dd,data:=.seq items n,slots:=sl }/\s.heap.get? b=some { cls:=.type "tuple",dict:=dd2,data:=.seq items2 n2,slots:=sl2 } /\
   R (.ok (.ret (.bool r))) s) :=
 .of_wp fun prog w A R s h=>by
  obtain⟨hp,g,d,tk,os⟩:=s;obtain⟨hl,hb,h⟩:=h
  have f2:=AutoSeq1.sub_tuple_tuple
  have z1:items.size=xs.length:=by rw[hi.length];simp
  have z2:items2.size=ys.length:=by rw[hj.length];simp
  wp_walk using wpAny_loadPart' hl,wpAny_loadPart' hb,wpAny_forIn_list _ (fun rest b s'=>b.1=none/\s'=⟨hp,g,d,tk,os⟩/\∃ (vs ws:List Value) (xs' ys':List V),rest=vs.zip ws /\
   Vals xs' vs/\Vals ys' ws/\xs'.length+items2.size=ys'.length+items.size/\lexV xs' ys'=some r) _
  case turn =>
   rintro⟨y,x⟩ rest b s' ⟨hb',rfl,vs,ws,xs',ys',hz,hvi,hwi,hlen,hR⟩
   cases hvi with
   | nil=>rw[List.zip_nil_left]at hz;cases hz
   | cons ra hvi' =>
    cases hwi with
    | nil=>rw[List.zip_nil_right]at hz;cases hz
    | cons rb hwi' =>
     rename_i a1 v1 l1 l2 a2 v2 l3 l4
     rw[List.zip_cons_cons]at hz
     injection hz with hyx hrest
     injection hyx with hy hx
     subst hy hx
     simp only[List.length_cons]at hlen
     cases a1 with
     | int i =>
      cases a2 with
      | int j =>
       obtain⟨t,rfl⟩:=ra
       obtain⟨u,rfl⟩:=rb
       simp only[lexV]at hR
       obtain⟨e,he,hiff⟩:=eqAt_int A.in1 ⟨hp,g,d,tk,os⟩ i t j u
       refine wpAny_bind (he prog w _ _ ?_)
       cases e with
       | true =>
        rw[if_pos (hiff.mp rfl)]at hR
        wp_walk
        exact⟨rfl,rfl,_,_,_,_,hrest,hvi',hwi',by omega,hR⟩
       | false =>
        rw[if_neg (fun q=>absurd (hiff.mpr q) Bool.false_ne_true)]at hR
        cases hR
        have hri:=rcLt_int A.in1 ⟨hp,g,d,tk,os⟩ i t j u prog w
        wp_walk using hri
        exact⟨_,rfl,by simpa using h⟩
      | _=>simp[lexV]at hR
     | str i =>
      cases a2 with
      | str j =>
       obtain⟨t,rfl⟩:=ra
       obtain⟨u,rfl⟩:=rb
       simp only[lexV]at hR
       refine wpAny_bind (SeqAt.EqAt.str_str (A:=A.in1) (s:=⟨hp,g,d,tk,os⟩) i t j u prog w _ _ ?_)
       cases e:(i == j) with
       | true =>
        rw[if_pos (by simpa using e)]at hR
        wp_walk
        exact⟨rfl,rfl,_,_,_,_,hrest,hvi',hwi',by omega,hR⟩
       | false =>
        rw[if_neg (by simpa using e)]at hR
        cases hR
        have hri:=rcLt_str A.in1 ⟨hp,g,d,tk,os⟩ i t j u prog w
        wp_walk using hri
        exact⟨_,rfl,by simpa using h⟩
      | _=>simp[lexV]at hR
     | _=>cases a2 <;> simp[lexV]at hR
  case fin =>
   rintro⟨b1,b2⟩ s' ⟨hb',rfl,vs,ws,xs',ys',hz,hvi,hwi,hlen,hR⟩
   simp only at hb'
   subst hb'
   have hv:r=decide (items.size < items2.size):=by
    cases hvi with
    | nil =>
     cases hwi with
     | nil =>
      simp only[List.length_nil]at hlen
      rw[lexV_nil_nil]at hR;cases hR
      exact(decide_eq_false (by omega)).symm
     | cons c hw =>
      simp only[List.length_nil,List.length_cons]at hlen
      rw[lexV_nil_cons]at hR;cases hR
      exact(decide_eq_true (by omega)).symm
    | cons a hv =>
     cases hwi with
     | nil =>
      simp only[List.length_nil,List.length_cons]at hlen
      rw[lexV_cons_nil]at hR;cases hR
      exact(decide_eq_false (by omega)).symm
     | cons c hw =>
      rw[List.zip_cons_cons]at hz
      cases hz
   rw[hv]at h
   wp_walk
   exact⟨_,rfl,by simpa[Builtin.Tuple.tupleCompareSizes]using h⟩
  case h =>
   exact⟨rfl,rfl,items.toList,items2.toList,xs,ys,rfl,hi,hj,by omega,hr⟩
end
section
variable{prog:Program}{w:World}{A:Around}{E:Value->Shared->Prop}{s:Shared}
theorem lt_tupV{l b:Addr}{items items2:Array Value}{xs ys:List V}{r:Bool}{Q:Value->Shared->Prop}(hl:IsTup s.heap l items)(hb:IsTup s.heap b items2)(hi:Vals xs items.toList)(hj:Vals ys items2.toList)(hr:lexV xs ys=some r)
 (hu:A.units < cLine) (h:Q (.bool r) s):wpAny (model prog w) A (compareOp .Lt (.ref l) (.ref b)) Q E s:=by
 obtain⟨⟨cls,dd,data,sl⟩,ho,hc,n,hd⟩:=id hl
 obtain⟨⟨cls2,dd2,data2,sl2⟩,ho2,hc2,n2,hd2⟩:=id hb
 simp only at hc hd hc2 hd2
 subst hc hd hc2 hd2
 exact richCompare_meets_room (op:=.Lt) ⟨_,ho,rfl⟩ ⟨_,ho2,rfl⟩ PySem.F.slot_tuple_lt PySem.F.entry_tuple_lt (PySem.F.args_tuple_lt_2 _ _) (tuple_lt_V l b items items2 n n2 dd dd2 sl sl2 xs ys hi hj r hr)
  ⟨ho,ho2,show Value.bool r≠Value.notImplemented/\Q (.bool r) s from⟨(fun x=>nomatch x),h⟩⟩ hu
end
end HT
namespace L2
open PySem PySem.Spec PyProof.Rows
section
variable{X:Cx}
def clsV:V->Option Value
 | .ty n=>some (.type n)
 | .ref a=>some (.ref a)
 | _=>none
def rIsI(K:PySem.W.Frag):List V->Hp->VK->Prop:=fun xs H Q=>∃ x c t cv b,xs=[x,c]/\clsV c=some cv/\TyOf K H x t/\PySem.W.kitOne K t cv=some b/\Q (.bl b) H
theorem call_isinst:CallR X (.builtin "isinstance") (rIsI X.K):=by
 intro pins s σ H xs us Q I r h
 obtain⟨x,c,t,cv,b,rfl,hc,ty,e,q⟩:=h
 obtain⟨u,w',rfl,rx,rc⟩:=vals2 r
 have ec:w'=cv:=by
  cases c <;> simp[clsV]at hc
  ·subst hc;exact rc
  ·subst hc;exact rc
 subst ec
 exact isinst_ok I rx ty e fun tk=>⟨.bl b,H,I.tok tk,rfl,q⟩
def rLtV(K:PySem.W.Frag):R2:=fun x y H Q=>∃ a b xs ys r,x=.ref a/\y=.ref b/\SqT K H a xs/\SqT K H b ys/\HT.lexV xs ys=some r/\Q (.bl r) H
theorem op_ltV(hu:X.A.units < cLine):OpR X (compareOp .Lt) (rLtV X.K):=by
 intro pins s σ H x y v u Q I rx ry h
 obtain⟨a,b,xs,ys,r,rfl,rfl,ha,hb,e,q⟩:=h
 cases rx
 cases ry
 obtain⟨its,r1,p1,_⟩:=I.tuple ha
 obtain⟨its2,r2,p2,_⟩:=I.tuple hb
 exact HT.lt_tupV p1 p2 (by simpa using r1) (by simpa using r2) e hu ⟨.bl r,H,I,rfl,q⟩
def Its(z:Str):It:=⟨fun i _=>i < z.length,fun i H x H'=>H'=H/\∃ c,z.cps[i]?=some c/\x=.str ⟨#[c]⟩,fun i _=>z.length<=i⟩
end
end L2
namespace L2
open PySem PySem.Spec PyProof.Rows
section
variable{X:Cx}
def iStr(tl:TE):TI:=fun σ H R=>tl σ H fun x H1=>∃ z,x=.str z/\R (Its z) H1
def rJoin(K:PySem.W.Frag):V->List V->Hp->VK->Prop:=fun x xs H Q=>∃ z l ys,x=.str z/\xs=[.ref l]/\SqL K H l (ys.map V.str)/\(ys.map (·.length)).sum+ys.length * z.length<=16777216/\Q (.str (Txt.join z ys)) H
def rSlS:V->Option Int->Option Int->Hp->VK->Prop:=fun x lo hi H Q=>∃ z,x=.str z/\z.length<=sizeLine/\Q (.str (Txt.slice z lo hi)) H
def eqVs(xs ys:List V):Bool:=(List.range (min xs.length ys.length)).all (fun i=>eqV (xs.getD i .non) (ys.getD i .non)) && xs.length == ys.length
def rEqL(K:PySem.W.Frag)(neg:Bool):R2:=fun x y H Q=>∃ a b xs ys,x=.ref a/\y=.ref b/\SqL K H a xs/\SqL K H b ys/\xs.all flatV=true/\ys.all flatV=true/\Q (.bl (if neg then !eqVs xs ys else eqVs xs ys)) H
theorem eqV_refl{x:V}(f:flatV x=true):eqV x x=true:=by cases x <;> simp[eqV,flatV]at *
end
end L2
end
section
namespace L2
open PySem PySem.Spec PyProof.Rows
theorem bo_len:bootBuiltins "len"=some (.builtin "len"):=by decide +kernel
theorem bo_isinstance:bootBuiltins "isinstance"=some (.builtin "isinstance"):=by decide +kernel
theorem bo_min:bootBuiltins "min"=some (.builtin "min"):=by decide +kernel
theorem bo_str:bootBuiltins "str"=some (.type "str"):=by decide +kernel
theorem bo_int:bootBuiltins "int"=some (.type "int"):=by decide +kernel
theorem bo_bool:bootBuiltins "bool"=some (.type "bool"):=by decide +kernel
theorem bo_list:bootBuiltins "list"=some (.type "list"):=by decide +kernel
theorem bo_tuple:bootBuiltins "tuple"=some (.type "tuple"):=by decide +kernel
def blkB(dsc sc:Scope)(x:Str)(N M:List Str):Bool :=
 decide (sc.kind=.function) && sc.names.all (fun y=>decide (y.2≠.cell)) && sc.names.all (fun y=>decide (y.2=.local->sc.names.lookup y.1=some .local)) && decide (sc.names.lookup x=some .local) && decide ((x::M).Nodup) &&
 decide (M.length=N.length) && sc.names.all (fun y=>decide (y.2=.free->dsc.names.lookup y.1=some .cell\/dsc.names.lookup y.1=some .free)) &&
 (List.range M.length).all (fun i=>match M[i]? with | some y=>decide (sc.names.lookup y=some .free->N[i]?=some y) | none=>true) && M.all (fun y=>decide (sc.names.lookup y≠some .local))
theorem blkOk{X:Cx}{sc dsc:Scope}{x:Str}{N M:List Str}(hN:X.N=N)(hs:X.env.scope=dsc)(h:blkB dsc sc x N M=true):BlkOk X sc x M:=by
 unfold blkB at h
 simp only[Bool.and_eq_true,decide_eq_true_eq,List.all_eq_true]at h
 obtain⟨⟨⟨⟨⟨⟨⟨⟨h1,h2⟩,h3⟩,h4⟩,h5⟩,h6⟩,h7⟩,h8⟩,h9⟩:=h
 refine⟨h1,h2,h3,h4,h5,by rw[hN];exact h6,fun y hy hf=>?_,fun i y hi hf=>?_,h9⟩
 ·have:=h7 y hy hf
  rw[<- hs]at this
  exact this
 ·have hl:i < M.length:=(List.getElem?_eq_some_iff.mp hi).1
  have:=h8 i (List.mem_range.mpr hl)
  rw[hi]at this
  rw[hN]
  exact(decide_eq_true_eq.mp this) hf
def Cal(P:Program)(w:World)(K:PySem.W.Frag)(mg:Str->Option Value)(base:Heap)(k:Nat)(x:Str)(ps:List Str)(sp:Sp):Prop :=
 ∃ f fd,FnOk P w K mg base CX0 k f fd ps sp/\Binds K fd ps []/\PySem.W.keepIn K (.ref f)=true/\mg x=some (.ref f)
section
variable{X:Cx}{e:Expr}{es:List Expr}{t:TA}{p pos:Pos}
theorem pe_cal{j k:Nat}{x:Str}{ps:List Str}{sp:Sp}(G:Cal X.prog X.w X.K X.mg X.base j x ps sp)(hr:Room k X.A)(hj:j<=k)(hg:Gl X x)(ha:PA X (e::es) t)(hdb:(x == ("__debug__":Str))=false:=by decide)
 (he:starEach (e::es) X.env=(false,eval e X.env)::starEach es X.env:=by rfl) (hpl:(backTo pos (starEach es X.env)).any (·.1)=false:=by rfl):PE X (.Call (.Name x p) (e::es) [] pos) (tCall sp [] E0 t):=by
 obtain⟨f,fd,F,b,kp,m⟩:=G
 exact pe_call F (hr.mono hj) hg m kp b .nil pass0 ha hdb he hpl
end
theorem isI_of{K:PySem.W.Frag}{H:Hp}{Q:VK}{x:V}{n:String}{t:Value}{b:Bool}(ty:TyOf K H x t)(e:PySem.W.kitOne K t (.type n)=some b)(q:Q (.bl b) H):rIsI K [x,.ty n] H Q:=⟨x,.ty n,t,.type n,b,rfl,rfl,ty,e,q⟩
section
variable{K:PySem.W.Frag}
theorem kit_int_str:PySem.W.kitOne K (.type "int") (.type "str")=some false:=by rfl
theorem kit_str_str:PySem.W.kitOne K (.type "str") (.type "str")=some true:=by rfl
theorem kit_int_int:PySem.W.kitOne K (.type "int") (.type "int")=some true:=by rfl
theorem kit_int_bool:PySem.W.kitOne K (.type "int") (.type "bool")=some false:=by rfl
end
end L2
namespace L2
open PySem PySem.Spec PyProof.Rows
theorem rd_start{t:TS}{D:Ends}{σ σ':St}{H:Hp}(e:σ'=σ)(h:t D σ H):t D σ' H:=by rw[e];exact h
end L2
end
section
namespace Att
open PySem PySem.W PySem.Calls PyProof.Rows
theorem bits_all:∀ (ns:List Int),WData.weightAll (ns.map WData.int)<=2 ^ 20->∀ n∈ns,Builtin.Int.intBits n<=2 ^ 20
 | [],_,_,h=>nomatch h
 | m::ns,hw,n,h=>by
  rw[List.map_cons]at hw
  have e:WData.weightAll (WData.int m::ns.map WData.int)=WData.weight (.int m)+1+WData.weightAll (ns.map WData.int):=by simp only[WData.weightAll]
  rw[e]at hw
  rcases List.mem_cons.mp h with rfl | h
  ·have:WData.weight (.int n)<=2 ^ 20:=by omega
   simpa only[WData.weight,Builtin.Int.intBits]using this
  ·exact bits_all ns (by omega) n h
theorem attach_callB{l:OpenLaw}{n:Nat}{q:Program}{loose:List Str}{XP:(Str->Option Value)->Heap->Prop}{YP:World->Heap->Prop}{d:DefRec}
 (hn:l.most=some n) (hdf:d.params.defaults=[])
 (call:∀ (w:World) (s₀ s₁:Shared) (mg mb:Str->Option Value) (fa:Addr) (o:Obj) (pm cd doc:Value) (a:Addr) (vs:List Value) (ns:List Int),
  Ground q loose [] XP w s₀ mg mb s₁.heap->YP w s₁.heap ->
  s₁.heap.get? fa=some o->o.data=.func (docDef d.name d.params d.body d.scope pm cd doc)->s₁.heap.CodeRec cd d.name->mg d.name=some (.ref fa) ->
  s₁.heap.get? a=some { cls:=.type "list",data:=.seq vs.toArray }->IntsAre vs ns->ns.length<=n->(∀ i∈ns,Builtin.Int.intBits i<=2 ^ 20)->s₁.gens=#[] ->
  codeAny (model l.prog w) callerA (.call (.ref fa) ⟨[.ref a],[]⟩) (fun r s'=>r=.ok (.ret (.bool true))/\OldK s₁.heap s'.heap/\s'.os=s₁.os/\AllBare s'.gens) s₁) :
 WalkO q loose XP YP l.row.toRowW d [] (fun f vs=>PySem.call f vs):=by
 intro w s₀ s₁ mg mb G Y fa o pm cd doc dV kV ho hd hcd hD hmg hg args vals as hpre hlay hrd hwl hlo
 obtain rfl:dV=.none:=Dflts.none hD hdf
 obtain rfl:kV=.none:=Dflts.noKw hD
 obtain⟨a,vs,ns,rfl,rfl,hobj,hints,hlen⟩:=script_of hn hpre hwl
 have hb:∀ i∈ns,Builtin.Int.intBits i<=2 ^ 20:=by
  have h1:WData.layable (.list (ns.map WData.int))=true:=by
   have:=hlay
   unfold WData.layableAll at this
   exact List.all_eq_true.mp this _ List.mem_cons_self
  have h2:WData.weight (.list (ns.map WData.int))<=2 ^ 20:=of_decide_eq_true (Bool.and_eq_true_iff.mp h1).2
  exact bits_all ns (by simpa only[WData.weight]using h2)
 refine enter_call (codeAny_mono (call w s₀ s₁ mg mb fa o pm cd doc a vs ns G Y ho (fd_plain hd) hcd hmg hobj hints hlen hb hg) fun r s' hq=>?_)
 obtain⟨rfl,h2,h3,h4⟩:=hq
 exact⟨.inl ⟨.bool true,.bool true,[],rfl,fun _=>rfl,.bool true,post_true l _,fun _=>⟨List.Pairwise.nil,fun _ hm=>(nomatch hm)⟩⟩,h2,h3,h4⟩
end Att
namespace L2
open PySem PySem.Spec PyProof.Rows
theorem walk_ofB{l:PySem.W.OpenLaw}{n k:Nat}{q:Program}{loose:List Str}{XP:(Str->Option Value)->Heap->Prop}{YP:World->Heap->Prop}{d:DefRec}{K:Params->PySem.W.Frag}{CX:World->CXT}{sp:PySem.W.Frag->Sp}{x:Str}
 (hn:l.most=some n) (hn2:n<=sizeLine) (hdf:d.params.defaults=[]) (hr:Room k callerA)
 (hY:∀ (w:World) (h:Heap),YP w h->(K w.params).In h)
 (F:∀ (w:World) (mg:Str->Option Value) (fa:Addr) (h:Heap),(K w.params).In h->h.Ns mainGlobals mg->mg d.name=some (.ref fa) ->
  ∃ fd:FuncData,(∀ (s:Shared) (u:Value),BindsTo s fd ⟨[u],[]⟩ [(x,u)]) /\
   ∀ base:Heap,(K w.params).In base->base.Ns mainGlobals mg->FnOk l.prog w (K w.params) mg base (CX w) k fa fd [x] (sp (K w.params)))
 (hsp:∀ (K:PySem.W.Frag) (H:Hp) (a:Addr) (ns:List Int),ns.length<=n->(∀ i∈ns,Builtin.Int.intBits i<=2 ^ 20)->Only H->SqL K H a (ns.map V.int)->sp K [.ref a] H (fun v _=>v=.bl true) fun _ _ _=>False)
 (hCX:∀ (w:World) (H:Hp) (s:Shared) (e:Value) (s':Shared),CX w [] H s (fun _ _ _=>False) e s'->False) :
 PySem.W.WalkO q loose XP YP l.row.toRowW d [] (fun f vs=>PySem.call f vs):=by
 refine Att.attach_callB hn hdf fun w s₀ s₁ mg mb fa o pm cd doc a vs ns G Y ho hd hcd hmg hobj hints hlen hb hg=>?_
 have KX:=hY w _ Y
 obtain⟨fd,hbd,hF⟩:=F w mg fa _ KX G.T.g hmg
 exact law_call KX G.T.g G.T.b G.T.builtins G.T.nolimit hg hobj hints (Nat.le_trans hlen hn2) hr hF hbd (fun H hO hS=>hsp _ H a ns hlen hb hO hS) fun H e s'=>hCX w H s₁ e s'
section
variable{X:Cx}
theorem op_mulB:OpR X (binaryOp .Mult) (rI IntMulOk fun i j=>.int (i * j)):=opI fun _ _ _ _ _ _ _ hc q=>mul_int q hc
end
end L2
end
section
namespace L2
open PySem PySem.Spec PyProof.Rows
section
variable{X:Cx}
end
theorem same_upd{H:Hp}{p:Addr}(h:H p=none)(o:HO):Same H (upd H p o):=fun b u q=>by rw[upd_ne (ne_of_none q h)];exact q
theorem Same.updL{H H':Hp}{p:Addr}(s:Same H H')(h:H p=none)(o:HO):Same H (upd H' p o):=fun b u q=>by rw[upd_ne (ne_of_none q h)];exact s b u q
theorem Same.seqT{K:PySem.W.Frag}{H H':Hp}{a:Addr}{xs:List V}(e:Same H H')(h:SqT K H a xs):SqT K H' a xs:=by
 rcases h with (h | ⟨o,h⟩) | h
 ·exact .inl (.inl (e _ _ h))
 ·exact .inl (.inr ⟨o,e _ _ h⟩)
 ·exact .inr h
theorem strs_of:∀ (vs:List V),(∀ v∈vs,∃ z,v=.str z)->∃ ys:List Str,vs=ys.map V.str
 | [],_=>⟨[],rfl⟩
 | v::vs,h=>by
  obtain⟨z,rfl⟩:=h v List.mem_cons_self
  obtain⟨ys,rfl⟩:=strs_of vs fun u hu=>h u (List.mem_cons_of_mem _ hu)
  exact⟨z::ys,rfl⟩
end L2
namespace L2
open PySem PySem.Spec PyProof.Rows
def FoR(J:It)(g:TG)(tb:TS)(D:Ends)(σ:St)(H1:Hp):Prop:=∃ W:Nat->Nat->St->Hp->Prop,(∃ m,W 0 m σ H1)/\∀ i m σ H,W i m σ H ->
 (J.stop i H/\D.nx σ H)\/(J.go i H/\∃ N:St->Hp->Prop,(∀ σ' H',N σ' H'->∃ m',m' < m/\W (i+1) m' σ' H')/\∀ x H',J.yld i H x H'->g x σ H' fun σ2 H2=>tb { D with nx:=N,ct:=N,bk:=D.nx } σ2 H2)
def LcR(J:It)(tt:TT)(te:TE)(σ:St)(Q:VK)(H1:Hp):Prop:=∀ D,H1 D=none->∃ W:Nat->Nat->List V->Hp->Prop,(∃ m,W 0 m [] (upd H1 D (.lst [])))/\∀ i m ys H,W i m ys H ->
 H D=some (.lst ys)/\((J.stop i H/\Q (.ref D) H)\/(J.go i H/\ys.length < sizeLine/\∀ x H',J.yld i H x H'->tt (some x::σ) H' fun b H2=>if b=true then te (some x::σ) H2 fun v H3 =>
  H3 D=some (.lst ys)/\∃ m',m' < m/\W (i+1) m' (ys++[v]) (upd H3 D (.lst (ys++[v]))) else ∃ m',m' < m/\W (i+1) m' ys H2))
theorem tFor_rng1{ta:TA}{g:TG}{tb:TS}{D:Ends}{σ:St}{H:Hp}:tFor (iRng1 ta) g tb D σ H=ta σ H fun vs H1=>∃ j:Int,vs=[.int j] /\ -(2 ^ 62)<=j/\j < 2 ^ 62/\FoR (Itr 0 j.toNat) g tb D σ H1:=rfl
theorem tFor_rng2{ta:TA}{g:TG}{tb:TS}{D:Ends}{σ:St}{H:Hp}:tFor (iRng2 ta) g tb D σ H=ta σ H fun vs H1=>∃ i j:Int,vs=[.int i,.int j]/\(-(2 ^ 62)<=i/\i < 2 ^ 62 /\ -(2 ^ 62)<=j/\j < 2 ^ 62)/\FoR (Itr i (j - i).toNat) g tb D σ H1:=rfl
theorem tFor_list{K:PySem.W.Frag}{tl:TE}{g:TG}{tb:TS}{D:Ends}{σ:St}{H:Hp}:tFor (iList K tl) g tb D σ H=tl σ H fun x H1=>∃ a,x=.ref a/\(∃ xs,SqL K H1 a xs)/\FoR (Itl K a) g tb D σ H1:=rfl
theorem tFor_tup{K:PySem.W.Frag}{tl:TE}{g:TG}{tb:TS}{D:Ends}{σ:St}{H:Hp}:tFor (iTup K tl) g tb D σ H=tl σ H fun x H1=>∃ a,x=.ref a/\(∃ xs,SqT K H1 a xs)/\FoR (Itt K a) g tb D σ H1:=rfl
theorem tFor_str{tl:TE}{g:TG}{tb:TS}{D:Ends}{σ:St}{H:Hp}:tFor (iStr tl) g tb D σ H=tl σ H fun x H1=>∃ z,x=.str z/\FoR (Its z) g tb D σ H1:=rfl
theorem tLc_rng1{ta:TA}{tt:TT}{te:TE}{σ:St}{H:Hp}{Q:VK}:tLc (iRng1 ta) tt te σ H Q=ta σ H fun vs H1=>∃ j:Int,vs=[.int j] /\ -(2 ^ 62)<=j/\j < 2 ^ 62/\LcR (Itr 0 j.toNat) tt te σ Q H1:=rfl
theorem tLc_list{K:PySem.W.Frag}{tl:TE}{tt:TT}{te:TE}{σ:St}{H:Hp}{Q:VK}:tLc (iList K tl) tt te σ H Q=tl σ H fun x H1=>∃ a,x=.ref a/\(∃ xs,SqL K H1 a xs)/\LcR (Itl K a) tt te σ Q H1:=rfl
theorem tLc_tup{K:PySem.W.Frag}{tl:TE}{tt:TT}{te:TE}{σ:St}{H:Hp}{Q:VK}:tLc (iTup K tl) tt te σ H Q=tl σ H fun x H1=>∃ a,x=.ref a/\(∃ xs,SqT K H1 a xs)/\LcR (Itt K a) tt te σ Q H1:=rfl
theorem tLc_str{tl:TE}{tt:TT}{te:TE}{σ:St}{H:Hp}{Q:VK}:tLc (iStr tl) tt te σ H Q=tl σ H fun x H1=>∃ z,x=.str z/\LcR (Its z) tt te σ Q H1:=rfl
theorem foR_range{lo:Int}{n:Nat}{g:TG}{tb:TS}{D:Ends}{σ:St}{H:Hp}(Pv:Nat->St->Hp->Prop)(h0:Pv 0 σ H)
 (hs:∀ i σ H,i < n->Pv i σ H->g (.int (lo+i)) σ H fun σ2 H2=>tb { D with nx:=Pv (i+1),ct:=Pv (i+1),bk:=D.nx } σ2 H2) (hd:∀ σ H,Pv n σ H->D.nx σ H):FoR (Itr lo n) g tb D σ H:=for_range Pv h0 hs hd
theorem foR_list{K:PySem.W.Frag}{a:Addr}(xs:List V){g:TG}{tb:TS}{D:Ends}{σ:St}{H:Hp}(Pv:Nat->St->Hp->Prop)(h0:Pv 0 σ H)(hl:∀ i σ H,i<=xs.length->Pv i σ H->SqL K H a xs)
 (hs:∀ i x σ H,xs[i]?=some x->Pv i σ H->g x σ H fun σ2 H2=>tb { D with nx:=Pv (i+1),ct:=Pv (i+1),bk:=D.nx } σ2 H2) (hd:∀ σ H,Pv xs.length σ H->D.nx σ H):FoR (Itl K a) g tb D σ H:=for_list Pv h0 hl hs hd
theorem foR_tup{K:PySem.W.Frag}{a:Addr}(xs:List V){g:TG}{tb:TS}{D:Ends}{σ:St}{H:Hp}(Pv:Nat->St->Hp->Prop)(h0:Pv 0 σ H)(hl:∀ i σ H,i<=xs.length->Pv i σ H->SqT K H a xs)
 (hs:∀ i x σ H,xs[i]?=some x->Pv i σ H->g x σ H fun σ2 H2=>tb { D with nx:=Pv (i+1),ct:=Pv (i+1),bk:=D.nx } σ2 H2) (hd:∀ σ H,Pv xs.length σ H->D.nx σ H):FoR (Itt K a) g tb D σ H:=for_tup Pv h0 hl hs hd
theorem lcR_of{J:It}{te:TE}{σ:St}{H1:Hp}{Q:VK}(n:Nat)(item:Nat->V->Prop)(P:Nat->V->Prop)(hz:n<=sizeLine)
 (hgo:∀ i H2,i < n->Same H1 H2->J.go i H2/\∀ x H',J.yld i H2 x H'->H'=H2/\item i x) (hst:∀ H2,Same H1 H2->J.stop n H2)
 (he:∀ i x H2 (R:VK),item i x->Same H1 H2->(∀ v H3,P i v->Same H2 H3->R v H3)->te (some x::σ) H2 R)
 (hq:∀ D H2 ys,H1 D=none->Same H1 H2->H2 D=some (.lst ys)->ys.length=n->(∀ i y,ys[i]?=some y->P i y)->Q (.ref D) H2):LcR J tYes te σ Q H1:=by
 intro D hD
 refine⟨fun i m ys H2=>m=n - i/\i<=n/\ys.length=i/\H2 D=some (.lst ys)/\Same H1 H2/\∀ j y,ys[j]?=some y->P j y,⟨_,rfl,Nat.zero_le _,rfl,upd_same,same_upd hD _,fun j y h=>by simp at h⟩,?_⟩
 rintro i m ys H2 ⟨rfl,hi,hl,hd,sm,hp⟩
 refine⟨hd,?_⟩
 by_cases hlt:i < n
 ·obtain⟨go,yl⟩:=hgo i H2 hlt sm
  refine .inr ⟨go,by omega,fun x H' y=>?_⟩
  obtain⟨e,hx⟩:=yl x H' y
  subst e
  unfold tYes
  refine iteT ?_
  refine he i x _ _ hx sm fun v H3 pv s3=>⟨s3 _ _ hd,n - (i+1),by omega,rfl,hlt,by rw[List.length_append,hl];rfl,upd_same,(sm.trans s3).updL hD _,fun j y h=>?_⟩
  by_cases hj:j < ys.length
  ·rw[List.getElem?_append_left hj]at h
   exact hp j y h
  ·rw[List.getElem?_append_right (by omega)]at h
   have hj2:j=i:=by
    have:=(List.getElem?_eq_some_iff.mp h).1
    simp at this
    omega
   subst hj2
   rw[hl]at h
   simp at h
   subst h
   exact pv
 ·have e:i=n:=by omega
  subst e
  exact .inl ⟨hst H2 sm,hq D H2 ys hD sm hd hl hp⟩
theorem lcR_range{te:TE}{σ:St}{H1:Hp}{Q:VK}{lo:Int}{n:Nat}(P:Nat->V->Prop)(hz:n<=sizeLine)
 (he:∀ (i:Nat) H2 (R:VK),i < n->Same H1 H2->(∀ v H3,P i v->Same H2 H3->R v H3)->te (some (.int (lo+i))::σ) H2 R)
 (hq:∀ D H2 ys,H1 D=none->Same H1 H2->H2 D=some (.lst ys)->ys.length=n->(∀ i y,ys[i]?=some y->P i y)->Q (.ref D) H2):LcR (Itr lo n) tYes te σ Q H1 :=
 lcR_of n (fun i x=>i < n/\x=.int (lo+i)) P hz (fun i H2 hi _=>⟨hi,fun x H' y=>⟨y.1,hi,y.2⟩⟩) (fun _ _=>Nat.le_refl _) (fun i x H2 R ⟨hi,e⟩ s r=>by subst e;exact he i H2 R hi s r) hq
end L2
end
section
namespace SortT
open PySem PySem.W PyProof.Rows
def K(r:Nat->Nat)(p:Array Nat)(i:Nat):Nat:=r (p.getD i 0)
structure Ok(n:Nat)(p:Array Nat):Prop where
 size:p.size=n
 perm:p.Perm (List.range n).toArray
theorem Ok.lt{n:Nat}{p:Array Nat}(h:Ok n p)(hn:0 < n)(i:Nat):p.getD i 0 < n:=by
 rw[Array.getD_eq_getD_getElem?]
 cases e:p[i]? with
 | none=>exact hn
 | some x =>
  have hx:x∈p:=Array.mem_of_getElem? e
  have:=(h.perm.mem_iff (a:=x)).mp hx
  simpa using this
def Up(r:Nat->Nat)(p:Array Nat)(m:Nat):Prop:=∀ i j,i<=j->j < m->K r p i<=K r p j
variable{n:Nat}{r:Nat->Nat}
end SortT
end
section
namespace SortB
open PySem PySem.W PyProof.Rows
def gallop':Bool->Keyed->Array Keyed->Nat->Nat->Nat->StateT SortSt Sem (Option Nat):=sortPriv% PySem.Builtin.gallop
def mergeLo':Array Keyed->Array Keyed->StateT SortSt Sem (Array Keyed):=sortPriv% PySem.Builtin.mergeLo
def mergeHi':Array Keyed->Array Keyed->StateT SortSt Sem (Array Keyed):=sortPriv% PySem.Builtin.mergeHi
def K(rk:Keyed->Nat)(a:Array Keyed)(i:Nat):Nat:=match a[i]? with | some p=>rk p | none=>0
theorem K_get{rk:Keyed->Nat}{a:Array Keyed}{i:Nat}(h:i < a.size):K rk a i=rk a[i]:=by unfold K;rw[getElem?_pos a i h]
theorem K_of{rk:Keyed->Nat}{a b:Array Keyed}{i j:Nat}(h:a[i]?=b[j]?):K rk a i=K rk b j:=by unfold K;rw[h]
section
variable{prog:Program}{w:World}{A:Around}{E:Value->Shared->Prop}{s:Shared}{κ:SortKind}{rk:Keyed->Nat}{S:Keyed->Prop}
def LtOk(prog:Program)(w:World)(A:Around)(E:Value->Shared->Prop)(s:Shared)(κ:SortKind)(rk:Keyed->Nat)(S:Keyed->Prop):Prop :=
 ∀ x y (st:SortSt) (Q:Option Bool->SortSt->Prop),kindOf st=κ->S x->S y->Q (some (decide (rk x < rk y))) st->wpS (model prog w) A E s (lt' x y) Q st
theorem wpS_elem{a:Array Keyed}{i:Nat}{st:SortSt}{Q:Keyed->SortSt->Prop}(hi:i < a.size)(h:Q a[i] st):wpS (model prog w) A E s (elem' a i) Q st:=by
 rw[elem'_eq,getElem?_pos a i hi];exact wpS_pure h
theorem wpS_at(L:LtOk prog w A E s κ rk S){st:SortSt}{i j:Nat}{Q:Option Bool->SortSt->Prop}(hk:kindOf st=κ)(hS:∀ x∈arrOf st,S x)(hi:i < (arrOf st).size)(hj:j < (arrOf st).size)
 (h:Q (some (decide (K rk (arrOf st) i < K rk (arrOf st) j))) st):wpS (model prog w) A E s (ltAt' i j) Q st:=by
 rw[ltAt'_eq]
 refine wpS_bind (wpS_get (wpS_bind (wpS_elem hi (wpS_bind (wpS_elem hj ?_)))))
 rw[K_get hi,K_get hj]at h
 exact L _ _ st Q hk (hS _ (Array.getElem_mem hi)) (hS _ (Array.getElem_mem hj)) h
def bey(rk:Keyed->Nat)(left:Bool)(key:Keyed)(arr:Array Keyed)(bs i:Nat):Bool:=if left=true then decide (K rk arr (bs+i) < rk key) else !decide (rk key < K rk arr (bs+i))
theorem byd_ok(L:LtOk prog w A E s κ rk S){st:SortSt}{left:Bool}{key:Keyed}{arr:Array Keyed}{bs i:Nat}{Q:Option Bool->SortSt->Prop}(hk:kindOf st=κ)(hS:∀ x∈arr,S x)(hkey:S key)(hi:bs+i < arr.size)
 (h:Q (some (bey rk left key arr bs i)) st):wpS (model prog w) A E s (elem' arr (bs+i) >>= fun x=>if left=true then lt' x key else (lt' key x >>= fun r=>pure (Option.map (fun b=>!b) r))) Q st:=by
 refine wpS_bind (wpS_elem hi ?_)
 have hx:=hS _ (Array.getElem_mem hi)
 unfold bey at h
 rw[K_get hi]at h
 cases left with
 | true =>
  simp only[if_true]at h ⊢
  exact L _ _ st Q hk hx hkey h
 | false =>
  simp only[Bool.false_eq_true,if_false]at h ⊢
  exact wpS_bind (L _ _ st _ hk hkey hx (wpS_pure h))
theorem gallop_ok(L:LtOk prog w A E s κ rk S){st:SortSt}{left:Bool}{key:Keyed}{arr:Array Keyed}{bs n hint:Nat}{Q:Option Nat->SortSt->Prop}(hk:kindOf st=κ)(hS:∀ x∈arr,S x)(hkey:S key)(hb:bs+n<=arr.size)(hh:hint < n)
 (mono:∀ i j,i<=j->j < n->bey rk left key arr bs j=true->bey rk left key arr bs i=true)
 (h:∀ k,k<=n->(∀ i,i < k->bey rk left key arr bs i=true)->(∀ i,k<=i->i < n->bey rk left key arr bs i=false)->Q (some k) st):wpS (model prog w) A E s (gallop' left key arr bs n hint) Q st:=by
 have monf:∀ i j,i<=j->j < n->bey rk left key arr bs i=false->bey rk left key arr bs j=false:=fun i j hij hj e=>by
  cases q:bey rk left key arr bs j with
  | false=>rfl
  | true=>rw[mono i j hij hj q]at e;cases e
 refine wpS_bind (byd_ok L hk hS hkey (by omega) ?_)
 dsimp only
 cases e0:bey rk left key arr bs hint with
 | true =>
  rw[if_pos rfl]
  refine wpS_bind (wpS_mono (wpS_forRange (I:=fun x c st'=>st'=st/\∃ l o,c=(none,l,o)/\l < o/\x < o/\l+1<=n - hint/\bey rk left key arr bs (hint+l)=true)
   (Q:=fun c st'=>st'=st/\∃ l o,c=(none,l,o)/\l < o/\l+1<=n - hint/\bey rk left key arr bs (hint+l)=true/\(o < n - hint->bey rk left key arr bs (hint+o)=false)) ?step ?fin ⟨rfl,0,1,rfl,by omega,by omega,by omega,e0⟩) ?post)
  case step =>
   rintro x c st' _ hx ⟨rfl,l,o,rfl,h1,h2,h3,h4⟩
   dsimp only
   by_cases hge:o >= n - hint
   ·rw[if_pos hge]
    exact wpS_pure ⟨rfl,l,o,rfl,h1,h3,h4,fun z=>absurd z (by omega)⟩
   ·rw[if_neg hge]
    refine wpS_bind (byd_ok L hk hS hkey (by omega) ?_)
    cases e1:bey rk left key arr bs (hint+o) with
    | true=>exact wpS_pure ⟨rfl,o,2 * o+1,rfl,by omega,by omega,by omega,e1⟩
    | false=>exact wpS_pure ⟨rfl,l,o,rfl,h1,h3,h4,fun _=>e1⟩
  case fin =>
   rintro c st' ⟨rfl,l,o,rfl,h1,h2,h3,h4⟩
   exact⟨rfl,l,o,rfl,h1,h3,h4,fun z=>absurd z (by omega)⟩
  case post =>
   rintro c st'' ⟨rfl,l,o,rfl,h1,h3,h4,h5⟩
   have a1:∀ i,i < hint+l+1->bey rk left key arr bs i=true:=fun i hi=>mono i (hint+l) (by omega) (by omega) h4
   have a2:∀ i,hint+min o (n - hint)<=i->i < n->bey rk left key arr bs i=false:=fun i hi hn=>monf (hint+o) i (by omega) hn (h5 (by omega))
   have a3:hint+l+1<=hint+min o (n - hint):=by omega
   have a4:hint+min o (n - hint)<=n:=by omega
   dsimp only
   generalize hint+l+1=lo at a1 a2 a3 a4 ⊢
   generalize hint+min o (n - hint)=hi at a1 a2 a3 a4 ⊢
   refine wpS_bind (wpS_mono (wpS_forRange (I:=fun x c st'=>st'=st''/\∃ lo hi,c=(none,lo,hi)/\lo<=hi/\hi<=n/\hi - lo<=n - x/\(∀ i,i < lo->bey rk left key arr bs i=true)/\∀ i,hi<=i->i < n->bey rk left key arr bs i=false)
    (Q:=fun c st'=>st'=st''/\∃ hi,c=(none,hi,hi)/\hi<=n/\(∀ i,i < hi->bey rk left key arr bs i=true)/\∀ i,hi<=i->i < n->bey rk left key arr bs i=false) ?_ ?_ ⟨rfl,lo,hi,rfl,a3,a4,by omega,a1,a2⟩) ?_)
   ·rintro x c st' _ hx ⟨rfl,lo,hi,rfl,b1,b2,b3,b4,b5⟩
    dsimp only
    by_cases hge:lo >= hi
    ·rw[if_pos hge]
     have:lo=hi:=by omega
     subst this
     exact wpS_pure ⟨rfl,lo,rfl,b2,b4,b5⟩
    ·rw[if_neg hge]
     refine wpS_bind (byd_ok L hk hS hkey (by omega) ?_)
     cases e1:bey rk left key arr bs (lo+(hi - lo) / 2) with
     | true=>exact wpS_pure ⟨rfl,_,hi,rfl,by omega,b2,by omega,fun i hi'=>mono i _ (by omega) (by omega) e1,b5⟩
     | false=>exact wpS_pure ⟨rfl,lo,_,rfl,by omega,by omega,by omega,b4,fun i h1 h2=>monf _ i h1 h2 e1⟩
   ·rintro c st' ⟨rfl,lo,hi,rfl,b1,b2,b3,b4,b5⟩
    have:lo=hi:=by omega
    subst this
    exact⟨rfl,lo,rfl,b2,b4,b5⟩
   ·rintro c st' ⟨rfl,hi,rfl,b2,b4,b5⟩
    exact wpS_pure (h hi b2 b4 b5)
 | false =>
  rw[if_neg (by simp)]
  refine wpS_bind (wpS_mono (wpS_forRange (I:=fun x c st'=>st'=st/\∃ l o,c=(none,l,o)/\l < o/\x < o/\l<=hint/\bey rk left key arr bs (hint - l)=false)
   (Q:=fun c st'=>st'=st/\∃ l o,c=(none,l,o)/\l < o/\l<=hint/\bey rk left key arr bs (hint - l)=false/\(o < hint+1->bey rk left key arr bs (hint - o)=true)) ?step ?fin ⟨rfl,0,1,rfl,by omega,by omega,by omega,e0⟩) ?post)
  case step =>
   rintro x c st' _ hx ⟨rfl,l,o,rfl,h1,h2,h3,h4⟩
   dsimp only
   by_cases hge:o >= hint+1
   ·rw[if_pos hge]
    exact wpS_pure ⟨rfl,l,o,rfl,h1,h3,h4,fun z=>absurd z (by omega)⟩
   ·rw[if_neg hge]
    refine wpS_bind (byd_ok L hk hS hkey (by omega) ?_)
    cases e1:bey rk left key arr bs (hint - o) with
    | true=>exact wpS_pure ⟨rfl,l,o,rfl,h1,h3,h4,fun _=>e1⟩
    | false=>exact wpS_pure ⟨rfl,o,2 * o+1,rfl,by omega,by omega,by omega,e1⟩
  case fin =>
   rintro c st' ⟨rfl,l,o,rfl,h1,h2,h3,h4⟩
   exact⟨rfl,l,o,rfl,h1,h3,h4,fun z=>absurd z (by omega)⟩
  case post =>
   rintro c st'' ⟨rfl,l,o,rfl,h1,h3,h4,h5⟩
   have a1:∀ i,i < hint+1 - min o (hint+1)->bey rk left key arr bs i=true:=fun i hi=>mono i (hint - o) (by omega) (by omega) (h5 (by omega))
   have a2:∀ i,hint - l<=i->i < n->bey rk left key arr bs i=false:=fun i hi hn=>monf (hint - l) i hi hn h4
   have a3:hint+1 - min o (hint+1)<=hint - l:=by omega
   have a4:hint - l<=n:=by omega
   dsimp only
   generalize hint+1 - min o (hint+1)=lo at a1 a2 a3 a4 ⊢
   generalize hint - l=hi at a1 a2 a3 a4 ⊢
   refine wpS_bind (wpS_mono (wpS_forRange (I:=fun x c st'=>st'=st''/\∃ lo hi,c=(none,lo,hi)/\lo<=hi/\hi<=n/\hi - lo<=n - x/\(∀ i,i < lo->bey rk left key arr bs i=true)/\∀ i,hi<=i->i < n->bey rk left key arr bs i=false)
    (Q:=fun c st'=>st'=st''/\∃ hi,c=(none,hi,hi)/\hi<=n/\(∀ i,i < hi->bey rk left key arr bs i=true)/\∀ i,hi<=i->i < n->bey rk left key arr bs i=false) ?_ ?_ ⟨rfl,lo,hi,rfl,a3,a4,by omega,a1,a2⟩) ?_)
   ·rintro x c st' _ hx ⟨rfl,lo,hi,rfl,b1,b2,b3,b4,b5⟩
    dsimp only
    by_cases hge:lo >= hi
    ·rw[if_pos hge]
     have:lo=hi:=by omega
     subst this
     exact wpS_pure ⟨rfl,lo,rfl,b2,b4,b5⟩
    ·rw[if_neg hge]
     refine wpS_bind (byd_ok L hk hS hkey (by omega) ?_)
     cases e1:bey rk left key arr bs (lo+(hi - lo) / 2) with
     | true=>exact wpS_pure ⟨rfl,_,hi,rfl,by omega,b2,by omega,fun i hi'=>mono i _ (by omega) (by omega) e1,b5⟩
     | false=>exact wpS_pure ⟨rfl,lo,_,rfl,by omega,by omega,by omega,b4,fun i h1 h2=>monf _ i h1 h2 e1⟩
   ·rintro c st' ⟨rfl,lo,hi,rfl,b1,b2,b3,b4,b5⟩
    have:lo=hi:=by omega
    subst this
    exact⟨rfl,lo,rfl,b2,b4,b5⟩
   ·rintro c st' ⟨rfl,hi,rfl,b2,b4,b5⟩
    exact wpS_pure (h hi b2 b4 b5)
end
end SortB
end
section
namespace SortB
open PySem PySem.W PyProof.Rows
abbrev Rs(rk:Keyed->Nat)(l:List Keyed):Prop:=l.Pairwise fun x y=>rk x<=rk y
structure Mg(rk:Keyed->Nat)(la lb out:List Keyed)(ia ib:Nat):Prop where
 perm:out.Perm (la.take ia++lb.take ib)
 pw:Rs rk out
 ra:∀ x∈out,∀ y∈la.drop ia,rk x<=rk y
 rb:∀ x∈out,∀ y∈lb.drop ib,rk x<=rk y
section
variable{rk:Keyed->Nat}{la lb out:List Keyed}{ia ib k:Nat}
theorem drop_split(l:List Keyed)(i k:Nat):l.drop i=(l.drop i).take k++l.drop (i+k):=by
 rw[<- List.drop_drop,List.take_append_drop]
theorem Mg.takeA(m:Mg rk la lb out ia ib)(pa:Rs rk la)(k:Nat)(h:∀ x∈(la.drop ia).take k,∀ y∈lb.drop ib,rk x<=rk y):Mg rk la lb (out++(la.drop ia).take k) (ia+k) ib:=by
 have pd:Rs rk (la.drop ia):=pa.sublist (List.drop_sublist _ _)
 have ps:=drop_split la ia k
 refine⟨?_,?_,?_,?_⟩
 ·have e:la.take (ia+k)=la.take ia++(la.drop ia).take k:=by rw[List.take_add]
  rw[e]
  refine(m.perm.append_right _).trans ?_
  rw[List.append_assoc,List.append_assoc]
  exact(List.perm_append_comm).append_left _
 ·refine List.pairwise_append.mpr ⟨m.pw,pd.sublist (List.take_sublist _ _),fun x hx y hy=>m.ra x hx y (List.mem_of_mem_take hy)⟩
 ·intro x hx y hy
  rcases List.mem_append.mp hx with hx | hx
  ·exact m.ra x hx y (by rw[ps];exact List.mem_append_right _ hy)
  ·rw[ps]at pd
   exact(List.pairwise_append.mp pd).2.2 x hx y hy
 ·intro x hx y hy
  rcases List.mem_append.mp hx with hx | hx
  ·exact m.rb x hx y hy
  ·exact h x hx y hy
theorem Mg.swap(m:Mg rk la lb out ia ib):Mg rk lb la out ib ia:=⟨m.perm.trans List.perm_append_comm,m.pw,m.rb,m.ra⟩
theorem Mg.takeB(m:Mg rk la lb out ia ib)(pb:Rs rk lb)(k:Nat)(h:∀ x∈(lb.drop ib).take k,∀ y∈la.drop ia,rk x<=rk y):Mg rk la lb (out++(lb.drop ib).take k) ia (ib+k):=(m.swap.takeA pb k h).swap
theorem Mg.done(m:Mg rk la lb out ia ib)(pa:Rs rk la)(pb:Rs rk lb)(h:∀ x∈la.drop ia,∀ y∈lb.drop ib,rk x<=rk y):(out++la.drop ia++lb.drop ib).Perm (la++lb)/\Rs rk (out++la.drop ia++lb.drop ib):=by
 have e1:(la.drop ia).take la.length=la.drop ia:=List.take_of_length_le (by rw[List.length_drop];omega)
 have e2:(lb.drop ib).take lb.length=lb.drop ib:=List.take_of_length_le (by rw[List.length_drop];omega)
 have m1:=m.takeA pa la.length (by rw[e1];exact h)
 rw[e1]at m1
 have z:la.drop (ia+la.length)=[]:=List.drop_eq_nil_of_le (by omega)
 have m2:=m1.takeB pb lb.length (by rw[z];intro _ _ _ q;cases q)
 rw[e2]at m2
 refine⟨?_,m2.pw⟩
 have:=m2.perm
 rwa [List.take_of_length_le (by omega),List.take_of_length_le (by omega)]at this
theorem Mg.doneB(m:Mg rk la lb out ia ib)(pa:Rs rk la)(pb:Rs rk lb)(h:∀ x∈lb.drop ib,∀ y∈la.drop ia,rk x<=rk y):(out++lb.drop ib++la.drop ia).Perm (la++lb)/\Rs rk (out++lb.drop ib++la.drop ia):=by
 obtain⟨a,b⟩:=m.swap.done pb pa h
 exact⟨a.trans List.perm_append_comm,b⟩
end
section
variable{rk:Keyed->Nat}{a:Array Keyed}{i j k n:Nat}{x:Keyed}
theorem ext_all(a:Array Keyed)(i:Nat):(a.extract i a.size).toList=a.toList.drop i:=by
 rw[Array.toList_extract,List.extract_eq_take_drop]
 exact List.take_of_length_le (by simp)
theorem ext_some(a:Array Keyed)(i j:Nat):(a.extract i j).toList=(a.toList.drop i).take (j - i):=by
 rw[Array.toList_extract,List.extract_eq_take_drop]
theorem take_one(h:i < a.size):(a.toList.drop i).take 1=[a[i]]:=by
 rw[List.drop_eq_getElem_cons (by simpa using h)]
 simp
theorem mem_dt(h:x∈(a.toList.drop i).take k):∃ j,j < k/\i+j < a.size/\rk x=K rk a (i+j):=by
 obtain⟨j,hj,e⟩:=List.getElem_of_mem h
 have h1:j < k/\i+j < a.size:=by
  rw[List.length_take,List.length_drop,Array.length_toList]at hj
  omega
 refine⟨j,h1.1,h1.2,?_⟩
 rw[K_get h1.2,<- e]
 simp
theorem mem_d(h:x∈a.toList.drop i):∃ j,i<=j/\j < a.size/\rk x=K rk a j:=by
 obtain⟨j,hj,e⟩:=List.getElem_of_mem h
 have h1:i+j < a.size:=by
  rw[List.length_drop,Array.length_toList]at hj
  omega
 refine⟨i+j,by omega,h1,?_⟩
 rw[K_get h1,<- e]
 simp
theorem Rs.le(h:Rs rk a.toList)(hij:i<=j)(hj:j < a.size):K rk a i<=K rk a j:=by
 by_cases e:i=j
 ·rw[e];exact Nat.le_refl _
 ·rw[K_get (show i < a.size by omega),K_get hj]
  have:=List.pairwise_iff_getElem.mp h i j (by simp;omega) (by simp;omega) (by omega)
  simpa using this
end
abbrev setG(st:SortSt)(g:Nat):SortSt:=SortSt.mk' (kindOf st) (arrOf st) (pendingOf st) g (failedOf st)
section
variable{prog:Program}{w:World}{A:Around}{E:Value->Shared->Prop}{s:Shared}{κ:SortKind}{rk:Keyed->Nat}{S:Keyed->Prop}
theorem galR(L:LtOk prog w A E s κ rk S){st:SortSt}{key:Keyed}{arr:Array Keyed}{bs n hint:Nat}{Q:Option Nat->SortSt->Prop}(hk:kindOf st=κ)(hS:∀ x∈arr,S x)(hkey:S key)(hb:bs+n<=arr.size)(hh:hint < n)
 (up:∀ i j,bs<=i->i<=j->j < bs+n->K rk arr i<=K rk arr j)
 (h:∀ k,k<=n->(∀ i,i < k->K rk arr (bs+i)<=rk key)->(∀ i,k<=i->i < n->rk key < K rk arr (bs+i))->Q (some k) st):wpS (model prog w) A E s (gallop' false key arr bs n hint) Q st:=by
 have e:∀ i,bey rk false key arr bs i=!decide (rk key < K rk arr (bs+i)):=fun i=>by unfold bey;rw[if_neg (by simp)]
 refine gallop_ok L hk hS hkey hb hh (fun i j hij hj=>?_) fun k hk1 h1 h2=>h k hk1 (fun i hi=>?_) fun i hi hn=>?_
 ·rw[e,e]
  have:=up (bs+i) (bs+j) (by omega) (by omega) (by omega)
  simp only[Bool.not_eq_true',decide_eq_false_iff_not]
  omega
 ·have:=h1 i hi
  rw[e]at this
  simp only[Bool.not_eq_true',decide_eq_false_iff_not]at this
  omega
 ·have:=h2 i hi hn
  rw[e]at this
  simpa using this
theorem galL(L:LtOk prog w A E s κ rk S){st:SortSt}{key:Keyed}{arr:Array Keyed}{bs n hint:Nat}{Q:Option Nat->SortSt->Prop}(hk:kindOf st=κ)(hS:∀ x∈arr,S x)(hkey:S key)(hb:bs+n<=arr.size)(hh:hint < n)
 (up:∀ i j,bs<=i->i<=j->j < bs+n->K rk arr i<=K rk arr j)
 (h:∀ k,k<=n->(∀ i,i < k->K rk arr (bs+i) < rk key)->(∀ i,k<=i->i < n->rk key<=K rk arr (bs+i))->Q (some k) st):wpS (model prog w) A E s (gallop' true key arr bs n hint) Q st:=by
 have e:∀ i,bey rk true key arr bs i=decide (K rk arr (bs+i) < rk key):=fun i=>by unfold bey;rw[if_pos rfl]
 refine gallop_ok L hk hS hkey hb hh (fun i j hij hj=>?_) fun k hk1 h1 h2=>h k hk1 (fun i hi=>?_) fun i hi hn=>?_
 ·rw[e,e]
  have:=up (bs+i) (bs+j) (by omega) (by omega) (by omega)
  simp only[decide_eq_true_eq]
  omega
 ·have:=h1 i hi
  rw[e]at this
  simpa using this
 ·have:=h2 i hi hn
  rw[e]at this
  simpa using this
theorem mergeLo_ok(L:LtOk prog w A E s κ rk S){st:SortSt}{a b:Array Keyed}{Q:Array Keyed->SortSt->Prop}(hk:kindOf st=κ)(hSa:∀ x∈a,S x)(hSb:∀ x∈b,S x)(na:0 < a.size)(nb:0 < b.size)(pa:Rs rk a.toList)(pb:Rs rk b.toList)
 (h0:K rk b 0<=K rk a 0) (hl:∀ i,i < b.size->K rk b i < K rk a (a.size - 1)) (h:∀ out g,out.toList.Perm (a.toList++b.toList)->Rs rk out.toList->Q out (setG st g)):wpS (model prog w) A E s (mergeLo' a b) Q st:=by
 have ua:∀ i j,i<=j->j < a.size->K rk a i<=K rk a j:=fun i j h1 h2=>pa.le h1 h2
 have ub:∀ i j,i<=j->j < b.size->K rk b i<=K rk b j:=fun i j h1 h2=>pb.le h1 h2
 have m0:Mg rk a.toList b.toList (#[b[0]]:Array Keyed).toList 0 1:=by
  have e1:b.toList.take 1=[b[0]]:=by have:=take_one nb;simpa using this
  refine⟨by rw[e1];simp,by simp,fun x hx y hy=>?_,fun x hx y hy=>?_⟩
  ·obtain⟨j,_,hj,e⟩:=mem_d (rk:=rk) hy
   have:x=b[0]:=by simpa using hx
   rw[this,e,<- K_get (rk:=rk) nb]
   exact Nat.le_trans h0 (ua 0 j (by omega) hj)
  ·obtain⟨j,_,hj,e⟩:=mem_d (rk:=rk) hy
   have:x=b[0]:=by simpa using hx
   rw[this,e,<- K_get (rk:=rk) nb]
   exact ub 0 j (by omega) hj
 have done:∀ (out:Array Keyed) (ia ib:Nat),Mg rk a.toList b.toList out.toList ia ib->ib=b.size->(out++a.extract ia a.size++b.extract ib b.size).toList.Perm (a.toList++b.toList)/\Rs rk (out++a.extract ia a.size++b.extract ib b.size).toList:=fun out ia ib m e=>by
  rw[Array.toList_append,Array.toList_append,ext_all,ext_all]
  exact m.done pa pb fun x _ y hy=>by
   obtain⟨j,h1,h2,_⟩:=mem_d (rk:=rk) hy
   omega
 have lastA:∀ (out:Array Keyed) (ia ib:Nat),Mg rk a.toList b.toList out.toList ia ib->ia+1=a.size->(out++b.extract ib b.size++a.extract ia a.size).toList.Perm (a.toList++b.toList)/\Rs rk (out++b.extract ib b.size++a.extract ia a.size).toList:=fun out ia ib m e=>by
  rw[Array.toList_append,Array.toList_append,ext_all,ext_all]
  exact m.doneB pa pb fun x hx y hy=>by
   obtain⟨j,h1,h2,e1⟩:=mem_d (rk:=rk) hx
   obtain⟨i,h3,h4,e2⟩:=mem_d (rk:=rk) hy
   have:i=a.size - 1:=by omega
   rw[e1,e2,this]
   exact Nat.le_of_lt (hl j h2)
 have pushA:∀ (out:Array Keyed) (ia ib:Nat) (hi:ia < a.size),Mg rk a.toList b.toList out.toList ia ib->(ib < b.size->K rk a ia<=K rk b ib)->Mg rk a.toList b.toList (out.push a[ia]).toList (ia+1) ib:=fun out ia ib hi m hle=>by
  have:=m.takeA pa 1 fun x hx y hy=>by
   obtain⟨j,h1,h2,e1⟩:=mem_dt (rk:=rk) hx
   obtain⟨i,h3,h4,e2⟩:=mem_d (rk:=rk) hy
   have:j=0:=by omega
   subst this
   rw[e1,e2]
   exact Nat.le_trans (hle (by omega)) (ub ib i h3 h4)
  rwa [take_one hi,<- Array.toList_push]at this
 have pushB:∀ (out:Array Keyed) (ia ib:Nat) (hi:ib < b.size),Mg rk a.toList b.toList out.toList ia ib->(ia < a.size->K rk b ib<=K rk a ia)->Mg rk a.toList b.toList (out.push b[ib]).toList ia (ib+1):=fun out ia ib hi m hle=>by
  have:=m.takeB pb 1 fun x hx y hy=>by
   obtain⟨j,h1,h2,e1⟩:=mem_dt (rk:=rk) hx
   obtain⟨i,h3,h4,e2⟩:=mem_d (rk:=rk) hy
   have:j=0:=by omega
   subst this
   rw[e1,e2]
   exact Nat.le_trans (hle (by omega)) (ua ia i h3 h4)
  rwa [take_one hi,<- Array.toList_push]at this
 refine wpS_bind (wpS_lift (wpAny_rule ⟨rfl,?_⟩))
 refine wpS_bind (wpS_elem nb ?_)
 dsimp only
 by_cases hb1:1=b.size
 ·rw[if_pos (by simpa using hb1)]
  obtain⟨p,r⟩:=done _ 0 1 m0 hb1
  exact wpS_pure (h _ (gallopOf st) p r)
 rw[if_neg (by simpa using hb1)]
 by_cases ha1:0+1=a.size
 ·rw[if_pos (by simpa using ha1)]
  obtain⟨p,r⟩:=lastA _ 0 1 m0 ha1
  exact wpS_pure (h _ (gallopOf st) p r)
 rw[if_neg (by simpa using ha1)]
 refine wpS_bind (wpS_get (wpS_bind (wpS_mono (wpS_forRange
  (I:=fun x c st'=>∃ out ia ib g g',c=(none,out,ia,ib,g)/\st'=setG st g'/\Mg rk a.toList b.toList (out:Array Keyed).toList ia ib/\ia+1 < a.size/\ib < b.size/\x<=ia+ib)
  (Q:=fun c st'=>∃ r g' z,c=(some r,z)/\st'=setG st g'/\(r:Array Keyed).toList.Perm (a.toList++b.toList)/\Rs rk r.toList) ?step ?fin ⟨_,0,1,_,gallopOf st,rfl,rfl,m0,by omega,by omega,by omega⟩) ?post)))
 case post =>
  rintro c st' ⟨r,g',z,rfl,rfl,p,q⟩
  exact wpS_pure (h r g' p q)
 case fin =>
  rintro c st' ⟨out,ia,ib,g,g',rfl,rfl,m,h1,h2,h3⟩
  omega
 case step =>
  rintro x c st' _ hx ⟨out,ia,ib,g,g',rfl,rfl,m,h1,h2,h3⟩
  dsimp only
  refine wpS_bind (wpS_mono (wpS_forRange
   (I:=fun y c st'=>st'=setG st g'/\∃ out ja jb ac bc,c=(none,out,ja,jb,ac,bc)/\Mg rk a.toList b.toList (out:Array Keyed).toList ja jb/\ja+1 < a.size/\jb < b.size/\y+(ia+ib)<=ja+jb)
   (Q:=fun c st'=>st'=setG st g'/\((∃ out ja jb ac bc,c=(none,out,ja,jb,ac,bc)/\Mg rk a.toList b.toList (out:Array Keyed).toList ja jb/\ja+1 < a.size/\jb < b.size/\ia+ib<=ja+jb)\/∃ r z,c=(some r,z)/\(r:Array Keyed).toList.Perm (a.toList++b.toList)/\Rs rk r.toList)) ?istep ?ifin ⟨rfl,out,ia,ib,0,0,rfl,m,h1,h2,by omega⟩) ?ipost)
  case ifin =>
   rintro c st' ⟨rfl,out,ja,jb,ac,bc,rfl,m,h4,h5,h6⟩
   omega
  case istep =>
   rintro y c st' _ hy ⟨rfl,out,ja,jb,ac,bc,rfl,m,h4,h5,h6⟩
   dsimp only
   refine wpS_bind (wpS_elem h5 (wpS_bind (wpS_elem (show ja < a.size by omega) (wpS_bind (L _ _ _ _ hk (hSb _ (Array.getElem_mem h5)) (hSa _ (Array.getElem_mem _)) ?_)))))
   by_cases hw:rk b[jb] < rk a[ja]
   ·have m1:=pushB out ja jb h5 m fun _=>by rw[K_get h5,K_get (show ja < a.size by omega)];exact Nat.le_of_lt hw
    simp only[hw,decide_true,if_true]
    refine wpS_bind (wpS_elem h5 ?_)
    by_cases he:jb+1=b.size
    ·rw[if_pos (by simpa using he)]
     exact wpS_pure ⟨rfl,.inr ⟨_,_,rfl,done _ ja (jb+1) m1 he⟩⟩
    ·rw[if_neg (by simpa using he)]
     by_cases hc:bc+1 >= g
     ·rw[if_pos hc]
      exact wpS_pure ⟨rfl,.inl ⟨_,_,_,_,_,rfl,m1,h4,by omega,by omega⟩⟩
     ·rw[if_neg hc]
      exact wpS_pure ⟨rfl,_,_,_,_,_,rfl,m1,h4,by omega,by omega⟩
   ·have m1:=pushA out ja jb (by omega) m fun _=>by rw[K_get h5,K_get (show ja < a.size by omega)];omega
    simp only[hw,decide_false,Bool.false_eq_true,if_false]
    refine wpS_bind (wpS_elem (show ja < a.size by omega) ?_)
    by_cases he:ja+1+1=a.size
    ·rw[if_pos (by simpa using he)]
     exact wpS_pure ⟨rfl,.inr ⟨_,_,rfl,lastA _ (ja+1) jb m1 he⟩⟩
    ·rw[if_neg (by simpa using he)]
     by_cases hc:ac+1 >= g
     ·rw[if_pos hc]
      exact wpS_pure ⟨rfl,.inl ⟨_,_,_,_,_,rfl,m1,by omega,h5,by omega⟩⟩
     ·rw[if_neg hc]
      exact wpS_pure ⟨rfl,_,_,_,_,_,rfl,m1,by omega,h5,by omega⟩
  case ipost =>
   rintro c st' ⟨rfl,⟨out,ja,jb,ac,bc,rfl,m,h4,h5,h6⟩ | ⟨r,z,rfl,p,q⟩⟩
   ·dsimp only
    refine wpS_bind (wpS_lift (wpAny_rule ⟨rfl,?_⟩))
    refine wpS_bind (wpS_mono (wpS_forRange
     (I:=fun y c st'=>∃ out ka kb g g' ac bc,c=(none,out,ka,kb,g,ac,bc)/\st'=setG st g'/\Mg rk a.toList b.toList (out:Array Keyed).toList ka kb/\ka+1 < a.size/\kb < b.size/\y+(ja+jb)<=ka+kb)
     (Q:=fun c st'=>(∃ out ka kb g g' ac bc,c=(none,out,ka,kb,g,ac,bc)/\st'=setG st g'/\Mg rk a.toList b.toList (out:Array Keyed).toList ka kb/\ka+1 < a.size/\kb < b.size/\ja+jb+1<=ka+kb)\/∃ r z g',c=(some r,z)/\st'=setG st g'/\(r:Array Keyed).toList.Perm (a.toList++b.toList)/\Rs rk r.toList) ?jstep ?jfin ⟨out,ja,jb,_,g',ac,bc,rfl,rfl,m,h4,h5,by omega⟩) ?jpost)
    case jfin =>
     rintro c st' ⟨out,ka,kb,g,g',ac,bc,rfl,rfl,m,h7,h8,h9⟩
     omega
    case jpost =>
     rintro c st' (⟨out,ka,kb,g,g',ac,bc,rfl,rfl,m,h7,h8,h9⟩ | ⟨r,z,g',rfl,rfl,p,q⟩)
     ·dsimp only
      refine wpS_bind (wpS_modify (wpS_pure ⟨out,ka,kb,_,g+1,rfl,rfl,m,h7,h8,by omega⟩))
     ·exact wpS_pure ⟨r,g',_,rfl,rfl,p,q⟩
    case jstep =>
     rintro y c st' _ hy ⟨out,ka,kb,g,g',ac,bc,rfl,rfl,m,h7,h8,h9⟩
     dsimp only
     by_cases hg:g > 1
     ·rw[if_pos hg]
      generalize g - 1=g1
      refine wpS_bind (wpS_modify ?_)
      refine wpS_bind (wpS_elem h8 (wpS_bind (galR L hk hSa (hSb _ (Array.getElem_mem h8)) (by omega) (by omega) (fun i j h1 h2 h3=>ua i j h2 (by omega)) fun k hkn q1 q2=>?_)))
      dsimp only
      rw[<- K_get (rk:=rk) h8]at q1 q2
      have hlt:ka+k < a.size:=by
       by_cases hz:ka+k < a.size
       ·exact hz
       ·have z1:=q1 (a.size - 1 - ka) (by omega)
        rw[show ka+(a.size - 1 - ka)=a.size - 1 by omega]at z1
        have z2:=hl kb h8
        omega
      have m1:Mg rk a.toList b.toList (out++a.extract ka (ka+k)).toList (ka+k) kb:=by
       rw[Array.toList_append,ext_some,show ka+k - ka=k by omega]
       refine m.takeA pa k fun x hx y hy=>?_
       obtain⟨j,hj1,hj2,e1⟩:=mem_dt (rk:=rk) hx
       obtain⟨i,hi1,hi2,e2⟩:=mem_d (rk:=rk) hy
       rw[e1,e2]
       exact Nat.le_trans (q1 j hj1) (ub kb i hi1 hi2)
      have q3:K rk b kb<=K rk a (ka+k):=Nat.le_of_lt (q2 k (Nat.le_refl _) (by omega))
      have q4:k=0->out++a.extract ka (ka+k)=out:=fun e=>by
       subst e;rw[Nat.add_zero,Array.extract_empty_of_stop_le_start (Nat.le_refl _)];simp
      by_cases hk0:k > 0
      ·rw[if_pos hk0]
       by_cases he:ka+k+1=a.size
       ·rw[if_pos (by simpa using he)]
        obtain⟨p,r⟩:=lastA _ (ka+k) kb m1 he
        exact wpS_pure (.inr ⟨_,_,_,rfl,rfl,p,r⟩)
       rw[if_neg (by simpa using he),if_neg (by simp;omega)]
       have h10:ka+k+1 < a.size:=by omega
       have h11:ka<=ka+k:=by omega
       generalize out++a.extract ka (ka+k)=out1 at m1 ⊢
       generalize ka+k=ka1 at m1 q3 h10 h11 ⊢
       clear q4 m
       refine wpS_bind (wpS_elem h8 ?_)
       have m2:=pushB out1 ka1 kb h8 m1 fun _=>q3
       by_cases he2:kb+1=b.size
       ·rw[if_pos (by simpa using he2)]
        obtain⟨p,r⟩:=done _ ka1 (kb+1) m2 he2
        exact wpS_pure (.inr ⟨_,_,_,rfl,rfl,p,r⟩)
       rw[if_neg (by simpa using he2)]
       have ha1:ka1 < a.size:=by omega
       refine wpS_bind (wpS_elem ha1 (wpS_bind (galL L hk hSb (hSa _ (Array.getElem_mem ha1)) (by omega) (by omega) (fun i j h1 h2 h3=>ub i j h2 (by omega)) fun k2 hkn2 q5 q6=>?_)))
       dsimp only
       rw[<- K_get (rk:=rk) ha1]at q5 q6
       have m3:Mg rk a.toList b.toList (out1.push b[kb]++b.extract (kb+1) (kb+1+k2)).toList ka1 (kb+1+k2):=by
        rw[Array.toList_append,ext_some,show kb+1+k2 - (kb+1)=k2 by omega]
        refine m2.takeB pb k2 fun x hx y hy=>?_
        obtain⟨j,hj1,hj2,e1⟩:=mem_dt (rk:=rk) hx
        obtain⟨i,hi1,hi2,e2⟩:=mem_d (rk:=rk) hy
        rw[e1,e2]
        exact Nat.le_trans (Nat.le_of_lt (q5 j hj1)) (ua ka1 i hi1 hi2)
       have q7:kb+1+k2 < b.size->K rk a ka1<=K rk b (kb+1+k2):=fun hz=>q6 k2 (Nat.le_refl _) (by omega)
       have q8:k2=0->out1.push b[kb]++b.extract (kb+1) (kb+1+k2)=out1.push b[kb]:=fun e=>by
        subst e;rw[Nat.add_zero,Array.extract_empty_of_stop_le_start (Nat.le_refl _)];simp
       by_cases hk2:k2 > 0
       ·rw[if_pos hk2]
        by_cases he3:kb+1+k2=b.size
        ·rw[if_pos (by simpa using he3)]
         obtain⟨p,r⟩:=done _ ka1 (kb+1+k2) m3 he3
         exact wpS_pure (.inr ⟨_,_,_,rfl,rfl,p,r⟩)
        rw[if_neg (by simpa using he3)]
        refine wpS_bind (wpS_elem ha1 ?_)
        have m4:=pushA _ ka1 _ ha1 m3 q7
        by_cases he4:ka1+1+1=a.size
        ·rw[if_pos (by simpa using he4)]
         obtain⟨p,r⟩:=lastA _ (ka1+1) _ m4 he4
         exact wpS_pure (.inr ⟨_,_,_,rfl,rfl,p,r⟩)
        rw[if_neg (by simpa using he4)]
        split
        ·exact wpS_pure (.inl ⟨_,_,_,_,_,_,_,rfl,rfl,m4,by omega,by omega,by omega⟩)
        ·exact wpS_pure ⟨_,_,_,_,_,_,_,rfl,rfl,m4,by omega,by omega,by omega⟩
       ·rw[if_neg hk2]
        have hkz2:k2=0:=by omega
        rw[q8 hkz2,hkz2,Nat.add_zero]at m3
        rw[hkz2,Nat.add_zero]at q7
        refine wpS_bind (wpS_elem ha1 ?_)
        have m4:=pushA _ ka1 _ ha1 m3 q7
        by_cases he4:ka1+1+1=a.size
        ·rw[if_pos (by simpa using he4)]
         obtain⟨p,r⟩:=lastA _ (ka1+1) _ m4 he4
         exact wpS_pure (.inr ⟨_,_,_,rfl,rfl,p,r⟩)
        rw[if_neg (by simpa using he4)]
        split
        ·exact wpS_pure (.inl ⟨_,_,_,_,_,_,_,rfl,rfl,m4,by omega,by omega,by omega⟩)
        ·exact wpS_pure ⟨_,_,_,_,_,_,_,rfl,rfl,m4,by omega,by omega,by omega⟩
      ·rw[if_neg hk0]
       have hkz:k=0:=by omega
       rw[q4 hkz,hkz,Nat.add_zero]at m1
       rw[hkz,Nat.add_zero]at q3
       have h10:ka+1 < a.size:=by omega
       have h11:ka<=ka:=Nat.le_refl _
       clear q4 m
       generalize hout1:out=out1 at m1 ⊢
       generalize hka1:ka=ka1 at m1 q3 h10 ⊢
       replace h11:ka<=ka1:=by omega
       refine wpS_bind (wpS_elem h8 ?_)
       have m2:=pushB out1 ka1 kb h8 m1 fun _=>q3
       by_cases he2:kb+1=b.size
       ·rw[if_pos (by simpa using he2)]
        obtain⟨p,r⟩:=done _ ka1 (kb+1) m2 he2
        exact wpS_pure (.inr ⟨_,_,_,rfl,rfl,p,r⟩)
       rw[if_neg (by simpa using he2)]
       have ha1:ka1 < a.size:=by omega
       refine wpS_bind (wpS_elem ha1 (wpS_bind (galL L hk hSb (hSa _ (Array.getElem_mem ha1)) (by omega) (by omega) (fun i j h1 h2 h3=>ub i j h2 (by omega)) fun k2 hkn2 q5 q6=>?_)))
       dsimp only
       rw[<- K_get (rk:=rk) ha1]at q5 q6
       have m3:Mg rk a.toList b.toList (out1.push b[kb]++b.extract (kb+1) (kb+1+k2)).toList ka1 (kb+1+k2):=by
        rw[Array.toList_append,ext_some,show kb+1+k2 - (kb+1)=k2 by omega]
        refine m2.takeB pb k2 fun x hx y hy=>?_
        obtain⟨j,hj1,hj2,e1⟩:=mem_dt (rk:=rk) hx
        obtain⟨i,hi1,hi2,e2⟩:=mem_d (rk:=rk) hy
        rw[e1,e2]
        exact Nat.le_trans (Nat.le_of_lt (q5 j hj1)) (ua ka1 i hi1 hi2)
       have q7:kb+1+k2 < b.size->K rk a ka1<=K rk b (kb+1+k2):=fun hz=>q6 k2 (Nat.le_refl _) (by omega)
       have q8:k2=0->out1.push b[kb]++b.extract (kb+1) (kb+1+k2)=out1.push b[kb]:=fun e=>by
        subst e;rw[Nat.add_zero,Array.extract_empty_of_stop_le_start (Nat.le_refl _)];simp
       by_cases hk2:k2 > 0
       ·rw[if_pos hk2]
        by_cases he3:kb+1+k2=b.size
        ·rw[if_pos (by simpa using he3)]
         obtain⟨p,r⟩:=done _ ka1 (kb+1+k2) m3 he3
         exact wpS_pure (.inr ⟨_,_,_,rfl,rfl,p,r⟩)
        rw[if_neg (by simpa using he3)]
        refine wpS_bind (wpS_elem ha1 ?_)
        have m4:=pushA _ ka1 _ ha1 m3 q7
        by_cases he4:ka1+1+1=a.size
        ·rw[if_pos (by simpa using he4)]
         obtain⟨p,r⟩:=lastA _ (ka1+1) _ m4 he4
         exact wpS_pure (.inr ⟨_,_,_,rfl,rfl,p,r⟩)
        rw[if_neg (by simpa using he4)]
        split
        ·exact wpS_pure (.inl ⟨_,_,_,_,_,_,_,rfl,rfl,m4,by omega,by omega,by omega⟩)
        ·exact wpS_pure ⟨_,_,_,_,_,_,_,rfl,rfl,m4,by omega,by omega,by omega⟩
       ·rw[if_neg hk2]
        have hkz2:k2=0:=by omega
        rw[q8 hkz2,hkz2,Nat.add_zero]at m3
        rw[hkz2,Nat.add_zero]at q7
        refine wpS_bind (wpS_elem ha1 ?_)
        have m4:=pushA _ ka1 _ ha1 m3 q7
        by_cases he4:ka1+1+1=a.size
        ·rw[if_pos (by simpa using he4)]
         obtain⟨p,r⟩:=lastA _ (ka1+1) _ m4 he4
         exact wpS_pure (.inr ⟨_,_,_,rfl,rfl,p,r⟩)
        rw[if_neg (by simpa using he4)]
        split
        ·exact wpS_pure (.inl ⟨_,_,_,_,_,_,_,rfl,rfl,m4,by omega,by omega,by omega⟩)
        ·exact wpS_pure ⟨_,_,_,_,_,_,_,rfl,rfl,m4,by omega,by omega,by omega⟩
     ·rw[if_neg hg]
      generalize g=g1
      refine wpS_bind (wpS_modify ?_)
      refine wpS_bind (wpS_elem h8 (wpS_bind (galR L hk hSa (hSb _ (Array.getElem_mem h8)) (by omega) (by omega) (fun i j h1 h2 h3=>ua i j h2 (by omega)) fun k hkn q1 q2=>?_)))
      dsimp only
      rw[<- K_get (rk:=rk) h8]at q1 q2
      have hlt:ka+k < a.size:=by
       by_cases hz:ka+k < a.size
       ·exact hz
       ·have z1:=q1 (a.size - 1 - ka) (by omega)
        rw[show ka+(a.size - 1 - ka)=a.size - 1 by omega]at z1
        have z2:=hl kb h8
        omega
      have m1:Mg rk a.toList b.toList (out++a.extract ka (ka+k)).toList (ka+k) kb:=by
       rw[Array.toList_append,ext_some,show ka+k - ka=k by omega]
       refine m.takeA pa k fun x hx y hy=>?_
       obtain⟨j,hj1,hj2,e1⟩:=mem_dt (rk:=rk) hx
       obtain⟨i,hi1,hi2,e2⟩:=mem_d (rk:=rk) hy
       rw[e1,e2]
       exact Nat.le_trans (q1 j hj1) (ub kb i hi1 hi2)
      have q3:K rk b kb<=K rk a (ka+k):=Nat.le_of_lt (q2 k (Nat.le_refl _) (by omega))
      have q4:k=0->out++a.extract ka (ka+k)=out:=fun e=>by
       subst e;rw[Nat.add_zero,Array.extract_empty_of_stop_le_start (Nat.le_refl _)];simp
      by_cases hk0:k > 0
      ·rw[if_pos hk0]
       by_cases he:ka+k+1=a.size
       ·rw[if_pos (by simpa using he)]
        obtain⟨p,r⟩:=lastA _ (ka+k) kb m1 he
        exact wpS_pure (.inr ⟨_,_,_,rfl,rfl,p,r⟩)
       rw[if_neg (by simpa using he),if_neg (by simp;omega)]
       have h10:ka+k+1 < a.size:=by omega
       have h11:ka<=ka+k:=by omega
       generalize out++a.extract ka (ka+k)=out1 at m1 ⊢
       generalize ka+k=ka1 at m1 q3 h10 h11 ⊢
       clear q4 m
       refine wpS_bind (wpS_elem h8 ?_)
       have m2:=pushB out1 ka1 kb h8 m1 fun _=>q3
       by_cases he2:kb+1=b.size
       ·rw[if_pos (by simpa using he2)]
        obtain⟨p,r⟩:=done _ ka1 (kb+1) m2 he2
        exact wpS_pure (.inr ⟨_,_,_,rfl,rfl,p,r⟩)
       rw[if_neg (by simpa using he2)]
       have ha1:ka1 < a.size:=by omega
       refine wpS_bind (wpS_elem ha1 (wpS_bind (galL L hk hSb (hSa _ (Array.getElem_mem ha1)) (by omega) (by omega) (fun i j h1 h2 h3=>ub i j h2 (by omega)) fun k2 hkn2 q5 q6=>?_)))
       dsimp only
       rw[<- K_get (rk:=rk) ha1]at q5 q6
       have m3:Mg rk a.toList b.toList (out1.push b[kb]++b.extract (kb+1) (kb+1+k2)).toList ka1 (kb+1+k2):=by
        rw[Array.toList_append,ext_some,show kb+1+k2 - (kb+1)=k2 by omega]
        refine m2.takeB pb k2 fun x hx y hy=>?_
        obtain⟨j,hj1,hj2,e1⟩:=mem_dt (rk:=rk) hx
        obtain⟨i,hi1,hi2,e2⟩:=mem_d (rk:=rk) hy
        rw[e1,e2]
        exact Nat.le_trans (Nat.le_of_lt (q5 j hj1)) (ua ka1 i hi1 hi2)
       have q7:kb+1+k2 < b.size->K rk a ka1<=K rk b (kb+1+k2):=fun hz=>q6 k2 (Nat.le_refl _) (by omega)
       have q8:k2=0->out1.push b[kb]++b.extract (kb+1) (kb+1+k2)=out1.push b[kb]:=fun e=>by
        subst e;rw[Nat.add_zero,Array.extract_empty_of_stop_le_start (Nat.le_refl _)];simp
       by_cases hk2:k2 > 0
       ·rw[if_pos hk2]
        by_cases he3:kb+1+k2=b.size
        ·rw[if_pos (by simpa using he3)]
         obtain⟨p,r⟩:=done _ ka1 (kb+1+k2) m3 he3
         exact wpS_pure (.inr ⟨_,_,_,rfl,rfl,p,r⟩)
        rw[if_neg (by simpa using he3)]
        refine wpS_bind (wpS_elem ha1 ?_)
        have m4:=pushA _ ka1 _ ha1 m3 q7
        by_cases he4:ka1+1+1=a.size
        ·rw[if_pos (by simpa using he4)]
         obtain⟨p,r⟩:=lastA _ (ka1+1) _ m4 he4
         exact wpS_pure (.inr ⟨_,_,_,rfl,rfl,p,r⟩)
        rw[if_neg (by simpa using he4)]
        split
        ·exact wpS_pure (.inl ⟨_,_,_,_,_,_,_,rfl,rfl,m4,by omega,by omega,by omega⟩)
        ·exact wpS_pure ⟨_,_,_,_,_,_,_,rfl,rfl,m4,by omega,by omega,by omega⟩
       ·rw[if_neg hk2]
        have hkz2:k2=0:=by omega
        rw[q8 hkz2,hkz2,Nat.add_zero]at m3
        rw[hkz2,Nat.add_zero]at q7
        refine wpS_bind (wpS_elem ha1 ?_)
        have m4:=pushA _ ka1 _ ha1 m3 q7
        by_cases he4:ka1+1+1=a.size
        ·rw[if_pos (by simpa using he4)]
         obtain⟨p,r⟩:=lastA _ (ka1+1) _ m4 he4
         exact wpS_pure (.inr ⟨_,_,_,rfl,rfl,p,r⟩)
        rw[if_neg (by simpa using he4)]
        split
        ·exact wpS_pure (.inl ⟨_,_,_,_,_,_,_,rfl,rfl,m4,by omega,by omega,by omega⟩)
        ·exact wpS_pure ⟨_,_,_,_,_,_,_,rfl,rfl,m4,by omega,by omega,by omega⟩
      ·rw[if_neg hk0]
       have hkz:k=0:=by omega
       rw[q4 hkz,hkz,Nat.add_zero]at m1
       rw[hkz,Nat.add_zero]at q3
       have h10:ka+1 < a.size:=by omega
       have h11:ka<=ka:=Nat.le_refl _
       clear q4 m
       generalize hout1:out=out1 at m1 ⊢
       generalize hka1:ka=ka1 at m1 q3 h10 ⊢
       replace h11:ka<=ka1:=by omega
       refine wpS_bind (wpS_elem h8 ?_)
       have m2:=pushB out1 ka1 kb h8 m1 fun _=>q3
       by_cases he2:kb+1=b.size
       ·rw[if_pos (by simpa using he2)]
        obtain⟨p,r⟩:=done _ ka1 (kb+1) m2 he2
        exact wpS_pure (.inr ⟨_,_,_,rfl,rfl,p,r⟩)
       rw[if_neg (by simpa using he2)]
       have ha1:ka1 < a.size:=by omega
       refine wpS_bind (wpS_elem ha1 (wpS_bind (galL L hk hSb (hSa _ (Array.getElem_mem ha1)) (by omega) (by omega) (fun i j h1 h2 h3=>ub i j h2 (by omega)) fun k2 hkn2 q5 q6=>?_)))
       dsimp only
       rw[<- K_get (rk:=rk) ha1]at q5 q6
       have m3:Mg rk a.toList b.toList (out1.push b[kb]++b.extract (kb+1) (kb+1+k2)).toList ka1 (kb+1+k2):=by
        rw[Array.toList_append,ext_some,show kb+1+k2 - (kb+1)=k2 by omega]
        refine m2.takeB pb k2 fun x hx y hy=>?_
        obtain⟨j,hj1,hj2,e1⟩:=mem_dt (rk:=rk) hx
        obtain⟨i,hi1,hi2,e2⟩:=mem_d (rk:=rk) hy
        rw[e1,e2]
        exact Nat.le_trans (Nat.le_of_lt (q5 j hj1)) (ua ka1 i hi1 hi2)
       have q7:kb+1+k2 < b.size->K rk a ka1<=K rk b (kb+1+k2):=fun hz=>q6 k2 (Nat.le_refl _) (by omega)
       have q8:k2=0->out1.push b[kb]++b.extract (kb+1) (kb+1+k2)=out1.push b[kb]:=fun e=>by
        subst e;rw[Nat.add_zero,Array.extract_empty_of_stop_le_start (Nat.le_refl _)];simp
       by_cases hk2:k2 > 0
       ·rw[if_pos hk2]
        by_cases he3:kb+1+k2=b.size
        ·rw[if_pos (by simpa using he3)]
         obtain⟨p,r⟩:=done _ ka1 (kb+1+k2) m3 he3
         exact wpS_pure (.inr ⟨_,_,_,rfl,rfl,p,r⟩)
        rw[if_neg (by simpa using he3)]
        refine wpS_bind (wpS_elem ha1 ?_)
        have m4:=pushA _ ka1 _ ha1 m3 q7
        by_cases he4:ka1+1+1=a.size
        ·rw[if_pos (by simpa using he4)]
         obtain⟨p,r⟩:=lastA _ (ka1+1) _ m4 he4
         exact wpS_pure (.inr ⟨_,_,_,rfl,rfl,p,r⟩)
        rw[if_neg (by simpa using he4)]
        split
        ·exact wpS_pure (.inl ⟨_,_,_,_,_,_,_,rfl,rfl,m4,by omega,by omega,by omega⟩)
        ·exact wpS_pure ⟨_,_,_,_,_,_,_,rfl,rfl,m4,by omega,by omega,by omega⟩
       ·rw[if_neg hk2]
        have hkz2:k2=0:=by omega
        rw[q8 hkz2,hkz2,Nat.add_zero]at m3
        rw[hkz2,Nat.add_zero]at q7
        refine wpS_bind (wpS_elem ha1 ?_)
        have m4:=pushA _ ka1 _ ha1 m3 q7
        by_cases he4:ka1+1+1=a.size
        ·rw[if_pos (by simpa using he4)]
         obtain⟨p,r⟩:=lastA _ (ka1+1) _ m4 he4
         exact wpS_pure (.inr ⟨_,_,_,rfl,rfl,p,r⟩)
        rw[if_neg (by simpa using he4)]
        split
        ·exact wpS_pure (.inl ⟨_,_,_,_,_,_,_,rfl,rfl,m4,by omega,by omega,by omega⟩)
        ·exact wpS_pure ⟨_,_,_,_,_,_,_,rfl,rfl,m4,by omega,by omega,by omega⟩
   ·exact wpS_pure ⟨r,g',_,rfl,rfl,p,q⟩
end
end SortB
end
section
namespace SortB
open PySem PySem.W PyProof.Rows
structure Mh(rk:Keyed->Nat)(la lb R:List Keyed)(na nb:Nat):Prop where
 perm:R.Perm (la.drop na++lb.drop nb)
 pw:Rs rk R
 ra:∀ x∈la.take na,∀ y∈R,rk x<=rk y
 rb:∀ x∈lb.take nb,∀ y∈R,rk x<=rk y
section
variable{rk:Keyed->Nat}{la lb R:List Keyed}{na nb k:Nat}
theorem Mh.swap(m:Mh rk la lb R na nb):Mh rk lb la R nb na:=⟨m.perm.trans List.perm_append_comm,m.pw,m.rb,m.ra⟩
theorem drop_mid{l:List Keyed}{k n:Nat}(h:k<=n):l.drop k=(l.drop k).take (n - k)++l.drop n:=by
 have e:l.drop n=(l.drop k).drop (n - k):=by rw[List.drop_drop];congr 1;omega
 rw[e,List.take_append_drop]
theorem take_mid{l:List Keyed}{k n:Nat}(h:k<=n):l.take n=l.take k++(l.drop k).take (n - k):=by
 have e:n=k+(n - k):=by omega
 rw[e,List.take_add]
 congr 2
 omega
theorem Mh.takeA(m:Mh rk la lb R na nb)(pa:Rs rk la)(k:Nat)(hk:k<=na)(h:∀ x∈lb.take nb,∀ y∈(la.drop k).take (na - k),rk x<=rk y):Mh rk la lb ((la.drop k).take (na - k)++R) k nb:=by
 have pt:Rs rk (la.take na):=pa.sublist (List.take_sublist _ _)
 have ps:=take_mid (l:=la) hk
 rw[ps]at pt
 obtain⟨_,p2,p3⟩:=List.pairwise_append.mp pt
 have sub:∀ y∈(la.drop k).take (na - k),y∈la.take na:=fun y hy=>by rw[ps];exact List.mem_append_right _ hy
 refine⟨?_,?_,?_,?_⟩
 ·refine(m.perm.append_left _).trans (List.Perm.of_eq ?_)
  rw[<- List.append_assoc,<- drop_mid hk]
 ·exact List.pairwise_append.mpr ⟨p2,m.pw,fun x hx y hy=>m.ra x (sub x hx) y hy⟩
 ·intro x hx y hy
  rcases List.mem_append.mp hy with hy | hy
  ·exact p3 x hx y hy
  ·exact m.ra x (by rw[ps];exact List.mem_append_left _ hx) y hy
 ·intro x hx y hy
  rcases List.mem_append.mp hy with hy | hy
  ·exact h x hx y hy
  ·exact m.rb x hx y hy
theorem Mh.takeB(m:Mh rk la lb R na nb)(pb:Rs rk lb)(k:Nat)(hk:k<=nb)(h:∀ x∈la.take na,∀ y∈(lb.drop k).take (nb - k),rk x<=rk y):Mh rk la lb ((lb.drop k).take (nb - k)++R) na k:=(m.swap.takeA pb k hk h).swap
theorem Mh.doneB(m:Mh rk la lb R na nb)(pa:Rs rk la)(pb:Rs rk lb)(h:∀ x∈lb.take nb,∀ y∈la.take na,rk x<=rk y):(lb.take nb++la.take na++R).Perm (la++lb)/\Rs rk (lb.take nb++la.take na++R):=by
 have m1:=m.takeA pa 0 (Nat.zero_le _) (by simpa using h)
 have m2:=m1.takeB pb 0 (Nat.zero_le _) (by simp)
 have e:((lb.drop 0).take (nb - 0)++((la.drop 0).take (na - 0)++R))=lb.take nb++la.take na++R:=by simp
 rw[e]at m2
 exact⟨by simpa using m2.perm,m2.pw⟩
theorem Mh.done(m:Mh rk la lb R na nb)(pa:Rs rk la)(pb:Rs rk lb)(h:∀ x∈la.take na,∀ y∈lb.take nb,rk x<=rk y):(la.take na++lb.take nb++R).Perm (la++lb)/\Rs rk (la.take na++lb.take nb++R):=by
 obtain⟨a,b⟩:=m.swap.doneB pb pa h
 exact⟨a.trans List.perm_append_comm,b⟩
end
section
variable{rk:Keyed->Nat}{a:Array Keyed}{i j k n:Nat}{x:Keyed}
theorem ext_pre(a:Array Keyed)(n:Nat):(a.extract 0 n).toList=a.toList.take n:=by rw[ext_some];simp
theorem mem_t(h:x∈a.toList.take n):∃ j,j < n/\j < a.size/\rk x=K rk a j:=by
 obtain⟨j,h1,h2,e⟩:=mem_dt (rk:=rk) (i:=0) (a:=a) (k:=n) (by simpa using h)
 exact⟨j,h1,by omega,by rw[e];congr 1;omega⟩
end
section
variable{prog:Program}{w:World}{A:Around}{E:Value->Shared->Prop}{s:Shared}{κ:SortKind}{rk:Keyed->Nat}{S:Keyed->Prop}
theorem mergeHi_ok(L:LtOk prog w A E s κ rk S){st:SortSt}{a b:Array Keyed}{Q:Array Keyed->SortSt->Prop}(hk:kindOf st=κ)(hSa:∀ x∈a,S x)(hSb:∀ x∈b,S x)(na:0 < a.size)(nb:0 < b.size)(pa:Rs rk a.toList)(pb:Rs rk b.toList)
 (h0:K rk b 0 < K rk a 0) (hl:∀ i,i < b.size->K rk b i < K rk a (a.size - 1)) (h:∀ out g,out.toList.Perm (a.toList++b.toList)->Rs rk out.toList->Q out (setG st g)):wpS (model prog w) A E s (mergeHi' a b) Q st:=by
 have ua:∀ i j,i<=j->j < a.size->K rk a i<=K rk a j:=fun i j h1 h2=>pa.le h1 h2
 have ub:∀ i j,i<=j->j < b.size->K rk b i<=K rk b j:=fun i j h1 h2=>pb.le h1 h2
 have nl:a.size - 1 < a.size:=by omega
 have m0:Mh rk a.toList b.toList (#[a[a.size - 1]]:Array Keyed).toList.reverse (a.size - 1) b.size:=by
  have e1:a.toList.drop (a.size - 1)=[a[a.size - 1]]:=by
   have:=take_one nl
   rwa [List.take_of_length_le (by simp;omega)]at this
  refine⟨by rw[e1];simp,by simp,fun x hx y hy=>?_,fun x hx y hy=>?_⟩
  ·obtain⟨j,_,hj,e⟩:=mem_t (rk:=rk) hx
   have:y=a[a.size - 1]:=by simpa using hy
   rw[this,e,<- K_get (rk:=rk) nl]
   exact ua j _ (by omega) (by omega)
  ·obtain⟨j,_,hj,e⟩:=mem_t (rk:=rk) hx
   have:y=a[a.size - 1]:=by simpa using hy
   rw[this,e,<- K_get (rk:=rk) nl]
   exact Nat.le_of_lt (hl j hj)
 have done:∀ (out:Array Keyed) (ia ib:Nat),Mh rk a.toList b.toList out.toList.reverse ia ib->ia=0->(a.extract 0 ia++b.extract 0 ib++out.reverse).toList.Perm (a.toList++b.toList)/\Rs rk (a.extract 0 ia++b.extract 0 ib++out.reverse).toList:=fun out ia ib m e=>by
  rw[Array.toList_append,Array.toList_append,ext_pre,ext_pre,Array.toList_reverse]
  exact m.done pa pb fun x hx y _=>by
   obtain⟨j,h1,h2,_⟩:=mem_t (rk:=rk) hx
   omega
 have lastB:∀ (out:Array Keyed) (ia ib:Nat),Mh rk a.toList b.toList out.toList.reverse ia ib->ib=1->(b.extract 0 ib++a.extract 0 ia++out.reverse).toList.Perm (a.toList++b.toList)/\Rs rk (b.extract 0 ib++a.extract 0 ia++out.reverse).toList:=fun out ia ib m e=>by
  rw[Array.toList_append,Array.toList_append,ext_pre,ext_pre,Array.toList_reverse]
  exact m.doneB pa pb fun x hx y hy=>by
   obtain⟨j,h1,h2,e1⟩:=mem_t (rk:=rk) hx
   obtain⟨i,h3,h4,e2⟩:=mem_t (rk:=rk) hy
   have:j=0:=by omega
   rw[e1,e2,this]
   exact Nat.le_trans (Nat.le_of_lt h0) (ua 0 i (by omega) h4)
 have pushA:∀ (out:Array Keyed) (ia ib:Nat) (hi:ia < a.size),Mh rk a.toList b.toList out.toList.reverse (ia+1) ib->ib<=b.size->(0 < ib->K rk b (ib - 1)<=K rk a ia)->Mh rk a.toList b.toList (out.push a[ia]).toList.reverse ia ib:=fun out ia ib hi m hib hle=>by
  have:=m.takeA pa ia (by omega) fun x hx y hy=>by
   obtain⟨j,h1,h2,e1⟩:=mem_t (rk:=rk) hx
   obtain⟨i,h3,h4,e2⟩:=mem_dt (rk:=rk) hy
   have:i=0:=by omega
   subst this
   rw[e1,e2]
   exact Nat.le_trans (ub j (ib - 1) (by omega) (by omega)) (hle (by omega))
  rw[show ia+1 - ia=1 by omega,take_one hi]at this
  rw[Array.toList_push,List.reverse_append]
  exact this
 replace pushA:∀ (out:Array Keyed) (ia ib:Nat) (hi:ia - 1 < a.size),0 < ia->Mh rk a.toList b.toList out.toList.reverse ia ib->ib<=b.size->(0 < ib->K rk b (ib - 1)<=K rk a (ia - 1))->Mh rk a.toList b.toList (out.push a[ia - 1]).toList.reverse (ia - 1) ib:=fun out ia ib hi h0 m h1 h2=>pushA out (ia - 1) ib hi (by rw[Nat.sub_add_cancel h0];exact m) h1 h2
 have pushB:∀ (out:Array Keyed) (ia ib:Nat) (hi:ib < b.size),Mh rk a.toList b.toList out.toList.reverse ia (ib+1)->ia<=a.size->(0 < ia->K rk a (ia - 1)<=K rk b ib)->Mh rk a.toList b.toList (out.push b[ib]).toList.reverse ia ib:=fun out ia ib hi m hia hle=>by
  have:=m.takeB pb ib (by omega) fun x hx y hy=>by
   obtain⟨j,h1,h2,e1⟩:=mem_t (rk:=rk) hx
   obtain⟨i,h3,h4,e2⟩:=mem_dt (rk:=rk) hy
   have:i=0:=by omega
   subst this
   rw[e1,e2]
   exact Nat.le_trans (ua j (ia - 1) (by omega) (by omega)) (hle (by omega))
  rw[show ib+1 - ib=1 by omega,take_one hi]at this
  rw[Array.toList_push,List.reverse_append]
  exact this
 replace pushB:∀ (out:Array Keyed) (ia ib:Nat) (hi:ib - 1 < b.size),0 < ib->Mh rk a.toList b.toList out.toList.reverse ia ib->ia<=a.size->(0 < ia->K rk a (ia - 1)<=K rk b (ib - 1))->Mh rk a.toList b.toList (out.push b[ib - 1]).toList.reverse ia (ib - 1):=fun out ia ib hi h0 m h1 h2=>pushB out ia (ib - 1) hi (by rw[Nat.sub_add_cancel h0];exact m) h1 h2
 refine wpS_bind (wpS_lift (wpAny_rule ⟨rfl,?_⟩))
 refine wpS_bind (wpS_elem nl ?_)
 dsimp only
 by_cases ha1:a.size - 1=0
 ·rw[if_pos (by simpa using ha1)]
  obtain⟨p,r⟩:=done _ _ b.size m0 ha1
  exact wpS_pure (h _ (gallopOf st) p r)
 rw[if_neg (by simpa using ha1)]
 by_cases hb1:b.size=1
 ·rw[if_pos (by simpa using hb1)]
  obtain⟨p,r⟩:=lastB _ (a.size - 1) b.size m0 hb1
  exact wpS_pure (h _ (gallopOf st) p r)
 rw[if_neg (by simpa using hb1)]
 refine wpS_bind (wpS_get (wpS_bind (wpS_mono (wpS_forRange
  (I:=fun x c st'=>∃ ia ib out g g',c=(none,ia,ib,out,g)/\st'=setG st g'/\Mh rk a.toList b.toList (out:Array Keyed).toList.reverse ia ib/\0 < ia/\ia < a.size/\1 < ib/\ib<=b.size/\x+(ia+ib)<=a.size+b.size)
  (Q:=fun c st'=>∃ r g' z,c=(some r,z)/\st'=setG st g'/\(r:Array Keyed).toList.Perm (a.toList++b.toList)/\Rs rk r.toList) ?step ?fin ⟨_,_,_,_,gallopOf st,rfl,rfl,m0,by omega,by omega,by omega,by omega,by omega⟩) ?post)))
 case post =>
  rintro c st' ⟨r,g',z,rfl,rfl,p,q⟩
  exact wpS_pure (h r g' p q)
 case fin =>
  rintro c st' ⟨ia,ib,out,g,g',rfl,rfl,m,h1,h2,h3,h4,h5⟩
  omega
 case step =>
  rintro x c st' _ hx ⟨ia,ib,out,g,g',rfl,rfl,m,h1,h2,h3,h3',h3x⟩
  dsimp only
  refine wpS_bind (wpS_mono (wpS_forRange
   (I:=fun y c st'=>st'=setG st g'/\∃ ja jb out ac bc,c=(none,ja,jb,out,ac,bc)/\Mh rk a.toList b.toList (out:Array Keyed).toList.reverse ja jb/\0 < ja/\ja < a.size/\1 < jb/\jb<=b.size/\y+(ja+jb)<=ia+ib)
   (Q:=fun c st'=>st'=setG st g'/\((∃ ja jb out ac bc,c=(none,ja,jb,out,ac,bc)/\Mh rk a.toList b.toList (out:Array Keyed).toList.reverse ja jb/\0 < ja/\ja < a.size/\1 < jb/\jb<=b.size/\ja+jb<=ia+ib)\/∃ r z,c=(some r,z)/\(r:Array Keyed).toList.Perm (a.toList++b.toList)/\Rs rk r.toList)) ?istep ?ifin ⟨rfl,ia,ib,out,0,0,rfl,m,h1,h2,h3,h3',by omega⟩) ?ipost)
  case ifin =>
   rintro c st' ⟨rfl,ja,jb,out,ac,bc,rfl,m,h4,h5,h6,h6',h6x⟩
   omega
  case istep =>
   rintro y c st' _ hy ⟨rfl,ja,jb,out,ac,bc,rfl,m,h4,h5,h6,h6',h6x⟩
   dsimp only
   have ja1:ja - 1 < a.size:=by omega
   have jb1:jb - 1 < b.size:=by omega
   refine wpS_bind (wpS_elem jb1 (wpS_bind (wpS_elem ja1 (wpS_bind (L _ _ _ _ hk (hSb _ (Array.getElem_mem jb1)) (hSa _ (Array.getElem_mem ja1)) ?_)))))
   by_cases hw:rk b[jb - 1] < rk a[ja - 1]
   ·have m1:=pushA out ja jb ja1 h4 m h6' fun _=>by rw[K_get jb1,K_get ja1];exact Nat.le_of_lt hw
    simp only[hw,decide_true,if_true]
    refine wpS_bind (wpS_elem ja1 ?_)
    by_cases he:ja - 1=0
    ·rw[if_pos (by simpa using he)]
     exact wpS_pure ⟨rfl,.inr ⟨_,_,rfl,done _ (ja - 1) jb m1 he⟩⟩
    ·rw[if_neg (by simpa using he)]
     by_cases hc:ac+1 >= g
     ·rw[if_pos hc]
      exact wpS_pure ⟨rfl,.inl ⟨_,_,_,_,_,rfl,m1,by omega,by omega,h6,h6',by omega⟩⟩
     ·rw[if_neg hc]
      exact wpS_pure ⟨rfl,_,_,_,_,_,rfl,m1,by omega,by omega,h6,h6',by omega⟩
   ·have m1:=pushB out ja jb jb1 (by omega) m (by omega) fun _=>by rw[K_get jb1,K_get ja1];omega
    simp only[hw,decide_false,Bool.false_eq_true,if_false]
    refine wpS_bind (wpS_elem jb1 ?_)
    by_cases he:jb - 1=1
    ·rw[if_pos (by simpa using he)]
     exact wpS_pure ⟨rfl,.inr ⟨_,_,rfl,lastB _ ja (jb - 1) m1 he⟩⟩
    ·rw[if_neg (by simpa using he)]
     by_cases hc:bc+1 >= g
     ·rw[if_pos hc]
      exact wpS_pure ⟨rfl,.inl ⟨_,_,_,_,_,rfl,m1,h4,h5,by omega,by omega,by omega⟩⟩
     ·rw[if_neg hc]
      exact wpS_pure ⟨rfl,_,_,_,_,_,rfl,m1,h4,h5,by omega,by omega,by omega⟩
  case ipost =>
   rintro c st' ⟨rfl,⟨ja,jb,out,ac,bc,rfl,m,h4,h5,h6,h6',h6x⟩ | ⟨r,z,rfl,p,q⟩⟩
   ·dsimp only
    refine wpS_bind (wpS_lift (wpAny_rule ⟨rfl,?_⟩))
    refine wpS_bind (wpS_mono (wpS_forRange
     (I:=fun y c st'=>∃ ka kb out g g' ac bc,c=(none,ka,kb,out,g,ac,bc)/\st'=setG st g'/\Mh rk a.toList b.toList (out:Array Keyed).toList.reverse ka kb/\0 < ka/\ka < a.size/\1 < kb/\kb<=b.size/\y+(ka+kb)<=ja+jb)
     (Q:=fun c st'=>(∃ ka kb out g g' ac bc,c=(none,ka,kb,out,g,ac,bc)/\st'=setG st g'/\Mh rk a.toList b.toList (out:Array Keyed).toList.reverse ka kb/\0 < ka/\ka < a.size/\1 < kb/\kb<=b.size/\ka+kb+1<=ja+jb)\/∃ r z g',c=(some r,z)/\st'=setG st g'/\(r:Array Keyed).toList.Perm (a.toList++b.toList)/\Rs rk r.toList) ?jstep ?jfin ⟨ja,jb,out,_,g',ac,bc,rfl,rfl,m,h4,h5,h6,h6',by omega⟩) ?jpost)
    case jfin =>
     rintro c st' ⟨ka,kb,out,g,g',ac,bc,rfl,rfl,m,h7,h8,h9,h9',h9x⟩
     omega
    case jpost =>
     rintro c st' (⟨ka,kb,out,g,g',ac,bc,rfl,rfl,m,h7,h8,h9,h9',h9x⟩ | ⟨r,z,g',rfl,rfl,p,q⟩)
     ·dsimp only
      refine wpS_bind (wpS_modify (wpS_pure ⟨ka,kb,out,_,g+1,rfl,rfl,m,h7,h8,h9,h9',by omega⟩))
     ·exact wpS_pure ⟨r,g',_,rfl,rfl,p,q⟩
    case jstep =>
     rintro y c st' _ hy ⟨ka,kb,out,g,g',ac,bc,rfl,rfl,m,h7,h8,h9,h9',h9x⟩
     have kb1:kb - 1 < b.size:=by omega
     dsimp only
     by_cases hg:g > 1
     ·rw[if_pos hg]
      generalize g - 1=g1
      refine wpS_bind (wpS_modify ?_)
      refine wpS_bind (wpS_elem kb1 (wpS_bind (galR L hk hSa (hSb _ (Array.getElem_mem kb1)) (by omega) (by omega) (fun i j h1 h2 h3=>ua i j h2 (by omega)) fun at1 hkn q1 q2=>?_)))
      dsimp only
      rw[<- K_get (rk:=rk) kb1]at q1 q2
      simp only[Nat.zero_add]at q1 q2
      have m1:Mh rk a.toList b.toList (out++(a.extract at1 ka).reverse).toList.reverse at1 kb:=by
       rw[Array.toList_append,List.reverse_append,Array.toList_reverse,List.reverse_reverse,ext_some]
       refine m.takeA pa at1 hkn fun x hx y hy=>?_
       obtain⟨j,hj1,hj2,e1⟩:=mem_t (rk:=rk) hx
       obtain⟨i,hi1,hi2,e2⟩:=mem_dt (rk:=rk) hy
       rw[e1,e2]
       exact Nat.le_trans (ub j (kb - 1) (by omega) kb1) (Nat.le_of_lt (q2 (at1+i) (by omega) (by omega)))
      have q3:0 < at1->K rk a (at1 - 1)<=K rk b (kb - 1):=fun hz=>q1 (at1 - 1) (by omega)
      have q4:¬ ka - at1 > 0->out++(a.extract at1 ka).reverse=out/\at1=ka:=fun e=>by
       have:at1=ka:=by omega
       subst this
       refine⟨?_,rfl⟩
       rw[Array.extract_empty_of_stop_le_start (Nat.le_refl _)];simp
      by_cases hk0:ka - at1 > 0
      ·rw[if_pos hk0]
       by_cases he:at1=0
       ·rw[if_pos (by simpa using he)]
        obtain⟨p,r⟩:=done _ at1 kb m1 he
        exact wpS_pure (.inr ⟨_,_,_,rfl,rfl,p,r⟩)
       rw[if_neg (by simpa using he)]
       have h10:0 < at1:=by omega
       have h11:at1<=ka:=hkn
       generalize out++(a.extract at1 ka).reverse=out1 at m1 ⊢
       clear q4 m
       refine wpS_bind (wpS_elem kb1 ?_)
       have m2:=pushB out1 at1 kb kb1 (by omega) m1 (by omega) q3
       by_cases he2:kb - 1=1
       ·rw[if_pos (by simpa using he2)]
        obtain⟨p,r⟩:=lastB _ at1 (kb - 1) m2 he2
        exact wpS_pure (.inr ⟨_,_,_,rfl,rfl,p,r⟩)
       rw[if_neg (by simpa using he2)]
       have ha1:at1 - 1 < a.size:=by omega
       refine wpS_bind (wpS_elem ha1 (wpS_bind (galL L hk hSb (hSa _ (Array.getElem_mem ha1)) (by omega) (by omega) (fun i j h1 h2 h3=>ub i j h2 (by omega)) fun at2 hkn2 q5 q6=>?_)))
       dsimp only
       rw[<- K_get (rk:=rk) ha1]at q5 q6
       simp only[Nat.zero_add]at q5 q6
       have hat2:1<=at2:=by
        by_cases hz:1<=at2
        ·exact hz
        ·have z1:=q6 0 (by omega) (by omega)
         have z2:=ua 0 (at1 - 1) (by omega) ha1
         omega
       have m3:Mh rk a.toList b.toList (out1.push b[kb - 1]++(b.extract at2 (kb - 1)).reverse).toList.reverse at1 at2:=by
        rw[Array.toList_append,List.reverse_append,Array.toList_reverse,List.reverse_reverse,ext_some]
        refine m2.takeB pb at2 hkn2 fun x hx y hy=>?_
        obtain⟨j,hj1,hj2,e1⟩:=mem_t (rk:=rk) hx
        obtain⟨i,hi1,hi2,e2⟩:=mem_dt (rk:=rk) hy
        rw[e1,e2]
        exact Nat.le_trans (ua j (at1 - 1) (by omega) ha1) (q6 (at2+i) (by omega) (by omega))
       have q7:0 < at2->K rk b (at2 - 1)<=K rk a (at1 - 1):=fun hz=>Nat.le_of_lt (q5 (at2 - 1) (by omega))
       have q8:¬ kb - 1 - at2 > 0->out1.push b[kb - 1]++(b.extract at2 (kb - 1)).reverse=out1.push b[kb - 1]/\at2=kb - 1:=fun e=>by
        have:at2=kb - 1:=by omega
        subst this
        refine⟨?_,rfl⟩
        rw[Array.extract_empty_of_stop_le_start (Nat.le_refl _)];simp
       by_cases hk2:kb - 1 - at2 > 0
       ·rw[if_pos hk2]
        by_cases he3:at2=1
        ·rw[if_pos (by simpa using he3)]
         obtain⟨p,r⟩:=lastB _ at1 at2 m3 he3
         exact wpS_pure (.inr ⟨_,_,_,rfl,rfl,p,r⟩)
        rw[if_neg (by simpa using he3),if_neg (by simp;omega)]
        refine wpS_bind (wpS_elem ha1 ?_)
        have m4:=pushA _ at1 _ ha1 h10 m3 (by omega) q7
        by_cases he4:at1 - 1=0
        ·rw[if_pos (by simpa using he4)]
         obtain⟨p,r⟩:=done _ (at1 - 1) _ m4 he4
         exact wpS_pure (.inr ⟨_,_,_,rfl,rfl,p,r⟩)
        rw[if_neg (by simpa using he4)]
        split
        ·exact wpS_pure (.inl ⟨_,_,_,_,_,_,_,rfl,rfl,m4,by omega,by omega,by omega,by omega,by omega⟩)
        ·exact wpS_pure ⟨_,_,_,_,_,_,_,rfl,rfl,m4,by omega,by omega,by omega,by omega,by omega⟩
       ·rw[if_neg hk2]
        obtain⟨z3,z4⟩:=q8 hk2
        rw[z3]at m3
        rw[z4]at m3 q7
        refine wpS_bind (wpS_elem ha1 ?_)
        have m4:=pushA _ at1 _ ha1 h10 m3 (by omega) fun _=>q7 (by omega)
        by_cases he4:at1 - 1=0
        ·rw[if_pos (by simpa using he4)]
         obtain⟨p,r⟩:=done _ (at1 - 1) _ m4 he4
         exact wpS_pure (.inr ⟨_,_,_,rfl,rfl,p,r⟩)
        rw[if_neg (by simpa using he4)]
        split
        ·exact wpS_pure (.inl ⟨_,_,_,_,_,_,_,rfl,rfl,m4,by omega,by omega,by omega,by omega,by omega⟩)
        ·exact wpS_pure ⟨_,_,_,_,_,_,_,rfl,rfl,m4,by omega,by omega,by omega,by omega,by omega⟩
      ·rw[if_neg hk0]
       obtain⟨z1,z2⟩:=q4 hk0
       rw[z1]at m1
       subst z2
       have h10:0 < at1:=h7
       have h11:at1<=at1:=Nat.le_refl _
       clear q4 m z1
       generalize out=out1 at m1 ⊢
       refine wpS_bind (wpS_elem kb1 ?_)
       have m2:=pushB out1 at1 kb kb1 (by omega) m1 (by omega) q3
       by_cases he2:kb - 1=1
       ·rw[if_pos (by simpa using he2)]
        obtain⟨p,r⟩:=lastB _ at1 (kb - 1) m2 he2
        exact wpS_pure (.inr ⟨_,_,_,rfl,rfl,p,r⟩)
       rw[if_neg (by simpa using he2)]
       have ha1:at1 - 1 < a.size:=by omega
       refine wpS_bind (wpS_elem ha1 (wpS_bind (galL L hk hSb (hSa _ (Array.getElem_mem ha1)) (by omega) (by omega) (fun i j h1 h2 h3=>ub i j h2 (by omega)) fun at2 hkn2 q5 q6=>?_)))
       dsimp only
       rw[<- K_get (rk:=rk) ha1]at q5 q6
       simp only[Nat.zero_add]at q5 q6
       have hat2:1<=at2:=by
        by_cases hz:1<=at2
        ·exact hz
        ·have z1:=q6 0 (by omega) (by omega)
         have z2:=ua 0 (at1 - 1) (by omega) ha1
         omega
       have m3:Mh rk a.toList b.toList (out1.push b[kb - 1]++(b.extract at2 (kb - 1)).reverse).toList.reverse at1 at2:=by
        rw[Array.toList_append,List.reverse_append,Array.toList_reverse,List.reverse_reverse,ext_some]
        refine m2.takeB pb at2 hkn2 fun x hx y hy=>?_
        obtain⟨j,hj1,hj2,e1⟩:=mem_t (rk:=rk) hx
        obtain⟨i,hi1,hi2,e2⟩:=mem_dt (rk:=rk) hy
        rw[e1,e2]
        exact Nat.le_trans (ua j (at1 - 1) (by omega) ha1) (q6 (at2+i) (by omega) (by omega))
       have q7:0 < at2->K rk b (at2 - 1)<=K rk a (at1 - 1):=fun hz=>Nat.le_of_lt (q5 (at2 - 1) (by omega))
       have q8:¬ kb - 1 - at2 > 0->out1.push b[kb - 1]++(b.extract at2 (kb - 1)).reverse=out1.push b[kb - 1]/\at2=kb - 1:=fun e=>by
        have:at2=kb - 1:=by omega
        subst this
        refine⟨?_,rfl⟩
        rw[Array.extract_empty_of_stop_le_start (Nat.le_refl _)];simp
       by_cases hk2:kb - 1 - at2 > 0
       ·rw[if_pos hk2]
        by_cases he3:at2=1
        ·rw[if_pos (by simpa using he3)]
         obtain⟨p,r⟩:=lastB _ at1 at2 m3 he3
         exact wpS_pure (.inr ⟨_,_,_,rfl,rfl,p,r⟩)
        rw[if_neg (by simpa using he3),if_neg (by simp;omega)]
        refine wpS_bind (wpS_elem ha1 ?_)
        have m4:=pushA _ at1 _ ha1 h10 m3 (by omega) q7
        by_cases he4:at1 - 1=0
        ·rw[if_pos (by simpa using he4)]
         obtain⟨p,r⟩:=done _ (at1 - 1) _ m4 he4
         exact wpS_pure (.inr ⟨_,_,_,rfl,rfl,p,r⟩)
        rw[if_neg (by simpa using he4)]
        split
        ·exact wpS_pure (.inl ⟨_,_,_,_,_,_,_,rfl,rfl,m4,by omega,by omega,by omega,by omega,by omega⟩)
        ·exact wpS_pure ⟨_,_,_,_,_,_,_,rfl,rfl,m4,by omega,by omega,by omega,by omega,by omega⟩
       ·rw[if_neg hk2]
        obtain⟨z3,z4⟩:=q8 hk2
        rw[z3]at m3
        rw[z4]at m3 q7
        refine wpS_bind (wpS_elem ha1 ?_)
        have m4:=pushA _ at1 _ ha1 h10 m3 (by omega) fun _=>q7 (by omega)
        by_cases he4:at1 - 1=0
        ·rw[if_pos (by simpa using he4)]
         obtain⟨p,r⟩:=done _ (at1 - 1) _ m4 he4
         exact wpS_pure (.inr ⟨_,_,_,rfl,rfl,p,r⟩)
        rw[if_neg (by simpa using he4)]
        split
        ·exact wpS_pure (.inl ⟨_,_,_,_,_,_,_,rfl,rfl,m4,by omega,by omega,by omega,by omega,by omega⟩)
        ·exact wpS_pure ⟨_,_,_,_,_,_,_,rfl,rfl,m4,by omega,by omega,by omega,by omega,by omega⟩
     ·rw[if_neg hg]
      generalize g=g1
      refine wpS_bind (wpS_modify ?_)
      refine wpS_bind (wpS_elem kb1 (wpS_bind (galR L hk hSa (hSb _ (Array.getElem_mem kb1)) (by omega) (by omega) (fun i j h1 h2 h3=>ua i j h2 (by omega)) fun at1 hkn q1 q2=>?_)))
      dsimp only
      rw[<- K_get (rk:=rk) kb1]at q1 q2
      simp only[Nat.zero_add]at q1 q2
      have m1:Mh rk a.toList b.toList (out++(a.extract at1 ka).reverse).toList.reverse at1 kb:=by
       rw[Array.toList_append,List.reverse_append,Array.toList_reverse,List.reverse_reverse,ext_some]
       refine m.takeA pa at1 hkn fun x hx y hy=>?_
       obtain⟨j,hj1,hj2,e1⟩:=mem_t (rk:=rk) hx
       obtain⟨i,hi1,hi2,e2⟩:=mem_dt (rk:=rk) hy
       rw[e1,e2]
       exact Nat.le_trans (ub j (kb - 1) (by omega) kb1) (Nat.le_of_lt (q2 (at1+i) (by omega) (by omega)))
      have q3:0 < at1->K rk a (at1 - 1)<=K rk b (kb - 1):=fun hz=>q1 (at1 - 1) (by omega)
      have q4:¬ ka - at1 > 0->out++(a.extract at1 ka).reverse=out/\at1=ka:=fun e=>by
       have:at1=ka:=by omega
       subst this
       refine⟨?_,rfl⟩
       rw[Array.extract_empty_of_stop_le_start (Nat.le_refl _)];simp
      by_cases hk0:ka - at1 > 0
      ·rw[if_pos hk0]
       by_cases he:at1=0
       ·rw[if_pos (by simpa using he)]
        obtain⟨p,r⟩:=done _ at1 kb m1 he
        exact wpS_pure (.inr ⟨_,_,_,rfl,rfl,p,r⟩)
       rw[if_neg (by simpa using he)]
       have h10:0 < at1:=by omega
       have h11:at1<=ka:=hkn
       generalize out++(a.extract at1 ka).reverse=out1 at m1 ⊢
       clear q4 m
       refine wpS_bind (wpS_elem kb1 ?_)
       have m2:=pushB out1 at1 kb kb1 (by omega) m1 (by omega) q3
       by_cases he2:kb - 1=1
       ·rw[if_pos (by simpa using he2)]
        obtain⟨p,r⟩:=lastB _ at1 (kb - 1) m2 he2
        exact wpS_pure (.inr ⟨_,_,_,rfl,rfl,p,r⟩)
       rw[if_neg (by simpa using he2)]
       have ha1:at1 - 1 < a.size:=by omega
       refine wpS_bind (wpS_elem ha1 (wpS_bind (galL L hk hSb (hSa _ (Array.getElem_mem ha1)) (by omega) (by omega) (fun i j h1 h2 h3=>ub i j h2 (by omega)) fun at2 hkn2 q5 q6=>?_)))
       dsimp only
       rw[<- K_get (rk:=rk) ha1]at q5 q6
       simp only[Nat.zero_add]at q5 q6
       have hat2:1<=at2:=by
        by_cases hz:1<=at2
        ·exact hz
        ·have z1:=q6 0 (by omega) (by omega)
         have z2:=ua 0 (at1 - 1) (by omega) ha1
         omega
       have m3:Mh rk a.toList b.toList (out1.push b[kb - 1]++(b.extract at2 (kb - 1)).reverse).toList.reverse at1 at2:=by
        rw[Array.toList_append,List.reverse_append,Array.toList_reverse,List.reverse_reverse,ext_some]
        refine m2.takeB pb at2 hkn2 fun x hx y hy=>?_
        obtain⟨j,hj1,hj2,e1⟩:=mem_t (rk:=rk) hx
        obtain⟨i,hi1,hi2,e2⟩:=mem_dt (rk:=rk) hy
        rw[e1,e2]
        exact Nat.le_trans (ua j (at1 - 1) (by omega) ha1) (q6 (at2+i) (by omega) (by omega))
       have q7:0 < at2->K rk b (at2 - 1)<=K rk a (at1 - 1):=fun hz=>Nat.le_of_lt (q5 (at2 - 1) (by omega))
       have q8:¬ kb - 1 - at2 > 0->out1.push b[kb - 1]++(b.extract at2 (kb - 1)).reverse=out1.push b[kb - 1]/\at2=kb - 1:=fun e=>by
        have:at2=kb - 1:=by omega
        subst this
        refine⟨?_,rfl⟩
        rw[Array.extract_empty_of_stop_le_start (Nat.le_refl _)];simp
       by_cases hk2:kb - 1 - at2 > 0
       ·rw[if_pos hk2]
        by_cases he3:at2=1
        ·rw[if_pos (by simpa using he3)]
         obtain⟨p,r⟩:=lastB _ at1 at2 m3 he3
         exact wpS_pure (.inr ⟨_,_,_,rfl,rfl,p,r⟩)
        rw[if_neg (by simpa using he3),if_neg (by simp;omega)]
        refine wpS_bind (wpS_elem ha1 ?_)
        have m4:=pushA _ at1 _ ha1 h10 m3 (by omega) q7
        by_cases he4:at1 - 1=0
        ·rw[if_pos (by simpa using he4)]
         obtain⟨p,r⟩:=done _ (at1 - 1) _ m4 he4
         exact wpS_pure (.inr ⟨_,_,_,rfl,rfl,p,r⟩)
        rw[if_neg (by simpa using he4)]
        split
        ·exact wpS_pure (.inl ⟨_,_,_,_,_,_,_,rfl,rfl,m4,by omega,by omega,by omega,by omega,by omega⟩)
        ·exact wpS_pure ⟨_,_,_,_,_,_,_,rfl,rfl,m4,by omega,by omega,by omega,by omega,by omega⟩
       ·rw[if_neg hk2]
        obtain⟨z3,z4⟩:=q8 hk2
        rw[z3]at m3
        rw[z4]at m3 q7
        refine wpS_bind (wpS_elem ha1 ?_)
        have m4:=pushA _ at1 _ ha1 h10 m3 (by omega) fun _=>q7 (by omega)
        by_cases he4:at1 - 1=0
        ·rw[if_pos (by simpa using he4)]
         obtain⟨p,r⟩:=done _ (at1 - 1) _ m4 he4
         exact wpS_pure (.inr ⟨_,_,_,rfl,rfl,p,r⟩)
        rw[if_neg (by simpa using he4)]
        split
        ·exact wpS_pure (.inl ⟨_,_,_,_,_,_,_,rfl,rfl,m4,by omega,by omega,by omega,by omega,by omega⟩)
        ·exact wpS_pure ⟨_,_,_,_,_,_,_,rfl,rfl,m4,by omega,by omega,by omega,by omega,by omega⟩
      ·rw[if_neg hk0]
       obtain⟨z1,z2⟩:=q4 hk0
       rw[z1]at m1
       subst z2
       have h10:0 < at1:=h7
       have h11:at1<=at1:=Nat.le_refl _
       clear q4 m z1
       generalize out=out1 at m1 ⊢
       refine wpS_bind (wpS_elem kb1 ?_)
       have m2:=pushB out1 at1 kb kb1 (by omega) m1 (by omega) q3
       by_cases he2:kb - 1=1
       ·rw[if_pos (by simpa using he2)]
        obtain⟨p,r⟩:=lastB _ at1 (kb - 1) m2 he2
        exact wpS_pure (.inr ⟨_,_,_,rfl,rfl,p,r⟩)
       rw[if_neg (by simpa using he2)]
       have ha1:at1 - 1 < a.size:=by omega
       refine wpS_bind (wpS_elem ha1 (wpS_bind (galL L hk hSb (hSa _ (Array.getElem_mem ha1)) (by omega) (by omega) (fun i j h1 h2 h3=>ub i j h2 (by omega)) fun at2 hkn2 q5 q6=>?_)))
       dsimp only
       rw[<- K_get (rk:=rk) ha1]at q5 q6
       simp only[Nat.zero_add]at q5 q6
       have hat2:1<=at2:=by
        by_cases hz:1<=at2
        ·exact hz
        ·have z1:=q6 0 (by omega) (by omega)
         have z2:=ua 0 (at1 - 1) (by omega) ha1
         omega
       have m3:Mh rk a.toList b.toList (out1.push b[kb - 1]++(b.extract at2 (kb - 1)).reverse).toList.reverse at1 at2:=by
        rw[Array.toList_append,List.reverse_append,Array.toList_reverse,List.reverse_reverse,ext_some]
        refine m2.takeB pb at2 hkn2 fun x hx y hy=>?_
        obtain⟨j,hj1,hj2,e1⟩:=mem_t (rk:=rk) hx
        obtain⟨i,hi1,hi2,e2⟩:=mem_dt (rk:=rk) hy
        rw[e1,e2]
        exact Nat.le_trans (ua j (at1 - 1) (by omega) ha1) (q6 (at2+i) (by omega) (by omega))
       have q7:0 < at2->K rk b (at2 - 1)<=K rk a (at1 - 1):=fun hz=>Nat.le_of_lt (q5 (at2 - 1) (by omega))
       have q8:¬ kb - 1 - at2 > 0->out1.push b[kb - 1]++(b.extract at2 (kb - 1)).reverse=out1.push b[kb - 1]/\at2=kb - 1:=fun e=>by
        have:at2=kb - 1:=by omega
        subst this
        refine⟨?_,rfl⟩
        rw[Array.extract_empty_of_stop_le_start (Nat.le_refl _)];simp
       by_cases hk2:kb - 1 - at2 > 0
       ·rw[if_pos hk2]
        by_cases he3:at2=1
        ·rw[if_pos (by simpa using he3)]
         obtain⟨p,r⟩:=lastB _ at1 at2 m3 he3
         exact wpS_pure (.inr ⟨_,_,_,rfl,rfl,p,r⟩)
        rw[if_neg (by simpa using he3),if_neg (by simp;omega)]
        refine wpS_bind (wpS_elem ha1 ?_)
        have m4:=pushA _ at1 _ ha1 h10 m3 (by omega) q7
        by_cases he4:at1 - 1=0
        ·rw[if_pos (by simpa using he4)]
         obtain⟨p,r⟩:=done _ (at1 - 1) _ m4 he4
         exact wpS_pure (.inr ⟨_,_,_,rfl,rfl,p,r⟩)
        rw[if_neg (by simpa using he4)]
        split
        ·exact wpS_pure (.inl ⟨_,_,_,_,_,_,_,rfl,rfl,m4,by omega,by omega,by omega,by omega,by omega⟩)
        ·exact wpS_pure ⟨_,_,_,_,_,_,_,rfl,rfl,m4,by omega,by omega,by omega,by omega,by omega⟩
       ·rw[if_neg hk2]
        obtain⟨z3,z4⟩:=q8 hk2
        rw[z3]at m3
        rw[z4]at m3 q7
        refine wpS_bind (wpS_elem ha1 ?_)
        have m4:=pushA _ at1 _ ha1 h10 m3 (by omega) fun _=>q7 (by omega)
        by_cases he4:at1 - 1=0
        ·rw[if_pos (by simpa using he4)]
         obtain⟨p,r⟩:=done _ (at1 - 1) _ m4 he4
         exact wpS_pure (.inr ⟨_,_,_,rfl,rfl,p,r⟩)
        rw[if_neg (by simpa using he4)]
        split
        ·exact wpS_pure (.inl ⟨_,_,_,_,_,_,_,rfl,rfl,m4,by omega,by omega,by omega,by omega,by omega⟩)
        ·exact wpS_pure ⟨_,_,_,_,_,_,_,rfl,rfl,m4,by omega,by omega,by omega,by omega,by omega⟩
   ·exact wpS_pure ⟨r,g',_,rfl,rfl,p,q⟩
end
end SortB
end
section
namespace SortB
open PySem PySem.W PyProof.Rows
def Up(rk:Keyed->Nat)(a:Array Keyed)(lo hi:Nat):Prop:=∀ i j,lo<=i->i<=j->j < hi->K rk a i<=K rk a j
structure Ch(rk:Keyed->Nat)(lo hi:Nat)(a b:Array Keyed):Prop where
 perm:b.Perm a
 out:∀ j,j < lo\/hi<=j->K rk b j=K rk a j
section
variable{rk:Keyed->Nat}{a b c:Array Keyed}{lo hi lo' hi' i j k n:Nat}
theorem Ch.refl:Ch rk lo hi a a:=⟨Array.Perm.refl _,fun _ _=>rfl⟩
theorem Ch.size(h:Ch rk lo hi a b):b.size=a.size:=h.perm.size_eq
theorem Ch.trans(h:Ch rk lo hi a b)(h':Ch rk lo hi b c):Ch rk lo hi a c:=⟨h'.perm.trans h.perm,fun j hj=>(h'.out j hj).trans (h.out j hj)⟩
theorem Ch.mono(h:Ch rk lo hi a b)(h1:lo'<=lo)(h2:hi<=hi'):Ch rk lo' hi' a b:=⟨h.perm,fun j hj=>h.out j (by omega)⟩
theorem Ch.all{S:Keyed->Prop}(h:Ch rk lo hi a b)(hS:∀ x∈a,S x):∀ x∈b,S x:=fun x hx=>hS x (h.perm.mem_iff.mp hx)
theorem K_rev(hj:j<=a.size)(k:Nat):K rk (mirror a i j ((j - i) / 2)) k=if i<=k/\k < j then K rk a (i+j - 1 - k) else K rk a k:=by
 have e:=getElem?_mirror_all (i:=i) hj k
 split at e
 ·rename_i h;rw[if_pos h];exact K_of e
 ·rename_i h;rw[if_neg h];exact K_of e
theorem K_bub{src d:Nat}(hs:src < a.size)(hd:d<=src)(k:Nat):K rk (bubble a src d) k=if k=src - d then K rk a src else if src - d < k/\k<=src then K rk a (k - 1) else K rk a k:=by
 have e:=getElem?_bubble hs d hd k
 by_cases h1:k=src - d
 ·rw[if_pos h1]at e ⊢;exact K_of e
 ·rw[if_neg h1]at e ⊢
  by_cases h2:src - d < k/\k<=src
  ·rw[if_pos h2]at e ⊢;exact K_of e
  ·rw[if_neg h2]at e ⊢;exact K_of e
theorem Ch.rev(hj:j<=a.size)(h1:lo<=i)(h2:j<=hi):Ch rk lo hi a (mirror a i j ((j - i) / 2)) :=
 ⟨mirror_perm _ _ _ _,fun k hk=>by rw[K_rev hj,if_neg (by omega)]⟩
theorem Ch.bub{src d:Nat}(hs:src < a.size)(hd:d<=src)(h1:lo<=src - d)(h2:src < hi):Ch rk lo hi a (bubble a src d) :=
 ⟨bubble_perm _ _ _,fun k hk=>by rw[K_bub hs hd,if_neg (by omega),if_neg (by omega)]⟩
theorem Up.ext(u:Up rk a lo hi)(h:∀ i,lo<=i->i < hi->K rk b i=K rk a i):Up rk b lo hi:=fun i j h1 h2 h3=>by
 rw[h i h1 (by omega),h j (by omega) h3];exact u i j h1 h2 h3
theorem Up.rs(u:Up rk a lo hi)(hh:hi<=a.size):Rs rk (a.extract lo hi).toList:=by
 refine List.pairwise_iff_getElem.mpr ?_
 intro i j hi' hj' hij
 simp only[Array.length_toList,Array.size_extract]at hi' hj'
 have:=u (lo+i) (lo+j) (by omega) (by omega) (by omega)
 rw[K_get (by omega),K_get (by omega)]at this
 simpa using this
theorem K_ext(h:lo+i < hi)(hh:hi<=a.size):K rk (a.extract lo hi) i=K rk a (lo+i):=by
 have e:i < (a.extract lo hi).size:=by rw[Array.size_extract];omega
 rw[K_get e,K_get (by omega)]
 simp
theorem mem_ext{x:Keyed}(h:x∈a.extract lo hi):x∈a:=by
 have:=Array.mem_toList_iff.mpr h
 rw[ext_some]at this
 exact Array.mem_toList_iff.mp (List.mem_of_mem_drop (List.mem_of_mem_take this))
theorem put_get(m:List Keyed):∀ (a:Array Keyed) (sa n:Nat),sa+n+m.length<=a.size->∀ i:Nat,((m.zipIdx n).foldl (fun a (x:Keyed×Nat)=>a.setIfInBounds (sa+x.2) x.1) a)[i]?=if sa+n<=i/\i < sa+n+m.length then m[i - (sa+n)]? else a[i]?:=by
 induction m with
 | nil=>intro a sa n _ i;rw[if_neg (by simp)];simp
 | cons x m ih =>
  intro a sa n hs i
  rw[List.length_cons]at hs ⊢
  rw[List.zipIdx_cons,List.foldl_cons,ih (a.setIfInBounds (sa+n) x) sa (n+1) (by simp;omega)]
  by_cases h1:i=sa+n
  ·subst h1
   rw[if_neg (by omega),if_pos (by omega)]
   simp[show sa+n < a.size by omega]
  ·by_cases h2:sa+n<=i/\i < sa+n+(m.length+1)
   ·rw[if_pos h2,if_pos (by omega),show i - (sa+n)=(i - (sa+(n+1)))+1 by omega,List.getElem?_cons_succ]
   ·rw[if_neg h2,if_neg (by omega),Array.getElem?_setIfInBounds_ne (by omega)]
theorem put_list(m:List Keyed)(a:Array Keyed)(sa:Nat)(h:sa+m.length<=a.size):(m.zipIdx.foldl (fun a (x:Keyed×Nat)=>a.setIfInBounds (sa+x.2) x.1) a).toList=a.toList.take sa++m++a.toList.drop (sa+m.length):=by
 apply List.ext_getElem?
 intro i
 have e:=put_get m a sa 0 (by omega) i
 rw[Array.getElem?_toList,e]
 simp only[Nat.add_zero]
 rw[List.append_assoc]
 by_cases h1:i < sa
 ·rw[if_neg (by omega),List.getElem?_append_left (by simp;omega),List.getElem?_take_of_lt h1];simp
 ·rw[List.getElem?_append_right (by simp;omega)]
  have e2:(a.toList.take sa).length=sa:=by simp;omega
  rw[e2]
  by_cases h2:i < sa+m.length
  ·rw[if_pos (by omega),List.getElem?_append_left (by omega)]
  ·rw[if_neg (by omega),List.getElem?_append_right (by omega),List.getElem?_drop,Array.getElem?_toList]
   congr 1;omega
end
section
variable{prog:Program}{w:World}{A:Around}{E:Value->Shared->Prop}{s:Shared}{κ:SortKind}{rk:Keyed->Nat}{S:Keyed->Prop}
theorem wpS_set{M:Model}{σ:Type}{v st:σ}{Q:PUnit->σ->Prop}(h:Q ⟨⟩ v):wpS M A E s (set v:StateT σ Sem PUnit) Q st:=by
 unfold wpS;rw[StateT.run_set];exact wpAny_pure ⟨rfl,h⟩
theorem mergeAt_ok(L:LtOk prog w A E s κ rk S){st:SortSt}{i sa na p nb q:Nat}{Q:Bool->SortSt->Prop}(hk:kindOf st=κ)(hf:failedOf st=none)(hS:∀ x∈arrOf st,S x)(hp1:(pendingOf st)[i]?=some (sa,na,p))(hp2:(pendingOf st)[i+1]?=some (sa+na,nb,q))
 (na0:0 < na) (nb0:0 < nb) (hsz:sa+na+nb<=(arrOf st).size) (uA:Up rk (arrOf st) sa (sa+na)) (uB:Up rk (arrOf st) (sa+na) (sa+na+nb))
 (h:∀ a' g,Ch rk sa (sa+na+nb) (arrOf st) a'->Up rk a' sa (sa+na+nb)->Q true (SortSt.mk' κ a' (((pendingOf st).setIfInBounds i (sa,na+nb,p)).eraseIdxIfInBounds (i+1)) g none)):wpS (model prog w) A E s (mergeAt' i) Q st:=by
 rcases st with ⟨kd,a,pd0,g0,f0⟩
 change kd=κ at hk
 change f0=none at hf
 change ∀ x∈a,S x at hS
 change pd0[i]?=some (sa,na,p) at hp1
 change pd0[i+1]?=some (sa+na,nb,q) at hp2
 change sa+na+nb<=a.size at hsz
 change Up rk a sa (sa+na) at uA
 change Up rk a (sa+na) (sa+na+nb) at uB
 change ∀ a' g,Ch rk sa (sa+na+nb) a a'->Up rk a' sa (sa+na+nb)->Q true (SortSt.mk' κ a' ((pd0.setIfInBounds i (sa,na+nb,p)).eraseIdxIfInBounds (i+1)) g none) at h
 subst hk hf
 refine wpS_bind (wpS_get ?_)
 have e1:(pd0[i]?,pd0[i+1]?)=(some (sa,na,p),some (sa+na,nb,q)):=by rw[hp1,hp2]
 dsimp only
 rw[e1]
 dsimp only
 generalize (pd0.setIfInBounds i (sa,na+nb,p)).eraseIdxIfInBounds (i+1)=pd at h ⊢
 have sb1:sa+na < a.size:=by omega
 have kk:∀ (x:Array Keyed) (pd:Array (Nat×Nat×Nat)) (g:Nat) (f:Option Value),kindOf (SortSt.mk' kd x pd g f)=kd:=fun _ _ _ _=>rfl
 refine wpS_bind (wpS_set (wpS_bind (wpS_elem sb1 (wpS_bind (galR L (kk _ _ _ _) hS (hS _ (Array.getElem_mem sb1)) (by omega) na0 (fun i j h1 h2 h3=>uA i j h1 h2 h3) fun k hkn q1 q2=>?_)))))
 rw[<- K_get (rk:=rk) sb1]at q1 q2
 dsimp only
 by_cases hn:na - k=0
 ·rw[if_pos (by simpa using hn)]
  refine wpS_pure (h a _ Ch.refl fun i j h1 h2 h3=>?_)
  by_cases hj:j < sa+na
  ·exact uA i j h1 h2 hj
  ·by_cases hi:i < sa+na
   ·have z:=q1 (i - sa) (by omega)
    rw[show sa+(i - sa)=i by omega]at z
    exact Nat.le_trans z (uB (sa+na) j (Nat.le_refl _) (by omega) h3)
   ·exact uB i j (by omega) h2 h3
 rw[if_neg (by simpa using hn)]
 have la1:sa+k+(na - k) - 1 < a.size:=by omega
 refine wpS_bind (wpS_elem la1 (wpS_bind (galL L (kk _ _ _ _) hS (hS _ (Array.getElem_mem la1)) (by omega) (by omega) (fun i j h1 h2 h3=>uB i j h1 h2 h3) fun nb' hkn' q3 q4=>?_)))
 rw[<- K_get (rk:=rk) la1,show sa+k+(na - k) - 1=sa+na - 1 by omega]at q3 q4
 dsimp only
 by_cases hn':nb'=0
 ·rw[if_pos (by simpa using hn')]
  refine wpS_pure (h a _ Ch.refl fun i j h1 h2 h3=>?_)
  by_cases hj:j < sa+na
  ·exact uA i j h1 h2 hj
  ·by_cases hi:i < sa+na
   ·have z:=q4 (j - (sa+na)) (by omega) (by omega)
    rw[show sa+na+(j - (sa+na))=j by omega]at z
    exact Nat.le_trans (uA i (sa+na - 1) h1 (by omega) (by omega)) z
   ·exact uB i j (by omega) h2 h3
 rw[if_neg (by simpa using hn')]
 have xs:(a.extract (sa+k) (sa+na)).size=na - k:=by rw[Array.size_extract];omega
 have ys:(a.extract (sa+na) (sa+na+nb')).size=nb':=by rw[Array.size_extract];omega
 have px:Rs rk (a.extract (sa+k) (sa+na)).toList:=Up.rs (fun i j h1 h2 h3=>uA i j (by omega) h2 h3) (by omega)
 have py:Rs rk (a.extract (sa+na) (sa+na+nb')).toList:=Up.rs (fun i j h1 h2 h3=>uB i j h1 h2 (by omega)) (by omega)
 have sx:∀ x∈a.extract (sa+k) (sa+na),S x:=fun x hx=>hS x (mem_ext hx)
 have sy:∀ x∈a.extract (sa+na) (sa+na+nb'),S x:=fun x hx=>hS x (mem_ext hx)
 have h0:K rk (a.extract (sa+na) (sa+na+nb')) 0 < K rk (a.extract (sa+k) (sa+na)) 0:=by
  rw[K_ext (by omega) (by omega),K_ext (by omega) (by omega)]
  exact q2 k (Nat.le_refl _) (by omega)
 have hl:∀ i,i < (a.extract (sa+na) (sa+na+nb')).size->K rk (a.extract (sa+na) (sa+na+nb')) i < K rk (a.extract (sa+k) (sa+na)) ((a.extract (sa+k) (sa+na)).size - 1):=fun i hi=>by
  rw[ys]at hi
  rw[xs,K_ext (by omega) (by omega),K_ext (by omega) (by omega),show sa+k+(na - k - 1)=sa+na - 1 by omega]
  exact q3 i hi
 have fin:∀ (m:Array Keyed) (g:Nat),m.toList.Perm ((a.extract (sa+k) (sa+na)).toList++(a.extract (sa+na) (sa+na+nb')).toList)->Rs rk m.toList ->
  Q true (SortSt.mk' kd (m.toList.zipIdx.foldl (fun a (x:Keyed×Nat)=>a.setIfInBounds (sa+k+x.2) x.1) a) pd g none):=fun m g pm rm=>by
  have ml:m.toList.length=na - k+nb':=by rw[pm.length_eq,List.length_append,Array.length_toList,Array.length_toList,xs,ys]
  have gl:=put_list m.toList a (sa+k) (by omega)
  have gg:=put_get m.toList a (sa+k) 0 (by omega)
  simp only[Nat.add_zero]at gg
  generalize hb:m.toList.zipIdx.foldl (fun a (x:Keyed×Nat)=>a.setIfInBounds (sa+k+x.2) x.1) a=b at gl gg ⊢
  have out:∀ j,j < sa+k\/sa+na+nb'<=j->K rk b j=K rk a j:=fun j hj=>K_of (by rw[gg j,if_neg (by omega)])
  have ins:∀ j,sa+k<=j->j < sa+na+nb'->K rk b j=K rk m (j - (sa+k)):=fun j h1 h2=>K_of (by rw[gg j,if_pos (by omega),Array.getElem?_toList])
  have bnd:∀ j,sa+k<=j->j < sa+na+nb'->K rk a (sa+na)<=K rk b j/\K rk b j<=K rk a (sa+na - 1):=fun j h1 h2=>by
   have hm:j - (sa+k) < m.size:=by rw[<- Array.length_toList,ml];omega
   rw[ins j h1 h2,K_get hm]
   have hin:=pm.mem_iff.mp (Array.mem_toList_iff.mpr (Array.getElem_mem hm))
   rcases List.mem_append.mp hin with hx | hx
   ·obtain⟨t,ht,e⟩:=List.getElem_of_mem hx
    rw[Array.length_toList,xs]at ht
    have e':rk m[j - (sa+k)]=K rk a (sa+k+t):=by
     rw[<- e,K_get (by omega)];simp
    rw[e']
    exact⟨Nat.le_of_lt (by have:=q2 (k+t) (by omega) (by omega);rwa [<- Nat.add_assoc]at this),uA _ _ (by omega) (by omega) (by omega)⟩
   ·obtain⟨t,ht,e⟩:=List.getElem_of_mem hx
    rw[Array.length_toList,ys]at ht
    have e':rk m[j - (sa+k)]=K rk a (sa+na+t):=by
     rw[<- e,K_get (by omega)];simp
    rw[e']
    exact⟨uB _ _ (by omega) (by omega) (by omega),Nat.le_of_lt (q3 t ht)⟩
  refine h b g ⟨Array.perm_iff_toList_perm.mpr ?_,fun j hj=>out j (by omega)⟩ fun i j h1 h2 h3=>?_
  ·rw[gl,ml]
   have ea:a.toList=a.toList.take (sa+k)++((a.extract (sa+k) (sa+na)).toList++(a.extract (sa+na) (sa+na+nb')).toList)++a.toList.drop (sa+k+(na - k+nb')):=by
    rw[ext_some,ext_some,List.append_assoc,List.append_assoc]
    rw[show sa+na+nb' - (sa+na)=nb' by omega,show sa+k+(na - k+nb')=sa+na+nb' by omega,<- drop_split a.toList (sa+na) nb',<- drop_mid (show sa+k<=sa+na by omega),List.take_append_drop]
   exact((pm.append_left _).append_right _).trans (List.Perm.of_eq ea.symm)
  ·by_cases ci:i < sa+k
   ·rw[out i (by omega)]
    have z:=q1 (i - sa) (by omega)
    rw[show sa+(i - sa)=i by omega]at z
    by_cases cj:j < sa+k
    ·rw[out j (by omega)];exact uA i j h1 h2 (by omega)
    ·by_cases cj2:j < sa+na+nb'
     ·exact Nat.le_trans z (bnd j (by omega) cj2).1
     ·rw[out j (by omega)]
      exact Nat.le_trans z (uB _ _ (by omega) (by omega) h3)
   ·by_cases ci2:i < sa+na+nb'
    ·by_cases cj2:j < sa+na+nb'
     ·rw[ins i (by omega) ci2,ins j (by omega) cj2]
      exact rm.le (by omega) (by rw[<- Array.length_toList,ml];omega)
     ·rw[out j (by omega)]
      have z:=q4 (j - (sa+na)) (by omega) (by omega)
      rw[show sa+na+(j - (sa+na))=j by omega]at z
      exact Nat.le_trans (bnd i (by omega) ci2).2 z
    ·rw[out i (by omega),out j (by omega)]
     exact uB i j (by omega) h2 h3
 split
 ·refine wpS_bind (mergeLo_ok L (kk _ _ _ _) sx sy (by omega) (by omega) px py (Nat.le_of_lt h0) hl fun m g pm rm=>?_)
  exact wpS_bind (wpS_modify (wpS_bind (wpS_get (wpS_pure (fin m g pm rm)))))
 ·refine wpS_bind (mergeHi_ok L (kk _ _ _ _) sx sy (by omega) (by omega) px py h0 hl fun m g pm rm=>?_)
  exact wpS_bind (wpS_modify (wpS_bind (wpS_get (wpS_pure (fin m g pm rm)))))
end
end SortB
end
section
namespace SortB
open PySem PySem.W PyProof.Rows
section
variable{prog:Program}{w:World}{A:Around}{E:Value->Shared->Prop}{s:Shared}{κ:SortKind}{rk:Keyed->Nat}{S:Keyed->Prop}
abbrev mk(κ:SortKind)(a:Array Keyed)(pd:Array (Nat×Nat×Nat))(g:Nat):SortSt:=SortSt.mk' κ a pd g none
theorem ltat(L:LtOk prog w A E s κ rk S){a:Array Keyed}{pd:Array (Nat×Nat×Nat)}{g i j:Nat}{Q:Option Bool->SortSt->Prop}(hS:∀ x∈a,S x)(hi:i < a.size)(hj:j < a.size)
 (h:Q (some (decide (K rk a i < K rk a j))) (mk κ a pd g)):wpS (model prog w) A E s (ltAt' i j) Q (mk κ a pd g):=wpS_at L rfl hS hi hj h
theorem rev_ok{a:Array Keyed}{pd:Array (Nat×Nat×Nat)}{g i j:Nat}{Q:Unit->SortSt->Prop}(h:Q () (mk κ (mirror a i j ((j - i) / 2)) pd g)):wpS (model prog w) A E s (reverseSlice' i j) Q (mk κ a pd g):=wpS_modify h
def Dn(rk:Keyed->Nat)(a:Array Keyed)(lo hi:Nat):Prop:=∀ i j,lo<=i->i<=j->j < hi->K rk a j<=K rk a i
theorem Up.step{a:Array Keyed}{lo n:Nat}(u:Up rk a lo (lo+n))(hn:1<=n)(h:¬ K rk a (lo+n) < K rk a (lo+n - 1)):Up rk a lo (lo+(n+1)):=fun i j h1 h2 h3=>by
 by_cases hj:j < lo+n
 ·exact u i j h1 h2 hj
 ·have:j=lo+n:=by omega
  subst this
  by_cases hi:i=lo+n
  ·rw[hi];exact Nat.le_refl _
  ·have:=u i (lo+n - 1) h1 (by omega) (by omega);omega
theorem Dn.step{a:Array Keyed}{lo n:Nat}(u:Dn rk a lo (lo+n))(hn:1<=n)(h:K rk a (lo+n)<=K rk a (lo+n - 1)):Dn rk a lo (lo+(n+1)):=fun i j h1 h2 h3=>by
 by_cases hj:j < lo+n
 ·exact u i j h1 h2 hj
 ·have:j=lo+n:=by omega
  subst this
  by_cases hi:i=lo+n
  ·rw[hi];exact Nat.le_refl _
  ·have:=u i (lo+n - 1) h1 (by omega) (by omega);omega
theorem rev_same{a:Array Keyed}{i j:Nat}(hj:j<=a.size)(e:∀ k,i<=k->k < j->K rk a k=K rk a (j - 1))(k:Nat):K rk (mirror a i j ((j - i) / 2)) k=K rk a k:=by
 rw[K_rev hj]
 by_cases h:i<=k/\k < j
 ·rw[if_pos h,e _ (by omega) (by omega),e k h.1 h.2]
 ·rw[if_neg h]
theorem countRun_ok(L:LtOk prog w A E s κ rk S){a:Array Keyed}{pd:Array (Nat×Nat×Nat)}{g lo nrem:Nat}{Q:Option Nat->SortSt->Prop}(hS:∀ x∈a,S x)(h1:1<=nrem)(hsz:lo+nrem<=a.size)
 (h:∀ m b,1<=m->m<=nrem->Ch rk lo (lo+nrem) a b->Up rk b lo (lo+m)->Q (some m) (mk κ b pd g)):wpS (model prog w) A E s (countRun' lo nrem) Q (mk κ a pd g):=by
 have ll:lo+1 - 1=lo:=by omega
 refine wpS_bind (wpS_mono (wpS_forRange (I:=fun x c st'=>st'=mk κ a pd g/\c=(none,x)/\Up rk a lo (lo+x))
  (Q:=fun c st'=>st'=mk κ a pd g/\∃ n,c=(none,n)/\1<=n/\n<=nrem/\Up rk a lo (lo+n)/\(n=nrem\/K rk a (lo+n) < K rk a (lo+n - 1))) ?step ?fin ⟨rfl,rfl,fun i j h1 h2 h3=>by rw[show i=j by omega];exact Nat.le_refl _⟩) ?post)
 case step =>
  rintro x c st' hx1 hx2 ⟨rfl,rfl,u⟩
  dsimp only
  refine wpS_bind (ltat L hS (by omega) (by omega) ?_)
  by_cases hw:K rk a (lo+x) < K rk a (lo+x - 1)
  ·simp only[hw,decide_true,if_true]
   exact wpS_pure ⟨rfl,x,rfl,hx1,by omega,u,.inr hw⟩
  ·simp only[hw,decide_false,Bool.false_eq_true,if_false]
   exact wpS_pure ⟨rfl,rfl,u.step hx1 hw⟩
 case fin =>
  rintro c st' ⟨rfl,rfl,u⟩
  have e:max 1 nrem=nrem:=by omega
  exact⟨rfl,_,rfl,by omega,by omega,u,.inl e⟩
 case post =>
  rintro c st' ⟨rfl,n,rfl,hn1,hn2,u,hor⟩
  dsimp only
  by_cases hnn:n=nrem
  ·rw[if_pos (by simpa using hnn)]
   exact wpS_pure (h n a hn1 hn2 Ch.refl u)
  rw[if_neg (by simpa using hnn)]
  have hlt:=hor.resolve_left hnn
  suffices D:∀ b:Array Keyed,Ch rk lo (lo+nrem) a b->Dn rk b lo (lo+(n+1))->wpS (model prog w) A E s _ Q (mk κ b pd g) by
   by_cases hg:n > 1
   ·rw[if_pos hg]
    refine wpS_bind (ltat L hS (by omega) (by omega) ?_)
    by_cases hr:K rk a lo < K rk a (lo+n - 1)
    ·simp only[hr,decide_true,if_true]
     exact wpS_pure (h n a hn1 hn2 Ch.refl u)
    ·simp only[hr,decide_false,Bool.false_eq_true,if_false]
     have eq:∀ k,lo<=k->k < lo+n->K rk a k=K rk a (lo+n - 1):=fun k h1 h2=>by
      have a1:=u lo k (Nat.le_refl _) h1 h2
      have a2:=u k (lo+n - 1) h1 (by omega) (by omega)
      omega
     have rs:=rev_same (rk:=rk) (a:=a) (i:=lo) (j:=lo+n) (by omega) eq
     refine wpS_bind (rev_ok (D _ (Ch.rev (by omega) (Nat.le_refl _) (by omega)) ?_))
     refine Dn.step (fun i j h1 h2 h3=>?_) hn1 ?_
     ·rw[rs,rs,eq i h1 (by omega),eq j (by omega) h3];exact Nat.le_refl _
     ·rw[rs,rs];exact Nat.le_of_lt hlt
   ·rw[if_neg hg]
    have:n=1:=by omega
    subst this
    exact D a Ch.refl (Dn.step (fun i j h1 h2 h3=>by rw[show i=j by omega];exact Nat.le_refl _) (Nat.le_refl _) (Nat.le_of_lt hlt))
  intro b cb db
  refine wpS_bind (wpS_lift (wpAny_rule ⟨rfl,?_⟩))
  refine wpS_bind (wpS_mono (wpS_forRange (I:=fun x c st'=>∃ b' q,c=(none,x,q)/\st'=mk κ b' pd g/\Ch rk lo (lo+nrem) a b'/\Dn rk b' lo (lo+x)/\q+1<=x/\∀ i,lo+x - (q+1)<=i->i < lo+x->K rk b' i=K rk b' (lo+x - 1))
   (Q:=fun c st'=>∃ b' n' q,c=(none,n',q)/\st'=mk κ b' pd g/\n'<=nrem/\Ch rk lo (lo+nrem) a b'/\Dn rk b' lo (lo+n')/\q+1<=n'/\∀ i,lo+n' - (q+1)<=i->i < lo+n'->K rk b' i=K rk b' (lo+n' - 1)) ?dstep ?dfin ⟨b,0,rfl,rfl,cb,db,by omega,fun i h1 h2=>by congr 1;omega⟩) ?dpost)
  case dfin =>
   rintro c st' ⟨b',q,rfl,rfl,cb,db,hq,he⟩
   exact⟨b',_,q,rfl,rfl,by omega,cb,db,hq,he⟩
  case dstep =>
   rintro x c st' hx1 hx2 ⟨b',q,rfl,rfl,cb,db,hq,he⟩
   dsimp only
   have bs:=cb.size
   have hS':=cb.all hS
   refine wpS_bind (ltat L hS' (by omega) (by omega) ?_)
   by_cases hw:K rk b' (lo+x) < K rk b' (lo+x - 1)
   ·simp only[hw,decide_true,if_true]
    have one:∀ (y:Array Keyed) i,lo+(x+1) - (0+1)<=i->i < lo+(x+1)->K rk y i=K rk y (lo+(x+1) - 1):=fun y i h1 h2=>by congr 1;omega
    by_cases hq0:q > 0
    ·rw[if_pos hq0]
     have rs:=rev_same (rk:=rk) (a:=b') (i:=lo+x - (q+1)) (j:=lo+x) (by omega) he
     refine wpS_bind (rev_ok (wpS_pure ⟨_,0,rfl,rfl,cb.trans (Ch.rev (by omega) (by omega) (by omega)),?_,by omega,one _⟩))
     refine Dn.step (fun i j h1 h2 h3=>?_) (by omega) ?_
     ·rw[rs,rs];exact db i j h1 h2 h3
     ·rw[rs,rs];exact Nat.le_of_lt hw
    ·rw[if_neg hq0]
     exact wpS_pure ⟨b',0,rfl,rfl,cb,db.step (by omega) (Nat.le_of_lt hw),by omega,one _⟩
   ·simp only[hw,decide_false,Bool.false_eq_true,if_false]
    refine wpS_bind (ltat L hS' (by omega) (by omega) ?_)
    by_cases hv:K rk b' (lo+x - 1) < K rk b' (lo+x)
    ·simp only[hv,decide_true,if_true]
     exact wpS_pure ⟨b',x,q,rfl,rfl,by omega,cb,db,hq,he⟩
    ·simp only[hv,decide_false,Bool.false_eq_true,if_false]
     have e2:K rk b' (lo+x)=K rk b' (lo+x - 1):=by omega
     refine wpS_pure ⟨b',q+1,rfl,rfl,cb,db.step (by omega) (by omega),by omega,fun i h1 h2=>?_⟩
     rw[show lo+(x+1) - 1=lo+x by omega]
     by_cases hi:i=lo+x
     ·rw[hi]
     ·rw[e2];exact he i (by omega) (by omega)
  case dpost =>
   rintro c st' ⟨b',n',q,rfl,rfl,hn',cb,db,hq,he⟩
   dsimp only
   have bs:=cb.size
   suffices T:∀ c:Array Keyed,Ch rk lo (lo+nrem) a c->Dn rk c lo (lo+n')->wpS (model prog w) A E s _ Q (mk κ c pd g) by
    by_cases hq0:q > 0
    ·rw[if_pos hq0]
     have rs:=rev_same (rk:=rk) (a:=b') (i:=lo+n' - (q+1)) (j:=lo+n') (by omega) he
     refine wpS_bind (rev_ok (T _ (cb.trans (Ch.rev (by omega) (by omega) (by omega))) fun i j h1 h2 h3=>?_))
     rw[rs,rs];exact db i j h1 h2 h3
    ·rw[if_neg hq0]
     exact T b' cb db
   intro c cc dc
   have cs:=cc.size
   refine wpS_bind (rev_ok ?_)
   have ce:Ch rk lo (lo+nrem) a (mirror c lo (lo+n') ((lo+n' - lo) / 2)):=cc.trans (Ch.rev (by omega) (Nat.le_refl _) (by omega))
   have ue:Up rk (mirror c lo (lo+n') ((lo+n' - lo) / 2)) lo (lo+n'):=fun i j h1 h2 h3=>by
    rw[K_rev (by omega),K_rev (by omega),if_pos (by omega),if_pos (by omega)]
    exact dc _ _ (by omega) (by omega) (by omega)
   generalize mirror c lo (lo+n') ((lo+n' - lo) / 2)=e at ce ue ⊢
   have es:=ce.size
   refine wpS_bind (wpS_mono (wpS_forRange (I:=fun x c st'=>st'=mk κ e pd g/\c=(none,x)/\Up rk e lo (lo+x))
    (Q:=fun c st'=>st'=mk κ e pd g/\∃ n,c=(none,n)/\1<=n/\n<=nrem/\Up rk e lo (lo+n)) ?estep ?efin ⟨rfl,rfl,ue⟩) ?epost)
   case estep =>
    rintro x c st' hx1 hx2 ⟨rfl,rfl,u⟩
    dsimp only
    refine wpS_bind (ltat L (ce.all hS) (by omega) (by omega) ?_)
    by_cases hw:K rk e (lo+x) < K rk e (lo+x - 1)
    ·simp only[hw,decide_true,if_true]
     exact wpS_pure ⟨rfl,x,rfl,by omega,by omega,u⟩
    ·simp only[hw,decide_false,Bool.false_eq_true,if_false]
     exact wpS_pure ⟨rfl,rfl,u.step (by omega) hw⟩
   case efin =>
    rintro c st' ⟨rfl,rfl,u⟩
    exact⟨rfl,_,rfl,by omega,by omega,u⟩
   case epost =>
    rintro c st' ⟨rfl,m,rfl,hm1,hm2,u⟩
    exact wpS_pure (h m e hm1 hm2 ce u)
theorem binarySort_ok(L:LtOk prog w A E s κ rk S){a:Array Keyed}{pd:Array (Nat×Nat×Nat)}{g lo n ok:Nat}{Q:Bool->SortSt->Prop}(hS:∀ x∈a,S x)(hsz:lo+n<=a.size)(hok:1<=ok)(hn:ok<=n)(u:Up rk a lo (lo+ok))
 (h:∀ b,Ch rk lo (lo+n) a b->Up rk b lo (lo+n)->Q true (mk κ b pd g)):wpS (model prog w) A E s (binarySort' lo n ok) Q (mk κ a pd g):=by
 refine wpS_bind (wpS_mono (wpS_forRange (I:=fun x c st'=>c=(none,())/\∃ b,st'=mk κ b pd g/\Ch rk lo (lo+n) a b/\Up rk b lo (lo+x)) (Q:=fun c st'=>c=(none,())/\∃ b,st'=mk κ b pd g/\Ch rk lo (lo+n) a b/\Up rk b lo (lo+n)) ?step ?fin ⟨rfl,a,rfl,Ch.refl,by rw[show max ok 1=ok by omega];exact u⟩) ?post)
 case fin =>
  rintro c st' ⟨rfl,b,rfl,cb,ub⟩
  rw[show max (max ok 1) n=n by omega]at ub
  exact⟨rfl,b,rfl,cb,ub⟩
 case post =>
  rintro c st' ⟨rfl,b,rfl,cb,ub⟩
  exact wpS_pure (h b cb ub)
 case step =>
  rintro k c st' hk1 hk2 ⟨rfl,b,rfl,cb,ub⟩
  have bs:=cb.size
  dsimp only
  refine wpS_bind (wpS_mono (wpS_forRange (I:=fun x c st'=>st'=mk κ b pd g/\∃ l r,c=(none,l,r)/\l<=r/\r<=k/\r - l<=k - x/\(∀ i,lo<=i->i < lo+l->K rk b i<=K rk b (lo+k))/\∀ i,lo+r<=i->i < lo+k->K rk b (lo+k) < K rk b i)
   (Q:=fun c st'=>st'=mk κ b pd g/\∃ l r,c=(none,l,r)/\l<=k/\(∀ i,lo<=i->i < lo+l->K rk b i<=K rk b (lo+k))/\∀ i,lo+l<=i->i < lo+k->K rk b (lo+k) < K rk b i) ?istep ?ifin ⟨rfl,0,k,rfl,by omega,by omega,by omega,fun i h1 h2=>by omega,fun i h1 h2=>by omega⟩) ?ipost)
  case ifin =>
   rintro c st' ⟨rfl,l,r,rfl,h1,h2,h3,h4,h5⟩
   have:l=r:=by omega
   subst this
   exact⟨rfl,l,l,rfl,h2,h4,h5⟩
  case istep =>
   rintro x c st' _ hx ⟨rfl,l,r,rfl,h1,h2,h3,h4,h5⟩
   dsimp only
   by_cases hge:l >= r
   ·rw[if_pos hge]
    have:l=r:=by omega
    subst this
    exact wpS_pure ⟨rfl,l,l,rfl,h2,h4,h5⟩
   ·rw[if_neg hge]
    refine wpS_bind (ltat L (cb.all hS) (by omega) (by omega) ?_)
    by_cases hw:K rk b (lo+k) < K rk b (lo+(l+r) / 2)
    ·simp only[hw,decide_true,if_true]
     exact wpS_pure ⟨rfl,l,_,rfl,by omega,by omega,by omega,h4,fun i a1 a2=>Nat.lt_of_lt_of_le hw (ub _ i (by omega) a1 a2)⟩
    ·simp only[hw,decide_false,Bool.false_eq_true,if_false]
     exact wpS_pure ⟨rfl,_,r,rfl,by omega,by omega,by omega,fun i a1 a2=>Nat.le_trans (ub i (lo+(l+r) / 2) a1 (by omega) (by omega)) (Nat.not_lt.mp hw),h5⟩
  case ipost =>
   rintro c st' ⟨rfl,l,r,rfl,h1,h4,h5⟩
   have e:lo+k - (lo+k - (lo+l))=lo+l:=by omega
   refine wpS_bind (wpS_modify (wpS_pure ⟨rfl,bubble b (lo+k) (lo+k - (lo+l)),rfl,cb.trans (Ch.bub (by omega) (by omega) (by omega) (by omega)),fun i j a1 a2 a3=>?_⟩))
   rw[K_bub (by omega) (by omega),K_bub (by omega) (by omega),e]
   by_cases i1:i=lo+l
   ·rw[if_pos i1]
    by_cases j1:j=lo+l
    ·rw[if_pos j1];exact Nat.le_refl _
    ·rw[if_neg j1,if_pos (by omega)]
     exact Nat.le_of_lt (h5 _ (by omega) (by omega))
   ·rw[if_neg i1]
    by_cases i2:lo+l < i/\i<=lo+k
    ·rw[if_pos i2,if_neg (by omega),if_pos (by omega)]
     exact ub _ _ (by omega) (by omega) (by omega)
    ·rw[if_neg i2]
     by_cases j1:j=lo+l
     ·rw[if_pos j1];exact h4 i a1 (by omega)
     ·rw[if_neg j1]
      by_cases j2:lo+l < j/\j<=lo+k
      ·rw[if_pos j2];exact ub _ _ (by omega) (by omega) (by omega)
      ·rw[if_neg j2];exact ub _ _ (by omega) (by omega) (by omega)
end
end SortB
end
section
namespace SortB
open PySem PySem.W PyProof.Rows
def Cov(rk:Keyed->Nat)(a:Array Keyed):List (Nat×Nat×Nat)->Nat->Nat->Prop
 | [],lo,hi=>lo=hi
 | (s,n,_)::r,lo,hi=>s=lo/\0 < n/\Up rk a lo (lo+n)/\Cov rk a r (lo+n) hi
section
variable{rk:Keyed->Nat}{a b:Array Keyed}{l r:List (Nat×Nat×Nat)}{lo hi mid:Nat}
theorem Cov.le:∀ {l:List (Nat×Nat×Nat)} {lo hi:Nat},Cov rk a l lo hi->lo+l.length<=hi
 | [],lo,hi,h=>by have:lo=hi:=h;simp;omega
 | (s,n,p)::r,lo,hi,h=>by
  obtain⟨_,h1,_,h2⟩:=h
  have:=Cov.le h2
  rw[List.length_cons];omega
theorem Cov.app:∀ {l:List (Nat×Nat×Nat)} {lo:Nat},Cov rk a (l++r) lo hi↔∃ mid,Cov rk a l lo mid/\Cov rk a r mid hi
 | [],lo=>⟨fun h=>⟨lo,rfl,h⟩,fun⟨m,e,h⟩=>by have:lo=m:=e;subst this;exact h⟩
 | (s,n,p)::l,lo=>by
  show(s=lo/\0 < n/\Up rk a lo (lo+n)/\Cov rk a (l++r) (lo+n) hi)↔∃ mid,(s=lo/\0 < n/\Up rk a lo (lo+n)/\Cov rk a l (lo+n) mid)/\Cov rk a r mid hi
  rw[Cov.app]
  exact⟨fun⟨a1,a2,a3,m,a4,a5⟩=>⟨m,⟨a1,a2,a3,a4⟩,a5⟩,fun⟨m,⟨a1,a2,a3,a4⟩,a5⟩=>⟨a1,a2,a3,m,a4,a5⟩⟩
theorem Cov.ext:∀ {l:List (Nat×Nat×Nat)} {lo:Nat},Cov rk a l lo hi->(∀ j,lo<=j->j < hi->K rk b j=K rk a j)->Cov rk b l lo hi
 | [],_,h,_=>h
 | (s,n,p)::l,lo,h,e=>by
  obtain⟨a1,a2,a3,a4⟩:=h
  have:=Cov.le a4
  exact⟨a1,a2,a3.ext fun i h1 h2=>e i h1 (by omega),a4.ext fun j h1 h2=>e j (by omega) h2⟩
theorem Cov.pow:∀ {l l':List (Nat×Nat×Nat)} {lo:Nat},l.map (fun x=>(x.1,x.2.1))=l'.map (fun x=>(x.1,x.2.1))->Cov rk a l lo hi->Cov rk a l' lo hi
 | [],[],_,_,h=>h
 | [],_::_,_,e,_=>by simp at e
 | _::_,[],_,e,_=>by simp at e
 | (s,n,p)::l,(s',n',p')::l',lo,e,h=>by
  simp only[List.map_cons,List.cons.injEq,Prod.mk.injEq]at e
  obtain⟨⟨rfl,rfl⟩,e⟩:=e
  obtain⟨a1,a2,a3,a4⟩:=h
  exact⟨a1,a2,a3,Cov.pow e a4⟩
theorem split2{l:List (Nat×Nat×Nat)}{i:Nat}(h:i+1 < l.length):l=l.take i++l[i]::l[i+1]::l.drop (i+2):=by
 have e1:l.drop i=l[i]::l.drop (i+1):=List.drop_eq_getElem_cons (by omega)
 have e2:l.drop (i+1)=l[i+1]::l.drop (i+1+1):=List.drop_eq_getElem_cons h
 rw[<- e2,<- e1,List.take_append_drop]
theorem fuse{pd:Array (Nat×Nat×Nat)}{i:Nat}{v:Nat×Nat×Nat}(h:i+1 < pd.size):((pd.setIfInBounds i v).eraseIdxIfInBounds (i+1)).toList=pd.toList.take i++v::pd.toList.drop (i+2):=by
 have hs:i+1 < (pd.setIfInBounds i v).size:=by simpa using h
 rw[Array.eraseIdxIfInBounds_eq,dif_pos hs,Array.toList_eraseIdx,Array.toList_setIfInBounds,List.eraseIdx_eq_take_drop_succ]
 rw[List.set_eq_take_append_cons_drop,if_pos (by simp;omega)]
 have e1:(pd.toList.take i).length=i:=by simp;omega
 rw[List.take_append,List.drop_append,e1,List.take_of_length_le (by omega),List.drop_of_length_le (by omega:(pd.toList.take i).length<=i+1+1)]
 rw[show i+1 - i=1 by omega,show i+1+1 - i=2 by omega]
 simp
end
section
variable{prog:Program}{w:World}{A:Around}{E:Value->Shared->Prop}{s:Shared}{κ:SortKind}{rk:Keyed->Nat}{S:Keyed->Prop}
theorem merge_step(L:LtOk prog w A E s κ rk S){b:Array Keyed}{pd:Array (Nat×Nat×Nat)}{g i hi:Nat}{Q:Bool->SortSt->Prop}(hS:∀ x∈b,S x)(hsz:hi<=b.size)(cv:Cov rk b pd.toList 0 hi)(hi1:i+1 < pd.size)
 (h:∀ c pd' g',Ch rk 0 hi b c->Cov rk c pd'.toList 0 hi->pd'.size+1=pd.size->Q true (mk κ c pd' g')):wpS (model prog w) A E s (mergeAt' i) Q (mk κ b pd g):=by
 have hl:i+1 < pd.toList.length:=by simpa using hi1
 have sp:=split2 hl
 rw[sp]at cv
 obtain⟨mid,c1,c2⟩:=Cov.app.mp cv
 have g1:pd[i]?=some pd.toList[i]:=by simp[show i < pd.size by omega]
 have g2:pd[i+1]?=some pd.toList[i+1]:=by simp[hi1]
 generalize pd.toList[i]=u at c2 g1 sp
 generalize pd.toList[i+1]=v at c2 g2 sp
 obtain⟨sa,na,p⟩:=u
 obtain⟨sb,nb,q⟩:=v
 obtain⟨rfl,n1,u1,rfl,n2,u2,c3⟩:=c2
 have le3:=c3.le
 refine mergeAt_ok L rfl rfl hS g1 g2 n1 n2 (by show sa+na+nb<=b.size;omega) u1 u2 fun c g' ch up=>h c _ g' (ch.mono (Nat.zero_le _) (by omega)) ?_ ?_
 ·show Cov rk c ((pd.setIfInBounds i (sa,na+nb,p)).eraseIdxIfInBounds (i+1)).toList 0 hi
  rw[fuse hi1]
  have le1:=c1.le
  refine Cov.app.mpr ⟨sa,c1.ext fun j h1 h2=>ch.out j (by omega),rfl,by omega,?_,?_⟩
  ·rw[<- Nat.add_assoc];exact up
  ·rw[<- Nat.add_assoc];exact c3.ext fun j h1 h2=>ch.out j (by omega)
 ·show((pd.setIfInBounds i (sa,na+nb,p)).eraseIdxIfInBounds (i+1)).size+1=pd.size
  rw[<- Array.length_toList,fuse hi1]
  simp
  omega
theorem sortRuns_ok(L:LtOk prog w A E s κ rk S){a:Array Keyed}{g:Nat}{Q:Unit->SortSt->Prop}(hS:∀ x∈a,S x)(h2:2<=a.size)
 (h:∀ b pd g,b.Perm a->Up rk b 0 a.size->Q () (mk κ b pd g)):wpS (model prog w) A E s sortRuns' Q (mk κ a #[] g):=by
 have pend:∀ b pd g,pendingOf (mk κ b pd g)=pd:=fun _ _ _=>rfl
 rw[sortRuns'_eq]
 refine wpS_bind (wpS_get ?_)
 dsimp only
 rw[show arrOf (mk κ a #[] g)=a from rfl]
 generalize minRun' a.size a.size 0=mr
 refine wpS_bind (wpS_mono (wpS_forRange (I:=fun x c st'=>∃ lo b pd g,c=(none,lo)/\st'=mk κ b pd g/\b.Perm a/\lo<=a.size/\x<=lo/\Cov rk b pd.toList 0 lo)
  (Q:=fun c st'=>∃ b pd g,c=(none,a.size)/\st'=mk κ b pd g/\b.Perm a/\Cov rk b pd.toList 0 a.size) ?step ?fin ⟨0,a,#[],g,rfl,rfl,Array.Perm.refl _,by omega,by omega,rfl⟩) ?post)
 case fin =>
  rintro c st' ⟨lo,b,pd,g,rfl,rfl,pb,h1,h3,cv⟩
  have:lo=a.size:=by omega
  subst this
  exact⟨b,pd,g,rfl,rfl,pb,cv⟩
 case post =>
  rintro c st' ⟨b,pd,g,rfl,rfl,pb,cv⟩
  dsimp only
  have hlen:pd.size<=a.size:=by have:=cv.le;simpa using this
  refine wpS_bind (wpS_mono (wpS_forRange (I:=fun x c st'=>c=(none,())/\∃ b pd g,st'=mk κ b pd g/\b.Perm a/\Cov rk b pd.toList 0 a.size/\pd.size+x<=a.size) (Q:=fun c st'=>c=(none,())/\∃ b pd g,st'=mk κ b pd g/\b.Perm a/\Cov rk b pd.toList 0 a.size/\pd.size<=1) ?lstep ?lfin ⟨rfl,b,pd,g,rfl,pb,cv,hlen⟩) ?lpost)
  case lfin =>
   rintro c st' ⟨rfl,b,pd,g,rfl,pb,cv,hx⟩
   exact⟨rfl,b,pd,g,rfl,pb,cv,by omega⟩
  case lpost =>
   rintro c st' ⟨rfl,b,pd,g,rfl,pb,cv,hx⟩
   refine wpS_pure (h b pd g pb ?_)
   have hx':pd.toList.length<=1:=by simpa using hx
   match hpd:pd.toList,hx',cv with
   | [],_,cv=>have:0=a.size:=cv;omega
   | [(s0,n0,p0)],_,cv =>
    obtain⟨e1,_,u,e2⟩:=cv
    have e2:0+n0=a.size:=e2
    rw[<- e2];exact u
   | _::_::_,hx',_=>simp at hx'
  case lstep =>
   rintro x c st' _ hx ⟨rfl,b,pd,g,rfl,pb,cv,hx2⟩
   refine wpS_bind (wpS_get ?_)
   rw[pend]
   by_cases hs:pd.size<=1
   ·rw[if_pos hs]
    exact wpS_pure ⟨rfl,b,pd,g,rfl,pb,cv,hs⟩
   rw[if_neg hs]
   refine wpS_bind (merge_step L (fun x hx=>hS x (pb.mem_iff.mp hx)) (by rw[pb.size_eq];exact Nat.le_refl _) cv ?_ fun c pd' g' ch cv' hsz=>?_)
   ·have hif:∀ (c:Bool) (i:Nat),(if c=true then i - 1 else i)<=i:=fun c i=>by cases c <;> simp
    exact Nat.lt_of_le_of_lt (Nat.add_le_add_right (hif _ _) 1) (by omega)
   ·exact wpS_pure ⟨rfl,c,pd',g',rfl,ch.perm.trans pb,cv',by omega⟩
 case step =>
  rintro x c st' _ hx ⟨lo,b,pd,g,rfl,rfl,pb,h1,h3,cv⟩
  dsimp only
  by_cases hge:lo >= a.size
  ·rw[if_pos hge]
   have:lo=a.size:=by omega
   subst this
   exact wpS_pure ⟨b,pd,g,rfl,rfl,pb,cv⟩
  rw[if_neg hge]
  have bsz:=pb.size_eq
  suffices T:∀ (n:Nat) (b:Array Keyed),1<=n->lo+n<=a.size->b.Perm a->Cov rk b pd.toList 0 lo->Up rk b lo (lo+n)->wpS (model prog w) A E s _ _ (mk κ b pd g) by
   refine wpS_bind (countRun_ok L (fun x hx=>hS x (pb.mem_iff.mp hx)) (by omega) (by omega) fun found b1 f1 f2 ch1 up1=>?_)
   dsimp only
   have pb1:b1.Perm a:=ch1.perm.trans pb
   have cv1:Cov rk b1 pd.toList 0 lo:=cv.ext fun j _ h=>ch1.out j (by omega)
   by_cases hm:¬ found < mr
   ·rw[if_neg hm]
    exact T found b1 f1 (by omega) pb1 cv1 up1
   ·have hm:found < mr:=by omega
    rw[if_pos hm]
    refine wpS_bind (wpS_lift (wpAny_rule ⟨rfl,?_⟩))
    have bsz1:=pb1.size_eq
    refine wpS_bind (binarySort_ok L (fun x hx=>hS x (pb1.mem_iff.mp hx)) (by omega) f1 (by omega) up1 fun b2 ch2 up2=>?_)
    rw[if_neg (by simp)]
    exact T _ b2 (by omega) (by omega) (ch2.perm.trans pb1) (cv1.ext fun j _ h=>ch2.out j (by omega)) up2
  clear cv pb bsz
  intro n b hn1 hn2 pb cv up
  have bsz:=pb.size_eq
  refine wpS_bind (wpS_get ?_)
  rw[pend]
  cases hb:pd.back? with
  | none =>
   dsimp only
   refine wpS_bind (wpS_modify (wpS_pure ⟨lo+n,b,pd.push (lo,n,0),g,rfl,rfl,pb,hn2,by omega,?_⟩))
   rw[Array.toList_push]
   exact Cov.app.mpr ⟨lo,cv,rfl,hn1,up,rfl⟩
  | some q =>
   obtain⟨s1,n1,p1⟩:=q
   dsimp only
   generalize power' a.size (2 * s1+n1) (2 * s1+n1+n1+n) a.size=pw
   refine wpS_bind (wpS_mono (wpS_forRange (I:=fun y c st'=>c=(none,())/\∃ b pd g,st'=mk κ b pd g/\b.Perm a/\Cov rk b pd.toList 0 lo/\Up rk b lo (lo+n)) (Q:=fun c st'=>c=(none,())/\∃ b pd g,st'=mk κ b pd g/\b.Perm a/\Cov rk b pd.toList 0 lo/\Up rk b lo (lo+n)) ?mstep (fun _ _ z=>z) ⟨rfl,b,pd,g,rfl,pb,cv,up⟩) ?mpost)
   case mstep =>
    rintro y c st' _ _ ⟨rfl,b,pd,g,rfl,pb,cv,up⟩
    refine wpS_bind (wpS_get ?_)
    rw[pend]
    have bsz:=pb.size_eq
    by_cases hs:pd.size > 1
    ·rw[if_pos hs]
     cases hq:pd[pd.size - 2]? with
     | none=>exact wpS_pure ⟨rfl,b,pd,g,rfl,pb,cv,up⟩
     | some q =>
      obtain⟨s2,n2,p2⟩:=q
      dsimp only
      by_cases ho:p2<=pw
      ·rw[if_pos ho]
       exact wpS_pure ⟨rfl,b,pd,g,rfl,pb,cv,up⟩
      ·rw[if_neg ho]
       refine wpS_bind (merge_step L (fun x hx=>hS x (pb.mem_iff.mp hx)) (by omega) cv (by omega) fun c pd' g' ch cv' hsz=>?_)
       rw[if_neg (by simp)]
       exact wpS_pure ⟨rfl,c,pd',g',rfl,ch.perm.trans pb,cv',up.ext fun i h1 h2=>ch.out i (by omega)⟩
    ·rw[if_neg hs]
     exact wpS_pure ⟨rfl,b,pd,g,rfl,pb,cv,up⟩
   case mpost =>
    rintro c st' ⟨rfl,b,pd,g,rfl,pb,cv,up⟩
    dsimp only
    refine wpS_bind (wpS_modify (wpS_bind (wpS_modify (wpS_pure ⟨lo+n,b,_,g,rfl,rfl,pb,hn2,by omega,?_⟩))))
    show Cov rk b ((pd.modify (pd.size - 1) fun x=>(x.1,x.2.1,pw)).push (lo,n,0)).toList 0 (lo+n)
    rw[Array.toList_push]
    refine Cov.app.mpr ⟨lo,Cov.pow ?_ cv,rfl,hn1,up,rfl⟩
    rw[Array.toList_modify]
    apply List.ext_getElem?
    intro i
    rw[List.getElem?_map,List.getElem?_map,List.getElem?_modify]
    cases pd.toList[i]? with
    | none=>rfl
    | some v=>simp only[Option.map_some];split <;> rfl
end
end SortB
end
section
namespace SortB
open PySem PySem.W PyProof.Rows
theorem perm_lift{α β:Type}{f:α->β}{l' m:List β}(p:l'.Perm m):∀ l:List α,m=l.map f->∃ q:List α,q.Perm l/\l'=q.map f:=by
 induction p with
 | nil=>intro l e;exact⟨[],by rw[List.map_eq_nil_iff.mp e.symm],rfl⟩
 | cons x p ih =>
  intro l e
  cases l with
  | nil=>simp at e
  | cons a l =>
   simp only[List.map_cons,List.cons.injEq]at e
   obtain⟨q,hq,rfl⟩:=ih l e.2
   exact⟨a::q,hq.cons a,by rw[List.map_cons,e.1]⟩
 | swap x y l0 =>
  intro l e
  match l,e with
  | a::b::l,e =>
   simp only[List.map_cons,List.cons.injEq]at e
   exact⟨b::a::l,List.Perm.swap a b l,by rw[List.map_cons,List.map_cons,e.1,e.2.1,e.2.2]⟩
 | trans p1 p2 ih1 ih2 =>
  intro l e
  obtain⟨q2,h2,e2⟩:=ih2 l e
  obtain⟨q1,h1,e1⟩:=ih1 q2 e2
  exact⟨q1,h1.trans h2,e1⟩
open Classical in
noncomputable def rkOf (it:Nat->Keyed) (n:Nat) (r:Nat->Nat) (x:Keyed):Nat:=if h:∃ i,i < n/\it i=x then r h.choose else 0
theorem rkOf_at{it:Nat->Keyed}{n:Nat}{r:Nat->Nat}(hw:∀ i j,i < n->j < n->it i=it j->r i=r j){i:Nat}(hi:i < n):rkOf it n r (it i)=r i:=by
 unfold rkOf
 have h:∃ j,j < n/\it j=it i:=⟨i,hi,rfl⟩
 rw[dif_pos h]
 exact hw _ _ h.choose_spec.1 hi h.choose_spec.2
section
variable{prog:Program}{w:World}{A:Around}{E:Value->Shared->Prop}{s:Shared}{κ:SortKind}{ks vs:List Value}{r:Nat->Nat}
theorem big_run(hl:ks.length=vs.length)(h2:2<=vs.length)(hc:∀ i j (C:Bool->Shared->Prop),i < vs.length->j < vs.length->C (decide (r i < r j)) s->kas_ask prog w A κ ks i j C s)
 (hw:∀ i j,i < vs.length->j < vs.length->ks.getD i Value.none=ks.getD j Value.none->r i=r j) :
 wpAny (model prog w) A (sortRuns'.run (SortSt.mk' κ (ks.toArray.zip vs.toArray) #[] 7 none)) (fun x s'=>∃ p:Array Nat,arrOf x.2=p.map (kas_item (ks.toArray.zip vs.toArray))/\failedOf x.2=none/\s'=s/\SortT.Ok vs.length p/\SortT.Up r p vs.length) E s:=by
 have it:∀ i,kas_item (ks.toArray.zip vs.toArray) i=(ks.getD i Value.none,vs.getD i Value.none):=kat_item hl
 have sz:(ks.toArray.zip vs.toArray).size=vs.length:=by simp[hl]
 have rng:=kas_range (ks.toArray.zip vs.toArray)
 rw[sz]at rng
 have al:(ks.toArray.zip vs.toArray).toList=(List.range vs.length).map (kas_item (ks.toArray.zip vs.toArray)):=by
  have:=congrArg Array.toList rng
  rw[Array.toList_map]at this
  exact this.symm
 have hw':∀ i j,i < vs.length->j < vs.length->kas_item (ks.toArray.zip vs.toArray) i=kas_item (ks.toArray.zip vs.toArray) j->r i=r j:=fun i j hi hj e=>by
  rw[it,it]at e
  exact hw i j hi hj (Prod.mk.inj e).1
 have L:LtOk prog w A E s κ (rkOf (kas_item (ks.toArray.zip vs.toArray)) vs.length r) (fun x=>∃ i,i < vs.length/\kas_item (ks.toArray.zip vs.toArray) i=x):=by
  rintro x y st Q hk ⟨i,hi,rfl⟩ ⟨j,hj,rfl⟩ hq
  rw[rkOf_at hw' hi,rkOf_at hw' hj]at hq
  rw[lt'_eq]
  refine wpS_bind (wpS_get ?_)
  rw[hk,it,it]
  have:=hc i j (fun b s'=>s'=s/\b=decide (r i < r j)) hi hj ⟨rfl,rfl⟩
  unfold kas_ask at this
  refine wpS_bind (wpS_lift (wpAny_attempt (wpAny_mono this (fun b s' hb=>?_) fun _ _ z=>z.elim)))
  obtain⟨e1,e2⟩:=hb
  subst e1 e2
  exact⟨rfl,wpS_pure hq⟩
 have run:=sortRuns_ok L (a:=ks.toArray.zip vs.toArray) (g:=7) (Q:=fun _ st'=>∃ p:Array Nat,arrOf st'=p.map (kas_item (ks.toArray.zip vs.toArray))/\failedOf st'=none/\SortT.Ok vs.length p/\SortT.Up r p vs.length) (fun x hx=>?_) (by omega) fun b pd g pb up=>?_
 ·unfold wpS at run
  refine wpAny_mono run (fun x s' hx=>?_) fun _ _ z=>z
  obtain⟨e,p,a1,a2,a3,a4⟩:=hx
  exact⟨p,a1,a2,e,a3,a4⟩
 ·have:=Array.mem_toList_iff.mpr hx
  rw[al]at this
  obtain⟨i,hi,e⟩:=List.mem_map.mp this
  exact⟨i,List.mem_range.mp hi,e⟩
 ·have pl:=Array.perm_iff_toList_perm.mp pb
  obtain⟨q,hq,eq⟩:=perm_lift pl _ al
  have ql:q.length=vs.length:=by rw[hq.length_eq,List.length_range]
  have hb:b=q.toArray.map (kas_item (ks.toArray.zip vs.toArray)):=by
   apply Array.toList_inj.mp
   rw[Array.toList_map,eq]
  refine⟨q.toArray,hb,rfl,⟨by rw[List.size_toArray,ql],Array.perm_iff_toList_perm.mpr (by simpa using hq)⟩,fun i j hij hj=>?_⟩
  have hu:=up i j (Nat.zero_le _) hij (by omega)
  have kk:∀ i,i < vs.length->K (rkOf (kas_item (ks.toArray.zip vs.toArray)) vs.length r) b i=SortT.K r q.toArray i:=fun i hi=>by
   have hi':i < q.length:=by omega
   have hib:i < b.size:=by rw[hb];simp;omega
   rw[K_get hib]
   have e1:b[i]=kas_item (ks.toArray.zip vs.toArray) q[i]:=by simp[hb]
   have e2:q[i] < vs.length:=List.mem_range.mp (hq.mem_iff.mp (List.getElem_mem hi'))
   rw[e1,rkOf_at hw' e2]
   unfold SortT.K
   simp[Array.getD,hi']
  rw[kk i (by omega),kk j hj]at hu
  exact hu
end
end SortB
end
section
namespace L2
open PySem PySem.Spec PyProof.Rows PySem.W
theorem katLex_V{prog:Program}{w:World}{A:Around}{s:Shared}{Q:Bool->Shared->Prop}{b:Bool}{r:Bool}(q:Q r s):∀ (xs ys:List V) (us ws:List Value) (i:Nat) (fin:Bool),Vals xs us->Vals ys ws->HT.lexV xs ys=some r ->
 fin=decide (xs.length < ys.length)->(b=true->i=0->∀ x∈xs.head?,∃ n,x=V.int n)->KatLex prog w A b fin Q (us.zip ws) i s:=by
 intro xs
 induction xs with
 | nil =>
  intro ys us ws i fin rx ry hl hf hb
  cases rx
  cases ry with
  | nil=>rw[HT.lexV_nil_nil]at hl;cases hl;rw[hf];exact kat_nil q
  | cons c d=>rw[HT.lexV_nil_cons]at hl;cases hl;rw[hf];exact kat_nil (by simpa using q)
 | cons x xs ih =>
  intro ys us ws i fin rx ry hl hf hb
  cases rx with
  | cons r1 rt =>
   rename_i u us
   cases ry with
   | nil=>rw[HT.lexV_cons_nil]at hl;cases hl;rw[hf];exact kat_nil (by simpa using q)
   | cons r2 rt2 =>
    rename_i y w2 ys ws
    rw[List.zip_cons_cons]
    have hf':fin=decide (xs.length < ys.length):=by rw[hf];simp
    cases x with
    | int m =>
     cases y with
     | int n =>
      obtain⟨t,rfl⟩:=r1
      obtain⟨t2,rfl⟩:=r2
      simp only[HT.lexV]at hl
      refine kat_cons (wpAny_eqBool_int ?_)
      by_cases e:m=n
      ·rw[if_pos e]at hl
       rw[show(m == n)=true by simpa using e]
       exact kat_yes (ih ys _ _ (i+1) fin rt rt2 hl hf' fun _ z=>absurd z (by omega))
      ·rw[if_neg e]at hl
       cases hl
       rw[show(m == n)=false by simpa using e]
       refine kat_no ?_
       cases eb:(b && i == 0) with
       | true=>exact oneLt_int q
       | false=>exact kat_one _ _ (lt_int (show PySem.W.BoolBack Q (.bool _) s from q))
     | _=>simp[HT.lexV]at hl
    | str m =>
     cases y with
     | str n =>
      obtain⟨t,rfl⟩:=r1
      obtain⟨t2,rfl⟩:=r2
      simp only[HT.lexV]at hl
      refine kat_cons (PyProof.Rows.eqBool_str ?_)
      by_cases e:m=n
      ·rw[if_pos e]at hl
       rw[show(m == n)=true by simpa using e]
       exact kat_yes (ih ys _ _ (i+1) fin rt rt2 hl hf' fun _ z=>absurd z (by omega))
      ·rw[if_neg e]at hl
       cases hl
       rw[show(m == n)=false by simpa using e]
       refine kat_no ?_
       cases eb:(b && i == 0) with
       | true =>
        rw[Bool.and_eq_true]at eb
        obtain⟨n',z⟩:=hb eb.1 (by simpa using eb.2) _ rfl
        cases z
       | false=>exact kat_one _ _ (lt_str (show PySem.W.BoolBack Q (.bool _) s from q))
     | _=>simp[HT.lexV]at hl
    | _=>cases y <;> simp[HT.lexV]at hl
theorem Inv.adopt{X:Cx}{pins:List (Addr×Obj)}{σ:St}{H:Hp}{s:Shared}{h':Heap}{D:Addr}{o:HO}{t':Nat}(I:Inv X pins σ H s)(f:FpOk X pins H D)(k:∀ b u,b≠D->s.heap.get? b=some u->h'.get? b=some u)
 (new:ObjOk X.prog X.w (upd H D o) h' D o):Inv X pins σ (upd H D o) { s with heap:=h',toks:=t' }:=by
 obtain⟨f0,f1,f2,f3,f4,f5⟩:=f
 have nit:∀ b u,H b=some u->b≠D:=fun b u e z=>by rw[z,f0]at e;cases e
 refine I.step (g':=s.gens) (d':=s.drawn) (ch:=[D]) (fun b hb=>?_) (fun b o _ _ hc e _=>k b o (fun z=>hc (by simp[z])) e) (fun b o _ _ hc e _=>⟨o.slots,k b o (fun z=>hc (by simp[z])) e⟩) (fun b _ hc _ n=>by rw[upd_ne (fun z=>hc (by simp[z]))];exact n)
  (fun b o hc e=>⟨o,k b o (fun z=>hc (by simp[z])) e⟩) (fun b _ e=>by rw[upd_ne (nit _ _ e)];exact e) (fun b _ _ e=>by rw[upd_ne (nit _ _ e)];exact e) (fun b ps e=>⟨#[],by rw[upd_ne (nit _ _ e),e];simp⟩) (fun m hm=>?_) (fun b u e=>?_) I.bare
 ·have e:b=D:=by simpa using hb
  subst e
  exact⟨f3,f1,f4,f5⟩
 ·obtain⟨o,es,ep,ho,r⟩:=hm
  exact⟨o,es,ep,k _ o (Ne.symm f1) ho,r⟩
 ·by_cases hb:b=D
  ·subst hb;rw[upd_same]at e;cases e;exact new
  ·rw[upd_ne hb]at e
   refine(I.hok b u e).stay (fun c v hc q=>k c v ?_ q) (fun c q=>by rw[upd_ne (nit _ _ q)];exact q) fun c xs q=>by rw[upd_ne (nit _ _ q)];exact q
   rcases hc with z | z
   ·rw[z];exact hb
   ·exact nit c _ z
theorem Vals.getD:∀ {xs:List V} {us:List Value},Vals xs us->∀ i,RelV (xs.getD i .non) (us.getD i Value.none):=fun {xs us} r i=>by
 cases e:xs[i]? with
 | none =>
  have e2:=r.none_of e
  rw[List.getD_eq_getElem?_getD,List.getD_eq_getElem?_getD,e,e2]
  rfl
 | some x =>
  obtain⟨u,e2,ru⟩:=r.get e
  rw[List.getD_eq_getElem?_getD,List.getD_eq_getElem?_getD,e,e2]
  exact ru
theorem Vals.pick{xs:List V}{us:List Value}(r:Vals xs us):∀ l:List Nat,Vals (l.map fun i=>xs.getD i .non) (l.map fun i=>us.getD i Value.none)
 | []=>.nil
 | i::l=>.cons (r.getD i) (r.pick l)
theorem countP_lt{α:Type}{p q:α->Bool}:∀ {l:List α} {a:α},(∀ x∈l,p x=true->q x=true)->a∈l->q a=true->p a=false->l.countP p < l.countP q
 | x::l,a,h,hm,hq,hp=>by
  have mono:l.countP p<=l.countP q:=List.countP_mono_left fun y hy=>h y (List.mem_cons_of_mem _ hy)
  rw[List.countP_cons,List.countP_cons]
  rcases List.mem_cons.mp hm with e | e
  ·subst e
   rw[hq,hp]
   simp only[Bool.false_eq_true,if_false,if_true]
   omega
  ·have ih:=countP_lt (fun y hy=>h y (List.mem_cons_of_mem _ hy)) e hq hp
   have hx:=h x List.mem_cons_self
   cases hpx:p x with
   | false=>simp only[Bool.false_eq_true,if_false];split <;> omega
   | true=>rw[hx hpx];simp only[if_true];omega
structure Swo{α:Type}(xs:List α)(lt:α->α->Bool):Prop where
 irr:∀ a∈xs,lt a a=false
 tr:∀ a∈xs,∀ b∈xs,∀ c∈xs,lt a b=true->lt b c=true->lt a c=true
 neg:∀ a∈xs,∀ b∈xs,∀ c∈xs,lt a c=true->lt a b=true\/lt b c=true
theorem Swo.rank{α:Type}{xs:List α}{lt:α->α->Bool}(w:Swo xs lt){a b:α}(ha:a∈xs)(hb:b∈xs):decide (xs.countP (lt · a) < xs.countP (lt · b))=lt a b:=by
 cases e:lt a b with
 | true=>exact decide_eq_true (countP_lt (fun x hx h=>w.tr x hx a ha b hb h e) ha e (w.irr a ha))
 | false =>
  refine decide_eq_false fun h=>?_
  have:xs.countP (lt · b)<=xs.countP (lt · a):=List.countP_mono_left fun x hx h=>(w.neg x hx a ha b hb h).elim id fun z=>by rw[e]at z;cases z
  omega
theorem getD_mem{α:Type}{xs:List α}{i:Nat}{d:α}(h:i < xs.length):xs.getD i d∈xs:=by
 rw[List.getD_eq_getElem?_getD,List.getElem?_eq_getElem h]
 exact List.getElem_mem h
theorem picks_perm{α:Type}{xs:List α}{d:α}{p:Array Nat}(h:SortT.Ok xs.length p):(p.toList.map fun i=>xs.getD i d).Perm xs:=by
 have h1:p.toList.Perm (List.range xs.length):=by
  have:=Array.perm_iff_toList_perm.mp h.perm
  simpa using this
 have h2:=h1.map (fun i=>xs.getD i d)
 have h3:(List.range xs.length).map (fun i=>xs.getD i d)=xs:=by
  apply List.ext_getElem
  ·simp
  ·intro i h1 h2
   simp[h2]
 rw[h3]at h2
 exact h2
theorem picks_up{xs:List V}{lt:V->V->Bool}(w:Swo xs lt){p:Array Nat}(h:SortT.Ok xs.length p)(hn:0 < xs.length)(u:SortT.Up (fun i=>xs.countP (lt · (xs.getD i .non))) p xs.length) :
 (p.toList.map fun i=>xs.getD i V.non).Pairwise fun a b=>lt b a=false:=by
 rw[List.pairwise_iff_getElem]
 intro i j hi hj hij
 have hi':i < p.size:=by simpa using hi
 have hj':j < p.size:=by simpa using hj
 have hjn:j < xs.length:=by rw[<- h.size];exact hj'
 have:=u i j (by omega) hjn
 unfold SortT.K at this
 have gi:p.getD i 0=p[i]:=by simp[Array.getD,hi']
 have gj:p.getD j 0=p[j]:=by simp[Array.getD,hj']
 have li:=h.lt hn i
 have lj:=h.lt hn j
 rw[gi]at this li
 rw[gj]at this lj
 have e1:(p.toList.map fun i=>xs.getD i V.non)[i]=xs.getD p[i] .non:=by simp
 have e2:(p.toList.map fun i=>xs.getD i V.non)[j]=xs.getD p[j] .non:=by simp
 rw[e1,e2,<- w.rank (getD_mem lj) (getD_mem li)]
 dsimp only at this
 exact decide_eq_false (by omega)
end L2
end
section
namespace L2
open PySem PySem.Spec PyProof.Rows PySem.W
section
variable{X:Cx}{pins:List (Addr×Obj)}{σ:St}{H:Hp}{s:Shared}{k:Nat}{f:Addr}{fd:FuncData}{p0:Str}{sp:Sp}{A:Around}{E:Value->Shared->Prop}
structure KeyF(K:PySem.W.Frag)(sp:Sp)(H:Hp)(xs:List V)(rk:V->List V)(lt:V->V->Bool):Prop where
 hd:∀ v∈xs,∃ n r,rk v=.int n::r
 key:∀ v∈xs,∀ H2,Same H H2->∀ R:VK,(∀ p H3,Same H2 H3->SqT K H3 p (rk v)->R (.ref p) H3)->sp [v] H2 R E0
 lex:∀ v∈xs,∀ u∈xs,HT.lexV (rk v) (rk u)=some (lt v u)
 swo:Swo xs lt
def KeysAt(K:PySem.W.Frag)(H:Hp)(rk:V->List V)(xs:List V)(ks:List Value):Prop :=
 ∃ ps:List Addr,ks=ps.map Value.ref/\∀ (j:Nat) p v,ps[j]?=some p->xs[j]?=some v->SqT K H p (rk v)
theorem key_call(F:FnOk X.prog X.w X.K X.mg X.base CX0 k f fd [p0] sp)(hb:Binds X.K fd [p0] [])(hr:Room k A)(hfr:A.frames=some X.stack)(I:Inv X pins σ H s){v:V}{u:Value}(r:RelV v u){R:VK}(h:sp [v] H R E0) :
 wpAny (model X.prog X.w) A (call (.ref f) [u]) (EP X pins σ R) (fun _ _=>False) s:=by
 have e0:=I.env0
 refine wpAny_call (codeAny_mono (F.run A X.stack s H ⟨[u],[]⟩ [u] [v] R E0 hr ⟨hfr,e0.mod,e0.bs,e0.bsz,e0.funs,e0.frf,e0.hok,e0.bare⟩ (hb s [u] I.kIn rfl) (.cons r .nil) h) fun r s' hq=>?_)
 cases r with
 | error e=>exact hq
 | ok fl =>
  cases fl with
  | ret u=>exact I.after hq
  | next=>exact False.elim hq
  | brk=>exact False.elim hq
  | cont=>exact False.elim hq
theorem sort_tail{D kS:Addr}{e e1:Nat}{ks:List Value}{out:List Value}{ys:List V}{st:SortSt}{P:PySem.Fin->Shared->Prop}(I:Inv X (pins++[(D,seqObj "list" #[] e1)]) σ H s)(fD:FpOk X pins H D)(fK:FpOk X (pins++[(D,seqObj "list" #[] e1)]) H kS)
 (hk:s.heap.get? kS=some (seqObj "list" ks.toArray e)) (hkl:ks.length < 1000) (hout:(arrOf st).map (·.2)=List.toArray out) (hf:failedOf st=none) (rv:Vals ys out) (hl:ys.length < 1000)
 (h:∀ s',Inv X pins σ (upd H D (.lst ys)) s'->P (.done (.ret .none)) s'):wpAny (model X.prog X.w) A (ksk_tail D false e1 (.ref kS) st) P E s:=by
 have hD:=(I.pin (D,seqObj "list" #[] e1) (List.mem_append_right _ (List.mem_append_right _ (by simp)))).1
 have hDk:D≠kS:=fK.2.2.2.2.2 (D,seqObj "list" #[] e1) (List.mem_append_right _ (List.mem_append_right _ (by simp)))
 have s1:=Heap.SameBut.update s.heap kS (Obj.mapSeq fun _=>(#[]:Array Value))
 have I1:Inv X (pins++[(D,seqObj "list" #[] e1)]) σ H { s with heap:=s.heap.update kS (Obj.mapSeq fun _=>(#[]:Array Value)) } :=
  I.turned (t':=s.toks) (fun b o hb q=>(s1.2 b hb).trans q) fK.1 fK.2.1 fK.2.2.2.1 fK.2.2.2.2.1 fK.2.2.2.2.2
 have hD1:=(I1.pin (D,seqObj "list" #[] e1) (List.mem_append_right _ (List.mem_append_right _ (by simp)))).1
 have s2:=Heap.SameBut.update (s.heap.update kS (Obj.mapSeq fun _=>(#[]:Array Value))) D (Obj.mapSeq fun _=>List.toArray out)
 obtain⟨c2,hc2⟩:∃ c2,((s.heap.update kS (Obj.mapSeq fun _=>(#[]:Array Value))).update D (Obj.mapSeq fun _=>List.toArray out)).get? D=some (seqObj "list" (List.toArray out) c2):=⟨_,get?_update_seq hD1 fun _=>List.toArray out⟩
 have ho:out.length < 1000:=by rw[<- rv.length];exact hl
 unfold ksk_tail
 try dsimp only
 rw[hout]
 simp only[Bool.false_eq_true,if_false]
 refine wpAny_bind (listUpdate_at hk rfl ?_ (by rw[List.size_toArray];exact Nat.le_of_lt (small1000 (by omega))) (Nat.zero_le _))
 refine wpAny_bind (wpAny_letGo ?_)
 refine wpAny_bind (seqEpoch_at hD1 rfl ?_)
 refine wpAny_bind (listUpdate_at hD1 rfl ?_ (Nat.zero_le _) (by rw[List.size_toArray];exact Nat.le_succ_of_le (Nat.le_of_lt (small1000 (by omega)))))
 rw[hf]
 simp only[bne_self_eq_false,Bool.false_eq_true,if_false]
 refine wpAny_pure (h _ ?_)
 exact(I1.unpinned).adopt (t':=s.toks) fD (fun b u hb q=>(s2.2 b hb).trans q) ⟨Nat.le_of_lt (small1000 (by omega)),out,c2,rv,hc2⟩
theorem keys_tups{rk:V->List V}{xs:List V}:∀ {ks:List Value},(I:Inv X pins σ H s)->(∀ v∈xs,∃ n r,rk v=.int n::r)->ks.length=xs.length->KeysAt X.K H rk xs ks ->
 ∃ fs,KatTups s.heap ks fs/\fs.length=ks.length/\∀ g∈fs,∃ n t,g=Value.int n t:=by
 induction xs with
 | nil =>
  intro ks I hd hl hk
  match ks,hl with
  | [],_=>exact⟨[],KatTups.nil,rfl,fun _ h=>nomatch h⟩
 | cons x xs ih =>
  intro ks I hd hl hk
  obtain⟨ps,rfl,hp⟩:=hk
  match ps,hl,hp with
  | p::ps,hl,hp =>
   rw[List.map_cons,List.length_cons,List.length_cons]at hl
   obtain⟨fs,h1,h2,h3⟩:=ih (ks:=ps.map Value.ref) I (fun v hv=>hd v (List.mem_cons_of_mem _ hv)) (by omega) ⟨ps,rfl,fun j p' v e1 e2=>hp (j+1) p' v (by simpa using e1) (by simpa using e2)⟩
   have ht:=hp 0 p x rfl rfl
   obtain⟨its,r,⟨ob,e,c,n,d⟩,_⟩:=I.tuple ht
   obtain⟨m,rs,em⟩:=hd x List.mem_cons_self
   rw[em]at r
   cases r with
   | cons ra rt =>
    obtain⟨t,rfl⟩:=ra
    exact⟨Value.int m t::fs,KatTups.cons e c d (by simp) h1,by simp[h2],fun g hg=>(List.mem_cons.mp hg).elim (fun z=>⟨m,t,z⟩) (h3 g)⟩
theorem sort_ask{rk:V->List V}{lt:V->V->Bool}{xs:List V}{ks:List Value}(I:Inv X pins σ H s)(hK:KeyF X.K sp H xs rk lt)(hl:ks.length=xs.length)(hk:KeysAt X.K H rk xs ks){i j:Nat}(hi:i < xs.length)(hj:j < xs.length)
 {C:Bool->Shared->Prop} (h:C (lt (xs.getD i .non) (xs.getD j .non)) s):kas_ask X.prog X.w A (tuples' true) ks i j C s:=by
 obtain⟨ps,rfl,hp⟩:=hk
 rw[List.length_map]at hl
 have gi:(ps.map Value.ref).getD i Value.none=Value.ref (ps[i]'(by omega)):=by simp[show i < ps.length by omega]
 have gj:(ps.map Value.ref).getD j Value.none=Value.ref (ps[j]'(by omega)):=by simp[show j < ps.length by omega]
 have xi:xs.getD i V.non=xs[i]:=by simp[hi]
 have xj:xs.getD j V.non=xs[j]:=by simp[hj]
 unfold kas_ask
 rw[gi,gj]
 rw[xi,xj]at h
 obtain⟨its,r,⟨ob,e,c,n,d⟩,_⟩:=I.tuple (hp i _ xs[i] (List.getElem?_eq_getElem (by omega)) (List.getElem?_eq_getElem hi))
 obtain⟨its2,r2,⟨ob2,e2,c2,n2,d2⟩,_⟩:=I.tuple (hp j _ xs[j] (List.getElem?_eq_getElem (by omega)) (List.getElem?_eq_getElem hj))
 refine kat_lt e d e2 d2 (katLex_V (b:=true) h _ _ _ _ 0 _ (by simpa using r) (by simpa using r2) (hK.lex _ (List.getElem_mem hi) _ (List.getElem_mem hj)) ?_ fun _ _ x hx=>?_)
 ·rw[List.size_toArray,List.size_toArray,r.length,r2.length]
 ·obtain⟨m,rs,em⟩:=hK.hd xs[i] (List.getElem_mem hi)
  rw[em]at hx
  exact⟨m,(Option.some.inj hx).symm⟩
theorem pw_small{α:Type}{R:α->α->Prop}:∀ {xs:List α},xs.length < 2->xs.Pairwise R
 | [],_=>List.Pairwise.nil
 | [a],_=>List.pairwise_singleton _ _
theorem sort_end{D kS:Addr}{e e1:Nat}{ks:List Value}{vs:List Value}{xs:List V}{rk:V->List V}{lt:V->V->Bool}{P:PySem.Fin->Shared->Prop}(I:Inv X (pins++[(D,seqObj "list" #[] e1)]) σ H s)(fD:FpOk X pins H D)(fK:FpOk X (pins++[(D,seqObj "list" #[] e1)]) H kS)
 (hk:s.heap.get? kS=some (seqObj "list" ks.toArray e)) (h64:xs.length < 1000) (hl:ks.length=xs.length) (hK:KeyF X.K sp H xs rk lt) (hks:KeysAt X.K H rk xs ks) (rv:Vals xs vs)
 (h:∀ ys s',Inv X pins σ (upd H D (.lst ys)) s'->ys.Perm xs->ys.Pairwise (fun a b=>lt b a=false)->P (.done (.ret .none)) s'):wpAny (model X.prog X.w) A (ksk_end D false vs.toArray e1 (.ref kS) ks.toArray) P E s:=by
 have hlv:=rv.length
 unfold ksk_end
 simp only[Bool.false_eq_true,if_false]
 by_cases h2:vs.toArray.size < 2
 ·rw[if_pos h2,if_pos h2]
  refine wpAny_bind (wpAny_pure ?_)
  rw[StateT.run_pure]
  refine wpAny_bind (wpAny_pure ?_)
  try dsimp only
  refine sort_tail (st:=SortSt.mk' general' (ks.toArray.zip vs.toArray) #[] 7 none) I fD fK hk (by omega) (out:=vs) ?_ rfl rv (by omega) fun s' I'=>h xs s' I' (List.Perm.refl _) ?_
  ·apply Array.toList_inj.mp
   show(Array.map (·.2) (ks.toArray.zip vs.toArray)).toList=_
   rw[Array.toList_map,ksk_zip]
   show List.map (·.2) (ks.zip vs)=vs
   exact List.map_snd_zip (by omega)
  ·rw[List.size_toArray]at h2
   exact pw_small (by omega)
 ·rw[if_neg h2,if_neg h2]
  rw[List.size_toArray]at h2
  obtain⟨fs,t1,t2,t3⟩:=keys_tups I hK.hd hl hks
  refine wpAny_bind (kat_kind (T:=.type "int") t1 (by omega) (fun v hv=>?_) (by decide) ?_)
  ·obtain⟨n,t,rfl⟩:=t3 v hv
   exact Looks.of_pure rfl
  have et:(Value.type "int" != Value.type "tuple")=true:=by decide
  rw[et]
  have hn:0 < xs.length:=by omega
  have run:=SortB.big_run (prog:=X.prog) (w:=X.w) (A:=A) (E:=E) (κ:=tuples' true) (ks:=ks) (vs:=vs) (s:=s) (r:=fun i=>xs.countP (lt · (xs.getD i .non))) (by omega) (by omega)
   (fun i j C hi hj hC=>by
    rw[<- hlv]at hi hj
    rw[hK.swo.rank (getD_mem hi) (getD_mem hj)]at hC
    exact sort_ask I hK hl hks hi hj hC)
   (fun i j hi hj e=>by
    rw[<- hlv]at hi hj
    obtain⟨ps,rfl,hp⟩:=hks
    rw[List.length_map]at hl
    have gi:(ps.map Value.ref).getD i Value.none=Value.ref (ps[i]'(by omega)):=by simp[show i < ps.length by omega]
    have gj:(ps.map Value.ref).getD j Value.none=Value.ref (ps[j]'(by omega)):=by simp[show j < ps.length by omega]
    rw[gi,gj]at e
    have ti:=hp i _ xs[i] (List.getElem?_eq_getElem (by omega)) (List.getElem?_eq_getElem hi)
    have tj:=hp j _ xs[j] (List.getElem?_eq_getElem (by omega)) (List.getElem?_eq_getElem hj)
    rw[Value.ref.inj e]at ti
    have same:=I.tuple_inj ti tj
    have xi:xs.getD i V.non=xs[i]:=by simp[hi]
    have xj:xs.getD j V.non=xs[j]:=by simp[hj]
    have mi:=List.getElem_mem hi
    have mj:=List.getElem_mem hj
    have l1:lt xs[i] xs[j]=false:=by
     have a1:=hK.lex _ mi _ mj
     rw[same,hK.lex _ mj _ mj,hK.swo.irr _ mj]at a1
     exact(Option.some.inj a1).symm
    have l2:lt xs[j] xs[i]=false:=by
     have a1:=hK.lex _ mj _ mi
     rw[same,hK.lex _ mj _ mj,hK.swo.irr _ mj]at a1
     exact(Option.some.inj a1).symm
    have r1:=hK.swo.rank mi mj
    have r2:=hK.swo.rank mj mi
    rw[l1]at r1
    rw[l2]at r2
    have r1:=of_decide_eq_false r1
    have r2:=of_decide_eq_false r2
    show xs.countP (lt · (xs.getD i .non))=xs.countP (lt · (xs.getD j .non))
    rw[xi,xj]
    omega)
  rw[<- hlv]at run
  refine wpAny_bind (wpAny_mono run ?_ fun _ _ x=>x)
  rintro⟨⟨⟩,st'⟩ s' ⟨p,har,hf,es,ok,up⟩
  subst es
  have hout:=kat_snds (by omega) har
  exact sort_tail I fD fK hk (by omega) hout hf (rv.pick p.toList) (by rw[List.length_map,Array.length_toList,ok.size];omega) fun s' I'=>h _ s' I' (picks_perm ok) (picks_up hK.swo ok hn up)
theorem sort_rest{D kS:Addr}{e1:Nat}{vs:List Value}{xs:List V}{rk:V->List V}{lt:V->V->Bool}{P:PySem.Fin->Shared->Prop}(F:FnOk X.prog X.w X.K X.mg X.base CX0 k f fd [p0] sp)(hb:Binds X.K fd [p0] [])(hr:Room k A)(hfr:A.frames=some X.stack)
 (I:Inv X (pins++[(D,seqObj "list" #[] e1)]) σ H s) (fD:FpOk X pins H D) (fK:FpOk X (pins++[(D,seqObj "list" #[] e1)]) H kS)
 (hk:s.heap.get? kS=some (seqObj "list" #[] 0)) (h64:xs.length < 1000) (hK:KeyF X.K sp H xs rk lt) (rv:Vals xs vs)
 (h:∀ H' ys s',Same H H'->Inv X pins σ (upd H' D (.lst ys)) s'->H' D=none->ys.Perm xs->ys.Pairwise (fun a b=>lt b a=false)->P (.done (.ret .none)) s'):wpAny (model X.prog X.w) A (ksk_rest D (.ref f) false vs.toArray e1 (.ref kS)) P E s:=by
 have hlv:=rv.length
 unfold ksk_rest
 refine wpAny_bind (wpAny_rule ?_)
 first
  | rw[List.forIn_toArray]
  | (rw[<- Array.forIn_toList];simp only[List.toList_toArray])
  | rw[<- Array.forIn_toList]
 refine wpAny_bind (ksk_fold (fun i s'=>∃ (H':Hp) (ks:List Value) (e:Nat),Inv X (pins++[(D,seqObj "list" #[] e1)]) σ H' s'/\Same H H'/\H' kS=none/\s'.heap.get? kS=some (seqObj "list" ks.toArray e)/\ks.length=i/\KeysAt X.K H' rk xs ks)
  vs 0 s ⟨H,[],0,I,Same.refl _,fK.1,hk,rfl,[],rfl,fun j p v e1 _=>by simp at e1⟩ (fun j x s' hx hJ=>?_) fun s' hJ=>?_)
 ·rw[Nat.zero_add]at hJ
  obtain⟨H',ks,e,I',sm,hn,hk',hl,ps,rfl,hp⟩:=hJ
  rw[List.length_map]at hl
  have hj:j < xs.length:=by rw[hlv];exact(List.getElem?_eq_some_iff.mp hx).1
  obtain⟨u,hu,ru⟩:=rv.get (List.getElem?_eq_getElem hj)
  rw[hx]at hu
  cases hu
  have I2:Inv X ((pins++[(D,seqObj "list" #[] e1)])++[(kS,seqObj "list" (ps.map Value.ref).toArray e)]) σ H' s':=I'.pins_of fun p hp=>(List.mem_append.mp hp).elim (fun z=>I'.pin p (List.mem_append_right _ z)) fun z=>by
   have z:p=(kS,seqObj "list" (ps.map Value.ref).toArray e):=by simpa using z
   subst z
   exact⟨hk',hn,fK.2.1,fK.2.2.1,fun v q=>by cases q⟩
  refine wpAny_bind (wpAny_attempt (wpAny_mono (key_call F hb hr hfr I2 ru (hK.key xs[j] (List.getElem_mem hj) H' sm (fun v H3=>∃ p,v=.ref p/\Same H' H3/\SqT X.K H3 p (rk xs[j])) fun p H3 s3 t3=>⟨p,rfl,s3,t3⟩)) (fun u s'' hu=>?_) fun _ _ hF=>hF.elim))
  obtain⟨v,H3,I3,r3,p,rfl,s3,t3⟩:=hu
  cases r3
  have hk3:=(I3.pin (kS,seqObj "list" (ps.map Value.ref).toArray e) (List.mem_append_right _ (List.mem_append_right _ (by simp))))
  have s1:=Heap.SameBut.update s''.heap kS (Obj.mapSeq (·.push (Value.ref p)))
  have ea:(List.toArray (ps.map Value.ref)).push (Value.ref p)=List.toArray ((ps++[p]).map Value.ref):=by simp
  obtain⟨c2,hc2⟩:∃ c2,(s''.heap.update kS (Obj.mapSeq (·.push (Value.ref p)))).get? kS=some (seqObj "list" (List.toArray ((ps++[p]).map Value.ref)) c2):=⟨_,by rw[<- ea];exact get?_update_seq hk3.1 (·.push (Value.ref p))⟩
  try dsimp only
  refine wpAny_bind (listUpdate_at hk3.1 rfl ?_ (by rw[List.size_toArray,List.length_map];exact Nat.le_of_lt (small1000 (by omega))) (by rw[Array.size_push,List.size_toArray,List.length_map];exact Nat.succ_le_succ (Nat.le_of_lt (small1000 (by omega)))))
  refine wpAny_pure ⟨rfl,H3,_,c2,I3.unpinned.turned (t':=s''.toks) (fun b o hb q=>(s1.2 b hb).trans q) hk3.2.1 fK.2.1 fK.2.2.2.1 fK.2.2.2.2.1 fK.2.2.2.2.2,sm.trans s3,hk3.2.1,hc2,by rw[List.length_map,List.length_append,hl];simp,ps++[p],rfl,fun i q v e1 e2=>?_⟩
  by_cases hi:i < ps.length
  ·rw[List.getElem?_append_left hi]at e1
   exact s3.seqT (hp i q v e1 e2)
  ·rw[List.getElem?_append_right (by omega)]at e1
   have hz:i - ps.length=0:=by
    cases q':i - ps.length with
    | zero=>rfl
    | succ m=>rw[q']at e1;simp at e1
   rw[hz]at e1
   have:i=j:=by omega
   subst this
   rw[List.getElem?_eq_getElem hj]at e2
   simp at e1
   cases e1
   cases e2
   exact t3
 ·rw[Nat.zero_add]at hJ
  obtain⟨H',ks,e,I',sm,hn,hk',hl,hks⟩:=hJ
  refine wpAny_bind (listItems_at hk' rfl ?_)
  have hD0:=(I'.pin (D,seqObj "list" #[] e1) (List.mem_append_right _ (List.mem_append_right _ (by simp)))).2.1
  exact sort_end I' ⟨hD0,fD.2⟩ ⟨hn,fK.2⟩ hk' h64 (by omega) ⟨hK.hd,fun v hv H2 s2=>hK.key v hv H2 (sm.trans s2),hK.lex,hK.swo⟩ hks rv fun ys s'' I'' p1 p2=>h H' ys s'' sm I'' hD0 p1 p2
end
end L2
end
section
namespace L2
open PySem PySem.Spec PyProof.Rows PySem.W
theorem bo_sorted:bootBuiltins "sorted"=some (.builtin "sorted"):=by decide +kernel
theorem copied(h:Heap)(vs:List Value):((h.push (seqObj "list" #[] 0)).update h.objs.size (Obj.mapSeq (·++vs.toArray))).objs.size=h.objs.size+1 /\
 ∀ b o,h.get? b=some o->((h.push (seqObj "list" #[] 0)).update h.objs.size (Obj.mapSeq (·++vs.toArray))).get? b=some o:=by
 constructor
 ·simp only[Heap.size_update,size_push']
 ·intro b o q
  have nb:b≠h.objs.size:=Nat.ne_of_lt (Heap.lt_size q)
  exact((Heap.SameBut.update (h.push (seqObj "list" #[] 0)) h.objs.size _).2 b nb).trans (Heap.get?_push_of_some _ q)
section
variable{X:Cx}{pins:List (Addr×Obj)}{σ:St}{H:Hp}{s:Shared}{k:Nat}{f:Addr}{fd:FuncData}{p0:Str}{sp:Sp}
theorem sorted_run{l:Addr}{xs:List V}{rk:V->List V}{lt:V->V->Bool}{Q:VK}(F:FnOk X.prog X.w X.K X.mg X.base CX0 k f fd [p0] sp)(hb:Binds X.K fd [p0] [])(hr:Room (k+2) X.A)
 (I:Inv X pins σ H s) (hl:SqL X.K H l xs) (h64:xs.length < 1000) (hK:KeyF X.K sp H xs rk lt)
 (h:∀ D H' ys,Same H H'->H D=none->H' D=some (.lst ys)->ys.Perm xs->ys.Pairwise (fun a b=>lt b a=false)->Q (.ref D) H') :
 wpAny (model X.prog X.w) X.A (call (.builtin "sorted") [.ref l] [(Str.ofString "key",.ref f)]) (EP X pins σ Q) X.xe s:=by
 obtain⟨vs,rv,pl,hz⟩:=I.list hl
 have hlv:=rv.length
 have hvz:vs.length<=sizeLine:=by rw[<- hlv];exact hz
 refine call_function_entry_kw kind_sorted plain_sorted entry_sorted (ksk_s1 _ _) ?_
 unfold Builtin.«sorted»
 refine wpAny_bind (m:=checkCount "sorted" 1 1 _) (wpAny_pure ?_)
 refine wpAny_bind (collect_list pl.isList ?_ hvz)
 refine wpAny_bind (wpAny_newList ?_ hvz)
 obtain⟨hsz,kept1⟩:=copied s.heap vs
 have hoL:=Heap.get?_push_size ((s.heap.push (seqObj "list" #[] 0)).update s.heap.objs.size (Obj.mapSeq (·++vs.toArray))) (o:=seqObj "list" vs.toArray 0) rfl
 rw[hsz]at hoL
 have keep:=fun b o q=>Heap.get?_push_of_some (seqObj "list" vs.toArray 0) (kept1 b o q)
 have I1:Inv X pins σ H { s with heap:=((s.heap.push (seqObj "list" #[] 0)).update s.heap.objs.size (Obj.mapSeq (·++vs.toArray))).push (seqObj "list" vs.toArray 0) }:=I.kept (t':=s.toks) keep
 have fD:FpOk X pins H (s.heap.objs.size+1):=I.fpOk (Nat.le_succ _) (I.hok.fresh (Nat.le_succ _))
 show wpAny _ _ _ _ _ { s with heap:=((s.heap.push (seqObj "list" #[] 0)).update s.heap.objs.size (Obj.mapSeq (·++vs.toArray))).push (seqObj "list" vs.toArray 0) }
 rw[hsz]
 generalize ((s.heap.push (seqObj "list" #[] 0)).update s.heap.objs.size (Obj.mapSeq (·++vs.toArray))).push (seqObj "list" vs.toArray 0)=h1 at hoL I1
 generalize s.heap.objs.size+1=D at hoL fD
 refine wpAny_bind (wpAny_holding (wpAny_call_entry_kw slot_list_sort ⟨_,hoL,rfl⟩ entry_list_sort ?body (ksk_l1 _ _)))
 case body =>
  rw[ksk_t1]
  unfold ksk_tree
  have s1:=Heap.SameBut.update h1 D (Obj.mapSeq fun _=>(#[]:Array Value))
  obtain⟨e1,ho1⟩:∃ e1,(h1.update D (Obj.mapSeq fun _=>(#[]:Array Value))).get? D=some (seqObj "list" #[] e1):=⟨_,get?_update_seq hoL fun _=>#[]⟩
  have I2:Inv X pins σ H { s with heap:=h1.update D (Obj.mapSeq fun _=>(#[]:Array Value)) }:=I1.turned (t':=s.toks) (fun b o hb q=>(s1.2 b hb).trans q) fD.1 fD.2.1 fD.2.2.2.1 fD.2.2.2.2.1 fD.2.2.2.2.2
  have I3:Inv X (pins++[(D,seqObj "list" #[] e1)]) σ H { s with heap:=h1.update D (Obj.mapSeq fun _=>(#[]:Array Value)) }:=I2.pins_of fun p hp=>(List.mem_append.mp hp).elim (fun z=>I2.pin p (List.mem_append_right _ z)) fun z=>by
   have z:p=(D,seqObj "list" #[] e1):=by simpa using z
   subst z
   exact⟨ho1,fD.1,fD.2.1,fD.2.2.1,fun v q=>by cases q⟩
  have I4:Inv X (pins++[(D,seqObj "list" #[] e1)]) σ H { s with heap:=(h1.update D (Obj.mapSeq fun _=>(#[]:Array Value))).push (seqObj "tuple" vs.toArray 0) }:=I3.kept (t':=s.toks) fun b u q=>Heap.get?_push_of_some _ q
  have fK:FpOk X (pins++[(D,seqObj "list" #[] e1)]) H ((h1.update D (Obj.mapSeq fun _=>(#[]:Array Value))).push (seqObj "tuple" vs.toArray 0)).objs.size:=I4.fpOk (Nat.le_refl _) (I4.hok.fresh (Nat.le_refl _))
  have I5:Inv X (pins++[(D,seqObj "list" #[] e1)]) σ H { s with heap:=((h1.update D (Obj.mapSeq fun _=>(#[]:Array Value))).push (seqObj "tuple" vs.toArray 0)).push (seqObj "list" #[] 0) }:=I4.kept (t':=s.toks) fun b u q=>Heap.get?_push_of_some _ q
  refine wpAny_bind (listItems_at hoL rfl ?_)
  refine wpAny_bind (listUpdate_at hoL rfl ?_ (by rw[List.size_toArray];exact hvz) (Nat.zero_le _))
  refine wpAny_bind (seqEpoch_at ho1 rfl ?_)
  refine wpAny_bind (wpAny_newTuple ?_ (by show vs.length<=_;exact hvz))
  refine wpAny_bind (wpAny_newList ?_ (Nat.zero_le _))
  refine wpAny_holding ?_
  refine sort_rest (s:={ s with heap:=((h1.update D (Obj.mapSeq fun _=>(#[]:Array Value))).push (seqObj "tuple" vs.toArray 0)).push (seqObj "list" #[] 0) }) F hb hr.in1.in1 I.ok.frames I5 fD fK (Heap.get?_push_size _ rfl) h64 hK rv fun H' ys s' sm I' hD p1 p2=>?_
  exact⟨_,rfl,wpAny_pure ⟨_,rfl,.ref D,_,I',rfl,h D _ ys (sm.updL fD.1 _) fD.1 upd_same p1 p2⟩⟩
def tSortK(K:PySem.W.Frag)(sp:Sp)(te:TE):TE:=fun σ H Q=>te σ H fun x H1=>∃ a xs rk lt,x=.ref a/\SqL K H1 a xs/\xs.length < 64/\KeyF K sp H1 xs rk lt /\
 ∀ D H' ys,Same H1 H'->H1 D=none->H' D=some (.lst ys)->ys.Perm xs->ys.Pairwise (fun a b=>lt b a=false)->Q (.ref D) H'
theorem pe_sortedK{j:Nat}{fx:Str}{e:Expr}{te:TE}{p kp kpos pos:Pos}(G:Cal X.prog X.w X.K X.mg X.base j fx [p0] sp)(hr:Room k X.A)(hj:j+2<=k)(hs:Gl X "sorted")(hm:X.mg "sorted"=none)(hf:Gl X fx)(he:PE X e te)
 (hdb:(fx == ("__debug__":Str))=false:=by decide) (hst:starEach [e] X.env=[(false,eval e X.env)]:=by rfl) :
 PE X (.Call (.Name "sorted" p) [e] [⟨some "key",.Name fx kp,kpos⟩] pos) (tSortK X.K sp te):=by
 obtain⟨f,fd,F,b,kpt,m⟩:=G
 intro pins s σ H Q I h
 refine wpAny_Call_Name_kw (ld_blt I hs hm bo_sorted ?_)
 refine callWith_kw (thn (pa_cons he pa_nil hst pos pins s σ H (fun vs H1=>∃ x,vs=[x]/\∃ a xs rk lt,x=.ref a/\SqL X.K H1 a xs/\xs.length < 64/\KeyF X.K sp H1 xs rk lt /\
  ∀ D H' ys,Same H1 H'->H1 D=none->H' D=some (.lst ys)->ys.Perm xs->ys.Pairwise (fun a b=>lt b a=false)->Q (.ref D) H') I ?_) fun us s1 ⟨vs,H1,I1,r1,x,ex,a,xs,rk,lt,ea,hl,h64,hK,q⟩=>?_) (by rw[hst];rfl) (by rw[hst];rfl)
 ·show te σ H _
  exact(show(te σ H fun x H1=>_) from h) |> fun z=>by
   refine(?_:te σ H _)
   have:=z
   simpa only[tNil,exists_eq_left',List.cons.injEq,and_true]using this
 ·subst ex ea
  obtain⟨u,rfl,ru⟩:=vals1 r1
  obtain rfl:u=Value.ref a:=ru
  refine thn (pk_cons (nm:=some "key") (pe_glob hf m (v:=.ref f) rfl hdb) pk_nil pos pins s1 σ H1 (fun zs H2=>zs=[.ref f]/\H2=H1) I1 ⟨rfl,rfl⟩) fun ws s2 ⟨zs,H2,I2,rz,ez,eH⟩=>?_
  subst ez eH
  obtain⟨u2,rfl,ru2⟩:=vals1 rz
  obtain rfl:u2=Value.ref f:=ru2
  exact sorted_run F b (hr.mono hj) I2 hl (by omega) hK q
def tSortKB(K:PySem.W.Frag)(sp:Sp)(te:TE):TE:=fun σ H Q=>te σ H fun x H1=>∃ a xs rk lt,x=.ref a/\SqL K H1 a xs/\xs.length < 1000/\KeyF K sp H1 xs rk lt /\
 ∀ D H' ys,Same H1 H'->H1 D=none->H' D=some (.lst ys)->ys.Perm xs->ys.Pairwise (fun a b=>lt b a=false)->Q (.ref D) H'
end
end L2
end
section
namespace L2
open PySem PySem.Spec PyProof.Rows
section
variable{X:Cx}{e:Expr}{es:List Expr}{te:TE}{pos:Pos}
def tFmtI(te:TE):TE:=fun σ H Q=>te σ H fun x H1=>∃ i:Int,x=.int i/\i.natAbs.log2 < 1920/\Q (.str (toString i)) H1
def tFmtS(te:TE):TE:=fun σ H Q=>te σ H fun x H1=>∃ z:Str,x=.str z/\z.length<=sizeLine/\Q (.str z) H1
def tParts:List TE->Str->TE
 | [],acc=>fun _ H Q=>acc.length<=sizeLine/\Q (.str acc) H
 | t::ts,acc=>fun σ H Q=>t σ H fun x H1=>∃ z:Str,x=.str z/\(acc++z).length<=sizeLine/\tParts ts (acc++z) σ H1 Q
def tJoinF(ts:List TE):TE:=tParts ts Str.empty
end
theorem empty_add(z:Str):Str.empty++z=z:=by
 apply PyProof.Rows.ext_toList
 rw[PySem.W.KT.app_list];rfl
end L2
end
section
namespace Pl
open PySem L2
def plainV:V->Prop
 | .non=>True
 | .int i => -(10 ^ 30) < i/\i < 10 ^ 30
 | .str z=>z.length<=40
 | _=>False
def rk:V->List V
 | .non=>[.int 0,.int 0]
 | .str z=>[.int 2,.str z]
 | v=>[.int 1,v]
def ltV(a b:V):Bool:=(HT.lexV (rk a) (rk b)).getD false
theorem lex_rk{a b:V}(ha:plainV a)(hb:plainV b):HT.lexV (rk a) (rk b)=some (ltV a b):=by
 unfold ltV
 cases a <;> first | exact ha.elim | skip
 all_goals (cases b <;> first | exact hb.elim | skip)
 all_goals (simp only[rk,HT.lexV];repeat' (first | rfl | split))
theorem lt_nn:ltV .non .non=false:=rfl
theorem lt_ni(i:Int):ltV .non (.int i)=true:=rfl
theorem lt_ns(z:Str):ltV .non (.str z)=true:=rfl
theorem lt_in(i:Int):ltV (.int i) .non=false:=rfl
theorem lt_sn(z:Str):ltV (.str z) .non=false:=rfl
theorem lt_is(i:Int)(z:Str):ltV (.int i) (.str z)=true:=rfl
theorem lt_si(i:Int)(z:Str):ltV (.str z) (.int i)=false:=rfl
theorem lt_ii(i j:Int):ltV (.int i) (.int j)=decide (i < j):=by
 unfold ltV
 simp only[rk,HT.lexV,if_true]
 by_cases e:i=j
 ·rw[if_pos e];subst e;simp
 ·rw[if_neg e];rfl
theorem lt_ss(x y:Str):ltV (.str x) (.str y)=decide (x.cps.toList < y.cps.toList):=by
 unfold ltV
 simp only[rk,HT.lexV,if_true]
 by_cases e:x=y
 ·rw[if_pos e];subst e
  have:¬ (x.cps.toList < x.cps.toList):=List.lt_irrefl _
  simp[this]
 ·rw[if_neg e];rfl
theorem irr{a:V}(ha:plainV a):ltV a a=false:=by
 cases a <;> first | exact ha.elim | skip
 ·rfl
 ·rw[lt_ii];simp
 ·rw[lt_ss];exact decide_eq_false (List.lt_irrefl _)
theorem tr{a b c:V}(ha:plainV a)(hb:plainV b)(hc:plainV c)(h1:ltV a b=true)(h2:ltV b c=true):ltV a c=true:=by
 cases a <;> first | exact ha.elim | skip
 all_goals (cases b <;> first | exact hb.elim | skip)
 all_goals (cases c <;> first | exact hc.elim | skip)
 all_goals first | rfl | (exfalso;rw[lt_nn]at h1;cases h1;done) | (exfalso;rw[lt_in]at h1;cases h1;done) | (exfalso;rw[lt_sn]at h1;cases h1;done) | (exfalso;rw[lt_si]at h1;cases h1;done) | (exfalso;rw[lt_nn]at h2;cases h2;done) | (exfalso;rw[lt_in]at h2;cases h2;done) | (exfalso;rw[lt_sn]at h2;cases h2;done) | (exfalso;rw[lt_si]at h2;cases h2;done) | skip
 ·rw[lt_ii,decide_eq_true_eq]at *;omega
 ·rw[lt_ss,decide_eq_true_eq]at *;exact List.lt_trans h1 h2
theorem tri{a b:V}(ha:plainV a)(hb:plainV b)(h1:ltV a b=false)(h2:ltV b a=false):a=b:=by
 cases a <;> first | exact ha.elim | skip
 all_goals (cases b <;> first | exact hb.elim | skip)
 all_goals first | rfl | (exfalso;rw[lt_ni]at h1;cases h1;done) | (exfalso;rw[lt_ns]at h1;cases h1;done) | (exfalso;rw[lt_is]at h1;cases h1;done) | (exfalso;rw[lt_ni]at h2;cases h2;done) | (exfalso;rw[lt_ns]at h2;cases h2;done) | (exfalso;rw[lt_is]at h2;cases h2;done) | skip
 ·rw[lt_ii,decide_eq_false_iff_not]at *
  congr 1;omega
 ·rw[lt_ss,decide_eq_false_iff_not]at *
  congr 1
  exact PyProof.Rows.ext_toList (List.le_antisymm (List.not_lt.mp h2) (List.not_lt.mp h1))
theorem neg{a b c:V}(ha:plainV a)(hb:plainV b)(hc:plainV c)(h:ltV a c=true):ltV a b=true\/ltV b c=true:=by
 cases e:ltV a b with
 | true=>exact .inl rfl
 | false =>
  cases e2:ltV b a with
  | true=>exact .inr (tr hb ha hc e2 h)
  | false=>rw[tri ha hb e e2]at h;exact .inr h
theorem swo{xs:List V}(h:∀ v∈xs,plainV v):Swo xs ltV:=⟨fun a ha=>irr (h a ha),fun a ha b hb c hc=>tr (h a ha) (h b hb) (h c hc),fun a ha b hb c hc=>neg (h a ha) (h b hb) (h c hc)⟩
theorem asym{a b:V}(ha:plainV a)(hb:plainV b)(h:ltV a b=true):ltV b a=false:=by
 cases e:ltV b a with
 | false=>rfl
 | true=>have:=tr ha hb ha h e;rw[irr ha]at this;cases this
theorem rk_hd(v:V):∃ n r,rk v=.int n::r:=by cases v <;> exact⟨_,_,rfl⟩
structure Rise(xs ys:List V):Prop where
 up:ys.Pairwise fun a b=>ltV a b=true
 mem:∀ v,v∈ys↔v∈xs
theorem Rise.uniq:∀ {ys zs:List V},(∀ v∈ys,plainV v)->ys.Pairwise (fun a b=>ltV a b=true)->zs.Pairwise (fun a b=>ltV a b=true)->(∀ v,v∈ys↔v∈zs)->ys=zs
 | [],[],_,_,_,_=>rfl
 | [],z::zs,_,_,_,h=>absurd ((h z).mpr List.mem_cons_self) (by simp)
 | y::ys,[],_,_,_,h=>absurd ((h y).mp List.mem_cons_self) (by simp)
 | y::ys,z::zs,p,uy,uz,h=>by
  have pz:∀ v∈z::zs,plainV v:=fun v hv=>p v ((h v).mpr hv)
  have hy:=(List.pairwise_cons.mp uy).1
  have hz:=(List.pairwise_cons.mp uz).1
  have e:y=z:=by
   rcases List.mem_cons.mp ((h y).mp List.mem_cons_self) with e | e
   ·exact e
   ·rcases List.mem_cons.mp ((h z).mpr List.mem_cons_self) with e' | e'
    ·exact e'.symm
    ·have:=asym (pz z List.mem_cons_self) (p y List.mem_cons_self) (hz y e)
     rw[hy z e']at this;cases this
  subst e
  congr 1
  refine Rise.uniq (fun v hv=>p v (List.mem_cons_of_mem _ hv)) (List.pairwise_cons.mp uy).2 (List.pairwise_cons.mp uz).2 fun v=>⟨fun hv=>?_,fun hv=>?_⟩
  ·rcases List.mem_cons.mp ((h v).mp (List.mem_cons_of_mem _ hv)) with e | e
   ·subst e;have:=hy v hv;rw[irr (p v List.mem_cons_self)]at this;cases this
   ·exact e
  ·rcases List.mem_cons.mp ((h v).mpr (List.mem_cons_of_mem _ hv)) with e | e
   ·subst e;have:=hz v hv;rw[irr (p v List.mem_cons_self)]at this;cases this
   ·exact e
structure Grow(ys:List V)(i:Nat)(fs:List V):Prop where
 up:fs.Pairwise fun a b=>ltV a b=true
 mem:∀ v,v∈fs↔v∈ys.take i
 last:∀ v,fs.getLast?=some v->∃ k,k < i/\ys[k]?=some v
 len:fs.length<=i
theorem Grow.start(ys:List V):Grow ys 0 []:=⟨List.Pairwise.nil,fun v=>by simp,fun v h=>by simp at h,Nat.zero_le _⟩
theorem take_succ_mem{ys:List V}{i:Nat}{x v:V}(hx:ys[i]?=some x):v∈ys.take (i+1)↔v∈ys.take i\/v=x:=by
 rw[List.take_succ,hx];simp
theorem Grow.put{ys fs:List V}{i:Nat}{x:V}(g:Grow ys i fs)(p:∀ v∈ys,plainV v)(so:ys.Pairwise fun a b=>ltV b a=false)(hx:ys[i]?=some x)(h:∀ l,fs.getLast?=some l->ltV l x=true):Grow ys (i+1) (fs++[x]):=by
 have px:=p x (List.mem_of_getElem? hx)
 refine⟨List.pairwise_append.mpr ⟨g.up,List.pairwise_singleton _ _,fun a ha b hb=>?_⟩,fun v=>?_,fun v hv=>?_,by have:=g.len;rw[List.length_append,List.length_singleton];omega⟩
 ·have e:b=x:=by simpa using hb
  subst e
  obtain⟨l,hl⟩:∃ l,fs.getLast?=some l:=by
   cases q:fs.getLast? with
   | none=>rw[List.getLast?_eq_none_iff]at q;rw[q]at ha;cases ha
   | some l=>exact⟨l,rfl⟩
  have pl:plainV l:=p l (List.mem_of_mem_take ((g.mem l).mp (List.mem_of_getLast? hl)))
  have pa:plainV a:=p a (List.mem_of_mem_take ((g.mem a).mp ha))
  obtain⟨fs',rfl⟩:=List.getLast?_eq_some_iff.mp hl
  rcases List.mem_append.mp ha with h' | h'
  ·exact tr pa pl px ((List.pairwise_append.mp g.up).2.2 a h' l (by simp)) (h l hl)
  ·have e:a=l:=by simpa using h'
   subst e;exact h a hl
 ·rw[take_succ_mem hx,List.mem_append,g.mem v];simp
 ·rw[List.getLast?_append]at hv
  simp at hv
  subst hv
  exact⟨i,Nat.lt_succ_self _,hx⟩
theorem Grow.skip{ys fs:List V}{i:Nat}{x l:V}(g:Grow ys i fs)(p:∀ v∈ys,plainV v)(so:ys.Pairwise fun a b=>ltV b a=false)(hx:ys[i]?=some x)(hl:fs.getLast?=some l)(h:ltV l x=false):Grow ys (i+1) fs:=by
 have px:=p x (List.mem_of_getElem? hx)
 have pl:plainV l:=p l (List.mem_of_mem_take ((g.mem l).mp (List.mem_of_getLast? hl)))
 have hxl:ltV x l=false:=by
  obtain⟨k,hk,e⟩:=g.last l hl
  obtain⟨k1,e1⟩:=List.getElem?_eq_some_iff.mp e
  obtain⟨i1,e2⟩:=List.getElem?_eq_some_iff.mp hx
  have:=(List.pairwise_iff_getElem.mp so) k i k1 i1 hk
  rw[e1,e2]at this
  exact this
 have e:l=x:=tri pl px h hxl
 refine⟨g.up,fun v=>?_,fun v hv=>?_,Nat.le_succ_of_le g.len⟩
 ·rw[take_succ_mem hx,g.mem v]
  constructor
  ·exact fun h=>.inl h
  ·rintro(h | h)
   ·exact h
   ·rw[h,<- e];exact(g.mem l).mp (List.mem_of_getLast? hl)
 ·obtain⟨k,hk,e⟩:=g.last v hv
  exact⟨k,by omega,e⟩
theorem Grow.rise{xs ys fs:List V}(g:Grow ys ys.length fs)(hp:ys.Perm xs):Rise xs fs:=⟨g.up,fun v=>by rw[g.mem v,List.take_length];exact hp.mem_iff⟩
end Pl
end
section
namespace L2
open PySem PySem.Spec PyProof.Rows
def SameT(H H':Hp):Prop:=∀ b xs,H b=some (.tup xs)->H' b=some (.tup xs)
theorem Same.t{H H':Hp}(s:Same H H'):SameT H H':=fun b xs e=>s b _ e
theorem SameT.trans{H H1 H2:Hp}(a:SameT H H1)(b:SameT H1 H2):SameT H H2:=fun c xs e=>b c xs (a c xs e)
theorem sameT_lst{H:Hp}{D:Addr}{ys zs:List V}(h:H D=some (.lst ys)):SameT H (upd H D (.lst zs)):=fun b xs e=>by
 rw[upd_ne (ne_of e h (by intro z;cases z))];exact e
theorem lcR_ofT{J:It}{te:TE}{σ:St}{H1:Hp}{Q:VK}(n:Nat)(item:Nat->V->Prop)(P:Hp->Nat->V->Prop)(mono:∀ H H' i v,SameT H H'->P H i v->P H' i v)(hz:n<=sizeLine)
 (hgo:∀ i H2,i < n->Same H1 H2->J.go i H2/\∀ x H',J.yld i H2 x H'->H'=H2/\item i x) (hst:∀ H2,Same H1 H2->J.stop n H2)
 (he:∀ i x H2 (R:VK),item i x->Same H1 H2->(∀ v H3,P H3 i v->Same H2 H3->R v H3)->te (some x::σ) H2 R)
 (hq:∀ D H2 ys,H1 D=none->Same H1 H2->H2 D=some (.lst ys)->ys.length=n->(∀ i y,ys[i]?=some y->P H2 i y)->Q (.ref D) H2):LcR J tYes te σ Q H1:=by
 intro D hD
 refine⟨fun i m ys H2=>m=n - i/\i<=n/\ys.length=i/\H2 D=some (.lst ys)/\Same H1 H2/\∀ j y,ys[j]?=some y->P H2 j y,⟨_,rfl,Nat.zero_le _,rfl,upd_same,same_upd hD _,fun j y h=>by simp at h⟩,?_⟩
 rintro i m ys H2 ⟨rfl,hi,hl,hd,sm,hp⟩
 refine⟨hd,?_⟩
 by_cases hlt:i < n
 ·obtain⟨go,yl⟩:=hgo i H2 hlt sm
  refine .inr ⟨go,by omega,fun x H' y=>?_⟩
  obtain⟨e,hx⟩:=yl x H' y
  subst e
  unfold tYes
  refine iteT ?_
  refine he i x _ _ hx sm fun v H3 pv s3=>⟨s3 _ _ hd,n - (i+1),by omega,rfl,hlt,by rw[List.length_append,hl];rfl,upd_same,(sm.trans s3).updL hD _,fun j y h=>?_⟩
  have st:=sameT_lst (zs:=ys++[v]) (s3 _ _ hd)
  by_cases hj:j < ys.length
  ·rw[List.getElem?_append_left hj]at h
   exact mono _ _ _ _ (s3.t.trans st) (hp j y h)
  ·rw[List.getElem?_append_right (by omega)]at h
   have hj2:j=i:=by
    have:=(List.getElem?_eq_some_iff.mp h).1
    simp at this
    omega
   subst hj2
   rw[hl]at h
   simp at h
   subst h
   exact mono _ _ _ _ st pv
 ·have e:i=n:=by omega
  subst e
  exact .inl ⟨hst H2 sm,hq D H2 ys hD sm hd hl hp⟩
theorem lcR_listT{K:PySem.W.Frag}{a:Addr}(xs:List V){te:TE}{σ:St}{H1:Hp}{Q:VK}(P:Hp->Nat->V->Prop)(mono:∀ H H' i v,SameT H H'->P H i v->P H' i v)(hx:SqL K H1 a xs)(hz:xs.length<=sizeLine)
 (he:∀ i x H2 (R:VK),xs[i]?=some x->Same H1 H2->(∀ v H3,P H3 i v->Same H2 H3->R v H3)->te (some x::σ) H2 R)
 (hq:∀ D H2 ys,H1 D=none->Same H1 H2->H2 D=some (.lst ys)->ys.length=xs.length->(∀ i y,ys[i]?=some y->P H2 i y)->Q (.ref D) H2):LcR (Itl K a) tYes te σ Q H1 :=
 lcR_ofT xs.length (fun i x=>xs[i]?=some x) P mono hz (fun i H2 hi s=>⟨⟨xs,xs[i],s.seq hx,by simp[hi]⟩,fun x H' y=>⟨y.1,y.2 xs (s.seq hx)⟩⟩) (fun H2 s=>⟨xs,s.seq hx,Nat.le_refl _⟩) he hq
end L2
end
section
namespace L2
open PySem PySem.Spec PyProof.Rows
def noStar:Expr->Bool
 | .Starred _ _=>false
 | _=>true
theorem star_cons{e:Expr}{es:List Expr}{env:Env}(h:noStar e=true):starEach (e::es) env=(false,eval e env)::starEach es env:=by
 cases e <;> first | rfl | (exact absurd h Bool.false_ne_true)
theorem pa_c{X:Cx}{e:Expr}{es:List Expr}{te:TE}{t:TA}(ha:PE X e te)(hr:PA X es t)(hn:noStar e=true:=by rfl):PA X (e::es) (tCons te t):=pa_cons ha hr (star_cons hn)
end L2
end
section
namespace L2
open PySem PySem.Spec PyProof.Rows
section
variable{prog:Program}{w:World}{A:Around}{E:Value->Shared->Prop}{s:Shared}
variable{z TI TO i1 i2:Addr}{fp1 fp2:List Addr}{n1 n2 i:Nat}{P1 P2:Nat->Value->Prop}{S1 S2:Nat->Heap->Prop}
end
end L2
end
section
namespace L2
open PySem PySem.Spec PyProof.Rows
def SqB(tup:Bool)(H:Hp)(a:Addr)(xs:List V):Prop:=H a=some (if tup then .tup xs else .lst xs)
def ItZ(ta tb:Bool)(a b:Addr):It :=
 ⟨fun i H=>∃ xs ys x y,SqB ta H a xs/\SqB tb H b ys/\xs[i]?=some x/\ys[i]?=some y,
  fun i H v H'=>∃ T x y,H T=none/\v=.ref T/\H'=upd H T (.tup [x,y])/\(∀ xs,SqB ta H a xs->xs[i]?=some x)/\∀ ys,SqB tb H b ys->ys[i]?=some y,
  fun i H=>∃ xs,SqB ta H a xs/\xs.length=i⟩
section
variable{prog:Program}{w:World}{A:Around}{E:Value->Shared->Prop}{s:Shared}
end
section
variable{X:Cx}{ea eb:Expr}{ua ub:TE}{p pos tpos:Pos}{elts:List Expr}{kk:Nat}
def iZip(ta tb:Bool)(ua ub:TE):TI:=fun σ H R=>ua σ H fun x H1=>ub σ H1 fun y H2=>∃ a b xs ys,x=.ref a/\y=.ref b/\SqB ta H2 a xs/\SqB tb H2 b ys/\R (ItZ ta tb a b) H2
theorem tFor_zip{ta tb:Bool}{g:TG}{t:TS}{D:Ends}{σ:St}{H:Hp}:tFor (iZip ta tb ua ub) g t D σ H=ua σ H fun x H1=>ub σ H1 fun y H2=>∃ a b xs ys,x=.ref a/\y=.ref b/\SqB ta H2 a xs/\SqB tb H2 b ys/\FoR (ItZ ta tb a b) g t D σ H2:=rfl
end
end L2
end
section
namespace L2
open PySem PySem.Spec PyProof.Rows
section
variable{X:Cx}
end
end L2
end
section
namespace L2
open PySem PySem.Spec PyProof.Rows
section
variable{X:Cx}
def rAll(K:PySem.W.Frag):List V->Hp->VK->Prop:=fun xs H Q=>∃ (a:Addr) (bs:List Bool),xs=[.ref a]/\SqL K H a (bs.map V.bl)/\Q (.bl (bs.all id)) H
def tDNew:TE:=fun _ H Q=>∀ p,H p=none->Q (.ref p) (upd H p (.dK []))
def rEqN(K:PySem.W.Frag):R2:=fun x y H Q=>∃ a b xs ys,x=.ref a/\y=.ref b/\SqL K H a xs/\SqL K H b ys/\((xs.length≠ys.length/\Q (.bl false) H)\/(xs.all flatV=true/\ys.all flatV=true/\Q (.bl (eqVs xs ys)) H))
theorem tLc_rng2{ta:TA}{tt:TT}{te:TE}{σ:St}{H:Hp}{Q:VK}:tLc (iRng2 ta) tt te σ H Q=ta σ H fun vs H1=>∃ i j:Int,vs=[.int i,.int j]/\(-(2 ^ 62)<=i/\i < 2 ^ 62 /\ -(2 ^ 62)<=j/\j < 2 ^ 62)/\LcR (Itr i (j - i).toNat) tt te σ Q H1:=rfl
end
end L2
end
section
namespace L2
open PySem PySem.Spec PyProof.Rows
end L2
namespace Th
open PySem L2 Pl
def signB(c:Nat):Bool:=decide (32<=c/\c<=126/\c≠37)
def goodZ(z:Str):Prop:=z.length<=60/\∀ c∈z.cps.toList,signB c=true\/c=9\/c=10
def flatG:V->Prop
 | .non=>True
 | .bl _=>True
 | .int _=>True
 | .str z=>goodZ z
 | _=>False
def TT:Nat->Hp->V->Prop
 | 0,H,v=>flatG v\/∃ a,v=.ref a/\((∃ xs,H a=some (.lst xs))\/H a=some (.dK [])\/∃ xs,H a=some (.tup xs)/\xs.length<=60)
 | n+1,H,v=>flatG v\/∃ a,v=.ref a/\((∃ xs,H a=some (.lst xs))\/H a=some (.dK [])\/∃ xs,H a=some (.tup xs)/\xs.length<=60/\∀ u∈xs,TT n H u)
end Th
end
section
namespace L2
open PySem PySem.Spec PyProof.Rows
def HeadIs(h:Heap)(Y:Addr->Prop)(e:Addr)(vs:Array Value):Option Value->Prop
 | none=>vs[1]?=some .none
 | some v=>∃ T oT ts,vs[1]?=some (.ref T)/\T≠e/\(Y T/\oT.cls=.type "traceback")/\h.get? T=some oT/\oT.data=.fields ts/\ts[3]?=some v
def Links:List (Addr×Obj)->Value->Prop
 | [],c=>c=.none
 | p::r,c=>c=.ref p.1/\∃ va c',p.2.data=.fields va/\va[2]?=some c'/\Links r c'
def Lie(h:Heap)(Y:Addr->Prop)(e:Addr)(ch:List (Addr×Obj)):Prop:=(e::ch.map (·.1)).Nodup/\∀ p∈ch,h.get? p.1=some p.2/\p.2.cls≠.type "traceback"/\(∃ va,p.2.data=.fields va)/\Y p.1
def Exc(h:Heap)(Y:Addr->Prop)(e:Addr)(cls:Value)(dx:Option Addr)(ch:List (Addr×Obj))(fl:Option Value):Prop :=
 ∃ oe vs,h.get? e=some oe/\oe.cls=cls/\oe.dict=dx/\oe.data=.fields vs/\((∃ c,vs[2]?=some c/\Links ch c)/\Lie h Y e ch)/\HeadIs h Y e vs fl
structure Stay(Y:Addr->Prop)(e:Addr)(fs:List Addr)(h h':Heap):Prop where
 keep:∀ b o,h.get? b=some o->b≠e->¬ (Y b/\o.cls=.type "traceback")->b∉fs->h'.get? b=some o
 slot:∀ b o,h.get? b=some o->(∀ vs,o.data≠.fields vs)->∃ sl,h'.get? b=some { o with slots:=sl }
 size:h.objs.size<=h'.objs.size
theorem Stay.trans{Y:Addr->Prop}{e:Addr}{fs:List Addr}{h₁ h₂ h₃:Heap}(x:Stay Y e fs h₁ h₂)(y:Stay Y e fs h₂ h₃):Stay Y e fs h₁ h₃ :=
 ⟨fun b o q a c d=>y.keep b o (x.keep b o q a c d) a c d,fun b o q n=>let ⟨_,e1⟩:=x.slot b o q n;let ⟨sl,e2⟩:=y.slot b _ e1 n;⟨sl,e2⟩,Nat.le_trans x.size y.size⟩
theorem Stay.funs{Y:Addr->Prop}{e:Addr}{fs:List Addr}{h h' base:Heap}{l:List Env}(x:Stay Y e fs h h')(f:h.FunFrames base l):h'.FunFrames base l :=
 f.of_keeps fun b o q n=>let ⟨sl,e1⟩:=x.slot b o q n;⟨_,e1,rfl⟩
theorem Lie.stay{Y:Addr->Prop}{e:Addr}{fs:List Addr}{h h':Heap}{ch:List (Addr×Obj)}(l:Lie h Y e ch)(st:Stay Y e fs h h')(nf:∀ b∈fs,∃ o,h.get? b=some o/\∀ vs,o.data≠.fields vs):Lie h' Y e ch :=
 ⟨l.1,fun p hp=>by
  obtain⟨q,c,⟨va,d⟩,y⟩:=l.2 p hp
  refine⟨st.keep p.1 p.2 q (fun z=>?_) (fun z=>c z.2) (fun z=>?_),c,⟨va,d⟩,y⟩
  ·exact(List.nodup_cons.mp l.1).1 (by rw[<- z];exact List.mem_map_of_mem hp)
  ·obtain⟨o,q',n⟩:=nf _ z
   rw[q]at q';cases q'
   exact n va d⟩
theorem dict_mapF(o:Obj)(f):(o.mapFields f).dict=o.dict:=by
 obtain⟨c,d,dt,sl⟩:=o;cases dt <;> rfl
theorem stay_set{Y:Addr->Prop}{e a:Addr}{fs:List Addr}{h:Heap}{o:Obj}{vs:Array Value}(i:Nat)(x:Value)(ho:h.get? a=some o)(hd:o.data=.fields vs)(ha:a=e\/(Y a/\o.cls=.type "traceback")) :
 Stay Y e fs h (h.update a (Obj.mapFields (·.setIfInBounds i x))) where
 keep b u q n1 n2 _:=by
  rw[Heap.get?_update_other _ _ (fun z=>by subst z;rw[ho]at q;cases q;exact ha.elim n1 n2)];exact q
 slot b u q n:=⟨u.slots,by
  rw[Heap.get?_update_other _ _ (fun z=>by subst z;rw[ho]at q;cases q;exact n vs hd)];exact q⟩
 size:=by rw[Heap.size_update];exact Nat.le_refl _
theorem set_get{a:Addr}{h:Heap}{o:Obj}{vs:Array Value}(i:Nat)(x:Value)(ho:h.get? a=some o)(hd:o.data=.fields vs) :
 (h.update a (Obj.mapFields (·.setIfInBounds i x))).get? a=some (o.mapFields (·.setIfInBounds i x)):=Heap.get?_update_self _ ho (Obj.isFreed_of_fields (Obj.data_mapFields hd _))
section
variable{M:Model}{A:Around}{E:Value->Shared->Prop}{s:Shared}{Y:Addr->Prop}{base:Heap}{env:Env}{outer:List Env}{L e:Addr}{cls:Value}{dx:Option Addr}{ch:List (Addr×Obj)}{fl:Option Value}{Q:Unit->Shared->Prop}
theorem land_ok{fs:List Addr}{v:Value}(nf:∀ b∈fs,∃ o,s.heap.get? b=some o/\∀ vs,o.data≠.fields vs)(x:Exc s.heap Y e cls dx ch (some v))(q:∀ h',Stay Y e fs s.heap h'->Exc h' Y e cls dx ch (some .none)->Q () { s with heap:=h' }):wpAny M A (setFlight (.ref e) none) Q E s:=by
 obtain⟨oe,vs,he,hc,hdx,hd,⟨lk,ll⟩,T,oT,ts,h1,hTe,hY,hT,hdT,h3⟩:=x
 unfold setFlight
 refine wpAny_bind (wpAny_field he hd h1 ?_)
 rw[if_pos (show(Value.ref T != Value.none)=true from by simp)]
 have hsz:3 < ts.size:=(Array.getElem?_eq_some_iff.mp h3).1
 have st:=stay_set (Y:=Y) (e:=e) (fs:=fs) 3 ((none:Option Addr).elim Value.none fun f=>rawInt f) hT hdT (.inr hY)
 refine wpAny_setField hT hdT hsz (q _ st ⟨oe,vs,?_,hc,hdx,hd,⟨lk,ll.stay st nf⟩,T,_,_,h1,hTe,⟨hY.1,(Obj.cls_mapFields _ _).trans hY.2⟩,set_get 3 _ hT hdT,Obj.data_mapFields hdT _,?_⟩)
 ·rw[Heap.get?_update_other _ _ hTe];exact he
 ·simp[hsz]
theorem entry_ok{head:Value}{hadNext:Bool}(hfr:A.frames=some (env::outer))(hl:s.heap.FunFrames base (env::outer))(hf:env.frame=some L)(hy:∀ b,s.heap.objs.size<=b->Y b){oe:Obj}{vs:Array Value}
 (he:s.heap.get? e=some oe) (hc:oe.cls=cls) (hdx:oe.dict=dx) (hd:oe.data=.fields vs) (hsz:1 < vs.size) (lk:∃ c,vs[2]?=some c/\Links ch c) (ll:Lie s.heap Y e ch)
 (q:∀ h',Stay Y e (frs (env::outer)) s.heap h'->Exc h' Y e cls dx ch (some (rawInt L))->Q () { s with heap:=h' }) :
 wpAny M A (do let a <- frameOf env;let pl <- entryPlaceOf L hadNext;let b <- EntryCells.newEntry head a .none (rawInt L) .none pl;setField (.ref e) 1 b) Q E s:=by
 refine wpAny_bind (wpAny_frameOf_fun hfr hl hf fun h₁ hs=>?_)
 refine wpAny_bind (wpAny_entryPlaceOf fun pl hpl=>?_)
 unfold EntryCells.newEntry newFields
 refine wpAny_bind (wpAny_newObj_type ?_ (hpl.sizeOk5 _ _ _ _ _))
 have hef:e∉frs (env::outer):=fun hm=>by
  obtain⟨_,o,ho,hn⟩:=hl.mem hm
  rw[he]at ho;cases ho;exact hn vs hd
 have he1:h₁.get? e=some oe:=(hs.2.1 e hef).trans he
 have hne:h₁.objs.size≠e:=Nat.ne_of_gt (Heap.lt_size he1)
 generalize htb:({ cls:=.type "traceback",dict:=none,data:=.fields ([head,.ref L,.none,rawInt L,.none]++(if pl.isEmpty then List.replicate 6 Value.none else pl)).toArray }:Obj)=tb
 have htd:tb.data=.fields ([head,.ref L,.none,rawInt L,.none]++(if pl.isEmpty then List.replicate 6 Value.none else pl)).toArray:=by rw[<- htb]
 have hfr':tb.isFreed=false:=Obj.isFreed_of_fields htd
 have he2:(h₁.push tb).get? e=some oe:=Heap.get?_push_of_some _ he1
 have hY:Y h₁.objs.size:=hy _ (by rw[hs.1];exact Nat.le_refl _)
 have htc:tb.cls=.type "traceback":=by rw[<- htb]
 have st:Stay Y e (frs (env::outer)) s.heap ((h₁.push tb).update e (Obj.mapFields (·.setIfInBounds 1 (Value.ref h₁.objs.size)))):=by
  refine Stay.trans ?_ (stay_set 1 _ he2 hd (.inl rfl))
  refine⟨fun b o g _ _ n=>Heap.get?_push_of_some _ ((hs.2.1 b n).trans g),fun b o g _=>?_,?_⟩
  ·obtain⟨sl,g1⟩:=hs.2.2 b o g
   exact⟨sl,Heap.get?_push_of_some _ g1⟩
  ·rw[<- hs.1];cases h₁;simp[Heap.push]
 refine wpAny_setField he2 hd hsz (q _ st ⟨_,_,set_get 1 _ he2 hd,(Obj.cls_mapFields _ _).trans hc,(dict_mapF _ _).trans hdx,Obj.data_mapFields hd _,⟨?_,ll.stay st fun b hb=>(hl.mem hb).2⟩,h₁.objs.size,tb,_,by simp[hsz],hne,⟨hY,htc⟩,?_,htd,?_⟩)
 ·obtain⟨c,h2,l⟩:=lk
  exact⟨c,by rw[Array.getElem?_setIfInBounds_ne (by decide)];exact h2,l⟩
 ·rw[Heap.get?_update_other _ _ (Ne.symm hne)];exact Heap.get?_push_size _ hfr'
 ·first | (simp;done) | (rcases hpl with rfl | ⟨_,_,_,_,_,_,_,rfl⟩ <;> simp)
theorem note_ok(hfr:A.frames=some (env::outer))(hl:s.heap.FunFrames base (env::outer))(hf:env.frame=some L)(hy:∀ b,s.heap.objs.size<=b->Y b)(x:Exc s.heap Y e cls dx ch fl)(hfl:fl=none\/fl=some .none)
 (q:∀ h',Stay Y e (frs (env::outer)) s.heap h'->Exc h' Y e cls dx ch (some (rawInt L))->Q () { s with heap:=h' }):wpAny M A (noteFrame (.ref e) env) Q E s:=by
 obtain⟨oe,vs,he,hc,hdx,hd,⟨lk,ll⟩,hh⟩:=x
 unfold noteFrame
 simp only[hf]
 rcases hfl with rfl | rfl
 ·have h1:vs[1]?=some .none:=hh
  refine wpAny_bind (wpAny_field he hd h1 ?_)
  rw[if_neg (by decide)]
  exact entry_ok hfr hl hf hy he hc hdx hd (Array.getElem?_eq_some_iff.mp h1).1 lk ll q
 ·obtain⟨T,oT,ts,h1,hTe,hY,hT,hdT,h3⟩:=hh
  refine wpAny_bind (wpAny_field he hd h1 ?_)
  rw[if_pos (show(Value.ref T != Value.none)=true from by simp)]
  refine wpAny_bind (wpAny_field hT hdT h3 ?_)
  rw[if_neg (show ¬ ((Value.none == rawInt L)=true) from by simp[rawInt])]
  refine wpAny_bind (wpAny_setField hT hdT (Array.getElem?_eq_some_iff.mp h3).1 ?_)
  have st:Stay Y e (frs (env::outer)) s.heap (s.heap.update T (Obj.mapFields (·.setIfInBounds 3 Value.none))):=stay_set 3 _ hT hdT (.inr hY)
  refine entry_ok (s:={ s with heap:=s.heap.update T (Obj.mapFields (·.setIfInBounds 3 Value.none)) }) hfr (st.funs hl) hf (fun b hb=>hy b (Nat.le_trans st.size hb)) ((Heap.get?_update_other _ _ hTe).trans he) hc hdx hd (Array.getElem?_eq_some_iff.mp h1).1 lk (ll.stay st fun b hb=>(hl.mem hb).2) fun h' t x'=>q h' (st.trans t) x'
theorem leave_ok(hfr:A.frames=some (env::outer))(hl:s.heap.FunFrames base (env::outer))(hf:env.frame=some L)(hy:∀ b,s.heap.objs.size<=b->Y b)(x:Exc s.heap Y e cls dx ch fl)(hfl:fl=none\/fl=some .none)
 (q:∀ h',Stay Y e (frs (env::outer)) s.heap h'->Exc h' Y e cls dx ch (some .none)->Q () { s with heap:=h' }):wpAny M A (leaving env (.ref e)) Q E s:=by
 unfold leaving
 refine wpAny_bind (note_ok hfr hl hf hy x hfl fun h₁ st x1=>?_)
 exact land_ok (s:={ s with heap:=h₁ }) (fs:=frs (env::outer)) (fun b hb=>((st.funs hl).mem hb).2) x1 fun h₂ st2 x2=>q h₂ (st.trans st2) x2
end
end L2
end
section
namespace L2
open PySem PySem.Spec PyProof.Rows
theorem Exc.mono{h:Heap}{Y Y':Addr->Prop}{e:Addr}{cls:Value}{dx:Option Addr}{ch:List (Addr×Obj)}{fl:Option Value}(x:Exc h Y e cls dx ch fl)(k:∀ b,Y b->Y' b):Exc h Y' e cls dx ch fl:=by
 obtain⟨oe,vs,he,hc,hdx,hd,⟨lk,l1,l2⟩,hh⟩:=x
 refine⟨oe,vs,he,hc,hdx,hd,⟨lk,l1,fun p hp=>let ⟨a,b,c,d⟩:=l2 p hp;⟨a,b,c,k _ d⟩⟩,?_⟩
 cases fl with
 | none=>exact hh
 | some v=>obtain⟨T,oT,ts,h1,h2,h3,r⟩:=hh;exact⟨T,oT,ts,h1,h2,⟨k T h3.1,h3.2⟩,r⟩
def Yg(old:Heap)(H:Hp)(b:Addr):Prop:=old.get? b=none/\H b=none
def CX1(P:Program)(w:World):CXT:=fun outer H s E e s'=>∃ ea cls dx ch H',e=.ref ea/\s'.os=s.os/\AllBare s'.gens/\Un (frs outer) [] H H' s.heap s'.heap/\HOk P w H' s'.heap /\
 Exc s'.heap (Yg s.heap H') ea cls dx ch (some .none)/\s.heap.get? ea=none/\H' ea=none/\E cls dx H'
def Throws(X:Cx)(E:XK):Prop:=∀ (pins:List (Addr×Obj)) (σ:St) (H:Hp) (s:Shared) (e:Addr) (cls:Value) (dx:Option Addr) (ch:List (Addr×Obj)) (fl:Option Value),Inv X pins σ H s->Exc s.heap (Yg X.s₀.heap H) e cls dx ch fl->(fl=none\/fl=some .none) ->
 X.s₀.heap.get? e=none->H e=none->E cls dx H->X.xe (.ref e) s
section
variable{X:Cx}{E:XK}{pins:List (Addr×Obj)}{σ:St}{H:Hp}{s:Shared}
theorem Inv.young(I:Inv X pins σ H s)(hx:X.ex=[]){b:Addr}(h:s.heap.get? b=none):X.s₀.heap.get? b=none:=by
 cases q:X.s₀.heap.get? b with
 | none=>rfl
 | some o =>
  obtain⟨o',e⟩:=I.base.there b o q (by rw[hx];simp)
  rw[h]at e;cases e
theorem frs_cons{env:Env}{outer:List Env}{L:Addr}(h:env.frame=some L):frs (env::outer)=L::frs outer:=by unfold frs;rw[List.filterMap_cons,h]
end
section
variable{P:Program}{w:World}{K:PySem.W.Frag}{mg:Str->Option Value}{base:Heap}{N:List Str}{qual:Str}{scope:Scope}{f:Addr}{cd:Value}{A:Around}{outer:List Env}{s:Shared}{H:Hp}{E:XK}
theorem throws0:Throws (cxOf (CX1 P w) P w K mg base N qual scope f cd A outer s H E) E:=by
 intro pins σ H' s' e cls dx ch fl I x hfl n1 n2 hE
 have n1:s.heap.get? e=none:=n1
 have fr:frs (envOfC qual scope s.heap.objs.size f cd::outer)=s.heap.objs.size::frs outer:=frs_cons rfl
 have stk:s'.heap.FunFrames base (envOfC qual scope s.heap.objs.size f cd::outer):=I.stack
 have sf:∀ b∈frs (envOfC qual scope s.heap.objs.size f cd::outer),H' b=none:=I.stkFree
 have ib:Un (frs outer) [] H H' s.heap s'.heap:=I.base
 show wpAny (model P w) _ (leaving _ (.ref e)) _ _ s'
 refine leave_ok (base:=base) (Y:=Yg s.heap H') (L:=s.heap.objs.size) (fl:=fl) I.ok.frames stk rfl (fun b hb=>⟨Heap.get?_none_of_le (Nat.le_trans I.sz hb),I.hok.fresh hb⟩) x hfl fun h' st x'=>?_
 have nf:∀ b o,s.heap.get? b=some o->b∉frs outer->b∉frs (envOfC qual scope s.heap.objs.size f cd::outer):=fun b o q hb hm=>by
  rw[fr]at hm
  rcases List.mem_cons.mp hm with z | z
  ·rw[z]at q;exact absurd (Heap.lt_size q) (Nat.lt_irrefl _)
  ·exact hb z
 have ne:∀ b o,s.heap.get? b=some o->b≠e:=fun b o q z=>by rw[z,n1]at q;cases q
 have ny:∀ b o (o':Obj),s.heap.get? b=some o->¬ (Yg s.heap H' b/\o'.cls=.type "traceback"):=fun b o o' q y=>by rw[y.1.1]at q;cases q
 refine⟨e,cls,dx,ch,H',rfl,I.os,I.bare,⟨fun b o q n hb hx=>?_,fun b o q n hb hx=>?_,ib.free,fun b o q hx=>?_,ib.tups,ib.frzs,ib.tbls⟩,fun b u eb=>?_,x',n1,n2,hE⟩
 ·exact st.keep b o (ib.keep b o q n hb hx) (ne b o q) (ny b o _ q) (nf b o q hb)
 ·obtain⟨sl,q1⟩:=ib.slot b o q n hb hx
  obtain⟨_,o2,q2,hn⟩:=stk.mem (show b∈frs _ by rw[fr];exact List.mem_cons_of_mem _ hb)
  rw[q1]at q2;cases q2
  obtain⟨sl',q3⟩:=st.slot b _ q1 hn
  exact⟨sl',q3⟩
 ·obtain⟨o',q1⟩:=ib.there b o q hx
  by_cases hn:∀ vs,o'.data≠.fields vs
  ·obtain⟨sl,q2⟩:=st.slot b o' q1 hn
   exact⟨_,q2⟩
  ·refine⟨o',st.keep b o' q1 (ne b o q) (ny b o _ q) fun hm=>?_⟩
   obtain⟨_,o2,q2,hn2⟩:=stk.mem hm
   rw[q1]at q2;cases q2
   exact hn hn2
 ·refine(I.hok b u eb).stay (fun c v hc q=>?_) (fun _ q=>q) fun _ _ q=>q
  have hc':H' c≠none:=by
   rcases hc with z | z
   ·rw[z,eb];simp
   ·rw[z];simp
  exact st.keep c v q (fun z=>hc' (by rw[z];exact n2)) (fun y=>hc' y.1.2) fun hm=>hc' (sf c hm)
theorem own1:PassesOwn (model P w) (cxOf (CX1 P w) P w K mg base N qual scope f cd A outer s H E).A (cxOf (CX1 P w) P w K mg base N qual scope f cd A outer s H E).env (cxOf (CX1 P w) P w K mg base N qual scope f cd A outer s H E).xe:=PassesOwn.leaving (Q₁:=fun e s''=>CX1 P w outer H s E e s'')
end
theorem ObjOk.obj{P:Program}{w:World}{H:Hp}{h:Heap}{a:Addr}{o:HO}(x:ObjOk P w H h a o):∃ ob,h.get? a=some ob:=by
 cases o with
 | lst xs=>obtain⟨_,_,_,_,e⟩:=x;exact⟨_,e⟩
 | tup xs=>obtain⟨_,_,_,p⟩:=x;obtain⟨o,e,_⟩:=p;exact⟨_,e⟩
 | dK kvs=>obtain⟨_,_,_,_,o,_,_,e,_⟩:=x;exact⟨_,e⟩
 | dT kvs=>obtain⟨_,_,_,_,o,_,_,e,_⟩:=x;exact⟨_,e⟩
 | set S n=>obtain⟨o,_,_,_,e,_⟩:=x;exact⟨_,e⟩
 | ins C dx fs=>obtain⟨_,_,_,e,_⟩:=x;exact⟨_,e⟩
 | own y=>exact x
 | xd fs=>obtain⟨_,⟨_,_,_,e,_⟩,_⟩:=x;exact⟨_,e⟩
 | rng lo hi=>obtain⟨_,_,_,e⟩:=x;exact⟨_,e⟩
 | frz ob u=>obtain⟨e,_⟩:=x;exact⟨_,e⟩
 | tbl ps=>exact⟨_,x⟩
 | met f y=>exact⟨_,x⟩
 | ext φ=>obtain⟨_,e,_⟩:=x;exact e
theorem HOk.none_of{P:Program}{w:World}{H:Hp}{h:Heap}{a:Addr}(x:HOk P w H h)(e:h.get? a=none):H a=none:=by
 cases q:H a with
 | none=>rfl
 | some u=>obtain⟨o,e'⟩:=(x a u q).obj;rw[e]at e';cases e'
structure ExcC(K:PySem.W.Frag)(C:Addr)(bm bmB:List Value)(newId:String):Prop where
 ex:∃ nm q N bs hdct sn sub ab col dd k0 k1 k2 k3 k5,K.lookup C=some (excClassObj nm q C N bs bm hdct sn sub ab col dd k0 k1 k2 k3 k5 newId)/\PySem.W.nsOkIn K N=true/\PySem.W.nsIn K N "__init__"=some none
 tail:PySem.W.tailIn K bmB bm=true
section
variable{X:Cx}{E:XK}{x:Str}{C:Addr}{bm bmB:List Value}{B newId initId:String}{np cpos pos:Pos}
def tRaise(E:XK)(cls:Value):TS:=fun _ _ H=>E cls none H
theorem ps_raise0(T:Throws X E)(hex:X.ex=[])(hcalm:X.calm=true)(hg:Gl X x)(hm:X.mg x=some (.ref C))(c:ExcC X.K C bm bmB newId)(FB:ExcBaseFacts B newId initId bmB)(hdb:(x == ("__debug__":Str))=false:=by decide) :
 PS X (.Raise (some (.Call (.Name x np) [] [] cpos)) none pos) (tRaise E (.ref C)):=by
 intro pins s σ H D I h
 obtain⟨nm,q,N,bs,hdct,sn,sub,ab,col,dd,k0,k1,k2,k3,k5,lk,ok,hi⟩:=c.ex
 have KX:=I.kIn
 have TL:OwnTail s.heap bmB bm:=PySem.W.tail_of_in KX c.tail
 refine wpAny_Raise_call_subT (C:=C) (nm:=nm) (q:=q) (N:=N) (bs:=bs) (bm:=bm) (hdct:=hdct) (sn:=sn) (sub:=sub) (ab:=ab) (col:=col) (dd:=dd) (k0:=k0) (k1:=k1) (k2:=k2) (k3:=k3) (k5:=k5) FB (mN:=s.heap.nsMap N) (TL.hasType FB.hasBase) (I.ok.hd hcalm) rfl (PySem.W.nsMap_none_of_in KX ok hi) (ld_glob I hg hm ⟨rfl,?_⟩ hdb)
 refine evalArgs_empty ⟨rfl,Nat.zero_le _,KX _ _ lk,.of_isNs (PySem.W.isNs_of_in KX ok),TL,fun h' e mk=>?_⟩
 have I2:Inv X pins σ H { s with heap:=h' }:=I.kept (t':=s.toks) mk.keeps
 obtain⟨t,he,_⟩:=mk.there
 exact T pins σ H _ e (.ref C) none [] none I2 ⟨_,_,he,rfl,rfl,rfl,⟨⟨.none,rfl,rfl⟩,by simp,fun p hp=>by cases hp⟩,rfl⟩ (.inl rfl) (I.young hex mk.new) (I.hok.none_of mk.new) h
end
end L2
end
section
namespace L2
open PySem PySem.Spec PyProof.Rows
structure Old(X:Cx)(pins:List (Addr×Obj))(old:Heap):Prop where
 ent:∀ b,old.get? b=none->X.s₀.heap.get? b=none
 pin:∀ p∈X.pn++pins,old.get? p.1≠none
def X1P(X:Cx)(pins:List (Addr×Obj))(σ:St)(E:XK)(ev:Value)(s':Shared):Prop :=
 ∃ ea cls dx ch H' old,ev=.ref ea/\Inv X pins σ H' s'/\Exc s'.heap (Yg old H') ea cls dx ch (some .none)/\Old X pins old/\(∀ b,s'.heap.objs.size<=b->old.get? b=none)/\old.get? ea=none/\H' ea=none/\E cls dx H'
abbrev TE1:=St->Hp->VK->XK->Prop
abbrev TS1:=Ends->St->Hp->XK->Prop
def PE1(X:Cx)(e:Expr)(t:TE1):Prop :=
 ∀ (pins:List (Addr×Obj)) (s:Shared) (σ:St) (H:Hp) (Q:VK) (E:XK),Inv X pins σ H s->t σ H Q E->wpAny (model X.prog X.w) X.A (eval e X.env) (EP X pins σ Q) (X1P X pins σ E) s
section
variable{X:Cx}{E:XK}{e:Expr}{es:List Expr}{t:TA}{t1:TE1}{x:Str}{p pos:Pos}{k j:Nat}{f:Addr}{fd:FuncData}{ps:List Str}{sp:Sp}
theorem X1P.thrown{pins:List (Addr×Obj)}{σ:St}{ev:Value}{s':Shared}(T:Throws X E)(h:X1P X pins σ E ev s'):X.xe ev s':=by
 obtain⟨ea,cls,dx,ch,H',old,rfl,I,y,o,_,n1,n2,hE⟩:=h
 exact T pins σ H' s' ea cls dx ch _ I (y.mono fun b z=>⟨o.ent b z.1,z.2⟩) (.inr rfl) (o.ent _ n1) n2 hE
theorem PE1.pe(h:PE1 X e t1)(T:Throws X E):PE X e (fun σ H Q=>t1 σ H Q E):=fun pins s σ H Q I q=>wpAny_mono (h pins s σ H Q E I q) (fun _ _ z=>z) fun _ _ z=>z.thrown T
theorem Inv.old{pins:List (Addr×Obj)}{σ:St}{H:Hp}{s:Shared}(I:Inv X pins σ H s)(hex:X.ex=[]):Old X pins s.heap :=
 ⟨fun b h=>I.young hex h,fun p hp h=>by rw[(I.pin p hp).1]at h;cases h⟩
theorem run_fn1{pins:List (Addr×Obj)}{σ:St}{H:Hp}{s:Shared}{Q:VK}{us:List Value}{vs:List V}(F:FnOk X.prog X.w X.K X.mg X.base (CX1 X.prog X.w) k f fd ps sp)(hr:Room k X.A)(hb:Binds X.K fd ps [])(hex:X.ex=[])
 (I:Inv X pins σ H s) (r:Vals vs us) (h:sp vs H Q E):wpAny (model X.prog X.w) X.A (call (.ref f) us) (EP X pins σ Q) (X1P X pins σ E) s:=by
 have hl:(us++[]).length=ps.length:=by rw[List.append_nil,<- r.length];exact F.len _ _ _ _ h
 have b:=hb s us I.kIn hl
 rw[List.append_nil]at b
 refine wpAny_call (codeAny_mono (F.run X.A X.stack s H ⟨us,[]⟩ us vs Q E hr I.env0 b r h) fun res s' hq=>?_)
 cases res with
 | error ev =>
  obtain⟨ea,cls,dx,ch,H',rfl,os,bare,un,hok,y,n1,n2,hE⟩:=hq
  refine⟨ea,cls,dx,ch,H',s.heap,rfl,I.call' (ch:=[]) os un hok bare (fun b z=>absurd z (by simp)),y,I.old hex,fun b hb=>?_,n1,n2,hE⟩
  cases q:s.heap.get? b with
  | none=>rfl
  | some u =>
   obtain⟨u',q'⟩:=un.there b u q (by simp)
   exact absurd (Nat.lt_of_lt_of_le (Heap.lt_size q') hb) (Nat.lt_irrefl _)
 | ok fl =>
  cases fl with
  | ret u=>exact I.after hq
  | next=>exact False.elim hq
  | brk=>exact False.elim hq
  | cont=>exact False.elim hq
theorem pa_nox{pins:List (Addr×Obj)}{σ:St}{H:Hp}{s:Shared}{Q:List V->Hp->Prop}{W:Value->Shared->Prop}(ha:PA X.nox es t)(I:Inv X pins σ H s)(q:t σ H Q):wpAny (model X.prog X.w) X.A (spliced (backTo pos (starEach es X.env))) (AP X pins σ Q) W s :=
 wpAny_mono (ha pos pins s σ H Q (I.wish _) q) (fun _ _ ⟨vs,H',I',r,z⟩=>⟨vs,H',I'.unwish,r,z⟩) fun _ _ z=>False.elim z
end
section
variable{X:Cx}{pins:List (Addr×Obj)}{σ:St}{H:Hp}{s:Shared}
end
section
variable{X:Cx}{st b₀:Stmt}{suite:List Stmt}{t1:TS1}{ts:TS}{x:Str}{C:Addr}{bm bmB:List Value}{B newId initId:String}{np hpos pos:Pos}
end
end L2
end
section
namespace L2
open PySem PySem.Spec PyProof.Rows
section
variable{prog:Program}{w:World}{A:Around}{s:Shared}{R:Result->Shared->Prop}{value:Value}
end
section
variable{M:Model}{A:Around}{E:Value->Shared->Prop}{env:Env}
variable{nm q:Str}{C N:Addr}{bs bm:List Value}{hdct:Bool}{sn:List Str}{sub:List Value}{ab:Bool}{col:Option Bool}{dd:Option Addr}{k0 k1 k2 k3 k5:Option Value}{newId:String}
end
section
variable{X:Cx}{E:XK}{x:Str}{C ea:Addr}{ps:List (Addr×Obj)}{bm bmB:List Value}{B newId initId:String}{np cpos kpos pos:Pos}{j:Nat}
end
end L2
end
section
namespace L2
open PySem PySem.Spec PyProof.Rows
def MeV(P:Program)(w:World)(K:PySem.W.Frag)(mg:Str->Option Value)(base:Heap)(k:Nat)(C:Addr)(m:Str)(sp:Sp):Prop :=
 ∃ f fd ps,Meth K C m f/\FnOk P w K mg base (CX1 P w) k f fd ps sp/\Binds K fd ps []
section
variable{X:Cx}{C:Addr}{m x:Str}{k i:Nat}{sp:Sp}{ta:TE}{t:TA}{e o:Expr}{es:List Expr}{p pos apos:Pos}{pl:Sem Bool}
theorem pe_noxW{pins:List (Addr×Obj)}{σ:St}{H:Hp}{s:Shared}{Q:VK}{W:Value->Shared->Prop}(h:PE X.nox e ta)(I:Inv X pins σ H s)(q:ta σ H Q):wpAny (model X.prog X.w) X.A (eval e X.env) (EP X pins σ Q) W s :=
 wpAny_mono (h pins s σ H Q (I.wish _) q) (fun _ _ ⟨v,H',I',r,z⟩=>⟨v,H',I'.unwish,r,z⟩) fun _ _ z=>False.elim z
end
section
variable{P:Program}{w:World}{K:PySem.W.Frag}{mg:Str->Option Value}{base:Heap}
theorem Fun.ok1{x qual:Str}{st:Stmt}{f:Addr}{fd:FuncData}{N ps:List Str}{k:Nat}{sp:Sp}(F:Fun K x qual st f fd)(S:FnScope N ps (defScope st))(len:∀ vs H Q E,sp vs H Q E->vs.length=ps.length)
 (hbody:∀ (cdv:Value) (A:Around) (outer:List Env) (s:Shared) (H:Hp) (vs:List V) (Q:VK) (E:XK),Room k (A.deeper (envOfC qual (defScope st) s.heap.objs.size f cdv))->sp vs H Q E ->
  ∃ t,PSs (cxOf (CX1 P w) P w K mg base N qual (defScope st) f cdv A outer s H E) (defBody st) t/\t { nx:=fun _ H'=>Q .non H',rt:=Q } (start N vs) H):FnOk P w K mg base (CX1 P w) (k+1) f fd ps sp:=by
 obtain⟨oc,od,kV,doc,pm,an,cdv,ct,osl,rfl,lk,hcd⟩:=F.ex
 exact fn_of lk hcd S len fun A outer s H vs Q E hr hsp=>hbody cdv A outer s H vs Q E hr hsp
end
end L2
end
section
namespace L2
open PySem PySem.Spec PyProof.Rows
section
variable{X:Cx}
theorem throwsN:Throws X E0:=fun _ _ _ _ _ _ _ _ _ _ _ _ _ _ h=>h.elim
end
section
variable{P:Program}{w:World}{K:PySem.W.Frag}{mg:Str->Option Value}{base:Heap}{N:List Str}{qual:Str}{scope:Scope}{f:Addr}{cd:Value}{A:Around}{outer:List Env}{s:Shared}{H:Hp}{E:XK}
end
end L2
end
section
namespace L2
open PySem PySem.Spec PyProof.Rows
def MkV(P:Program)(w:World)(K:PySem.W.Frag)(mg:Str->Option Value)(base:Heap)(k:Nat)(x:Str)(C:Addr)(sp:Sp):Prop :=
 ∃ f fd ps,Mk K C f/\FnOk P w K mg base CX0 k f fd ps sp/\Binds K fd ps []/\mg x=some (.ref C)
section
variable{X:Cx}{e o:Expr}{es:List Expr}{t:TA}{ta:TE}{p pos apos:Pos}{j k:Nat}{x m:Str}{ps:List Str}{sp:Sp}{C:Addr}{E:XK}{pl:Sem Bool}
theorem MeV.mono{P:Program}{w:World}{K:PySem.W.Frag}{mg:Str->Option Value}{base:Heap}(G:MeV P w K mg base j C m sp)(hj:j<=k):MeV P w K mg base k C m sp:=by
 obtain⟨f,fd,ps,a,F,b⟩:=G
 exact⟨f,fd,ps,a,F.mono hj,b⟩
end
end L2
end
section
namespace Tg
open PySem L2 Pl
def signB(c:Nat):Bool:=decide (32<=c/\c<=126/\c≠37)
def goodZ(z:Str):Prop:=z.length<=10000000
def flatG:V->Prop
 | .non=>True
 | .bl _=>True
 | .int _=>True
 | .str z=>goodZ z
 | _=>False
def TT:Nat->Hp->V->Prop
 | 0,H,v=>flatG v\/∃ a,v=.ref a/\((∃ xs,H a=some (.lst xs))\/H a=some (.dK [])\/∃ xs,H a=some (.tup xs)/\xs.length<=100000)
 | n+1,H,v=>flatG v\/∃ a,v=.ref a/\((∃ xs,H a=some (.lst xs))\/H a=some (.dK [])\/∃ xs,H a=some (.tup xs)/\xs.length<=100000/\∀ u∈xs,TT n H u)
end Tg
end
section
namespace L2
open PySem PySem.Spec PyProof.Rows
section
variable{X:Cx}
end
end L2
namespace L2
open PySem PySem.Spec PyProof.Rows
end L2
end
section
namespace L2
open PySem PySem.Spec PyProof.Rows
section
variable{X:Cx}
end
end L2
end
section
namespace L2
open PySem PySem.Spec PyProof.Rows
end L2
end
section
namespace PySem
section
variable{prog:Program}{w:World}{A:Around}{E:Value->Shared->Prop}{h:Heap}{g:Array GenState}{d:Drawn}{t:Nat}{os:OsState}
variable{nm q:Str}{C N:Addr}{bs bm bmB:List Value}{hdct:Bool}{sn:List Str}{sub:List Value}{ab:Bool}{col:Option Bool}{dd:Option Addr}{k0 k1 k2 k3 k5:Option Value}{B newId initId:String}
abbrev excRec(h:Heap)(C:Addr):Obj:={ cls:=.ref C,data:=.fields #[.ref h.objs.size,.none,.none,.none,.bool false,.none] }
abbrev excTup(rest:List Value):Obj:={ cls:=.type "tuple",data:=.seq rest.toArray }
end
end PySem
end
section
namespace PySem.W
open PySem PySem.Spec PySem.Calls PyProof.Rows PySem.Builtin PySem.Builtin.ObjectAttr
abbrev bmV:List Value:=[.type "ValueError",.type "Exception",.type "BaseException",.type "object"]
structure XCl(K:Frag)(C CT:Addr):Prop where
 cl:∃ nm q N bs sn sub ab col dd k0 k1 k2 k3 k5,K.lookup C=some (excClassObj nm q C N bs (.ref CT::bmV) true sn sub ab col dd k0 k1 k2 k3 k5 "ValueError.__new__")/\nsOkIn K N=true
 tail:tailIn K bmV (.ref CT::bmV)=true
 ga:findIn K (.ref C) "__getattribute__"=some (some (.builtin "BaseException.__getattribute__"))
 gt:findIn K (.ref C) "__getattr__"=some none
 sa:findIn K (.ref C) "__setattr__"=some (some (.builtin "object.__setattr__"))
 cc:findIn K (.ref C) "__class__"=some (some (.builtin "object.__class__"))
 cg:specialIn K (.builtin "object.__class__") "__get__"=some (some (.builtin "getset_descriptor.__get__"))
 ct:takesIn K (.builtin "object.__class__")=some true
section
variable{K:Frag}{C CT:Addr}
theorem XCl.cd(c:XCl K C CT):∃ cd,clsIn K C=some cd/\cd.mro=.ref C::.ref CT::bmV/\cd.hasDict=true:=by
 obtain⟨nm,q,N,bs,sn,sub,ab,col,dd,k0,k1,k2,k3,k5,lk,_⟩:=c.cl
 have e:clsIn K C=(match (excClassObj nm q C N bs (.ref CT::bmV) true sn sub ab col dd k0 k1 k2 k3 k5 "ValueError.__new__") with | ⟨_,_,.cls cd,_⟩=>some cd | _=>none):=by unfold clsIn;rw[lk]
 exact⟨_,e,rfl,rfl⟩
theorem XCl.mro(c:XCl K C CT)(T:Value):mroIn K C T=some ((Value.ref C::.ref CT::bmV).contains T):=by
 obtain⟨cd,h,m,_⟩:=c.cd
 unfold mroIn;rw[h,Option.bind_some,m];rfl
theorem XCl.mroT(c:XCl K C CT){T:String}(h:bmV.contains (.type T)=true):mroIn K C (.type T)=some true:=by
 rw[c.mro,List.contains_cons,List.contains_cons,h];rfl
end
section
variable{prog:Program}{w:World}{A:Around}{E:Value->Shared->Prop}{s:Shared}{K:Frag}{x C CT:Addr}{ox:Obj}{od:Option Obj}{name:Str}
theorem xget_open{tk:Tok}{fill expr:Bool}{Q:Value->Shared->Prop}(X:K.In s.heap)(I:InstAt s.heap x ox C od)(c:XCl K C CT)
 (h:wpAny (model prog w) A.in1 (Builtin.«object.__getattribute__» ⟨[.ref x,.str name tk],[]⟩)
  (fun fin s'=>match fin with | .done (.ret v)=>wpAny (model prog w) A (handedOut v) Q E s' | _=>False) (fun _ _=>False) s) :
 wpAny (model prog w) A (getAttrBy (.ref x) (.str name tk) fill expr) Q E s:=by
 have L0:=I.type (M:=model prog w)
 have L1:=looks_findIn (M:=model prog w) X c.ga
 have SL:=PySem.F.attr_ValueError.ga
 unfold getAttrBy
 refine wpAny_holding (wpAny_bind (L0.here (wpAny_bind (L1.here ?_))))
 dsimp only
 rw[show(onTheHeap (Value.ref C) && Value.builtin "BaseException.__getattribute__" == Value.builtin "object.__getattribute__")=false from by rw[show(Value.builtin "BaseException.__getattribute__" == Value.builtin "object.__getattribute__")=false from by decide +kernel,Bool.and_false],if_neg (by decide)]
 unfold getAttrByItsOwn
 refine wpAny_bind ((looks_hook (mc:=.ref C) X (r:=none) (by show(if onTheHeap (.ref C)=true then findIn K (.ref C) "__getattr__" else some none)=some none;rw[if_pos (show onTheHeap (Value.ref C)=true from rfl)];exact c.gt)).here (wpAny_bind (wpAny_attempt (wpAny_holding ?_))))
 unfold callGetattribute
 rw[show(expr && onTheHeap (Value.builtin "BaseException.__getattribute__"))=false from Bool.and_false _,if_neg (by decide)]
 unfold boundAndCalled
 rw[SL.bind]
 refine wpAny_bind (wpAny_pure ?_)
 show wpAny _ _ (call (.builtin "BaseException.__getattribute__") [.ref x,.str name tk]) _ _ _
 refine wpAny_call ?_
 refine codeAny_call_builtin SL.plain PySem.F.entry_bexc_ga ?_
 refine @check_slot (model prog w) _ _ s "BaseException.__getattribute__" "BaseException" "__getattribute__" (.ref x) [.str name tk] [] _ (by decide +kernel) (by decide +kernel) (I.type.andThen (looks_mroIn X (c.mroT (by decide)))) (PySem.F.args_bexc_ga _ _) ?_
 refine wpAny_mono h (fun fin s' z=>?_) fun _ _ z=>z.elim
 rcases fin with (_ | _ | _ | _) | _ <;> first | exact z | exact z.elim
theorem xosa_open{R:Result->Shared->Prop}{tk:Tok}{v:Value}(X:K.In s.heap)(I:InstAt s.heap x ox C od)(c:XCl K C CT)(ht:findIn K (.ref C) name=some none)
 (h:∀ b,wpAny (model prog w) A.in1 (storeInOwnDict (.ref x) (.ref C) (.str name tk) name v b)
  (fun fin s'=>match fin with | .done f=>R (.ok f) s' | .again c'=>c'.quiet=true/\codeAny (model prog w) A c' R s') (fun e s'=>R (.error e) s') s) :
 codeAny (model prog w) A (.call (.builtin "object.__setattr__") ⟨[.ref x,.str name tk,v],[]⟩) R s:=by
 have SF:=PySem.F.store_object
 obtain⟨cd,hc,ho,_⟩:=c.cd
 have sub:Looks (model prog w) s.heap (isInstance (.ref x) (.type "object")) true:=I.type.andThen (looks_mroIn X (c.mroT (by decide)))
 refine codeAny_call_builtin SF.slot.plain SF.entry (@check_slot (model prog w) _ _ s "object.__setattr__" "object" "__setattr__" (.ref x) [.str name tk,v] [] _ SF.kind SF.split sub (SF.args (.ref x) (.str name tk) v) ?_)
 have hm:Looks (model prog w) s.heap (mroOf (.ref C)) cd.mro:=(looks_clsIn X hc).andThen .now
 rw[osa_eq,refuse_eq]
 refine wpAny_bind (wpAny_bind (I.type.here (wpAny_bind (hm.here ?_))))
 rw[ho,refuseLoop_ref,refuseLoop_ref,PySem.F.store_ValueError.passes]
 refine wpAny_pure (wpAny_bind (I.type.here (wpAny_bind ((looks_findIn X ht).here (wpAny_bind (wpAny_pure (a:=none) ?_))))))
 exact h _
theorem xset_none{v:Value}{Q:Unit->Shared->Prop}(X:K.In s.heap)(c:XCl K C CT)(ht:findIn K (.ref C) name=some none)(hx:s.heap.get? x=some ox)(hcl:ox.cls=.ref C)(hn:notCls ox=true)(hfr:ox.isFreed=false)
 (hd:ox.dict=none) (h:∀ h',h'.Ns1 s.heap.objs.size (fun y=>if y=name then some v else none)->h'.get? x=some { ox with dict:=some s.heap.objs.size }->(∀ b o,b≠x->s.heap.get? b=some o->h'.get? b=some o)->Q () { s with heap:=h',toks:=s.toks+2 }) :
 wpAny (model prog w) A (setAttr (.ref x) name v) Q E s:=by
 have J:InstAt s.heap x ox C none:=⟨hx,hcl,hn,by rw[hd];trivial⟩
 refine set_plain X J c.sa (xosa_open (s:={ s with toks:=s.toks+1 }) X J c ht fun b=>?_)
 obtain⟨cd,hc,_,hd'⟩:=c.cd
 obtain⟨oc,odi,oda,osl⟩:=ox
 dsimp only at hcl hd
 subst hcl hd
 refine wpAny_bind (wpAny_pure (wpAny_bind (wpAny_bind (wpAny_loadPart hx (wpAny_bind (Looks.here (s:={ s with toks:=s.toks+1 }) (looks_clsIn X hc) ?_))))))
 rw[hd']
 have hx₁:(s.heap.push { cls:=.type "dict",data:=.dict #[] }).get? x=some ⟨.ref C,none,oda,osl⟩:=Heap.get?_push_of_some _ hx
 have hxs:x≠s.heap.objs.size:=Nat.ne_of_lt (Heap.lt_size hx)
 rw[if_neg (by decide)]
 dsimp only
 rw[if_neg (show ¬ ((!true || !typeHasDict (Value.ref C))=true) by simp[typeHasDict])]
 have hgd:((s.heap.push { cls:=.type "dict",data:=.dict #[] }).update x fun o=>{ cls:=o.cls,dict:=some s.heap.objs.size,data:=o.data,slots:=o.slots }).get? s.heap.objs.size=some { cls:=.type "dict",data:=.dict #[] } :=
  (Heap.get?_update_ne _ _ _ _ hxs.symm).trans (Heap.get?_push_at rfl rfl)
 have hnd:((s.heap.push { cls:=.type "dict",data:=.dict #[] }).update x fun o=>{ cls:=o.cls,dict:=some s.heap.objs.size,data:=o.data,slots:=o.slots }).Ns s.heap.objs.size (fun _=>none) :=
  ⟨_,#[],_,hgd,rfl,fun e he=>absurd he (by simp),fun _=>rfl⟩
 have hgx:((s.heap.push { cls:=.type "dict",data:=.dict #[] }).update x fun o=>{ cls:=o.cls,dict:=some s.heap.objs.size,data:=o.data,slots:=o.slots }).get? x=some ⟨.ref C,some s.heap.objs.size,oda,osl⟩:=by
  refine Heap.get?_update_self _ hx₁ ?_
  cases oda <;> first | rfl | exact hfr
 have core:wpAny (model prog w) A.in1 (do let d <- alloc { cls:=.type "dict",data:=.dict #[] };update x fun o=>{ cls:=o.cls,dict:=some d,data:=o.data,slots:=o.slots };dictMade (Value.ref C) x d)
  (fun a s'=>wpAny (model prog w) A.in1 (match a with | some d=>storeInDict d (Value.str name s.toks) name v | none=>noDictFor (Value.ref x) (Value.ref C) name b)
   (fun fin s'=>match fin with | .done f=>(match (Except.ok f:Result) with | .ok (.ret _)=>Q () s' | .ok _=>False | .error e=>E e s') | .again c'=>c'.quiet=true/\codeAny (model prog w) A c' (fun r s'=>match r with | .ok (.ret _)=>Q () s' | .ok _=>False | .error e=>E e s') s') (fun e s'=>E e s') s')
  (fun e s'=>E e s') { s with toks:=s.toks+1 }:=by
  refine wpAny_bind (wpAny_alloc' ?_)
  refine wpAny_bind (wpAny_update' hx₁ ?_)
  refine wpAny_pure ?_
  show wpAny _ _ (storeInDict s.heap.objs.size (.str name s.toks) name v) _ _ _
  unfold storeInDict newKeyGuard
  refine wpAny_bind (wpAny_pure (wpAny_bind (wpAny_nsSet1 (Heap.Ns1.of_empty hnd) fun h' hn' hs=>?_)))
  obtain⟨oD,esD,epD,hoD,hdD,hcD⟩:=hn'.count (Within.cons name v Within.nil)
  refine wpAny_bind (wpAny_lookBehind hoD (by rw[hdD];exact pastItsLine_dict (Nat.le_trans hcD (by rw[List.length_cons,List.length_nil,sizeLine_eq];omega))) ?_)
  refine wpAny_pure (h h' hn' ((hs.2 x hxs).trans hgx) fun b ob hbx hb=>?_)
  exact(hs.2 b (Nat.ne_of_lt (Heap.lt_size hb))).trans ((Heap.get?_update_ne _ _ _ _ hbx).trans (Heap.get?_push_of_some _ hb))
 cases oda with
 | cls c=>exact absurd hn (by simp[notCls])
 | _=>exact core
end
end PySem.W
end
section
namespace L2
open PySem PySem.Spec PyProof.Rows
abbrev newX(C:Addr)(dx:Option Addr)(t:Addr):Obj:={ cls:=.ref C,dict:=dx,data:=.fields #[.ref t,.none,.none,.none,.bool false,.none] }
def xN(e C:Addr)(dx:Option Addr):HO:=.ext fun h=>∃ t,h.get? e=some (newX C dx t)
def xD(d:Addr)(fs:List (Str×V)):HO:=.ext fun h=>∃ mA,h.Ns1 d mA/\(∀ f,RelO (fs.lookup f) (mA f))/\PySem.Within mA (fs.map (·.1))
section
variable{P:Program}{w:World}{H:Hp}{h:Heap}{e C:Addr}{dx:Option Addr}{fs:List (Str×V)}
theorem ok_xN{t:Addr}(q:h.get? e=some (newX C dx t)):ObjOk P w H h e (xN e C dx):=⟨⟨t,q⟩,⟨_,q⟩,fun h1 h2 ⟨t,q⟩ k=>⟨t,k _ q⟩⟩
theorem ok_xD{mA:Str->Option Value}(q:h.Ns1 e mA)(a:∀ f,RelO (fs.lookup f) (mA f))(b:PySem.Within mA (fs.map (·.1))):ObjOk P w H h e (xD e fs) :=
 ⟨⟨mA,q,a,b⟩,let ⟨o,_,_,z,_⟩:=q;⟨o,z⟩,fun h1 h2 ⟨mA,q,r⟩ k=>⟨mA,q.at k,r⟩⟩
end
section
variable{X:Cx}{pins:List (Addr×Obj)}{σ:St}{H:Hp}{s:Shared}{a C CT:Addr}{fs:List (Str×V)}
end
section
variable{X:Cx}{pins:List (Addr×Obj)}{σ:St}{H H':Hp}{s:Shared}{d e:Addr}{o:HO}
theorem Inv.track(I:Inv X pins σ H s)(hn:H d=none)(y:X.s₀.heap.get? d=none)(nl:d≠X.env.locals)(nc:∀ x c,X.env.cells.lookup x=some c->c≠d)(np:∀ p∈X.pn++pins,p.1≠d)(ok:ObjOk X.prog X.w (upd H d o) s.heap d o) :
 Inv X pins σ (upd H d o) s :=
 ⟨I.ok,I.os,I.bare,⟨I.base.keep,I.base.slot,fun b u q n hx=>by rw[upd_ne (fun z=>by rw[z,y]at q;cases q)];exact I.base.free b u q n hx,I.base.there,fun b xs q=>by have z:=I.base.tups b xs q;rw[upd_ne (ne_of_none z hn)];exact z,
  fun b u xs q=>by have z:=I.base.frzs b u xs q;rw[upd_ne (ne_of_none z hn)];exact z,fun b ps q=>by obtain⟨m,z⟩:=I.base.tbls b ps q;exact⟨m,by rw[upd_ne (ne_of_none z hn)];exact z⟩⟩,
  I.loc,I.cell,by rw[upd_ne (Ne.symm nl)];exact I.free,fun x c q=>by rw[upd_ne (nc x c q)];exact I.freeC x c q,fun p hp=>by obtain⟨a,b,r⟩:=I.pin p hp;exact⟨a,by rw[upd_ne (np p hp)];exact b,r⟩,
  fun b u q=>by
   by_cases hb:b=d
   ·subst hb;rw[upd_same]at q;cases q;exact ok
   ·rw[upd_ne hb]at q
    exact(I.hok b u q).stay (fun c v _ r=>r) (fun c r=>by rw[upd_ne (ne_of_none r hn)];exact r) fun c xs r=>by rw[upd_ne (ne_of_none r hn)];exact r,
  I.len⟩
theorem Inv.nowhere(I:Inv X pins σ H s)(hex:X.ex=[])(h:s.heap.get? d=none):H d=none/\X.s₀.heap.get? d=none/\d≠X.env.locals/\(∀ x c,X.env.cells.lookup x=some c->c≠d)/\∀ p∈X.pn++pins,p.1≠d:=by
 refine⟨I.hok.none_of h,I.young hex h,fun z=>?_,fun x c q z=>?_,fun p hp z=>?_⟩
 ·obtain⟨m,⟨o,es,ep,ho,_⟩,_⟩:=I.loc
  rw[z,ho]at h;cases h
 ·obtain⟨v,o,ho,_⟩:=I.cell x c q
  rw[z,h]at ho;cases ho
 ·have:=(I.pin p hp).1
  rw[z,h]at this;cases this
theorem Inv.off{φ:Heap->Prop}(I:Inv X pins σ H s)(he:H e=some (.ext φ))(y:X.s₀.heap.get? e=none)(h3:∀ b,b≠e->H' b=H b)(hn:H' e=none):Inv X pins σ H' s:=by
 have ne:∀ b,H b=none->b≠e:=fun b q z=>by rw[z,he]at q;cases q
 have nt:∀ b u,H b=some u->(∀ ψ,u≠.ext ψ)->b≠e:=fun b u q n z=>by rw[z,he]at q;cases q;exact n _ rfl
 have tt:∀ b xs,H b=some (.tup xs)->H' b=some (.tup xs):=fun b xs q=>(h3 b (nt b _ q (fun _ z=>by cases z))).trans q
 refine⟨I.ok,I.os,I.bare,⟨I.base.keep,I.base.slot,fun b u q n hx=>?_,I.base.there,fun b xs q=>tt b xs (I.base.tups b xs q),fun b u xs q=>?_,fun b ps q=>?_⟩,I.loc,I.cell,(h3 _ (ne _ I.free)).trans I.free,fun x c q=>(h3 _ (ne _ (I.freeC x c q))).trans (I.freeC x c q),fun p hp=>?_,fun b u q=>?_,I.len⟩
 ·have z:=I.base.free b u q n hx
  exact(h3 b (ne b z)).trans z
 ·have z:=I.base.frzs b u xs q
  exact(h3 b (nt b _ z (fun _ z=>by cases z))).trans z
 ·obtain⟨m,z⟩:=I.base.tbls b ps q
  exact⟨m,(h3 b (nt b _ z (fun _ z=>by cases z))).trans z⟩
 ·obtain⟨a,b,r⟩:=I.pin p hp
  exact⟨a,(h3 _ (ne _ b)).trans b,r⟩
 ·have hb:b≠e:=fun z=>by rw[z,hn]at q;cases q
  rw[h3 b hb]at q
  exact(I.hok b u q).stay (fun c v _ r=>r) (fun c r=>(h3 c (nt c _ r (fun _ z=>by cases z))).trans r) tt
end
section
variable{X:Cx}{pins:List (Addr×Obj)}{σ:St}{H:Hp}{s:Shared}{a C CT:Addr}{f:Str}
theorem setX0{A:Around}{E:Value->Shared->Prop}{y:V}{u:Value}{Q:Unit->Shared->Prop}(I:Inv X pins σ H s)(hex:X.ex=[])(e:H a=some (xN a C none))(c:PySem.W.XCl X.K C CT)(n:NoAttr X.K C f)(ry:RelV y u)
 (h:∀ d s',H d=none->d≠a->Inv X pins σ (upd (upd H a (xN a C (some d))) d (xD d [(f,y)])) s'->Q () s'):wpAny (model X.prog X.w) A (setAttr (.ref a) f u) Q E s:=by
 obtain⟨⟨t,q⟩,_,_⟩:=(show ObjOk X.prog X.w H s.heap a (xN a C none) from I.hok a _ e)
 refine PySem.W.xset_none I.kIn c n q rfl rfl rfl rfl fun h' hns hx hk=>?_
 obtain⟨w1,w2,w3,w4,w5⟩:=I.nowhere hex (Heap.get?_none_of_le (Nat.le_refl s.heap.objs.size))
 have hne:s.heap.objs.size≠a:=fun z=>by rw[z,e]at w1;cases w1
 refine h s.heap.objs.size _ w1 hne ?_
 have I1:Inv X pins σ (upd H a (xN a C (some s.heap.objs.size))) { s with heap:=h',toks:=s.toks+2 } :=
  I.write (x:=a) (e:=a) (by rw[e];exact True.intro) (.inl rfl) (fun b u hb z=>hk b u hb z) ⟨_,hx⟩ (ok_xN (t:=t) hx)
 refine I1.track (by rw[upd_ne hne];exact w1) w2 w3 w4 w5 (ok_xD hns (fun g=>?_) fun g hg=>?_)
 ·by_cases hg:g=f
  ·have hb:(g == f)=true:=beq_iff_eq.mpr hg
   simp only[List.lookup,hb,if_pos hg];exact ry
  ·have hb:(g == f)=false:=beq_eq_false_iff_ne.mpr hg
   simp only[List.lookup,hb,if_neg hg];trivial
 ·by_cases z:g=f
  ·rw[z];simp
  ·rw[if_neg z]at hg;exact absurd hg (by simp)
def sXF0(K:PySem.W.Frag)(CT:Addr)(ta tv:TE)(f:Str):TS:=fun D σ H=>tv σ H fun y H1=>ta σ H1 fun x H2=>∃ a C,x=.ref a/\H2 a=some (xN a C none)/\PySem.W.XCl K C CT/\NoAttr K C f /\
 ∀ d,H2 d=none->d≠a->D.nx σ (upd (upd H2 a (xN a C (some d))) d (xD d [(f,y)]))
def sXF1(K:PySem.W.Frag)(CT:Addr)(ta tv:TE)(f:Str):TS:=fun D σ H=>tv σ H fun y H1=>ta σ H1 fun x H2=>∃ a C d fs,x=.ref a/\H2 a=some (xN a C (some d))/\H2 d=some (xD d fs)/\PySem.W.XCl K C CT/\NoAttr K C f/\fs.length < 1000 /\
 D.nx σ (upd H2 d (xD d (putF f y fs)))
variable{o value:Expr}{pos pos':Pos}{ta tv:TE}
theorem ps_xf0(CT:Addr)(hex:X.ex=[])(ha:PE X o ta)(hv:PE X value tv)(hs:swapsWith value (some (.Attribute o f pos')) pos.line X.env=pure false):PS X (.Assign [.Attribute o f pos'] value pos) (sXF0 X.K CT ta tv f):=by
 intro pins s σ H D I h
 refine plainObj_wpAny_Assign_Attribute (thn (hv pins s σ H _ I h) fun u s1 ⟨y,H1,I1,ry,q⟩=>thn (ha pins s1 σ H1 _ I1 q) fun ov s2 ⟨x,H2,I2,rx,a,C,ex,ea,c,n,q2⟩=>?_) hs
 subst ex
 obtain rfl:ov=Value.ref a:=rx
 exact setX0 I2 hex ea c n ry fun d s3 w1 w2 I3=>⟨σ,_,I3,q2 d w1 w2⟩
structure XTop(K:PySem.W.Frag)(mg:Str->Option Value)(x:Str)(CT:Addr):Prop where
 mg_:mg x=some (.ref CT)
 cl:ExcC K CT PySem.W.bmV PySem.W.bmV "ValueError.__new__"
 sp:PySem.W.specialIn K (.ref CT) "__getattribute__"=some (some (.builtin "type.__getattribute__"))
 rd:PySem.W.readsIn K CT (.type "type")=true
 ini:PySem.W.findCls K (.ref CT) (.type "type") "__init__"=some (.val (.builtin "ValueError.__init__"))
def tBI(K:PySem.W.Frag)(CT:Addr)(t:TA):TE:=fun σ H Q=>t σ H fun vs H1=>∃ a C ws,vs=.ref a::ws/\ws.length<=1000/\H1 a=some (xN a C none)/\PySem.W.XCl K C CT/\Q .non H1
end
end L2
end
section
namespace PySem
section
variable{prog:Program}{w:World}{A:Around}{E:Value->Shared->Prop}{s:Shared}{K:W.Frag}{C CT e t:Addr}{dx:Option Addr}
theorem xinit_call{rest:List Value}{Q:Value->Shared->Prop}(X:K.In s.heap)(c:W.XCl K C CT)(he:s.heap.get? e=some { cls:=.ref C,dict:=dx,data:=.fields #[.ref t,.none,.none,.none,.bool false,.none] })(hl:rest.length<=sizeLine)
 (h:∀ h' t',h'.get? e=some { cls:=.ref C,dict:=dx,data:=.fields #[.ref t',.none,.none,.none,.bool false,.none] }->(∀ b o,b≠e->s.heap.get? b=some o->h'.get? b=some o)->Q .none { s with heap:=h' }) :
 wpAny (model prog w) A (call (.builtin "ValueError.__init__") (.ref e::rest)) Q E s:=by
 obtain⟨nm,q,N,bs,sn,sub,ab,col,dd,k0,k1,k2,k3,k5,lk,ok⟩:=c.cl
 have FB:=F.excBase_ValueError
 have TL:OwnTail s.heap W.bmV (.ref CT::W.bmV):=W.tail_of_in X c.tail
 have hC:=X _ _ lk
 obtain⟨hh,g,d,tk,os⟩:=s
 refine wpAny_call (codeAny_call_builtin FB.init.plain FB.initEntry (wpAny_check_init_subT FB TL hC he rfl ?_))
 wp_walk
 refine h _ hh.objs.size ?_ fun b o hb z=>?_
 ·rw[Heap.get?_update_self _ (Heap.get?_push_of_some _ he) rfl]
  rfl
 ·rw[Heap.get?_update_other _ _ (Ne.symm hb)]
  exact Heap.get?_push_of_some _ z
end
section
variable{prog:Program}{w:World}{A:Around}{E:Value->Shared->Prop}{h:Heap}{g:Array GenState}{d:Drawn}{t:Nat}{os:OsState}{K:W.Frag}{C CT:Addr}
theorem made_X(X:K.In h)(c:W.XCl K C CT){rest:List Value}{fI:Addr}{Q:Fin->Shared->Prop}(hf:W.findIn K (.ref C) "__init__"=some (some (.ref fI)))(hfn:W.isFn K (.ref fI)=true)
 (fin:∀ h' e,Heap.MadeExcOf h h' e (.ref C) rest->wpAny (model prog w) A (call (.ref fI) (.ref e::rest)) (fun r s'=>r=.none/\Q (.done (.ret (.ref e))) s') E ⟨h',g,d,t,os⟩) (short:rest.length<=sizeLine) :
 wpAny (model prog w) A (Builtin.«type.__call__» ⟨.ref C::rest,[]⟩) Q E ⟨h,g,d,t,os⟩:=by
 obtain⟨nm,q,N,bs,sn,sub,ab,col,dd,k0,k1,k2,k3,k5,lk,ok⟩:=c.cl
 have FB:=F.excBase_ValueError
 have TL:OwnTail h W.bmV (.ref CT::W.bmV):=W.tail_of_in X c.tail
 have cl:=X _ _ lk
 repeat (first | (with_reducible refine wpAny_loadPart_at cl ?_) | (with_reducible refine wpAny_madeBy_exc cl ?_) | wp_step)
 refine codeAny_call_builtin_code (Code.quiet_builtin _ FB.quiet) (wpAny_check_new_subT FB TL cl ?_)
 refine codeAny_exc_new_subT FB TL cl ?_ short
 show wpAny _ _ _ _ _ _
 have kp:∀ b o,h.get? b=some o->((h.push (excTup rest)).push (excRec h C)).get? b=some o:=fun b o e=>Heap.get?_push_of_some _ (Heap.get?_push_of_some _ e)
 have X1:K.In ((h.push (excTup rest)).push (excRec h C)):=X.keeps kp
 have cl1:((h.push (excTup rest)).push (excRec h C)).get? C=_:=kp _ _ cl
 have rec1:((h.push (excTup rest)).push (excRec h C)).get? (h.objs.size+1)=some (excRec h C):=by heap_get
 have self:(Value.ref C::.ref CT::W.bmV).contains (.ref C)=true:=by rw[List.contains_cons];simp
 unfold isInstance
 repeat (first | (with_reducible refine wpAny_loadPart_at rec1 ?_) | (with_reducible refine wpAny_isSubtype_exc cl1 ?_;rw[self]) | wp_step)
 show wpAny _ _ (typeLookup (.ref C) _) _ _ _
 refine(W.looks_findIn (M:=model prog w) X1 hf).at ?_
 refine wpAny_holding (wpAny_bind ((W.bind_fn (M:=model prog w) X1 _ (beq_iff_eq.mp hfn)).at ?_))
 have mk:Heap.MadeExcOf h ((h.push (excTup rest)).push (excRec h C)) (h.objs.size+1) (.ref C) rest :=
  ⟨kp,Heap.get?_none_of_le (Nat.le_succ _),h.objs.size,rec1,Heap.get?_none_of_le (Nat.le_refl _),Heap.get?_push_of_some _ (Heap.get?_push_at rfl rfl)⟩
 refine wpAny_bind (wpAny_mono (fin _ (h.objs.size+1) mk) (fun r s' hr=>?_) fun _ _ z=>z)
 obtain⟨rfl,hQ⟩:=hr
 wp_walk
 exact hQ
theorem call_X(X:K.In h)(c:W.XCl K C CT){rest:List Value}{fI:Addr}{Q:Value->Shared->Prop}(hf:W.findIn K (.ref C) "__init__"=some (some (.ref fI)))(hfn:W.isFn K (.ref fI)=true)
 (fin:∀ h' e,Heap.MadeExcOf h h' e (.ref C) rest->wpAny (model prog w) (A.under (.builtin "type.__call__" ⟨.ref C::rest,[]⟩)) (call (.ref fI) (.ref e::rest)) (fun r s'=>r=.none/\Q (.ref e) s') E ⟨h',g,d,t,os⟩) (short:rest.length<=sizeLine) :
 wpAny (model prog w) A (call (.ref C) rest) Q E ⟨h,g,d,t,os⟩:=by
 obtain⟨nm,q,N,bs,sn,sub,ab,col,dd,k0,k1,k2,k3,k5,lk,ok⟩:=c.cl
 have cl:=X _ _ lk
 have l1:=tc_lookup
 have l2:=tc_bind (.ref C)
 have ty:(⟨h,g,d,t,os⟩:Shared).TypeIs (.ref C) "type":=⟨_,cl,rfl⟩
 refine wpAny_call (codeAny_of_tree ?_)
 show wpAny _ _ (callAny (.ref C) _) _ _ _
 repeat (any_goals (first | assumption | (with_reducible refine wpAny_loadPart_at cl ?_) | wp_step))
 refine⟨rfl,?_⟩
 refine codeAny_call_builtin_at (Code.quiet_builtin _ (by decide +kernel)) entry_typeCall (wpAny_check_type_call_sub cl (made_X X c hf hfn (fun h' e hm=>?_) short))
 exact fin h' e hm
end
section
variable{M:Model}{A:Around}{E:Value->Shared->Prop}{env:Env}
variable{nm q:Str}{C N:Addr}{bs bm:List Value}{hdct:Bool}{sn:List Str}{sub:List Value}{ab:Bool}{col:Option Bool}{dd:Option Addr}{k0 k1 k2 k3 k5:Option Value}{newId:String}
theorem raise_any{s:Shared}{x:Sem Value}{Q:Flow->Shared->Prop}(hbase:bm.contains (.type "BaseException")=true)(hh:A.handled=none)
 (h:wpAny M A x (fun v s₁=>∃ e t dx,v=.ref e/\s₁.heap.get? C=some (excClassObj nm q C N bs bm hdct sn sub ab col dd k0 k1 k2 k3 k5 newId)/\s₁.heap.get? e=some { cls:=.ref C,dict:=dx,data:=.fields #[.ref t,.none,.none,.none,.bool false,.none] }/\E (.ref e) s₁) E s) :
 wpAny M A (raiseStmt env (some x) none) Q E s:=by
 have hcB:(Value.ref C::bm).contains (.type "BaseException")=true:=by rw[List.contains_cons,hbase,Bool.or_true]
 unfold raiseStmt
 refine wpAny_bind (wpAny_mono h (fun v s₁ h₁=>?_) fun _ _ x=>x)
 obtain⟨e,t,dx,rfl,hC,he,hE⟩:=h₁
 obtain⟨hp,g,d,tk,os⟩:=s₁
 repeat (first | with_reducible refine wpAny_loadPart_at he ?_ | with_reducible refine wpAny_loadPart_at hC ?_ | (with_reducible refine wpAny_isSubtype_exc hC ?_;rw[hcB]) | wp_step)
 exact wpAny_raiseNew_none hh hE
variable{nm' q':Str}{CT N':Addr}{bs' bm':List Value}{hdct':Bool}{sn':List Str}{sub':List Value}{ab':Bool}{col':Option Bool}{dd':Option Addr}{j0 j1 j2 j3 j5:Option Value}{newId':String}
end
end PySem
namespace PySem.W
open PySem
def xFacts(K:Frag)(C:Addr)(fl:List Str):Bool:=findIn K (.ref C) "__getattribute__" == some (some (.builtin "BaseException.__getattribute__")) && (findIn K (.ref C) "__getattr__" == some none && (findIn K (.ref C) "__setattr__" == some (some (.builtin "object.__setattr__")) && (findIn K (.ref C) "__class__" == some (some (.builtin "object.__class__")) && fl.all fun f=>findIn K (.ref C) f == some none)))
section
variable{K:Frag}{C CT:Addr}{fl:List Str}
theorem xFacts_of(h:xFacts K C fl=true):findIn K (.ref C) "__getattribute__"=some (some (.builtin "BaseException.__getattribute__"))/\findIn K (.ref C) "__getattr__"=some none/\findIn K (.ref C) "__setattr__"=some (some (.builtin "object.__setattr__")) /\
 findIn K (.ref C) "__class__"=some (some (.builtin "object.__class__"))/\∀ f∈fl,findIn K (.ref C) f=some none:=by
 unfold xFacts at h
 simp only[Bool.and_eq_true,beq_iff_eq,List.all_eq_true]at h
 exact h
theorem xFacts_no(h:xFacts K C fl=true){f:Str}(hf:f∈fl):L2.NoAttr K C f:=(xFacts_of h).2.2.2.2 f hf
theorem XCl.of(cl:∃ nm q N bs sn sub ab col dd k0 k1 k2 k3 k5,K.lookup C=some (excClassObj nm q C N bs (.ref CT::bmV) true sn sub ab col dd k0 k1 k2 k3 k5 "ValueError.__new__")/\nsOkIn K N=true)(tail:tailIn K bmV (.ref CT::bmV)=true)
 (h:xFacts K C fl=true) (cg:specialIn K (.builtin "object.__class__") "__get__"=some (some (.builtin "getset_descriptor.__get__"))) (ct:takesIn K (.builtin "object.__class__")=some true):XCl K C CT :=
 let ⟨a,b,c,d,_⟩:=xFacts_of h;⟨cl,tail,a,b,c,d,cg,ct⟩
def tabOk(K:Frag)(l:List Addr):Bool:=(List.range l.length).all fun i=>(List.range l.length).all fun j=>kitOne K (.ref (l.getD i 0)) (.ref (l.getD j 0)) == some (decide (i=j))
def tvOk(K:Frag)(l:List Addr):Bool:=(List.range l.length).all fun i=>kitOne K (.ref (l.getD i 0)) (.type "ValueError") == some true
theorem xtab_of{l:List Addr}(h:tabOk K l=true):∀ i j,i < l.length->j < l.length->kitOne K (.ref (l.getD i 0)) (.ref (l.getD j 0))=some (decide (i=j)):=by
 unfold tabOk at h
 simp only[List.all_eq_true,List.mem_range,beq_iff_eq]at h
 exact fun i j hi hj=>h i hi j hj
theorem xtv_of{l:List Addr}(h:tvOk K l=true):∀ i,i < l.length->kitOne K (.ref (l.getD i 0)) (.type "ValueError")=some true:=by
 unfold tvOk at h
 simp only[List.all_eq_true,List.mem_range,beq_iff_eq]at h
 exact h
end
end PySem.W
namespace L2
open PySem PySem.Spec PyProof.Rows
section
variable{X:Cx}{x:Str}{CT:Addr}{e:Expr}{es:List Expr}{t:TA}{p pos apos cpos np:Pos}{pl:Sem Bool}
theorem pe_binit(T:XTop X.K X.mg x CT)(hg:Gl X x)(ha:PA X (e::es) t)(hdb:(x == ("__debug__":Str))=false:=by decide)
 (he:starEach (e::es) X.env=(false,eval e X.env)::starEach es X.env:=by rfl) (hpl:(backTo pos (starEach es X.env)).any (·.1)=false:=by rfl)
 (ht:eval (.Call (.Attribute (.Name x p) "__init__" apos) (e::es) [] pos) X.env=(do
  let ov <- eval (.Name x p) X.env
  standAt apos.atName
  let (f,first) <- holding [ov] (getMethod ov "__init__" pl)
  callWith pos f first (backTo pos (starEach (e::es) X.env)) (backToKw pos (keywordEach [] X.env))):=by rfl) :
 PE X (.Call (.Attribute (.Name x p) "__init__" apos) (e::es) [] pos) (tBI X.K CT t):=by
 intro pins s σ H Q I h
 refine PySem.W.methodCall_KW (pl:=pl) (ld_glob I hg T.mg_ ?_ hdb) ht
 refine PySem.W.method_cls I.kIn T.sp (PySem.W.cls_value I.kIn T.rd T.ini (by decide +kernel) ?_)
 refine PyProof.Rows.callWith_builtin1 (thn (ha pos pins _ σ H _ (I.tok _) h) fun us s1 ⟨vs,H1,I1,r,a,C,ws,ev,hl,ea,c,q⟩=>?_) he hpl
 subst ev
 cases r with
 | cons r0 r1 =>
  cases (show _=Value.ref a from r0)
  obtain⟨⟨t,g⟩,_,_⟩:=(show ObjOk X.prog X.w H1 s1.heap a (xN a C none) from I1.hok a _ ea)
  refine xinit_call I1.kIn c g (by rw[<- r1.length,sizeLine_eq];omega) fun h' t' g' k=>⟨.non,H1,?_,rfl,q⟩
  have I2:=I1.write (h':=h') (t':=s1.toks) (x:=a) (e:=a) (o:=xN a C none) (by rw[ea];exact True.intro) (.inl rfl) (fun b u hb z=>k b u hb z) ⟨_,g'⟩ (ok_xN (t:=t') g')
  have eH:upd H1 a (xN a C none)=H1:=by
   funext b
   by_cases hb:b=a
   ·rw[hb,upd_same];exact ea.symm
   ·rw[upd_ne hb]
  rw[eH]at I2
  exact I2
def sp_X(C:Addr)(fl:List Str):Sp:=fun vs H Q _=>∃ e ws,vs=.ref e::ws/\ws.length=fl.length/\H e=some (xN e C none)/\∀ d,H d=none->d≠e->Q .non (upd (upd H e (xN e C (some d))) d (xD d (fl.zip ws)))
def MkX(P:Program)(w:World)(K:PySem.W.Frag)(mg:Str->Option Value)(base:Heap)(k:Nat)(x:Str)(C CT:Addr)(fl:List Str):Prop :=
 ∃ f fd ps,FnOk P w K mg base CX0 k f fd ps (sp_X C fl)/\Binds K fd ps []/\PySem.W.XCl K C CT/\PySem.W.findIn K (.ref C) "__init__"=some (some (.ref f))/\PySem.W.isFn K (.ref f)=true/\PySem.W.keepIn K (.ref C)=true/\mg x=some (.ref C)
def tRaiseX(E:XK)(C:Addr)(fl:List Str)(t:TA):TS:=fun _ σ H=>t σ H fun vs H1=>vs.length=fl.length/\vs.length<=1000/\∀ d,H1 d=none->E (.ref C) (some d) (upd H1 d (xD d (fl.zip vs)))
variable{E:XK}{C:Addr}{fl:List Str}{j k:Nat}
theorem ps_raiseX(T:Throws X E)(hex:X.ex=[])(hcalm:X.calm=true)(hg:Gl X x)(G:MkX X.prog X.w X.K X.mg X.base j x C CT fl)(hr:Room k X.A)(hj:j+1<=k)(ha:PA X (e::es) t)(hdb:(x == ("__debug__":Str))=false:=by decide)
 (he:starEach (e::es) X.env=(false,eval e X.env)::starEach es X.env:=by rfl) (hpl:(backTo cpos (starEach es X.env)).any (·.1)=false:=by rfl) :
 PS X (.Raise (some (.Call (.Name x np) (e::es) [] cpos)) none pos) (tRaiseX E C fl t):=by
 intro pins s σ H D I h
 obtain⟨f,fd,ps,F,hb,c,hf,hfn,kp,hm⟩:=G
 obtain⟨nm,q,N,bs,sn,sub,ab,col,dd,k0,k1,k2,k3,k5,lk,ok⟩:=id c.cl
 rw[arm_exec_Raise]
 refine wpAny_bind (wpAny_standAt (raise_any (C:=C) (nm:=nm) (q:=q) (N:=N) (bs:=bs) (bm:=.ref CT::PySem.W.bmV) (hdct:=true) (sn:=sn) (sub:=sub) (ab:=ab) (col:=col) (dd:=dd) (k0:=k0) (k1:=k1) (k2:=k2) (k3:=k3) (k5:=k5) (newId:="ValueError.__new__") (by rw[List.contains_cons,PySem.F.excBase_ValueError.hasBase,Bool.or_true]) (I.ok.hd hcalm) ?_))
 refine wpAny_bind (wpAny_mono (wpAny_Call_ofName (ld_glob I hg hm ?_ hdb)) (fun v s₃ h₃=>wpAny_bind (wpAny_standAt (wpAny_pure h₃))) fun _ _ z=>z)
 refine PySem.W.callWith_K (h₀:=X.base) I.ok.mod.kin kp (thn (ha cpos pins s σ H _ I h) fun us s1 ⟨vs,H1,I1,r,hl,hz,q⟩=>⟨I1.kIn,?_⟩) he hpl
 obtain⟨hh,g,dr,tk,os⟩:=s1
 refine call_X I1.kIn c hf hfn (fun h' ea mk=>?_) (by rw[sizeLine_eq,List.nil_append,<- r.length];omega)
 rw[List.nil_append]at mk ⊢
 have hC':=mk.there
 obtain⟨tt,he',_⟩:=hC'
 obtain⟨w1,w2,w3,w4,w5⟩:=I1.nowhere hex mk.new
 have I1':Inv X pins σ H1 ⟨h',g,dr,tk,os⟩:=I1.kept (t':=tk) mk.keeps
 have I2:Inv X pins σ (upd H1 ea (xN ea C none)) ⟨h',g,dr,tk,os⟩:=I1'.track w1 w2 w3 w4 w5 (ok_xN (t:=tt) he')
 have hsp:sp_X C fl (.ref ea::vs) (upd H1 ea (xN ea C none)) (fun v H2=>v=.non/\∃ d,H1 d=none/\d≠ea/\H2=upd (upd (upd H1 ea (xN ea C none)) ea (xN ea C (some d))) d (xD d (fl.zip vs))) E0 :=
  ⟨ea,vs,rfl,hl,upd_same,fun d hd hne=>⟨rfl,d,by rw[upd_ne hne]at hd;exact hd,hne,rfl⟩⟩
 have r2:Vals (V.ref ea::vs) (Value.ref ea::us):=.cons rfl r
 have hlen:(Value.ref ea::us++[]).length=ps.length:=by rw[List.append_nil,<- r2.length];exact F.len _ _ _ _ hsp
 have b:=hb ⟨h',g,dr,tk,os⟩ (Value.ref ea::us) I2.kIn hlen
 rw[List.append_nil]at b
 refine wpAny_call (codeAny_mono (F.run _ X.stack _ _ ⟨Value.ref ea::us,[]⟩ (Value.ref ea::us) _ _ E0 ((hr.mono hj).make C us []) (I2.env0.make C us []) b r2 hsp) fun res s' hq=>?_)
 cases res with
 | error ev=>exact False.elim hq
 | ok fo =>
  cases fo with
  | next=>exact False.elim hq
  | brk=>exact False.elim hq
  | cont=>exact False.elim hq
  | ret u =>
   obtain⟨v,H3,I3,rv,ev,d,hd,hne,eH⟩:=I2.after hq
   subst ev
   subst eH
   have e3:upd (upd (upd H1 ea (xN ea C none)) ea (xN ea C (some d))) d (xD d (fl.zip vs)) ea=some (xN ea C (some d)):=by rw[upd_ne (Ne.symm hne),upd_same]
   obtain⟨⟨t3,g3⟩,_,_⟩:=(show ObjOk X.prog X.w _ s'.heap ea (xN ea C (some d)) from I3.hok ea _ e3)
   have e4:upd H1 d (xD d (fl.zip vs)) ea=none:=by rw[upd_ne (Ne.symm hne)];exact w1
   have I4:Inv X pins σ (upd H1 d (xD d (fl.zip vs))) s':=I3.off e3 w2 (fun y hy=>by
    by_cases hyd:y=d
    ·rw[hyd,upd_same,upd_same]
    ·rw[upd_ne hyd,upd_ne hyd,upd_ne hy,upd_ne hy]) e4
   refine⟨rv,ea,t3,some d,rfl,I3.kIn _ _ lk,g3,?_⟩
   exact T pins σ _ s' ea (.ref C) (some d) [] none I4 ⟨_,_,g3,rfl,rfl,rfl,⟨⟨.none,rfl,rfl⟩,by simp,fun p hp=>by cases hp⟩,rfl⟩ (.inl rfl) w2 e4 (q d hd)
end
section
variable{X:Cx}{st b₀:Stmt}{suite:List Stmt}{t1:TS1}{ts:TS}{x n:Str}{CT:Addr}{np hpos pos:Pos}{i:Nat}
end
end L2
end
section
namespace L2
open PySem PySem.Spec PyProof.Rows
inductive Dt where
 | v (x:V)
 | t (xs:List Dt)
 | l (xs:List Dt)
instance:Inhabited Dt:=⟨.v .non⟩
mutual
def eqD:Dt->Dt->Bool
 | .v x,.v y=>eqV x y
 | .t xs,.t ys=>eqDs xs ys
 | .l xs,.l ys=>eqDs xs ys
 | _,_=>false
def eqDs:List Dt->List Dt->Bool
 | [],[]=>true
 | x::xs,y::ys=>eqD x y && eqDs xs ys
 | _,_=>false
end
inductive Rep(K:PySem.W.Frag)(H:Hp):Nat->Dt->V->Prop where
 | v {n:Nat} {x:V} (f:flatV x=true):Rep K H n (.v x) x
 | t {n:Nat} {a:Addr} {ds:List Dt} {xs:List V} (h:SqT K H a xs) (e:ds.length=xs.length) (r:∀ (i:Nat) d x,ds[i]?=some d->xs[i]?=some x->Rep K H n d x):Rep K H (n+1) (.t ds) (.ref a)
 | l {n:Nat} {a:Addr} {ds:List Dt} {xs:List V} (h:SqL K H a xs) (e:ds.length=xs.length) (r:∀ (i:Nat) d x,ds[i]?=some d->xs[i]?=some x->Rep K H n d x):Rep K H (n+1) (.l ds) (.ref a)
theorem all_range_succ(n:Nat)(p:Nat->Bool):(List.range (n+1)).all p=(p 0 && (List.range n).all fun i=>p (i+1)):=by
 rw[List.range_succ_eq_map,List.all_cons,List.all_map];rfl
theorem eqDs_eq:∀ xs ys:List Dt,eqDs xs ys=((List.range (min xs.length ys.length)).all (fun i=>eqD (xs.getD i default) (ys.getD i default)) && (xs.length == ys.length))
 | [],[]=>by simp[eqDs]
 | [],y::ys=>by simp[eqDs]
 | x::xs,[]=>by simp[eqDs]
 | x::xs,y::ys=>by
  rw[eqDs,eqDs_eq xs ys,List.length_cons,List.length_cons,Nat.succ_min_succ,all_range_succ]
  simp only[List.getD_cons_zero,List.getD_cons_succ,Bool.and_assoc]
  have:(xs.length+1 == ys.length+1)=(xs.length == ys.length):=by rw[Bool.eq_iff_iff,beq_iff_eq,beq_iff_eq];omega
  rw[this]
theorem eqDs_len{xs ys:List Dt}(h:xs.length=ys.length):eqDs xs ys=(List.range xs.length).all (fun i=>eqD (xs.getD i default) (ys.getD i default)):=by
 rw[eqDs_eq,<- h,Nat.min_self,beq_self_eq_true,Bool.and_true]
theorem eqDs_ne{xs ys:List Dt}(h:xs.length≠ys.length):eqDs xs ys=false:=by
 rw[eqDs_eq,beq_eq_false_iff_ne.mpr h,Bool.and_false]
section
variable{K:PySem.W.Frag}{H H':Hp}{n m:Nat}{d d':Dt}{x:V}
theorem Rep.self(r:Rep K H n d x):eqD d d=true:=by
 induction r with
 | v f=>unfold eqD;exact eqV_refl f
 | t h e _ ih =>
  unfold eqD
  rw[eqDs_len rfl,List.all_eq_true]
  intro i hi
  rename_i ds xs _
  have hi:=List.mem_range.mp hi
  have h1:ds[i]?=some ds[i]:=List.getElem?_eq_getElem hi
  have h2:xs[i]?=some (xs[i]'(by omega)):=List.getElem?_eq_getElem (by omega)
  have:=ih i _ _ h1 h2
  rwa [show ds.getD i default=ds[i] by simp[List.getD,h1]]
 | l h e _ ih =>
  unfold eqD
  rw[eqDs_len rfl,List.all_eq_true]
  intro i hi
  rename_i ds xs _
  have hi:=List.mem_range.mp hi
  have h1:ds[i]?=some ds[i]:=List.getElem?_eq_getElem hi
  have h2:xs[i]?=some (xs[i]'(by omega)):=List.getElem?_eq_getElem (by omega)
  have:=ih i _ _ h1 h2
  rwa [show ds.getD i default=ds[i] by simp[List.getD,h1]]
end
section
variable{X:Cx}{pins:List (Addr×Obj)}{σ:St}{H:Hp}{s:Shared}
theorem Inv.tup_not_list{a:Addr}{xs ys:List V}(I:Inv X pins σ H s)(h:SqT X.K H a xs)(h':SqL X.K H a ys):False:=by
 obtain⟨its,r,⟨o,e,c,_⟩,_⟩:=I.tuple h
 obtain⟨its',r',⟨o',n',e',c',_⟩,_⟩:=I.list h'
 rw[e]at e';cases e'
 rw[c]at c';exact absurd (Value.type.inj c') (by decide)
theorem Rep.det(I:Inv X pins σ H s):∀ {n m:Nat} {d d':Dt} {x y:V},Rep X.K H n d x->Rep X.K H m d' y->x=y->d=d':=by
 intro n m d d' x y r
 induction r generalizing m d' y with
 | v f =>
  intro r' e
  subst e
  cases r' with
  | v _=>rfl
  | t _ _ _=>exact absurd f (by simp[flatV])
  | l _ _ _=>exact absurd f (by simp[flatV])
 | t h e _ ih =>
  intro r' ee
  cases r' with
  | v f=>subst ee;exact absurd f (by simp[flatV])
  | t h' e' r2 =>
   cases ee
   have:=I.tuple_inj h h'
   subst this
   congr 1
   refine List.ext_getElem (by omega) fun i h1 h2=>?_
   exact ih i _ _ (List.getElem?_eq_getElem h1) (List.getElem?_eq_getElem (show i < _ by omega)) (r2 i _ _ (List.getElem?_eq_getElem h2) (List.getElem?_eq_getElem (by omega))) rfl
  | l h' _ _=>cases ee;exact(I.tup_not_list h h').elim
 | l h e _ ih =>
  intro r' ee
  cases r' with
  | v f=>subst ee;exact absurd f (by simp[flatV])
  | l h' e' r2 =>
   cases ee
   have:=I.list_inj h h'
   subst this
   congr 1
   refine List.ext_getElem (by omega) fun i h1 h2=>?_
   exact ih i _ _ (List.getElem?_eq_getElem h1) (List.getElem?_eq_getElem (show i < _ by omega)) (r2 i _ _ (List.getElem?_eq_getElem h2) (List.getElem?_eq_getElem (by omega))) rfl
  | t h' _ _=>cases ee;exact(I.tup_not_list h' h).elim
theorem getD_of{α:Type}{xs:List α}{i:Nat}{x d:α}(h:xs[i]?=some x):xs.getD i d=x:=by simp[List.getD,h]
theorem ne_units{A:Around}{n:Nat}(h:A.units+(n+1) < cLine):A.in1.units+n < cLine:=by show A.units+1+n < cLine;omega
theorem Rep.eqAt(I:Inv X pins σ H s):∀ (n:Nat) {A:Around} {d d':Dt} {x y:V} {u v:Value},A.units+n < cLine->Rep X.K H n d x->Rep X.K H n d' y->RelV x u->RelV y v->SeqAt.EqAt A s u v (eqD d d'):=by
 intro n
 induction n with
 | zero =>
  intro A d d' x y u v hu r r' rx ry
  cases r with
  | v f =>
   cases r' with
   | v f'=>unfold eqD;exact eqAt_V rx ry f f'
 | succ n ih =>
  intro A d d' x y u v hu r r' rx ry
  have hu0:A.units < cLine:=by omega
  have elems:∀ {ds es:List Dt} {xs ys:List V} {us vs:List Value},ds.length=xs.length->es.length=ys.length->(∀ (i:Nat) d x,ds[i]?=some d->xs[i]?=some x->Rep X.K H n d x)->(∀ (i:Nat) d x,es[i]?=some d->ys[i]?=some x->Rep X.K H n d x) ->
   Vals xs us->Vals ys vs->∀ j (h1:j < us.toArray.size) (h2:j < vs.toArray.size),SeqAt.EqAt A.in1 s us.toArray[j] vs.toArray[j] (eqD (ds.getD j default) (es.getD j default)):=by
   intro ds es xs ys us vs l1 l2 r1 r2 w1 w2 j h1 h2
   have m1:=w1.length
   have m2:=w2.length
   have j1:j < xs.length:=by have:j < us.length:=by simpa using h1
                             omega
   have j2:j < ys.length:=by have:j < vs.length:=by simpa using h2
                             omega
   have g1:ds[j]?=some (ds[j]'(by omega)):=List.getElem?_eq_getElem _
   have g2:es[j]?=some (es[j]'(by omega)):=List.getElem?_eq_getElem _
   have x1:xs[j]?=some xs[j]:=List.getElem?_eq_getElem _
   have x2:ys[j]?=some ys[j]:=List.getElem?_eq_getElem _
   obtain⟨u1,e1,q1⟩:=w1.get x1
   obtain⟨u2,e2,q2⟩:=w2.get x2
   rw[getD_of g1,getD_of g2]
   have k1:us.toArray[j]=u1:=by
    have:us[j]?=some us[j]:=List.getElem?_eq_getElem _
    rw[this]at e1;simpa using e1
   have k2:vs.toArray[j]=u2:=by
    have:vs[j]?=some vs[j]:=List.getElem?_eq_getElem _
    rw[this]at e2;simpa using e2
   rw[k1,k2]
   exact ih (ne_units hu) (r1 j _ _ g1 x1) (r2 j _ _ g2 x2) q1 q2
  cases r with
  | v f =>
   cases r' with
   | v f'=>unfold eqD;exact eqAt_V rx ry f f'
   | t h e _ =>
    cases ry
    obtain⟨its,_,p,_⟩:=I.tuple h
    unfold eqD
    cases x <;> first | (exact(Bool.false_ne_true f).elim) | skip
    ·cases (show u=Value.none from rx);exact .none_tuple p hu0
    ·cases (show u=Value.bool _ from rx);exact .bool_tuple _ p hu0
    ·obtain⟨t,rfl⟩:=rx;exact .int_tuple _ _ p hu0
    ·obtain⟨t,rfl⟩:=rx;exact .str_tuple _ _ p hu0
   | l h e _ =>
    cases ry
    obtain⟨its,_,p,_⟩:=I.list h
    unfold eqD
    cases x <;> first | (exact(Bool.false_ne_true f).elim) | skip
    ·cases (show u=Value.none from rx);exact .none_list p.isList hu0
    ·cases (show u=Value.bool _ from rx);exact .bool_list _ p.isList hu0
    ·obtain⟨t,rfl⟩:=rx;exact .int_list _ _ p.isList hu0
    ·obtain⟨t,rfl⟩:=rx;exact .str_list _ _ p.isList hu0
  | t h e r1 =>
   rename_i a ds xs
   cases rx
   obtain⟨its,w1,p,_⟩:=I.tuple h
   cases r' with
   | v f' =>
    unfold eqD
    cases y <;> first | (exact(Bool.false_ne_true f').elim) | skip
    ·cases (show v=Value.none from ry);exact .tuple_none p hu0
    ·cases (show v=Value.bool _ from ry);exact .tuple_bool _ p hu0
    ·obtain⟨t,rfl⟩:=ry;exact .tuple_int _ _ p hu0
    ·obtain⟨t,rfl⟩:=ry;exact .tuple_str _ _ p hu0
   | t h' e' r2 =>
    rename_i b es ys
    cases ry
    obtain⟨its',w2,p',_⟩:=I.tuple h'
    by_cases ab:a=b
    ·subst ab
     have z:=Rep.det I (.t h e r1) (.t h' e' r2) rfl
     rw[<- z,Rep.self (.t h e r1)];exact .same _
    ·have q:=SeqAt.RcAt.tuples (A:=A) (e:=fun i=>eqD (ds.getD i default) (es.getD i default)) p p' hu0 (elems e e' r1 r2 w1 w2)
     have sz:its.toArray.size=ds.length:=by rw[List.size_toArray,<- w1.length,e]
     have sz':its'.toArray.size=es.length:=by rw[List.size_toArray,<- w2.length,e']
     rw[sz,sz',<- eqDs_eq]at q
     unfold eqD
     exact .of_refs ab q
   | l h' _ _ =>
    cases ry
    obtain⟨its',w2,p',_⟩:=I.list h'
    unfold eqD
    exact .tuple_list p p'.isList hu0
  | l h e r1 =>
   rename_i a ds xs
   cases rx
   obtain⟨its,w1,p,_⟩:=I.list h
   cases r' with
   | v f' =>
    unfold eqD
    cases y <;> first | (exact(Bool.false_ne_true f').elim) | skip
    ·cases (show v=Value.none from ry);exact .list_none p.isList hu0
    ·cases (show v=Value.bool _ from ry);exact .list_bool _ p.isList hu0
    ·obtain⟨t,rfl⟩:=ry;exact .list_int _ _ p.isList hu0
    ·obtain⟨t,rfl⟩:=ry;exact .list_str _ _ p.isList hu0
   | l h' e' r2 =>
    rename_i b es ys
    cases ry
    obtain⟨its',w2,p',_⟩:=I.list h'
    by_cases ab:a=b
    ·subst ab
     have z:=Rep.det I (.l h e r1) (.l h' e' r2) rfl
     rw[<- z,Rep.self (.l h e r1)];exact .same _
    ·have sz:its.toArray.size=ds.length:=by rw[List.size_toArray,<- w1.length,e]
     have sz':its'.toArray.size=es.length:=by rw[List.size_toArray,<- w2.length,e']
     unfold eqD
     by_cases hl:ds.length=es.length
     ·have q:=SeqAt.RcAt.lists (A:=A) (e:=fun i=>eqD (ds.getD i default) (es.getD i default)) p.isList p'.isList (by omega) hu0 (elems e e' r1 r2 w1 w2)
      rw[sz,<- eqDs_len hl]at q
      exact .of_refs ab q
     ·rw[eqDs_ne hl]
      exact .of_refs ab (SeqAt.RcAt.lists_lengths p.isList p'.isList (by rw[sz,sz'];exact bne_iff_ne.mpr hl) hu0)
   | t h' _ _ =>
    cases ry
    obtain⟨its',w2,p',_⟩:=I.tuple h'
    unfold eqD
    exact .list_tuple p.isList p' hu0
theorem Rep.elems(I:Inv X pins σ H s){n:Nat}{A:Around}(hu:A.units+(n+1) < cLine){ds es:List Dt}{xs ys:List V}{us vs:List Value}(l1:ds.length=xs.length)(l2:es.length=ys.length)
 (r1:∀ (i:Nat) d x,ds[i]?=some d->xs[i]?=some x->Rep X.K H n d x) (r2:∀ (i:Nat) d x,es[i]?=some d->ys[i]?=some x->Rep X.K H n d x) (w1:Vals xs us) (w2:Vals ys vs) (j:Nat) (h1:j < us.toArray.size) (h2:j < vs.toArray.size) :
 SeqAt.EqAt A.in1 s us.toArray[j] vs.toArray[j] (eqD (ds.getD j default) (es.getD j default)):=by
 have m1:=w1.length
 have m2:=w2.length
 have j1:j < xs.length:=by have:j < us.length:=by simpa using h1
                           omega
 have j2:j < ys.length:=by have:j < vs.length:=by simpa using h2
                           omega
 have g1:ds[j]?=some (ds[j]'(by omega)):=List.getElem?_eq_getElem _
 have g2:es[j]?=some (es[j]'(by omega)):=List.getElem?_eq_getElem _
 have x1:xs[j]?=some xs[j]:=List.getElem?_eq_getElem _
 have x2:ys[j]?=some ys[j]:=List.getElem?_eq_getElem _
 obtain⟨u1,e1,q1⟩:=w1.get x1
 obtain⟨u2,e2,q2⟩:=w2.get x2
 rw[getD_of g1,getD_of g2]
 have k1:us.toArray[j]=u1:=by
  have:us[j]?=some us[j]:=List.getElem?_eq_getElem _
  rw[this]at e1;simpa using e1
 have k2:vs.toArray[j]=u2:=by
  have:vs[j]?=some vs[j]:=List.getElem?_eq_getElem _
  rw[this]at e2;simpa using e2
 rw[k1,k2]
 exact Rep.eqAt I n (ne_units hu) (r1 j _ _ g1 x1) (r2 j _ _ g2 x2) q1 q2
theorem Rep.rcAt(I:Inv X pins σ H s){n:Nat}{A:Around}{d d':Dt}{x y:V}{u v:Value}(hu:A.units+n < cLine)(r:Rep X.K H n d x)(r':Rep X.K H n d' y)(rx:RelV x u)(ry:RelV y v):SeqAt.RcAt A s u v (eqD d d'):=by
 have hu0:A.units < cLine:=by omega
 cases r with
 | v f =>
  cases r' with
  | v f' =>
   unfold eqD
   cases x <;> first | (exact(Bool.false_ne_true f).elim) | skip
   all_goals (cases y <;> first | (exact(Bool.false_ne_true f').elim) | skip)
   ·cases (show u=Value.none from rx)
    cases (show v=Value.none from ry)
    exact SeqAt.RcAt.none_none
   ·cases (show u=Value.none from rx)
    cases (show v=Value.bool _ from ry)
    exact SeqAt.RcAt.none_bool _
   ·cases (show u=Value.none from rx)
    obtain⟨tv,rfl⟩:=ry
    exact SeqAt.RcAt.none_int _ _
   ·cases (show u=Value.none from rx)
    obtain⟨tv,rfl⟩:=ry
    exact SeqAt.RcAt.none_str _ _
   ·cases (show u=Value.bool _ from rx)
    cases (show v=Value.none from ry)
    exact SeqAt.RcAt.bool_none _
   ·cases (show u=Value.bool _ from rx)
    cases (show v=Value.bool _ from ry)
    exact SeqAt.RcAt.bool_bool _ _
   ·cases (show u=Value.bool _ from rx)
    obtain⟨tv,rfl⟩:=ry
    exact SeqAt.RcAt.bool_int _ _ _
   ·cases (show u=Value.bool _ from rx)
    obtain⟨tv,rfl⟩:=ry
    exact SeqAt.RcAt.bool_str _ _ _
   ·obtain⟨tu,rfl⟩:=rx
    cases (show v=Value.none from ry)
    exact SeqAt.RcAt.int_none _ _
   ·obtain⟨tu,rfl⟩:=rx
    cases (show v=Value.bool _ from ry)
    exact SeqAt.RcAt.int_bool _ _ _
   ·obtain⟨tu,rfl⟩:=rx
    obtain⟨tv,rfl⟩:=ry
    exact SeqAt.RcAt.int_int _ _ _ _
   ·obtain⟨tu,rfl⟩:=rx
    obtain⟨tv,rfl⟩:=ry
    exact SeqAt.RcAt.int_str _ _ _ _
   ·obtain⟨tu,rfl⟩:=rx
    cases (show v=Value.none from ry)
    exact SeqAt.RcAt.str_none _ _
   ·obtain⟨tu,rfl⟩:=rx
    cases (show v=Value.bool _ from ry)
    exact SeqAt.RcAt.str_bool _ _ _
   ·obtain⟨tu,rfl⟩:=rx
    obtain⟨tv,rfl⟩:=ry
    exact SeqAt.RcAt.str_int _ _ _ _
   ·obtain⟨tu,rfl⟩:=rx
    obtain⟨tv,rfl⟩:=ry
    exact SeqAt.RcAt.str_str _ _ _ _
  | t h e _ =>
   cases ry
   obtain⟨its,_,p,_⟩:=I.tuple h
   unfold eqD
   cases x <;> first | (exact(Bool.false_ne_true f).elim) | skip
   ·cases (show u=Value.none from rx)
    exact SeqAt.RcAt.none_tuple p hu0
   ·cases (show u=Value.bool _ from rx)
    exact SeqAt.RcAt.bool_tuple _ p hu0
   ·obtain⟨tu,rfl⟩:=rx
    exact SeqAt.RcAt.int_tuple _ _ p hu0
   ·obtain⟨tu,rfl⟩:=rx
    exact SeqAt.RcAt.str_tuple _ _ p hu0
  | l h e _ =>
   cases ry
   obtain⟨its,_,p,_⟩:=I.list h
   unfold eqD
   cases x <;> first | (exact(Bool.false_ne_true f).elim) | skip
   ·cases (show u=Value.none from rx)
    exact SeqAt.RcAt.none_list p.isList hu0
   ·cases (show u=Value.bool _ from rx)
    exact SeqAt.RcAt.bool_list _ p.isList hu0
   ·obtain⟨tu,rfl⟩:=rx
    exact SeqAt.RcAt.int_list _ _ p.isList hu0
   ·obtain⟨tu,rfl⟩:=rx
    exact SeqAt.RcAt.str_list _ _ p.isList hu0
 | t h e r1 =>
  rename_i n a ds xs
  cases rx
  obtain⟨its,w1,p,_⟩:=I.tuple h
  cases r' with
  | v f' =>
   unfold eqD
   cases y <;> first | (exact(Bool.false_ne_true f').elim) | skip
   ·cases (show v=Value.none from ry)
    exact SeqAt.RcAt.tuple_none p hu0
   ·cases (show v=Value.bool _ from ry)
    exact SeqAt.RcAt.tuple_bool _ p hu0
   ·obtain⟨tv,rfl⟩:=ry
    exact SeqAt.RcAt.tuple_int _ _ p hu0
   ·obtain⟨tv,rfl⟩:=ry
    exact SeqAt.RcAt.tuple_str _ _ p hu0
  | t h' e' r2 =>
   rename_i b es ys
   cases ry
   obtain⟨its',w2,p',_⟩:=I.tuple h'
   have q:=SeqAt.RcAt.tuples (A:=A) (e:=fun i=>eqD (ds.getD i default) (es.getD i default)) p p' hu0 (Rep.elems I hu e e' r1 r2 w1 w2)
   have sz:its.toArray.size=ds.length:=by rw[List.size_toArray,<- w1.length,e]
   have sz':its'.toArray.size=es.length:=by rw[List.size_toArray,<- w2.length,e']
   rw[sz,sz',<- eqDs_eq]at q
   unfold eqD
   exact q
  | l h' _ _ =>
   cases ry
   obtain⟨its',w2,p',_⟩:=I.list h'
   unfold eqD
   exact SeqAt.RcAt.tuple_list p p'.isList hu0
 | l h e r1 =>
  rename_i n a ds xs
  cases rx
  obtain⟨its,w1,p,_⟩:=I.list h
  cases r' with
  | v f' =>
   unfold eqD
   cases y <;> first | (exact(Bool.false_ne_true f').elim) | skip
   ·cases (show v=Value.none from ry)
    exact SeqAt.RcAt.list_none p.isList hu0
   ·cases (show v=Value.bool _ from ry)
    exact SeqAt.RcAt.list_bool _ p.isList hu0
   ·obtain⟨tv,rfl⟩:=ry
    exact SeqAt.RcAt.list_int _ _ p.isList hu0
   ·obtain⟨tv,rfl⟩:=ry
    exact SeqAt.RcAt.list_str _ _ p.isList hu0
  | l h' e' r2 =>
   rename_i b es ys
   cases ry
   obtain⟨its',w2,p',_⟩:=I.list h'
   have sz:its.toArray.size=ds.length:=by rw[List.size_toArray,<- w1.length,e]
   have sz':its'.toArray.size=es.length:=by rw[List.size_toArray,<- w2.length,e']
   unfold eqD
   by_cases hl:ds.length=es.length
   ·have q:=SeqAt.RcAt.lists (A:=A) (e:=fun i=>eqD (ds.getD i default) (es.getD i default)) p.isList p'.isList (by omega) hu0 (Rep.elems I hu e e' r1 r2 w1 w2)
    rw[sz,<- eqDs_len hl]at q
    exact q
   ·rw[eqDs_ne hl]
    exact SeqAt.RcAt.lists_lengths p.isList p'.isList (by rw[sz,sz'];exact bne_iff_ne.mpr hl) hu0
  | t h' _ _ =>
   cases ry
   obtain⟨its',w2,p',_⟩:=I.tuple h'
   unfold eqD
   exact SeqAt.RcAt.list_tuple p.isList p' hu0
theorem Rep.rcNeAt(I:Inv X pins σ H s){n:Nat}{A:Around}{d d':Dt}{x y:V}{u v:Value}(hu:A.units+n < cLine)(r:Rep X.K H n d x)(r':Rep X.K H n d' y)(rx:RelV x u)(ry:RelV y v):SeqAt.RcNeAt A s u v (!eqD d d'):=by
 have hu0:A.units < cLine:=by omega
 cases r with
 | v f =>
  cases r' with
  | v f' =>
   unfold eqD
   cases x <;> first | (exact(Bool.false_ne_true f).elim) | skip
   all_goals (cases y <;> first | (exact(Bool.false_ne_true f').elim) | skip)
   ·cases (show u=Value.none from rx)
    cases (show v=Value.none from ry)
    exact SeqAt.RcNeAt.none_none
   ·cases (show u=Value.none from rx)
    cases (show v=Value.bool _ from ry)
    exact SeqAt.RcNeAt.none_bool _
   ·cases (show u=Value.none from rx)
    obtain⟨tv,rfl⟩:=ry
    exact SeqAt.RcNeAt.none_int _ _
   ·cases (show u=Value.none from rx)
    obtain⟨tv,rfl⟩:=ry
    exact SeqAt.RcNeAt.none_str _ _
   ·cases (show u=Value.bool _ from rx)
    cases (show v=Value.none from ry)
    exact SeqAt.RcNeAt.bool_none _
   ·cases (show u=Value.bool _ from rx)
    cases (show v=Value.bool _ from ry)
    exact SeqAt.RcNeAt.bool_bool _ _
   ·cases (show u=Value.bool _ from rx)
    obtain⟨tv,rfl⟩:=ry
    exact SeqAt.RcNeAt.bool_int _ _ _
   ·cases (show u=Value.bool _ from rx)
    obtain⟨tv,rfl⟩:=ry
    exact SeqAt.RcNeAt.bool_str _ _ _
   ·obtain⟨tu,rfl⟩:=rx
    cases (show v=Value.none from ry)
    exact SeqAt.RcNeAt.int_none _ _
   ·obtain⟨tu,rfl⟩:=rx
    cases (show v=Value.bool _ from ry)
    exact SeqAt.RcNeAt.int_bool _ _ _
   ·obtain⟨tu,rfl⟩:=rx
    obtain⟨tv,rfl⟩:=ry
    exact SeqAt.RcNeAt.int_int _ _ _ _
   ·obtain⟨tu,rfl⟩:=rx
    obtain⟨tv,rfl⟩:=ry
    exact SeqAt.RcNeAt.int_str _ _ _ _
   ·obtain⟨tu,rfl⟩:=rx
    cases (show v=Value.none from ry)
    exact SeqAt.RcNeAt.str_none _ _
   ·obtain⟨tu,rfl⟩:=rx
    cases (show v=Value.bool _ from ry)
    exact SeqAt.RcNeAt.str_bool _ _ _
   ·obtain⟨tu,rfl⟩:=rx
    obtain⟨tv,rfl⟩:=ry
    exact SeqAt.RcNeAt.str_int _ _ _ _
   ·obtain⟨tu,rfl⟩:=rx
    obtain⟨tv,rfl⟩:=ry
    exact SeqAt.RcNeAt.str_str _ _ _ _
  | t h e _ =>
   cases ry
   obtain⟨its,_,p,_⟩:=I.tuple h
   unfold eqD
   cases x <;> first | (exact(Bool.false_ne_true f).elim) | skip
   ·cases (show u=Value.none from rx)
    exact SeqAt.RcNeAt.none_tuple p hu0
   ·cases (show u=Value.bool _ from rx)
    exact SeqAt.RcNeAt.bool_tuple _ p hu0
   ·obtain⟨tu,rfl⟩:=rx
    exact SeqAt.RcNeAt.int_tuple _ _ p hu0
   ·obtain⟨tu,rfl⟩:=rx
    exact SeqAt.RcNeAt.str_tuple _ _ p hu0
  | l h e _ =>
   cases ry
   obtain⟨its,_,p,_⟩:=I.list h
   unfold eqD
   cases x <;> first | (exact(Bool.false_ne_true f).elim) | skip
   ·cases (show u=Value.none from rx)
    exact SeqAt.RcNeAt.none_list p.isList hu0
   ·cases (show u=Value.bool _ from rx)
    exact SeqAt.RcNeAt.bool_list _ p.isList hu0
   ·obtain⟨tu,rfl⟩:=rx
    exact SeqAt.RcNeAt.int_list _ _ p.isList hu0
   ·obtain⟨tu,rfl⟩:=rx
    exact SeqAt.RcNeAt.str_list _ _ p.isList hu0
 | t h e r1 =>
  rename_i n a ds xs
  cases rx
  obtain⟨its,w1,p,_⟩:=I.tuple h
  cases r' with
  | v f' =>
   unfold eqD
   cases y <;> first | (exact(Bool.false_ne_true f').elim) | skip
   ·cases (show v=Value.none from ry)
    exact SeqAt.RcNeAt.tuple_none p hu0
   ·cases (show v=Value.bool _ from ry)
    exact SeqAt.RcNeAt.tuple_bool _ p hu0
   ·obtain⟨tv,rfl⟩:=ry
    exact SeqAt.RcNeAt.tuple_int _ _ p hu0
   ·obtain⟨tv,rfl⟩:=ry
    exact SeqAt.RcNeAt.tuple_str _ _ p hu0
  | t h' e' r2 =>
   rename_i b es ys
   cases ry
   obtain⟨its',w2,p',_⟩:=I.tuple h'
   have q:=SeqAt.RcNeAt.tuples (A:=A) (e:=fun i=>eqD (ds.getD i default) (es.getD i default)) p p' hu0 (Rep.elems I hu e e' r1 r2 w1 w2)
   have sz:its.toArray.size=ds.length:=by rw[List.size_toArray,<- w1.length,e]
   have sz':its'.toArray.size=es.length:=by rw[List.size_toArray,<- w2.length,e']
   rw[sz,sz',<- eqDs_eq]at q
   unfold eqD
   exact q
  | l h' _ _ =>
   cases ry
   obtain⟨its',w2,p',_⟩:=I.list h'
   unfold eqD
   exact SeqAt.RcNeAt.tuple_list p p'.isList hu0
 | l h e r1 =>
  rename_i n a ds xs
  cases rx
  obtain⟨its,w1,p,_⟩:=I.list h
  cases r' with
  | v f' =>
   unfold eqD
   cases y <;> first | (exact(Bool.false_ne_true f').elim) | skip
   ·cases (show v=Value.none from ry)
    exact SeqAt.RcNeAt.list_none p.isList hu0
   ·cases (show v=Value.bool _ from ry)
    exact SeqAt.RcNeAt.list_bool _ p.isList hu0
   ·obtain⟨tv,rfl⟩:=ry
    exact SeqAt.RcNeAt.list_int _ _ p.isList hu0
   ·obtain⟨tv,rfl⟩:=ry
    exact SeqAt.RcNeAt.list_str _ _ p.isList hu0
  | l h' e' r2 =>
   rename_i b es ys
   cases ry
   obtain⟨its',w2,p',_⟩:=I.list h'
   have sz:its.toArray.size=ds.length:=by rw[List.size_toArray,<- w1.length,e]
   have sz':its'.toArray.size=es.length:=by rw[List.size_toArray,<- w2.length,e']
   unfold eqD
   by_cases hl:ds.length=es.length
   ·have q:=SeqAt.RcNeAt.lists (A:=A) (e:=fun i=>eqD (ds.getD i default) (es.getD i default)) p.isList p'.isList (by omega) hu0 (Rep.elems I hu e e' r1 r2 w1 w2)
    rw[sz,<- eqDs_len hl]at q
    exact q
   ·rw[eqDs_ne hl]
    exact SeqAt.RcNeAt.lists_lengths p.isList p'.isList (by rw[sz,sz'];exact bne_iff_ne.mpr hl) hu0
  | t h' _ _ =>
   cases ry
   obtain⟨its',w2,p',_⟩:=I.tuple h'
   unfold eqD
   exact SeqAt.RcNeAt.list_tuple p.isList p' hu0
def rD(K:PySem.W.Frag)(neg:Bool):R2:=fun x y H Q=>∃ n d d',n<=60/\Rep K H n d x/\Rep K H n d' y/\Q (.bl (if neg then !eqD d d' else eqD d d')) H
theorem op_eqD(hu:X.A.units+64 < cLine):OpR X (compareOp .Eq) (rD X.K false):=by
 intro pins s σ H x y v u Q I rx ry h
 obtain⟨n,d,d',hn,r,r',q⟩:=h
 exact Rep.rcAt I (A:=X.A) (by omega) r r' rx ry X.prog X.w X.xe _ ⟨.bl _,H,I,rfl,q⟩
theorem op_neD(hu:X.A.units+64 < cLine):OpR X (compareOp .NotEq) (rD X.K true):=by
 intro pins s σ H x y v u Q I rx ry h
 obtain⟨n,d,d',hn,r,r',q⟩:=h
 exact Rep.rcNeAt I (A:=X.A) (by omega) r r' rx ry X.prog X.w X.xe _ ⟨.bl _,H,I,rfl,q⟩
end
end L2
end
section
namespace L2
open PySem PySem.Spec PyProof.Rows PySem.W
structure OneK(xs:List V)(lt:V->V->Bool):Prop where
 ty:∃ T:String,(Value.type T != Value.type "tuple")=true/\∀ v∈xs,∀ u,RelV v u->typeOf u=pure (.type T)
 ask:∀ v∈xs,∀ v'∈xs,∀ u u',RelV v u->RelV v' u'->∀ (prog:Program) (w:World) (A:Around) (E:Value->Shared->Prop) (s:Shared) (Q:Bool->Shared->Prop),Q (lt v v') s->wpAny (model prog w) A (keyLt' oneType' u u') Q E s
 swo:Swo xs lt
theorem rel_same{v v':V}{u:Value}(a:RelV v u)(b:RelV v' u):v=v':=by
 cases v <;> cases v' <;> simp only[RelV]at a b <;> first | rfl | (subst a;cases b;done) | (subst a;cases b;rfl) | (obtain⟨t,rfl⟩:=a;obtain⟨t',e⟩:=b;cases e;done) | (obtain⟨t,rfl⟩:=a;obtain⟨t',e⟩:=b;cases e;rfl) | (subst a;obtain⟨t',e⟩:=b;cases e;done) | (obtain⟨t,rfl⟩:=a;cases b;done)
section
variable{X:Cx}{pins:List (Addr×Obj)}{σ:St}{H:Hp}{s:Shared}{A:Around}{E:Value->Shared->Prop}
end
def ltP:V->V->Bool
 | .int a,.int b=>decide (a < b)
 | .str a,.str b=>decide (a.cps.toList < b.cps.toList)
 | _,_=>false
theorem one_ints{xs:List V}(h:∀ v∈xs,∃ n,v=.int n):OneK xs ltP where
 ty:=⟨"int",by decide,fun v hv u r=>by obtain⟨n,rfl⟩:=h v hv;obtain⟨t,rfl⟩:=r;rfl⟩
 ask:=fun v hv v' hv' u u' r r' prog w A E s Q q=>by
  obtain⟨n,rfl⟩:=h v hv;obtain⟨t,rfl⟩:=r
  obtain⟨n',rfl⟩:=h v' hv';obtain⟨t',rfl⟩:=r'
  exact kat_lt_int q
 swo:=⟨fun a ha=>by obtain⟨n,rfl⟩:=h a ha;simp[ltP],fun a ha b hb c hc=>by
  obtain⟨x,rfl⟩:=h a ha;obtain⟨y,rfl⟩:=h b hb;obtain⟨z,rfl⟩:=h c hc
  simp only[ltP,decide_eq_true_eq];omega,fun a ha b hb c hc=>by
  obtain⟨x,rfl⟩:=h a ha;obtain⟨y,rfl⟩:=h b hb;obtain⟨z,rfl⟩:=h c hc
  simp only[ltP,decide_eq_true_eq];omega⟩
theorem one_strs{xs:List V}(h:∀ v∈xs,∃ z,v=.str z):OneK xs ltP where
 ty:=⟨"str",by decide,fun v hv u r=>by obtain⟨n,rfl⟩:=h v hv;obtain⟨t,rfl⟩:=r;rfl⟩
 ask:=fun v hv v' hv' u u' r r' prog w A E s Q q=>by
  obtain⟨n,rfl⟩:=h v hv;obtain⟨t,rfl⟩:=r
  obtain⟨n',rfl⟩:=h v' hv';obtain⟨t',rfl⟩:=r'
  exact kas_lt_str q
 swo:=⟨fun a ha=>by obtain⟨n,rfl⟩:=h a ha;simp only[ltP,decide_eq_false_iff_not];exact List.lt_irrefl _,fun a ha b hb c hc=>by
  obtain⟨x,rfl⟩:=h a ha;obtain⟨y,rfl⟩:=h b hb;obtain⟨z,rfl⟩:=h c hc
  simp only[ltP,decide_eq_true_eq];exact fun p q=>List.lt_trans p q,fun a ha b hb c hc=>by
  obtain⟨x,rfl⟩:=h a ha;obtain⟨y,rfl⟩:=h b hb;obtain⟨z,rfl⟩:=h c hc
  simp only[ltP,decide_eq_true_eq]
  intro p
  by_cases q:x.cps.toList < y.cps.toList
  ·exact .inl q
  ·exact .inr (List.lt_of_le_of_lt (List.not_lt.mp q) p)⟩
end L2
end
section
namespace L2
open PySem PySem.Spec PyProof.Rows
theorem relKey{k:Key}{u:Value}(h:keyIs k u=true):RelV (kV k) u:=by
 rcases keyIs_shape h with ⟨i,t,rfl,rfl⟩ | ⟨x,t,rfl,rfl⟩
 ·exact⟨t,rfl⟩
 ·exact⟨t,rfl⟩
def NF(X:Cx)(d:Addr):Prop:=∀ o u,X.H₀ d≠some (.frz o u)
section
variable{X:Cx}{pins:List (Addr×Obj)}{σ:St}{H:Hp}{s:Shared}{d:Addr}{kvs:List (Key×V)}
end
def Itd(d:Addr)(ob:Obj)(kvs:List (Key×V)):It :=
 ⟨fun i H=>H d=some (.frz ob (.dK kvs))/\i < kvs.length,fun i H x H'=>H'=H/\∃ k v,kvs[i]?=some (k,v)/\x=kV k,fun i H=>H d=some (.frz ob (.dK kvs))/\kvs.length<=i⟩
theorem KV.get{kvs:List (Key×V)}{vs:List (Key×Value)}(r:KV kvs vs){i:Nat}{k:Key}{v:V}(h:kvs[i]?=some (k,v)):∃ u,vs[i]?=some (k,u)/\RelV v u:=by
 induction r generalizing i with
 | nil=>simp at h
 | cons a b ih =>
  cases i with
  | zero =>
   simp only[List.getElem?_cons_zero,Option.some.injEq]at h ⊢
   subst h
   rename_i q _ _
   obtain⟨k',u⟩:=q
   exact⟨u,by rw[show k=k' from a.1],a.2⟩
  | succ j =>
   simp only[List.getElem?_cons_succ]at h ⊢
   exact ih h
theorem KV.len{kvs:List (Key×V)}{vs:List (Key×Value)}(r:KV kvs vs):kvs.length=vs.length:=Paired.length r
def iDict(X:Cx)(tl:TE):TI:=fun σ H R=>tl σ H fun x H1=>∃ d kvs,x=.ref d/\H1 d=some (.dK kvs)/\∀ ob,NF X d->R (Itd d ob kvs) (upd H1 d (.frz ob (.dK kvs)))
section
variable{X:Cx}
def Ends.thawed(X:Cx)(D:Ends):Ends:={ D with nx:=fun σ H=>∃ d ob kvs,NF X d/\H d=some (.frz ob (.dK kvs))/\D.nx σ (upd H d (.dK kvs)),rt:=fun v H=>∃ d ob kvs,NF X d/\H d=some (.frz ob (.dK kvs))/\D.rt v (upd H d (.dK kvs)) }
def sThaw(X:Cx)(t:TS):TS:=fun D σ H=>t (D.thawed X) σ H
def tThaw(X:Cx)(te:TE):TE:=fun σ H Q=>te σ H fun v H1=>∃ d ob kvs,NF X d/\H1 d=some (.frz ob (.dK kvs))/\Q v (upd H1 d (.dK kvs))
theorem tFor_dict{tl:TE}{g:TG}{tb:TS}{D:Ends}{σ:St}{H:Hp}:tFor (iDict X tl) g tb D σ H=tl σ H fun x H1=>∃ d kvs,x=.ref d/\H1 d=some (.dK kvs)/\∀ ob,NF X d->FoR (Itd d ob kvs) g tb D σ (upd H1 d (.frz ob (.dK kvs))):=rfl
theorem tLc_dict{tl:TE}{tt:TT}{te:TE}{σ:St}{H:Hp}{Q:VK}:tLc (iDict X tl) tt te σ H Q=tl σ H fun x H1=>∃ d kvs,x=.ref d/\H1 d=some (.dK kvs)/\∀ ob,NF X d->LcR (Itd d ob kvs) tt te σ Q (upd H1 d (.frz ob (.dK kvs))):=rfl
end
end L2
end
section
namespace L2
open PySem PySem.Spec PyProof.Rows
theorem Room.u1{k:Nat}{A:Around}(r:Room k A):A.units+1 < cLine:=by have:=r.units;omega
def SqE(b:Bool)(K:PySem.W.Frag)(H:Hp)(a:Addr)(xs:List V):Prop:=if b=true then SqT K H a xs else SqL K H a xs
def ItE(b:Bool)(K:PySem.W.Frag)(a:Addr):It:=if b=true then Itt K a else Itl K a
def iSeq(K:PySem.W.Frag)(tl:TE):TI:=fun σ H R=>tl σ H fun x H1=>∃ a b,x=.ref a/\(∃ xs,SqE b K H1 a xs)/\R (ItE b K a) H1
section
variable{X:Cx}{tg:Expr}
end
theorem tFor_seq{K:PySem.W.Frag}{tl:TE}{g:TG}{tb:TS}{D:Ends}{σ:St}{H:Hp}:tFor (iSeq K tl) g tb D σ H=tl σ H fun x H1=>∃ a b,x=.ref a/\(∃ xs,SqE b K H1 a xs)/\FoR (ItE b K a) g tb D σ H1:=rfl
end L2
end
section
namespace PySem.W
open PySem
def clsFacts(K:Frag)(C:Addr)(fl:List Str):Bool:=plainGet K C Str.empty && (hasDictIn K C && (plainOver K C && (findIn K (.ref C) "__setattr__" == some (some (.builtin "object.__setattr__")) && (findIn K (.ref C) "__class__" == some (some (.builtin "object.__class__")) && (mroIn K C (.type "object") == some true && fl.all fun f=>findIn K (.ref C) f == some none)))))
theorem clsFacts_of{K:Frag}{C:Addr}{fl:List Str}(h:clsFacts K C fl=true):L2.Cls K C/\findIn K (.ref C) "__class__"=some (some (.builtin "object.__class__"))/\mroIn K C (.type "object")=some true/\∀ f∈fl,L2.NoAttr K C f:=by
 unfold clsFacts at h
 simp only[Bool.and_eq_true,beq_iff_eq,List.all_eq_true]at h
 obtain⟨a,b,c,d,e,f,g⟩:=h
 exact⟨⟨a,b,c,d⟩,e,f,g⟩
def mtxOk(K:Frag)(l:List Addr)(m:Nat->Nat->Bool):Bool:=(List.range l.length).all fun i=>(List.range l.length).all fun j=>kitOne K (.ref (l.getD i 0)) (.ref (l.getD j 0)) == some (m i j)
theorem mtx_of{K:Frag}{l:List Addr}{m:Nat->Nat->Bool}(h:mtxOk K l m=true):∀ i j,i < l.length->j < l.length->kitOne K (.ref (l.getD i 0)) (.ref (l.getD j 0))=some (m i j):=by
 unfold mtxOk at h
 simp only[List.all_eq_true,List.mem_range,beq_iff_eq]at h
 exact fun i j hi hj=>h i hi j hj
end PySem.W
namespace L2
open PySem PySem.Spec PyProof.Rows
structure ObC(K:PySem.W.Frag)(C:Addr)(fl:List Str):Prop where
 cl:Cls K C
 cc:PySem.W.findIn K (.ref C) "__class__"=some (some (.builtin "object.__class__"))
 mo:PySem.W.mroIn K C (.type "object")=some true
 no:∀ f∈fl,NoAttr K C f
 cg:PySem.W.specialIn K (.builtin "object.__class__") "__get__"=some (some (.builtin "getset_descriptor.__get__"))
 ct:PySem.W.takesIn K (.builtin "object.__class__")=some true
theorem ObC.of{K:PySem.W.Frag}{C:Addr}{fl:List Str}(h:PySem.W.clsFacts K C fl=true)(cg:PySem.W.specialIn K (.builtin "object.__class__") "__get__"=some (some (.builtin "getset_descriptor.__get__")))(ct:PySem.W.takesIn K (.builtin "object.__class__")=some true):ObC K C fl :=
 let ⟨a,b,c,d⟩:=PySem.W.clsFacts_of h;⟨a,b,c,d,cg,ct⟩
def tMethV(P:Program)(w:World)(K:PySem.W.Frag)(mg:Str->Option Value)(base:Heap)(k:Nat)(m:Str)(ta:TE)(t:TA):TE1:=fun σ H Q E=>ta σ H fun x H1=>∃ a C dx fs sp,x=.ref a/\H1 a=some (.ins C dx fs)/\fs.lookup m=none/\Cls K C/\MeV P w K mg base k C m sp/\t σ H1 fun vs H2=>sp (x::vs) H2 Q E
section
variable{X:Cx}{m:Str}{k:Nat}{ta:TE}{t:TA}{e o:Expr}{es:List Expr}{pos apos:Pos}{pl:Sem Bool}
theorem pe1_methV(he:PE X.nox o ta)(hr:Room k X.A)(hex:X.ex=[])(ha:PA X.nox (e::es) t)
 (hst:starEach (e::es) X.env=(false,eval e X.env)::starEach es X.env:=by rfl) (hpl:(backTo pos (starEach es X.env)).any (·.1)=false:=by rfl)
 (ht:eval (.Call (.Attribute o m apos) (e::es) [] pos) X.env=(do
  let ov <- eval o X.env
  standAt apos.atName
  let (f,first) <- holding [ov] (getMethod ov m pl)
  callWith pos f first (backTo pos (starEach (e::es) X.env)) (backToKw pos (keywordEach [] X.env))):=by rfl) :
 PE1 X (.Call (.Attribute o m apos) (e::es) [] pos) (tMethV X.prog X.w X.K X.mg X.base k m ta t):=by
 intro pins s σ H Q E I h
 refine PySem.W.methodCall_KW (pl:=pl) (thn (pe_noxW he I h) fun u s1 ⟨y,H1,I1,rx,a,C,dx,fs,sp,ex,ea,l,c,G,q⟩=>?_) ht
 obtain⟨f,fd,ps,hm,F,hb⟩:=G
 subst ex
 obtain rfl:u=Value.ref a:=rx
 refine getmeth_ok I1 ea c hm l ?_
 refine PySem.W.callWith_K (first:=[.ref a]) (h₀:=X.base) I.ok.mod.kin hm.kp (thn (pa_nox ha I1 q) fun us s2 ⟨vs,H2,I2,r,q2⟩=>⟨I2.kIn,?_⟩) hst hpl
 exact run_fn1 (us:=.ref a::us) (vs:=.ref a::vs) F hr hb hex I2 (.cons rfl r) q2
theorem pe1_methV0(he:PE X.nox o ta)(hr:Room k X.A)(hex:X.ex=[])
 (ht:eval (.Call (.Attribute o m apos) [] [] pos) X.env=(do
  let ov <- eval o X.env
  standAt apos.atName
  let (f,first) <- holding [ov] (getMethod ov m pl)
  callWith pos f first (backTo pos (starEach [] X.env)) (backToKw pos (keywordEach [] X.env))):=by rfl) :
 PE1 X (.Call (.Attribute o m apos) [] [] pos) (tMethV X.prog X.w X.K X.mg X.base k m ta tNil):=by
 intro pins s σ H Q E I h
 refine PySem.W.methodCall_KW (pl:=pl) (thn (pe_noxW he I h) fun u s1 ⟨y,H1,I1,rx,a,C,dx,fs,sp,ex,ea,l,c,G,q⟩=>?_) ht
 obtain⟨f,fd,ps,hm,F,hb⟩:=G
 subst ex
 obtain rfl:u=Value.ref a:=rx
 refine getmeth_ok I1 ea c hm l ?_
 exact PySem.W.callWith_K0 (first:=[.ref a]) I1.kIn hm.kp (run_fn1 (us:=[.ref a]) (vs:=[.ref a]) F hr hb hex I1 (.cons rfl .nil) q)
theorem pe_mk0{j:Nat}{x:Str}{C:Addr}{sp:Sp}{p:Pos}(G:MkV X.prog X.w X.K X.mg X.base j x C sp)(hr:Room k X.A)(hj:j+1<=k)(hg:Gl X x)(hdb:(x == ("__debug__":Str))=false:=by decide):PE X (.Call (.Name x p) [] [] pos) (tMake C sp [] E0 tNil):=by
 obtain⟨f,fd,ps,M,F,b,hm⟩:=G
 exact pe_make0 M F (hr.mono hj) hg hm b .nil pass0 hdb
end
end L2
end
section
namespace L2
open PySem PySem.Spec PyProof.Rows
theorem two_ok{x y:V}:[x,y].length<=sizeLine:=show 2<=sizeLine by decide
theorem rd_fld{K:PySem.W.Frag}{C a dx:Addr}{fl:List Str}{f:Str}{fs:List (Str×V)}{v:V}{i:Nat}{σ:St}{H:Hp}{Q:VK}(c:ObC K C fl)(hf:f∈fl)(hs:σ[i]?=some (some (.ref a)))(ha:H a=some (.ins C dx fs))(hv:fs.lookup f=some v)(q:Q v H):tFld K (tVar i) f σ H Q :=
 ⟨_,hs,a,C,dx,fs,v,rfl,ha,c.cl,c.no f hf,hv,q⟩
section
variable{P:Program}{w:World}{K:PySem.W.Frag}{mg:Str->Option Value}{base:Heap}{k i:Nat}{C D a dx:Addr}{m:Str}{sp:Sp}{fs:List (Str×V)}{fl:List Str}{σ:St}{H:Hp}{Q:VK}{E:XK}{t:TA}{b:Bool}
theorem rd_methV0(hs:σ[i]?=some (some (.ref a)))(ha:H a=some (.ins C dx fs))(l:fs.lookup m=none)(c:Cls K C)(M:MeV P w K mg base k C m sp)(q:sp [.ref a] H Q E):tMethV P w K mg base k m (tVar i) tNil σ H Q E:=⟨_,hs,a,C,dx,fs,sp,rfl,ha,l,c,M,q⟩
theorem rd_methV(hs:σ[i]?=some (some (.ref a)))(ha:H a=some (.ins C dx fs))(l:fs.lookup m=none)(c:Cls K C)(M:MeV P w K mg base k C m sp)(q:t σ H fun vs H2=>sp (.ref a::vs) H2 Q E):tMethV P w K mg base k m (tVar i) t σ H Q E:=⟨_,hs,a,C,dx,fs,sp,rfl,ha,l,c,M,q⟩
theorem rD_same{n:Nat}{d:Dt}{x y:V}{neg:Bool}(hn:n<=60)(rx:Rep K H n d x)(ry:Rep K H n d y)(q:Q (.bl (!neg)) H):rD K neg x y H Q:=⟨n,d,d,hn,rx,ry,by
 rw[Rep.self rx]
 cases neg <;> exact q⟩
end
theorem same_mk{H H':Hp}{x dx:Addr}{o u:HO}(hx:H x=none)(hdx:H dx=none)(s:Same (upd (upd H dx u) x o) H'):Same H H':=fun b v hb=>s _ _ (by rw[upd_ne (ne_of_none hb hx),upd_ne (ne_of_none hb hdx)];exact hb)
theorem same_updN{H H':Hp}{d:Addr}{o:HO}(s:Same H H')(n:H d=none):Same H (upd H' d o):=fun b u hb=>by
 rw[upd_ne (ne_of_none hb n)];exact s b u hb
end L2
end
section
namespace L2
open PySem PySem.Spec PyProof.Rows
def Itd1(lo:Int)(n:Nat):It:=⟨fun i _=>i < n,fun i H x H'=>H'=H/\x=.int (lo - i),fun i _=>n<=i⟩
section
variable{X:Cx}{tg:Expr}
def iRngD(ta:TA):TI:=fun σ H R=>ta σ H fun vs H1=>∃ i j:Int,vs=[.int i,.int j,.int (-1)]/\(-(2 ^ 62)<=i/\i < 2 ^ 62 /\ -(2 ^ 62)<=j/\j < 2 ^ 62)/\R (Itd1 i (i - j).toNat) H1
end
theorem tFor_rngD{ta:TA}{g:TG}{tb:TS}{D:Ends}{σ:St}{H:Hp}:tFor (iRngD ta) g tb D σ H=ta σ H fun vs H1=>∃ i j:Int,vs=[.int i,.int j,.int (-1)]/\(-(2 ^ 62)<=i/\i < 2 ^ 62 /\ -(2 ^ 62)<=j/\j < 2 ^ 62)/\FoR (Itd1 i (i - j).toNat) g tb D σ H1:=rfl
end L2
end
section
namespace L2
open PySem PySem.Spec PyProof.Rows PySem.W
section
variable{X:Cx}{pins:List (Addr×Obj)}{σ:St}{H:Hp}{s:Shared}{A:Around}{E:Value->Shared->Prop}
theorem sorted1_of{l:Addr}{xs:List V}{lt:V->V->Bool}{Q:VK}(I:Inv X pins σ H s)(hz:xs.length<=sizeLine)(h64:xs.length < 1000)(hK:OneK xs lt)
 (hc:∀ (E:Value->Shared->Prop) (R:List Value->Shared->Prop),(∀ vs h' tk,Vals xs vs->(∀ b o,s.heap.get? b=some o->h'.get? b=some o)->R vs { s with heap:=h',toks:=tk })->wpAny (model X.prog X.w) X.A.in1 (collect (.ref l)) R E s)
 (h:∀ D H' ys,Same H H'->H D=none->H' D=some (.lst ys)->ys.Perm xs->ys.Pairwise (fun a b=>lt b a=false)->Q (.ref D) H') :
 wpAny (model X.prog X.w) X.A (call (.builtin "sorted") [.ref l]) (EP X pins σ Q) X.xe s:=by
 refine Calls.call_function_entry kind_sorted plain_sorted entry_sorted (args_sorted1 _) ?_
 unfold Builtin.«sorted»
 refine wpAny_bind (m:=checkCount "sorted" 1 1 _) (wpAny_pure ?_)
 refine wpAny_bind (hc _ _ fun vs h' tk rv kept=>?_)
 have I0:Inv X pins σ H { s with heap:=h',toks:=tk }:=I.kept kept
 clear hc I
 generalize ({ s with heap:=h',toks:=tk }:Shared)=s at I0 ⊢
 have I:=I0
 clear I0
 have hlv:=rv.length
 have hvz:vs.length<=sizeLine:=by rw[<- hlv];exact hz
 refine wpAny_bind (wpAny_newList ?_ hvz)
 have hoL:=Heap.get?_push_size s.heap (o:=seqObj "list" vs.toArray 0) rfl
 have I1:Inv X pins σ H { s with heap:=s.heap.push (seqObj "list" vs.toArray 0) }:=I.kept (t':=s.toks) fun b o q=>Heap.get?_push_of_some _ q
 have fD:FpOk X pins H s.heap.objs.size:=I.fpOk (Nat.le_refl _) (I.hok.fresh (Nat.le_refl _))
 show wpAny _ _ _ _ _ { s with heap:=s.heap.push (seqObj "list" vs.toArray 0) }
 generalize s.heap.push (seqObj "list" vs.toArray 0)=h1 at hoL I1
 generalize s.heap.objs.size=D at hoL fD
 refine wpAny_bind (wpAny_holding (wpAny_call_entry slot_list_sort ⟨_,hoL,rfl⟩ entry_list_sort ?body (args_list_sort _)))
 case body =>
  rw[list_sort_plain]
  have s1:=Heap.SameBut.update h1 D (Obj.mapSeq fun _=>(#[]:Array Value))
  obtain⟨e1,ho1⟩:∃ e1,(h1.update D (Obj.mapSeq fun _=>(#[]:Array Value))).get? D=some (seqObj "list" #[] e1):=⟨_,get?_update_seq hoL fun _=>#[]⟩
  have I2:Inv X pins σ H { s with heap:=h1.update D (Obj.mapSeq fun _=>(#[]:Array Value)) }:=I1.turned (t':=s.toks) (fun b o hb q=>(s1.2 b hb).trans q) fD.1 fD.2.1 fD.2.2.2.1 fD.2.2.2.2.1 fD.2.2.2.2.2
  have I3:Inv X (pins++[(D,seqObj "list" #[] e1)]) σ H { s with heap:=h1.update D (Obj.mapSeq fun _=>(#[]:Array Value)) }:=I2.pins_of fun p hp=>(List.mem_append.mp hp).elim (fun z=>I2.pin p (List.mem_append_right _ z)) fun z=>by
   have z:p=(D,seqObj "list" #[] e1):=by simpa using z
   subst z
   exact⟨ho1,fD.1,fD.2.1,fD.2.2.1,fun v q=>by cases q⟩
  have I5:Inv X (pins++[(D,seqObj "list" #[] e1)]) σ H { s with heap:=((h1.update D (Obj.mapSeq fun _=>(#[]:Array Value))).push (seqObj "tuple" vs.toArray 0)).push (seqObj "list" #[] 0) }:=I3.kept (t':=s.toks) fun b u q=>Heap.get?_push_of_some _ (Heap.get?_push_of_some _ q)
  refine wpAny_bind (listItems_at hoL rfl ?_)
  refine wpAny_bind (listUpdate_at hoL rfl ?_ (by rw[List.size_toArray];exact hvz) (Nat.zero_le _))
  refine wpAny_bind (seqEpoch_at ho1 rfl ?_)
  refine wpAny_bind (wpAny_newTuple ?_ (by show vs.length<=_;exact hvz))
  refine wpAny_bind (wpAny_newList ?_ (Nat.zero_le _))
  refine wpAny_holding ?_
  show wpAny (model X.prog X.w) _ _ _ _ { s with heap:=((h1.update D (Obj.mapSeq fun _=>(#[]:Array Value))).push (seqObj "tuple" vs.toArray 0)).push (seqObj "list" #[] 0) }
  generalize ((h1.update D (Obj.mapSeq fun _=>(#[]:Array Value))).push (seqObj "tuple" vs.toArray 0)).push (seqObj "list" #[] 0)=h2 at I5
  dsimp only
  have tail:∀ {st:SortSt} {out:List Value} {ys:List V},(arrOf st).map (·.2)=List.toArray out->failedOf st=none->Vals ys out->ys.length < 1000->ys.Perm xs->ys.Pairwise (fun a b=>lt b a=false) ->
   wpAny (model X.prog X.w) X.A.in1.in1 (do
    let ep <- seqEpoch D
    Builtin.List.listUpdate (Value.ref D) fun x=>Array.map (fun x=>x.snd) (arrOf st)
    match failedOf st with
    | some e=>do
     rule "list.sort.comparison-raised"
     throw e
     if (ep != e1)=true then do
         rule "list.sort.modified"
         raiseErrorWords "ValueError" "list modified during sort"
         ret Value.none
      else ret Value.none
    | x =>
     if (ep != e1)=true then do
      rule "list.sort.modified"
      raiseErrorWords "ValueError" "list modified during sort"
      ret Value.none
     else ret Value.none)
    (fun fin s'=>∃ v,fin=Fin.done (Flow.ret v)/\wpAny (model X.prog X.w) X.A.in1 (ret (Value.ref D)) (fun fin s'=>∃ v,fin=Fin.done (Flow.ret v)/\EP X pins σ Q v s') X.xe s')
    X.xe { s with heap:=h2 }:=by
   intro st out ys hout hf ro hlo p1 p2
   have hD:=(I5.pin (D,seqObj "list" #[] e1) (List.mem_append_right _ (List.mem_append_right _ (by simp)))).1
   have s2:=Heap.SameBut.update h2 D (Obj.mapSeq fun _=>List.toArray out)
   obtain⟨c2,hc2⟩:∃ c2,(h2.update D (Obj.mapSeq fun _=>List.toArray out)).get? D=some (seqObj "list" (List.toArray out) c2):=⟨_,get?_update_seq hD fun _=>List.toArray out⟩
   have ho:out.length < 1000:=by rw[<- ro.length];exact hlo
   rw[hout]
   refine wpAny_bind (seqEpoch_at hD rfl ?_)
   refine wpAny_bind (listUpdate_at hD rfl ?_ (Nat.zero_le _) (by rw[List.size_toArray];exact Nat.le_succ_of_le (Nat.le_of_lt (small1000 (by omega)))))
   rw[hf]
   simp only[bne_self_eq_false,Bool.false_eq_true,if_false]
   have I6:Inv X pins σ (upd H D (.lst ys)) { s with heap:=h2.update D (Obj.mapSeq fun _=>List.toArray out) }:=(I5.unpinned).adopt (t':=s.toks) fD (fun b u hb q=>(s2.2 b hb).trans q) ⟨Nat.le_of_lt (small1000 (by omega)),out,c2,ro,hc2⟩
   exact wpAny_pure ⟨_,rfl,wpAny_pure ⟨_,rfl,.ref D,_,I6,rfl,h D _ ys ((Same.refl _).updL fD.1 _) fD.1 upd_same p1 p2⟩⟩
  by_cases h2':vs.toArray.size < 2
  ·rw[if_pos h2',if_pos h2']
   refine wpAny_bind (wpAny_pure ?_)
   rw[StateT.run_pure]
   refine wpAny_bind (wpAny_pure ?_)
   refine tail (st:=SortSt.mk' general' (vs.toArray.zip vs.toArray) #[] 7 none) (out:=vs) ?_ rfl rv (by omega) (List.Perm.refl _) (pw_small (by rw[List.size_toArray]at h2';omega))
   apply Array.toList_inj.mp
   show(Array.map (·.2) (vs.toArray.zip vs.toArray)).toList=_
   rw[Array.toList_map,ksk_zip]
   show List.map (·.2) (vs.zip vs)=vs
   exact List.map_snd_zip (by omega)
  ·rw[if_neg h2',if_neg h2']
   rw[List.size_toArray]at h2'
   obtain⟨T,hT1,hT⟩:=hK.ty
   have mem:∀ v∈vs,∃ x∈xs,RelV x v:=fun v hv=>by
    obtain⟨i,hi,rfl⟩:=List.mem_iff_getElem.mp hv
    obtain⟨u,eu,ru⟩:=rv.get (i:=i) (x:=xs[i]'(by omega)) (List.getElem?_eq_getElem _)
    rw[List.getElem?_eq_getElem hi]at eu
    cases eu
    exact⟨_,List.getElem_mem _,ru⟩
   refine wpAny_bind (kas_kind (T:=.type T) (by omega) (fun v hv=>?_) hT1 (by simp) ?_)
   ·obtain⟨x,hx,rx⟩:=mem v hv
    exact Looks.of_pure (hT x hx v rx)
   have hn:0 < xs.length:=by omega
   have at_:∀ i,i < xs.length->RelV (xs.getD i .non) (vs.getD i Value.none)/\xs.getD i .non∈xs:=fun i hi=>by
    obtain⟨u,eu,ru⟩:=rv.get (i:=i) (x:=xs[i]) (List.getElem?_eq_getElem _)
    have e1:xs.getD i .non=xs[i]:=by simp[hi]
    have e2:vs.getD i Value.none=u:=by simp[List.getD,eu]
    rw[e1,e2]
    exact⟨ru,List.getElem_mem _⟩
   have run:=SortB.big_run (prog:=X.prog) (w:=X.w) (A:=X.A.in1.in1) (E:=X.xe) (κ:=oneType') (ks:=vs) (vs:=vs) (s:={ s with heap:=h2 }) (r:=fun i=>xs.countP (lt · (xs.getD i .non))) rfl (by omega)
    (fun i j C hi hj hC=>by
     rw[<- hlv]at hi hj
     rw[hK.swo.rank (at_ i hi).2 (at_ j hj).2]at hC
     unfold kas_ask
     exact hK.ask _ (at_ i hi).2 _ (at_ j hj).2 _ _ (at_ i hi).1 (at_ j hj).1 _ _ _ _ _ _ hC)
    (fun i j hi hj e=>by
     rw[<- hlv]at hi hj
     have r1:=(at_ i hi).1
     rw[e]at r1
     show xs.countP (lt · (xs.getD i .non))=xs.countP (lt · (xs.getD j .non))
     rw[rel_same r1 (at_ j hj).1])
   rw[<- hlv]at run
   refine wpAny_bind (wpAny_mono run ?_ fun _ _ x=>x)
   rintro⟨⟨⟩,st'⟩ s' ⟨p,har,hf,es,ok,up⟩
   subst es
   have hout:=kat_snds (ks:=vs) (vs:=vs) rfl har
   exact tail hout hf (rv.pick p.toList) (by rw[List.length_map,Array.length_toList,ok.size];omega) (picks_perm ok) (picks_up hK.swo ok hn up)
end
section
variable{prog:Program}{w:World}{A:Around}{E:Value->Shared->Prop}{s:Shared}{T:String}{r d:Addr}{n:Nat}{P:Nat->Value->Prop}{OK:Heap->Prop}
theorem code_collect{R:Result->Shared->Prop}(K:KdlSrc prog w T r d n P OK)(hh:A.handled=none)(hok:OK s.heap)(hn:n<=sizeLine)
 (hR:∀ h' tk acc c,(∀ b o,s.heap.get? b=some o->h'.get? b=some o)->h'.get? s.heap.objs.size=some { cls:=.type "list",dict:=none,data:=.seq acc c,slots:=#[] }->ItemsOf P acc n->R (.ok (.ret (.ref s.heap.objs.size))) { s with heap:=h',toks:=tk }) :
 codeAny (model prog w) A (.builtin "proto.collect" ⟨[.ref r],[]⟩) R s:=by
 have hlt:=K.there _ hok
 refine codeAny_builtin PySem.F.entry_proto_collect ?_
 rw[Around.under_plainId PySem.F.plain_proto_collect _]
 show wpAny _ A.in1 (newList [] >>= fun l=>again (.builtin "list.__iadd__" ⟨[l,.ref r],[]⟩)) _ _ s
 refine wpAny_bind (wpAny_newObj_type ?_)
 refine wpAny_pure ⟨plainId_quiet PySem.F.plain_list_iadd _,codeAny_builtin PySem.F.entry_list_iadd ?_⟩
 rw[Around.under_plainId PySem.F.plain_list_iadd _]
 have hS₁:(s.heap.push { cls:=.type "list",data:=.seq ([]:List Value).toArray }).get? s.heap.objs.size=some { cls:=.type "list",data:=.seq ([]:List Value).toArray }:=Heap.get?_push_size _ rfl
 show wpAny _ A.in1 (Builtin.List.listExtendWith (.ref s.heap.objs.size) (.ref r) (.ref s.heap.objs.size)) _ _ _
 exact kdl_extend (R:=R) (s:={ s with heap:=s.heap.push { cls:=.type "list",data:=.seq ([]:List Value).toArray } }) K hh (K.keep _ _ hok fun b _ o e=>Heap.get?_push_of_some _ e) _ (Nat.ne_of_gt hlt.1) (Nat.ne_of_gt hlt.2) _ _ hS₁ (fun h' tk acc' c' hk hS' hacc=>hR h' tk acc' c' (fun b o e=>hk b o (Nat.ne_of_lt (Heap.lt_size e)) (Heap.get?_push_of_some _ e)) hS' hacc) hn
theorem collect_src{Q:List Value->Shared->Prop}(K:KdlSrc prog w T r d n P OK)(hh:A.handled=none)(hok:OK s.heap)(hn:n<=sizeLine)
 (hQ:∀ h' tk acc,(∀ b o,s.heap.get? b=some o->h'.get? b=some o)->ItemsOf P acc n->Q acc.toList { s with heap:=h',toks:=tk }):wpAny (model prog w) A (collect (.ref r)) Q E s:=by
 unfold collect
 refine wpAny_bind (wpAny_runValue (code_collect K hh hok hn fun h' tk acc c hk hS hacc=>?_))
 show wpAny _ A (load s.heap.objs.size >>= _) _ _ _
 refine wpAny_bind (wpAny_load hS ?_)
 exact wpAny_pure (hQ h' tk acc hk hacc)
end
theorem vals_at:∀ {xs:List V} {us:List Value},xs.length=us.length->(∀ (i:Nat) x u,xs[i]?=some x->us[i]?=some u->RelV x u)->Vals xs us
 | [],[],_,_=>.nil
 | x::xs,u::us,l,h=>.cons (h 0 x u rfl rfl) (vals_at (by simpa using l) fun i x u a b=>h (i+1) x u (by simpa using a) (by simpa using b))
 | [],u::us,l,_=>by simp at l
 | x::xs,[],l,_=>by simp at l
theorem keys_vals{kvs:List (Key×V)}{vs:List (Key×Value)}{acc:Array Value}{prog:Program}{w:World}(rv:KV kvs vs)(h:ItemsOf (fun i v=>∃ k x,vs[i]?=some (k,x)/\(mixKind prog w).is k v=true) acc vs.length):Vals (kvs.map fun p=>kV p.1) acc.toList:=by
 refine vals_at (by have e1:=h.1;have e2:=rv.len;have e3:acc.toList.length=acc.size:=Array.length_toList;rw[List.length_map];omega) fun i x u hx hu=>?_
 rw[List.getElem?_map]at hx
 obtain⟨⟨k,v⟩,hkv,rfl⟩:=Option.map_eq_some_iff.mp hx
 obtain⟨u',hu',_⟩:=rv.get hkv
 obtain⟨k',x',e,hk⟩:=h.2 i u (by rw[<- Array.getElem?_toList];exact hu)
 rw[hu']at e
 cases e
 exact relKey hk
def rSortD:List V->Hp->VK->Prop:=fun vs H Q=>∃ d kvs lt,vs=[.ref d]/\H d=some (.dK kvs)/\kvs.length < 1000/\OneK (kvs.map fun p=>kV p.1) lt /\
 ∀ D H' ys,Same H H'->H D=none->H' D=some (.lst ys)->ys.Perm (kvs.map fun p=>kV p.1)->ys.Pairwise (fun a b=>lt b a=false)->Q (.ref D) H'
theorem call_sortedD{X:Cx}(hh:X.A.handled=none):CallR X (.builtin "sorted") rSortD:=by
 intro pins s σ H xs us Q I r h
 obtain⟨d,kvs,lt,rfl,hd,hl,hK,q⟩:=h
 obtain⟨u,rfl,ru⟩:=vals1 r
 obtain rfl:u=Value.ref d:=ru
 obtain⟨z,y,vs,rv,o,es,ep,e0,c1,c2,c3⟩:=(show ObjOk X.prog X.w H s.heap d (.dK kvs) from I.hok d _ hd)
 have da:s.heap.DictAt (mixKind X.prog X.w) d vs ep:=⟨o,es,e0,c1,c2,c3⟩
 refine sorted1_of I (by rw[List.length_map];exact Nat.le_of_lt (small1000 (by omega))) (by rw[List.length_map];exact hl) hK (fun E R hR=>?_) q
 exact collect_src (kdl_dict (knd:=mixKind X.prog X.w) (ep:=ep) y) hh da (by rw[<- rv.len];exact Nat.le_of_lt (small1000 (by omega))) fun h' tk acc hk hacc=>hR _ h' tk (keys_vals rv hacc) hk
end L2
end
section
namespace L2
open PySem PySem.Spec PyProof.Rows PySem.W
theorem typeCall_set_1(a:Value):checkTypeCall "set" ⟨[a],[]⟩=pure ():=by kernel_rfl
theorem newCall_set_1(a:Value):checkBuiltinCall "set.__new__" ⟨[.type "set",a],[]⟩=pure ():=by kernel_rfl
theorem entry_set_loop:entryFor table "set.update.loop"=some Builtin.«set.update.loop»:=entryFor_of_tree (by kernel_rfl)
theorem plain_set_loop:plainId "set.update.loop"=true:=by decide +kernel
section
variable{prog:Program}{w:World}{A:Around}{E:Value->Shared->Prop}{s:Shared}
end
def onceK{K:Type}[DecidableEq K](ks:List K):List K:=ks.foldl (fun acc k=>if k∈acc then acc else acc++[k]) []
theorem onceK_mem{K:Type}[DecidableEq K](ks:List K)(k:K):k∈onceK ks↔k∈ks:=by
 unfold onceK
 suffices h:∀ (ks acc:List K),k∈ks.foldl (fun acc k=>if k∈acc then acc else acc++[k]) acc↔k∈acc\/k∈ks by
  rw[h];simp
 intro ks
 induction ks with
 | nil=>intro acc;simp
 | cons x xs ih =>
  intro acc
  rw[List.foldl_cons,ih]
  split <;> rename_i hx
  ·constructor
   ·rintro(h | h)
    ·exact .inl h
    ·exact .inr (List.mem_cons_of_mem _ h)
   ·rintro(h | h)
    ·exact .inl h
    ·rcases List.mem_cons.mp h with e | h
     ·rw[e];exact .inl hx
     ·exact .inr h
  ·rw[List.mem_append,List.mem_singleton,List.mem_cons,or_assoc]
theorem onceK_snoc{K:Type}[DecidableEq K](ks:List K)(k:K):onceK (ks++[k])=if k∈onceK ks then onceK ks else onceK ks++[k]:=by
 unfold onceK;rw[List.foldl_append];rfl
theorem onceK_len{K:Type}[DecidableEq K](ks:List K):(onceK ks).length<=ks.length:=by
 suffices h:∀ (r p:List K),(onceK p).length<=p.length->(onceK (p++r)).length<=(p++r).length by exact h ks [] (Nat.le_refl _)
 intro r
 induction r with
 | nil=>intro p h;rw[List.append_nil];exact h
 | cons x xs ih =>
  intro p h
  have:=ih (p++[x]) (by
   rw[onceK_snoc]
   split
   ·simp;omega
   ·simp;omega)
  rw[List.append_assoc]at this
  exact this
section
variable{prog:Program}{w:World}{K:Type}[DecidableEq K]{knd:KeyKind prog w K}{A:Around}{E:Value->Shared->Prop}{s:Shared}
theorem sub_list_set:isSubtype (.type "list") (.type "set")=pure false:=by rw[isSubtype_type];kernel_rfl
theorem sub_list_fset:isSubtype (.type "list") (.type "frozenset")=pure false:=by rw[isSubtype_type];kernel_rfl
theorem check_set_init2{M:Model}{self b:Value}{Q:Unit->Shared->Prop}(hT:s.TypeIs self "set")(hQ:Q () s) :
 wpAny M A (checkBuiltinCall "set.__init__" ⟨[self,b],[]⟩) Q E s:=by
 simp only[checkBuiltinCall,kind_set_init,split_set_init,sig_set_init]
 refine wpAny_bind (wpAny_isInstance hT sub_set_self ?_)
 simp only[Bool.not_true,Bool.false_eq_true,if_false]
 unfold Bind.checkArgs
 dsimp only
 refine wpAny_bind (m:=Bind.printed "set" true _ _) (PyProof.Rows.printed_name (by decide) ?_)
 refine wpAny_bind (m:=Bind.printed "*" false _ _) (PyProof.Rows.printed_star (self:=self) rfl hT fun short=>?_)
 have hrn:(Manifest.Receiver.self == Manifest.Receiver.none)=false:=by decide
 have hn:(if (Manifest.Receiver.self == Manifest.Receiver.none)=true then [self,b].length else [self,b].length - 1)=1:=by simp[hrn]
 rw[hn]
 simp only[List.map_nil]
 have hc:Bind.check ⟨.positional,"set","*",.self,[⟨"iterable",.posOnly,false⟩]⟩ "set" short 1 []=pure ():=by
  simp[Bind.check,Bind.checkCount,Bind.isPositional]
  exact fun h=>absurd h (by decide)
 rw[hc]
 exact wpAny_pure hQ
end
end L2
end
section
namespace L2
open PySem PySem.Spec PyProof.Rows PySem.W
theorem key_rel{k:Key}{u:Value}(h:RelV (kV k) u):keyIs k u=true/\u.scannable=true:=by
 cases k with
 | inl n=>obtain⟨t,rfl⟩:=h;exact⟨by simp[keyIs,Value.isInt],rfl⟩
 | inr z=>obtain⟨t,rfl⟩:=h;exact⟨by simp[keyIs,Value.isStrOf],rfl⟩
def tSetK(K:PySem.W.Frag)(te:TE)(Q:List Key->Hp->Prop):St->Hp->Prop:=fun σ H=>te σ H fun x H1=>∃ l ks,x=.ref l/\SqL K H1 l (ks.map kV)/\ks.length < 4000/\Q ks H1
section
variable{X:Cx}{e:Expr}{te:TE}{p pos p2 pos2:Pos}{pins:List (Addr×Obj)}{σ:St}{H:Hp}{s:Shared}
theorem bo_set:bootBuiltins "set"=some (.type "set"):=by rfl
def tLenSet(K:PySem.W.Frag)(te:TE):TE:=fun σ H Q=>tSetK K te (fun ks H1=>Q (.int (onceK ks).length) H1) σ H
end
end L2
end
section
namespace L2
open PySem PySem.Spec PyProof.Rows PySem.W
section
variable{X:Cx}
def rExtendE(K:PySem.W.Frag):V->List V->Hp->VK->Prop:=fun x vs H Q=>∃ l b xs zs,x=.ref l/\vs=[.ref b]/\H l=some (.lst xs)/\(SqL K H b zs\/SqT K H b zs)/\xs.length+zs.length<=sizeLine/\Q .non (upd H l (.lst (xs++zs)))
end
end L2
end
section
namespace L2
open PySem PySem.Spec PyProof.Rows PySem.W
section
variable{X:Cx}{c:Expr}{a b:Stmt}{tc:TT}{ta tb:TS1}{pos:Pos}
end
end L2
end
section
namespace L2
open PySem PySem.Spec PyProof.Rows
section
variable{X:Cx}{st b₀:Stmt}{suite:List Stmt}{t1:TS1}{ts:TS}{x n:Str}{D₀ CT:Addr}{np hpos pos:Pos}{i:Nat}
end
section
variable{X:Cx}{ea:Addr}{qs:List (Addr×Obj)}
end
end L2
end
section
namespace PySem.W
open PySem
end PySem.W
namespace L2
open PySem PySem.Spec PyProof.Rows
section
variable{X:Cx}{x:Str}{sp:Sp}{e:Expr}{es:List Expr}{t:TA}{p pos apos:Pos}{pl:Sem Bool}{j k:Nat}
end
end L2
end
section
namespace L2
open PySem PySem.Spec PyProof.Rows
noncomputable instance:DecidableEq Dt:=fun a b=>Classical.propDecidable (a=b)
def hV:V->Bool
 | .int _=>true
 | .str _=>true
 | .non=>true
 | _=>false
section
variable{prog:Program}{w:World}{E:Value->Shared->Prop}
end
theorem flat_hV{x:V}(h:hV x=true):flatV x=true:=by
 cases x <;> first | rfl | exact(Bool.false_ne_true h).elim
theorem paired_get{α β:Type}{F:α->β->Prop}:∀ {xs:List α} {us:List β} {i:Nat} {x:α} {u:β},Paired F xs us->xs[i]?=some x->us[i]?=some u->F x u
 | _,_,_,_,_,.nil,h,_=>by simp at h
 | _,_,0,_,_,.cons r _,h,h'=>by simp at h h';rw[<- h,<- h'];exact r
 | _,_,i+1,_,_,.cons _ t,h,h'=>paired_get (i:=i) t (by simpa using h) (by simpa using h')
section
variable{prog:Program}{w:World}{E:Value->Shared->Prop}
end
end L2
end
section
namespace PySem
section
variable{prog:Program}{w:World}{K:Type}[DecidableEq K]{knd:HeapKind prog w K}{A:Around}{E:Value->Shared->Prop}{s:Shared}
end
end PySem
namespace L2
open PySem PySem.Spec PyProof.Rows
abbrev NX:=List (Dt×Addr×V)
section
variable{X:Cx}{pins:List (Addr×Obj)}{σ:St}{H:Hp}{s:Shared}{a b:Addr}{xs:NX}{d:Dt}
variable{A:Around}{E:Value->Shared->Prop}
end
section
variable{X:Cx}{o i e value:Expr}{pos pos' apos cpos:Pos}{td ty tv:TE}
end
end L2
end
section
namespace L2
open PySem PySem.Spec PyProof.Rows
def TD(H:Hp):Nat->Dt->V->Prop
 | 0,.v x,y=>hV x=true/\y=x
 | 0,.t _,_=>False
 | 0,.l _,_=>False
 | _+1,.v x,y=>hV x=true/\y=x
 | n+1,.t ds,y=>∃ (a:Addr) (xs:List V),y=.ref a/\H a=some (.tup xs)/\Paired (fun d v=>TD H n d v) ds xs
 | _+1,.l _,_=>False
section
variable{H H':Hp}{K:PySem.W.Frag}
theorem TD.ofV{n:Nat}{x:V}(f:hV x=true):TD H n (.v x) x:=by cases n <;> exact⟨f,rfl⟩
theorem TD.ofT{n:Nat}{a:Addr}{xs:List V}{ds:List Dt}(h:H a=some (.tup xs))(r:Paired (fun d v=>TD H n d v) ds xs):TD H (n+1) (.t ds) (.ref a):=⟨a,xs,rfl,h,r⟩
theorem TD.rep:∀ (n:Nat) {d:Dt} {y:V},TD H n d y->Rep K H n d y:=by
 intro n
 induction n with
 | zero =>
  intro d y q
  cases d with
  | v x=>obtain⟨f,e⟩:=q;subst e;exact .v (flat_hV f)
  | t _=>exact q.elim
  | l _=>exact q.elim
 | succ n ih =>
  intro d y q
  cases d with
  | v x=>obtain⟨f,e⟩:=q;subst e;exact .v (flat_hV f)
  | l _=>exact q.elim
  | t ds =>
   obtain⟨a,xs,e,h,r⟩:=q
   subst e
   exact .t (SqT.of h) (Paired.length r) fun i d x h1 h2=>ih (paired_get r h1 h2)
theorem TD.pair{n:Nat}{a:Addr}{x y:V}{d e:Dt}(h:H a=some (.tup [x,y]))(hx:TD H n d x)(hy:TD H n e y):TD H (n+1) (.t [d,e]) (.ref a):=TD.ofT h (.cons hx (.cons hy .nil))
end
def SameX(S:List Addr)(H H':Hp):Prop:=∀ b o,b∉S->H b=some o->H' b=some o
section
variable{S:List Addr}{H H' H1 H2:Hp}
theorem SameX.refl(S:List Addr)(H:Hp):SameX S H H:=fun _ _ _ e=>e
theorem Same.x(s:Same H H')(S:List Addr):SameX S H H':=fun b o _ e=>s b o e
theorem SameX.trans(a:SameX S H H1)(b:SameX S H1 H2):SameX S H H2:=fun c o n e=>b c o n (a c o n e)
theorem SameX.upd{a:Addr}{o:HO}(s:SameX S H H')(h:a∈S):SameX S H (L2.upd H' a o):=fun b u n e=>by
 rw[upd_ne (fun z=>n (by rw[z];exact h))];exact s b u n e
theorem SameX.updN{a:Addr}{o:HO}(s:SameX S H H')(h:H a=none):SameX S H (L2.upd H' a o):=fun b u n e=>by
 rw[upd_ne (ne_of_none e h)];exact s b u n e
theorem SameX.mono{S':List Addr}(s:SameX S H H')(h:∀ a∈S,a∈S'):SameX S' H H':=fun b o n e=>s b o (fun z=>n (h b z)) e
end
end L2
namespace L2
open PySem PySem.Spec PyProof.Rows
section
variable{α β:Type}[DecidableEq β]
end
theorem perm_sorted:∀ {l m:List Int},l.Perm m->l.Pairwise (·<=·)->m.Pairwise (·<=·)->l=m
 | [],m,p,_,_=>(List.nil_perm.mp p).symm
 | a::l,[],p,_,_=>by have:=p.length_eq;simp at this
 | a::l,b::m,p,h1,h2=>by
  rw[List.pairwise_cons]at h1 h2
  have e:a=b:=by
   have m1:a∈b::m:=p.mem_iff.mp List.mem_cons_self
   have m2:b∈a::l:=p.mem_iff.mpr List.mem_cons_self
   rcases List.mem_cons.mp m1 with e | m1
   ·exact e
   rcases List.mem_cons.mp m2 with e | m2
   ·exact e.symm
   have:=h1.1 b m2
   have:=h2.1 a m1
   omega
  subst e
  rw[perm_sorted (p.cons_inv) h1.2 h2.2]
end L2
end
section
namespace L2
open PySem PySem.Spec PyProof.Rows
section
variable{X:Cx}
end
theorem TDs.flat{H:Hp}{n:Nat}:∀ {vs:List V},(∀ v∈vs,hV v=true)->Paired (fun d v=>TD H n d v) (vs.map Dt.v) vs
 | [],_=>.nil
 | v::vs,h=>.cons (TD.ofV (h v List.mem_cons_self)) (TDs.flat fun x hx=>h x (List.mem_cons_of_mem _ hx))
section
variable{X:Cx}{m:Str}{k:Nat}{ta:TE1}{t:TA}{e o:Expr}{es:List Expr}{pos apos:Pos}{pl:Sem Bool}
end
theorem ints_of:∀ {ys:List V},(∀ v∈ys,∃ n,v=.int n)->∃ ms:List Int,ys=ms.map V.int
 | [],_=>⟨[],rfl⟩
 | y::ys,h=>by
  obtain⟨n,rfl⟩:=h y List.mem_cons_self
  obtain⟨ms,rfl⟩:=ints_of (ys:=ys) fun v hv=>h v (List.mem_cons_of_mem _ hv)
  exact⟨n::ms,rfl⟩
theorem sortedI{ns:List Int}{ys:List V}(p:ys.Perm (ns.map V.int))(h:ys.Pairwise (fun a b=>ltP b a=false)):∃ ms:List Int,ys=ms.map V.int/\ms.Perm ns/\ms.Pairwise (·<=·):=by
 obtain⟨ms,rfl⟩:=ints_of (ys:=ys) fun v hv=>by
  obtain⟨n,_,e⟩:=List.mem_map.mp (p.mem_iff.mp hv)
  exact⟨n,e.symm⟩
 refine⟨ms,rfl,?_,?_⟩
 ·have:=p.map (fun v:V=>match v with | .int n=>n | _=>0)
  rw[List.map_map,List.map_map]at this
  simpa[Function.comp_def]using this
 ·rw[List.pairwise_map]at h
  exact h.imp fun {a b} z=>by
   simp[ltP]at z
   exact z
end L2
end
section
open L2
namespace Tr
section
variable(lv:V->Nat)
variable{lv}{l:Int}{es:List Dt}{parts:List (List Dt)}
end
section
variable{tbl tbl':List (Int×Dt)}{l:Int}{parts:List (List Dt)}{hs:List Dt}
end
section
variable{lv:V->Nat}{tbl tbl':List (Int×Dt)}{rows rows':List Dt}{top top':Nat}{L L':Nat->List Dt}
end
section
variable{lv:V->Nat}{tbl:List (Int×Dt)}{l:Int}{parts:List (List Dt)}{hs rows:List Dt}{top:Nat}{L:Nat->List Dt}
end
section
variable{lv:V->Nat}{tbl tbl':List (Int×Dt)}{rows hs:List Dt}{j:Nat}{L:Nat->List Dt}
end
end Tr
end
section
namespace L2
open PySem PySem.Spec PyProof.Rows
end L2
end
section
namespace L2
open PySem PySem.Spec PyProof.Rows
section
variable{a b c d e u:TS}{D:Ends}{σ:St}{H:Hp}
theorem rd_gen1(h:∀ R:St->Hp->Prop,(∀ σ H,u D σ H->R σ H)->a { D with nx:=R } σ H):tSeq a u D σ H:=h (u D) fun _ _ z=>z
theorem rd_gen3(h:∀ R:St->Hp->Prop,(∀ σ H,u D σ H->R σ H)->tSeq a (tSeq b c) { D with nx:=R } σ H):tSeq a (tSeq b (tSeq c u)) D σ H:=h (u D) fun _ _ z=>z
theorem rd_gen5(h:∀ R:St->Hp->Prop,(∀ σ H,u D σ H->R σ H)->tSeq a (tSeq b (tSeq c (tSeq d e))) { D with nx:=R } σ H):tSeq a (tSeq b (tSeq c (tSeq d (tSeq e u)))) D σ H:=h (u D) fun _ _ z=>z
end
section
variable{X:Cx}
end
end L2
end
section
namespace L2
open PySem PySem.Spec PyProof.Rows
section
variable{X:Cx}
end
end L2
namespace L2
open PySem PySem.Spec PyProof.Rows
end L2
end
section
open L2 PySem
namespace Tr
section
variable{lv:V->Nat}{tbl:List (Int×Dt)}{rows:List Dt}{top:Nat}{L:Nat->List Dt}
end
end Tr
end
section
namespace L2
open PySem PySem.Spec PyProof.Rows PySem.W
section
variable{prog:Program}{w:World}{A:Around}{E:Value->Shared->Prop}{s:Shared}
end
section
variable{X:Cx}{e:Expr}{te:TE}{p pos p2 pos2:Pos}{pins:List (Addr×Obj)}{σ:St}{H:Hp}{s:Shared}
end
end L2
end
section
namespace L2
open PySem PySem.Spec PyProof.Rows PySem.W
section
variable{prog:Program}{w:World}{A:Around}{E:Value->Shared->Prop}{h:Heap}{g:Array GenState}{d:Drawn}{t:Nat}{os:OsState}{a:Addr}{its:Array Value}{c:Nat}
end
section
variable{prog:Program}{w:World}{K:Type}[DecidableEq K]{knd:KeyKind prog w K}{A:Around}{E:Value->Shared->Prop}{s:Shared}
end
end L2
end
section
namespace L2
open PySem PySem.Spec PyProof.Rows PySem.W
section
variable{prog:Program}{w:World}{A:Around}{E:Value->Shared->Prop}{h:Heap}{g:Array GenState}{d:Drawn}{t:Nat}{os:OsState}{a:Addr}{its:Array Value}{c:Nat}{sl:Array (Option Value)}
end
section
variable{prog:Program}{w:World}{K:Type}[DecidableEq K]{knd:KeyKind prog w K}{A:Around}{E:Value->Shared->Prop}{s:Shared}
end
end L2
end
section
namespace L2
open PySem PySem.Spec PyProof.Rows PySem.W
theorem paired_app{α β:Type}{F:α->β->Prop}:∀ {a:List α} {b:List β} {c:List α} {d:List β},Paired F a b->Paired F c d->Paired F (a++c) (b++d)
 | _,_,_,_,.nil,h=>h
 | _,_,_,_,.cons r t,h=>.cons r (paired_app t h)
end L2
end
section
namespace L2
open PySem PySem.Spec PyProof.Rows PySem.W
def Ris(xs:Array Nat):Prop:=xs.toList.Pairwise (· < ·)
theorem Ris.lt{xs:Array Nat}(h:Ris xs){i j x y:Nat}(hij:i < j)(hx:xs[i]?=some x)(hy:xs[j]?=some y):x < y:=by
 rw[<- Array.getElem?_toList]at hx hy
 obtain⟨h1,e1⟩:=List.getElem?_eq_some_iff.mp hx
 obtain⟨h2,e2⟩:=List.getElem?_eq_some_iff.mp hy
 rw[<- e1,<- e2]
 exact List.pairwise_iff_getElem.mp h i j h1 h2 hij
theorem below_go{xs:Array Nat}(h:Ris xs)(j:Nat):∀ (fuel lo hi:Nat),lo<=hi->hi<=xs.size->hi - lo<=fuel->(∀ i x,i < lo->xs[i]?=some x->x < j)->(∀ i x,hi<=i->xs[i]?=some x->j<=x) ->
 lo<=SetTable.below.go xs j fuel lo hi/\SetTable.below.go xs j fuel lo hi<=hi/\(∀ i x,i < SetTable.below.go xs j fuel lo hi->xs[i]?=some x->x < j)/\(∀ i x,SetTable.below.go xs j fuel lo hi<=i->xs[i]?=some x->j<=x):=by
 intro fuel
 induction fuel with
 | zero =>
  intro lo hi h1 h2 h3 a b
  have e:lo=hi:=by omega
  subst e
  exact⟨Nat.le_refl _,Nat.le_refl _,a,b⟩
 | succ fuel ih =>
  intro lo hi h1 h2 h3 a b
  unfold SetTable.below.go
  by_cases hl:lo < hi
  ·rw[if_pos hl]
   dsimp only
   have hm:(lo+hi) / 2 < xs.size:=by omega
   have gm:xs[(lo+hi) / 2]?=some xs[(lo+hi) / 2]:=Array.getElem?_eq_getElem hm
   have gd:xs.getD ((lo+hi) / 2) j=xs[(lo+hi) / 2]:=by simp[Array.getD,hm]
   rw[gd]
   split
   ·rename_i hlt
    have r:=ih ((lo+hi) / 2+1) hi (by omega) h2 (by omega) (fun i x hi' hx=>by
     rcases Nat.lt_or_ge i ((lo+hi) / 2) with q | q
     ·exact Nat.lt_trans (h.lt q hx gm) hlt
     ·have:i=(lo+hi) / 2:=by omega
      subst this
      rw[gm]at hx;cases hx;exact hlt) b
    exact⟨by omega,r.2.1,r.2.2⟩
   ·rename_i hge
    have r:=ih lo ((lo+hi) / 2) (by omega) (by omega) (by omega) a (fun i x hi' hx=>by
     rcases Nat.lt_or_ge ((lo+hi) / 2) i with q | q
     ·have:=h.lt q gm hx;omega
     ·have:i=(lo+hi) / 2:=by omega
      subst this
      rw[gm]at hx;cases hx;omega)
    exact⟨r.1,by omega,r.2.2⟩
  ·rw[if_neg hl]
   have e:lo=hi:=by omega
   subst e
   exact⟨Nat.le_refl _,Nat.le_refl _,a,b⟩
theorem below_ok{xs:Array Nat}(h:Ris xs)(j:Nat):SetTable.below xs j<=xs.size/\(∀ i x,i < SetTable.below xs j->xs[i]?=some x->x < j)/\(∀ i x,SetTable.below xs j<=i->xs[i]?=some x->j<=x):=by
 have r:=below_go h j xs.size 0 xs.size (Nat.zero_le _) (Nat.le_refl _) (by omega) (fun i x hi _=>absurd hi (Nat.not_lt_zero _)) (fun i x hi hx=>by
  rw[Array.getElem?_eq_none hi]at hx;cases hx)
 exact r.2
theorem below_zero{xs:Array Nat}(h:Ris xs):SetTable.below xs 0=0:=by
 obtain⟨a,b,_⟩:=below_ok h 0
 rcases Nat.eq_zero_or_pos (SetTable.below xs 0) with e | e
 ·exact e
 ·have:=b 0 xs[0] e (Array.getElem?_eq_getElem (by omega));omega
theorem below_next{xs:Array Nat}(h:Ris xs){i x:Nat}(hx:xs[i]?=some x):SetTable.below xs (x+1)=i+1:=by
 obtain⟨a,b,c⟩:=below_ok h (x+1)
 rcases Nat.lt_or_ge i (SetTable.below xs (x+1)) with q | q
 ·rcases Nat.lt_or_ge (i+1) (SetTable.below xs (x+1)) with r | r
  ·have hi:i+1 < xs.size:=by omega
   have g:=Array.getElem?_eq_getElem hi
   have h1:=b (i+1) _ r g
   have h2:=h.lt (Nat.lt_succ_self i) hx g
   omega
  ·omega
 ·have:=c i x q hx;omega
theorem ris_insert{xs:Array Nat}(h:Ris xs){j:Nat}(hn:xs[SetTable.below xs j]?≠some j):Ris (SetTable.insertAt xs (SetTable.below xs j) j):=by
 obtain⟨a,b,c⟩:=below_ok h j
 unfold Ris
 rw[SetTable.toList_insertAt]
 refine List.pairwise_append.mpr ⟨h.sublist (List.take_sublist _ _),List.pairwise_cons.mpr ⟨fun y hy=>?_,h.sublist (List.drop_sublist _ _)⟩,fun x hx y hy=>?_⟩
 ·obtain⟨k,hk,e⟩:=List.mem_iff_getElem.mp hy
  rw[List.getElem_drop]at e
  have g:xs[SetTable.below xs j+k]?=some y:=by rw[<- Array.getElem?_toList,List.getElem?_eq_getElem (by rw[List.length_drop]at hk;omega),e]
  have h1:=c _ _ (Nat.le_add_right _ _) g
  rcases Nat.lt_or_ge j y with q | q
  ·exact q
  ·exfalso
   have ey:y=j:=by omega
   subst ey
   cases k with
   | zero=>exact hn g
   | succ k =>
    have hb:SetTable.below xs y < xs.size:=by rw[List.length_drop,Array.length_toList]at hk;omega
    have g0:=Array.getElem?_eq_getElem hb
    have h2:=c _ _ (Nat.le_refl _) g0
    have h3:=h.lt (show SetTable.below xs y < SetTable.below xs y+(k+1) by omega) g0 g
    omega
 ·obtain⟨k,hk,e⟩:=List.mem_iff_getElem.mp hx
  rw[List.getElem_take]at e
  rw[List.length_take]at hk
  have g:xs[k]?=some x:=by rw[<- Array.getElem?_toList,List.getElem?_eq_getElem (by omega),e]
  have h1:=b k x (by omega) g
  rcases List.mem_cons.mp hy with q | q
  ·rw[q];exact h1
  ·obtain⟨k',hk',e'⟩:=List.mem_iff_getElem.mp q
   rw[List.getElem_drop]at e'
   have g':xs[SetTable.below xs j+k']?=some y:=by rw[<- Array.getElem?_toList,List.getElem?_eq_getElem (by rw[List.length_drop]at hk';omega),e']
   exact h.lt (by omega) g g'
structure TbG(led:Bool)(t:SetTable):Prop where
 led_:t.led=led
 dum:t.dummies=#[]
 ris:Ris t.place
theorem TbG.fresh(led:Bool):TbG led (.fresh 0 0 led):=⟨rfl,rfl,List.Pairwise.nil⟩
theorem TbG.standIn{led:Bool}{t:SetTable}(h:TbG led t)(n:Nat):TbG led (t.standIn n):=⟨h.led_,rfl,by
 show(Array.range n).toList.Pairwise (· < ·)
 rw[Array.toList_range];exact List.pairwise_lt_range⟩
theorem TbG.plainOff{led:Bool}{t:SetTable}(h:TbG led t):TbG led { t with plain:=false }:=⟨h.led_,h.dum,h.ris⟩
theorem has_none(j:Nat):SetTable.has #[] j=false:=by unfold SetTable.has;simp
theorem probe_go{t:SetTable}(hd:t.dummies=#[])(hashAt:Nat->Int)(h:Int):∀ (fuel:Nat) (p:SetTable.Probe) {j:Nat} {d:Option Nat},SetTable.probe.go t hashAt h fuel p=some (.empty j d)->t.slot j=.empty/\d=p.dummy:=by
 intro fuel
 induction fuel with
 | zero=>intro p j d e;cases e
 | succ fuel ih =>
  intro p j d e
  unfold SetTable.probe.go at e
  split at e
  ·rename_i hs
   cases e
   exact⟨hs,rfl⟩
  ·rename_i hs
   exfalso
   unfold SetTable.slot at hs
   dsimp only at hs
   rw[hd,has_none]at hs
   split at hs <;> simp at hs
  ·split at e
   ·cases e
   ·have r:=ih (t.advance p) e
    refine⟨r.1,r.2.trans ?_⟩
    unfold SetTable.advance
    split <;> rfl
theorem free_ok{t:SetTable}(hd:t.dummies=#[]){h:Int}{j:Nat}{b:Bool}(e:t.freeSlot h=some (j,b)):t.place[SetTable.below t.place j]?≠some j:=by
 unfold SetTable.freeSlot at e
 split at e
 ·rename_i j' d he
  have r:=probe_go hd _ _ _ _ he
  have r2:d=none:=r.2
  subst r2
  cases e
  have hs:=r.1
  unfold SetTable.slot at hs
  dsimp only at hs
  intro z
  have z:t.place[SetTable.below t.place j']?=some j':=z
  rw[if_pos (by simp[z])]at hs
  cases hs
 ·cases e
theorem TbG.layNew{led:Bool}{t:SetTable}(g:TbG led t)(es:Array (Int×Value))(h:Int)(x:Value):TbG led (layNew t es h x).2.1:=by
 unfold PySem.layNew
 split
 ·rename_i slot wd he
  have hf:=free_ok g.dum he
  dsimp only
  have g1:TbG led (t.put slot).1:=by
   refine⟨g.led_,?_,?_⟩
   ·show(if SetTable.has t.dummies slot=true then _ else t.dummies)=#[]
    rw[g.dum,has_none];rfl
   ·exact ris_insert g.ris hf
  unfold SetTable.orStandIn
  split
  ·exact g1
  ·exact g1.standIn _
 ·exact g.standIn _
theorem TbG.relay{led:Bool}{t:SetTable}(g:TbG led t)(es:Array (Int×Value))(n:Nat):TbG led (relayAll t es n).2.1:=by
 unfold relayAll
 split
 ·rename_i t' order he
  dsimp only
  split
  ·unfold SetTable.relaid SetTable.laid at he
   cases ho:SetTable.layClean (SetTable.sizeAbove n - 1) (es.map (·.1)) with
   | none=>rw[ho]at he;cases he
   | some owner =>
    rw[ho]at he
    cases he
    refine⟨g.led_,rfl,?_⟩
    show List.Pairwise _ _
    dsimp only
    rw[List.pairwise_map]
    exact List.Pairwise.filterMap _ (fun a a' haa b hb b' hb'=>by
     simp only[Option.map_eq_some_iff]at hb hb'
     obtain⟨_,_,rfl⟩:=hb
     obtain⟨_,_,rfl⟩:=hb'
     exact haa) List.pairwise_lt_range
  ·exact g.standIn _
 ·exact g.standIn _
end L2
end
section
namespace L2
open PySem PySem.Spec PyProof.Rows PySem.W
section
variable{prog:Program}{w:World}{K:Type}[DecidableEq K]{knd:KeyKind prog w K}{A:Around}{E:Value->Shared->Prop}{s:Shared}
def ledOf(w:World):Bool:=!w.params.followText "set-order"
def ElAt(knd:KeyKind prog w K)(k:K)(e:Int×Value):Prop:=(knd.is k e.2=true/\e.1=knd.hash k)/\e.2.scannable=true
def SetGo(knd:KeyKind prog w K)(h:Heap)(a:Addr)(ks:List K):Prop :=
 ∃ o es ep t js,h.get? a=some o/\o.ExactSet/\o.data=.set es ep t/\TbG (ledOf w) t/\t.fits es.size=true/\es.size < scanBound/\Paired (ElAt knd) js es.toList/\js.Perm ks
theorem SetGo.keep{h1 h2:Heap}{a:Addr}{ks:List K}(x:SetGo knd h1 a ks)(e:∀ o,h1.get? a=some o->h2.get? a=some o):SetGo knd h2 a ks :=
 let ⟨o,es,ep,t,js,g,r⟩:=x;⟨o,es,ep,t,js,e o g,r⟩
theorem elems_go:∀ {js:List K} {l:List (Int×Value)},Paired (ElAt knd) js l->ElemsOf knd l
 | _,_,.nil=>fun e he=>nomatch he
 | _,_,.cons r t=>fun e he=>by
  rcases List.mem_cons.mp he with z | z
  ·rw[z];exact⟨⟨_,r.1⟩,r.2⟩
  ·exact elems_go t e z
theorem go_mem:∀ {js:List K} {l:List (Int×Value)},Paired (ElAt knd) js l->∀ k,k∈js↔∃ e∈l,knd.is k e.2=true
 | _,_,.nil,k=>by simp
 | _,_,@Paired.cons _ _ _ k0 e0 _ _ r t,k=>by
  rw[List.mem_cons,go_mem t k]
  constructor
  ·rintro(z | ⟨e,he,q⟩)
   ·exact⟨e0,List.mem_cons_self,by rw[z];exact r.1.1⟩
   ·exact⟨e,List.mem_cons_of_mem _ he,q⟩
  ·rintro⟨e,he,q⟩
   rcases List.mem_cons.mp he with z | z
   ·subst z;exact .inl (knd.inj _ _ _ q r.1.1)
   ·exact .inr ⟨e,z,q⟩
theorem paired_permR{α β:Type}{F:α->β->Prop}{l l':List β}(p:l'.Perm l):∀ {js:List α},Paired F js l->∃ js',Paired F js' l'/\js'.Perm js:=by
 induction p with
 | nil=>intro js h;exact⟨js,h,.refl _⟩
 | cons x _ ih =>
  intro js h
  cases h with
  | cons r t=>obtain⟨js',a,b⟩:=ih t;exact⟨_::js',.cons r a,b.cons _⟩
 | swap x y l =>
  intro js h
  cases h with
  | cons r t =>
   cases t with
   | cons r2 t2=>exact⟨_,.cons r2 (.cons r t2),List.Perm.swap _ _ _⟩
 | trans _ _ ih1 ih2 =>
  intro js h
  obtain⟨j1,a,b⟩:=ih2 h
  obtain⟨j2,c,d⟩:=ih1 a
  exact⟨j2,c,d.trans b⟩
theorem store_go{h:Heap}{a:Addr}{o:Obj}{es:Array (Int×Value)}{ep:Nat}{t:SetTable}{ks:List K}(q:h.get? a=some o)(ex:o.ExactSet)(dd:o.data=.set es ep t)
 {es':Array (Int×Value)} {t':SetTable} {js:List K} (pr:Paired (ElAt knd) js es'.toList) (pm:js.Perm ks) (sb:es'.size < scanBound) (ft:t'.fits es'.size=true) (tg:TbG (ledOf w) t') :
 (h.update a (Obj.putSet es' t')).get? a=some { o with data:=.set es' (ep+1) t' }/\SetGo knd (h.update a (Obj.putSet es' t')) a ks:=by
 have g:(h.update a (Obj.putSet es' t')).get? a=some { o with data:=.set es' (ep+1) t' }:=by
  have z:=Heap.get?_update_self (Obj.putSet es' t') q (by rw[putSet_of es' t' dd];rfl)
  rw[putSet_of es' t' dd]at z
  exact z
 exact⟨g,_,es',ep+1,t',js,g,ex,rfl,tg,ft,sb,pr,pm⟩
theorem tail_go{g:Bool->Sem Unit}(hg:∀ (b:Bool) (s₁:Shared) (Q':Unit->Shared->Prop),Q' () s₁->wpAny (model prog w) A (g b) Q' E s₁)
 {a:Addr} {o:Obj} {es:Array (Int×Value)} {ep:Nat} {t:SetTable} (q:s.heap.get? a=some o) (ex:o.ExactSet) (dd:o.data=.set es ep t)
 {es1:Array (Int×Value)} {t2:SetTable} {js ks:List K} (pr:Paired (ElAt knd) js es1.toList) (pm:js.Perm ks) (tg:TbG (ledOf w) t2)
 (sb:es1.size < scanBound) (ft:t2.fits es1.size=true) {wasDummy:Bool} {R:Option Bool->Shared->Prop}
 (h:∀ h',Heap.SameBut a s.heap h'->SetGo knd h' a ks->R (some true) { s with heap:=h' }) :
 wpAny (model prog w) A (do
  storeSet a es1 t2
  if (!wasDummy && t2.tooFull)=true then do
      g (relayAll t2 es1 (SetTable.grown es1.size)).2.2
      storeSet a (relayAll t2 es1 (SetTable.grown es1.size)).1 (relayAll t2 es1 (SetTable.grown es1.size)).2.1
      pure (some true)
   else pure (some true)) R E s:=by
 refine wpAny_bind (wpAny_storeSet_of q dd ?_ (fits_of_scanBound sb))
 obtain⟨q1,S1⟩:=store_go (knd:=knd) q ex dd pr pm sb ft tg
 have k1:=Heap.SameBut.update s.heap a (Obj.putSet es1 t2)
 split
 ·have pp:=relayAll_perm t2 es1 (SetTable.grown es1.size)
  have ff:=relayAll_fits t2 es1 (SetTable.grown es1.size)
  have gg:=tg.relay es1 (SetTable.grown es1.size)
  generalize relayAll t2 es1 (SetTable.grown es1.size)=Z at pp ff gg ⊢
  obtain⟨es2,t3,gv⟩:=Z
  dsimp only at pp ff gg ⊢
  obtain⟨js',pr',pm'⟩:=paired_permR pp pr
  have hsz:es2.size=es1.size:=by rw[<- Array.length_toList,pp.length_eq,Array.length_toList]
  refine wpAny_bind (hg _ _ _ ?_)
  refine wpAny_bind (wpAny_storeSet_of q1 rfl ?_ (fits_of_scanBound (by rw[hsz];exact sb)))
  obtain⟨_,S2⟩:=store_go (knd:=knd) q1 ex rfl pr' (pm'.trans pm) (by rw[hsz];exact sb) ff gg
  exact wpAny_pure (h _ (k1.trans (Heap.SameBut.update _ a _)) S2)
 ·exact wpAny_pure (h _ k1 S1)
theorem add_go{a:Addr}{ks:List K}{k:K}{x:Value}{Q:Bool->Shared->Prop}(hkey:knd.is k x=true)(sc:x.scannable=true)(S:SetGo knd s.heap a ks)(room:ks.length+1 < scanBound)
 (h:∀ h' b,Heap.SameBut a s.heap h'->SetGo knd h' a (if k∈ks then ks else ks++[k])->Q b { s with heap:=h' }) :
 wpAny (model prog w) A (setAddHashed a x (knd.hash k)) Q E s:=by
 obtain⟨o,es,ep,t,js,q,ex,dd,tg,ft,sb,pr,pm⟩:=S
 have el:ElemsOf knd es.toList:=elems_go pr
 have lj:js.length=es.size:=by rw[Paired.length pr,Array.length_toList]
 have lp:=pm.length_eq
 unfold setAddHashed setAddHashedIn
 refine wpAny_holding (wpAny_bind (wpAny_setState_of q dd ft ?_))
 dsimp only
 rw[byScan_of sc sb el]
 simp only[↓reduceIte]
 unfold setAddByScan
 refine wpAny_bind (wpAny_bind (wpAny_rule (wpAny_bind (wpAny_setScan_of hkey q dd ft el ?_))))
 cases hr:List.findIdx? (fun e=>knd.is k e.2) es.toList with
 | some j =>
  dsimp only
  obtain⟨hj,pj,_⟩:=List.findIdx?_eq_some_iff_getElem.mp hr
  have mk:k∈ks:=pm.mem_iff.mp ((go_mem pr k).mpr ⟨es.toList[j],List.getElem_mem hj,pj⟩)
  refine wpAny_pure (wpAny_pure ?_)
  have e:s={ s with heap:=s.heap }:=by cases s;rfl
  have z:=h s.heap false (Heap.SameBut.refl a s.heap)
  rw[if_pos mk]at z
  rw[e]
  exact z ⟨o,es,ep,t,js,q,ex,dd,tg,ft,sb,pr,pm⟩
 | none =>
  dsimp only
  have nk:k∉ks:=fun mk=>by
   obtain⟨e,he,pe⟩:=(go_mem pr k).mp (pm.mem_iff.mpr mk)
   have z:=List.findIdx?_eq_none_iff.mp hr e he
   rw[pe]at z
   cases z
  rw[if_neg nk]at h
  have gw:∀ (b:Bool) {s₁:Shared} {Q':Unit->Shared->Prop},Q' () s₁->wpAny (model prog w) A (match b with | true=>rule "set.scan.the-table-gave-way" | false=>pure ()) Q' E s₁ :=
   fun b s₁ Q' z=>by cases b;exact wpAny_pure z;exact wpAny_rule z
  have pp:=layNew_perm t es (knd.hash k) x
  have ff:=layNew_fits t es (knd.hash k) x
  have gg:=tg.layNew es (knd.hash k) x
  generalize layNew t es (knd.hash k) x=Z at pp ff gg ⊢
  obtain⟨es1,t1,wd,gv⟩:=Z
  dsimp only at pp ff gg ⊢
  rw[Array.toList_push]at pp
  obtain⟨js',pr',pm'⟩:=paired_permR pp (paired_app pr (.cons ⟨⟨hkey,rfl⟩,sc⟩ .nil:Paired (ElAt knd) [k] [(knd.hash k,x)]))
  have pm2:js'.Perm (ks++[k]):=pm'.trans (pm.append_right _)
  have sz:es1.size=es.size+1:=by rw[<- Array.length_toList,pp.length_eq,List.length_append,Array.length_toList];rfl
  have sb1:es1.size < scanBound:=by rw[sz,<- lj,lp];exact room
  refine wpAny_bind (gw _ ?_)
  split
  ·refine wpAny_bind ?_
   rw[hashByValue_scannable 8 sc]
   refine wpAny_pure (tail_go (fun b s₁ Q' z=>gw b z) q ex dd pr' pm2 ?_ sb1 ?_ ?_)
   ·split
    ·exact gg
    ·exact gg.plainOff
   ·split
    ·exact ff
    ·exact SetTable.fits_plain_off ff
   ·intro h' kb S';dsimp only;exact wpAny_pure (h h' _ kb S')
  ·refine wpAny_bind (wpAny_pure ?_)
   simp only[↓reduceIte]
   refine tail_go (fun b s₁ Q' z=>gw b z) q ex dd pr' pm2 gg sb1 ff ?_
   intro h' kb S';dsimp only;exact wpAny_pure (h h' _ kb S')
theorem code_set_loopG{it l a:Addr}{vs:List Value}{ks:List K}(hh:A.handled=none)(hl:ks.length=vs.length)(hk:∀ (i:Nat) k v,ks[i]?=some k->vs[i]?=some v->knd.is k v=true/\v.scannable=true)(hb:vs.length+1 < scanBound)(hne:it≠a)(hla:l≠a)(hil:l≠it) :
 ∀ (m i:Nat) (s:Shared) (R:Result->Shared->Prop),m=vs.length - i->i<=vs.length->s.heap.IsListIter it l i->s.heap.IsList l vs.toArray->SetGo knd s.heap a (onceK (ks.take i)) ->
  (∀ h' tk,(∀ b o,b≠it->b≠a->s.heap.get? b=some o->h'.get? b=some o)->SetGo knd h' a (onceK ks)->R (.ok (.ret .none)) { s with heap:=h',toks:=tk }) ->
  codeAny (model prog w) A (.builtin "set.update.loop" ⟨[.ref a,.ref it],[]⟩) R s:=by
 intro m
 induction m with
 | zero =>
  intro i s R hm hi hit hli hS hR
  have e:i=vs.length:=by omega
  subst e
  refine codeAny_builtin entry_set_loop ?_
  rw[Around.under_plainId plain_set_loop _]
  unfold Builtin.«set.update.loop»
  dsimp only
  refine wpAny_bind (wpAny_pyNext_list_end hh hit hli (by simp) fun h' eb=>?_)
  dsimp only
  rw[List.take_of_length_le (by omega)]at hS
  refine wpAny_pure (hR h' s.toks (fun b o h1 h2 e=>eb b o h1 e) ?_)
  exact hS.keep fun o e=>eb a o (Ne.symm hne) e
 | succ m ih =>
  intro i s R hm hi hit hli hS hR
  have hi':i < vs.length:=by omega
  obtain⟨k,hki⟩:∃ k,ks[i]?=some k:=⟨_,List.getElem?_eq_getElem (by omega)⟩
  have hvi:vs[i]?=some vs[i]:=List.getElem?_eq_getElem hi'
  obtain⟨hkey,hsc⟩:=hk i k _ hki hvi
  refine codeAny_builtin entry_set_loop ?_
  rw[Around.under_plainId plain_set_loop _]
  unfold Builtin.«set.update.loop»
  dsimp only
  refine wpAny_bind (wpAny_pyNext_list_item hit hli (x:=vs[i]) (by simp[hi']) fun h' hit' sb=>?_)
  dsimp only
  have hS':SetGo knd h' a (onceK (ks.take i)):=hS.keep fun o e=>(sb.2 a (Ne.symm hne)).trans e
  have hli':h'.IsList l vs.toArray:=by
   obtain⟨o,ho,r⟩:=hli
   exact⟨o,(sb.2 l hil).trans ho,r⟩
  unfold setAdd
  refine wpAny_bind (wpAny_holding (wpAny_holding (wpAny_bind (knd.pyHash hkey ?_))))
  have hn:(onceK (ks.take i)).length+1 < scanBound:=by
   have:=onceK_len (ks.take i)
   rw[List.length_take]at this
   omega
  refine add_go (s:={ s with heap:=h',toks:=s.toks+1 }) hkey hsc hS' hn fun h2 _ sb2 hS2=>?_
  have et:ks.take (i+1)=ks.take i++[k]:=by rw[List.take_add_one,hki];rfl
  refine wpAny_pure ⟨plainId_quiet plain_set_loop _,ih (i+1) _ R (by omega) (by omega) ?_ ?_ ?_ fun h3 tk hk3 hS3=>?_⟩
  ·obtain⟨o,ho,r⟩:=hit'
   exact⟨o,(sb2.2 it hne).trans ho,r⟩
  ·obtain⟨o,ho,r⟩:=hli'
   exact⟨o,(sb2.2 l hla).trans ho,r⟩
  ·rw[et,onceK_snoc];exact hS2
  ·exact hR h3 tk (fun b o h1 h2 e=>hk3 b o h1 h2 ((sb2.2 b h2).trans ((sb.2 b h1).trans e))) hS3
theorem code_set_new2(a:Value){Q₁:Value->Shared->Prop}
 (h:Q₁ (.ref s.heap.objs.size) { s with heap:=s.heap.push { cls:=.type "set",dict:=none,data:=.set #[] 0 (.fresh 0 0 (ledOf w)) } }) :
 codeAny (model prog w) A (.call (.builtin "set.__new__") ⟨[.type "set",a],[]⟩) (wants Q₁ E) s:=by
 refine codeAny_of_tree ?_
 show wpAny _ A.in1 (do checkBuiltinCall "set.__new__" ⟨[.type "set",a],[]⟩;again (.builtin "set.__new__" ⟨[.type "set",a],[]⟩)) _ _ s
 refine wpAny_bind (wpAny_of_eq (newCall_set_1 a) (wpAny_pure ⟨plainId_quiet PySem.F.plain_set_new _,codeAny_builtin PySem.F.entry_set_new ?_⟩))
 rw[Around.under_plainId PySem.F.plain_set_new _]
 unfold Builtin.«set.__new__» Builtin.Frozenset.newClass
 have hsub:=sub_set_self
 obtain⟨hp,g,d,tk,os⟩:=s
 dsimp only
 wp_walk
 refine wpAny_askSetting (wpAny_pure ?_)
 dsimp only
 simp only[newObj]
 refine wpAny_bind (wpAny_alloc (wpAny_pure ?_))
 exact wpAny_pure h
theorem call_setG{l:Addr}{vs:List Value}{ks:List K}{Q:Value->Shared->Prop}(hh:A.handled=none)(hli:s.heap.IsList l vs.toArray)(hl:ks.length=vs.length)(hk:∀ (i:Nat) k v,ks[i]?=some k->vs[i]?=some v->knd.is k v=true/\v.scannable=true)(hb:vs.length+1 < scanBound)
 (h:∀ h' tk,(∀ b o,s.heap.get? b=some o->h'.get? b=some o)->SetGo knd h' s.heap.objs.size (onceK ks)->Q (.ref s.heap.objs.size) { s with heap:=h',toks:=tk }) :
 wpAny (model prog w) A (call (.type "set") [.ref l]) Q E s:=by
 obtain⟨c,tl,hmro⟩:=PySem.F.called_set.mro
 have hmade:=PySem.F.called_set.made
 have hsub:=PySem.F.called_set.sub
 refine wpAny_call (codeAny_of_tree ?_)
 show wpAny _ _ (callAny (.type "set") _) _ _ _
 refine wpAny_pure ⟨Code.quiet_builtin _ (by decide +kernel),codeAny_builtin PySem.F.entry_type_call ?_⟩
 rw[Around.under_plain (weight_type_call_type "set" [.ref l] []) rfl]
 have h1:=PySem.F.called_set.notType
 have h2:=PySem.F.called_set.canCreate
 have hct:=typeCall_set_1 (.ref l)
 repeat (any_goals (first | assumption | wp_step))
 refine codeAny_mono (code_set_new2 (.ref l) (E:=E) (Q₁:=fun obj s₁=>obj=.ref s.heap.objs.size/\s₁={ s with heap:=s.heap.push { cls:=.type "set",dict:=none,data:=.set #[] 0 (.fresh 0 0 (ledOf w)) } }) ⟨rfl,rfl⟩) fun r s₁ hr=>?_
 cases r with
 | error e=>exact hr
 | ok fl =>
  cases fl with
  | ret obj =>
   obtain⟨rfl,rfl⟩:=hr
   have hS:(s.heap.push { cls:=.type "set",dict:=none,data:=.set #[] 0 (.fresh 0 0 (ledOf w)) }).get? s.heap.objs.size=some { cls:=.type "set",dict:=none,data:=.set #[] 0 (.fresh 0 0 (ledOf w)) }:=Heap.get?_push_size _ rfl
   have hT:Shared.TypeIs { s with heap:=s.heap.push { cls:=.type "set",dict:=none,data:=.set #[] 0 (.fresh 0 0 (ledOf w)) } } (.ref s.heap.objs.size) "set":=⟨_,hS,rfl⟩
   have hli':=PySem.F.called_set.init.lookup
   have hbi:=PySem.F.called_set.init.bind (.ref s.heap.objs.size)
   repeat (any_goals (first | assumption | wp_step))
   refine codeAny_mono (codeAny_call_builtin (R:=wants (fun r s₂=>r=.none/\Q (.ref s.heap.objs.size) s₂) E) PySem.F.called_set.init.plain PySem.F.entry_set_init (check_set_init2 hT ?_)) fun r₂ s₂ hr₂=>?_
   ·unfold Builtin.«set.__init__» noKeywords
    have hlt:l < s.heap.objs.size:=by obtain⟨o,ho,_⟩:=hli;exact Heap.lt_size ho
    have hl1:(s.heap.push { cls:=.type "set",dict:=none,data:=.set #[] 0 (.fresh 0 0 (ledOf w)) }).IsList l vs.toArray:=by obtain⟨o,ho,r⟩:=hli;exact⟨o,Heap.get?_push_of_some _ ho,r⟩
    have hTl:Shared.TypeIs { s with heap:=s.heap.push { cls:=.type "set",dict:=none,data:=.set #[] 0 (.fresh 0 0 (ledOf w)) } } (.ref l) "list":=hl1.typeIs
    unfold Builtin.Frozenset.updateFrom Builtin.Frozenset.isAnySet
    wp_walk
    refine wpAny_of_eq sub_list_set ?_
    show wpAny _ _ (isInstance (Value.ref l) (Value.type "frozenset")) _ _ _
    refine wpAny_isInstance hTl sub_list_fset ?_
    rw[if_neg Bool.false_ne_true]
    refine wpAny_bind (wpAny_typeOf hTl ?_)
    rw[if_neg (by decide)]
    refine wpAny_bind (wpAny_pyIter_list hl1 ?_)
    have sz:(s.heap.push { cls:=.type "set",dict:=none,data:=.set #[] 0 (.fresh 0 0 (ledOf w)) }).objs.size=s.heap.objs.size+1:=Heap.size_push ..
    refine wpAny_bind (wpAny_runValue (code_set_loopG (knd:=knd) (A:=A.in1.in1) (it:=(s.heap.push { cls:=.type "set",dict:=none,data:=.set #[] 0 (.fresh 0 0 (ledOf w)) }).objs.size) (l:=l) (vs:=vs) (ks:=ks) hh hl hk hb (by rw[sz];exact Nat.succ_ne_self _) (Nat.ne_of_lt hlt) (by rw[sz];exact Nat.ne_of_lt (Nat.lt_succ_of_lt hlt)) _ 0 _ _ rfl (Nat.zero_le _) ⟨_,Heap.get?_push_size _ rfl,rfl,rfl⟩ ?_ ?_ fun h' tk hk' hS'=>?_))
    ·obtain⟨o,ho,r⟩:=hl1
     exact⟨o,Heap.get?_push_of_some _ ho,r⟩
    ·exact⟨_,#[],0,_,[],Heap.get?_push_of_some _ hS,⟨rfl,rfl,rfl⟩,rfl,TbG.fresh _,by rfl,by decide,.nil,.refl _⟩
    ·refine wpAny_pure (wpAny_pure ⟨rfl,h h' tk (fun b o e=>hk' b o ?_ ?_ (Heap.get?_push_of_some _ (Heap.get?_push_of_some _ e))) hS'⟩)
     ·rw[sz];exact Nat.ne_of_lt (Nat.lt_succ_of_lt (Heap.lt_size e))
     ·exact Nat.ne_of_lt (Heap.lt_size e)
   ·cases r₂ with
    | error e=>exact hr₂
    | ok fl₂ =>
     cases fl₂ with
     | ret r =>
      obtain⟨rfl,hq⟩:=hr₂
      repeat (any_goals (first | assumption | wp_step))
     | _=>exact hr₂.elim
  | _=>exact hr.elim
end
end L2
end
section
namespace L2
open PySem PySem.Spec PyProof.Rows PySem.W
theorem sl_snext:Slot "set_iterator" "__next__" "set_iterator.__next__":=.of (owner:="set_iterator") (n:="__next__") (by rw[typeLookup_type,builtinLookup_eq_fast];kernel_rfl) (by decide +kernel) (by decide +kernel) (by decide +kernel) (by first | exact .inl (by decide +kernel) | exact .inr (by decide +kernel)) (by rw[isSubtype_type];kernel_rfl)
theorem en_snext:entryFor table "set_iterator.__next__"=some Builtin.«set_iterator.__next__»:=entryFor_of_tree (by kernel_rfl)
theorem ow_snext:Manifest.owners.lookup (String.ofList ['r','o','t','a','r','e','t','i','_','t','e','s'].reverse)=some Manifest.sig_set_iterator:=by kernel_rfl
theorem ar_snext(a:Value):argsOk "set_iterator.__next__" ⟨[a],[]⟩:=by
 unfold argsOk;rw[signature?_of (id:="set_iterator.__next__") (n:=['_','_','t','x','e','n','_','_']) (o:=['r','o','t','a','r','e','t','i','_','t','e','s']) (by kernel_rfl) ow_snext];kernel_rfl
theorem en_siter:entryFor table "set.__iter__"=some Builtin.«frozenset.__iter__»:=entryFor_alias (id':="frozenset.__iter__") (by kernel_rfl) rfl (by decide +kernel) (by kernel_rfl)
section
variable{prog:Program}{w:World}{A:Around}{E:Value->Shared->Prop}{s:Shared}
theorem erase_perm{α:Type}:∀ {l:List α} {i:Nat} (h:i < l.length),(l[i]::l.eraseIdx i).Perm l
 | x::l,0,_=>.refl _
 | x::l,i+1,h=>(List.Perm.swap _ _ _).trans ((erase_perm (l:=l) (i:=i) (by simpa using h)).cons x)
theorem wpAny_pick{n:Nat}{Q:Nat->Shared->Prop}(hn:n≠0)(h:∀ i d,i < n->Q i { s with drawn:=d }):wpAny (model prog w) A (choose .order n) Q E s:=by
 intro Γ p _
 unfold choose
 rw[PySem.Sem.wp_choose]
 exact⟨hn,h _ _ (Nat.mod_lt _ (Nat.pos_of_ne_zero hn))⟩
theorem wpAny_draw{α:Type}:∀ (n:Nat) (xs:List α) (s:Shared) {Q:List α->Shared->Prop},n=xs.length->(∀ ys d,ys.Perm xs->Q ys { s with drawn:=d })->wpAny (model prog w) A (drawOrder n xs) Q E s:=by
 intro n
 induction n with
 | zero =>
  intro xs s Q hn h
  have e:xs=[]:=List.length_eq_zero_iff.mp hn.symm
  subst e
  exact wpAny_pure (h [] s.drawn (.refl _))
 | succ n ih =>
  intro xs s Q hn h
  cases xs with
  | nil=>cases hn
  | cons y ys =>
   unfold drawOrder
   refine wpAny_bind (wpAny_pick (by simp) fun i d hi=>?_)
   have g:(y::ys)[i]?=some (y::ys)[i]:=List.getElem?_eq_getElem hi
   rw[g]
   dsimp only
   refine wpAny_bind (ih ((y::ys).eraseIdx i) _ (by rw[List.length_eraseIdx_of_lt hi];omega) fun zs d' pz=>wpAny_pure ?_)
   exact h _ _ ((pz.cons _).trans (erase_perm hi))
def StD(h:Heap)(a:Addr)(es:Array (Int×Value))(ep:Nat)(t:SetTable):Prop:=∃ o,h.get? a=some o/\o.ExactSet/\o.data=.set es ep t
def IsSI(h:Heap)(it:Addr)(first:Value)(i:Nat)(a:Addr)(n ep:Nat):Prop:=h.get? it=some { cls:=.type "set_iterator",data:=.fields #[first,.int i 0,.ref a,.int n 0,.int ep 0] }
theorem IsSI.typeIs{it a:Addr}{first:Value}{i n ep:Nat}(x:IsSI s.heap it first i a n ep):s.TypeIs (.ref it) "set_iterator":=⟨_,x,rfl⟩
theorem si_set{h:Heap}{it a:Addr}{first:Value}{i n ep:Nat}(x:IsSI h it first i a n ep)(k:Nat)(v:Value):(h.update it (Obj.mapFields (·.setIfInBounds k v))).get? it=some { cls:=.type "set_iterator",data:=.fields (#[first,.int i 0,.ref a,.int n 0,.int ep 0].setIfInBounds k v) } :=
 Heap.get?_update_self _ x (by rfl)
theorem stop_go{h2:Heap}{Q:Option Value->Shared->Prop}(hh:A.handled=none)(hQ:∀ h',(∀ b o,h2.get? b=some o->h'.get? b=some o)->Q none { s with heap:=h' }) :
 wpAny (model prog w) A.in1 (newExc (.type "StopIteration") [] >>= fun x=>(raiseNew x:Sem Fin)) (fun fin s'=>∃ v,fin=Fin.done (Flow.ret v)/\wpAny (model prog w) A (pure (some v)) Q E s')
  (fun e s'=>wpAny (model prog w) A (do if <- isInstance e (.type "StopIteration") then pure none else throw e) Q E s') { s with heap:=h2 }:=by
 refine wpAny_bind ?_
 simp only[newExc,newTuple]
 refine wpAny_bind (wpAny_newObj_type ?_ (by size_fits))
 refine wpAny_bind (m:=firstArgMember _ _) (wpAny_of_eq (a:=Value.none) (by first | rfl | (simp only[firstArgMember];rfl)) ?_)
 refine wpAny_newObj_type ?_ (by size_fits)
 simp only[raiseNew]
 refine wpAny_bind (wpAny_handled ?_)
 rw[show A.in1.handled=none from hh]
 refine wpAny_bind (wpAny_pure (wpAny_throw ?_))
 refine wpAny_bind (wpAny_isInstance (T:="StopIteration") (b:=true) ⟨_,Heap.get?_push_size _ rfl,rfl⟩ isSubtype_stop ?_)
 exact wpAny_pure (hQ _ fun b o e=>Heap.get?_push_of_some _ (Heap.get?_push_of_some _ e))
theorem upd_keep{h:Heap}{it:Addr}{f:Obj->Obj}{b:Addr}{o:Obj}(hb:b≠it)(e:h.get? b=some o):(h.update it f).get? b=some o:=((Heap.SameBut.update h it f).2 b hb).trans e
section
variable{it a:Addr}{i ep:Nat}{es:Array (Int×Value)}{t:SetTable}{Q:Option Value->Shared->Prop}
theorem next_slot{slot nxt:Nat}{x:Value}(hit:IsSI s.heap it (.int slot 0) i a es.size ep)(hs:StD s.heap a es ep t)(ft:t.fits es.size=true)
 (hn:∀ (E:Value->Shared->Prop) (R:Option (Value×Nat)->Shared->Prop),R (some (x,nxt)) s->wpAny (model prog w) A.in1 (setNext a slot i ep) R E s)
 (hQ:∀ h',IsSI h' it (.int nxt 0) (i+1) a es.size ep->(∀ b o,b≠it->s.heap.get? b=some o->h'.get? b=some o)->Q (some x) { s with heap:=h' }):wpAny (model prog w) A (pyNext (.ref it)) Q E s:=by
 obtain⟨o,q,ex,dd⟩:=hs
 unfold pyNext
 refine wpAny_bind (wpAny_attempt (wpAny_callSpecial?_slot (name:=Str.ofString "__next__") hit.typeIs sl_snext (wpAny_call_entry sl_snext hit.typeIs en_snext ?_ (ar_snext _))))
 unfold Builtin.«set_iterator.__next__»
 refine wpAny_bind (wpAny_pure ?_)
 refine wpAny_bind (wpAny_fieldsOf hit rfl ?_)
 dsimp only
 unfold setEntries
 refine wpAny_bind (wpAny_bind (wpAny_setState_of q dd ft (wpAny_pure ?_)))
 rw[if_neg (by simp)]
 simp only[Int.toNat_natCast]
 refine wpAny_bind (hn _ _ ?_)
 dsimp only
 refine wpAny_bind (wpAny_setField hit rfl (by simp) ?_)
 have h1:=si_set hit 0 (rawInt nxt)
 refine wpAny_bind (wpAny_setField h1 rfl (by simp) ?_)
 refine wpAny_pure ⟨_,rfl,wpAny_pure (hQ _ ?_ fun b o hb e=>upd_keep hb (upd_keep hb e))⟩
 exact(Heap.get?_update_self (Obj.mapFields (·.setIfInBounds 1 (rawInt ((i:Int)+1)))) h1 (by rfl)).trans (by simp[Obj.mapFields,rawInt])
theorem next_slot_end{slot:Nat}(hh:A.handled=none)(hit:IsSI s.heap it (.int slot 0) i a es.size ep)(hs:StD s.heap a es ep t)(ft:t.fits es.size=true)
 (hn:∀ (E:Value->Shared->Prop) (R:Option (Value×Nat)->Shared->Prop),R none s->wpAny (model prog w) A.in1 (setNext a slot i ep) R E s)
 (hQ:∀ h',(∀ b o,b≠it->s.heap.get? b=some o->h'.get? b=some o)->Q none { s with heap:=h' }):wpAny (model prog w) A (pyNext (.ref it)) Q E s:=by
 obtain⟨o,q,ex,dd⟩:=hs
 unfold pyNext
 refine wpAny_bind (wpAny_attempt (wpAny_callSpecial?_slot (name:=Str.ofString "__next__") hit.typeIs sl_snext (wpAny_call_entry sl_snext hit.typeIs en_snext ?_ (ar_snext _))))
 unfold Builtin.«set_iterator.__next__»
 refine wpAny_bind (wpAny_pure ?_)
 refine wpAny_bind (wpAny_fieldsOf hit rfl ?_)
 dsimp only
 unfold setEntries
 refine wpAny_bind (wpAny_bind (wpAny_setState_of q dd ft (wpAny_pure ?_)))
 rw[if_neg (by simp)]
 simp only[Int.toNat_natCast]
 refine wpAny_bind (hn _ _ ?_)
 dsimp only
 refine wpAny_bind (wpAny_setField hit rfl (by simp) ?_)
 exact stop_go (s:=s) hh fun h' k=>hQ h' fun b o hb e=>k b o (upd_keep hb e)
theorem next_draw{tp:Addr}{ps:List Nat}{pl:Nat}{h0:Int}{x:Value}(hit:IsSI s.heap it (.ref tp) i a es.size ep)(hs:StD s.heap a es ep t)(ft:t.fits es.size=true)
 (ht:IsTup s.heap tp (ps.map fun(k:Nat)=>rawInt k).toArray) (hp:ps[i]?=some pl) (hx:es[pl]?=some (h0,x))
 (hQ:∀ h',IsSI h' it (.ref tp) (i+1) a es.size ep->(∀ b o,b≠it->s.heap.get? b=some o->h'.get? b=some o)->Q (some x) { s with heap:=h' }):wpAny (model prog w) A (pyNext (.ref it)) Q E s:=by
 obtain⟨o,q,ex,dd⟩:=hs
 obtain⟨ot,hot,hct,nt,hdt⟩:=ht
 unfold pyNext
 refine wpAny_bind (wpAny_attempt (wpAny_callSpecial?_slot (name:=Str.ofString "__next__") hit.typeIs sl_snext (wpAny_call_entry sl_snext hit.typeIs en_snext ?_ (ar_snext _))))
 unfold Builtin.«set_iterator.__next__»
 refine wpAny_bind (wpAny_pure ?_)
 refine wpAny_bind (wpAny_fieldsOf hit rfl ?_)
 dsimp only
 unfold setEntries
 refine wpAny_bind (wpAny_bind (wpAny_setState_of q dd ft (wpAny_pure ?_)))
 rw[if_neg (by simp)]
 simp only[Int.toNat_natCast]
 refine wpAny_bind (wpAny_seqItems hot hdt ?_)
 dsimp only
 have e1:(ps.map fun(k:Nat)=>rawInt k).toArray[i]?=some (.int (pl:Int) 0):=by simp[hp,rawInt]
 rw[e1]
 dsimp only
 unfold setNextDrawn
 refine wpAny_bind (wpAny_bind (wpAny_setState_of q dd ft ?_))
 dsimp only
 rw[if_neg (by simp),Int.toNat_natCast,hx]
 refine wpAny_pure ?_
 refine wpAny_bind (wpAny_setField hit rfl (by simp) ?_)
 refine wpAny_pure ⟨_,rfl,wpAny_pure (hQ _ ?_ fun b o hb e=>upd_keep hb e)⟩
 exact(si_set hit 1 (rawInt ((i:Int)+1))).trans (by simp[rawInt])
theorem next_draw_end{tp:Addr}{ps:List Nat}(hh:A.handled=none)(hit:IsSI s.heap it (.ref tp) i a es.size ep)(hs:StD s.heap a es ep t)(ft:t.fits es.size=true)
 (ht:IsTup s.heap tp (ps.map fun(k:Nat)=>rawInt k).toArray) (hp:ps[i]?=none)
 (hQ:∀ h',(∀ b o,b≠it->s.heap.get? b=some o->h'.get? b=some o)->Q none { s with heap:=h' }):wpAny (model prog w) A (pyNext (.ref it)) Q E s:=by
 obtain⟨o,q,ex,dd⟩:=hs
 obtain⟨ot,hot,hct,nt,hdt⟩:=ht
 unfold pyNext
 refine wpAny_bind (wpAny_attempt (wpAny_callSpecial?_slot (name:=Str.ofString "__next__") hit.typeIs sl_snext (wpAny_call_entry sl_snext hit.typeIs en_snext ?_ (ar_snext _))))
 unfold Builtin.«set_iterator.__next__»
 refine wpAny_bind (wpAny_pure ?_)
 refine wpAny_bind (wpAny_fieldsOf hit rfl ?_)
 dsimp only
 unfold setEntries
 refine wpAny_bind (wpAny_bind (wpAny_setState_of q dd ft (wpAny_pure ?_)))
 rw[if_neg (by simp)]
 simp only[Int.toNat_natCast]
 refine wpAny_bind (wpAny_seqItems hot hdt ?_)
 dsimp only
 have e1:(ps.map fun(k:Nat)=>rawInt k).toArray[i]?=none:=by simpa using hp
 rw[e1]
 dsimp only
 refine wpAny_bind (wpAny_setField hit rfl (by simp) ?_)
 have h1:=si_set hit 0 (rawInt 0)
 refine wpAny_bind (wpAny_setField h1 rfl (by simp) ?_)
 exact stop_go (s:=s) hh fun h' k=>hQ h' fun b o hb e=>k b o (upd_keep hb (upd_keep hb e))
end
theorem pick_go{α:Type}(next:Nat->Nat):∀ (fuel k:Nat) (left:List α) (out:Array α),fuel=left.length->(pickOrder.go next fuel k left out).toList.Perm (out.toList++left):=by
 intro fuel
 induction fuel with
 | zero =>
  intro k left out e
  have e0:left=[]:=List.length_eq_zero_iff.mp e.symm
  subst e0
  unfold pickOrder.go
  rw[List.append_nil]
 | succ fuel ih =>
  intro k left out e
  have hl:next k % left.length < left.length:=Nat.mod_lt _ (by omega)
  unfold pickOrder.go
  rw[List.getElem?_eq_getElem hl]
  dsimp only
  refine(ih _ _ _ (by rw[List.length_eraseIdx_of_lt hl];omega)).trans ?_
  rw[Array.toList_push,List.append_assoc]
  exact List.Perm.append_left _ (erase_perm hl)
theorem pick_perm{α:Type}(next:Nat->Nat)(xs:Array α):(pickOrder next xs).toList.Perm xs.toList:=by
 have:=pick_go next xs.size 0 xs.toList #[] (by simp)
 simpa[pickOrder]using this
section
variable{a:Addr}{i ep slot:Nat}{es:Array (Int×Value)}{t:SetTable}{R:Option (Value×Nat)->Shared->Prop}
theorem setNext_text(hs:StD s.heap a es ep t)(ft:t.fits es.size=true)(hb:w.params.followText "set-order"=true)
 (h:R (((pickOrder (w.params.setOrder a ep) es)[i]?).map fun e=>(e.2,slot)) s):wpAny (model prog w) A (setNext a slot i ep) R E s:=by
 obtain⟨o,q,ex,dd⟩:=hs
 unfold setNext setsByText
 refine wpAny_bind (wpAny_setState_of q dd ft ?_)
 dsimp only
 refine wpAny_bind (wpAny_bind (wpAny_askSetting (wpAny_pure ?_)))
 rw[if_pos (by exact hb)]
 rw[if_neg (by simp)]
 unfold setWalk setsByText
 refine wpAny_bind (wpAny_bind (wpAny_setState_of q dd ft ?_))
 dsimp only
 refine wpAny_bind (wpAny_bind (wpAny_askSetting (wpAny_pure ?_)))
 rw[if_pos (by exact hb)]
 exact wpAny_bind (wpAny_askSetting (wpAny_pure (wpAny_pure h)))
theorem setNext_place(hs:StD s.heap a es ep t)(ft:t.fits es.size=true)(hb:w.params.followText "set-order"=false)(hl:t.led=true)(hd:(!t.plain && decide (es.size > 1))=false)
 (h:R (match es[SetTable.below t.place slot]?,t.place[SetTable.below t.place slot]? with | some (_,x),some j=>some (x,j+1) | _,_=>none) s):wpAny (model prog w) A (setNext a slot i ep) R E s:=by
 obtain⟨o,q,ex,dd⟩:=hs
 unfold setNext setsByText
 refine wpAny_bind (wpAny_setState_of q dd ft ?_)
 dsimp only
 refine wpAny_bind (wpAny_bind (wpAny_askSetting (wpAny_pure ?_)))
 rw[if_neg (by intro z;exact Bool.false_ne_true (hb.symm.trans z))]
 rw[if_neg (by intro z;exact Bool.false_ne_true (hd.symm.trans z))]
 refine wpAny_bind ?_
 show wpAny _ _ (if (!t.led && !es.isEmpty)=true then _ else _) _ _ _
 rw[if_neg (by rw[hl];simp)]
 exact wpAny_pure (wpAny_pure h)
end
end
end L2
end
section
namespace L2
open PySem PySem.Spec PyProof.Rows PySem.W
theorem sl_siself:Slot "set_iterator" "__iter__" "set_iterator.__iter__":=.of (owner:="set_iterator") (n:="__iter__") (by rw[typeLookup_type,builtinLookup_eq_fast];kernel_rfl) (by decide +kernel) (by decide +kernel) (by decide +kernel) (by first | exact .inl (by decide +kernel) | exact .inr (by decide +kernel)) (by rw[isSubtype_type];kernel_rfl)
theorem en_siself:entryFor table "set_iterator.__iter__"=some Builtin.«dict_keyiterator.__iter__»:=entryFor_alias (id':="dict_keyiterator.__iter__") (by kernel_rfl) (by first | rfl | decide +kernel) (by decide +kernel) (by kernel_rfl)
theorem ar_siself(a:Value):argsOk "set_iterator.__iter__" ⟨[a],[]⟩:=by
 unfold argsOk;rw[signature?_of (id:="set_iterator.__iter__") (n:=['_','_','r','e','t','i','_','_']) (o:=['r','o','t','a','r','e','t','i','_','t','e','s']) (by kernel_rfl) ow_snext];kernel_rfl
section
variable{prog:Program}{w:World}{A:Around}{E:Value->Shared->Prop}{s:Shared}
theorem iter_self{it a:Addr}{first:Value}{i n ep:Nat}{Q:Value->Shared->Prop}(hit:IsSI s.heap it first i a n ep)(h:Q (.ref it) s):wpAny (model prog w) A (pyIter (.ref it)) Q E s:=by
 refine wpAny_pyIter_slot hit.typeIs sl_siself (wpAny_call_entry sl_siself hit.typeIs en_siself ?_ (ar_siself _))
 show wpAny _ _ (ret (.ref it)) _ _ s
 exact wpAny_pure ⟨_,rfl,"set_iterator",_,hit.typeIs,sl_snext.lookup,h⟩
theorem StD.at'{h h':Heap}{a:Addr}{es:Array (Int×Value)}{ep:Nat}{t:SetTable}(x:StD h a es ep t)(e:∀ o,h.get? a=some o->h'.get? a=some o):StD h' a es ep t:=let ⟨o,q,r⟩:=x;⟨o,e o q,r⟩
section
variable{it a tp:Addr}{ep:Nat}{es:Array (Int×Value)}{t:SetTable}
theorem walk_text(hh:A.handled=none)(hne:a≠it)(ft:t.fits es.size=true)(hb:w.params.followText "set-order"=true) :
 Walks prog w A it [it,a] [it] es.size (fun i v=>((pickOrder (w.params.setOrder a ep) es).toList.map (·.2))[i]?=some v) (fun i h=>IsSI h it (.int (0:Nat) 0) i a es.size ep/\StD h a es ep t) where
 sub:=fun b hb=>by simp at hb;simp[hb]
 frame:=fun _ _ _ st hk=>⟨hk it (by simp) _ st.1,st.2.at' fun o e=>hk a (by simp) o e⟩
 item:=fun i s Q E hi st hQ=>by
  have hl:(pickOrder (w.params.setOrder a ep) es).size=es.size:=by
   have:=(pick_perm (w.params.setOrder a ep) es).length_eq
   simpa using this
  have g:(pickOrder (w.params.setOrder a ep) es)[i]?=some (pickOrder (w.params.setOrder a ep) es)[i]:=Array.getElem?_eq_getElem (by omega)
  refine next_slot (nxt:=0) (x:=(pickOrder (w.params.setOrder a ep) es)[i].2) st.1 st.2 ft (fun E R hR=>setNext_text st.2 ft hb (by rw[g];exact hR)) fun h' hit' hk=>?_
  exact hQ _ h' s.toks (by rw[List.getElem?_map,Array.getElem?_toList,g];rfl) ⟨hit',st.2.at' fun o e=>hk a o hne e⟩ fun b o hb e=>hk b o (fun z=>hb (by simp[z])) e
 done:=fun s Q E st hQ=>by
  have hl:(pickOrder (w.params.setOrder a ep) es).size=es.size:=by
   have:=(pick_perm (w.params.setOrder a ep) es).length_eq
   simpa using this
  exact next_slot_end hh st.1 st.2 ft (fun E R hR=>setNext_text st.2 ft hb (by rw[Array.getElem?_eq_none (by omega)];exact hR)) fun h' hk=>hQ h' s.toks fun b o hb e=>hk b o (fun z=>hb (by simp[z])) e
 self:=fun _ _ _ _ st hQ=>iter_self st.1 hQ
theorem walk_place(hh:A.handled=none)(hne:a≠it)(ft:t.fits es.size=true)(hb:w.params.followText "set-order"=false)(tg:TbG (ledOf w) t)(hd:(!t.plain && decide (es.size > 1))=false) :
 Walks prog w A it [it,a] [it] es.size (fun i v=>(es.toList.map (·.2))[i]?=some v) (fun i h=>(∃ slot:Nat,IsSI h it (.int slot 0) i a es.size ep/\SetTable.below t.place slot=i)/\StD h a es ep t) where
 sub:=fun b hb=>by simp at hb;simp[hb]
 frame:=fun _ _ _ st hk=>⟨let ⟨sl,x,y⟩:=st.1;⟨sl,hk it (by simp) _ x,y⟩,st.2.at' fun o e=>hk a (by simp) o e⟩
 item:=fun i s Q E hi st hQ=>by
  obtain⟨⟨slot,hit,hsl⟩,hs⟩:=st
  have hl:t.place.size=es.size:=by
   simp only[SetTable.fits,Bool.and_eq_true,beq_iff_eq,decide_eq_true_eq]at ft
   exact ft.1
  have led:t.led=true:=tg.led_.trans (by unfold ledOf;rw[hb];rfl)
  have g:es[i]?=some es[i]:=Array.getElem?_eq_getElem hi
  have gp:t.place[i]?=some (t.place[i]'(by omega)):=Array.getElem?_eq_getElem (by omega)
  refine next_slot (nxt:=t.place[i]'(by omega)+1) (x:=es[i].2) hit hs ft (fun E R hR=>setNext_place hs ft hb led hd (by rw[hsl,g,gp];exact hR)) fun h' hit' hk=>?_
  exact hQ _ h' s.toks (by rw[List.getElem?_map,Array.getElem?_toList,g];rfl) ⟨⟨_,hit',below_next tg.ris gp⟩,hs.at' fun o e=>hk a o hne e⟩ fun b o hb e=>hk b o (fun z=>hb (by simp[z])) e
 done:=fun s Q E st hQ=>by
  obtain⟨⟨slot,hit,hsl⟩,hs⟩:=st
  have led:t.led=true:=tg.led_.trans (by unfold ledOf;rw[hb];rfl)
  exact next_slot_end hh hit hs ft (fun E R hR=>setNext_place hs ft hb led hd (by rw[hsl,Array.getElem?_eq_none (Nat.le_refl _)];exact hR)) fun h' hk=>hQ h' s.toks fun b o hb e=>hk b o (fun z=>hb (by simp[z])) e
 self:=fun _ _ _ _ st hQ=>let ⟨_,x,_⟩:=st.1;iter_self x hQ
theorem tup_at{h h':Heap}{tp:Addr}{its:Array Value}(x:IsTup h tp its)(e:∀ o,h.get? tp=some o->h'.get? tp=some o):IsTup h' tp its:=let ⟨o,q,r⟩:=x;⟨o,e o q,r⟩
theorem walk_draw{ps:List Nat}(hh:A.handled=none)(hne:a≠it)(hnt:tp≠it)(ft:t.fits es.size=true)(hp:ps.Perm (List.range es.size)) :
 Walks prog w A it [it,a,tp] [it] es.size (fun i v=>(ps.map fun k=>(es.toList.getD k (0,.none)).2)[i]?=some v) (fun i h=>IsSI h it (.ref tp) i a es.size ep/\StD h a es ep t/\IsTup h tp (ps.map fun(k:Nat)=>rawInt k).toArray) where
 sub:=fun b hb=>by simp at hb;simp[hb]
 frame:=fun _ _ _ st hk=>⟨hk it (by simp) _ st.1,st.2.1.at' fun o e=>hk a (by simp) o e,tup_at st.2.2 fun o e=>hk tp (by simp) o e⟩
 item:=fun i s Q E hi st hQ=>by
  have hl:ps.length=es.size:=by rw[hp.length_eq,List.length_range]
  have g:ps[i]?=some (ps[i]'(by omega)):=List.getElem?_eq_getElem (by omega)
  have hm:ps[i]'(by omega) < es.size:=List.mem_range.mp (hp.mem_iff.mp (List.getElem_mem _))
  have ge:es[ps[i]'(by omega)]?=some (es[ps[i]'(by omega)].1,es[ps[i]'(by omega)].2):=Array.getElem?_eq_getElem hm
  refine next_draw (x:=(es[ps[i]'(by omega)]).2) st.1 st.2.1 ft st.2.2 g ge fun h' hit' hk=>?_
  refine hQ _ h' s.toks ?_ ⟨hit',st.2.1.at' fun o e=>hk a o hne e,tup_at st.2.2 fun o e=>hk tp o hnt e⟩ fun b o hb e=>hk b o (fun z=>hb (by simp[z])) e
  rw[List.getElem?_map,g]
  simp[List.getD,hm]
 done:=fun s Q E st hQ=>by
  have hl:ps.length=es.size:=by rw[hp.length_eq,List.length_range]
  exact next_draw_end hh st.1 st.2.1 ft st.2.2 (List.getElem?_eq_none (by omega)) fun h' hk=>hQ h' s.toks fun b o hb e=>hk b o (fun z=>hb (by simp[z])) e
 self:=fun _ _ _ _ st hQ=>iter_self st.1 hQ
theorem draw_perm{ps:List Nat}(hp:ps.Perm (List.range es.size)):(ps.map fun k=>(es.toList.getD k (0,.none)).2).Perm (es.toList.map (·.2)):=by
 refine(hp.map _).trans ?_
 have:(List.range es.size).map (fun k=>(es.toList.getD k (0,.none)).2)=es.toList.map (·.2):=by
  apply List.ext_getElem?
  intro k
  rw[List.getElem?_map,List.getElem?_map]
  rcases Nat.lt_or_ge k es.size with hk | hk
  ·rw[List.getElem?_range hk,List.getElem?_eq_getElem (show k < es.toList.length by simpa using hk)]
   simp[List.getD,hk]
  ·rw[List.getElem?_eq_none (by simpa using hk),List.getElem?_eq_none (show es.toList.length<=k by simpa using hk)]
   rfl
 rw[this]
theorem iter_set{Q:Value->Shared->Prop}(hh:A.handled=none)(hs:StD s.heap a es ep t)(ft:t.fits es.size=true)(tg:TbG (ledOf w) t)(hz:es.size<=sizeLine)
 (h:∀ (it:Addr) (fp:List Addr) (vs:List Value) (St:Nat->Heap->Prop) (h':Heap) (d:Drawn),vs.Perm (es.toList.map (·.2))->(∀ b o,s.heap.get? b=some o->h'.get? b=some o)->s.heap.objs.size<=it->(∀ b∈fp,b=a\/s.heap.objs.size<=b) ->
  Walks prog w A it fp [it] es.size (fun i v=>vs[i]?=some v) St->St 0 h'->Q (.ref it) { s with heap:=h',drawn:=d }) :
 wpAny (model prog w) A (pyIter (.ref a)) Q E s:=by
 obtain⟨o,q,ex,dd⟩:=id hs
 have hlt:a < s.heap.objs.size:=Heap.lt_size q
 have hT:s.TypeIs (.ref a) "set":=⟨o,q,ex.1⟩
 refine wpAny_pyIter_slot hT PySem.F.slot_set_iter (wpAny_call_entry PySem.F.slot_set_iter hT en_siter ?_ (PySem.F.args_set_iter_1 _))
 unfold Builtin.«frozenset.__iter__» Builtin.Frozenset.slot0 Builtin.Frozenset.sizeOf setEntries setDrawn setsByText setEpoch
 refine wpAny_bind (wpAny_bind (wpAny_pure (wpAny_pure ?_)))
 refine wpAny_bind (wpAny_bind (wpAny_bind (wpAny_setState_of q dd ft (wpAny_pure (wpAny_pure ?_)))))
 refine wpAny_bind (wpAny_bind (wpAny_setState_of q dd ft ?_))
 dsimp only
 refine wpAny_bind (wpAny_bind (wpAny_askSetting (wpAny_pure ?_)))
 refine wpAny_pure ?_
 have push_fp:∀ b∈[s.heap.objs.size,a],b=a\/s.heap.objs.size<=b:=fun b hb=>by
  simp only[List.mem_cons,List.not_mem_nil,or_false]at hb
  rcases hb with z | z
  ·exact .inr (by rw[z];exact Nat.le_refl _)
  ·exact .inl z
 change wpAny _ _ (if (!w.params.followText "set-order" && (!t.plain && decide (es.size > 1)))=true then _ else _) _ _ _
 cases hb:w.params.followText "set-order" with
 | true =>
  rw[if_neg (by simp)]
  refine wpAny_bind (wpAny_pure ?_)
  refine wpAny_bind (wpAny_bind (wpAny_setState_of q dd ft (wpAny_pure ?_)))
  refine wpAny_bind (wpAny_newObj_type ?_)
  refine wpAny_pure ⟨_,rfl,"set_iterator",_,⟨_,Heap.get?_push_size _ rfl,rfl⟩,sl_snext.lookup,?_⟩
  exact h _ _ _ _ _ s.drawn ((pick_perm (w.params.setOrder a ep) es).map _) (fun b o e=>Heap.get?_push_of_some _ e) (Nat.le_refl _) push_fp (walk_text (t:=t) hh (Nat.ne_of_lt hlt) ft hb) ⟨Heap.get?_push_size _ rfl,hs.at' fun o e=>Heap.get?_push_of_some _ e⟩
 | false =>
  cases hd:(!t.plain && decide (es.size > 1)) with
  | false =>
   rw[if_neg (by simp)]
   refine wpAny_bind (wpAny_pure ?_)
   refine wpAny_bind (wpAny_bind (wpAny_setState_of q dd ft (wpAny_pure ?_)))
   refine wpAny_bind (wpAny_newObj_type ?_)
   refine wpAny_pure ⟨_,rfl,"set_iterator",_,⟨_,Heap.get?_push_size _ rfl,rfl⟩,sl_snext.lookup,?_⟩
   exact h _ _ _ _ _ s.drawn (.refl _) (fun b o e=>Heap.get?_push_of_some _ e) (Nat.le_refl _) push_fp (walk_place hh (Nat.ne_of_lt hlt) ft hb tg hd) ⟨⟨0,Heap.get?_push_size _ rfl,below_zero tg.ris⟩,hs.at' fun o e=>Heap.get?_push_of_some _ e⟩
  | true =>
   rw[if_pos (by simp)]
   refine wpAny_bind (wpAny_draw es.size (List.range es.size) s (by simp) fun ps d pp=>?_)
   have lp:ps.length=es.size:=by rw[pp.length_eq,List.length_range]
   refine wpAny_bind (wpAny_newTuple ?_ (by rw[List.length_map,lp];exact hz))
   have q1:=Heap.get?_push_of_some { cls:=.type "tuple",data:=.seq (ps.map fun(k:Nat)=>rawInt k).toArray } q
   refine wpAny_bind (wpAny_bind (wpAny_setState_of q1 dd ft (wpAny_pure ?_)))
   refine wpAny_bind (wpAny_newObj_type ?_)
   refine wpAny_pure ⟨_,rfl,"set_iterator",_,⟨_,Heap.get?_push_size _ rfl,rfl⟩,sl_snext.lookup,?_⟩
   have sz:(s.heap.push { cls:=.type "tuple",data:=.seq (ps.map fun(k:Nat)=>rawInt k).toArray }).objs.size=s.heap.objs.size+1:=Heap.size_push ..
   have up:∀ b o,s.heap.get? b=some o->((s.heap.push { cls:=.type "tuple",data:=.seq (ps.map fun(k:Nat)=>rawInt k).toArray }).push { cls:=.type "set_iterator",data:=.fields [.ref s.heap.objs.size,rawInt 0,.ref a,rawInt es.size,rawInt ep].toArray }).get? b=some o:=fun b o e=>Heap.get?_push_of_some _ (Heap.get?_push_of_some _ e)
   refine h _ _ _ _ _ d (draw_perm pp) up (by rw[sz];exact Nat.le_succ _) ?_ (walk_draw (a:=a) (tp:=s.heap.objs.size) (t:=t) (ep:=ep) hh (by rw[sz];exact Nat.ne_of_lt (Nat.lt_succ_of_lt hlt)) (by rw[sz];exact Nat.ne_of_lt (Nat.lt_succ_self _)) ft pp) ⟨Heap.get?_push_size _ rfl,hs.at' fun o e=>up a o e,⟨_,Heap.get?_push_of_some _ (Heap.get?_push_size _ rfl),rfl,_,rfl⟩⟩
   intro b hb'
   simp only[List.mem_cons,List.not_mem_nil,or_false]at hb'
   rcases hb' with z | z | z
   ·exact .inr (by rw[z,sz];exact Nat.le_succ _)
   ·exact .inl z
   ·exact .inr (by rw[z];exact Nat.le_refl _)
end
theorem hint_set{r:Addr}{Q:Bool->Shared->Prop}(hT:s.TypeIs (.ref r) "set")(h:Q false s):wpAny (model prog w) A (Builtin.List.listLengthHint (.ref r)) Q E s:=by
 unfold Builtin.List.listLengthHint
 refine wpAny_bind (wpAny_specialOf hT PySem.F.slot_set_len.lookup ?_)
 generalize hid:("set.__len__":String)=id0
 wp_delta
 rw[show splitId id0=some ("set","__len__") from by subst hid;decide +kernel]
 subst hid
 refine wpAny_bind (wpAny_isInstance (T:="set") (b:=true) hT (by rw[isSubtype_type];kernel_rfl) ?_)
 refine wpAny_ite_split (fun z=>absurd z (by decide)) (fun _=>?_)
 refine wpAny_ite_split (fun _=>?_) (fun z=>absurd (by decide +kernel) z)
 exact wpAny_bind (wpAny_typeOf hT (wpAny_pure h))
section
variable{a:Addr}{ep:Nat}{es:Array (Int×Value)}{t:SetTable}
theorem ext_set{R:Result->Shared->Prop}(hh:A.handled=none)(hs:StD s.heap a es ep t)(ft:t.fits es.size=true)(tg:TbG (ledOf w) t)(hz:es.size<=sizeLine)(S:Addr)(hSa:S≠a)(res:Value)(c0:Nat)(hS:s.heap.get? S=some { cls:=.type "list",data:=.seq #[] c0 })
 (hR:∀ (h':Heap) (tk:Nat) (d:Drawn) (vs:List Value) (c':Nat),vs.Perm (es.toList.map (·.2))->(∀ b o,b≠S->s.heap.get? b=some o->h'.get? b=some o)->h'.get? S=some { cls:=.type "list",dict:=none,data:=.seq vs.toArray c',slots:=#[] }->R (.ok (.ret res)) { s with heap:=h',toks:=tk,drawn:=d }) :
 wpAny (model prog w) A.in1 (Builtin.List.listExtendWith (.ref S) (.ref a) res)
  (fun fin s'=>match fin with | .done f=>R (.ok f) s' | .again c'=>c'.quiet=true/\codeAny (model prog w) A c' R s') (fun e s'=>R (.error e) s') s:=by
 have hT:s.TypeIs (.ref a) "set":=let ⟨o,q,ex,_⟩:=hs;⟨o,q,ex.1⟩
 unfold Builtin.List.listExtendWith
 refine wpAny_bind (wpAny_typeOf (T:="set") hT ?_)
 have h1:Builtin.List.listSameRef (.ref S) (.ref a)=false:=by simp[Builtin.List.listSameRef,hSa]
 have h2:(Value.type "set" == Value.type "list")=false:=by decide
 have h3:(Value.type "set" == Value.type "tuple")=false:=by decide
 simp only[h1,h2,h3,Bool.or_false,Bool.false_eq_true,if_false]
 refine wpAny_bind (iter_set (A:=A.in1) hh hs ft tg hz fun it fp vs St hp d pv kp ge hfp W st=>?_)
 have hSlt:=Heap.lt_size hS
 have hSf:S∉fp:=fun z=>by
  rcases hfp S z with e | e
  ·exact hSa e
  ·exact absurd hSlt (Nat.not_lt.mpr e)
 have lv:vs.length=es.size:=by rw[pv.length_eq,List.length_map,Array.length_toList]
 have key:∀ (h:Heap) (c1 tk:Nat),St 0 h->(∀ b o,b≠S->s.heap.get? b=some o->h.get? b=some o) ->
  h.get? S=some { cls:=.type "list",data:=.seq #[] c1 }->codeAny (model prog w) A (.builtin "list.extend.loop" ⟨[.ref S,.ref it,res],[]⟩) R { s with heap:=h,toks:=tk,drawn:=d }:=by
  intro h c1 tk hst hk hS1
  refine codeAny_extend_loopS W.toS hz S hSf res es.size 0 _ #[] c1 rfl (Nat.zero_le _) hst hS1 (ItemsOf.nil _) fun s' acc' c' hm hS' hacc=>?_
  rw[Moved.eq_with hm]
  have ea:acc'=vs.toArray:=by
   apply Array.toList_inj.mp
   apply List.ext_getElem?
   intro k
   rcases Nat.lt_or_ge k acc'.size with q | q
   ·have g:=Array.getElem?_eq_getElem q
    have:=hacc.2 k _ g
    rw[Array.getElem?_toList,g]
    exact this.symm
   ·rw[Array.getElem?_toList,Array.getElem?_eq_none q,List.getElem?_eq_none (by have:=hacc.1;simp;omega)]
  subst ea
  refine hR s'.heap s'.toks d vs c' pv (fun b o hb e=>hm.heap b o (fun hmem=>?_) (hk b o hb e)) hS'
  rcases List.mem_cons.mp hmem with e' | hmem
  ·exact hb e'
  ·have hlt':=Heap.lt_size e
   rw[List.mem_singleton.mp hmem]at hlt'
   exact absurd hlt' (Nat.not_lt.mpr ge)
 have hT':Shared.TypeIs { s with heap:=hp,drawn:=d } (.ref a) "set":=let ⟨o,q,ex,_⟩:=hs;⟨o,kp a o q,ex.1⟩
 refine wpAny_bind (wpAny_holding (hint_set (s:={ s with heap:=hp,drawn:=d }) hT' ?_))
 have hS1:=kp S _ hS
 refine wpAny_ite_split (fun _=>?_) (fun _=>wpAny_pure ⟨plainId_quiet PySem.F.plain_extend_loop _,key hp c0 s.toks st (fun b o _ e=>kp b o e) hS1⟩)
 refine wpAny_bind (wpAny_rule ?_)
 refine wpAny_bind ?_
 show wpAny _ _ (updateSeq S (·.push .none) >>= fun _=>updateSeq S (·.pop)) _ _ _
 refine wpAny_bind (wpAny_updateSeq hS1 rfl ?_)
 have hS2:=Heap.get?_update_self (Obj.mapSeq (·.push Value.none)) hS1 rfl
 refine wpAny_updateSeq (hz:=by seq_fits) hS2 rfl ?_
 have hS3:=Heap.get?_update_self (Obj.mapSeq (·.pop)) hS2 rfl
 refine wpAny_pure ⟨plainId_quiet PySem.F.plain_extend_loop _,key _ _ _ (W.frame 0 _ _ st fun b hb o e=>?_) (fun b o hb e=>?_) hS3⟩
 ·have hbS:b≠S:=fun z=>hSf (z ▸ hb)
  exact(Heap.get?_update_other _ _ (Ne.symm hbS)).trans ((Heap.get?_update_other _ _ (Ne.symm hbS)).trans e)
 ·exact(Heap.get?_update_other _ _ (Ne.symm hb)).trans ((Heap.get?_update_other _ _ (Ne.symm hb)).trans (kp b o e))
theorem code_collectS{R:Result->Shared->Prop}(hh:A.handled=none)(hs:StD s.heap a es ep t)(ft:t.fits es.size=true)(tg:TbG (ledOf w) t)(hz:es.size<=sizeLine)
 (hR:∀ (h':Heap) (tk:Nat) (d:Drawn) (vs:List Value) (c':Nat),vs.Perm (es.toList.map (·.2))->(∀ b o,s.heap.get? b=some o->h'.get? b=some o)->h'.get? s.heap.objs.size=some { cls:=.type "list",dict:=none,data:=.seq vs.toArray c',slots:=#[] }->R (.ok (.ret (.ref s.heap.objs.size))) { s with heap:=h',toks:=tk,drawn:=d }) :
 codeAny (model prog w) A (.builtin "proto.collect" ⟨[.ref a],[]⟩) R s:=by
 have hlt:a < s.heap.objs.size:=let ⟨o,q,_⟩:=hs;Heap.lt_size q
 refine codeAny_builtin PySem.F.entry_proto_collect ?_
 rw[Around.under_plainId PySem.F.plain_proto_collect _]
 show wpAny _ A.in1 (newList [] >>= fun l=>again (.builtin "list.__iadd__" ⟨[l,.ref a],[]⟩)) _ _ s
 refine wpAny_bind (wpAny_newObj_type ?_)
 refine wpAny_pure ⟨plainId_quiet PySem.F.plain_list_iadd _,codeAny_builtin PySem.F.entry_list_iadd ?_⟩
 rw[Around.under_plainId PySem.F.plain_list_iadd _]
 have g1:(s.heap.push { cls:=.type "list",data:=.seq ([]:List Value).toArray }).get? s.heap.objs.size=some { cls:=.type "list",data:=.seq ([]:List Value).toArray }:=Heap.get?_push_size _ rfl
 show wpAny _ A.in1 (Builtin.List.listExtendWith (.ref s.heap.objs.size) (.ref a) (.ref s.heap.objs.size)) _ _ _
 exact ext_set (R:=R) (s:={ s with heap:=s.heap.push { cls:=.type "list",data:=.seq ([]:List Value).toArray } }) hh (hs.at' fun o e=>Heap.get?_push_of_some _ e) ft tg hz _ (Nat.ne_of_gt hlt) _ _ g1
  fun h' tk d vs c' pv kp g=>hR h' tk d vs c' pv (fun b o e=>kp b o (Nat.ne_of_lt (Heap.lt_size e)) (Heap.get?_push_of_some _ e)) g
theorem collect_set{Q:List Value->Shared->Prop}(hh:A.handled=none)(hs:StD s.heap a es ep t)(ft:t.fits es.size=true)(tg:TbG (ledOf w) t)(hz:es.size<=sizeLine)
 (hQ:∀ (h':Heap) (tk:Nat) (d:Drawn) (vs:List Value),vs.Perm (es.toList.map (·.2))->(∀ b o,s.heap.get? b=some o->h'.get? b=some o)->Q vs { s with heap:=h',toks:=tk,drawn:=d }):wpAny (model prog w) A (collect (.ref a)) Q E s:=by
 unfold collect
 refine wpAny_bind (wpAny_runValue (code_collectS hh hs ft tg hz fun h' tk d vs c' pv kp g=>?_))
 show wpAny _ A (load s.heap.objs.size >>= _) _ _ _
 refine wpAny_bind (wpAny_load g ?_)
 exact wpAny_pure (hQ h' tk d vs pv kp)
end
end
end L2
end
section
namespace L2
open PySem PySem.Spec PyProof.Rows PySem.W
theorem OneK.perm{xs ys:List V}{lt:V->V->Bool}(h:OneK xs lt)(p:ys.Perm xs):OneK ys lt :=
 ⟨let ⟨T,a,b⟩:=h.ty;⟨T,a,fun v hv=>b v (p.mem_iff.mp hv)⟩,fun v hv v' hv'=>h.ask v (p.mem_iff.mp hv) v' (p.mem_iff.mp hv'),
  ⟨fun a ha=>h.swo.1 a (p.mem_iff.mp ha),fun a ha b hb c hc=>h.swo.2 a (p.mem_iff.mp ha) b (p.mem_iff.mp hb) c (p.mem_iff.mp hc),fun a ha b hb c hc=>h.swo.3 a (p.mem_iff.mp ha) b (p.mem_iff.mp hb) c (p.mem_iff.mp hc)⟩⟩
section
variable{X:Cx}{pins:List (Addr×Obj)}{σ:St}{H:Hp}{s:Shared}{A:Around}{E:Value->Shared->Prop}
theorem sorted1_gen{l:Addr}{xs0:List V}{lt:V->V->Bool}{Q:VK}(hz0:xs0.length<=sizeLine)(h640:xs0.length < 1000)(hK0:OneK xs0 lt)
 (hc:∀ (E:Value->Shared->Prop) (R:List Value->Shared->Prop),(∀ xs vs s',xs.Perm xs0->Vals xs vs->Inv X pins σ H s'->R vs s')->wpAny (model X.prog X.w) X.A.in1 (collect (.ref l)) R E s)
 (h0:∀ D H' ys,Same H H'->H D=none->H' D=some (.lst ys)->ys.Perm xs0->ys.Pairwise (fun a b=>lt b a=false)->Q (.ref D) H') :
 wpAny (model X.prog X.w) X.A (call (.builtin "sorted") [.ref l]) (EP X pins σ Q) X.xe s:=by
 refine Calls.call_function_entry kind_sorted plain_sorted entry_sorted (args_sorted1 _) ?_
 unfold Builtin.«sorted»
 refine wpAny_bind (m:=checkCount "sorted" 1 1 _) (wpAny_pure ?_)
 refine wpAny_bind (hc _ _ fun xs vs s' pm rv I=>?_)
 have hz:xs.length<=sizeLine:=by rw[pm.length_eq];exact hz0
 have h64:xs.length < 1000:=by rw[pm.length_eq];exact h640
 have hK:OneK xs lt:=hK0.perm pm
 have h:∀ D H' ys,Same H H'->H D=none->H' D=some (.lst ys)->ys.Perm xs->ys.Pairwise (fun a b=>lt b a=false)->Q (.ref D) H':=fun D H' ys h1 h2 h3 h4 h5=>h0 D H' ys h1 h2 h3 (h4.trans pm) h5
 clear hc h0
 generalize s'=s at I ⊢
 have hlv:=rv.length
 have hvz:vs.length<=sizeLine:=by rw[<- hlv];exact hz
 refine wpAny_bind (wpAny_newList ?_ hvz)
 have hoL:=Heap.get?_push_size s.heap (o:=seqObj "list" vs.toArray 0) rfl
 have I1:Inv X pins σ H { s with heap:=s.heap.push (seqObj "list" vs.toArray 0) }:=I.kept (t':=s.toks) fun b o q=>Heap.get?_push_of_some _ q
 have fD:FpOk X pins H s.heap.objs.size:=I.fpOk (Nat.le_refl _) (I.hok.fresh (Nat.le_refl _))
 show wpAny _ _ _ _ _ { s with heap:=s.heap.push (seqObj "list" vs.toArray 0) }
 generalize s.heap.push (seqObj "list" vs.toArray 0)=h1 at hoL I1
 generalize s.heap.objs.size=D at hoL fD
 refine wpAny_bind (wpAny_holding (wpAny_call_entry slot_list_sort ⟨_,hoL,rfl⟩ entry_list_sort ?body (args_list_sort _)))
 case body =>
  rw[list_sort_plain]
  have s1:=Heap.SameBut.update h1 D (Obj.mapSeq fun _=>(#[]:Array Value))
  obtain⟨e1,ho1⟩:∃ e1,(h1.update D (Obj.mapSeq fun _=>(#[]:Array Value))).get? D=some (seqObj "list" #[] e1):=⟨_,get?_update_seq hoL fun _=>#[]⟩
  have I2:Inv X pins σ H { s with heap:=h1.update D (Obj.mapSeq fun _=>(#[]:Array Value)) }:=I1.turned (t':=s.toks) (fun b o hb q=>(s1.2 b hb).trans q) fD.1 fD.2.1 fD.2.2.2.1 fD.2.2.2.2.1 fD.2.2.2.2.2
  have I3:Inv X (pins++[(D,seqObj "list" #[] e1)]) σ H { s with heap:=h1.update D (Obj.mapSeq fun _=>(#[]:Array Value)) }:=I2.pins_of fun p hp=>(List.mem_append.mp hp).elim (fun z=>I2.pin p (List.mem_append_right _ z)) fun z=>by
   have z:p=(D,seqObj "list" #[] e1):=by simpa using z
   subst z
   exact⟨ho1,fD.1,fD.2.1,fD.2.2.1,fun v q=>by cases q⟩
  have I5:Inv X (pins++[(D,seqObj "list" #[] e1)]) σ H { s with heap:=((h1.update D (Obj.mapSeq fun _=>(#[]:Array Value))).push (seqObj "tuple" vs.toArray 0)).push (seqObj "list" #[] 0) }:=I3.kept (t':=s.toks) fun b u q=>Heap.get?_push_of_some _ (Heap.get?_push_of_some _ q)
  refine wpAny_bind (listItems_at hoL rfl ?_)
  refine wpAny_bind (listUpdate_at hoL rfl ?_ (by rw[List.size_toArray];exact hvz) (Nat.zero_le _))
  refine wpAny_bind (seqEpoch_at ho1 rfl ?_)
  refine wpAny_bind (wpAny_newTuple ?_ (by show vs.length<=_;exact hvz))
  refine wpAny_bind (wpAny_newList ?_ (Nat.zero_le _))
  refine wpAny_holding ?_
  show wpAny (model X.prog X.w) _ _ _ _ { s with heap:=((h1.update D (Obj.mapSeq fun _=>(#[]:Array Value))).push (seqObj "tuple" vs.toArray 0)).push (seqObj "list" #[] 0) }
  generalize ((h1.update D (Obj.mapSeq fun _=>(#[]:Array Value))).push (seqObj "tuple" vs.toArray 0)).push (seqObj "list" #[] 0)=h2 at I5
  dsimp only
  have tail:∀ {st:SortSt} {out:List Value} {ys:List V},(arrOf st).map (·.2)=List.toArray out->failedOf st=none->Vals ys out->ys.length < 1000->ys.Perm xs->ys.Pairwise (fun a b=>lt b a=false) ->
   wpAny (model X.prog X.w) X.A.in1.in1 (do
    let ep <- seqEpoch D
    Builtin.List.listUpdate (Value.ref D) fun x=>Array.map (fun x=>x.snd) (arrOf st)
    match failedOf st with
    | some e=>do
     rule "list.sort.comparison-raised"
     throw e
     if (ep != e1)=true then do
         rule "list.sort.modified"
         raiseErrorWords "ValueError" "list modified during sort"
         ret Value.none
      else ret Value.none
    | x =>
     if (ep != e1)=true then do
      rule "list.sort.modified"
      raiseErrorWords "ValueError" "list modified during sort"
      ret Value.none
     else ret Value.none)
    (fun fin s'=>∃ v,fin=Fin.done (Flow.ret v)/\wpAny (model X.prog X.w) X.A.in1 (ret (Value.ref D)) (fun fin s'=>∃ v,fin=Fin.done (Flow.ret v)/\EP X pins σ Q v s') X.xe s')
    X.xe { s with heap:=h2 }:=by
   intro st out ys hout hf ro hlo p1 p2
   have hD:=(I5.pin (D,seqObj "list" #[] e1) (List.mem_append_right _ (List.mem_append_right _ (by simp)))).1
   have s2:=Heap.SameBut.update h2 D (Obj.mapSeq fun _=>List.toArray out)
   obtain⟨c2,hc2⟩:∃ c2,(h2.update D (Obj.mapSeq fun _=>List.toArray out)).get? D=some (seqObj "list" (List.toArray out) c2):=⟨_,get?_update_seq hD fun _=>List.toArray out⟩
   have ho:out.length < 1000:=by rw[<- ro.length];exact hlo
   rw[hout]
   refine wpAny_bind (seqEpoch_at hD rfl ?_)
   refine wpAny_bind (listUpdate_at hD rfl ?_ (Nat.zero_le _) (by rw[List.size_toArray];exact Nat.le_succ_of_le (Nat.le_of_lt (small1000 (by omega)))))
   rw[hf]
   simp only[bne_self_eq_false,Bool.false_eq_true,if_false]
   have I6:Inv X pins σ (upd H D (.lst ys)) { s with heap:=h2.update D (Obj.mapSeq fun _=>List.toArray out) }:=(I5.unpinned).adopt (t':=s.toks) fD (fun b u hb q=>(s2.2 b hb).trans q) ⟨Nat.le_of_lt (small1000 (by omega)),out,c2,ro,hc2⟩
   exact wpAny_pure ⟨_,rfl,wpAny_pure ⟨_,rfl,.ref D,_,I6,rfl,h D _ ys ((Same.refl _).updL fD.1 _) fD.1 upd_same p1 p2⟩⟩
  by_cases h2':vs.toArray.size < 2
  ·rw[if_pos h2',if_pos h2']
   refine wpAny_bind (wpAny_pure ?_)
   rw[StateT.run_pure]
   refine wpAny_bind (wpAny_pure ?_)
   refine tail (st:=SortSt.mk' general' (vs.toArray.zip vs.toArray) #[] 7 none) (out:=vs) ?_ rfl rv (by omega) (List.Perm.refl _) (pw_small (by rw[List.size_toArray]at h2';omega))
   apply Array.toList_inj.mp
   show(Array.map (·.2) (vs.toArray.zip vs.toArray)).toList=_
   rw[Array.toList_map,ksk_zip]
   show List.map (·.2) (vs.zip vs)=vs
   exact List.map_snd_zip (by omega)
  ·rw[if_neg h2',if_neg h2']
   rw[List.size_toArray]at h2'
   obtain⟨T,hT1,hT⟩:=hK.ty
   have mem:∀ v∈vs,∃ x∈xs,RelV x v:=fun v hv=>by
    obtain⟨i,hi,rfl⟩:=List.mem_iff_getElem.mp hv
    obtain⟨u,eu,ru⟩:=rv.get (i:=i) (x:=xs[i]'(by omega)) (List.getElem?_eq_getElem _)
    rw[List.getElem?_eq_getElem hi]at eu
    cases eu
    exact⟨_,List.getElem_mem _,ru⟩
   refine wpAny_bind (kas_kind (T:=.type T) (by omega) (fun v hv=>?_) hT1 (by simp) ?_)
   ·obtain⟨x,hx,rx⟩:=mem v hv
    exact Looks.of_pure (hT x hx v rx)
   have hn:0 < xs.length:=by omega
   have at_:∀ i,i < xs.length->RelV (xs.getD i .non) (vs.getD i Value.none)/\xs.getD i .non∈xs:=fun i hi=>by
    obtain⟨u,eu,ru⟩:=rv.get (i:=i) (x:=xs[i]) (List.getElem?_eq_getElem _)
    have e1:xs.getD i .non=xs[i]:=by simp[hi]
    have e2:vs.getD i Value.none=u:=by simp[List.getD,eu]
    rw[e1,e2]
    exact⟨ru,List.getElem_mem _⟩
   have run:=SortB.big_run (prog:=X.prog) (w:=X.w) (A:=X.A.in1.in1) (E:=X.xe) (κ:=oneType') (ks:=vs) (vs:=vs) (s:={ s with heap:=h2 }) (r:=fun i=>xs.countP (lt · (xs.getD i .non))) rfl (by omega)
    (fun i j C hi hj hC=>by
     rw[<- hlv]at hi hj
     rw[hK.swo.rank (at_ i hi).2 (at_ j hj).2]at hC
     unfold kas_ask
     exact hK.ask _ (at_ i hi).2 _ (at_ j hj).2 _ _ (at_ i hi).1 (at_ j hj).1 _ _ _ _ _ _ hC)
    (fun i j hi hj e=>by
     rw[<- hlv]at hi hj
     have r1:=(at_ i hi).1
     rw[e]at r1
     show xs.countP (lt · (xs.getD i .non))=xs.countP (lt · (xs.getD j .non))
     rw[rel_same r1 (at_ j hj).1])
   rw[<- hlv]at run
   refine wpAny_bind (wpAny_mono run ?_ fun _ _ x=>x)
   rintro⟨⟨⟩,st'⟩ s' ⟨p,har,hf,es,ok,up⟩
   subst es
   have hout:=kat_snds (ks:=vs) (vs:=vs) rfl har
   exact tail hout hf (rv.pick p.toList) (by rw[List.length_map,Array.length_toList,ok.size];omega) (picks_perm ok) (picks_up hK.swo ok hn up)
end
theorem vals_permR{l l':List Value}(p:l'.Perm l):∀ {js:List V},Vals js l->∃ js',Vals js' l'/\js'.Perm js:=by
 induction p with
 | nil=>intro js h;exact⟨js,h,.refl _⟩
 | cons x _ ih =>
  intro js h
  cases h with
  | cons r t=>obtain⟨js',a,b⟩:=ih t;exact⟨_::js',.cons r a,b.cons _⟩
 | swap x y l =>
  intro js h
  cases h with
  | cons r t =>
   cases t with
   | cons r2 t2=>exact⟨_,.cons r2 (.cons r t2),List.Perm.swap _ _ _⟩
 | trans _ _ ih1 ih2 =>
  intro js h
  obtain⟨j1,a,b⟩:=ih2 h
  obtain⟨j2,c,d⟩:=ih1 a
  exact⟨j2,c,d.trans b⟩
theorem vals_go{prog:Program}{w:World}:∀ {js:List Key} {l:List (Int×Value)},Paired (ElAt (mixKind prog w)) js l->Vals (js.map kV) (l.map (·.2))
 | _,_,.nil=>.nil
 | _,_,.cons r t=>.cons (relKey r.1.1) (vals_go t)
theorem Inv.keptD{X:Cx}{pins:List (Addr×Obj)}{σ:St}{H:Hp}{s:Shared}{h':Heap}{t':Nat}{d:Drawn}(I:Inv X pins σ H s)(k:∀ b o,s.heap.get? b=some o->h'.get? b=some o):Inv X pins σ H { s with heap:=h',toks:=t',drawn:=d } :=
 have J:=I.kept (t':=t') k
 ⟨J.ok,J.os,J.bare,J.base,J.loc,J.cell,J.free,J.freeC,J.pin,J.hok,J.len⟩
def SetAtG(X:Cx)(pins:List (Addr×Obj))(σ:St)(Q:List Key->Hp->Prop)(u:Value)(s:Shared):Prop:=∃ a ks H1,u=.ref a/\Inv X pins σ H1 s/\SetGo (mixKind X.prog X.w) s.heap a (onceK ks)/\ks.length < 4000/\Q ks H1
section
variable{X:Cx}{e:Expr}{te:TE}{p pos p2 pos2:Pos}{pins:List (Addr×Obj)}{σ:St}{H:Hp}{s:Shared}
theorem eval_setG{Q:List Key->Hp->Prop}(he:PE X e te)(hh:X.A.handled=none)(hg:Gl X "set")(hm:X.mg "set"=none)(I:Inv X pins σ H s)(h:tSetK X.K te Q σ H)
 (hs:starEach [e] X.env=[(false,eval e X.env)]:=by rfl):wpAny (model X.prog X.w) X.A (eval (.Call (.Name "set" p) [e] [] pos) X.env) (SetAtG X pins σ Q) X.xe s:=by
 refine wpAny_Call_Name_kw (ld_blt I hg hm bo_set ?_ (by decide) (by decide))
 refine PyProof.Rows.callWith_type1 ?_ hs rfl
 rw[hs]
 show wpAny _ _ (spliced ((false,eval e X.env)::backTo pos [])) _ _ s
 refine Calls.spliced_cons (thn (he pins s σ H _ I h) fun u s1 ⟨x,H1,I1,r1,l,ks,ex,hl,hk,q⟩=>?_)
 subst ex
 obtain rfl:u=Value.ref l:=r1
 refine Calls.spliced_nil ?_
 obtain⟨vs,rv,pl,hz⟩:=I1.list hl
 have hlv:=rv.length
 rw[List.length_map]at hlv
 refine call_setG (knd:=mixKind X.prog X.w) (ks:=ks) hh pl.isList (by omega) (fun i k v h1 h2=>?_) (by show vs.length+1 < 4096;omega) fun h' tk kk hS=>?_
 ·obtain⟨u,hu,ru⟩:=rv.get (i:=i) (x:=kV k) (by rw[List.getElem?_map,h1];rfl)
  rw[h2]at hu
  cases hu
  exact key_rel ru
 ·exact⟨_,ks,H1,rfl,I1.kept kk,hS,hk,q⟩
def tSortSet(K:PySem.W.Frag)(te:TE):TE:=fun σ H Q=>tSetK K te (fun ks H1=>∃ lt,OneK ((onceK ks).map kV) lt/\ks.length < 1000/\∀ D H' ys,Same H1 H'->H1 D=none->H' D=some (.lst ys)->ys.Perm ((onceK ks).map kV)->ys.Pairwise (fun a b=>lt b a=false)->Q (.ref D) H') σ H
theorem pe_sortset(he:PE X e te)(hh:X.A.handled=none)(hg:Gl X "set")(hm:X.mg "set"=none)(hg2:Gl X "sorted")(hm2:X.mg "sorted"=none)
 (hs:starEach [e] X.env=[(false,eval e X.env)]:=by rfl)
 (hs2:starEach [.Call (.Name "set" p) [e] [] pos] X.env=[(false,eval (.Call (.Name "set" p) [e] [] pos) X.env)]:=by rfl):PE X (.Call (.Name "sorted" p2) [.Call (.Name "set" p) [e] [] pos] [] pos2) (tSortSet X.K te):=by
 intro pins s σ H Q I h
 refine wpAny_Call_Name_kw (ld_blt I hg2 hm2 bo_sorted ?_ (by decide) (by decide))
 refine PyProof.Rows.callWith_builtin1 ?_ hs2 rfl
 rw[hs2]
 show wpAny _ _ (spliced ((false,eval (.Call (.Name "set" p) [e] [] pos) X.env)::backTo pos2 [])) _ _ s
 refine Calls.spliced_cons (thn (eval_setG he hh hg hm I h hs) fun u s1 ⟨a,ks,H1,eu,I1,hS,hk,lt,hK,hl,q⟩=>?_)
 subst eu
 refine Calls.spliced_nil ?_
 obtain⟨o,es,ep,t,js,ho,ex,hd,tg,ft,sb,pr,pm⟩:=hS
 have lo:=onceK_len ks
 have l1:((onceK ks).map kV).length < 1000:=by rw[List.length_map];omega
 refine sorted1_gen (Nat.le_of_lt (small1000 (Nat.le_of_lt l1))) l1 hK (fun E R hR=>?_) q
 refine collect_set (A:=X.A.in1) (s:=s1) hh ⟨o,ho,ex,hd⟩ ft tg (fits_of_scanBound sb) fun h' tk d vs pv kp=>?_
 obtain⟨xs,rx,px⟩:=vals_permR pv (vals_go pr)
 exact hR xs vs _ (px.trans (pm.map _)) rx (I1.keptD kp)
end
end L2
end
section
namespace L2
open PySem PySem.Spec PyProof.Rows PySem.W
def countV(n:Nat):List V:=(List.range n).map fun(i:Nat)=>V.int i
section
variable{X:Cx}{e:Expr}{te:TE}{p pos p2 pos2:Pos}{pins:List (Addr×Obj)}{σ:St}{H:Hp}{s:Shared}
def tListRng(te:TE):TE:=fun σ H Q=>te σ H fun x H1=>∃ n:Nat,x=.int n/\n<=1000/\∀ D,H1 D=none->Q (.ref D) (upd H1 D (.lst (countV n)))
def RngAt(X:Cx)(pins:List (Addr×Obj))(σ:St)(Q:VK)(u:Value)(s:Shared):Prop:=∃ (n:Nat) (H1:Hp) (t1 t2 t3:Tok) (r:Addr),u=.ref r/\n<=1000/\IsRange s.heap r 0 n 1 t1 t2 t3/\Inv X pins σ H1 s/\∀ D,H1 D=none->Q (.ref D) (upd H1 D (.lst (countV n)))
theorem eval_rng{Q:VK}(he:PE X e te)(hg:Gl X "range")(hm:X.mg "range"=none)(I:Inv X pins σ H s)(h:tListRng te σ H Q)
 (hs:starEach [e] X.env=[(false,eval e X.env)]:=by rfl):wpAny (model X.prog X.w) X.A (eval (.Call (.Name "range" p) [e] [] pos) X.env) (RngAt X pins σ Q) X.xe s:=by
 refine wpAny_Call_Name_kw (ld_blt I hg hm boot_range ?_ (by decide) (by decide))
 refine PyProof.Rows.callWith_type1 ?_ hs rfl
 rw[hs]
 show wpAny _ _ (spliced ((false,eval e X.env)::backTo pos [])) _ _ s
 refine Calls.spliced_cons (thn (he pins s σ H _ I h) fun u s1 ⟨x,H1,I1,r1,n,ex,hn,q⟩=>?_)
 subst ex
 obtain⟨t,rfl⟩:=r1
 refine Calls.spliced_nil ?_
 refine call_range_1 ?_
 refine⟨n,H1,_,_,_,_,rfl,hn,Heap.get?_push_size _ rfl,I1.kept fun b o e=>Heap.get?_push_of_some _ e,q⟩
theorem pe_listrng(he:PE X e te)(hh:X.A.handled=none)(hg:Gl X "range")(hm:X.mg "range"=none)(hg2:Gl X "list")(hm2:X.mg "list"=none)
 (hs:starEach [e] X.env=[(false,eval e X.env)]:=by rfl)
 (hs2:starEach [.Call (.Name "range" p) [e] [] pos] X.env=[(false,eval (.Call (.Name "range" p) [e] [] pos) X.env)]:=by rfl):PE X (.Call (.Name "list" p2) [.Call (.Name "range" p) [e] [] pos] [] pos2) (tListRng te):=by
 intro pins s σ H Q I h
 refine wpAny_Call_Name_kw (ld_blt I hg2 hm2 bo_list ?_ (by decide) (by decide))
 refine PyProof.Rows.callWith_type1 ?_ hs2 rfl
 rw[hs2]
 show wpAny _ _ (spliced ((false,eval (.Call (.Name "range" p) [e] [] pos) X.env)::backTo pos2 [])) _ _ s
 refine Calls.spliced_cons (thn (eval_rng he hg hm I h hs) fun u s1 ⟨n,H1,t1,t2,t3,r,eu,hn,hr,I1,q⟩=>?_)
 subst eu
 refine Calls.spliced_nil ?_
 refine call_list_range (n:=n) hh hr ?_ ?_ (by omega) fun h' tk acc' c' kp hD hacc=>?_
 ·have e:Builtin.Range.rangeSize 0 n 1=n:=by
   unfold Builtin.Range.rangeSize
   rw[if_pos (by decide)]
   split <;> omega
  have f:∀ x:Int,0<=x->x<=2000->Builtin.Range.rangeFitsLong x=true:=fun x h0 h1=>by
   unfold Builtin.Range.rangeFitsLong
   simp
   omega
  unfold Builtin.Range.small
  rw[e,f 0 (by omega) (by omega),f n (by omega) (by omega),f 1 (by omega) (by omega),if_pos (by decide),f _ (by omega) (by omega)]
  simp
 ·unfold Builtin.Range.rangeSize
  rw[if_pos (by decide)]
  split <;> omega
 have hv:Vals (countV n) acc'.toList:=by
  unfold countV
  refine vals_at (by rw[List.length_map,List.length_range,Array.length_toList,hacc.1]) fun i x u hx hu=>?_
  rw[List.getElem?_map,Option.map_eq_some_iff]at hx
  obtain⟨j,hj,rfl⟩:=hx
  have hi:i < n:=by
   have:=(List.getElem?_eq_some_iff.mp hj).1
   simpa using this
  rw[List.getElem?_range hi]at hj
  cases hj
  obtain⟨t,e⟩:=hacc.2 i u (by rw[<- Array.getElem?_toList];exact hu)
  exact⟨t,by rw[e];simp⟩
 exact⟨.ref _,_,I1.laid (t':=tk) kp (Nat.le_refl _) (show ObjOk X.prog X.w _ h' _ (.lst (countV n)) from⟨by rw[hv.length,Array.length_toList,hacc.1];exact Nat.le_of_lt (small1000 hn),acc'.toList,c',hv,by simpa using hD⟩),rfl,q _ (I1.hok.fresh (Nat.le_refl _))⟩
theorem pe_cal0{j k:Nat}{x:Str}{ps:List Str}{sp:Sp}{q1 q2:Pos}(G:Cal X.prog X.w X.K X.mg X.base j x ps sp)(hr:Room k X.A)(hj:j<=k)(hg:Gl X x)(hdb:(x == ("__debug__":Str))=false:=by decide):PE X (.Call (.Name x q1) [] [] q2) (tCall sp [] E0 tNil):=by
 obtain⟨f,fd,F,b,kp,m⟩:=G
 exact pe_call0 F (hr.mono hj) hg m kp b .nil pass0 hdb
theorem pe_disp1{k v:Expr}{tk tv:TE}{dp:Pos}(hk:PE X k tk)(hv:PE X v tv):PE X (.Dict [some k] [v] dp) (tDisp [(tk,tv)]):=pe_disp (pps_cons hk hv pps_nil) rfl rfl (by simp) (by simp)
end
end L2
end
section
namespace Rw
open PySem L2 Pl
theorem valV_none{kvs:List (Key×V)}{k:Key}(h:k∉kvs.map Prod.fst):valV kvs k=none:=by
 unfold valV
 rw[Option.map_eq_none_iff,List.find?_eq_none]
 intro p hp e
 exact h (List.mem_map.mpr ⟨p,hp,by simpa using e⟩)
theorem putK_new{kvs:List (Key×V)}{k:Key}{v:V}(h:k∉kvs.map Prod.fst):putK kvs k v=kvs++[(k,v)]:=by
 unfold putK
 rw[if_neg]
 intro e
 rw[valV_any,valV_none h]at e
 cases e
end Rw
end
section
open L2 PySem
namespace Tr
section
variable{lv:V->Nat}{l:Int}
end
section
variable{tbl tbl':List (Int×Dt)}{l:Int}
end
section
variable{lv:V->Nat}{tbl tbl':List (Int×Dt)}
end
section
variable(lt:V->V->Prop)
variable{lt}
end
section
variable{lv:V->Nat}{tbl:List (Int×Dt)}
end
section
variable{lv:V->Nat}{tbl:List (Int×Dt)}
variable{lt:V->V->Prop}
end
section
variable(lt:V->V->Prop)(tbl:List (Int×Dt))(k:V)
end
section
variable{lt:V->V->Prop}{tbl tbl':List (Int×Dt)}{k:V}
end
section
variable{lv:V->Nat}{tbl:List (Int×Dt)}
end
end Tr
end
section
namespace My
open PySem L2 Pl Rw
variable{P:Program}{w:World}{K:PySem.W.Frag}{mg:Str->Option Value}{base:Heap}
theorem cxOf_K{CX:CXT}{P:Program}{w:World}{K:PySem.W.Frag}{mg:Str->Option Value}{base:Heap}{N:List Str}{qual:Str}{scope:Scope}{f:Addr}{cd:Value}{A:Around}{outer:List Env}{s:Shared}{H:Hp}{E:XK}:(cxOf CX P w K mg base N qual scope f cd A outer s H E).K=K:=rfl
theorem cxOf_P{CX:CXT}{P:Program}{w:World}{K:PySem.W.Frag}{mg:Str->Option Value}{base:Heap}{N:List Str}{qual:Str}{scope:Scope}{f:Addr}{cd:Value}{A:Around}{outer:List Env}{s:Shared}{H:Hp}{E:XK}:(cxOf CX P w K mg base N qual scope f cd A outer s H E).prog=P:=rfl
theorem cxOf_w{CX:CXT}{P:Program}{w:World}{K:PySem.W.Frag}{mg:Str->Option Value}{base:Heap}{N:List Str}{qual:Str}{scope:Scope}{f:Addr}{cd:Value}{A:Around}{outer:List Env}{s:Shared}{H:Hp}{E:XK}:(cxOf CX P w K mg base N qual scope f cd A outer s H E).w=w:=rfl
theorem blk_K{X:Cx}{sc:Scope}{x:Str}{M:List Str}{cl:List (Str×Addr)}{C:Addr}{s:Shared}{H:Hp}{fp:List Addr}:(blk X sc x M cl C s H fp).K=X.K:=rfl
local macro_rules | `(tactic| walk_at "rd") => `(tactic| simp (maxSteps := 1000000) only [cxOf_K, blk_K, tFor_rng1, tFor_rng2, tFor_list, tFor_tup, tFor_str, tLc_rng1, tLc_list, tLc_tup, tLc_str, tSeq, tNext, tSetLc, rIxL, rIxT, rIxS, rLtV, rIn, rEqL, rJoin, rCat, rSlL, rSlS, Int.reduceLT, Int.reduceLE, Int.reduceToNat, tIfS, tTest, tB, tNot, tAnd, tOr, tAndV, tOrV, tNotV, tOp, tUn, tVar, tC, tRet, tRetN, tAsg, gName, tDrop, tCB, tCall, tCons, tNil, tTup, tLst, rI, rI0, rU, rEq, rNe, scal, tBM, tBM0, rAppend, tChain, tSl, tPart, tNoPart, tFmtI, tFmtS, tJoinF, tParts, empty_add, tSortK, tSortKB, tDGet1, tDPop1, rExtendE, tFor_rngD, tLenSet, tSetK, tFor_seq, tDNewK, sDPut, tDGet, tDIn, tDNotIn, tThaw, tLc_dict, tFor_dict, sThaw, Ends.thawed, tIf, tFor_zip, gTup, gCons, gNil, rAll, tDNew, tLc_rng2, rEqN, tYes,  List.getElem?_cons_zero, List.getElem?_cons_succ, List.set_cons_zero, List.set_cons_succ, Option.some.injEq, V.int.injEq, V.bl.injEq, V.str.injEq, V.ref.injEq, exists_eq_left, exists_eq_left', exists_eq_right, exists_and_left, List.cons.injEq, and_true, true_and, List.append_nil, decide_eq_true_eq, Bool.not_eq_true', decide_eq_false_iff_not, Bool.not_true, Bool.not_false, if_true, if_false, Bool.true_eq_false, Bool.false_eq_true, reduceCtorEq, exists_const, exists_false, false_and, and_false, not_true_eq_false, not_false_eq_true, ite_true, ite_false])
local macro_rules | `(tactic| walk_at "side") => `(tactic| first | omega | decide | (unfold CDiv; omega) | (refine CMul.ok ?_; unfold CMul; omega) | (unfold CMul; omega) | (unfold CPow; omega) | (unfold CDiv; decide) | (unfold CPow; decide))
local macro_rules | `(tactic| walk_at "go") => `(tactic| (repeat refine And.intro (by walk_at "side") ?_))
def top(i:Nat):Stmt:=PySem.Challenge.pw_twigtable_k41_makes_kept.main.body.getD i (.Pass ⟨0,0,0,0⟩)
def topM(i j:Nat):Stmt:=match top i with | .ClassDef _ _ _ body _ _ _ _ _ _ _=>body.getD j (.Pass ⟨0,0,0,0⟩) | s=>s
abbrev s_NoMake_init:Stmt:=topM 4 0
theorem sc_NoMake_init:FnScope ["self","number"] ["self","number"] (defScope s_NoMake_init):=⟨rfl,rfl,rfl,by decide +kernel,rfl,by decide +kernel,by decide +kernel⟩
abbrev s_rank_of:Stmt:=top 6
theorem sc_rank_of:FnScope ["value"] ["value"] (defScope s_rank_of):=⟨rfl,rfl,rfl,by decide +kernel,rfl,by decide +kernel,by decide +kernel⟩
abbrev s_no_table:Stmt:=top 10
theorem sc_no_table:FnScope [] [] (defScope s_no_table):=⟨rfl,rfl,rfl,by decide +kernel,rfl,by decide +kernel,by decide +kernel⟩
abbrev s_Makes_numbers:Stmt:=topM 12 6
theorem sc_Makes_numbers:FnScope ["self"] ["self"] (defScope s_Makes_numbers):=⟨rfl,rfl,rfl,by decide +kernel,rfl,by decide +kernel,by decide +kernel⟩
abbrev s_Makes_dealt:Stmt:=topM 12 7
theorem sc_Makes_dealt:FnScope ["self"] ["self"] (defScope s_Makes_dealt):=⟨rfl,rfl,rfl,by decide +kernel,rfl,by decide +kernel,by decide +kernel⟩
abbrev s__law_whole:Stmt:=top 14
theorem sc__law_whole:FnScope ["_law_found"] ["_law_found"] (defScope s__law_whole):=⟨rfl,rfl,rfl,by decide +kernel,rfl,by decide +kernel,by decide +kernel⟩
abbrev s__law_number:Stmt:=top 15
theorem sc__law_number:FnScope ["_law_script","_law_k","_law_number_here"] ["_law_script","_law_k"] (defScope s__law_number):=⟨rfl,rfl,rfl,by decide +kernel,rfl,by decide +kernel,by decide +kernel⟩
abbrev s__law_elders:Stmt:=top 16
theorem sc__law_elders:FnScope ["_law_number_here","_law_k","_law_one","_law_other"] ["_law_number_here","_law_k"] (defScope s__law_elders):=⟨rfl,rfl,rfl,by decide +kernel,rfl,by decide +kernel,by decide +kernel⟩
abbrev s__law_word:Stmt:=top 17
theorem sc__law_word:FnScope ["_law_number_here","_law_letters","_law_word_here","_law_k"] ["_law_number_here"] (defScope s__law_word):=⟨rfl,rfl,rfl,by decide +kernel,rfl,by decide +kernel,by decide +kernel⟩
abbrev s_before:Stmt:=top 7
theorem sc_before:FnScope ["one","other"] ["one","other"] (defScope s_before):=⟨rfl,rfl,rfl,by decide +kernel,rfl,by decide +kernel,by decide +kernel⟩
abbrev s_Makes_init:Stmt:=topM 12 0
theorem sc_Makes_init:FnScope ["self"] ["self"] (defScope s_Makes_init):=⟨rfl,rfl,rfl,by decide +kernel,rfl,by decide +kernel,by decide +kernel⟩
abbrev s__law_table:Stmt:=top 18
theorem sc__law_table:FnScope ["_law_number_here","_law_words"] ["_law_number_here"] (defScope s__law_table):=⟨rfl,rfl,rfl,by decide +kernel,rfl,by decide +kernel,by decide +kernel⟩
abbrev s_Makes_ask:Stmt:=topM 12 2
theorem sc_Makes_ask:FnScope ["self","number"] ["self","number"] (defScope s_Makes_ask):=⟨rfl,rfl,rfl,by decide +kernel,rfl,by decide +kernel,by decide +kernel⟩
abbrev s_in_order:Stmt:=top 8
theorem sc_in_order:FnScope ["values","ordered","value"] ["values"] (defScope s_in_order):=⟨rfl,rfl,rfl,by decide +kernel,rfl,by decide +kernel,by decide +kernel⟩
abbrev s_Makes_elders:Stmt:=topM 12 3
theorem sc_Makes_elders:FnScope ["self","number"] ["self","number"] (defScope s_Makes_elders):=⟨rfl,rfl,rfl,by decide +kernel,rfl,by decide +kernel,by decide +kernel⟩
abbrev s_Makes_table:Stmt:=topM 12 4
theorem sc_Makes_table:FnScope ["self","number"] ["self","number"] (defScope s_Makes_table):=⟨rfl,rfl,rfl,by decide +kernel,rfl,by decide +kernel,by decide +kernel⟩
abbrev s_Makes_made:Stmt:=topM 12 1
theorem sc_Makes_made:FnScope ["self","elders","table","numbers","elder","number"] ["self","elders","table"] (defScope s_Makes_made):=⟨rfl,rfl,rfl,by decide +kernel,rfl,by decide +kernel,by decide +kernel⟩
abbrev s__law_told:Stmt:=top 19
theorem sc__law_told:FnScope ["_law_makes","_law_number_here","_law_elders_here","_law_table_here","_law_found","_law_elder"] ["_law_makes","_law_number_here","_law_elders_here","_law_table_here"] (defScope s__law_told):=⟨rfl,rfl,rfl,by decide +kernel,rfl,by decide +kernel,by decide +kernel⟩
abbrev s__law_all:Stmt:=top 20
theorem sc__law_all:FnScope ["_law_makes","_law_kin","_law_tables","_law_number_here","_law_found","_law_count"] ["_law_makes","_law_kin","_law_tables"] (defScope s__law_all):=⟨rfl,rfl,rfl,by decide +kernel,rfl,by decide +kernel,by decide +kernel⟩
abbrev s__law_new:Stmt:=top 21
theorem sc__law_new:FnScope ["_law_makes","_law_handed","_law_table_here","_law_due","_law_kept","_law_found"] ["_law_makes","_law_handed","_law_table_here","_law_due"] (defScope s__law_new):=⟨rfl,rfl,rfl,by decide +kernel,rfl,by decide +kernel,by decide +kernel⟩
abbrev s_law:Stmt:=top 22
theorem sc_law:FnScope ["_law_script","_law_makes","_law_beside","_law_kin","_law_tables","_law_others","_law_k","_law_number_here","_law_elders_here","_law_table_here"] ["_law_script"] (defScope s_law):=⟨rfl,rfl,rfl,by decide +kernel,rfl,by decide +kernel,by decide +kernel⟩
structure Zs(mg:Str->Option Value):Prop where
 bool:mg "bool"=none
 int:mg "int"=none
 isinstance:mg "isinstance"=none
 len:mg "len"=none
 list:mg "list"=none
 min:mg "min"=none
 range:mg "range"=none
 set:mg "set"=none
 sorted:mg "sorted"=none
 str:mg "str"=none
 tuple:mg "tuple"=none
def isaM(i j:Nat):Bool:=([(0,0)]:List (Nat×Nat)).contains (i,j)
structure Tx(K:PySem.W.Frag)(mg:Str->Option Value)(CT:Addr)(cs:Nat->Addr)(ob:Nat->Addr):Prop where
 mg_Makes:mg "Makes"=some (.ref (ob 0))
 ob_:∀ i,i < 1->ObC K (ob i) ["table_by_number","elders_by_number","count"]
 isa:∀ i j,i < 1->j < 1->PySem.W.kitOne K (.ref (ob i)) (.ref (ob j))=some (isaM i j)
 top:XTop K mg "TableError" CT
 mg_NoMake:mg "NoMake"=some (.ref (cs 0))
 mg_BadElders:mg "BadElders"=some (.ref (cs 1))
 x_BadElders:ExcC K (cs 1) (.ref CT::PySem.W.bmV) PySem.W.bmV "ValueError.__new__"
 cl:∀ i,i < 2->PySem.W.XCl K (cs i) CT
 no:∀ i,i < 2->∀ f∈(["number"]:List Str),NoAttr K (cs i) f
 tab:∀ i j,i < 2->j < 2->PySem.W.kitOne K (.ref (cs i)) (.ref (cs j))=some (decide (i=j))
 tv:∀ i,i < 2->PySem.W.kitOne K (.ref (cs i)) (.type "ValueError")=some true
seal PE PT PW PA PS PSs PI PG PIfs PGs PO in
theorem ok_NoMake_init{CT:Addr}{cs:Nat->Addr}{ob:Nat->Addr}{f:Addr}{fd:FuncData}(Z:Zs mg)(T:Tx K mg CT cs ob)(F:Fun K "__init__" "NoMake.__init__" s_NoMake_init f fd):FnOk P w K mg base CX0 1 f fd ["self","number"] (sp_X (cs 0) ["number"]):=by
 refine F.ok sc_NoMake_init (fun vs H Q E h=>?_) (fun cdv A outer s H vs Q E hr h=>?_)
 ·obtain⟨e,ws,rfl,hl,_⟩:=h;match ws,hl with | [_],_=>rfl
 obtain⟨e,ws,rfl,hl,he,q⟩:=h
 match ws,hl with
 | [w0],_ =>
 refine⟨_,(@pss_cons _ _ _ _ _ (ps_expr (pe_binit T.top rfl (pa_c (pv 0) (pa_c (pv 1) pa_nil))))
  (pss_one (ps_xf0 CT rfl (pv 0) (pv 1) rfl))),?_⟩
 refine rd_start (σ:=[some (.ref e),some w0]) rfl ?_
 walk_at "rd"
 simp only[tBI,sXF0,sXF1]
 walk_at "rd"
 exact⟨e,cs 0,[w0],⟨rfl,rfl⟩,by show 1<=1000;decide,he,T.cl 0 (by decide),cs 0,he,T.cl 0 (by decide),(T.no 0 (by decide) _ (by decide)),fun d hd hne=>q d hd hne⟩
section
variable{K:PySem.W.Frag}
theorem kit_int_tup:PySem.W.kitOne K (.type "int") (.type "tuple")=some false:=by rfl
theorem kit_str_tup:PySem.W.kitOne K (.type "str") (.type "tuple")=some false:=by rfl
theorem kit_non_tup:PySem.W.kitOne K (.type "NoneType") (.type "tuple")=some false:=by rfl
theorem kit_bl_tup:PySem.W.kitOne K (.type "bool") (.type "tuple")=some false:=by rfl
theorem kit_lst_tup:PySem.W.kitOne K (.type "list") (.type "tuple")=some false:=by rfl
theorem kit_dct_tup:PySem.W.kitOne K (.type "dict") (.type "tuple")=some false:=by rfl
theorem kit_tup_tup:PySem.W.kitOne K (.type "tuple") (.type "tuple")=some true:=by rfl
theorem kit_tup_str:PySem.W.kitOne K (.type "tuple") (.type "str")=some false:=by rfl
theorem kit_bl_str:PySem.W.kitOne K (.type "bool") (.type "str")=some false:=by rfl
theorem kit_lst_str:PySem.W.kitOne K (.type "list") (.type "str")=some false:=by rfl
theorem kit_dct_str:PySem.W.kitOne K (.type "dict") (.type "str")=some false:=by rfl
theorem kit_tup_lst:PySem.W.kitOne K (.type "tuple") (.type "list")=some false:=by rfl
theorem kit_lst_lst:PySem.W.kitOne K (.type "list") (.type "list")=some true:=by rfl
theorem kit_non_bool:PySem.W.kitOne K (.type "NoneType") (.type "bool")=some false:=by rfl
theorem kit_str_bool:PySem.W.kitOne K (.type "str") (.type "bool")=some false:=by rfl
theorem kit_tup_bool:PySem.W.kitOne K (.type "tuple") (.type "bool")=some false:=by rfl
theorem kit_lst_bool:PySem.W.kitOne K (.type "list") (.type "bool")=some false:=by rfl
theorem kit_dct_bool:PySem.W.kitOne K (.type "dict") (.type "bool")=some false:=by rfl
theorem kit_non_int:PySem.W.kitOne K (.type "NoneType") (.type "int")=some false:=by rfl
theorem kit_tup_int:PySem.W.kitOne K (.type "tuple") (.type "int")=some false:=by rfl
theorem kit_lst_int:PySem.W.kitOne K (.type "list") (.type "int")=some false:=by rfl
theorem kit_dct_int:PySem.W.kitOne K (.type "dict") (.type "int")=some false:=by rfl
end
theorem one_sz(v:V):[v].length<=sizeLine:=show 1<=sizeLine by decide
theorem small_le{n:Nat}(h:n<=1000):n<=sizeLine:=Nat.le_of_lt (small1000 h)
theorem at0(x:V)(r:List V):atI (x::r) 0=some x:=atI_nat (j:=0) rfl
theorem at1(x y:V)(r:List V):atI (x::y::r) 1=some y:=atI_nat (j:=1) rfl
theorem mem_of_ix{P:V->Prop}{ys:List V}(py:∀ (i:Nat) y,ys[i]?=some y->P y):∀ v∈ys,P v:=fun v hv=>by
 obtain⟨i,hi,e⟩:=List.mem_iff_getElem.mp hv
 exact py i v (by rw[List.getElem?_eq_getElem hi,e])
theorem isTup_plain{K:PySem.W.Frag}{H:Hp}{Q:VK}{v:V}(p:plainV v)(q:Q (.bl false) H):rIsI K [v,.ty "tuple"] H Q:=by
 cases v with
 | non=>exact isI_of .non kit_non_tup q
 | int i=>exact isI_of (.int i) kit_int_tup q
 | str z=>exact isI_of (.str z) kit_str_tup q
 | _=>exact p.elim
def sp_rank_of(_:PySem.W.Frag):Sp:=fun vs H Q _=>∃ v,vs=[v]/\plainV v/\∀ p,H p=none->Q (.ref p) (upd H p (.tup (rk v)))
seal PE PT PW PA PS PSs PI PG PIfs PGs PO in
theorem ok_rank_of{CT:Addr}{cs:Nat->Addr}{ob:Nat->Addr}{f:Addr}{fd:FuncData}(Z:Zs mg)(T:Tx K mg CT cs ob)(F:Fun K "rank_of" "rank_of" s_rank_of f fd):FnOk P w K mg base CX0 1 f fd ["value"] (sp_rank_of K):=by
 refine F.ok sc_rank_of (fun vs H Q E h=>?_) (fun cdv A outer s H vs Q E hr h=>?_)
 ·obtain⟨v,rfl,_⟩:=h;rfl
 obtain⟨v,rfl,hv,q⟩:=h
 refine⟨_,(@pss_cons _ _ _ _ _ (ps_if (pt_cmpR op_isN (pv 0) pe_non (nomark _)) (pss_one (ps_ret (pe_tup (pa_c pe_int (pa_c pe_int pa_nil))))) pss_nil)
  (@pss_cons _ _ _ _ _ (ps_if (pt_val (pe_callB call_isinst rfl (Z.isinstance) bo_isinstance (pa_c (pv 0) (pa_c (pe_bltn rfl (Z.str) bo_str (v:=.ty "str") rfl) pa_nil))) (fun _=>rfl)) (pss_one (ps_ret (pe_tup (pa_c pe_int (pa_c (pv 0) pa_nil))))) pss_nil)
  (pss_one (ps_ret (pe_tup (pa_c pe_int (pa_c (pv 0) pa_nil))))))),?_⟩
 refine rd_start (σ:=[some v]) rfl ?_
 walk_at "rd"
 cases v with
 | non=>walk_at "rd";exact⟨by decide,q⟩
 | int n =>
  walk_at "rd"
  refine isI_of (.int n) kit_int_str ⟨_,rfl,?_⟩
  walk_at "rd"
  exact⟨by show 2<=sizeLine;decide,q⟩
 | str z =>
  walk_at "rd"
  refine isI_of (.str z) kit_str_str ⟨_,rfl,?_⟩
  walk_at "rd"
  exact⟨by show 2<=sizeLine;decide,q⟩
 | _=>exact hv.elim
def sp_before(_:PySem.W.Frag):Sp:=fun vs H Q _=>∃ a b,vs=[a,b]/\plainV a/\plainV b/\∀ H',Same H H'->Q (.bl (ltV a b)) H'
seal PE PT PW PA PS PSs PI PG PIfs PGs PO in
theorem ok_before{CT:Addr}{cs:Nat->Addr}{ob:Nat->Addr}{f:Addr}{fd:FuncData}(Z:Zs mg)(T:Tx K mg CT cs ob)(G_rank_of:Cal P w K mg base 1 "rank_of" ["value"] (sp_rank_of K))(F:Fun K "before" "before" s_before f fd):FnOk P w K mg base CX0 2 f fd ["one","other"] (sp_before K):=by
 refine F.ok sc_before (fun vs H Q E h=>?_) (fun cdv A outer s H vs Q E hr h=>?_)
 ·obtain⟨a,b,rfl,_⟩:=h;rfl
 obtain⟨a,b,rfl,ha,hb,q⟩:=h
 refine⟨_,(pss_one (ps_ret (pe_cmpR (op_ltV (hr.units0)) (pe_cal G_rank_of (k:=1) hr (by decide) rfl (pa_c (pv 0) pa_nil)) (pe_cal G_rank_of (k:=1) hr (by decide) rfl (pa_c (pv 1) pa_nil)) (nomark _)))),?_⟩
 refine rd_start (σ:=[some a,some b]) rfl ?_
 walk_at "rd"
 refine⟨a,rfl,ha,fun p hp=>?_⟩
 walk_at "rd"
 refine⟨b,rfl,hb,fun p2 hp2=>?_⟩
 walk_at "rd"
 exact⟨rk a,SqT.of (by rw[upd_ne (ne_of_none upd_same hp2)];exact upd_same),rk b,SqT.of upd_same,ltV a b,lex_rk ha hb,q _ ((same_upd hp _).trans (same_upd hp2 _))⟩
def sp_in_order(_:PySem.W.Frag):Sp:=fun vs H Q _=>∃ (a:Addr) (xs:List V),vs=[.ref a]/\H a=some (.lst xs)/\(∀ v∈xs,plainV v)/\xs.length < 64 /\
 ∀ (r:Addr) (H':Hp) (ys:List V),Same H H'->H r=none->H' r=some (.lst ys)->ys.length<=xs.length->Rise xs ys->Q (.ref r) H'
theorem key_rank{K:PySem.W.Frag}{H:Hp}{xs:List V}(h:∀ v∈xs,plainV v):KeyF K (sp_rank_of K) H xs rk ltV :=
 ⟨fun v _=>rk_hd v,fun v hv H2 _ R hR=>⟨v,rfl,h v hv,fun p hp=>hR p _ (same_upd hp _) (SqT.of upd_same)⟩,fun v hv u hu=>lex_rk (h v hv) (h u hu),swo h⟩
seal PE PT PW PA PS PSs PI PG PIfs PGs PO in
theorem ok_in_order{CT:Addr}{cs:Nat->Addr}{ob:Nat->Addr}{f:Addr}{fd:FuncData}(Z:Zs mg)(T:Tx K mg CT cs ob)(G_before:Cal P w K mg base 2 "before" ["one","other"] (sp_before K))(G_rank_of:Cal P w K mg base 1 "rank_of" ["value"] (sp_rank_of K))(F:Fun K "in_order" "in_order" s_in_order f fd):FnOk P w K mg base CX0 4 f fd ["values"] (sp_in_order K):=by
 refine F.ok sc_in_order (fun vs H Q E h=>?_) (fun cdv A outer s H vs Q E hr h=>?_)
 ·obtain⟨a,xs,rfl,_⟩:=h;rfl
 obtain⟨a,xs,rfl,ha,px,l64,q⟩:=h
 refine⟨_,(@pss_cons _ _ _ _ _ (ps_set (i:=1) sc_in_order.nd rfl (Or.inl rfl) (pe_lst pa_nil))
  (@pss_cons _ _ _ _ _ (ps_for PassesOwn.never rfl (pi_list (pe_sortedK G_rank_of (k:=3) hr (by decide) rfl (Z.sorted) rfl (pv 0))) (pg_name (i:=2) sc_in_order.nd rfl (Or.inl rfl)) (pss_one (ps_if (PW.pt (pw_or (pt_not (pt_truth (pv 1) (fun _=>rfl))) (pw_or1 (pt_val (pe_cal G_before (k:=3) hr (by decide) rfl (pa_c (pe_ix ix_list (pv 1) (pe_un un_neg pe_int) (fun _ _=>rfl)) (pa_c (pv 2) pa_nil))) (fun _=>rfl))))) (pss_one (ps_expr (pe_bm PySem.F.plainAttrs_list PySem.F.slot_list_append PySem.F.type_list_append mt_append (pv 1) (pa_c (pv 2) pa_nil)))) pss_nil)))
  (pss_one (ps_ret (pv 1))))),?_⟩
 refine rd_start (σ:=[some (.ref a),none,none]) rfl ?_
 walk_at "rd"
 refine⟨by decide,fun f hf=>?_⟩
 have hfa:a≠f:=ne_of_none ha hf
 refine⟨xs,SqL.of (by rw[upd_ne hfa];exact ha),l64,_,_,key_rank px,fun D H1 ys s1 hD0 hD hp so=>?_⟩
 have py:∀ v∈ys,plainV v:=fun v hv=>px v (hp.mem_iff.mp hv)
 have hfD:f≠D:=fun z=>by rw[<- z,upd_same]at hD0;cases hD0
 have sf:Same H H1:=(same_upd hf _).trans s1
 have ly:=hp.length_eq
 refine⟨⟨_,SqL.of hD⟩,foR_list ys (fun i σ' H'=>∃ (fs:List V) (x2:Option V),σ'=[some (.ref a),some (.ref f),x2]/\Same H H'/\H' D=some (.lst ys)/\H' f=some (.lst fs)/\Grow ys i fs) ?_ ?_ ?_ ?_⟩
 ·exact⟨[],_,rfl,sf,hD,s1 _ _ upd_same,Grow.start ys⟩
 ·rintro i σ' H' _ ⟨fs,x2,rfl,sm,h1,h2,g⟩
  exact SqL.of h1
 ·rintro i x σ' H' hx ⟨fs,x2,rfl,sm,h1,h2,g⟩
  have hi:i < ys.length:=(List.getElem?_eq_some_iff.mp hx).1
  have pf:∀ v∈fs,plainV v:=fun v hv=>py v (List.mem_of_mem_take ((g.mem v).mp hv))
  have pX:=py x (List.mem_of_getElem? hx)
  have lf:=g.len
  have app:∀ H2:Hp,Same H' H2->(∀ l,fs.getLast?=some l->ltV l x=true)->tyV K "list" (.ref f) H2/\∃ xs',H2 f=some (.lst xs')/\xs'.length < sizeLine/\Same H (upd H2 f (.lst (xs'++[x])))/\upd H2 f (.lst (xs'++[x])) D=some (.lst ys)/\∃ fs':List V,upd H2 f (.lst (xs'++[x])) f=some (.lst fs')/\Grow ys (i+1) fs':=fun H2 s2 hl =>
   ⟨.inl ⟨rfl,_,SqL.of (s2 _ _ h2)⟩,fs,s2 _ _ h2,small1000 (by omega),(sm.trans s2).updL hf _,by rw[upd_ne (Ne.symm hfD)];exact s2 _ _ h1,fs++[x],upd_same,g.put py so hx hl⟩
  walk_at "rd"
  refine⟨_,.inl ⟨fs,SqL.of h2,rfl⟩,?_⟩
  cases hemp:fs.isEmpty with
  | true =>
   rw[if_pos (by decide)]
   have e0:fs=[]:=List.isEmpty_iff.mp hemp
   exact app _ (Same.refl _) fun l hl=>by rw[e0]at hl;cases hl
  | false =>
   rw[if_neg (by simp)]
   obtain⟨l,hl⟩:∃ l,fs.getLast?=some l:=by
    cases q:fs.getLast? with
    | none=>rw[List.getLast?_eq_none_iff]at q;rw[q]at hemp;cases hemp
    | some l=>exact⟨l,rfl⟩
   obtain⟨fs',ef⟩:=List.getLast?_eq_some_iff.mp hl
   have pl:plainV l:=pf l (List.mem_of_getLast? hl)
   refine⟨fs,SqL.of h2,l,by rw[ef];exact atI_last _ _,l,x,rfl,pl,pX,fun H2 s2=>⟨_,rfl,?_⟩⟩
   cases hlt:ltV l x with
   | true =>
    rw[if_pos rfl]
    exact app _ s2 fun l' hl'=>by rw[hl]at hl';cases hl';exact hlt
   | false =>
    rw[if_neg Bool.false_ne_true]
    exact⟨sm.trans s2,s2 _ _ h1,fs,s2 _ _ h2,g.skip py so hx hl hlt⟩
 ·rintro σ' H' ⟨fs,x2,rfl,sm,h1,h2,g⟩
  walk_at "rd"
  have:=g.len
  exact q f H' fs sm hf h2 (by omega) (g.rise hp)
theorem sc_pair{v v':V}(h:v=.non\/∃ n,v=.int n)(h':v'=.non\/∃ n,v'=.int n):scal v v'=true:=by
 rcases h with rfl | ⟨n,rfl⟩ <;> rcases h' with rfl | ⟨n',rfl⟩ <;> rfl
theorem cutA(xs:List V)(k:Nat):cutV xs none (some (k:Int))=xs.take k:=by
 have e1:=HT.sIx_nat xs.length xs.length k
 have e2:HT.sIx xs.length 0 none=0:=rfl
 unfold cutV
 rw[e1,e2,List.drop_zero,Nat.sub_zero]
 rcases Nat.le_total k xs.length with h | h
 ·rw[Nat.min_eq_left h]
 ·rw[Nat.min_eq_right h,List.take_of_length_le (Nat.le_refl _),List.take_of_length_le h]
theorem cutB(xs:List V)(k:Nat):cutV xs (some (k:Int)) none=xs.drop k:=by
 have e1:=HT.sIx_nat xs.length 0 k
 have e2:HT.sIx xs.length xs.length none=xs.length:=rfl
 unfold cutV
 rw[e1,e2]
 rcases Nat.le_total k xs.length with h | h
 ·rw[Nat.min_eq_left h,List.take_of_length_le (by rw[List.length_drop];exact Nat.le_refl _)]
 ·rw[Nat.min_eq_right h,List.drop_of_length_le (Nat.le_refl _),List.drop_of_length_le h];simp
theorem paired_take{α β:Type}{F:α->β->Prop}:∀ {xs:List α} {us:List β} (n:Nat),Paired F xs us->Paired F (xs.take n) (us.take n)
 | _,_,0,_=>.nil
 | _,_,_+1,.nil=>.nil
 | _,_,n+1,.cons r t=>.cons r (paired_take n t)
theorem paired_drop{α β:Type}{F:α->β->Prop}:∀ {xs:List α} {us:List β} (n:Nat),Paired F xs us->Paired F (xs.drop n) (us.drop n)
 | _,_,0,r=>r
 | _,_,_+1,.nil=>.nil
 | _,_,n+1,.cons _ t=>paired_drop n t
theorem less_sub{α:Type}(xs:List α)(m:Nat):(xs.take m++xs.drop (m+1)).Sublist xs:=by
 have h:(xs.take m++xs.drop (m+1)).Sublist (xs.take m++xs.drop m):=by
  refine List.Sublist.append (List.Sublist.refl _) ?_
  rw[show xs.drop (m+1)=(xs.drop m).drop 1 by rw[List.drop_drop]]
  exact List.drop_sublist _ _
 rwa [List.take_append_drop]at h
def numF:Nat->List V->List (Key×V)
 | _,[]=>[]
 | i,x::r=>(.inl (i:Int),x)::numF (i+1) r
theorem numF_key:∀ {xs:List V} {i:Nat} {k:Key},k∈(numF i xs).map Prod.fst->∃ j:Nat,i<=j/\j < i+xs.length/\k=.inl (j:Int)
 | [],i,k,h=>by simp[numF]at h
 | x::r,i,k,h=>by
  rw[numF,List.map_cons,List.mem_cons]at h
  rcases h with h | h
  ·exact⟨i,Nat.le_refl _,by simp,h⟩
  ·obtain⟨j,h1,h2,h3⟩:=numF_key h
   exact⟨j,by omega,by rw[List.length_cons];omega,h3⟩
theorem numF_val:∀ (xs:List V) (i j:Nat),valV (numF i xs) (.inl ((i+j:Nat):Int))=xs[j]?
 | [],i,j=>by simp[numF,valV]
 | x::r,i,0=>by rw[numF,valV_pos (by rfl)];rfl
 | x::r,i,j+1=>by
  rw[numF,valV_neg (by intro z;have z:=Sum.inl.inj z;omega)]
  have:=numF_val r (i+1) j
  rw[show i+(j+1)=i+1+j by omega,this]
  simp
theorem numF_app:∀ (xs:List V) (i:Nat) (v:V),numF i (xs++[v])=numF i xs++[(.inl ((i+xs.length:Nat):Int),v)]
 | [],i,v=>rfl
 | x::r,i,v=>by
  rw[List.cons_append,numF,numF_app r (i+1) v,numF,List.cons_append,List.length_cons,show i+1+r.length=i+(r.length+1) by omega]
theorem numF_len:∀ (xs:List V) (i:Nat),(numF i xs).length=xs.length
 | [],i=>rfl
 | x::r,i=>by rw[numF,List.length_cons,numF_len r (i+1),List.length_cons]
theorem numF_put(xs:List V)(v:V):putK (numF 0 xs) (.inl (xs.length:Int)) v=numF 0 (xs++[v]):=by
 rw[numF_app,Nat.zero_add]
 refine putK_new fun h=>?_
 obtain⟨j,_,h2,h3⟩:=numF_key h
 injection h3 with h3
 omega
theorem numF_vs:∀ (xs:List V) (i:Nat),(numF i xs).map (fun p=>kV p.1)=(List.range' i xs.length).map fun(j:Nat)=>V.int j
 | [],i=>rfl
 | x::r,i=>by
  rw[numF,List.map_cons,numF_vs r (i+1),List.length_cons,List.range'_succ,List.map_cons];rfl
def mkF(d1 d2:Addr)(n:Nat):List (Str×V):=putF "count" (.int n) (putF "elders_by_number" (.ref d2) (putF "table_by_number" (.ref d1) []))
structure MkAt(ob:Nat->Addr)(H:Hp)(p d1 d2:Addr)(ts es:List V):Prop where
 obj:∃ dx,H p=some (.ins (ob 0) dx (mkF d1 d2 ts.length))
 tab:H d1=some (.dK (numF 0 ts))
 eld:H d2=some (.dK (numF 0 es))
 len:es.length=ts.length
 d12:d1≠d2
section
variable{ob:Nat->Addr}{H H':Hp}{p d1 d2:Addr}{ts es:List V}
theorem MkAt.pd1(h:MkAt ob H p d1 d2 ts es):p≠d1:=by
 obtain⟨dx,e⟩:=h.obj
 exact ne_of e h.tab (by intro z;cases z)
theorem MkAt.pd2(h:MkAt ob H p d1 d2 ts es):p≠d2:=by
 obtain⟨dx,e⟩:=h.obj
 exact ne_of e h.eld (by intro z;cases z)
theorem MkAt.x{S:List Addr}(h:MkAt ob H p d1 d2 ts es)(s:SameX S H H')(h0:p∉S)(h1:d1∉S)(h2:d2∉S):MkAt ob H' p d1 d2 ts es :=
 ⟨let ⟨dx,e⟩:=h.obj;⟨dx,s _ _ h0 e⟩,s _ _ h1 h.tab,s _ _ h2 h.eld,h.len,h.d12⟩
theorem MkAt.same(h:MkAt ob H p d1 d2 ts es)(s:Same H H'):MkAt ob H' p d1 d2 ts es :=
 ⟨let ⟨dx,e⟩:=h.obj;⟨dx,s _ _ e⟩,s _ _ h.tab,s _ _ h.eld,h.len,h.d12⟩
theorem MkAt.sameT(h:MkAt ob H p d1 d2 ts es)(s:SameX [p,d1,d2] H H'):SameT H H':=fun b xs e=>s b _ (fun z=>by
 obtain⟨dx,eo⟩:=h.obj
 rcases List.mem_cons.mp z with z | z
 ·rw[z,eo]at e;cases e
 rcases List.mem_cons.mp z with z | z
 ·rw[z,h.tab]at e;cases e
 ·rw[List.mem_singleton.mp z,h.eld]at e;cases e) e
end
def TbAt(H:Hp)(x:V)(zs:List Str):Prop:=∃ t e,x=.ref t/\H t=some (.tup [.ref e,.non])/\H e=some (.tup (zs.map V.str))
def ElT(H:Hp)(x:V)(ms:List Int):Prop:=∃ e,x=.ref e/\H e=some (.tup (ms.map V.int))
theorem TbAt.sameT{H H':Hp}{x:V}{zs:List Str}(h:TbAt H x zs)(s:SameT H H'):TbAt H' x zs:=let ⟨t,e,a,b,c⟩:=h;⟨t,e,a,s _ _ b,s _ _ c⟩
theorem ElT.sameT{H H':Hp}{x:V}{ms:List Int}(h:ElT H x ms)(s:SameT H H'):ElT H' x ms:=let ⟨e,a,b⟩:=h;⟨e,a,s _ _ b⟩
def sp_no_table(_:PySem.W.Frag):Sp:=fun vs H Q _=>vs=[]/\∀ t H',Same H H'->H t=none->TbAt H' (.ref t) []->Q (.ref t) H'
seal PE PT PW PA PS PSs PI PG PIfs PGs PO in
theorem ok_no_table{CT:Addr}{cs:Nat->Addr}{ob:Nat->Addr}{f:Addr}{fd:FuncData}(Z:Zs mg)(T:Tx K mg CT cs ob)(F:Fun K "no_table" "no_table" s_no_table f fd):FnOk P w K mg base CX0 1 f fd [] (sp_no_table K):=by
 refine F.ok sc_no_table (fun vs H Q E h=>?_) (fun cdv A outer s H vs Q E hr h=>?_)
 ·obtain⟨rfl,_⟩:=h;rfl
 obtain⟨rfl,q⟩:=h
 refine⟨_,(pss_one (ps_ret (pe_tup (pa_c (pe_tup pa_nil) (pa_c pe_non pa_nil))))),?_⟩
 refine rd_start (σ:=[]) rfl ?_
 walk_at "rd"
 refine⟨by decide,fun p hp=>⟨two_ok,fun p1 hp1=>?_⟩⟩
 have np:p1≠p:=fun z=>by rw[z,upd_same]at hp1;cases hp1
 refine q p1 _ ((same_upd hp _).trans (same_upd hp1 _)) (by rw[upd_ne np]at hp1;exact hp1) ⟨p1,p,rfl,upd_same,same_upd hp1 _ _ _ upd_same⟩
def sp_Makes_init(K:PySem.W.Frag)(ob:Nat->Addr):Sp:=fun vs H Q _=>∃ p dx,vs=[.ref p]/\H p=some (.ins (ob 0) dx [])/\∀ d1 d2 t e H' fs,H d1=none->H d2=none->Same (upd H p (.ins (ob 0) dx fs)) H'->MkAt ob H' p d1 d2 [t] [e]->TbAt H' t []->ElT H' e []->Q .non H'
seal PE PT PW PA PS PSs PI PG PIfs PGs PO in
theorem ok_Makes_init{CT:Addr}{cs:Nat->Addr}{ob:Nat->Addr}{f:Addr}{fd:FuncData}(Z:Zs mg)(T:Tx K mg CT cs ob)(G_no_table:Cal P w K mg base 1 "no_table" [] (sp_no_table K))(F:Fun K "__init__" "Makes.__init__" s_Makes_init f fd):FnOk P w K mg base CX0 2 f fd ["self"] (sp_Makes_init K ob):=by
 refine F.ok sc_Makes_init (fun vs H Q E h=>?_) (fun cdv A outer s H vs Q E hr h=>?_)
 ·obtain⟨a,dx,rfl,_⟩:=h;rfl
 obtain⟨a,dx,rfl,ha,q⟩:=h
 refine⟨_,(@pss_cons _ _ _ _ _ (ps_fld (pv 0) (pe_disp1 pe_int (pe_cal0 G_no_table (k:=1) hr (by decide) rfl)) rfl)
  (@pss_cons _ _ _ _ _ (ps_fld (pv 0) (pe_disp1 pe_int (pe_tup pa_nil)) rfl)
  (pss_one (ps_fld (pv 0) pe_int rfl)))),?_⟩
 refine rd_start (σ:=[some (.ref a)]) rfl ?_
 simp only[tSeq,sFld,tDisp,tPairs]
 walk_at "rd"
 have c:=T.ob_ 0 (by decide)
 intro p hp
 have pa:a≠p:=fun z=>by rw[<- z,ha]at hp;cases hp
 refine⟨rfl,fun t H2 s2 ht hT=>⟨s2 _ _ upd_same,[(.inl 0,.ref t)],rfl,show 1<=15 by decide,?_⟩⟩
 have ha2:H2 a=some (.ins (ob 0) dx []):=s2 _ _ (by rw[upd_ne pa];exact ha)
 have hp2:H2 p=some (.dK []):=s2 _ _ upd_same
 have nH:∀ b,H2 b=none->H b=none/\b≠p/\b≠a:=fun b hb=>by
  have n1:b≠p:=fun z=>by rw[z,hp2]at hb;cases hb
  refine⟨?_,n1,fun z=>by rw[z,ha2]at hb;cases hb⟩
  cases e:H b with
  | none=>rfl
  | some o =>
   have:=s2 b o (by rw[upd_ne n1];exact e)
   rw[this]at hb;cases hb
 refine⟨ob 0,dx,[],by rw[upd_ne pa];exact ha2,c.cl,c.no _ (by decide),by decide,fun p1 hp1=>⟨by decide,fun p2 hq2=>?_⟩⟩
 have n1a:p1≠a:=fun z=>by rw[z,upd_same]at hp1;cases hp1
 rw[upd_ne n1a]at hp1
 have n1p:p1≠p:=fun z=>by rw[z,upd_same]at hp1;cases hp1
 rw[upd_ne n1p]at hp1
 have n21:p2≠p1:=fun z=>by rw[z,upd_same]at hq2;cases hq2
 rw[upd_ne n21]at hq2
 have n2a:p2≠a:=fun z=>by rw[z,upd_same]at hq2;cases hq2
 rw[upd_ne n2a]at hq2
 have n2p:p2≠p:=fun z=>by rw[z,upd_same]at hq2;cases hq2
 rw[upd_ne n2p]at hq2
 refine⟨by rw[upd_ne (Ne.symm n21)];exact upd_same,[(.inl 0,.ref p2)],rfl,show 1<=15 by decide,ob 0,dx,putF "table_by_number" (.ref p) [],by rw[upd_ne (Ne.symm n1a),upd_ne (Ne.symm n2a),upd_ne (Ne.symm n1a)];exact upd_same,c.cl,c.no _ (by decide),(show 1 < 1000 by decide),ob 0,dx,putF "elders_by_number" (.ref p1) (putF "table_by_number" (.ref p) []),upd_same,c.cl,c.no _ (by decide),(show 2 < 1000 by decide),?_⟩
 rw[upd_upd]
 have F_:∀ o1 o2 o3 o4 o5 o6:HO,∀ b,b≠a->b≠p->b≠p1->b≠p2->upd (upd (upd (upd (upd (upd H2 p o1) a o2) p1 o3) p2 o4) p1 o5) a o6 b=H2 b:=fun o1 o2 o3 o4 o5 o6 b h1 h2 h3 h4=>by
  rw[upd_ne h1,upd_ne h3,upd_ne h4,upd_ne h3,upd_ne h1,upd_ne h2]
 refine q p p1 (.ref t) (.ref p2) _ (mkF p p1 1) hp (nH p1 hp1).1 (fun b o hb=>?_) ⟨⟨dx,upd_same⟩,?_,?_,rfl,Ne.symm n1p⟩ (hT.sameT fun b xs e=>?_) ⟨p2,rfl,?_⟩
 ·by_cases e:b=a
  ·rw[e,upd_same]at hb ⊢;exact hb
  ·rw[upd_ne e]at hb
   rw[F_ _ _ _ _ _ _ b e (ne_of_none hb hp) (ne_of_none hb (nH p1 hp1).1) (ne_of_none hb (nH p2 hq2).1)]
   exact s2 _ _ (by rw[upd_ne (ne_of_none hb hp)];exact hb)
 ·rw[upd_ne (Ne.symm pa),upd_ne (Ne.symm n1p),upd_ne (Ne.symm n2p),upd_ne (Ne.symm n1p),upd_ne (Ne.symm pa)];exact upd_same
 ·rw[upd_ne n1a];exact upd_same
 ·rw[F_ _ _ _ _ _ _ b (fun z=>by rw[z,ha2]at e;cases e) (fun z=>by rw[z,hp2]at e;cases e) (ne_of_none e hp1) (ne_of_none e hq2)];exact e
 ·rw[upd_ne n2a,upd_ne n21];exact upd_same
def sp_Makes_ask(_:PySem.W.Frag)(cs ob:Nat->Addr):Sp:=fun vs H Q _=>∃ p d1 d2 ts es,∃ n:Nat,vs=[.ref p,.int n]/\MkAt ob H p d1 d2 ts es/\n < ts.length/\Q .non H
seal PE PT PW PA PS PSs PI PG PIfs PGs PO in
theorem ok_Makes_ask{CT:Addr}{cs:Nat->Addr}{ob:Nat->Addr}{f:Addr}{fd:FuncData}(Z:Zs mg)(T:Tx K mg CT cs ob)(K_NoMake:MkX P w K mg base 1 "NoMake" (cs 0) CT ["number"])(F:Fun K "ask" "Makes.ask" s_Makes_ask f fd):FnOk P w K mg base (CX1 P w) 3 f fd ["self","number"] (sp_Makes_ask K cs ob):=by
 refine F.ok1 sc_Makes_ask (fun vs H Q E h=>?_) (fun cdv A outer s H vs Q E hr h=>?_)
 ·obtain⟨p,d1,d2,ts,es,n,rfl,_⟩:=h;rfl
 obtain⟨p,d1,d2,ts,es,n,rfl,hM,hn,q⟩:=h
 refine⟨_,(pss_one (ps_if (pt_cmp (pc_dnotin hr.u1 (pv 1) (pe_fld (pv 0) rfl))) (pss_one (ps_raiseX throws0 rfl rfl rfl K_NoMake (k:=2) hr (by decide) (pa_c (pv 1) pa_nil))) pss_nil)),?_⟩
 refine rd_start (σ:=[some (.ref p),some (.int n)]) rfl ?_
 walk_at "rd"
 obtain⟨dx,ho⟩:=hM.obj
 refine rd_fld (T.ob_ 0 (by decide)) (by decide) rfl ho rfl ⟨d1,rfl,_,DGet.k (k:=.inl (n:Int)) hM.tab,?_⟩
 have e:=numF_val ts 0 n
 rw[Nat.zero_add]at e
 rw[e,List.getElem?_eq_getElem hn,if_neg (by simp)]
 exact q
def sp_Makes_elders(_:PySem.W.Frag)(cs ob:Nat->Addr):Sp:=fun vs H Q _=>∃ p d1 d2 ts es,∃ n:Nat,∃ v,vs=[.ref p,.int n]/\MkAt ob H p d1 d2 ts es/\es[n]?=some v/\Q v H
seal PE PT PW PA PS PSs PI PG PIfs PGs PO in
theorem ok_Makes_elders{CT:Addr}{cs:Nat->Addr}{ob:Nat->Addr}{f:Addr}{fd:FuncData}(Z:Zs mg)(T:Tx K mg CT cs ob)(M_Makes_ask:MeV P w K mg base 3 (ob 0) "ask" (sp_Makes_ask K cs ob))(F:Fun K "elders" "Makes.elders" s_Makes_elders f fd):FnOk P w K mg base (CX1 P w) 4 f fd ["self","number"] (sp_Makes_elders K cs ob):=by
 refine F.ok1 sc_Makes_elders (fun vs H Q E h=>?_) (fun cdv A outer s H vs Q E hr h=>?_)
 ·obtain⟨p,d1,d2,ts,es,n,v,rfl,_⟩:=h;rfl
 obtain⟨p,d1,d2,ts,es,n,v,rfl,hM,hn,q⟩:=h
 refine⟨_,(@pss_cons _ _ _ _ _ (ps_expr (PE1.pe (pe1_methV (k:=3) (pv 0) hr rfl (pa_c (pv 1) pa_nil)) throws0))
  (pss_one (ps_ret (pe_dget hr.u1 (pe_fld (pv 0) rfl) (pv 1) (fun _ _=>rfl))))),?_⟩
 refine rd_start (σ:=[some (.ref p),some (.int n)]) rfl ?_
 walk_at "rd"
 obtain⟨dx,ho⟩:=hM.obj
 have c:=T.ob_ 0 (by decide)
 have hlt:n < ts.length:=by rw[<- hM.len];exact(List.getElem?_eq_some_iff.mp hn).1
 have e:=numF_val es 0 n
 rw[Nat.zero_add,hn]at e
 refine rd_methV rfl ho rfl c.cl M_Makes_ask ⟨_,rfl,p,d1,d2,ts,es,n,rfl,hM,hlt,?_⟩
 exact rd_fld c (by decide) rfl ho rfl ⟨d2,rfl,v,by rw[<- e];exact DGet.k (k:=.inl (n:Int)) hM.eld,q⟩
def sp_Makes_table(_:PySem.W.Frag)(cs ob:Nat->Addr):Sp:=fun vs H Q _=>∃ p d1 d2 ts es,∃ n:Nat,∃ v,vs=[.ref p,.int n]/\MkAt ob H p d1 d2 ts es/\ts[n]?=some v/\Q v H
seal PE PT PW PA PS PSs PI PG PIfs PGs PO in
theorem ok_Makes_table{CT:Addr}{cs:Nat->Addr}{ob:Nat->Addr}{f:Addr}{fd:FuncData}(Z:Zs mg)(T:Tx K mg CT cs ob)(M_Makes_ask:MeV P w K mg base 3 (ob 0) "ask" (sp_Makes_ask K cs ob))(F:Fun K "table" "Makes.table" s_Makes_table f fd):FnOk P w K mg base (CX1 P w) 4 f fd ["self","number"] (sp_Makes_table K cs ob):=by
 refine F.ok1 sc_Makes_table (fun vs H Q E h=>?_) (fun cdv A outer s H vs Q E hr h=>?_)
 ·obtain⟨p,d1,d2,ts,es,n,v,rfl,_⟩:=h;rfl
 obtain⟨p,d1,d2,ts,es,n,v,rfl,hM,hn,q⟩:=h
 refine⟨_,(@pss_cons _ _ _ _ _ (ps_expr (PE1.pe (pe1_methV (k:=3) (pv 0) hr rfl (pa_c (pv 1) pa_nil)) throws0))
  (pss_one (ps_ret (pe_dget hr.u1 (pe_fld (pv 0) rfl) (pv 1) (fun _ _=>rfl))))),?_⟩
 refine rd_start (σ:=[some (.ref p),some (.int n)]) rfl ?_
 walk_at "rd"
 obtain⟨dx,ho⟩:=hM.obj
 have c:=T.ob_ 0 (by decide)
 have hlt:n < ts.length:=(List.getElem?_eq_some_iff.mp hn).1
 have e:=numF_val ts 0 n
 rw[Nat.zero_add,hn]at e
 refine rd_methV rfl ho rfl c.cl M_Makes_ask ⟨_,rfl,p,d1,d2,ts,es,n,rfl,hM,hlt,?_⟩
 exact rd_fld c (by decide) rfl ho rfl ⟨d1,rfl,v,by rw[<- e];exact DGet.k (k:=.inl (n:Int)) hM.tab,q⟩
def sp_Makes_numbers(_:PySem.W.Frag)(cs ob:Nat->Addr):Sp:=fun vs H Q _=>∃ p d1 d2 ts es,vs=[.ref p]/\MkAt ob H p d1 d2 ts es/\ts.length < 1000/\∀ r H',Same H H'->H r=none->H' r=some (.lst (countV ts.length))->Q (.ref r) H'
seal PE PT PW PA PS PSs PI PG PIfs PGs PO in
theorem ok_Makes_numbers{CT:Addr}{cs:Nat->Addr}{ob:Nat->Addr}{f:Addr}{fd:FuncData}(Z:Zs mg)(T:Tx K mg CT cs ob)(F:Fun K "numbers" "Makes.numbers" s_Makes_numbers f fd):FnOk P w K mg base (CX1 P w) 1 f fd ["self"] (sp_Makes_numbers K cs ob):=by
 refine F.ok1 sc_Makes_numbers (fun vs H Q E h=>?_) (fun cdv A outer s H vs Q E hr h=>?_)
 ·obtain⟨p,d1,d2,ts,es,rfl,_⟩:=h;rfl
 obtain⟨p,d1,d2,ts,es,rfl,hM,few,q⟩:=h
 refine⟨_,(pss_one (ps_ret (pe_callB (call_sortedD hr.hd) rfl (Z.sorted) bo_sorted (pa_c (pe_fld (pv 0) rfl) pa_nil)))),?_⟩
 refine rd_start (σ:=[some (.ref p)]) rfl ?_
 walk_at "rd"
 obtain⟨dx,ho⟩:=hM.obj
 have em:(numF 0 ts).map (fun p=>kV p.1)=((List.range ts.length).map fun(i:Nat)=>(i:Int)).map V.int:=by rw[numF_vs,<- List.range_eq_range',List.map_map];rfl
 refine rd_fld (T.ob_ 0 (by decide)) (by decide) rfl ho rfl ⟨d1,_,ltP,rfl,hM.tab,by rw[numF_len];omega,by rw[em];exact one_ints (fun v hv=>by obtain⟨n,_,e⟩:=List.mem_map.mp hv;exact⟨n,e.symm⟩),fun D H' ys s hD hy pm pw=>?_⟩
 rw[em]at pm
 obtain⟨ms,rfl,pm',pw'⟩:=sortedI pm pw
 have e:=perm_sorted pm' pw' (by
  rw[List.pairwise_map]
  exact List.Pairwise.imp (fun {a b} h=>by omega) List.pairwise_lt_range)
 subst e
 refine q D H' s hD (by rw[hy,List.map_map];rfl)
def sp_Makes_dealt(_:PySem.W.Frag)(cs ob:Nat->Addr):Sp:=fun vs H Q _=>∃ p d1 d2 ts es,vs=[.ref p]/\MkAt ob H p d1 d2 ts es/\Q (.int (ts.length:Nat)) H
seal PE PT PW PA PS PSs PI PG PIfs PGs PO in
theorem ok_Makes_dealt{CT:Addr}{cs:Nat->Addr}{ob:Nat->Addr}{f:Addr}{fd:FuncData}(Z:Zs mg)(T:Tx K mg CT cs ob)(F:Fun K "dealt" "Makes.dealt" s_Makes_dealt f fd):FnOk P w K mg base (CX1 P w) 1 f fd ["self"] (sp_Makes_dealt K cs ob):=by
 refine F.ok1 sc_Makes_dealt (fun vs H Q E h=>?_) (fun cdv A outer s H vs Q E hr h=>?_)
 ·obtain⟨p,d1,d2,ts,es,rfl,_⟩:=h;rfl
 obtain⟨p,d1,d2,ts,es,rfl,hM,q⟩:=h
 refine⟨_,(pss_one (ps_ret (pe_fld (pv 0) rfl))),?_⟩
 refine rd_start (σ:=[some (.ref p)]) rfl ?_
 walk_at "rd"
 obtain⟨dx,ho⟩:=hM.obj
 exact rd_fld (T.ob_ 0 (by decide)) (by decide) rfl ho rfl q
theorem nats_of{P:Nat->Prop}:∀ {ys:List V},(∀ v∈ys,∃ i:Nat,P i/\v=V.int i)->∃ ks:List Nat,ys=ks.map (fun(i:Nat)=>V.int i)/\∀ k∈ks,P k
 | [],_=>⟨[],rfl,fun k h=>nomatch h⟩
 | y::r,h=>by
  obtain⟨i,hi,rfl⟩:=h y List.mem_cons_self
  obtain⟨ks,e,hk⟩:=nats_of fun v hv=>h v (List.mem_cons_of_mem _ hv)
  exact⟨i::ks,by rw[e];rfl,fun k hk'=>by
   rcases List.mem_cons.mp hk' with z | z
   ·rw[z];exact hi
   ·exact hk k z⟩
theorem one_two{ns ks:List Nat}{a b:Nat}(ri:Rise (ns.map fun(i:Nat)=>V.int i) (ks.map fun(i:Nat)=>V.int i))(ne:ns≠[])(two:∀ x∈ns,x=a\/x=b):ks.length=1\/ks.length=2:=by
 have up:ks.Pairwise (· < ·):=List.Pairwise.imp (fun {x y} h=>by
  rw[lt_ii,decide_eq_true_eq]at h;omega) (List.pairwise_map.mp ri.up)
 have inn:∀ k∈ks,k=a\/k=b:=fun k hk=>by
  obtain⟨i,hi,e⟩:=List.mem_map.mp ((ri.mem (.int k)).mp (List.mem_map.mpr ⟨k,hk,rfl⟩))
  injection e with e
  have:i=k:=by omega
  rw[<- this];exact two i hi
 match ks,up,inn with
 | [],_,_ =>
  exfalso
  cases ns with
  | nil=>exact ne rfl
  | cons x r =>
   have:=(ri.mem (.int x)).mpr (List.mem_map.mpr ⟨x,List.mem_cons_self,rfl⟩)
   cases this
 | [x],_,_=>exact .inl rfl
 | [x,y],_,_=>exact .inr rfl
 | x::y::z::r,up,inn =>
  exfalso
  have h1:=List.pairwise_cons.mp up
  have h2:=List.pairwise_cons.mp h1.2
  have xy:=h1.1 y (by simp)
  have yz:=h2.1 z (by simp)
  have q1:=inn x (by simp)
  have q2:=inn y (by simp)
  have q3:=inn z (by simp)
  omega
def sp_Makes_made(_:PySem.W.Frag)(cs ob:Nat->Addr):Sp:=fun vs H Q _=>∃ p d1 d2 ts es l,∃ (ns:List Nat),∃ (a b:Nat),∃ tv,vs=[.ref p,.ref l,tv]/\MkAt ob H p d1 d2 ts es/\ts.length < 100/\H l=some (.lst (ns.map fun(i:Nat)=>V.int i))/\ns≠[]/\ns.length < 10/\(∀ x∈ns,x=a\/x=b)/\(∀ x∈ns,x < ts.length) /\
 ∀ H' e ms,SameX [p,d1,d2] H H'->Rise (ns.map fun(i:Nat)=>V.int i) (ms.map V.int)->ElT H' e ms->MkAt ob H' p d1 d2 (ts++[tv]) (es++[e])->Q (.int (ts.length:Nat)) H'
seal PE PT PW PA PS PSs PI PG PIfs PGs PO in
theorem ok_Makes_made{CT:Addr}{cs:Nat->Addr}{ob:Nat->Addr}{f:Addr}{fd:FuncData}(Z:Zs mg)(T:Tx K mg CT cs ob)(G_in_order:Cal P w K mg base 4 "in_order" ["values"] (sp_in_order K))(M_Makes_ask:MeV P w K mg base 3 (ob 0) "ask" (sp_Makes_ask K cs ob))(F:Fun K "made" "Makes.made" s_Makes_made f fd):FnOk P w K mg base (CX1 P w) 5 f fd ["self","elders","table"] (sp_Makes_made K cs ob):=by
 refine F.ok1 sc_Makes_made (fun vs H Q E h=>?_) (fun cdv A outer s H vs Q E hr h=>?_)
 ·obtain⟨p,d1,d2,ts,es,l,ns,a,b,tv,rfl,_⟩:=h;rfl
 obtain⟨p,d1,d2,ts,es,l,ns,a,b,tv,rfl,hM,few,hl,ne,l10,two,lt,q⟩:=h
 refine⟨_,(@pss_cons _ _ _ _ _ (ps_set (i:=3) sc_Makes_made.nd rfl (Or.inl rfl) (pe_cal G_in_order (k:=4) hr (by decide) rfl (pa_c (pv 1) pa_nil)))
  (@pss_cons _ _ _ _ _ (ps_if (PW.pt (pw_and (pt_cmpR op_ne (pe_callB call_len_seq rfl (Z.len) bo_len (pa_c (pv 3) pa_nil)) pe_int (nomark _)) (pw_and1 (pt_cmpR op_ne (pe_callB call_len_seq rfl (Z.len) bo_len (pa_c (pv 3) pa_nil)) pe_int (nomark _))))) (pss_one (ps_raise0 throws0 rfl rfl rfl T.mg_BadElders T.x_BadElders PySem.F.excBase_ValueError)) pss_nil)
  (@pss_cons _ _ _ _ _ (ps_for own1 rfl (pi_list (pv 3)) (pg_name (i:=4) sc_Makes_made.nd rfl (Or.inl rfl)) (pss_one (ps_expr (PE1.pe (pe1_methV (k:=4) (pv 0) hr rfl (pa_c (pv 4) pa_nil)) throws0))))
  (@pss_cons _ _ _ _ _ (ps_set (i:=5) sc_Makes_made.nd rfl (Or.inl rfl) (pe_fld (pv 0) rfl))
  (@pss_cons _ _ _ _ _ (ps_dput hr.u1 (pe_fld (pv 0) rfl) (pv 5) (pv 2) rfl)
  (@pss_cons _ _ _ _ _ (ps_dput hr.u1 (pe_fld (pv 0) rfl) (pv 5) (pe_callTy call_tuple_of rfl (Z.tuple) bo_tuple (pa_c (pv 3) pa_nil)) rfl)
  (@pss_cons _ _ _ _ _ (ps_fld (pv 0) (pe_op op_add (pv 5) pe_int) rfl)
  (pss_one (ps_ret (pv 5)))))))))),?_⟩
 refine rd_start (σ:=[some (.ref p),some (.ref l),some tv,none,none,none]) rfl ?_
 obtain⟨dx,ho⟩:=hM.obj
 have c:=T.ob_ 0 (by decide)
 refine rd_gen1 fun R hR=>?_
 walk_at "rd"
 refine⟨l,_,rfl,hl,fun v hv=>?_,by rw[List.length_map];omega,fun r H1 ys s1 hr0 g1 ly ri=>hR _ _ ?_⟩
 ·obtain⟨i,hi,rfl⟩:=List.mem_map.mp hv
  have h1:=lt i hi
  show -(10 ^ 30:Int) < (i:Int)/\(i:Int) < 10 ^ 30
  omega
 clear hR
 have hM1:=hM.same s1
 have ho1:=s1 _ _ ho
 obtain⟨ks,rfl,kin⟩:=nats_of fun v hv=>let ⟨i,hi,e⟩:=List.mem_map.mp ((ri.mem v).mp hv);(⟨i,hi,e.symm⟩:∃ i:Nat,i∈ns/\v=V.int i)
 have lk:ks.length=1\/ks.length=2:=one_two ri ne two
 refine rd_gen1 fun R hR=>?_
 have nxt:R [some (.ref p),some (.ref l),some tv,some (.ref r),none,none] H1:=by
  refine hR _ _ (rd_gen1 fun R2 hR2=>?_)
  clear hR
  walk_at "rd"
  refine⟨⟨_,SqL.of g1⟩,foR_list (ks.map fun(i:Nat)=>V.int i) (fun i σ' H'=>∃ x4,σ'=[some (.ref p),some (.ref l),some tv,some (.ref r),x4,none]/\H'=H1) ⟨_,rfl,rfl⟩ ?_ ?_ ?_⟩
  ·rintro i σ' H' _ ⟨x4,rfl,rfl⟩
   exact SqL.of g1
  ·rintro i x σ' H' hx ⟨x4,rfl,rfl⟩
   rw[List.getElem?_map,Option.map_eq_some_iff]at hx
   obtain⟨k,hk,rfl⟩:=hx
   walk_at "rd"
   refine rd_methV rfl ho1 rfl c.cl (M_Makes_ask.mono (by decide)) ⟨_,rfl,p,d1,d2,ts,es,k,rfl,hM1,lt k (kin k (List.mem_of_getElem? hk)),rfl⟩
  ·rintro σ' H' ⟨x4,rfl,rfl⟩
   refine hR2 _ _ ?_
   clear hR2
   walk_at "rd"
   have n12:=hM1.d12
   have np1:=hM1.pd1
   have np2:=hM1.pd2
   have nr1:r≠d1:=ne_of g1 hM1.tab (by intro z;cases z)
   have le:=hM1.len
   refine rd_fld c (by decide) rfl ho1 rfl (rd_fld c (by decide) rfl ho1 rfl ⟨d1,rfl,_,DPut.k (k:=.inl (ts.length:Int)) hM1.tab (small1000 (by rw[numF_len];omega)),_,.inl ⟨SqL.of (by rw[upd_ne nr1];exact g1),fun t2 ht2=>?_⟩⟩)
   rw[numF_put]
   have nt1:t2≠d1:=fun z=>by rw[z,upd_same]at ht2;cases ht2
   have ht2':H' t2=none:=by rw[upd_ne nt1]at ht2;exact ht2
   have ntp:p≠t2:=ne_of_none ho1 ht2'
   have nt2:d2≠t2:=ne_of_none hM1.eld ht2'
   refine rd_fld c (by decide) rfl (show upd (upd H' d1 _) t2 _ p=_ by rw[upd_ne ntp,upd_ne np1];exact ho1) rfl ⟨d2,rfl,_,DPut.k (k:=.inl (ts.length:Int)) (show upd (upd H' d1 _) t2 _ d2=_ by rw[upd_ne nt2,upd_ne (Ne.symm n12)];exact hM1.eld) (small1000 (by rw[numF_len];omega)),?_⟩
   rw[<- le,numF_put]
   simp only[sFld]
   walk_at "rd"
   refine⟨ob 0,dx,mkF d1 d2 es.length,by rw[upd_ne np2,upd_ne ntp,upd_ne np1,le];exact ho1,c.cl,c.no _ (by decide),(show 3 < 1000 by decide),?_⟩
   rw[le]
   refine q _ (.ref t2) (ks.map fun(i:Nat)=>(i:Int)) ?_ (by rw[List.map_map];exact ri) ⟨t2,rfl,?_⟩ ⟨⟨dx,?_⟩,?_,?_,by rw[List.length_append,List.length_append,le];rfl,n12⟩
   ·have hs:SameX [p,d1,d2] H H':=s1.x _
    have hn:H t2=none:=by
     cases e:H t2 with
     | none=>rfl
     | some o=>rw[s1 _ _ e]at ht2';cases ht2'
    exact(((hs.upd (by simp)).updN hn).upd (by simp)).upd (by simp)
   ·rw[upd_ne (Ne.symm ntp),upd_ne (Ne.symm nt2),upd_same,List.map_map];rfl
   ·rw[upd_same,List.length_append];rfl
   ·rw[upd_ne (Ne.symm np1),upd_ne n12,upd_ne (Ne.symm nt1)];exact upd_same
   ·rw[upd_ne (Ne.symm np2)];exact upd_same
 clear hR
 walk_at "rd"
 refine⟨_,.inl (SqL.of g1),?_⟩
 rw[List.length_map]
 rcases lk with e | e
 ·rw[if_neg (by omega)]
  exact nxt
 ·rw[if_pos (by omega)]
  refine⟨_,.inl (SqL.of g1),?_⟩
  rw[List.length_map,if_neg (by omega)]
  exact nxt
theorem at_some{α:Type}{l:List α}{k:Int}(h0:0<=k)(h1:k < (l.length:Int)):∃ c,atI l k=some c:=by
 have hk:k.toNat < l.length:=by omega
 have ek:k=((k.toNat:Nat):Int):=by omega
 have h:=atI_nat (xs:=l) (j:=k.toNat) (List.getElem?_eq_getElem hk)
 rw[<- ek]at h
 exact⟨_,h⟩
def sp__law_whole(_:PySem.W.Frag):Sp:=fun vs H Q _=>∃ n:Int,vs=[.int n]/\Q (.bl true) H
seal PE PT PW PA PS PSs PI PG PIfs PGs PO in
theorem ok__law_whole{CT:Addr}{cs:Nat->Addr}{ob:Nat->Addr}{f:Addr}{fd:FuncData}(Z:Zs mg)(T:Tx K mg CT cs ob)(F:Fun K "_law_whole" "_law_whole" s__law_whole f fd):FnOk P w K mg base CX0 1 f fd ["_law_found"] (sp__law_whole K):=by
 refine F.ok sc__law_whole (fun vs H Q E h=>?_) (fun cdv A outer s H vs Q E hr h=>?_)
 ·obtain⟨n,rfl,_⟩:=h;rfl
 obtain⟨n,rfl,q⟩:=h
 refine⟨_,(pss_one (ps_ret (pe_and (pe_callB call_isinst rfl (Z.isinstance) bo_isinstance (pa_c (pv 0) (pa_c (pe_bltn rfl (Z.int) bo_int (v:=.ty "int") rfl) pa_nil))) (pe_one (pe_not (pe_callB call_isinst rfl (Z.isinstance) bo_isinstance (pa_c (pv 0) (pa_c (pe_bltn rfl (Z.bool) bo_bool (v:=.ty "bool") rfl) pa_nil)))))))),?_⟩
 refine rd_start (σ:=[some (.int n)]) rfl ?_
 walk_at "rd"
 exact isI_of (.int n) kit_int_int ⟨_,rfl,show ite _ _ _ from(if_pos rfl).mpr (isI_of (.int n) kit_int_bool ⟨_,rfl,q⟩)⟩
def sp__law_number(K:PySem.W.Frag):Sp:=fun vs H Q _=>∃ (a:Addr) (ns:List Int) (k:Nat),vs=[.ref a,.int k]/\SqL K H a (ns.map V.int)/\ns.length<=63/\k < 100/\∀ c:Int,0<=c->Q (.int c) H
seal PE PT PW PA PS PSs PI PG PIfs PGs PO in
theorem ok__law_number{CT:Addr}{cs:Nat->Addr}{ob:Nat->Addr}{f:Addr}{fd:FuncData}(Z:Zs mg)(T:Tx K mg CT cs ob)(F:Fun K "_law_number" "_law_number" s__law_number f fd):FnOk P w K mg base CX0 1 f fd ["_law_script","_law_k"] (sp__law_number K):=by
 refine F.ok sc__law_number (fun vs H Q E h=>?_) (fun cdv A outer s H vs Q E hr h=>?_)
 ·obtain⟨a,ns,k,rfl,_⟩:=h;rfl
 obtain⟨a,ns,k,rfl,hS,hl,hk,q⟩:=h
 refine⟨_,(@pss_cons _ _ _ _ _ (ps_if (pt_cmpR op_lt (pv 1) (pe_callB call_len_seq rfl (Z.len) bo_len (pa_c (pv 0) pa_nil)) (nomark _)) (pss_one (ps_ret (pe_op op_mod (pe_ix ix_list (pv 0) (pv 1) (fun _ _=>rfl)) pe_int))) pss_nil)
  (@pss_cons _ _ _ _ _ (ps_set (i:=2) sc__law_number.nd rfl (Or.inl rfl) (pe_op op_add (pe_op op_mulB (pv 1) pe_int) pe_int))
  (@pss_cons _ _ _ _ _ (ps_if (pt_cmpR op_gt (pe_callB call_len_seq rfl (Z.len) bo_len (pa_c (pv 0) pa_nil)) pe_int (nomark _)) (pss_one (ps_set (i:=2) sc__law_number.nd rfl (Or.inl rfl) (pe_op op_mod (pe_op op_add (pe_op op_mulB (pe_ix ix_list (pv 0) (pe_op op_mod (pe_op op_mulB (pv 1) pe_int) (pe_callB call_len_seq rfl (Z.len) bo_len (pa_c (pv 0) pa_nil))) (fun _ _=>rfl)) pe_int) (pe_op op_mulB (pv 1) pe_int)) pe_int))) pss_nil)
  (pss_one (ps_ret (pe_op op_mod (pe_op op_mulB (pv 2) (pv 2)) pe_int)))))),?_⟩
 refine rd_start (σ:=[some (.ref a),some (.int k),none]) rfl ?_
 walk_at "rd"
 refine⟨_,.inl hS,ite2 (fun h=>?_) fun _=>?_⟩
 ·rw[List.length_map]at h
  have hk:k < ns.length:=by omega
  exact⟨_,hS,.int ns[k],atI_nat (j:=k) (by simp[hk]),_,rfl,q _ (Int.emod_nonneg _ (by decide))⟩
 refine⟨by walk_at "side",_,.inl hS,ite2 (fun h=>?_) fun _=>?_⟩
 ·rw[List.length_map]at h
  have h0:(0:Int)<=(k:Int) * 7 % (ns.length:Int):=Int.emod_nonneg _ (by omega)
  have h1:(k:Int) * 7 % (ns.length:Int) < ns.length:=Int.emod_lt_of_pos _ h
  obtain⟨j,hj⟩:∃ j:Nat,(k:Int) * 7 % (ns.length:Int)=j:=⟨((k:Int) * 7 % (ns.length:Int)).toNat,by omega⟩
  have hjl:j < ns.length:=by omega
  refine⟨by walk_at "side",_,.inl hS,by rw[List.length_map];exact h,_,hS,.int ns[j],by rw[List.length_map,hj];exact atI_nat (j:=j) (by simp[hjl]),_,rfl,by walk_at "side",by walk_at "side",?_⟩
  have a0:=Int.emod_nonneg (ns[j] * 48271+(k:Int) * 7919) (show(2147483647:Int)≠0 by decide)
  have a1:=Int.emod_lt_of_pos (ns[j] * 48271+(k:Int) * 7919) (show(0:Int) < 2147483647 by decide)
  generalize (ns[j] * 48271+(k:Int) * 7919) % 2147483647=m at a0 a1
  exact⟨by walk_at "side",q _ (Int.emod_nonneg _ (by decide))⟩
 ·exact⟨by walk_at "side",q _ (Int.emod_nonneg _ (by decide))⟩
def sp__law_elders(_:PySem.W.Frag):Sp:=fun vs H Q _=>∃ (c:Int) (k:Nat),vs=[.int c,.int k]/\1<=k/\k < 100/\∀ r H' (ns:List Nat) (a b:Nat),Same H H'->H r=none->H' r=some (.lst (ns.map fun(i:Nat)=>V.int i))->ns≠[]->ns.length < 10->(∀ x∈ns,x=a\/x=b)->(∀ x∈ns,x < k)->Q (.ref r) H'
seal PE PT PW PA PS PSs PI PG PIfs PGs PO in
theorem ok__law_elders{CT:Addr}{cs:Nat->Addr}{ob:Nat->Addr}{f:Addr}{fd:FuncData}(Z:Zs mg)(T:Tx K mg CT cs ob)(F:Fun K "_law_elders" "_law_elders" s__law_elders f fd):FnOk P w K mg base CX0 1 f fd ["_law_number_here","_law_k"] (sp__law_elders K):=by
 refine F.ok sc__law_elders (fun vs H Q E h=>?_) (fun cdv A outer s H vs Q E hr h=>?_)
 ·obtain⟨c,k,rfl,_⟩:=h;rfl
 obtain⟨c,k,rfl,h1,h2,q⟩:=h
 refine⟨_,(@pss_cons _ _ _ _ _ (ps_set (i:=2) sc__law_elders.nd rfl (Or.inl rfl) (pe_op op_sub (pe_op op_sub (pv 1) pe_int) (pe_op op_mod (pv 0) (pe_callB (call_min2 rfl) rfl (Z.min) bo_min (pa_c (pv 1) (pa_c pe_int pa_nil))))))
  (@pss_cons _ _ _ _ _ (ps_set (i:=3) sc__law_elders.nd rfl (Or.inl rfl) (pe_op op_sub (pe_op op_sub (pv 1) pe_int) (pe_op op_mod (pe_op op_fdiv (pv 0) pe_int) (pe_callB (call_min2 rfl) rfl (Z.min) bo_min (pa_c (pv 1) (pa_c pe_int pa_nil))))))
  (@pss_cons _ _ _ _ _ (ps_if (pt_cmpR op_eq (pe_op op_mod (pe_op op_fdiv (pv 0) pe_int) pe_int) pe_int (nomark _)) (pss_one (ps_set (i:=3) sc__law_elders.nd rfl (Or.inl rfl) (pe_op op_mod (pe_op op_fdiv (pv 0) pe_int) (pv 1)))) pss_nil)
  (@pss_cons _ _ _ _ _ (ps_if (pt_cmpR op_eq (pe_op op_mod (pe_op op_fdiv (pv 0) pe_int) pe_int) pe_int (nomark _)) (pss_one (ps_ret (pe_slice sl_list (pe_lst (pa_c (pv 3) (pa_c (pv 2) (pa_c (pv 3) pa_nil)))) po_none (po_some (pe_op op_add pe_int (pe_op op_mod (pe_op op_fdiv (pv 0) pe_int) pe_int)))))) pss_nil)
  (@pss_cons _ _ _ _ _ (ps_if (pt_cmpR op_eq (pe_op op_mod (pe_op op_fdiv (pv 0) pe_int) pe_int) pe_int (nomark _)) (pss_one (ps_ret (pe_slice sl_list (pe_lst (pa_c (pv 2) (pa_c (pv 2) (pa_c (pv 2) pa_nil)))) po_none (po_some (pe_op op_add pe_int (pe_op op_mod (pe_op op_fdiv (pv 0) pe_int) pe_int)))))) pss_nil)
  (pss_one (ps_ret (pe_lst (pa_c (pv 2) (pa_c (pv 3) pa_nil)))))))))),?_⟩
 refine rd_start (σ:=[some (.int c),some (.int k),none,none]) rfl ?_
 refine rd_gen3 fun R hR=>?_
 have fin:∀ one other:Nat,one < k->other < k->R [some (.int c),some (.int k),some (.int one),some (.int other)] H:=by
  intro one other l1 l2
  refine hR _ _ ?_
  clear hR
  walk_at "rd"
  have cut:∀ (xs:List Nat) (m:Int) (a b:Nat),1<=m->0 < xs.length->xs.length<=3->(∀ x∈xs,x=a\/x=b)->(∀ x∈xs,x < k)->∀ p,H p=none->∀ p1,upd H p (.lst (xs.map fun(i:Nat)=>V.int i)) p1=none->Q (.ref p1) (upd (upd H p (.lst (xs.map fun(i:Nat)=>V.int i))) p1 (.lst (cutV (xs.map fun(i:Nat)=>V.int i) none (some m)))):=by
   intro xs m a b hm h0 h3 hab hlt p hp p1 hp1
   have np:p1≠p:=fun z=>by rw[z,upd_same]at hp1;cases hp1
   have hp1':H p1=none:=by rw[upd_ne np]at hp1;exact hp1
   obtain⟨j,hj⟩:∃ j:Nat,m=(j:Int):=⟨m.toNat,by omega⟩
   have ec:cutV (xs.map fun(i:Nat)=>V.int i) none (some m)=(xs.take (min j xs.length)).map fun(i:Nat)=>V.int i:=by
    unfold cutV
    rw[hj,HT.sIx_none,HT.sIx_nat,List.length_map,List.drop_zero,Nat.sub_zero,List.map_take]
   refine q p1 _ (xs.take (min j xs.length)) a b ((same_upd hp _).trans (same_upd hp1 _)) hp1' (by rw[upd_same,ec]) ?_ (by rw[List.length_take];omega) (fun x hx=>hab x (List.mem_of_mem_take hx)) fun x hx=>hlt x (List.mem_of_mem_take hx)
   intro z
   have:=congrArg List.length z
   rw[List.length_take,List.length_nil]at this
   omega
  refine⟨by walk_at "side",ite2 (fun _=>?_) fun _=>⟨by walk_at "side",ite2 (fun _=>?_) fun _=>?_⟩⟩
  ·refine⟨show 3<=sizeLine by decide,fun p hp=>⟨by walk_at "side",_,SqL.of upd_same,fun p1 hp1=>?_⟩⟩
   refine cut [other,one,other] _ one other (by omega) (by simp) (by simp) (fun x hx=>?_) (fun x hx=>?_) p hp p1 hp1
   ·simp at hx;omega
   ·simp at hx;omega
  ·refine⟨show 3<=sizeLine by decide,fun p hp=>⟨by walk_at "side",_,SqL.of upd_same,fun p1 hp1=>?_⟩⟩
   refine cut [one,one,one] _ one other (by omega) (by simp) (by simp) (fun x hx=>?_) (fun x hx=>?_) p hp p1 hp1
   ·simp at hx;omega
   ·simp at hx;omega
  ·refine⟨two_ok,fun p hp=>q p _ [one,other] one other (same_upd hp _) hp upd_same (by simp) (by simp) (fun x hx=>?_) fun x hx=>?_⟩
   ·simp at hx;omega
   ·simp at hx;omega
 clear hR
 walk_at "rd"
 have bnd:∀ (x m:Int),0 < m->m<=k->∃ o:Nat,(k:Int) - 1 - x % m=o/\o < k:=fun x m h0 hm=>by
  have a0:=Int.emod_nonneg x (show m≠0 by omega)
  have a1:=Int.emod_lt_of_pos x h0
  exact⟨((k:Int) - 1 - x % m).toNat,by omega,by omega⟩
 have h3:0 < (if (3:Int) < k then (3:Int) else k)/\(if (3:Int) < k then (3:Int) else k)<=k:=by split <;> omega
 have h5:0 < (if (5:Int) < k then (5:Int) else k)/\(if (5:Int) < k then (5:Int) else k)<=k:=by split <;> omega
 obtain⟨one,e1,l1⟩:=bnd c _ h3.1 h3.2
 obtain⟨other,e2,l2⟩:=bnd (c / 3) _ h5.1 h5.2
 refine⟨k,3,⟨rfl,rfl⟩,h3.1,by walk_at "side",k,5,⟨rfl,rfl⟩,h5.1,by walk_at "side",ite2 (fun _=>?_) fun _=>?_⟩
 ·have a0:=Int.emod_nonneg (c / 315) (show(k:Int)≠0 by omega)
  have a1:=Int.emod_lt_of_pos (c / 315) (show(0:Int) < k by omega)
  obtain⟨o,ho⟩:∃ o:Nat,c / 315 % (k:Int)=o:=⟨(c / 315 % (k:Int)).toNat,by omega⟩
  refine⟨by walk_at "side",by omega,?_⟩
  rw[e1,ho]
  exact fin one o l1 (by omega)
 ·rw[e1,e2]
  exact fin one other l1 l2
def sp__law_word(_:PySem.W.Frag):Sp:=fun vs H Q _=>∃ c:Int,vs=[.int c]/\∀ z:Str,z.length<=12->Q (.str z) H
seal PE PT PW PA PS PSs PI PG PIfs PGs PO in
theorem ok__law_word{CT:Addr}{cs:Nat->Addr}{ob:Nat->Addr}{f:Addr}{fd:FuncData}(Z:Zs mg)(T:Tx K mg CT cs ob)(F:Fun K "_law_word" "_law_word" s__law_word f fd):FnOk P w K mg base CX0 1 f fd ["_law_number_here"] (sp__law_word K):=by
 refine F.ok sc__law_word (fun vs H Q E h=>?_) (fun cdv A outer s H vs Q E hr h=>?_)
 ·obtain⟨c,rfl,_⟩:=h;rfl
 obtain⟨c,rfl,q⟩:=h
 refine⟨_,(@pss_cons _ _ _ _ _ (ps_set (i:=1) sc__law_word.nd rfl (Or.inl rfl) pe_str)
  (@pss_cons _ _ _ _ _ (ps_set (i:=2) sc__law_word.nd rfl (Or.inl rfl) pe_str)
  (@pss_cons _ _ _ _ _ (ps_for PassesOwn.never rfl (pi_range1 rfl (Z.range) (pa_c (pe_op op_add pe_int (pe_op op_mod (pv 0) pe_int)) pa_nil)) (pg_name (i:=3) sc__law_word.nd rfl (Or.inl rfl)) (pss_one (ps_set (i:=2) sc__law_word.nd rfl (Or.inl rfl) (pe_op op_add_str (pv 2) (pe_ix ix_str (pv 1) (pe_op op_mod (pe_op op_add (pe_op op_fdiv (pv 0) pe_int) (pe_op op_mulB (pv 3) (pe_op op_fdiv (pv 0) pe_int))) pe_int) (fun _ _=>rfl))))))
  (pss_one (ps_ret (pv 2)))))),?_⟩
 refine rd_start (σ:=[some (.int c),none,none,none]) rfl ?_
 walk_at "rd"
 refine⟨by omega,by omega,foR_range (fun i σ' H'=>∃ (z:Str) (x3:Option V),σ'=[some (.int c),some (.str (Str.ofString "abcdefghijklmnopqrstuvwxyz")),some (.str z),x3]/\H'=H/\z.length<=i) ⟨_,_,rfl,rfl,by decide⟩ ?_ ?_⟩
 ·rintro i σ' H' hi ⟨z,x3,rfl,rfl,hz⟩
  walk_at "rd"
  have e2:(Str.ofString "abcdefghijklmnopqrstuvwxyz").cps.toList.length=26:=by decide
  obtain⟨x,hx⟩:=at_some (l:=(Str.ofString "abcdefghijklmnopqrstuvwxyz").cps.toList) (k:=(c / 12+(0+(i:Int)) * (c / 7)) % 26) (Int.emod_nonneg _ (by decide)) (by rw[e2];exact Int.emod_lt_of_pos _ (by decide))
  have l1:(⟨#[x]⟩:Str).length=1:=rfl
  refine⟨by walk_at "side",by walk_at "side",by walk_at "side",by decide,x,hx,small_le (by rw[l1];omega),_,_,⟨rfl,rfl⟩,?_⟩
  rw[Str.length_append,l1]
  omega
 ·rintro σ' H' ⟨z,x3,rfl,rfl,hz⟩
  walk_at "rd"
  exact q z (by omega)
def sp__law_table(_:PySem.W.Frag):Sp:=fun vs H Q _=>∃ c:Int,vs=[.int c]/\∀ t H' zs,Same H H'->TbAt H' (.ref t) zs->Q (.ref t) H'
seal PE PT PW PA PS PSs PI PG PIfs PGs PO in
theorem ok__law_table{CT:Addr}{cs:Nat->Addr}{ob:Nat->Addr}{f:Addr}{fd:FuncData}(Z:Zs mg)(T:Tx K mg CT cs ob)(G__law_word:Cal P w K mg base 1 "_law_word" ["_law_number_here"] (sp__law_word K))(F:Fun K "_law_table" "_law_table" s__law_table f fd):FnOk P w K mg base CX0 2 f fd ["_law_number_here"] (sp__law_table K):=by
 refine F.ok sc__law_table (fun vs H Q E h=>?_) (fun cdv A outer s H vs Q E hr h=>?_)
 ·obtain⟨c,rfl,_⟩:=h;rfl
 obtain⟨c,rfl,q⟩:=h
 refine⟨_,(@pss_cons _ _ _ _ _ (ps_lcomp (j:=1) ["_law_number_here","_law_words"] rfl sc__law_table.nd rfl rfl (blkOk (N:=["_law_number_here","_law_words"]) (dsc:=defScope s__law_table) rfl rfl (by decide +kernel)) (pi_range1 rfl (Z.range) (pa_c (pe_op op_mod (pv 0) pe_int) pa_nil)) (fun _ _ _ _ _=>pif_nil) (fun _ _ _ _ _=>(pe_cal G__law_word (k:=1) hr (by decide) rfl (pa_c (pe_op op_mod (pe_op op_mulB (pe_op op_add (pv 1) (pv 0)) pe_int) pe_int) pa_nil))))
  (pss_one (ps_ret (pe_tup (pa_c (pe_callTy call_tuple_of rfl (Z.tuple) bo_tuple (pa_c (pe_sortset (pv 1) hr.hd rfl (Z.set) rfl (Z.sorted)) pa_nil)) (pa_c pe_non pa_nil)))))),?_⟩
 refine rd_start (σ:=[some (.int c),none]) rfl ?_
 walk_at "rd"
 refine⟨by omega,by omega,lcR_range (fun _ v=>∃ z:Str,v=.str z/\z.length<=12) (small_le (by omega)) (fun i H2 R hi s2 hR=>?_) fun D H2 ys hD s2 hy ly py=>?_⟩
 ·walk_at "rd"
  exact⟨by walk_at "side",_,rfl,fun z hz=>hR _ _ ⟨z,rfl,hz⟩ (Same.refl _)⟩
 obtain⟨zs,rfl⟩:=strs_of ys fun v hv=>let ⟨z,e,_⟩:=mem_of_ix py v hv;⟨z,e⟩
 rw[List.length_map]at ly
 simp only[tSortSet,tSetK]
 walk_at "rd"
 have ek:(zs.map fun z=>(Sum.inr z:Key)).map kV=zs.map V.str:=by rw[List.map_map];rfl
 refine⟨zs.map fun z=>.inr z,by rw[ek];exact SqL.of hy,by rw[List.length_map];omega,ltP,?_,by rw[List.length_map];omega,fun D2 H3 us s3 hD2 g3 pm pw=>?_⟩
 ·refine one_strs fun v hv=>?_
  obtain⟨k,hk,rfl⟩:=List.mem_map.mp hv
  obtain⟨z,_,rfl⟩:=List.mem_map.mp ((onceK_mem _ _).mp hk)
  exact⟨z,rfl⟩
 ·obtain⟨ws,rfl⟩:=strs_of us fun v hv=>by
   obtain⟨k,hk,rfl⟩:=List.mem_map.mp (pm.mem_iff.mp hv)
   obtain⟨z,_,rfl⟩:=List.mem_map.mp ((onceK_mem _ _).mp hk)
   exact⟨z,rfl⟩
  refine⟨_,.inl ⟨SqL.of g3,fun l hl=>⟨two_ok,fun t ht=>?_⟩⟩⟩
  exact q t _ ws (s2.trans (s3.trans ((same_upd hl _).trans (same_upd ht _)))) ⟨t,l,rfl,upd_same,same_upd ht _ _ _ upd_same⟩
abbrev KinP(H:Hp)(es kin:List V):Prop:=Paired (fun e k=>∃ ms,ElT H e ms/\ElT H k ms) es kin
abbrev TabP(H:Hp)(ts tab:List V):Prop:=Paired (fun t k=>∃ zs,TbAt H t zs/\TbAt H k zs) ts tab
theorem KinP.sameT{H H':Hp}{es kin:List V}(h:KinP H es kin)(s:SameT H H'):KinP H' es kin:=Paired.mapP h fun _ _ ⟨ms,a,b⟩=>⟨ms,a.sameT s,b.sameT s⟩
theorem TabP.sameT{H H':Hp}{es kin:List V}(h:TabP H es kin)(s:SameT H H'):TabP H' es kin:=Paired.mapP h fun _ _ ⟨ms,a,b⟩=>⟨ms,a.sameT s,b.sameT s⟩
theorem ElT.td{H:Hp}{v:V}{ms:List Int}(h:ElT H v ms):TD H 1 (.t ((ms.map V.int).map Dt.v)) v:=by
 obtain⟨e,rfl,he⟩:=h
 exact TD.ofT he (TDs.flat fun v hv=>by obtain⟨m,_,rfl⟩:=List.mem_map.mp hv;rfl)
theorem TbAt.td{H:Hp}{v:V}{zs:List Str}(h:TbAt H v zs):TD H 2 (.t [.t ((zs.map V.str).map Dt.v),.v .non]) v:=by
 obtain⟨t,e,rfl,ht,he⟩:=h
 exact TD.pair ht (TD.ofT he (TDs.flat fun v hv=>by obtain⟨m,_,rfl⟩:=List.mem_map.mp hv;rfl)) (.ofV rfl)
def sp__law_told(_:PySem.W.Frag)(cs ob:Nat->Addr):Sp:=fun vs H Q _=>∃ p d1 d2 ts es,∃ n:Nat,∃ ev tv ev' tv' ms zs,vs=[.ref p,.int n,ev',tv']/\MkAt ob H p d1 d2 ts es/\es[n]?=some ev/\ts[n]?=some tv/\ElT H ev ms/\ElT H ev' ms/\TbAt H tv zs/\TbAt H tv' zs/\Q (.bl true) H
seal PE PT PW PA PS PSs PI PG PIfs PGs PO in
theorem ok__law_told{CT:Addr}{cs:Nat->Addr}{ob:Nat->Addr}{f:Addr}{fd:FuncData}(Z:Zs mg)(T:Tx K mg CT cs ob)(G__law_whole:Cal P w K mg base 1 "_law_whole" ["_law_found"] (sp__law_whole K))(M_Makes_elders:MeV P w K mg base 4 (ob 0) "elders" (sp_Makes_elders K cs ob))(M_Makes_table:MeV P w K mg base 4 (ob 0) "table" (sp_Makes_table K cs ob))(F:Fun K "_law_told" "_law_told" s__law_told f fd):FnOk P w K mg base CX0 5 f fd ["_law_makes","_law_number_here","_law_elders_here","_law_table_here"] (sp__law_told K cs ob):=by
 refine F.ok sc__law_told (fun vs H Q E h=>?_) (fun cdv A outer s H vs Q E hr h=>?_)
 ·obtain⟨p,d1,d2,ts,es,n,ev,tv,ev',tv',ms,zs,rfl,_⟩:=h;rfl
 obtain⟨p,d1,d2,ts,es,n,ev,tv,ev',tv',ms,zs,rfl,hM,hev,htv,e1,e2,t1,t2,q⟩:=h
 refine⟨_,(@pss_cons _ _ _ _ _ (ps_set (i:=4) sc__law_told.nd rfl (Or.inl rfl) (PE1.pe (pe1_methV (k:=4) (pv 0) hr rfl (pa_c (pv 1) pa_nil)) throwsN))
  (@pss_cons _ _ _ _ _ (ps_if (PW.pt (pw_or (pt_not (pt_val (pe_callB call_isinst rfl (Z.isinstance) bo_isinstance (pa_c (pv 4) (pa_c (pe_bltn rfl (Z.tuple) bo_tuple (v:=.ty "tuple") rfl) pa_nil))) (fun _=>rfl))) (pw_or1 (pt_cmpR (op_neD (hr.units)) (pv 4) (pv 2) (nomark _))))) (pss_one (ps_ret pe_bl)) pss_nil)
  (@pss_cons _ _ _ _ _ (ps_for PassesOwn.never rfl (pi_tup (pv 4)) (pg_name (i:=5) sc__law_told.nd rfl (Or.inl rfl)) (pss_one (ps_if (pt_not (pt_val (pe_cal G__law_whole (k:=4) hr (by decide) rfl (pa_c (pv 5) pa_nil)) (fun _=>rfl))) (pss_one (ps_ret pe_bl)) pss_nil)))
  (pss_one (ps_ret (pe_cmpR (op_eqD (hr.units)) (PE1.pe (pe1_methV (k:=4) (pv 0) hr rfl (pa_c (pv 1) pa_nil)) throwsN) (pv 3) (nomark _))))))),?_⟩
 refine rd_start (σ:=[some (.ref p),some (.int n),some ev',some tv',none,none]) rfl ?_
 walk_at "rd"
 obtain⟨dx,ho⟩:=hM.obj
 have c:=T.ob_ 0 (by decide)
 obtain⟨ea,rfl,hea⟩:=id e1
 refine rd_methV rfl ho rfl c.cl (M_Makes_elders.mono (by decide)) ⟨_,rfl,p,d1,d2,ts,es,n,_,rfl,hM,hev,?_⟩
 refine isI_of (.tup hea) kit_tup_tup ⟨_,rfl,?_⟩
 rw[if_neg (by decide)]
 refine rD_same (n:=1) (by decide) e1.td.rep e2.td.rep ⟨_,rfl,?_⟩
 rw[if_neg (by decide)]
 refine⟨ea,rfl,⟨_,SqT.of hea⟩,foR_tup (ms.map V.int) (fun i σ' H'=>∃ x5,σ'=[some (.ref p),some (.int n),some ev',some tv',some (.ref ea),x5]/\H'=H) ⟨_,rfl,rfl⟩ ?_ ?_ ?_⟩
 ·rintro i σ' H' _ ⟨x5,rfl,rfl⟩
  exact SqT.of hea
 ·rintro i x σ' H' hx ⟨x5,rfl,rfl⟩
  rw[List.getElem?_map,Option.map_eq_some_iff]at hx
  obtain⟨k,hk,rfl⟩:=hx
  walk_at "rd"
  exact⟨k,rfl,_,rfl,by rw[if_neg (by decide)]⟩
 ·rintro σ' H' ⟨x5,rfl,rfl⟩
  walk_at "rd"
  refine rd_methV rfl ho rfl c.cl (M_Makes_table.mono (by decide)) ⟨_,rfl,p,d1,d2,ts,es,n,_,rfl,hM,htv,?_⟩
  exact rD_same (n:=2) (by decide) t1.td.rep t2.td.rep q
def sp__law_new(_:PySem.W.Frag)(cs ob:Nat->Addr):Sp:=fun vs H Q _=>∃ p d1 d2 ts es l,∃ (ns:List Nat),∃ (a b:Nat),∃ tv,vs=[.ref p,.ref l,tv,.int (ts.length:Nat)]/\MkAt ob H p d1 d2 ts es/\ts.length < 100/\H l=some (.lst (ns.map fun(i:Nat)=>V.int i))/\ns≠[]/\ns.length < 10/\(∀ x∈ns,x=a\/x=b)/\(∀ x∈ns,x < ts.length) /\
 ∀ H' e ms,SameX [p,d1,d2,l] H H'->Rise (ns.map fun(i:Nat)=>V.int i) (ms.map V.int)->ElT H' e ms->MkAt ob H' p d1 d2 (ts++[tv]) (es++[e])->Q (.bl true) H'
seal PE PT PW PA PS PSs PI PG PIfs PGs PO in
theorem ok__law_new{CT:Addr}{cs:Nat->Addr}{ob:Nat->Addr}{f:Addr}{fd:FuncData}(Z:Zs mg)(T:Tx K mg CT cs ob)(G__law_whole:Cal P w K mg base 1 "_law_whole" ["_law_found"] (sp__law_whole K))(M_Makes_made:MeV P w K mg base 5 (ob 0) "made" (sp_Makes_made K cs ob))(F:Fun K "_law_new" "_law_new" s__law_new f fd):FnOk P w K mg base CX0 6 f fd ["_law_makes","_law_handed","_law_table_here","_law_due"] (sp__law_new K cs ob):=by
 refine F.ok sc__law_new (fun vs H Q E h=>?_) (fun cdv A outer s H vs Q E hr h=>?_)
 ·obtain⟨p,d1,d2,ts,es,l,ns,a,b,tv,rfl,_⟩:=h;rfl
 obtain⟨p,d1,d2,ts,es,l,ns,a,b,tv,rfl,hM,few,hl,ne,l10,two,lt,q⟩:=h
 refine⟨_,(@pss_cons _ _ _ _ _ (ps_set (i:=4) sc__law_new.nd rfl (Or.inl rfl) (pe_callTy call_list_of rfl (Z.list) bo_list (pa_c (pv 1) pa_nil)))
  (@pss_cons _ _ _ _ _ (ps_set (i:=5) sc__law_new.nd rfl (Or.inl rfl) (PE1.pe (pe1_methV (k:=5) (pv 0) hr rfl (pa_c (pv 1) (pa_c (pv 2) pa_nil))) throwsN))
  (@pss_cons _ _ _ _ _ (ps_if (PW.pt (pw_or (pt_not (pt_val (pe_cal G__law_whole (k:=5) hr (by decide) rfl (pa_c (pv 5) pa_nil)) (fun _=>rfl))) (pw_or (pt_cmpR op_ne (pv 5) (pv 3) (nomark _)) (pw_or1 (pt_cmpR (op_neD (hr.units)) (pv 1) (pv 4) (nomark _)))))) (pss_one (ps_ret pe_bl)) pss_nil)
  (@pss_cons _ _ _ _ _ (ps_expr (pe_bm0 PySem.F.plainAttrs_list PySem.F.slot_list_clear PySem.F.type_list_clear mt_clear (pv 1)))
  (pss_one (ps_ret pe_bl)))))),?_⟩
 refine rd_start (σ:=[some (.ref p),some (.ref l),some tv,some (.int (ts.length:Nat)),none,none]) rfl ?_
 walk_at "rd"
 obtain⟨dx,ho⟩:=hM.obj
 have c:=T.ob_ 0 (by decide)
 refine⟨_,.inl (SqL.of hl),fun y hy=>?_⟩
 have s1:=same_upd hy (.lst (ns.map fun(i:Nat)=>V.int i))
 have hy1:upd H y (.lst (ns.map fun(i:Nat)=>V.int i)) y=some (.lst (ns.map fun(i:Nat)=>V.int i)):=upd_same
 generalize upd H y (.lst (ns.map fun(i:Nat)=>V.int i))=H1 at s1 hy1 ⊢
 have hM1:=hM.same s1
 refine rd_methV rfl (s1 _ _ ho) rfl c.cl (M_Makes_made.mono (by decide)) ⟨_,rfl,_,rfl,p,d1,d2,ts,es,l,ns,a,b,tv,rfl,hM1,few,s1 _ _ hl,ne,l10,two,lt,fun H2 e ms s2 ri eT hM2=>?_⟩
 have off:∀ {b:Addr} {xs:List V},H1 b=some (.lst xs)->b∉[p,d1,d2]:=fun {b xs} hb z=>by
  obtain⟨dx1,ho1⟩:=hM1.obj
  simp only[List.mem_cons,List.not_mem_nil,or_false]at z
  rcases z with z | z | z
  ·rw[z,ho1]at hb;cases hb
  ·rw[z,hM1.tab]at hb;cases hb
  ·rw[z,hM1.eld]at hb;cases hb
 have hl2:=s2 _ _ (off (s1 _ _ hl)) (s1 _ _ hl)
 have hy2:=s2 _ _ (off hy1) hy1
 refine⟨_,rfl,_,rfl,?_⟩
 have rp:∀ {b:Addr},H2 b=some (.lst (ns.map fun(i:Nat)=>V.int i))->Rep K H2 1 (.l ((ns.map fun(i:Nat)=>V.int i).map Dt.v)) (.ref b):=fun {b} hb=>.l (SqL.of hb) (by simp) fun i d x e1 e2=>by
  rw[List.getElem?_map,e2]at e1
  cases e1
  rw[List.getElem?_map,Option.map_eq_some_iff]at e2
  obtain⟨m,_,rfl⟩:=e2
  exact .v rfl
 rw[if_neg (by decide)]
 refine⟨rfl,?_⟩
 rw[if_neg (not_not_intro rfl)]
 refine rD_same (by decide) (rp hl2) (rp hy2) ⟨_,rfl,?_⟩
 rw[if_neg (by decide)]
 refine⟨.inl ⟨rfl,_,SqL.of hl2⟩,l,_,rfl,rfl,hl2,?_⟩
 have tl:SameT H2 (upd H2 l (.lst [])):=sameT_lst hl2
 have off2:=off (s1 _ _ hl)
 refine q _ e ms (((s1.x _).trans (s2.mono (by simp))).upd (by simp)) ri (eT.sameT tl) ?_
 simp only[List.mem_cons,List.not_mem_nil,or_false,not_or]at off2
 exact hM2.x (S:=[l]) ((SameX.refl _ _).upd (by simp)) (by simp;exact Ne.symm off2.1) (by simp;exact Ne.symm off2.2.1) (by simp;exact Ne.symm off2.2.2)
def sp__law_all(_:PySem.W.Frag)(cs ob:Nat->Addr):Sp:=fun vs H Q _=>∃ p d1 d2 ts es lk lt kin tab,vs=[.ref p,.ref lk,.ref lt]/\MkAt ob H p d1 d2 ts es/\H lk=some (.lst kin)/\H lt=some (.lst tab)/\KinP H es kin/\TabP H ts tab/\ts.length < 100/\∀ H',Same H H'->Q (.bl true) H'
seal PE PT PW PA PS PSs PI PG PIfs PGs PO in
theorem ok__law_all{CT:Addr}{cs:Nat->Addr}{ob:Nat->Addr}{f:Addr}{fd:FuncData}(Z:Zs mg)(T:Tx K mg CT cs ob)(G__law_whole:Cal P w K mg base 1 "_law_whole" ["_law_found"] (sp__law_whole K))(G__law_told:Cal P w K mg base 5 "_law_told" ["_law_makes","_law_number_here","_law_elders_here","_law_table_here"] (sp__law_told K cs ob))(M_Makes_numbers:MeV P w K mg base 1 (ob 0) "numbers" (sp_Makes_numbers K cs ob))(M_Makes_dealt:MeV P w K mg base 1 (ob 0) "dealt" (sp_Makes_dealt K cs ob))(F:Fun K "_law_all" "_law_all" s__law_all f fd):FnOk P w K mg base CX0 6 f fd ["_law_makes","_law_kin","_law_tables"] (sp__law_all K cs ob):=by
 refine F.ok sc__law_all (fun vs H Q E h=>?_) (fun cdv A outer s H vs Q E hr h=>?_)
 ·obtain⟨p,d1,d2,ts,es,lk,lt,kin,tab,rfl,_⟩:=h;rfl
 obtain⟨p,d1,d2,ts,es,lk,lt,kin,tab,rfl,hM,hk,ht,kp,tp,few,q⟩:=h
 refine⟨_,(@pss_cons _ _ _ _ _ (ps_for PassesOwn.never rfl (pi_range1 rfl (Z.range) (pa_c (pe_callB call_len_seq rfl (Z.len) bo_len (pa_c (pv 1) pa_nil)) pa_nil)) (pg_name (i:=3) sc__law_all.nd rfl (Or.inl rfl)) (pss_one (ps_if (pt_not (pt_val (pe_cal G__law_told (k:=5) hr (by decide) rfl (pa_c (pv 0) (pa_c (pv 3) (pa_c (pe_ix ix_list (pv 1) (pv 3) (fun _ _=>rfl)) (pa_c (pe_ix ix_list (pv 2) (pv 3) (fun _ _=>rfl)) pa_nil))))) (fun _=>rfl))) (pss_one (ps_ret pe_bl)) pss_nil)))
  (@pss_cons _ _ _ _ _ (ps_set (i:=4) sc__law_all.nd rfl (Or.inl rfl) (PE1.pe (pe1_methV0 (k:=5) (pv 0) hr rfl) throwsN))
  (@pss_cons _ _ _ _ _ (ps_if (PW.pt (pw_or (pt_not (pt_val (pe_callB call_isinst rfl (Z.isinstance) bo_isinstance (pa_c (pv 4) (pa_c (pe_bltn rfl (Z.list) bo_list (v:=.ty "list") rfl) pa_nil))) (fun _=>rfl))) (pw_or1 (pt_cmpR (op_neD (hr.units)) (pv 4) (pe_listrng (pe_callB call_len_seq rfl (Z.len) bo_len (pa_c (pv 1) pa_nil)) hr.hd rfl (Z.range) rfl (Z.list)) (nomark _))))) (pss_one (ps_ret pe_bl)) pss_nil)
  (@pss_cons _ _ _ _ _ (ps_for PassesOwn.never rfl (pi_list (pv 4)) (pg_name (i:=3) sc__law_all.nd rfl (Or.inl rfl)) (pss_one (ps_if (pt_not (pt_val (pe_cal G__law_whole (k:=5) hr (by decide) rfl (pa_c (pv 3) pa_nil)) (fun _=>rfl))) (pss_one (ps_ret pe_bl)) pss_nil)))
  (@pss_cons _ _ _ _ _ (ps_expr (pe_bm0 PySem.F.plainAttrs_list PySem.F.slot_list_clear PySem.F.type_list_clear mt_clear (pv 4)))
  (@pss_cons _ _ _ _ _ (ps_set (i:=5) sc__law_all.nd rfl (Or.inl rfl) (PE1.pe (pe1_methV0 (k:=5) (pv 0) hr rfl) throwsN))
  (pss_one (ps_ret (pe_and (pe_cal G__law_whole (k:=5) hr (by decide) rfl (pa_c (pv 5) pa_nil)) (pe_and (pe_cmpR op_eq (pv 5) (pe_callB call_len_seq rfl (Z.len) bo_len (pa_c (pv 1) pa_nil)) (nomark _)) (pe_one (pe_cmpR (op_eqD (hr.units)) (PE1.pe (pe1_methV0 (k:=5) (pv 0) hr rfl) throwsN) (pe_listrng (pe_callB call_len_seq rfl (Z.len) bo_len (pa_c (pv 1) pa_nil)) hr.hd rfl (Z.range) rfl (Z.list)) (nomark _))))))))))))),?_⟩
 refine rd_start (σ:=[some (.ref p),some (.ref lk),some (.ref lt),none,none,none]) rfl ?_
 have lek:=Paired.length kp
 have let_:=Paired.length tp
 have hle:=hM.len
 obtain⟨dx,ho⟩:=hM.obj
 have c:=T.ob_ 0 (by decide)
 refine rd_gen1 fun R hR=>?_
 walk_at "rd"
 refine⟨_,.inl (SqL.of hk),by omega,by omega,foR_range (fun i σ' H'=>∃ x3,σ'=[some (.ref p),some (.ref lk),some (.ref lt),x3,none,none]/\H'=H) ⟨_,rfl,rfl⟩ ?_ ?_⟩
 ·rintro i σ' H' hi ⟨x3,rfl,rfl⟩
  have h1:i < kin.length:=by omega
  have h2:i < tab.length:=by omega
  have h3:i < es.length:=by omega
  have h4:i < ts.length:=by omega
  obtain⟨ms,e1,e2⟩:=paired_get kp (List.getElem?_eq_getElem h3) (List.getElem?_eq_getElem h1)
  obtain⟨zs,t1,t2⟩:=paired_get tp (List.getElem?_eq_getElem h4) (List.getElem?_eq_getElem h2)
  walk_at "rd"
  refine⟨_,SqL.of hk,kin[i],by rw[show(0:Int)+(i:Int)=((i:Nat):Int) by omega];exact atI_nat (List.getElem?_eq_getElem h1),_,SqL.of ht,tab[i],by rw[show(0:Int)+(i:Int)=((i:Nat):Int) by omega];exact atI_nat (List.getElem?_eq_getElem h2),p,d1,d2,ts,es,i,es[i],ts[i],kin[i],tab[i],ms,zs,by rw[show(0:Int)+(i:Int)=((i:Nat):Int) by omega],hM,List.getElem?_eq_getElem h3,List.getElem?_eq_getElem h4,e1,e2,t1,t2,_,rfl,rfl⟩
 rintro σ' H' ⟨x3,rfl,rfl⟩
 refine hR _ _ ?_
 clear hR
 walk_at "rd"
 refine rd_methV0 rfl ho rfl c.cl (M_Makes_numbers.mono (by decide)) ⟨p,d1,d2,ts,es,rfl,hM,by omega,fun r H1 s1 hr1 g1=>?_⟩
 refine isI_of (.lst g1) kit_lst_lst ⟨_,rfl,?_⟩
 rw[if_neg (by decide)]
 have rp:∀ {H2:Hp} {b:Addr} {n:Nat},H2 b=some (.lst (countV n))->Rep K H2 1 (.l ((countV n).map Dt.v)) (.ref b):=fun {H2 b n} hb=>.l (SqL.of hb) (by simp) fun i d x e1 e2=>by
  rw[List.getElem?_map,e2]at e1
  cases e1
  unfold countV at e2
  rw[List.getElem?_map,Option.map_eq_some_iff]at e2
  obtain⟨m,_,rfl⟩:=e2
  exact .v rfl
 simp only[tListRng]
 walk_at "rd"
 refine⟨_,.inl (SqL.of (s1 _ _ hk)),kin.length,rfl,by omega,fun D hD=>?_⟩
 have s2:=same_upd hD (.lst (countV kin.length))
 have g2:upd H1 D (.lst (countV kin.length)) D=some (.lst (countV kin.length)):=upd_same
 generalize upd H1 D (.lst (countV kin.length))=H2 at s2 g2 ⊢
 have elen:ts.length=kin.length:=by omega
 rw[elen]at g1
 refine rD_same (by decide) (rp (s2 _ _ g1)) (rp g2) ⟨_,rfl,?_⟩
 rw[if_neg (by decide)]
 refine⟨⟨_,SqL.of (s2 _ _ g1)⟩,foR_list (countV kin.length) (fun i σ' H'=>∃ x3,σ'=[some (.ref p),some (.ref lk),some (.ref lt),x3,some (.ref r),none]/\H'=H2) ⟨_,rfl,rfl⟩ ?_ ?_ ?_⟩
 ·rintro i σ' H' _ ⟨x3,rfl,rfl⟩
  exact SqL.of (s2 _ _ g1)
 ·rintro i x σ' H' hx ⟨x3,rfl,rfl⟩
  unfold countV at hx
  rw[List.getElem?_map,Option.map_eq_some_iff]at hx
  obtain⟨k,hk,rfl⟩:=hx
  walk_at "rd"
  exact⟨k,rfl,_,rfl,by rw[if_neg (by decide)]⟩
 rintro σ' H' ⟨x3,rfl,rfl⟩
 walk_at "rd"
 have s12:=s1.trans s2
 refine⟨.inl ⟨rfl,_,SqL.of (s2 _ _ g1)⟩,r,_,rfl,rfl,s2 _ _ g1,?_⟩
 have s3:=same_updN (o:=.lst []) s12 hr1
 generalize upd H' r (.lst [])=H3 at s3 ⊢
 refine rd_methV0 rfl (s3 _ _ ho) rfl c.cl (M_Makes_dealt.mono (by decide)) ⟨p,d1,d2,ts,es,rfl,hM.same s3,?_⟩
 refine⟨_,rfl,_,rfl,?_⟩
 rw[if_pos rfl]
 refine⟨_,.inl (SqL.of (s3 _ _ hk)),rfl,?_⟩
 rw[elen,if_pos rfl]
 refine rd_methV0 rfl (s3 _ _ ho) rfl c.cl (M_Makes_numbers.mono (by decide)) ⟨p,d1,d2,ts,es,rfl,hM.same s3,by omega,fun r4 H4 s4 hr4 g4=>?_⟩
 simp only[tListRng]
 walk_at "rd"
 refine⟨_,.inl (SqL.of (s4 _ _ (s3 _ _ hk))),kin.length,rfl,by omega,fun D5 hD5=>?_⟩
 rw[elen]at g4
 exact rD_same (by decide) (rp (same_upd hD5 _ _ _ g4)) (rp upd_same) (q _ (s3.trans (s4.trans (same_upd hD5 _))))
section
variable{ob:Nat->Addr}{H H' H0 H1:Hp}{p d1 d2 p' d1' d2' l b:Addr}{ts es ts' es' xs ys:List V}
theorem MkAt.offL(h:MkAt ob H p d1 d2 ts es)(hb:H b=some (.lst xs)):b∉[p,d1,d2]:=fun z=>by
 obtain⟨dx,ho⟩:=h.obj
 simp only[List.mem_cons,List.not_mem_nil,or_false]at z
 rcases z with z | z | z
 ·rw[z,ho]at hb;cases hb
 ·rw[z,h.tab]at hb;cases hb
 ·rw[z,h.eld]at hb;cases hb
theorem not4{S:List Addr}(h:b∉S)(n:b≠l)(e:∀ x,x∈[p,d1,d2,l]->x∈S\/x=l):b∉[p,d1,d2,l]:=fun z=>(e b z).elim h n
theorem in4:∀ x,x∈[p,d1,d2,l]->x∈[p,d1,d2]\/x=l:=fun x h=>by
 simp only[List.mem_cons,List.not_mem_nil,or_false]at h ⊢
 rcases h with h | h | h | h
 ·exact .inl (.inl h)
 ·exact .inl (.inr (.inl h))
 ·exact .inl (.inr (.inr h))
 ·exact .inr h
theorem MkAt.lst(h:MkAt ob H p d1 d2 ts es)(s:SameX [p,d1,d2,l] H H')(hb:H b=some (.lst xs))(n:b≠l):H' b=some (.lst xs):=s _ _ (not4 (h.offL hb) n in4) hb
theorem MkAt.t4(h:MkAt ob H p d1 d2 ts es)(s:SameX [p,d1,d2,l] H H')(hl:H l=some (.lst xs)):SameT H H':=fun b ys e=>s b _ (not4 (fun z=>by
 obtain⟨dx,eo⟩:=h.obj
 simp only[List.mem_cons,List.not_mem_nil,or_false]at z
 rcases z with z | z | z
 ·rw[z,eo]at e;cases e
 ·rw[z,h.tab]at e;cases e
 ·rw[z,h.eld]at e;cases e) (fun z=>by rw[z,hl]at e;cases e) in4) e
theorem MkAt.other(A:MkAt ob H p d1 d2 ts es)(B:MkAt ob H p' d1' d2' ts' es')(ap:∀ x∈[p',d1',d2'],x∉[p,d1,d2])(s:SameX [p,d1,d2,l] H H')(hl:H l=some (.lst xs)):MkAt ob H' p' d1' d2' ts' es':=by
 have nl:∀ x∈[p',d1',d2'],x≠l:=fun x hx z=>B.offL hl (by rw[<- z];exact hx)
 exact B.x s (not4 (ap _ (by simp)) (nl _ (by simp)) in4) (not4 (ap _ (by simp)) (nl _ (by simp)) in4) (not4 (ap _ (by simp)) (nl _ (by simp)) in4)
theorem MkAt.updL(h:MkAt ob H p d1 d2 ts es)(hl:H l=some (.lst xs)):MkAt ob (upd H l (.lst ys)) p d1 d2 ts es:=by
 have n:=h.offL hl
 simp only[List.mem_cons,List.not_mem_nil,or_false,not_or]at n
 exact h.x (S:=[l]) ((SameX.refl _ _).upd (by simp)) (by simp;exact Ne.symm n.1) (by simp;exact Ne.symm n.2.1) (by simp;exact Ne.symm n.2.2)
theorem same_fresh{S:List Addr}(s:Same H0 H1)(x:SameX S H1 H')(fr:∀ b∈S,H0 b=none):Same H0 H':=fun b o hb=>x b o (fun z=>by rw[fr b z]at hb;cases hb) (s _ _ hb)
theorem none_of(s:Same H0 H1)(h:H1 b=none):H0 b=none:=by
 cases e:H0 b with
 | none=>rfl
 | some o=>rw[s _ _ e]at h;cases h
end
theorem paired_of{α β:Type}{F:α->β->Prop}:∀ {xs:List α} {ys:List β},xs.length=ys.length->(∀ (i:Nat) x y,xs[i]?=some x->ys[i]?=some y->F x y)->Paired F xs ys
 | [],[],_,_=>.nil
 | [],_::_,h,_=>nomatch h
 | _::_,[],h,_=>nomatch h
 | x::xs,y::ys,h,f=>.cons (f 0 x y rfl rfl) (paired_of (by simpa using h) fun i a b ha hb=>f (i+1) a b ha hb)
theorem once_nd{K:Type}[DecidableEq K](ks:List K):(onceK ks).Nodup:=by
 have:∀ n (ks:List K),ks.length=n->(onceK ks).Nodup:=by
  intro n
  induction n with
  | zero=>intro ks h;rw[List.length_eq_zero_iff.mp h];exact List.nodup_nil
  | succ n ih =>
   intro ks h
   have hne:ks≠[]:=fun z=>by rw[z]at h;cases h
   have e:=List.dropLast_concat_getLast hne
   have l:=congrArg List.length e
   rw[List.length_append]at l
   have ih':=ih ks.dropLast (by simp at l ⊢;omega)
   rw[<- e,onceK_snoc]
   split
   ·exact ih'
   ·rename_i hn
    rw[List.nodup_append]
    exact⟨ih',by simp,fun a ha b hb z=>hn (by rw[List.mem_singleton]at hb;rw[<- hb,<- z];exact ha)⟩
 exact this _ ks rfl
structure Two(ob:Nat->Addr)(H0 H:Hp)(p d1 d2 p' d1' d2' lk lt lo:Addr)(ts es ts' es' kin tab oth:List V):Prop where
 s:Same H0 H
 a:MkAt ob H p d1 d2 ts es
 b:MkAt ob H p' d1' d2' ts' es'
 k:H lk=some (.lst kin)
 t:H lt=some (.lst tab)
 o:H lo=some (.lst oth)
 kp:KinP H es kin
 tp:TabP H ts tab
 op:TabP H ts' oth
 e0:∀ (i:Nat) e,es'[i+1]?=some e->ElT H e [0]
 e1:∃ e,es'[0]?=some e/\ElT H e []
structure Apt(H0:Hp)(p d1 d2 p' d1' d2' lk lt lo:Addr):Prop where
 ab:∀ x∈[p',d1',d2'],x∉[p,d1,d2]
 ba:∀ x∈[p,d1,d2],x∉[p',d1',d2']
 kt:lk≠lt
 ko:lk≠lo
 to:lt≠lo
 f1:∀ b∈[p,d1,d2],H0 b=none
 f2:∀ b∈[p',d1',d2'],H0 b=none
 fk:H0 lk=none
 ft:H0 lt=none
 fo:H0 lo=none
def sp_law(K:PySem.W.Frag):Sp:=fun vs H Q _=>∃ (a:Addr) (ns:List Int),vs=[.ref a]/\SqL K H a (ns.map V.int)/\ns.length<=63/\∀ H',Q (.bl true) H'
seal PE PT PW PA PS PSs PI PG PIfs PGs PO in
theorem ok_law{CT:Addr}{cs:Nat->Addr}{ob:Nat->Addr}{f:Addr}{fd:FuncData}(Z:Zs mg)(T:Tx K mg CT cs ob)(G__law_all:Cal P w K mg base 6 "_law_all" ["_law_makes","_law_kin","_law_tables"] (sp__law_all K cs ob))(G__law_number:Cal P w K mg base 1 "_law_number" ["_law_script","_law_k"] (sp__law_number K))(G__law_elders:Cal P w K mg base 1 "_law_elders" ["_law_number_here","_law_k"] (sp__law_elders K))(G__law_table:Cal P w K mg base 2 "_law_table" ["_law_number_here"] (sp__law_table K))(G__law_new:Cal P w K mg base 6 "_law_new" ["_law_makes","_law_handed","_law_table_here","_law_due"] (sp__law_new K cs ob))(G__law_told:Cal P w K mg base 5 "_law_told" ["_law_makes","_law_number_here","_law_elders_here","_law_table_here"] (sp__law_told K cs ob))(K_Makes:MkV P w K mg base 2 "Makes" (ob 0) (sp_Makes_init K ob))(F:Fun K "law" "law" s_law f fd):FnOk P w K mg base CX0 7 f fd ["_law_script"] (sp_law K):=by
 refine F.ok sc_law (fun vs H Q E h=>?_) (fun cdv A outer s H vs Q E hr h=>?_)
 ·obtain⟨a,ns,rfl,_⟩:=h;rfl
 obtain⟨a,ns,rfl,hS,hl,q⟩:=h
 refine⟨_,(@pss_cons _ _ _ _ _ (ps_set (i:=1) sc_law.nd rfl (Or.inl rfl) (pe_mk0 K_Makes (k:=6) hr (by decide) rfl))
  (@pss_cons _ _ _ _ _ (ps_set (i:=2) sc_law.nd rfl (Or.inl rfl) (pe_mk0 K_Makes (k:=6) hr (by decide) rfl))
  (@pss_cons _ _ _ _ _ (ps_set (i:=3) sc_law.nd rfl (Or.inl rfl) (pe_lst (pa_c (pe_tup pa_nil) pa_nil)))
  (@pss_cons _ _ _ _ _ (ps_set (i:=4) sc_law.nd rfl (Or.inl rfl) (pe_lst (pa_c (pe_tup (pa_c (pe_tup pa_nil) (pa_c pe_non pa_nil))) pa_nil)))
  (@pss_cons _ _ _ _ _ (ps_set (i:=5) sc_law.nd rfl (Or.inl rfl) (pe_lst (pa_c (pe_tup (pa_c (pe_tup pa_nil) (pa_c pe_non pa_nil))) pa_nil)))
  (@pss_cons _ _ _ _ _ (ps_for PassesOwn.never rfl (pi_range2 rfl (Z.range) (pa_c pe_int (pa_c (pe_op op_add pe_int (pe_op op_mod (pe_cal G__law_number (k:=6) hr (by decide) rfl (pa_c (pv 0) (pa_c pe_int pa_nil))) pe_int)) pa_nil))) (pg_name (i:=6) sc_law.nd rfl (Or.inl rfl)) (@pss_cons _ _ _ _ _ (ps_set (i:=7) sc_law.nd rfl (Or.inl rfl) (pe_cal G__law_number (k:=6) hr (by decide) rfl (pa_c (pv 0) (pa_c (pv 6) pa_nil))))
  (@pss_cons _ _ _ _ _ (ps_set (i:=8) sc_law.nd rfl (Or.inl rfl) (pe_cal G__law_elders (k:=6) hr (by decide) rfl (pa_c (pv 7) (pa_c (pv 6) pa_nil))))
  (@pss_cons _ _ _ _ _ (ps_set (i:=9) sc_law.nd rfl (Or.inl rfl) (pe_cal G__law_table (k:=6) hr (by decide) rfl (pa_c (pe_cal G__law_number (k:=6) hr (by decide) rfl (pa_c (pv 0) (pa_c (pe_op op_add pe_int (pv 6)) pa_nil))) pa_nil)))
  (@pss_cons _ _ _ _ _ (ps_if (pt_not (pt_val (pe_cal G__law_new (k:=6) hr (by decide) rfl (pa_c (pv 1) (pa_c (pe_callTy call_list_of rfl (Z.list) bo_list (pa_c (pv 8) pa_nil)) (pa_c (pv 9) (pa_c (pv 6) pa_nil))))) (fun _=>rfl))) (pss_one (ps_ret pe_bl)) pss_nil)
  (@pss_cons _ _ _ _ _ (ps_expr (pe_bm PySem.F.plainAttrs_list PySem.F.slot_list_append PySem.F.type_list_append mt_append (pv 3) (pa_c (pe_callTy call_tuple_of rfl (Z.tuple) bo_tuple (pa_c (pe_sortset (pv 8) hr.hd rfl (Z.set) rfl (Z.sorted)) pa_nil)) pa_nil)))
  (@pss_cons _ _ _ _ _ (ps_expr (pe_bm PySem.F.plainAttrs_list PySem.F.slot_list_append PySem.F.type_list_append mt_append (pv 4) (pa_c (pv 9) pa_nil)))
  (@pss_cons _ _ _ _ _ (ps_if (pt_not (pt_val (pe_cal G__law_told (k:=6) hr (by decide) rfl (pa_c (pv 1) (pa_c (pv 6) (pa_c (pe_ix ix_list (pv 3) (pv 6) (fun _ _=>rfl)) (pa_c (pv 9) pa_nil))))) (fun _=>rfl))) (pss_one (ps_ret pe_bl)) pss_nil)
  (pss_one (ps_if (pt_cmpR op_eq (pe_op op_mod (pv 6) pe_int) pe_int (nomark _)) (@pss_cons _ _ _ _ _ (ps_if (pt_not (pt_val (pe_cal G__law_new (k:=6) hr (by decide) rfl (pa_c (pv 2) (pa_c (pe_lst (pa_c pe_int pa_nil)) (pa_c (pv 9) (pa_c (pe_callB call_len_seq rfl (Z.len) bo_len (pa_c (pv 5) pa_nil)) pa_nil))))) (fun _=>rfl))) (pss_one (ps_ret pe_bl)) pss_nil)
  (pss_one (ps_expr (pe_bm PySem.F.plainAttrs_list PySem.F.slot_list_append PySem.F.type_list_append mt_append (pv 5) (pa_c (pv 9) pa_nil))))) pss_nil))))))))))
  (@pss_cons _ _ _ _ _ (ps_if (pt_not (pt_val (pe_cal G__law_all (k:=6) hr (by decide) rfl (pa_c (pv 2) (pa_c (pe_op op_cat (pe_lst (pa_c (pe_tup pa_nil) pa_nil)) (pe_lcomp ["_law_script","_law_makes","_law_beside","_law_kin","_law_tables","_law_others","_law_k","_law_number_here","_law_elders_here",""] rfl (blkOk (N:=["_law_script","_law_makes","_law_beside","_law_kin","_law_tables","_law_others","_law_k","_law_number_here","_law_elders_here","_law_table_here"]) (dsc:=defScope s_law) rfl rfl (by decide +kernel)) (pi_list (pe_slice sl_list (pv 5) (po_some pe_int) po_none)) (fun _ _ _ _ _=>pif_nil) (fun _ _ _ _ _=>(pe_tup (pa_c pe_int pa_nil))))) (pa_c (pv 5) pa_nil)))) (fun _=>rfl))) (pss_one (ps_ret pe_bl)) pss_nil)
  (pss_one (ps_ret (pe_cal G__law_all (k:=6) hr (by decide) rfl (pa_c (pv 1) (pa_c (pv 3) (pa_c (pv 4) pa_nil))))))))))))),?_⟩
 refine rd_start (σ:=[some (.ref a),none,none,none,none,none,none,none,none,none]) rfl ?_
 refine rd_gen5 fun R hR=>?_
 have go:∀ p d1 d2 p' d1' d2' lk lt lo H1 ts es ts' es' kin tab oth,Apt H p d1 d2 p' d1' d2' lk lt lo->Two ob H H1 p d1 d2 p' d1' d2' lk lt lo ts es ts' es' kin tab oth->ts.length=1->ts'.length=1->R [some (.ref a),some (.ref p),some (.ref p'),some (.ref lk),some (.ref lt),some (.ref lo),none,none,none,none] H1:=by
  intro p d1 d2 p' d1' d2' lk lt lo H1 ts es ts' es' kin tab oth ap tw l1 l2
  refine hR _ _ (rd_gen1 fun R2 hR2=>?_)
  clear hR
  walk_at "rd"
  refine⟨a,ns,0,rfl,tw.s.seq hS,hl,by omega,fun c0 h0=>⟨c0,rfl,1,1+c0 % 24,⟨rfl,rfl⟩,⟨by decide,by decide,by omega,by omega⟩,?_⟩⟩
  refine foR_range (fun i σ' H'=>∃ ts es ts' es' kin tab oth x6 x7 x8 x9,σ'=[some (.ref a),some (.ref p),some (.ref p'),some (.ref lk),some (.ref lt),some (.ref lo),x6,x7,x8,x9]/\Two ob H H' p d1 d2 p' d1' d2' lk lt lo ts es ts' es' kin tab oth/\ts.length=i+1/\ts'.length<=i+1) ⟨ts,es,ts',es',kin,tab,oth,_,_,_,_,rfl,tw,l1,by omega⟩ ?_ ?_
  ·clear tw l1 l2 ts es ts' es' kin tab oth
   rintro i σ' H2 hi ⟨ts,es,ts',es',kin,tab,oth,x6,x7,x8,x9,rfl,tw,lts,lts'⟩
   have hi24:i < 24:=by omega
   have lek:=Paired.length tw.kp
   have let_:=Paired.length tw.tp
   have leo:=Paired.length tw.op
   have hlea:=tw.a.len
   have hleb:=tw.b.len
   walk_at "rd"
   rw[show(1:Int)+(i:Int)=((i+1:Nat):Int) by omega]
   refine⟨a,ns,i+1,rfl,tw.s.seq hS,hl,by omega,fun c1 h1=>⟨c1,i+1,rfl,by omega,by omega,fun r8 H3 ms8 aa bb s3 hr8 g8 ne8 l8 two8 lt8=>?_⟩⟩
   refine⟨a,ns,24+(i+1),by rw[show(24:Int)+((i+1:Nat):Int)=((24+(i+1):Nat):Int) by omega],(tw.s.trans s3).seq hS,hl,by omega,fun c2 h2=>⟨c2,rfl,fun t9 H4 zs s4 tb=>?_⟩⟩
   have s24:=s3.trans s4
   refine⟨r8,rfl,_,.inl (SqL.of (s4 _ _ g8)),fun l hl4=>?_⟩
   have s5:=same_upd hl4 (.lst (ms8.map fun(i:Nat)=>V.int i))
   have g5:upd H4 l (.lst (ms8.map fun(i:Nat)=>V.int i)) l=some (.lst (ms8.map fun(i:Nat)=>V.int i)):=upd_same
   generalize upd H4 l (.lst (ms8.map fun(i:Nat)=>V.int i))=H5 at s5 g5 ⊢
   have s25:=s24.trans s5
   have nl:∀ {b:Addr} {xs:List V},H2 b=some (.lst xs)->b≠l:=fun {b xs} hb=>ne_of_none (s24 _ _ hb) hl4
   have A5:=tw.a.same s25
   have B5:=tw.b.same s25
   refine⟨p,d1,d2,ts,es,l,ms8,aa,bb,.ref t9,by rw[lts],A5,by omega,g5,ne8,l8,two8,by rw[lts];exact lt8,fun H6 e6 ms6 s6 ri6 el6 A6=>⟨_,rfl,?_⟩⟩
   rw[if_neg (by decide)]
   have B6:=A5.other B5 ap.ab s6 g5
   have t56:=A5.t4 s6 g5
   have k6:=A5.lst s6 (s25 _ _ tw.k) (nl tw.k)
   have t6:=A5.lst s6 (s25 _ _ tw.t) (nl tw.t)
   have o6:=A5.lst s6 (s25 _ _ tw.o) (nl tw.o)
   have g86:=A5.lst s6 (s5 _ _ (s4 _ _ g8)) (ne_of_none (s4 _ _ g8) hl4)
   have ss6:Same H H6:=same_fresh (tw.s.trans s25) s6 fun b hb=>by
    rcases in4 b hb with z | z
    ·exact ap.f1 b z
    ·rw[z];exact none_of (tw.s.trans s24) hl4
   have t26:SameT H2 H6:=s25.t.trans t56
   refine⟨.inl ⟨rfl,_,SqL.of k6⟩,?_⟩
   simp only[tSortSet,tSetK]
   walk_at "rd"
   have ek:(ms8.map fun(i:Nat)=>(Sum.inl (i:Int):Key)).map kV=ms8.map fun(i:Nat)=>V.int i:=by rw[List.map_map];rfl
   have inz:∀ v∈(onceK (ms8.map fun(i:Nat)=>(Sum.inl (i:Int):Key))).map kV,∃ n:Int,v=.int n:=fun v hv=>by
    obtain⟨k,hk,rfl⟩:=List.mem_map.mp hv
    obtain⟨z,_,rfl⟩:=List.mem_map.mp ((onceK_mem _ _).mp hk)
    exact⟨_,rfl⟩
   refine⟨ms8.map fun(i:Nat)=>.inl (i:Int),by rw[ek];exact SqL.of g86,by rw[List.length_map];omega,ltP,one_ints inz,by rw[List.length_map];omega,fun D7 H7 ys s7 hD7 g7 pm pw=>?_⟩
   obtain⟨ns',en⟩:=ints_of inz
   have emem:∀ v,v∈ns'.map V.int↔v∈ms8.map fun(i:Nat)=>V.int i:=fun v=>by
    rw[<- en,<- ek,List.mem_map,List.mem_map]
    constructor
    ·rintro⟨k,hk,e⟩;exact⟨k,(onceK_mem _ _).mp hk,e⟩
    ·rintro⟨k,hk,e⟩;exact⟨k,(onceK_mem _ _).mpr hk,e⟩
   rw[en]at pm
   obtain⟨ms',rfl,pm',pw'⟩:=sortedI pm pw
   have eqm:ms'=ms6:=by
    have nd':ms'.Nodup:=by
     refine pm'.nodup_iff.mpr ?_
     have h1:((onceK (ms8.map fun(i:Nat)=>(Sum.inl (i:Int):Key))).map kV).Nodup:=List.Pairwise.map _ (fun a b h e=>h (kV_inj e)) (once_nd _)
     rw[en]at h1
     exact(List.pairwise_map.mp h1).imp fun {a b} h e=>h (by rw[e])
    have up':(ms'.map V.int).Pairwise fun a b=>ltV a b=true:=by
     rw[List.pairwise_map]
     refine(pw'.and nd').imp fun {a b} h=>?_
     rw[lt_ii,decide_eq_true_eq]
     have:=h.1;have:=h.2;omega
    have bnd:∀ v∈ms'.map V.int,plainV v:=fun v hv=>by
     obtain⟨m,hm,rfl⟩:=List.mem_map.mp hv
     obtain⟨j,hj,e⟩:=List.mem_map.mp ((emem _).mp (List.mem_map_of_mem (f:=V.int) (pm'.mem_iff.mp hm)))
     cases e
     have:=lt8 j hj
     show -(10 ^ 30:Int) < (j:Int)/\(j:Int) < 10 ^ 30
     omega
    have:=Rise.uniq bnd up' ri6.up fun v=>by
     rw[ri6.mem,<- emem]
     constructor
     ·intro h;obtain⟨m,hm,rfl⟩:=List.mem_map.mp h;exact List.mem_map_of_mem (pm'.mem_iff.mp hm)
     ·intro h;obtain⟨m,hm,rfl⟩:=List.mem_map.mp h;exact List.mem_map_of_mem (pm'.mem_iff.mpr hm)
    exact(List.map_inj_right (fun x y h=>V.int.inj h)).mp this
   subst eqm
   refine⟨_,.inl ⟨SqL.of g7,fun l8 hl8=>?_⟩⟩
   have s8:=same_upd hl8 (.tup (ms'.map V.int))
   have g8':upd H7 l8 (.tup (ms'.map V.int)) l8=some (.tup (ms'.map V.int)):=upd_same
   generalize upd H7 l8 (.tup (ms'.map V.int))=H8 at s8 g8' ⊢
   have s68:=s7.trans s8
   refine⟨kin,s68 _ _ k6,small1000 (by omega),?_⟩
   have k8:=s68 _ _ k6
   have t8:upd H8 lk (.lst (kin++[.ref l8])) lt=some (.lst tab):=by rw[upd_ne (Ne.symm ap.kt)];exact s68 _ _ t6
   refine⟨.inl ⟨rfl,_,SqL.of t8⟩,tab,t8,small1000 (by omega),?_⟩
   have A9:=((A6.same s68).updL (ys:=kin++[.ref l8]) k8).updL (ys:=tab++[.ref t9]) t8
   have B9:=((B6.same s68).updL (ys:=kin++[.ref l8]) k8).updL (ys:=tab++[.ref t9]) t8
   have t69:SameT H6 (upd (upd H8 lk (.lst (kin++[.ref l8]))) lt (.lst (tab++[.ref t9]))):=s68.t.trans ((sameT_lst k8).trans (sameT_lst t8))
   have t89:SameT H8 (upd (upd H8 lk (.lst (kin++[.ref l8]))) lt (.lst (tab++[.ref t9]))):=(sameT_lst k8).trans (sameT_lst t8)
   have k9:upd (upd H8 lk (.lst (kin++[.ref l8]))) lt (.lst (tab++[.ref t9])) lk=some (.lst (kin++[.ref l8])):=by rw[upd_ne ap.kt];exact upd_same
   have t9':upd (upd H8 lk (.lst (kin++[.ref l8]))) lt (.lst (tab++[.ref t9])) lt=some (.lst (tab++[.ref t9])):=upd_same
   have o9:upd (upd H8 lk (.lst (kin++[.ref l8]))) lt (.lst (tab++[.ref t9])) lo=some (.lst oth):=by rw[upd_ne (Ne.symm ap.to),upd_ne (Ne.symm ap.ko)];exact s68 _ _ o6
   have ss9:Same H (upd (upd H8 lk (.lst (kin++[.ref l8]))) lt (.lst (tab++[.ref t9]))):=same_updN (same_updN (ss6.trans s68) ap.fk) ap.ft
   have el8:ElT H8 (.ref l8) ms':=⟨l8,rfl,g8'⟩
   generalize upd (upd H8 lk (.lst (kin++[.ref l8]))) lt (.lst (tab++[.ref t9]))=H9 at A9 B9 t69 t89 k9 t9' o9 ss9 ⊢
   have t29:=t26.trans t69
   have kp9:KinP H9 (es++[e6]) (kin++[.ref l8]):=Paired.snoc (tw.kp.sameT t29) ⟨ms',el6.sameT t69,el8.sameT t89⟩
   have tb9:TbAt H9 (.ref t9) zs:=tb.sameT (s5.t.trans (t56.trans t69))
   have tp9:TabP H9 (ts++[.ref t9]) (tab++[.ref t9]):=Paired.snoc (tw.tp.sameT t29) ⟨zs,tb9,tb9⟩
   refine⟨_,SqL.of k9,.ref l8,by rw[show i+1=kin.length by omega];exact atI_nat (by simp),p,d1,d2,_,_,i+1,e6,.ref t9,.ref l8,.ref t9,ms',zs,rfl,A9,by rw[show i+1=es.length by omega];simp,by rw[<- lts];simp,el6.sameT t69,el8.sameT t89,tb9,tb9,_,rfl,?_⟩
   rw[if_neg (by decide)]
   have e09:∀ (i:Nat) e,es'[i+1]?=some e->ElT H9 e [0]:=fun i e h=>(tw.e0 i e h).sameT t29
   have e19:∃ e,es'[0]?=some e/\ElT H9 e []:=let ⟨e,h,g⟩:=tw.e1;⟨e,h,g.sameT t29⟩
   have op9:=tw.op.sameT t29
   refine ite2 (fun _=>?_) fun _=>?_
   ·refine⟨by decide,fun p1 hp1=>⟨oth,.inl (SqL.of (same_upd hp1 _ _ _ o9)),?_⟩⟩
    have s10:=same_upd hp1 (.lst [V.int 0])
    have g10:upd H9 p1 (.lst [V.int 0]) p1=some (.lst [V.int 0]):=upd_same
    have n1:∀ {b:Addr} {xs:List V},H9 b=some (.lst xs)->b≠p1:=fun {b xs} hb=>ne_of_none hb hp1
    generalize upd H9 p1 (.lst [V.int 0])=H10 at s10 g10 ⊢
    have A10:=A9.same s10
    have B10:=B9.same s10
    refine⟨p',d1',d2',ts',es',p1,[0],0,0,.ref t9,by rw[leo],B10,by omega,g10,by simp,by decide,(fun x hx=>.inl (List.mem_singleton.mp hx)),(fun x hx=>by rw[List.mem_singleton.mp hx];have:=tw.e1;obtain⟨e,h,_⟩:=this;have:=(List.getElem?_eq_some_iff.mp h).1;omega),fun H11 e11 ms11 s11 ri11 el11 B11=>⟨_,rfl,?_⟩⟩
    rw[if_neg (by decide)]
    have em:ms11=[0]:=by
     have:=Rise.uniq (ys:=[V.int 0]) (zs:=ms11.map V.int) (fun v hv=>by rw[List.mem_singleton.mp hv];show -(10 ^ 30:Int) < 0/\(0:Int) < 10 ^ 30;decide) (List.pairwise_singleton _ _) ri11.up fun v=>by rw[ri11.mem];rfl
     exact((List.map_inj_right (fun x y h=>V.int.inj h)).mp (show List.map V.int [0]=ms11.map V.int from this)).symm
    subst em
    have A11:=B10.other A10 ap.ba s11 g10
    have t911:SameT H9 H11:=s10.t.trans (B10.t4 s11 g10)
    have o11:=B10.lst s11 (s10 _ _ o9) (n1 o9)
    have k11:=B10.lst s11 (s10 _ _ k9) (n1 k9)
    have t11:=B10.lst s11 (s10 _ _ t9') (n1 t9')
    have ss11:Same H H11:=same_fresh (ss9.trans s10) s11 fun b hb=>by
     rcases in4 b hb with z | z
     ·exact ap.f2 b z
     ·rw[z];exact none_of ss9 hp1
    refine⟨.inl ⟨rfl,_,SqL.of o11⟩,oth,o11,small1000 (by omega),_,_,_,_,_,_,_,_,_,_,_,⟨rfl,rfl,rfl,rfl⟩,⟨same_updN ss11 ap.fo,A11.updL o11,B11.updL o11,by rw[upd_ne ap.ko];exact k11,by rw[upd_ne ap.to];exact t11,upd_same,kp9.sameT (t911.trans (sameT_lst o11)),tp9.sameT (t911.trans (sameT_lst o11)),Paired.snoc (op9.sameT (t911.trans (sameT_lst o11))) ⟨zs,tb9.sameT (t911.trans (sameT_lst o11)),tb9.sameT (t911.trans (sameT_lst o11))⟩,fun j e he=>?_,?_⟩,by simp;omega,by simp;omega⟩
    ·by_cases hj:j+1 < es'.length
     ·rw[List.getElem?_append_left hj]at he
      exact(e09 j e he).sameT (t911.trans (sameT_lst o11))
     ·rw[List.getElem?_append_right (by omega)]at he
      have h0:j+1 - es'.length=0:=by
       cases w:j+1 - es'.length with
       | zero=>rfl
       | succ m=>rw[w]at he;simp at he
      rw[h0]at he
      simp at he
      subst he
      exact el11.sameT (sameT_lst o11)
    ·obtain⟨e,h,g⟩:=e19
     exact⟨e,by rw[List.getElem?_append_left (List.getElem?_eq_some_iff.mp h).1];exact h,g.sameT (t911.trans (sameT_lst o11))⟩
   ·exact⟨_,_,_,_,_,_,_,_,_,_,_,⟨rfl,rfl,rfl,rfl⟩,⟨ss9,A9,B9,k9,t9',o9,kp9,tp9,op9,e09,e19⟩,by simp;omega,by omega⟩
  ·rintro σ' H' ⟨ts,es,ts',es',kin,tab,oth,x6,x7,x8,x9,rfl,tw,lts,lts'⟩
   refine hR2 _ _ ?_
   clear hR2
   walk_at "rd"
   have leo:=Paired.length tw.op
   have hleb:=tw.b.len
   refine⟨by decide,fun q1 hq1=>⟨one_sz _,fun q2 hq2=>?_⟩⟩
   have s1:=same_upd hq1 (.tup [])
   have g1:upd H' q1 (.tup []) q1=some (.tup []):=upd_same
   generalize upd H' q1 (.tup [])=H1 at s1 g1 hq2 ⊢
   have s2:=same_upd hq2 (.lst [.ref q1])
   have g2:upd H1 q2 (.lst [.ref q1]) q2=some (.lst [.ref q1]):=upd_same
   generalize upd H1 q2 (.lst [.ref q1])=H2 at s2 g2 ⊢
   have s12:=s1.trans s2
   refine⟨oth,SqL.of (s12 _ _ tw.o),fun q3 hq3=>?_⟩
   have s3:=same_upd hq3 (.lst (cutV oth (some 1) none))
   have g3:upd H2 q3 (.lst (cutV oth (some 1) none)) q3=some (.lst (cutV oth (some 1) none)):=upd_same
   generalize upd H2 q3 (.lst (cutV oth (some 1) none))=H3 at s3 g3 ⊢
   have ec:cutV oth (some 1) none=oth.drop 1:=cutB oth 1
   rw[ec]at g3
   refine⟨⟨_,SqL.of g3⟩,lcR_listT (oth.drop 1) (fun H i v=>ElT H v [0]) (fun H H' i v st h=>h.sameT st) (SqL.of g3) (small_le (by rw[List.length_drop];omega)) (fun i x H4 R _ s4 hR=>?_) fun r H4 xs hr0 s4 hr4 le pe=>?_⟩
   ·walk_at "rd"
    exact⟨one_sz _,fun q4 hq4=>hR _ _ ⟨q4,rfl,upd_same⟩ (same_upd hq4 _)⟩
   have s14:=s12.trans (s3.trans s4)
   refine⟨r,rfl,_,s4 _ _ (s3 _ _ g2),xs,hr4,small_le (by simp at le ⊢;omega),fun q5 hq5=>?_⟩
   have s5:=same_upd hq5 (.lst ([.ref q1]++xs))
   have g5:upd H4 q5 (.lst ([.ref q1]++xs)) q5=some (.lst ([.ref q1]++xs)):=upd_same
   generalize upd H4 q5 (.lst ([.ref q1]++xs))=H5 at s5 g5 ⊢
   have s15:=s14.trans s5
   have kp5:KinP H5 es' ([.ref q1]++xs):=by
    obtain⟨e,he,g⟩:=tw.e1
    cases es' with
    | nil=>cases he
    | cons e' r' =>
     cases he
     refine .cons ⟨[],g.sameT s15.t,⟨q1,rfl,s5 _ _ (s4 _ _ (s3 _ _ (s2 _ _ g1)))⟩⟩ ?_
     refine paired_of (by simp at le hleb ⊢;omega) fun i x y hx hy=>⟨[0],(tw.e0 i x hx).sameT s15.t,(pe i y hy).sameT s5.t⟩
   refine⟨p',d1',d2',ts',es',q5,lo,_,oth,rfl,tw.b.same s15,g5,s15 _ _ tw.o,kp5,tw.op.sameT s15.t,by omega,fun H6 s6=>⟨_,rfl,?_⟩⟩
   rw[if_neg (by decide)]
   have s16:=s15.trans s6
   exact⟨p,d1,d2,ts,es,lk,lt,kin,tab,rfl,tw.a.same s16,s16 _ _ tw.k,s16 _ _ tw.t,tw.kp.sameT s16.t,tw.tp.sameT s16.t,by omega,fun H7 _=>q H7⟩
 clear hR
 walk_at "rd"
 intro p dx hp hdx hne
 refine⟨p,dx,rfl,upd_same,fun d1 d2 t1 e1 H1 fs f1 f2 s1 hA tb1 el1=>⟨rfl,?_⟩⟩
 have x1:Same H (upd (upd H dx (.own p)) p (.ins (ob 0) dx [])):=same_mk hp hdx (Same.refl _)
 have fd1:=none_of x1 f1
 have fd2:=none_of x1 f2
 rw[upd_upd]at s1
 have sA:Same H H1:=same_mk hp hdx s1
 clear s1 x1 f1 f2
 intro p' dx' hp' hdx' hne'
 refine⟨p',dx',rfl,upd_same,fun d1' d2' t2 e2 H2 fs' f1 f2 s2 hB tb2 el2=>⟨rfl,?_⟩⟩
 have x2:Same H1 (upd (upd H1 dx' (.own p')) p' (.ins (ob 0) dx' [])):=same_mk hp' hdx' (Same.refl _)
 have fd1':=none_of x2 f1
 have fd2':=none_of x2 f2
 rw[upd_upd]at s2
 have sB:Same H1 H2:=same_mk hp' hdx' s2
 clear s2 x2 f1 f2
 have hA2:=hA.same sB
 have tb12:=tb1.sameT sB.t
 have el12:=el1.sameT sB.t
 have n1:∀ x∈[p',d1',d2'],H1 x=none:=fun x hx=>by
  simp only[List.mem_cons,List.not_mem_nil,or_false]at hx
  rcases hx with rfl | rfl | rfl <;> assumption
 have sm1:∀ x∈[p,d1,d2],∃ o,H1 x=some o:=fun x hx=>by
  simp only[List.mem_cons,List.not_mem_nil,or_false]at hx
  obtain⟨dx1,ho1⟩:=hA.obj
  rcases hx with rfl | rfl | rfl
  ·exact⟨_,ho1⟩
  ·exact⟨_,hA.tab⟩
  ·exact⟨_,hA.eld⟩
 have ab:∀ x∈[p',d1',d2'],x∉[p,d1,d2]:=fun x hx z=>by
  obtain⟨o,e⟩:=sm1 x z
  rw[n1 x hx]at e;cases e
 have ba:∀ x∈[p,d1,d2],x∉[p',d1',d2']:=fun x hx z=>ab x z hx
 have s02:=sA.trans sB
 refine⟨by decide,fun a1 ha1=>⟨one_sz _,?_⟩⟩
 have s3:=same_upd ha1 (.tup [])
 have g3:upd H2 a1 (.tup []) a1=some (.tup []):=upd_same
 generalize upd H2 a1 (.tup [])=H3 at s3 g3 ⊢
 intro lk hlk
 refine⟨by decide,?_⟩
 have s4:=same_upd hlk (.lst [.ref a1])
 have g4:upd H3 lk (.lst [.ref a1]) lk=some (.lst [.ref a1]):=upd_same
 generalize upd H3 lk (.lst [.ref a1])=H4 at s4 g4 ⊢
 intro a2 ha2
 refine⟨two_ok,?_⟩
 have s5:=same_upd ha2 (.tup [])
 have g5:upd H4 a2 (.tup []) a2=some (.tup []):=upd_same
 generalize upd H4 a2 (.tup [])=H5 at s5 g5 ⊢
 intro a3 ha3
 refine⟨one_sz _,?_⟩
 have s6:=same_upd ha3 (.tup [.ref a2,.non])
 have g6:upd H5 a3 (.tup [.ref a2,.non]) a3=some (.tup [.ref a2,.non]):=upd_same
 generalize upd H5 a3 (.tup [.ref a2,.non])=H6 at s6 g6 ⊢
 intro lt hlt
 refine⟨by decide,?_⟩
 have s7:=same_upd hlt (.lst [.ref a3])
 have g7:upd H6 lt (.lst [.ref a3]) lt=some (.lst [.ref a3]):=upd_same
 generalize upd H6 lt (.lst [.ref a3])=H7 at s7 g7 ⊢
 intro a4 ha4
 refine⟨two_ok,?_⟩
 have s8:=same_upd ha4 (.tup [])
 have g8:upd H7 a4 (.tup []) a4=some (.tup []):=upd_same
 generalize upd H7 a4 (.tup [])=H8 at s8 g8 ⊢
 intro a5 ha5
 refine⟨one_sz _,?_⟩
 have s9:=same_upd ha5 (.tup [.ref a4,.non])
 have g9:upd H8 a5 (.tup [.ref a4,.non]) a5=some (.tup [.ref a4,.non]):=upd_same
 generalize upd H8 a5 (.tup [.ref a4,.non])=H9 at s9 g9 ⊢
 intro lo hlo
 have s10:=same_upd hlo (.lst [.ref a5])
 have g10:upd H9 lo (.lst [.ref a5]) lo=some (.lst [.ref a5]):=upd_same
 generalize upd H9 lo (.lst [.ref a5])=H10 at s10 g10 ⊢
 have s910:=s10
 have s810:=s9.trans s910
 have s710:=s8.trans s810
 have s610:=s7.trans s710
 have s510:=s6.trans s610
 have s410:=s5.trans s510
 have s310:=s4.trans s410
 have s210:=s3.trans s310
 have s69:=s7.trans (s8.trans s9)
 have s39:=s4.trans (s5.trans (s6.trans s69))
 have s36:=s4.trans (s5.trans s6)
 refine go p d1 d2 p' d1' d2' lk lt lo H10 _ _ _ _ _ _ _ ⟨ab,ba,ne_of_none (s6 _ _ (s5 _ _ g4)) hlt,ne_of_none ((s5.trans (s6.trans s69)) _ _ g4) hlo,ne_of_none ((s8.trans s9) _ _ g7) hlo,fun b hb=>?_,fun b hb=>none_of sA (n1 b hb),none_of (s02.trans s3) hlk,none_of (s02.trans (s3.trans s36)) hlt,none_of (s02.trans (s3.trans s39)) hlo⟩ ⟨s02.trans s210,hA2.same s210,hB.same s210,s410 _ _ g4,s710 _ _ g7,g10,.cons ⟨[],el12.sameT s210.t,⟨a1,rfl,s310 _ _ g3⟩⟩ .nil,.cons ⟨[],tb12.sameT s210.t,⟨a3,a2,rfl,s610 _ _ g6,s510 _ _ g5⟩⟩ .nil,.cons ⟨[],tb2.sameT s210.t,⟨a5,a4,rfl,s910 _ _ g9,s810 _ _ g8⟩⟩ .nil,fun i e h=>by simp at h,⟨e2,rfl,el2.sameT s210.t⟩⟩ rfl rfl
 simp only[List.mem_cons,List.not_mem_nil,or_false]at hb
 rcases hb with rfl | rfl | rfl <;> assumption
theorem law_sp{K:PySem.W.Frag}{H:Hp}{a:Addr}{ns:List Int}(hl:ns.length<=63)(_:∀ i∈ns,Builtin.Int.intBits i<=2 ^ 20)(hS:SqL K H a (ns.map V.int)):sp_law K [.ref a] H (fun v _=>v=.bl true) fun _ _ _=>False :=
 ⟨a,ns,rfl,hS,hl,fun _=>rfl⟩
theorem all_mk{l:PySem.W.OpenLaw}{w:World}{K:PySem.W.Frag}{h:Heap}{mg:Str->Option Value}{fa:Addr}(X:K.In h)(G:h.Ns mainGlobals mg)(hfa:mg "law"=some (.ref fa))
 (ta:PySem.W.specialIn K (.builtin "object.__class__") "__get__"=some (some (.builtin "getset_descriptor.__get__"))) (tb:PySem.W.takesIn K (.builtin "object.__class__")=some true)
 {O0:Addr} (oa0:PySem.W.nsIn K mainGlobals "Makes"=some (some (.ref O0))) (of0:PySem.W.clsFacts K O0 ["table_by_number","elders_by_number","count"]=true)
 (om0:PySem.W.makesIn K O0=true) (ok0:PySem.W.keepIn K (.ref O0)=true)
 (oo:PySem.W.mtxOk K [O0] isaM=true)
 {CT:Addr} {thd:Bool} {ynm yq:Str} {yN:Addr} {ybs:List Value} {ysn:List Str} {ysub:List Value} {yab:Bool} {ycol:Option Bool} {ydd:Option Addr} {yk0 yk1 yk2 yk3 yk5:Option Value}
 (t1:PySem.W.nsIn K mainGlobals "TableError"=some (some (.ref CT))) (t2:K.lookup CT=some (excClassObj ynm yq CT yN ybs PySem.W.bmV thd ysn ysub yab ycol ydd yk0 yk1 yk2 yk3 yk5 "ValueError.__new__")) (t3:PySem.W.nsOkIn K yN=true) (t4:PySem.W.nsIn K yN "__init__"=some none) (t5:PySem.W.tailIn K PySem.W.bmV PySem.W.bmV=true)
 (t6:PySem.W.specialIn K (.ref CT) "__getattribute__"=some (some (.builtin "type.__getattribute__"))) (t7:PySem.W.readsIn K CT (.type "type")=true) (t8:PySem.W.findCls K (.ref CT) (.type "type") "__init__"=some (.val (.builtin "ValueError.__init__")))
 (t9:PySem.W.tailIn K PySem.W.bmV (.ref CT::PySem.W.bmV)=true)
 {C0:Addr} {v0nm v0q:Str} {v0N:Addr} {v0bs:List Value} {v0sn:List Str} {v0sub:List Value} {v0ab:Bool} {v0col:Option Bool} {v0dd:Option Addr} {v0k0 v0k1 v0k2 v0k3 v0k5:Option Value}
 (p0:PySem.W.nsIn K mainGlobals "NoMake"=some (some (.ref C0))) (q0:K.lookup C0=some (excClassObj v0nm v0q C0 v0N v0bs (.ref CT::PySem.W.bmV) true v0sn v0sub v0ab v0col v0dd v0k0 v0k1 v0k2 v0k3 v0k5 "ValueError.__new__")) (r0:PySem.W.nsOkIn K v0N=true) (u0:PySem.W.xFacts K C0 ["number"]=true)
 (o0:PySem.W.keepIn K (.ref C0)=true)
 {C1:Addr} {v1nm v1q:Str} {v1N:Addr} {v1bs:List Value} {v1sn:List Str} {v1sub:List Value} {v1ab:Bool} {v1col:Option Bool} {v1dd:Option Addr} {v1k0 v1k1 v1k2 v1k3 v1k5:Option Value}
 (p1:PySem.W.nsIn K mainGlobals "BadElders"=some (some (.ref C1))) (q1:K.lookup C1=some (excClassObj v1nm v1q C1 v1N v1bs (.ref CT::PySem.W.bmV) true v1sn v1sub v1ab v1col v1dd v1k0 v1k1 v1k2 v1k3 v1k5 "ValueError.__new__")) (r1:PySem.W.nsOkIn K v1N=true) (u1:PySem.W.xFacts K C1 ["number"]=true)
 (i1:PySem.W.nsIn K v1N "__init__"=some none)
 (tt:PySem.W.tabOk K [C0,C1]=true) (tu:PySem.W.tvOk K [C0,C1]=true)
 {f1:Addr} {d1:FuncData}
 (a1:PySem.W.findIn K (.ref C0) "__init__"=some (some (.ref f1))) (j1:PySem.W.isFn K (.ref f1)=true)
 (F1:Fun K "__init__" "NoMake.__init__" s_NoMake_init f1 d1)
 {f2:Addr} {d2:FuncData}
 (a2:PySem.W.nsIn K mainGlobals "rank_of"=some (some (.ref f2)))
 (F2:Fun K "rank_of" "rank_of" s_rank_of f2 d2)
 {f3:Addr} {d3:FuncData}
 (a3:PySem.W.nsIn K mainGlobals "no_table"=some (some (.ref f3)))
 (F3:Fun K "no_table" "no_table" s_no_table f3 d3)
 {f4:Addr} {d4:FuncData}
 (a4_0:PySem.W.findIn K (.ref O0) "numbers"=some (some (.ref f4)))
 (j4:PySem.W.isFn K (.ref f4)=true)
 (F4:Fun K "numbers" "Makes.numbers" s_Makes_numbers f4 d4)
 {f5:Addr} {d5:FuncData}
 (a5_0:PySem.W.findIn K (.ref O0) "dealt"=some (some (.ref f5)))
 (j5:PySem.W.isFn K (.ref f5)=true)
 (F5:Fun K "dealt" "Makes.dealt" s_Makes_dealt f5 d5)
 {f6:Addr} {d6:FuncData}
 (a6:PySem.W.nsIn K mainGlobals "_law_whole"=some (some (.ref f6)))
 (F6:Fun K "_law_whole" "_law_whole" s__law_whole f6 d6)
 {f7:Addr} {d7:FuncData}
 (a7:PySem.W.nsIn K mainGlobals "_law_number"=some (some (.ref f7)))
 (F7:Fun K "_law_number" "_law_number" s__law_number f7 d7)
 {f8:Addr} {d8:FuncData}
 (a8:PySem.W.nsIn K mainGlobals "_law_elders"=some (some (.ref f8)))
 (F8:Fun K "_law_elders" "_law_elders" s__law_elders f8 d8)
 {f9:Addr} {d9:FuncData}
 (a9:PySem.W.nsIn K mainGlobals "_law_word"=some (some (.ref f9)))
 (F9:Fun K "_law_word" "_law_word" s__law_word f9 d9)
 {f10:Addr} {d10:FuncData}
 (a10:PySem.W.nsIn K mainGlobals "before"=some (some (.ref f10)))
 (F10:Fun K "before" "before" s_before f10 d10)
 {f11:Addr} {d11:FuncData}
 (a11_0:PySem.W.findIn K (.ref O0) "__init__"=some (some (.ref f11)))
 (j11:PySem.W.isFn K (.ref f11)=true)
 (F11:Fun K "__init__" "Makes.__init__" s_Makes_init f11 d11)
 {f12:Addr} {d12:FuncData}
 (a12:PySem.W.nsIn K mainGlobals "_law_table"=some (some (.ref f12)))
 (F12:Fun K "_law_table" "_law_table" s__law_table f12 d12)
 {f13:Addr} {d13:FuncData}
 (a13_0:PySem.W.findIn K (.ref O0) "ask"=some (some (.ref f13)))
 (j13:PySem.W.isFn K (.ref f13)=true)
 (F13:Fun K "ask" "Makes.ask" s_Makes_ask f13 d13)
 {f14:Addr} {d14:FuncData}
 (a14:PySem.W.nsIn K mainGlobals "in_order"=some (some (.ref f14)))
 (F14:Fun K "in_order" "in_order" s_in_order f14 d14)
 {f15:Addr} {d15:FuncData}
 (a15_0:PySem.W.findIn K (.ref O0) "elders"=some (some (.ref f15)))
 (j15:PySem.W.isFn K (.ref f15)=true)
 (F15:Fun K "elders" "Makes.elders" s_Makes_elders f15 d15)
 {f16:Addr} {d16:FuncData}
 (a16_0:PySem.W.findIn K (.ref O0) "table"=some (some (.ref f16)))
 (j16:PySem.W.isFn K (.ref f16)=true)
 (F16:Fun K "table" "Makes.table" s_Makes_table f16 d16)
 {f17:Addr} {d17:FuncData}
 (a17_0:PySem.W.findIn K (.ref O0) "made"=some (some (.ref f17)))
 (j17:PySem.W.isFn K (.ref f17)=true)
 (F17:Fun K "made" "Makes.made" s_Makes_made f17 d17)
 {f18:Addr} {d18:FuncData}
 (a18:PySem.W.nsIn K mainGlobals "_law_told"=some (some (.ref f18)))
 (F18:Fun K "_law_told" "_law_told" s__law_told f18 d18)
 {f19:Addr} {d19:FuncData}
 (a19:PySem.W.nsIn K mainGlobals "_law_all"=some (some (.ref f19)))
 (F19:Fun K "_law_all" "_law_all" s__law_all f19 d19)
 {f20:Addr} {d20:FuncData}
 (a20:PySem.W.nsIn K mainGlobals "_law_new"=some (some (.ref f20)))
 (F20:Fun K "_law_new" "_law_new" s__law_new f20 d20)
 {f21:Addr} {d21:FuncData}
 (a21:PySem.W.nsIn K mainGlobals "law"=some (some (.ref f21)))
 (F21:Fun K "law" "law" s_law f21 d21)
 (z1:PySem.W.nsIn K mainGlobals "bool"=some none)
 (z2:PySem.W.nsIn K mainGlobals "int"=some none)
 (z3:PySem.W.nsIn K mainGlobals "isinstance"=some none)
 (z4:PySem.W.nsIn K mainGlobals "len"=some none)
 (z5:PySem.W.nsIn K mainGlobals "list"=some none)
 (z6:PySem.W.nsIn K mainGlobals "min"=some none)
 (z7:PySem.W.nsIn K mainGlobals "range"=some none)
 (z8:PySem.W.nsIn K mainGlobals "set"=some none)
 (z9:PySem.W.nsIn K mainGlobals "sorted"=some none)
 (z10:PySem.W.nsIn K mainGlobals "str"=some none)
 (z11:PySem.W.nsIn K mainGlobals "tuple"=some none)
 : ∃ fd:FuncData,(∀ (s:Shared) (v:Value),BindsTo s fd ⟨[v],[]⟩ [("_law_script",v)])/\∀ base:Heap,K.In base->base.Ns mainGlobals mg->FnOk l.prog w K mg base CX0 7 fa fd ["_law_script"] (sp_law K):=by
 have e:=hfa.symm.trans (PySem.W.mg_of X G a21)
 cases e
 have k1:=F1.kp
 have b1:=F1.binds (ps:=["self","number"]) fun _ _ _ _ _ _ us hl=>match us,hl with | [_,_],_=>rfl
 have k2:=F2.kp
 have b2:=F2.binds (ps:=["value"]) fun _ _ _ _ _ _ us hl=>match us,hl with | [_],_=>rfl
 have k3:=F3.kp
 have b3:=F3.binds (ps:=[]) fun _ _ _ _ _ _ us hl=>match us,hl with | [],_=>rfl
 have k4:=F4.kp
 have b4:=F4.binds (ps:=["self"]) fun _ _ _ _ _ _ us hl=>match us,hl with | [_],_=>rfl
 have k5:=F5.kp
 have b5:=F5.binds (ps:=["self"]) fun _ _ _ _ _ _ us hl=>match us,hl with | [_],_=>rfl
 have k6:=F6.kp
 have b6:=F6.binds (ps:=["_law_found"]) fun _ _ _ _ _ _ us hl=>match us,hl with | [_],_=>rfl
 have k7:=F7.kp
 have b7:=F7.binds (ps:=["_law_script","_law_k"]) fun _ _ _ _ _ _ us hl=>match us,hl with | [_,_],_=>rfl
 have k8:=F8.kp
 have b8:=F8.binds (ps:=["_law_number_here","_law_k"]) fun _ _ _ _ _ _ us hl=>match us,hl with | [_,_],_=>rfl
 have k9:=F9.kp
 have b9:=F9.binds (ps:=["_law_number_here"]) fun _ _ _ _ _ _ us hl=>match us,hl with | [_],_=>rfl
 have k10:=F10.kp
 have b10:=F10.binds (ps:=["one","other"]) fun _ _ _ _ _ _ us hl=>match us,hl with | [_,_],_=>rfl
 have k11:=F11.kp
 have b11:=F11.binds (ps:=["self"]) fun _ _ _ _ _ _ us hl=>match us,hl with | [_],_=>rfl
 have k12:=F12.kp
 have b12:=F12.binds (ps:=["_law_number_here"]) fun _ _ _ _ _ _ us hl=>match us,hl with | [_],_=>rfl
 have k13:=F13.kp
 have b13:=F13.binds (ps:=["self","number"]) fun _ _ _ _ _ _ us hl=>match us,hl with | [_,_],_=>rfl
 have k14:=F14.kp
 have b14:=F14.binds (ps:=["values"]) fun _ _ _ _ _ _ us hl=>match us,hl with | [_],_=>rfl
 have k15:=F15.kp
 have b15:=F15.binds (ps:=["self","number"]) fun _ _ _ _ _ _ us hl=>match us,hl with | [_,_],_=>rfl
 have k16:=F16.kp
 have b16:=F16.binds (ps:=["self","number"]) fun _ _ _ _ _ _ us hl=>match us,hl with | [_,_],_=>rfl
 have k17:=F17.kp
 have b17:=F17.binds (ps:=["self","elders","table"]) fun _ _ _ _ _ _ us hl=>match us,hl with | [_,_,_],_=>rfl
 have k18:=F18.kp
 have b18:=F18.binds (ps:=["_law_makes","_law_number_here","_law_elders_here","_law_table_here"]) fun _ _ _ _ _ _ us hl=>match us,hl with | [_,_,_,_],_=>rfl
 have k19:=F19.kp
 have b19:=F19.binds (ps:=["_law_makes","_law_kin","_law_tables"]) fun _ _ _ _ _ _ us hl=>match us,hl with | [_,_,_],_=>rfl
 have k20:=F20.kp
 have b20:=F20.binds (ps:=["_law_makes","_law_handed","_law_table_here","_law_due"]) fun _ _ _ _ _ _ us hl=>match us,hl with | [_,_,_,_],_=>rfl
 have k21:=F21.kp
 have b21:=F21.binds (ps:=["_law_script"]) fun _ _ _ _ _ _ us hl=>match us,hl with | [_],_=>rfl
 have Z:Zs mg:=⟨PySem.W.mg_none_of X G z1,PySem.W.mg_none_of X G z2,PySem.W.mg_none_of X G z3,PySem.W.mg_none_of X G z4,PySem.W.mg_none_of X G z5,PySem.W.mg_none_of X G z6,PySem.W.mg_none_of X G z7,PySem.W.mg_none_of X G z8,PySem.W.mg_none_of X G z9,PySem.W.mg_none_of X G z10,PySem.W.mg_none_of X G z11⟩
 have X0:PySem.W.XCl K C0 CT:=PySem.W.XCl.of ⟨v0nm,v0q,v0N,v0bs,v0sn,v0sub,v0ab,v0col,v0dd,v0k0,v0k1,v0k2,v0k3,v0k5,q0,r0⟩ t9 u0 ta tb
 have X1:PySem.W.XCl K C1 CT:=PySem.W.XCl.of ⟨v1nm,v1q,v1N,v1bs,v1sn,v1sub,v1ab,v1col,v1dd,v1k0,v1k1,v1k2,v1k3,v1k5,q1,r1⟩ t9 u1 ta tb
 have T:Tx K mg CT (fun i=>[C0,C1].getD i 0) (fun i=>[O0].getD i 0):=⟨PySem.W.mg_of X G oa0,
  fun i hi=>match i,hi with | 0,_=>ObC.of of0 ta tb | m+1,h=>absurd h (by omega),
  PySem.W.mtx_of oo,
  ⟨PySem.W.mg_of X G t1,⟨⟨ynm,yq,yN,ybs,thd,ysn,ysub,yab,ycol,ydd,yk0,yk1,yk2,yk3,yk5,t2,t3,t4⟩,t5⟩,t6,t7,t8⟩,
  PySem.W.mg_of X G p0,
  PySem.W.mg_of X G p1,
  ⟨⟨v1nm,v1q,v1N,v1bs,true,v1sn,v1sub,v1ab,v1col,v1dd,v1k0,v1k1,v1k2,v1k3,v1k5,q1,r1,i1⟩,t9⟩,
  fun i hi=>match i,hi with | 0,_=>X0 | 1,_=>X1 | m+2,h=>absurd h (by omega),
  fun i hi=>match i,hi with | 0,_=>fun f hf=>PySem.W.xFacts_no u0 hf | 1,_=>fun f hf=>PySem.W.xFacts_no u1 hf | m+2,h=>absurd h (by omega),
  PySem.W.xtab_of tt,
  PySem.W.xtv_of tu⟩
 have FL:=F21
 obtain⟨_,_,kV,dc,pm,an,cdv,ct,_,rfl,_,_⟩:=FL.ex
 refine⟨PySem.W.fnOf "law" "law" (defArgs s_law) (defBody s_law) (defScope s_law) .none kV dc pm an cdv ct,fun s v=>.of_eq rfl,fun base _ _=>?_⟩
 have K_NoMake:MkX l.prog w K mg base 1 "NoMake" C0 CT ["number"]:=⟨_,_,_,ok_NoMake_init Z T F1,b1,X0,a1,j1,o0,PySem.W.mg_of X G p0⟩
 have C_rank_of:Cal l.prog w K mg base 1 "rank_of" ["value"] (sp_rank_of K):=⟨_,_,ok_rank_of Z T  F2,b2,k2,PySem.W.mg_of X G a2⟩
 have C_no_table:Cal l.prog w K mg base 1 "no_table" [] (sp_no_table K):=⟨_,_,ok_no_table Z T  F3,b3,k3,PySem.W.mg_of X G a3⟩
 have M_Makes_numbers:MeV l.prog w K mg base 1 O0 "numbers" (sp_Makes_numbers K (fun i=>[C0,C1].getD i 0) (fun i=>[O0].getD i 0)):=⟨_,_,_,⟨a4_0,j4,k4⟩,ok_Makes_numbers Z T  F4,b4⟩
 have M_Makes_dealt:MeV l.prog w K mg base 1 O0 "dealt" (sp_Makes_dealt K (fun i=>[C0,C1].getD i 0) (fun i=>[O0].getD i 0)):=⟨_,_,_,⟨a5_0,j5,k5⟩,ok_Makes_dealt Z T  F5,b5⟩
 have C__law_whole:Cal l.prog w K mg base 1 "_law_whole" ["_law_found"] (sp__law_whole K):=⟨_,_,ok__law_whole Z T  F6,b6,k6,PySem.W.mg_of X G a6⟩
 have C__law_number:Cal l.prog w K mg base 1 "_law_number" ["_law_script","_law_k"] (sp__law_number K):=⟨_,_,ok__law_number Z T  F7,b7,k7,PySem.W.mg_of X G a7⟩
 have C__law_elders:Cal l.prog w K mg base 1 "_law_elders" ["_law_number_here","_law_k"] (sp__law_elders K):=⟨_,_,ok__law_elders Z T  F8,b8,k8,PySem.W.mg_of X G a8⟩
 have C__law_word:Cal l.prog w K mg base 1 "_law_word" ["_law_number_here"] (sp__law_word K):=⟨_,_,ok__law_word Z T  F9,b9,k9,PySem.W.mg_of X G a9⟩
 have C_before:Cal l.prog w K mg base 2 "before" ["one","other"] (sp_before K):=⟨_,_,ok_before Z T C_rank_of F10,b10,k10,PySem.W.mg_of X G a10⟩
 have K_Makes:MkV l.prog w K mg base 2 "Makes" O0 (sp_Makes_init K (fun i=>[O0].getD i 0)):=⟨_,_,_,⟨om0,a11_0,j11,ok0⟩,ok_Makes_init Z T C_no_table F11,b11,PySem.W.mg_of X G oa0⟩
 have C__law_table:Cal l.prog w K mg base 2 "_law_table" ["_law_number_here"] (sp__law_table K):=⟨_,_,ok__law_table Z T C__law_word F12,b12,k12,PySem.W.mg_of X G a12⟩
 have M_Makes_ask:MeV l.prog w K mg base 3 O0 "ask" (sp_Makes_ask K (fun i=>[C0,C1].getD i 0) (fun i=>[O0].getD i 0)):=⟨_,_,_,⟨a13_0,j13,k13⟩,ok_Makes_ask Z T K_NoMake F13,b13⟩
 have C_in_order:Cal l.prog w K mg base 4 "in_order" ["values"] (sp_in_order K):=⟨_,_,ok_in_order Z T C_before C_rank_of F14,b14,k14,PySem.W.mg_of X G a14⟩
 have M_Makes_elders:MeV l.prog w K mg base 4 O0 "elders" (sp_Makes_elders K (fun i=>[C0,C1].getD i 0) (fun i=>[O0].getD i 0)):=⟨_,_,_,⟨a15_0,j15,k15⟩,ok_Makes_elders Z T M_Makes_ask F15,b15⟩
 have M_Makes_table:MeV l.prog w K mg base 4 O0 "table" (sp_Makes_table K (fun i=>[C0,C1].getD i 0) (fun i=>[O0].getD i 0)):=⟨_,_,_,⟨a16_0,j16,k16⟩,ok_Makes_table Z T M_Makes_ask F16,b16⟩
 have M_Makes_made:MeV l.prog w K mg base 5 O0 "made" (sp_Makes_made K (fun i=>[C0,C1].getD i 0) (fun i=>[O0].getD i 0)):=⟨_,_,_,⟨a17_0,j17,k17⟩,ok_Makes_made Z T C_in_order M_Makes_ask F17,b17⟩
 have C__law_told:Cal l.prog w K mg base 5 "_law_told" ["_law_makes","_law_number_here","_law_elders_here","_law_table_here"] (sp__law_told K (fun i=>[C0,C1].getD i 0) (fun i=>[O0].getD i 0)):=⟨_,_,ok__law_told Z T C__law_whole M_Makes_elders M_Makes_table F18,b18,k18,PySem.W.mg_of X G a18⟩
 have C__law_all:Cal l.prog w K mg base 6 "_law_all" ["_law_makes","_law_kin","_law_tables"] (sp__law_all K (fun i=>[C0,C1].getD i 0) (fun i=>[O0].getD i 0)):=⟨_,_,ok__law_all Z T C__law_whole C__law_told M_Makes_numbers M_Makes_dealt F19,b19,k19,PySem.W.mg_of X G a19⟩
 have C__law_new:Cal l.prog w K mg base 6 "_law_new" ["_law_makes","_law_handed","_law_table_here","_law_due"] (sp__law_new K (fun i=>[C0,C1].getD i 0) (fun i=>[O0].getD i 0)):=⟨_,_,ok__law_new Z T C__law_whole M_Makes_made F20,b20,k20,PySem.W.mg_of X G a20⟩
 exact ok_law Z T C__law_all C__law_number C__law_elders C__law_table C__law_new C__law_told K_Makes F21
end My
def PySem.W.Fast.tw6539689753705401672:Nat:=0
def PySem.W.Fast.tw1425267214260948719:Nat:=0
def PySem.W.Fast.tw3097270204457596327:Nat:=0
def PySem.W.Fast.tw12005150606683911555:Nat:=0
def PySem.W.Fast.tw17323171138370698177:Nat:=0
def PySem.W.Fast.tw17940362094199712332:Nat:=0
def PySem.W.Fast.tw5699312770600610542:Nat:=0
def PySem.W.Fast.tw17624459626302453607:Nat:=0
def PySem.W.Fast.tw10959493734978707970:Nat:=0
def PySem.W.Fast.tw4017138427954788466:Nat:=0
def PySem.W.Fast.tw9129259108783762895:Nat:=0
def PySem.W.Fast.tw10871288489300678904:Nat:=0
def PySem.W.Fast.tw10115326951284016427:Nat:=0
def PySem.W.Fast.tw11094110292746706242:Nat:=0
def PySem.W.Fast.tw7107573108850754726:Nat:=0
def PySem.W.Fast.tw5698019319888391667:Nat:=0
def PySem.W.Fast.tw6682611620795011111:Nat:=0
def PySem.W.Fast.tw2797941751122899498:Nat:=0
open PySem PySem.W PyProof.Rows
local macro_rules | `(tactic| walk_at "fn") => `(tactic| exact L2.fun_mk (by k_is) (by k_is) (by k_is))
set_option maxRecDepth 100000 in
set_option maxHeartbeats 0 in
theorem PySem.Challenge.cw_twigtable_k41_makes_kept_holds : PySem.Challenge.rw_twigtable_k41_makes_kept.Holds := by
 w_on;o_law;k_head;(case hw=>w_witness2)
 k_fill
 refine L2.walk_ofB (l:=PySem.Challenge.rw_twigtable_k41_makes_kept) (n:=63) (k:=7) (x:="_law_script") (CX:=fun _=>L2.CX0) (sp:=My.sp_law) rfl (by decide) rfl ⟨rfl,by decide,by decide⟩ (fun w h Y=>PySem.W.kIn_of Y) ?F ?S ?C
 case F =>
  intro w mg fa h KX G hmg
  refine' My.all_mk KX G hmg ?ta ?tb ?oa0 ?of0 ?om0 ?ok0 ?oo ?t1 ?t2 ?t3 ?t4 ?t5 ?t6 ?t7 ?t8 ?t9 ?p0 ?q0 ?r0 ?u0 ?o0 ?p1 ?q1 ?r1 ?u1 ?i1 ?tt ?tu ?a1 ?j1 ?F1 ?a2 ?F2 ?a3 ?F3 ?a4_0 ?j4 ?F4 ?a5_0 ?j5 ?F5 ?a6 ?F6 ?a7 ?F7 ?a8 ?F8 ?a9 ?F9 ?a10 ?F10 ?a11_0 ?j11 ?F11 ?a12 ?F12 ?a13_0 ?j13 ?F13 ?a14 ?F14 ?a15_0 ?j15 ?F15 ?a16_0 ?j16 ?F16 ?a17_0 ?j17 ?F17 ?a18 ?F18 ?a19 ?F19 ?a20 ?F20 ?a21 ?F21 ?z1 ?z2 ?z3 ?z4 ?z5 ?z6 ?z7 ?z8 ?z9 ?z10 ?z11
  (case ta=>(first | rfl | kernel_rfl | decide +kernel))
  (case tb=>(first | rfl | kernel_rfl | decide +kernel))
  (case oa0=>k_is)
  (case of0=>(first | rfl | kernel_rfl | decide +kernel))
  (case om0=>k_is)
  (case ok0=>k_is)
  (case oo=>(first | rfl | kernel_rfl | decide +kernel))
  (case t1=>k_is)
  (case t2=>k_is)
  (case t3=>(first | rfl | kernel_rfl | decide +kernel))
  (case t4=>(first | rfl | kernel_rfl | decide +kernel))
  (case t5=>(first | rfl | kernel_rfl | decide +kernel))
  (case t6=>(first | rfl | kernel_rfl | decide +kernel))
  (case t7=>(first | rfl | kernel_rfl | decide +kernel))
  (case t8=>(first | rfl | kernel_rfl | decide +kernel))
  (case t9=>(first | rfl | kernel_rfl | decide +kernel))
  (case p0=>k_is)
  (case q0=>k_is)
  (case r0=>(first | rfl | kernel_rfl | decide +kernel))
  (case u0=>(first | rfl | kernel_rfl | decide +kernel))
  (case o0=>k_is)
  (case p1=>k_is)
  (case q1=>k_is)
  (case r1=>(first | rfl | kernel_rfl | decide +kernel))
  (case u1=>(first | rfl | kernel_rfl | decide +kernel))
  (case i1=>k_is)
  (case tt=>(first | rfl | kernel_rfl | decide +kernel))
  (case tu=>(first | rfl | kernel_rfl | decide +kernel))
  (case a1=>k_is)
  (case j1=>k_is)
  (case F1=>walk_at "fn")
  (case a2=>k_is)
  (case F2=>walk_at "fn")
  (case a3=>k_is)
  (case F3=>walk_at "fn")
  (case a4_0=>k_is)
  (case j4=>k_is)
  (case F4=>walk_at "fn")
  (case a5_0=>k_is)
  (case j5=>k_is)
  (case F5=>walk_at "fn")
  (case a6=>k_is)
  (case F6=>walk_at "fn")
  (case a7=>k_is)
  (case F7=>walk_at "fn")
  (case a8=>k_is)
  (case F8=>walk_at "fn")
  (case a9=>k_is)
  (case F9=>walk_at "fn")
  (case a10=>k_is)
  (case F10=>walk_at "fn")
  (case a11_0=>k_is)
  (case j11=>k_is)
  (case F11=>walk_at "fn")
  (case a12=>k_is)
  (case F12=>walk_at "fn")
  (case a13_0=>k_is)
  (case j13=>k_is)
  (case F13=>walk_at "fn")
  (case a14=>k_is)
  (case F14=>walk_at "fn")
  (case a15_0=>k_is)
  (case j15=>k_is)
  (case F15=>walk_at "fn")
  (case a16_0=>k_is)
  (case j16=>k_is)
  (case F16=>walk_at "fn")
  (case a17_0=>k_is)
  (case j17=>k_is)
  (case F17=>walk_at "fn")
  (case a18=>k_is)
  (case F18=>walk_at "fn")
  (case a19=>k_is)
  (case F19=>walk_at "fn")
  (case a20=>k_is)
  (case F20=>walk_at "fn")
  (case a21=>k_is)
  (case F21=>walk_at "fn")
  (case z1=>k_is)
  (case z2=>k_is)
  (case z3=>k_is)
  (case z4=>k_is)
  (case z5=>k_is)
  (case z6=>k_is)
  (case z7=>k_is)
  (case z8=>k_is)
  (case z9=>k_is)
  (case z10=>k_is)
  (case z11=>k_is)
 case S=>exact fun w H a ns hl hb hO hS=>My.law_sp hl hb hS
 case C=>exact fun _ _ _ _ _ z=>z
end
