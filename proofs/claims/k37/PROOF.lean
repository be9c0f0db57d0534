import PyProof.Rows.All
import Wide.All
import OpenK.AllK
import Wide.FinOn
import Lean
import PyProof.EqAt
import PyProof.EqKinds
import PyProof.TupleCall
import PyProof.NeKinds
import PyProof.StrOps2
import PySem.Challenge.RW_twigtable_k37_changes_in_a_row
set_option Elab.async false
set_option linter.all false
set_option maxRecDepth 100000
set_option maxHeartbeats 4000000
section
namespace L2
open PySem PySem.Spec PyProof.Rows
abbrev Key:=Sum Int Str
def keyIs:Key->Value->Bool
 | .inl k,v=>Value.isInt k v
 | .inr x,v=>Value.isStrOf x v
def keyH(w:World):Key->Int
 | .inl k=>hashInt k
 | .inr x=>hashStr w x
theorem keyIs_shape:∀ {k:Key} {v:Value},keyIs k v=true->(∃ i t,k=Sum.inl i/\v=Value.int i t)\/(∃ x t,k=Sum.inr x/\v=Value.str x t)
 | .inl i,v,h=>by
  obtain⟨t,e⟩:=Value.isInt_shape (k:=i) (v:=v) h
  exact .inl ⟨i,t,rfl,e⟩
 | .inr x,v,h=>by
  obtain⟨t,e⟩:=Value.isStrOf_shape (x:=x) (v:=v) h
  exact .inr ⟨x,t,rfl,e⟩
theorem keyIs_int(i:Int)(t:Tok):keyIs (.inl i) (.int i t)=true:=by simp[keyIs,Value.isInt]
theorem keyIs_str(x:Str)(t:Tok):keyIs (.inr x) (.str x t)=true:=by simp[keyIs,Value.isStrOf]
theorem key_ll(a b:Int):decide ((Sum.inl a:Key)=Sum.inl b)=(a == b):=by
 by_cases e:a=b
 ·subst e;simp
 ·have h:¬ (Sum.inl a:Key)=Sum.inl b:=fun q=>e (Sum.inl.inj q)
  rw[decide_eq_false h]
  exact(beq_eq_false_iff_ne.mpr e).symm
theorem key_rr(a b:Str):decide ((Sum.inr a:Key)=Sum.inr b)=decide (a=b):=by
 by_cases e:a=b
 ·subst e;simp
 ·have h:¬ (Sum.inr a:Key)=Sum.inr b:=fun q=>e (Sum.inr.inj q)
  rw[decide_eq_false h,decide_eq_false e]
theorem key_lr(a:Int)(b:Str):decide ((Sum.inl a:Key)=Sum.inr b)=false:=decide_eq_false (fun q=>nomatch q)
theorem key_rl(a:Str)(b:Int):decide ((Sum.inr a:Key)=Sum.inl b)=false:=decide_eq_false (fun q=>nomatch q)
def mixKind(prog:Program)(w:World):PySem.KeyKind prog w Key where
 is:=keyIs
 hash:=keyH w
 inj:=fun v a b ha hb=>by
  rcases keyIs_shape ha with ⟨i,t,rfl,rfl⟩ | ⟨x,t,rfl,rfl⟩
  ·rcases keyIs_shape hb with ⟨j,u,rfl,e⟩ | ⟨y,u,rfl,e⟩
   ·injection e with e1 _;rw[e1]
   ·exact nomatch e
  ·rcases keyIs_shape hb with ⟨j,u,rfl,e⟩ | ⟨y,u,rfl,e⟩
   ·exact nomatch e
   ·injection e with e1 _;rw[e1]
 byValue:=fun k v h=>by
  rcases keyIs_shape h with ⟨i,t,rfl,rfl⟩ | ⟨x,t,rfl,rfl⟩ <;> rfl
 pyHash:=fun hv h=>by
  rcases keyIs_shape hv with ⟨i,t,rfl,rfl⟩ | ⟨x,t,rfl,rfl⟩
  ·exact wpAny_pyHash_int h
  ·exact wpAny_pyHash_str h
 eqBool:=fun hu hv h=>by
  rcases keyIs_shape hu with ⟨i,t,rfl,rfl⟩ | ⟨x,t,rfl,rfl⟩
  ·rcases keyIs_shape hv with ⟨j,u,rfl,rfl⟩ | ⟨y,u,rfl,rfl⟩
   ·rw[key_ll]at h;exact wpAny_eqBool_int h
   ·rw[key_lr]at h;exact SeqAt.EqAt.int_str i t y u _ _ _ _ h
  ·rcases keyIs_shape hv with ⟨j,u,rfl,rfl⟩ | ⟨y,u,rfl,rfl⟩
   ·rw[key_rl]at h;exact SeqAt.EqAt.str_int x t j u _ _ _ _ h
   ·rw[key_rr]at h;exact wpAny_eqBool_str h
 «strs»:=fun k x t v h=>by
  rcases keyIs_shape h with ⟨i,u,rfl,e⟩ | ⟨y,u,rfl,e⟩
  ·exact nomatch e
  ·injection e with e1 _
   subst e1
   cases v <;> rfl
theorem mixKind_int(prog:Program)(w:World)(i:Int)(t:Tok):(mixKind prog w).is (.inl i) (.int i t)=true:=keyIs_int i t
theorem mixKind_str(prog:Program)(w:World)(x:Str)(t:Tok):(mixKind prog w).is (.inr x) (.str x t)=true:=keyIs_str x t
end L2
namespace L2
open PySem PySem.Spec PyProof.Rows
inductive V where
 | non | bl (b:Bool) | int (i:Int) | str (x:Str) | byt (b:Array UInt8) | flt (b:UInt64) | ref (a:Addr) | ty (n:String)
 deriving DecidableEq
def RelV:V->Value->Prop
 | .non,u=>u=Value.none
 | .bl b,u=>u=Value.bool b
 | .int i,u=>∃ t,u=Value.int i t
 | .str x,u=>∃ t,u=Value.str x t
 | .byt b,u=>∃ t,u=Value.bytes b t
 | .flt b,u=>∃ t,u=Value.float b t
 | .ref a,u=>u=Value.ref a
 | .ty n,u=>u=Value.type n
abbrev Vals:List V->List Value->Prop:=Paired RelV
theorem Vals.length{xs:List V}{us:List Value}(r:Vals xs us):xs.length=us.length:=Paired.length r
theorem Vals.get:∀ {xs:List V} {us:List Value} {i:Nat} {x:V},Vals xs us->xs[i]?=some x->∃ u,us[i]?=some u/\RelV x u
 | _,_,_,_,.nil,e=>by simp at e
 | _,_,0,_,.cons r _,e=>by simp at e;subst e;exact⟨_,rfl,r⟩
 | _,_,i+1,x,.cons _ t,e=>by
  obtain⟨u,h1,h2⟩:=Vals.get (i:=i) (x:=x) t (by simpa using e)
  exact⟨u,by simpa using h1,h2⟩
theorem Vals.append:∀ {xs ys:List V} {us ws:List Value},Vals xs us->Vals ys ws->Vals (xs++ys) (us++ws)
 | _,_,_,_,.nil,s=>s
 | _,_,_,_,.cons r t,s=>.cons r (Vals.append t s)
theorem Vals.take:∀ {xs:List V} {us:List Value} (n:Nat),Vals xs us->Vals (xs.take n) (us.take n)
 | _,_,0,_=>.nil
 | _,_,_+1,.nil=>.nil
 | _,_,n+1,.cons r t=>.cons r (Vals.take n t)
theorem Vals.drop:∀ {xs:List V} {us:List Value} (n:Nat),Vals xs us->Vals (xs.drop n) (us.drop n)
 | _,_,0,r=>r
 | _,_,_+1,.nil=>.nil
 | _,_,n+1,.cons _ t=>Vals.drop n t
theorem Vals.none_of:∀ {xs:List V} {us:List Value} {i:Nat},Vals xs us->xs[i]?=none->us[i]?=none:=fun {xs us i} r e=>by
 have h1:=r.length
 have h2:xs.length<=i:=List.getElem?_eq_none_iff.mp e
 exact List.getElem?_eq_none_iff.mpr (by omega)
def RelO:Option V->Option Value->Prop
 | some v,some u=>RelV v u
 | none,none=>True
 | _,_=>False
def KV{κ:Type}:List (κ×V)->List (κ×Value)->Prop:=Paired fun(p:κ×V) (q:κ×Value)=>p.1=q.1/\RelV p.2 q.2
def kV:Key->V
 | .inl i=>.int i
 | .inr x=>.str x
inductive HO where
 | lst (xs:List V)
 | tup (xs:List V)
 | dK (kvs:List (Key×V)) | dT (kvs:List (List Key×V))
 | set (S:Int->Bool) (n:Nat)
 | ins (C dx:Addr) (fs:List (Str×V))
 | own (x:Addr)
 | xd (fs:List (Str×V))
 | met (f x:Addr)
 | rng (lo hi:Int)
 | frz (o:Obj) (u:HO)
 | tbl (ps:Array Value)
 | ext (φ:Heap->Prop)
abbrev Hp:=Addr->Option HO
def upd(H:Hp)(a:Addr)(o:HO):Hp:=fun b=>if b=a then some o else H b
theorem upd_same{H:Hp}{a:Addr}{o:HO}:upd H a o a=some o:=by unfold upd;rw[if_pos rfl]
theorem upd_ne{H:Hp}{a b:Addr}{o:HO}(h:b≠a):upd H a o b=H b:=by unfold upd;rw[if_neg h]
theorem upd_upd{H:Hp}{a:Addr}{o u:HO}:upd (upd H a o) a u=upd H a u:=by
 funext b;unfold upd;split <;> rfl
theorem ne_of{H:Hp}{a b:Addr}{o u:HO}(h:H a=some o)(h':H b=some u)(d:o≠u):a≠b:=by
 intro e;subst e;rw[h]at h';exact d (Option.some.inj h')
theorem ne_of_none{H:Hp}{a b:Addr}{o:HO}(h:H a=some o)(h':H b=none):a≠b:=by
 intro e;subst e;rw[h]at h';cases h'
section
variable(P:Program)(w:World)
def ObjOk(H:Hp)(h:Heap)(a:Addr):HO->Prop
 | .lst xs=>xs.length<=sizeLine/\∃ (its:List Value) (n:Nat),Vals xs its/\h.get? a=some { cls:=.type "list",data:=.seq its.toArray n }
 | .tup xs=>(xs.length<=sizeLine/\∃ o,h.get? a=some o/\o.dict=none)/\∃ its:List Value,Vals xs its/\IsTup h a its.toArray
 | .dK kvs=>kvs.length<=sizeLine/\(a == sysModules)=false/\∃ vs,KV kvs vs/\h.DictOf (mixKind P w) a vs
 | .dT kvs=>kvs.length<=sizeLine/\(a == sysModules)=false/\∃ xs:List (List Key×Addr×Value),
  Paired (fun(p:List Key×V) (q:List Key×Addr×Value)=>p.1=q.1/\H q.2.1=some (.tup (p.1.map kV))/\RelV p.2 q.2.2) kvs xs /\
  ∃ o es ep,h.get? a=some o/\o.ExactDict/\o.data=.dict es ep/\es.toList=xs.map (entryOfKey (tupleKind (mixKind P w)))/\(xs.map (·.1)).Nodup
 | .set S n=>h.SetOf (intKind P w) a S n
 | .ins C dx fs=>H dx=some (.own a)/\fs.length<=1000/\dx≠a/\h.get? a=some (PySem.W.instObj C dx) /\
  ∃ mA,h.Ns1 dx mA/\(∀ f,RelO (fs.lookup f) (mA f))/\PySem.Within mA (fs.map (·.1))
 | .own _=>∃ o,h.get? a=some o
 | .xd fs=>∃ mA,h.Ns1 a mA/\∀ f,RelO (fs.lookup f) (mA f)
 | .rng lo hi=>∃ t u v,h.get? a=some { cls:=.type "range",data:=.fields #[.int lo t,.int hi u,.int 1 v] }
 | .frz o u=>h.get? a=some o/\ObjOk H h a u
 | .tbl ps=>h.get? a=some { cls:=.none,data:=.fields ps }
 | .met f x=>h.get? a=some (PySem.W.methodObj (.ref f) (.ref x))
 | .ext φ=>φ h/\(∃ o,h.get? a=some o)/\∀ h1 h2:Heap,φ h1->(∀ o,h1.get? a=some o->h2.get? a=some o)->φ h2
def HOk(H:Hp)(h:Heap):Prop:=∀ a o,H a=some o->ObjOk P w H h a o
end
section
variable{P:Program}{w:World}{H H':Hp}{h h':Heap}{a:Addr}{o:HO}
theorem ObjOk.lt(x:ObjOk P w H h a o):a < h.objs.size:=by
 cases o with
 | lst xs=>obtain⟨_,_,_,_,e⟩:=x;exact Heap.lt_size e
 | tup xs=>obtain⟨_,_,_,p⟩:=x;exact p.lt
 | dK kvs=>obtain⟨_,_,_,_,o,_,_,e,_⟩:=x;exact Heap.lt_size e
 | dT kvs=>obtain⟨_,_,_,_,o,_,_,e,_⟩:=x;exact Heap.lt_size e
 | set S n=>obtain⟨o,_,_,_,e,_⟩:=x;exact Heap.lt_size e
 | ins C dx fs=>obtain⟨_,_,_,e,_⟩:=x;exact Heap.lt_size e
 | own y=>obtain⟨_,e⟩:=x;exact Heap.lt_size e
 | xd fs=>obtain⟨_,⟨_,_,_,e,_⟩,_⟩:=x;exact Heap.lt_size e
 | rng lo hi=>obtain⟨_,_,_,e⟩:=x;exact Heap.lt_size e
 | frz ob u=>obtain⟨e,_⟩:=x;exact Heap.lt_size e
 | tbl ps=>exact Heap.lt_size (show h.get? a=some _ from x)
 | met f y=>exact Heap.lt_size (show h.get? a=some _ from x)
 | ext φ=>obtain⟨_,⟨_,e⟩,_⟩:=x;exact Heap.lt_size e
theorem Paired.mapP{α β:Type}{F G:α->β->Prop}:∀ {l₁:List α} {l₂:List β},Paired F l₁ l₂->(∀ a b,F a b->G a b)->Paired G l₁ l₂
 | _,_,.nil,_=>.nil
 | _,_,.cons r t,f=>.cons (f _ _ r) (Paired.mapP t f)
theorem ObjOk.stay(x:ObjOk P w H h a o)(k:∀ b u,(b=a\/H b=some (.own a))->h.get? b=some u->h'.get? b=some u)
 (ho:∀ b,H b=some (.own a)->H' b=some (.own a)) (ht:∀ b xs,H b=some (.tup xs)->H' b=some (.tup xs)):ObjOk P w H' h' a o:=by
 induction o with
 | lst xs=>obtain⟨z,its,n,r,e⟩:=x;exact⟨z,its,n,r,k _ _ (.inl rfl) e⟩
 | tup xs=>obtain⟨⟨z,o1,e1,d1⟩,its,r,ob,e,c⟩:=x;exact⟨⟨z,o1,k _ _ (.inl rfl) e1,d1⟩,its,r,ob,k _ _ (.inl rfl) e,c⟩
 | dK kvs=>obtain⟨z,y,vs,r,ob,es,ep,e,c⟩:=x;exact⟨z,y,vs,r,ob,es,ep,k _ _ (.inl rfl) e,c⟩
 | dT kvs =>
  obtain⟨z,y,xs,r,ob,es,ep,e,c⟩:=x
  exact⟨z,y,xs,Paired.mapP r fun p q z=>⟨z.1,ht _ _ z.2.1,z.2.2⟩,ob,es,ep,k _ _ (.inl rfl) e,c⟩
 | set S n=>obtain⟨ob,es,ep,t,e,c⟩:=x;exact⟨ob,es,ep,t,k _ _ (.inl rfl) e,c⟩
 | ins C dx fs =>
  obtain⟨d,z,ne,e,mA,⟨od,es,ep,e2,c⟩,r⟩:=x
  exact⟨ho _ d,z,ne,k _ _ (.inl rfl) e,mA,⟨od,es,ep,k _ _ (.inr d) e2,c⟩,r⟩
 | own y=>obtain⟨ob,e⟩:=x;exact⟨ob,k _ _ (.inl rfl) e⟩
 | xd fs=>obtain⟨mA,⟨od,es,ep,e,c⟩,r⟩:=x;exact⟨mA,⟨od,es,ep,k _ _ (.inl rfl) e,c⟩,r⟩
 | rng lo hi=>obtain⟨t,u,v,e⟩:=x;exact⟨t,u,v,k _ _ (.inl rfl) e⟩
 | frz ob u ih=>obtain⟨e,q⟩:=x;exact⟨k _ _ (.inl rfl) e,ih q⟩
 | tbl ps =>
  have e:h.get? a=some { cls:=.none,data:=.fields ps }:=x
  show h'.get? a=some { cls:=.none,data:=.fields ps }
  exact k a _ (.inl rfl) e
 | met f y =>
  have e:h.get? a=some (PySem.W.methodObj (.ref f) (.ref y)):=x
  show h'.get? a=some (PySem.W.methodObj (.ref f) (.ref y))
  exact k a _ (.inl rfl) e
 | ext φ=>obtain⟨p,⟨o,e⟩,st⟩:=x;exact⟨st _ _ p fun o q=>k _ _ (.inl rfl) q,⟨o,k _ _ (.inl rfl) e⟩,st⟩
theorem HOk.lt(x:HOk P w H h)(e:H a=some o):a < h.objs.size:=(x a o e).lt
theorem HOk.fresh(x:HOk P w H h)(e:h.objs.size<=a):H a=none:=by
 cases q:H a with
 | none=>rfl
 | some u=>exact absurd (Nat.lt_of_lt_of_le (x.lt q) e) (Nat.lt_irrefl _)
theorem HOk.kept(x:HOk P w H h)(k:∀ b u,h.get? b=some u->h'.get? b=some u):HOk P w H h':=fun a o e =>
 (x a o e).stay (fun b u _ q=>k b u q) (fun _ q=>q) fun _ _ q=>q
theorem HOk.laid(x:HOk P w H h)(k:∀ b u,h.get? b=some u->h'.get? b=some u)(hp:h.objs.size<=a)(new:ObjOk P w (upd H a o) h' a o):HOk P w (upd H a o) h':=fun b u e=>by
 have hn:=x.fresh hp
 by_cases hb:b=a
 ·subst hb;rw[upd_same]at e;cases e;exact new
 ·rw[upd_ne hb]at e
  exact(x b u e).stay (fun c v _ q=>k c v q) (fun c q=>by rw[upd_ne (ne_of_none q hn)];exact q) fun c xs q=>by rw[upd_ne (ne_of_none q hn)];exact q
end
def Rd(H:Hp)(a:Addr)(u:HO):Prop:=H a=some u\/∃ o,H a=some (.frz o u)
theorem Rd.of{H:Hp}{a:Addr}{u:HO}(h:H a=some u):Rd H a u:=.inl h
theorem Rd.ok{P:Program}{w:World}{H:Hp}{h:Heap}{a:Addr}{u:HO}(r:Rd H a u)(x:HOk P w H h):ObjOk P w H h a u:=by
 rcases r with r | ⟨o,r⟩
 ·exact x a u r
 ·obtain⟨_,q⟩:=x a _ r
  exact q
def Mut:Option HO->Prop
 | some (.lst _)=>True
 | some (.dK _)=>True
 | some (.dT _)=>True
 | some (.set _ _)=>True
 | some (.ins _ _ _)=>True
 | some (.ext _)=>True
 | _=>False
section
variable{P:Program}{w:World}{H:Hp}{h h':Heap}{x e:Addr}{o':HO}
theorem HOk.write(ok:HOk P w H h)(mu:Mut (H x))(he:e=x\/H e=some (.own x))(k:∀ b u,b≠e->h.get? b=some u->h'.get? b=some u)(heo:∃ u,h'.get? e=some u)
 (new:ObjOk P w (upd H x o') h' x o'):HOk P w (upd H x o') h':=fun b u q=>by
 have nown:∀ c y,H c=some (.own y)->c≠x:=fun c y r z=>by subst z;rw[r]at mu;exact mu
 have ntup:∀ c xs,H c=some (.tup xs)->c≠x:=fun c xs r z=>by subst z;rw[r]at mu;exact mu
 by_cases hb:b=x
 ·subst hb;rw[upd_same]at q;cases q;exact new
 ·rw[upd_ne hb]at q
  by_cases hbe:b=e
  ·have q':H b=some (.own x):=by
    rcases he with z | z
    ·exact absurd (hbe.trans z) hb
    ·rw[hbe];exact z
   rw[q]at q';cases q'
   obtain⟨v,hv⟩:=heo
   exact⟨v,by rw[hbe];exact hv⟩
  ·refine(ok b u q).stay (fun c v hc r=>k c v ?_ r) (fun c r=>by rw[upd_ne (nown c b r)];exact r) fun c xs r=>by rw[upd_ne (ntup c xs r)];exact r
   rcases hc with rfl | hc
   ·exact hbe
   ·rintro rfl
    rcases he with z | z
    ·exact nown c b hc z
    ·rw[hc]at z;cases z;exact hb rfl
end
structure Un(fs ex:List Addr)(H H':Hp)(h h':Heap):Prop where
 keep:∀ b o,h.get? b=some o->H b=none->b∉fs->b∉ex->h'.get? b=some o
 slot:∀ b o,h.get? b=some o->H b=none->b∈fs->b∉ex->∃ sl,h'.get? b=some { o with slots:=sl }
 free:∀ b o,h.get? b=some o->H b=none->b∉ex->H' b=none
 there:∀ b o,h.get? b=some o->b∉ex->∃ o',h'.get? b=some o'
 tups:∀ b xs,H b=some (.tup xs)->H' b=some (.tup xs)
 frzs:∀ b o u,H b=some (.frz o u)->H' b=some (.frz o u)
 tbls:∀ b ps,H b=some (.tbl ps)->∃ more,H' b=some (.tbl (ps++more))
section
variable{fs fs' ex ex':List Addr}{H H1 H2:Hp}{h h1 h2 h':Heap}{a x e:Addr}{o:HO}
theorem Un.any(u:Un fs ex H H1 h h1){b:Addr}{ob:Obj}(q:h.get? b=some ob)(n:H b=none)(hx:b∉ex):∃ sl,h1.get? b=some { ob with slots:=sl }:=by
 by_cases hb:b∈fs
 ·exact u.slot b ob q n hb hx
 ·exact⟨ob.slots,u.keep b ob q n hb hx⟩
theorem Un.kept(k:∀ b u,h.get? b=some u->h'.get? b=some u):Un fs ex H H h h' :=
 ⟨fun b ob q _ _ _=>k b ob q,fun b ob q _ _ _=>⟨ob.slots,k b ob q⟩,fun _ _ _ n _=>n,fun b ob q _=>⟨ob,k b ob q⟩,fun _ _ q=>q,fun _ _ _ q=>q,fun _ ps q=>⟨#[],by rw[q];simp⟩⟩
theorem Un.refl:Un fs ex H H h h:=Un.kept fun _ _ q=>q
theorem Un.laid(k:∀ b u,h.get? b=some u->h'.get? b=some u)(hp:h.objs.size<=a)(hn:H a=none):Un fs ex H (upd H a o) h h' where
 keep:=fun b u q _ _ _=>k b u q
 slot:=fun b u q _ _ _=>⟨u.slots,k b u q⟩
 free:=fun b u q n _=>by rw[upd_ne (Nat.ne_of_lt (Nat.lt_of_lt_of_le (Heap.lt_size q) hp))];exact n
 there:=fun b u q _=>⟨u,k b u q⟩
 tups:=fun b xs q=>by rw[upd_ne (ne_of_none q hn)];exact q
 frzs:=fun b u xs q=>by rw[upd_ne (ne_of_none q hn)];exact q
 tbls:=fun b ps q=>⟨#[],by rw[upd_ne (ne_of_none q hn),q];simp⟩
theorem Un.write(mu:Mut (H x))(he:e=x\/H e=some (.own x))(k:∀ b u,b≠e->h.get? b=some u->h'.get? b=some u)(heo:∃ u,h'.get? e=some u):Un fs ex H (upd H x o) h h':=by
 have hx:∀ b,H b=none->b≠x:=fun b n z=>by subst z;rw[n]at mu;exact mu
 have hb:∀ b,H b=none->b≠e:=fun b n z=>by
  subst z
  rcases he with r | r
  ·exact hx b n r
  ·rw[n]at r;cases r
 have hm:∀ b u,H b=some u->¬ Mut (some u)->b≠x:=fun b u q nm z=>by subst z;rw[q]at mu;exact nm mu
 refine⟨fun b u q n _ _=>k b u (hb b n) q,fun b u q n _ _=>⟨u.slots,k b u (hb b n) q⟩,fun b u q n _=>by rw[upd_ne (hx b n)];exact n,fun b u q _=>?_,
  fun b xs q=>by rw[upd_ne (hm b _ q fun z=>z)];exact q,fun b u xs q=>by rw[upd_ne (hm b _ q fun z=>z)];exact q,fun b ps q=>⟨#[],by rw[upd_ne (hm b _ q fun z=>z),q];simp⟩⟩
 by_cases hbe:b=e
 ·subst hbe;exact heo
 ·exact⟨u,k b u hbe q⟩
end
def trk(h:Heap)(H:Hp):List Addr:=(List.range h.objs.size).filter fun a=>(H a).isSome
def hidT(h:Heap)(H:Hp):Heap:=PySem.W.hideAll h (trk h H)
theorem hidT_size(h:Heap)(H:Hp):(hidT h H).objs.size=h.objs.size:=PySem.W.hideAll_size _ _
theorem hidT_get{h:Heap}{H:Hp}{b:Addr}{o:Obj}(e:h.get? b=some o)(n:H b=none):(hidT h H).get? b=some o :=
 PySem.W.hideAll_get _ e fun hm=>by
  have q:(H b).isSome=true:=(List.mem_filter.mp hm).2
  rw[n]at q;simp at q
theorem of_hidT{h:Heap}{H:Hp}{b:Addr}{o:Obj}(e:(hidT h H).get? b=some o):h.get? b=some o/\H b=none:=by
 have e':h.get? b=some o:=PySem.W.of_hideAll (trk h H) e
 refine⟨e',?_⟩
 cases q:H b with
 | none=>rfl
 | some x =>
  have hm:b∈trk h H:=List.mem_filter.mpr ⟨List.mem_range.mpr (Heap.lt_size e'),by simp[q]⟩
  have z:(hidT h H).get? b=none:=PySem.W.hideAll_none (trk h H) hm
  rw[z]at e;cases e
def allNews(g h:Heap)(L:Addr):List (Addr×Obj):=(List.range h.objs.size).filterMap fun a=>if a=L\/(g.get? a).isSome=true then none else (h.get? a).map fun o=>(a,o)
def rest(g h:Heap)(L d:Addr):List (Addr×Obj):=(allNews g h L).filter fun p=>decide (p.1≠d)
end L2
namespace L2
open PySem PySem.Spec PyProof.Rows
structure Mod(K:PySem.W.Frag)(mg:Str->Option Value)(base:Heap):Prop where
 kin:K.In base
 glob:base.Ns mainGlobals mg
 blt:∃ mb,base.Ns builtinsNs mb/\∀ x:Str,x≠"__name__"->mb x=bootBuiltins x
 nolimit:base.NoLimit
structure Cx where
 prog:Program
 w:World
 K:PySem.W.Frag
 mg:Str->Option Value
 base:Heap
 A:Around
 N:List Str
 s₀:Shared
 H₀:Hp
 env:Env
 outer:List Env
 stack:List Env
 ex:List Addr
 fn:Str->Bool
 calm:Bool
 pn:List (Addr×Obj)
 xe:Value->Shared->Prop
def frs(l:List Env):List Addr:=l.filterMap (·.frame)
abbrev Cx.fs(X:Cx):List Addr:=frs X.outer
def Vis(sc:Scope)(x:Str):Prop:=sc.names.lookup x=some .local\/sc.names.lookup x=some .cell\/sc.names.lookup x=some .free
def Loc(sc:Scope)(x:Str):Prop:=sc.names.lookup x=some .local\/sc.names.lookup x=some .cell
def Look(env:Env)(h:Heap)(m:Str->Option Value)(x:Str)(u:Value):Prop :=
 (env.kindOf x=some .local/\m x=some u)\/((env.kindOf x=some .cell\/env.kindOf x=some .free)/\∃ c,env.cells.lookup x=some c/\h.IsCell c (some u))
structure Cx.Ok(X:Cx):Prop where
 mod:Mod X.K X.mg X.base
 kind:X.env.scope.kind=.function
 glob:X.env.globals=mainGlobals
 blt:X.env.builtins=builtinsNs
 above:X.s₀.heap.objs.size<=X.env.locals
 inj:∀ x y c,X.env.cells.lookup x=some c->X.env.cells.lookup y=some c->x=y
 has:∀ x,(X.env.kindOf x=some .cell\/X.env.kindOf x=some .free)->∃ c,X.env.cells.lookup x=some c
 cab:∀ x c,X.fn x=true->X.env.cells.lookup x=some c->X.s₀.heap.objs.size<=c
 hd:X.calm=true->X.A.handled=none
 frames:X.A.frames=some X.stack
 stk:X.stack=X.outer\/(X.stack=X.env::X.outer/\X.env.frame=some X.env.locals)
 exf:∀ b∈X.ex,b≠X.env.locals/\∀ x c,X.env.cells.lookup x=some c->c≠b
 bs:∀ b o,X.base.get? b=some o->X.s₀.heap.get? b=some o/\X.H₀ b=none
 bsz:X.base.objs.size<=X.s₀.heap.objs.size
 noex:∀ b o,X.base.get? b=some o->b∉X.ex
 exfs:∀ b∈X.ex,b∉X.fs
 funs:X.s₀.heap.FunFrames X.base X.outer
 frf:∀ b∈X.fs,X.H₀ b=none
structure Inv(X:Cx)(pins:List (Addr×Obj))(σ:List (Option V))(H:Hp)(s:Shared):Prop where
 ok:X.Ok
 os:s.os=X.s₀.os
 bare:AllBare s.gens
 base:Un X.fs X.ex X.H₀ H X.s₀.heap s.heap
 loc:∃ m,s.heap.Ns X.env.locals m/\∀ (i:Nat) (x:Str) (v:V),X.N[i]?=some x->σ[i]?=some (some v)->Vis X.env.scope x->∃ u,RelV v u/\Look X.env s.heap m x u
 cell:∀ x c,X.env.cells.lookup x=some c->∃ v,s.heap.IsCell c v
 free:H X.env.locals=none
 freeC:∀ x c,X.env.cells.lookup x=some c->H c=none
 pin:∀ p∈X.pn++pins,s.heap.get? p.1=some p.2/\H p.1=none/\p.1≠X.env.locals/\p.1∉X.fs/\∀ v,p.2.data≠.cell v
 hok:HOk X.prog X.w H s.heap
 len:σ.length=X.N.length
section
variable{X:Cx}{pins:List (Addr×Obj)}{σ:List (Option V)}{H H':Hp}{s:Shared}{h':Heap}
theorem Cx.Ok.nofr(ok:X.Ok){b:Addr}{o:Obj}(e:X.base.get? b=some o):b∉X.fs:=fun hb=>by
 have:=(ok.funs.mem hb).1
 rw[e]at this;cases this
theorem Inv.bs(I:Inv X pins σ H s):∀ b o,X.base.get? b=some o->s.heap.get? b=some o/\H b=none:=fun b o e =>
 ⟨I.base.keep b o (I.ok.bs b o e).1 (I.ok.bs b o e).2 (I.ok.nofr e) (I.ok.noex b o e),I.base.free b o (I.ok.bs b o e).1 (I.ok.bs b o e).2 (I.ok.noex b o e)⟩
theorem Inv.bk(I:Inv X pins σ H s):∀ b o,X.base.get? b=some o->s.heap.get? b=some o:=fun b o e=>(I.bs b o e).1
theorem Inv.mod(I:Inv X pins σ H s):Mod X.K X.mg X.base:=I.ok.mod
theorem Inv.kIn(I:Inv X pins σ H s):X.K.In s.heap:=I.ok.mod.kin.keeps I.bk
theorem Inv.lt(I:Inv X pins σ H s):X.env.locals < s.heap.objs.size:=let ⟨_,hn,_⟩:=I.loc;hn.lt
theorem Inv.sz(I:Inv X pins σ H s):X.s₀.heap.objs.size<=s.heap.objs.size:=Nat.le_trans I.ok.above (Nat.le_of_lt I.lt)
theorem Inv.nofs(I:Inv X pins σ H s){a:Addr}(h:s.heap.objs.size<=a):a∉X.fs:=fun hb=>by
 obtain⟨_,o,ho,_⟩:=I.ok.funs.mem hb
 exact absurd (Nat.lt_of_lt_of_le (Heap.lt_size ho) (Nat.le_trans I.sz h)) (Nat.lt_irrefl _)
theorem Inv.cne(I:Inv X pins σ H s):∀ x c,X.env.cells.lookup x=some c->c≠X.env.locals:=fun x c e z=>by
 obtain⟨v,o,ho,hd⟩:=I.cell x c e
 obtain⟨m,⟨o',es,ep,ho',hd',_⟩,_⟩:=I.loc
 rw[z,ho']at ho;cases ho;rw[hd']at hd;cases hd
theorem Inv.funs(I:Inv X pins σ H s):s.heap.FunFrames X.base X.outer:=by
 have all:∀ (l:List Env),(∀ b∈frs l,b∈X.fs)->X.s₀.heap.FunFrames X.base l->s.heap.FunFrames X.base l:=by
  intro l
  induction l with
  | nil=>intro _ _;trivial
  | cons env r ih =>
   intro hs hl
   obtain⟨hk,⟨L,o,hf,hn,ho,hd⟩,hr⟩:=hl
   have hL:L∈X.fs:=hs L (by unfold frs;rw[List.filterMap_cons,hf];exact List.mem_cons_self)
   obtain⟨sl,e⟩:=I.base.slot L o ho (I.ok.frf L hL) hL fun z=>I.ok.exfs L z hL
   exact⟨hk,⟨L,_,hf,hn,e,hd⟩,ih (fun b hb=>hs b (by unfold frs;rw[List.filterMap_cons,hf];exact List.mem_cons_of_mem _ hb)) hr⟩
 exact all X.outer (fun _ hb=>hb) I.ok.funs
theorem Inv.stack(I:Inv X pins σ H s):s.heap.FunFrames X.base X.stack:=by
 rcases I.ok.stk with e | ⟨e,hf⟩
 ·rw[e];exact I.funs
 ·rw[e]
  obtain⟨m,hn,_⟩:=I.loc
  refine .cons (by rw[I.ok.kind];decide) hf hn ?_ I.funs
  exact Heap.get?_none_of_le (Nat.le_trans I.ok.bsz I.ok.above)
theorem Inv.stkSub(I:Inv X pins σ H s):∀ b∈frs X.stack,b∈X.env.locals::X.fs:=fun b hb=>by
 rcases I.ok.stk with e | ⟨e,hf⟩
 ·rw[e]at hb;exact List.mem_cons_of_mem _ hb
 ·rw[e]at hb
  unfold frs at hb
  rw[List.filterMap_cons,hf]at hb
  exact hb
theorem Inv.stkFree(I:Inv X pins σ H s):∀ b∈frs X.stack,H b=none:=fun b hb=>by
 rcases List.mem_cons.mp (I.stkSub b hb) with e | hb
 ·rw[e];exact I.free
 ·obtain⟨_,o,ho,_⟩:=I.ok.funs.mem hb
  exact I.base.free b o ho (I.ok.frf b hb) fun z=>I.ok.exfs b z hb
theorem Inv.step{g':Array GenState}{t':Nat}{d':Drawn}{ch:List Addr}(I:Inv X pins σ H s)
 (hch:∀ b∈ch,(b∈X.ex\/X.s₀.heap.objs.size<=b)/\b≠X.env.locals/\(∀ x c,X.env.cells.lookup x=some c->c≠b)/\∀ p∈X.pn++pins,p.1≠b)
 (keep:∀ b o,b≠X.env.locals->b∉X.fs->b∉ch->s.heap.get? b=some o->H b=none->h'.get? b=some o)
 (slot:∀ b o,b≠X.env.locals->b∈X.fs->b∉ch->s.heap.get? b=some o->H b=none->∃ sl,h'.get? b=some { o with slots:=sl }) (free:∀ b o,b∉ch->s.heap.get? b=some o->H b=none->H' b=none)
 (there:∀ b o,b∉ch->s.heap.get? b=some o->∃ o',h'.get? b=some o')
 (tups:∀ b xs,H b=some (.tup xs)->H' b=some (.tup xs)) (frzs:∀ b o u,H b=some (.frz o u)->H' b=some (.frz o u)) (tbls:∀ b ps,H b=some (.tbl ps)->∃ more,H' b=some (.tbl (ps++more)))
 (ns:∀ m,s.heap.Ns X.env.locals m->h'.Ns X.env.locals m) (hok:HOk X.prog X.w H' h') (hg:AllBare g') :
 Inv X pins σ H' { s with heap:=h',gens:=g',drawn:=d',toks:=t' }:=by
 have neL:∀ b o,X.s₀.heap.get? b=some o->b≠X.env.locals:=fun b o e=>Nat.ne_of_lt (Nat.lt_of_lt_of_le (Heap.lt_size e) I.ok.above)
 have neC:∀ b o,X.s₀.heap.get? b=some o->b∉X.ex->b∉ch:=fun b o e hx hb=>by
  rcases(hch b hb).1 with z | z
  ·exact hx z
  ·exact absurd (Nat.lt_of_lt_of_le (Heap.lt_size e) z) (Nat.lt_irrefl _)
 have cellK:∀ x c,X.env.cells.lookup x=some c->∀ v,s.heap.IsCell c v->h'.IsCell c v:=fun x c e v ⟨o,ho,hd⟩=>by
  have nch:c∉ch:=fun z=>(hch c z).2.2.1 x c e rfl
  by_cases hc:c∈X.fs
  ·obtain⟨sl,q⟩:=slot c o (I.cne x c e) hc nch ho (I.freeC x c e)
   exact⟨_,q,hd⟩
  ·exact⟨o,keep c o (I.cne x c e) hc nch ho (I.freeC x c e),hd⟩
 refine⟨I.ok,I.os,hg,⟨fun b o e n hb hx=>?_,fun b o e n hb hx=>?_,fun b o e n hx=>?_,fun b o e hx=>?_,fun b xs e=>tups b xs (I.base.tups b xs e),fun b o xs e=>frzs b o xs (I.base.frzs b o xs e),fun b ps e=>?_⟩,?_,fun x c e=>?_,?_,fun x c e=>?_,fun p hp=>?_,hok,I.len⟩
 ·exact keep b o (neL b o e) hb (neC b o e hx) (I.base.keep b o e n hb hx) (I.base.free b o e n hx)
 ·obtain⟨sl,e1⟩:=I.base.slot b o e n hb hx
  obtain⟨sl',e2⟩:=slot b _ (neL b o e) hb (neC b o e hx) e1 (I.base.free b o e n hx)
  exact⟨sl',e2⟩
 ·obtain⟨o',e1⟩:=I.base.there b o e hx
  exact free b o' (neC b o e hx) e1 (I.base.free b o e n hx)
 ·obtain⟨o',e1⟩:=I.base.there b o e hx
  exact there b o' (neC b o e hx) e1
 ·obtain⟨m1,e1⟩:=I.base.tbls b ps e
  obtain⟨m2,e2⟩:=tbls b _ e1
  exact⟨m1++m2,by rw[e2,Array.append_assoc]⟩
 ·obtain⟨m,hn,hl⟩:=I.loc
  refine⟨m,ns m hn,fun i x v e1 e2 e3=>?_⟩
  obtain⟨u,r,l⟩:=hl i x v e1 e2 e3
  refine⟨u,r,?_⟩
  rcases l with l | ⟨k,c,e,z⟩
  ·exact .inl l
  ·exact .inr ⟨k,c,e,cellK x c e _ z⟩
 ·obtain⟨v,z⟩:=I.cell x c e
  exact⟨v,cellK x c e v z⟩
 ·obtain⟨m,⟨o,_,_,ho,_⟩,_⟩:=I.loc
  exact free _ o (fun z=>(hch _ z).2.1 rfl) ho I.free
 ·obtain⟨v,o,ho,hd⟩:=I.cell x c e
  exact free c o (fun z=>(hch c z).2.2.1 x c e rfl) ho (I.freeC x c e)
 ·obtain⟨e,n,ne,nf,d⟩:=I.pin p hp
  have nch:p.1∉ch:=fun z=>(hch p.1 z).2.2.2 p hp rfl
  exact⟨keep p.1 p.2 ne nf nch e n,free p.1 p.2 nch e n,ne,nf,d⟩
theorem Inv.un{t':Nat}(I:Inv X pins σ H s)(u:Un X.fs [] H H' s.heap h')(hok:HOk X.prog X.w H' h'):Inv X pins σ H' { s with heap:=h',toks:=t' }:=by
 obtain⟨m,⟨o,es,ep,ho,r⟩,_⟩:=id I.loc
 obtain⟨sl,hL⟩:=u.any ho I.free (by simp)
 exact I.step (g':=s.gens) (d':=s.drawn) (ch:=[]) (fun _ z=>nomatch z) (fun b o _ hb _ e n=>u.keep b o e n hb (by simp)) (fun b o _ hb _ e n=>u.slot b o e n hb (by simp)) (fun b o _ e n=>u.free b o e n (by simp)) (fun b o _ e=>u.there b o e (by simp)) u.tups u.frzs u.tbls (fun m' hm=>by
  obtain⟨o',es',ep',ho',r'⟩:=hm
  rw[ho]at ho';cases ho'
  exact⟨_,es',ep',hL,r'⟩) hok I.bare
theorem Inv.call{g':Array GenState}{t':Nat}{d':Drawn}{ch:List Addr}(I:Inv X pins σ H s)(u:Un (frs X.stack) ch H H' s.heap h')(hok:HOk X.prog X.w H' h')(hg:AllBare g')
 (hch:∀ b∈ch,(b∈X.ex\/X.s₀.heap.objs.size<=b)/\b≠X.env.locals/\(∀ x c,X.env.cells.lookup x=some c->c≠b)/\∀ p∈X.pn++pins,p.1≠b) :
 Inv X pins σ H' { s with heap:=h',gens:=g',drawn:=d',toks:=t' }:=by
 obtain⟨m,⟨o,es,ep,ho,r⟩,_⟩:=id I.loc
 obtain⟨sl,hL⟩:=u.any ho I.free fun z=>(hch _ z).2.1 rfl
 exact I.step (ch:=ch) hch (fun b o hL hb hc e n=>u.keep b o e n (fun z=>(List.mem_cons.mp (I.stkSub b z)).elim hL hb) hc) (fun b o _ _ hc e n=>u.any e n hc) (fun b o hc e n=>u.free b o e n hc) (fun b o hc e=>u.there b o e hc) u.tups u.frzs u.tbls (fun m' hm=>by
  obtain⟨o',es',ep',ho',r'⟩:=hm
  rw[ho]at ho';cases ho'
  exact⟨_,es',ep',hL,r'⟩) hok hg
theorem Inv.turned{t':Nat}{it:Addr}(I:Inv X pins σ H s)(k:∀ b o,b≠it->s.heap.get? b=some o->h'.get? b=some o)(hn:H it=none)(hL:it≠X.env.locals)
 (h1:it∈X.ex\/X.s₀.heap.objs.size<=it) (h2:∀ x c,X.env.cells.lookup x=some c->c≠it) (h3:∀ p∈X.pn++pins,p.1≠it):Inv X pins σ H { s with heap:=h',toks:=t' }:=by
 have nit:∀ b u,H b=some u->b≠it:=fun b u e z=>by rw[z,hn]at e;cases e
 refine I.step (g':=s.gens) (d':=s.drawn) (ch:=[it]) (fun b hb=>?_) (fun b o _ _ hc e _=>k b o (fun z=>hc (by simp[z])) e) (fun b o _ _ hc e _=>⟨o.slots,k b o (fun z=>hc (by simp[z])) e⟩) (fun _ _ _ _ n=>n)
  (fun b o hc e=>⟨o,k b o (fun z=>hc (by simp[z])) e⟩) (fun _ _ e=>e) (fun _ _ _ e=>e) (fun b ps e=>⟨#[],by rw[e];simp⟩) (fun m hm=>?_) (fun b u e=>?_) I.bare
 ·have e:b=it:=by simpa using hb
  subst e
  exact⟨h1,hL,h2,h3⟩
 ·obtain⟨o,es,ep,ho,r⟩:=hm
  exact⟨o,es,ep,k _ o (Ne.symm hL) ho,r⟩
 ·refine(I.hok b u e).stay (fun c v hc q=>k c v ?_ q) (fun _ q=>q) fun _ _ q=>q
  rcases hc with z | z
  ·rw[z];exact nit b u e
  ·exact nit c _ z
theorem Inv.tok(I:Inv X pins σ H s)(t:Nat):Inv X pins σ H { s with toks:=t }:=I.un (h':=s.heap) (t':=t) Un.refl I.hok
theorem Inv.kept{t':Nat}(I:Inv X pins σ H s)(k:∀ b u,s.heap.get? b=some u->h'.get? b=some u):Inv X pins σ H { s with heap:=h',toks:=t' }:=I.un (Un.kept k) (I.hok.kept k)
theorem Inv.laid{a:Addr}{o:HO}{t':Nat}(I:Inv X pins σ H s)(k:∀ b u,s.heap.get? b=some u->h'.get? b=some u)(hp:s.heap.objs.size<=a)(new:ObjOk X.prog X.w (upd H a o) h' a o) :
 Inv X pins σ (upd H a o) { s with heap:=h',toks:=t' }:=I.un (Un.laid k hp (I.hok.fresh hp)) (I.hok.laid k hp new)
theorem Inv.write{x e:Addr}{o:HO}{t':Nat}(I:Inv X pins σ H s)(mu:Mut (H x))(he:e=x\/H e=some (.own x))(k:∀ b u,b≠e->s.heap.get? b=some u->h'.get? b=some u)(heo:∃ u,h'.get? e=some u)
 (new:ObjOk X.prog X.w (upd H x o) h' x o):Inv X pins σ (upd H x o) { s with heap:=h',toks:=t' }:=I.un (Un.write mu he k heo) (I.hok.write mu he k heo new)
theorem Inv.pins_of{pins':List (Addr×Obj)}(I:Inv X pins σ H s)(h:∀ p∈pins',s.heap.get? p.1=some p.2/\H p.1=none/\p.1≠X.env.locals/\p.1∉X.fs/\∀ v,p.2.data≠.cell v):Inv X pins' σ H s :=
 ⟨I.ok,I.os,I.bare,I.base,I.loc,I.cell,I.free,I.freeC,fun p hp=>(List.mem_append.mp hp).elim (fun z=>I.pin p (List.mem_append_left _ z)) (h p),I.hok,I.len⟩
theorem nodup_ix{N:List Str}(hN:N.Nodup){i j:Nat}{x:Str}(a:N[i]?=some x)(b:N[j]?=some x):i=j:=by
 obtain⟨h1,e1⟩:=List.getElem?_eq_some_iff.mp a
 obtain⟨h2,e2⟩:=List.getElem?_eq_some_iff.mp b
 exact(List.getElem_inj hN).mp (e1.trans e2.symm)
theorem store_ok2{M:Model}{A:Around}{E:Value->Shared->Prop}{i:Nat}{x:Str}{v:V}{u:Value}{Q:Unit->Shared->Prop}(I:Inv X pins σ H s)(hN:X.N.Nodup)(hi:X.N[i]?=some x)(hx:Loc X.env.scope x)(r:RelV v u)
 (h:∀ s',Inv X pins (σ.set i (some v)) H s'->(∃ a,Heap.SameBut a s.heap s'.heap/\(a=X.env.locals\/X.env.cells.lookup x=some a))->Q () s') (hf:X.fn x=true\/X.env.scope.names.lookup x=some .local:=by first | exact .inl rfl | exact .inr rfl | assumption):wpAny M A (storeName X.env x u) Q E s:=by
 obtain⟨m,hn,hl⟩:=id I.loc
 have hcls:(X.env.scope.kind == .class || (X.env.scope.kind == .module && X.env.locals != X.env.globals))=false:=by rw[I.ok.kind];rfl
 have hiσ:i < σ.length:=by rw[I.len];exact(List.getElem?_eq_some_iff.mp hi).1
 have cne:=I.cne
 have tracked:∀ {a:Addr} {h':Heap},(∃ o,s.heap.get? a=some o/\H a=none)->Heap.SameBut a s.heap h'->HOk X.prog X.w H h':=fun {a h'} ha hs b ob e=>by
  obtain⟨_,_,hfree⟩:=ha
  refine(I.hok b ob e).stay (fun c w' hc q=>(hs.2 c ?_).trans q) (fun _ q=>q) fun _ _ q=>q
  rintro rfl
  rcases hc with rfl | hc
  ·rw[hfree]at e;cases e
  ·rw[hfree]at hc;cases hc
 rcases hx with hk | hk
 ·refine wpAny_storeName_local hk hn (fun h' hn' hs=>?_) hcls
  obtain⟨oL,_,_,hoL,_⟩:=id hn
  refine h _ ⟨I.ok,I.os,I.bare,⟨fun b o e n hb hx=>?_,fun b o e n hb hx=>?_,I.base.free,fun b o e hx=>?_,I.base.tups,I.base.frzs,I.base.tbls⟩,⟨_,hn',fun j y v' e1 e2 e3=>?_⟩,fun y c e=>?_,I.free,I.freeC,fun p hp=>?_,tracked ⟨oL,hoL,I.free⟩ hs,by simpa using I.len⟩ ⟨_,hs,.inl rfl⟩
  ·exact(hs.2 b (Nat.ne_of_lt (Nat.lt_of_lt_of_le (Heap.lt_size e) I.ok.above))).trans (I.base.keep b o e n hb hx)
  ·obtain⟨sl,e1⟩:=I.base.slot b o e n hb hx
   exact⟨sl,(hs.2 b (Nat.ne_of_lt (Nat.lt_of_lt_of_le (Heap.lt_size e) I.ok.above))).trans e1⟩
  ·obtain⟨o',e1⟩:=I.base.there b o e hx
   exact⟨o',(hs.2 b (Nat.ne_of_lt (Nat.lt_of_lt_of_le (Heap.lt_size e) I.ok.above))).trans e1⟩
  ·by_cases hj:j=i
   ·subst hj
    rw[hi]at e1;cases e1
    rw[List.getElem?_set_self hiσ]at e2
    cases e2
    exact⟨u,r,.inl ⟨hk,by simp⟩⟩
   ·rw[List.getElem?_set_ne (Ne.symm hj)]at e2
    obtain⟨u',r',q⟩:=hl j y v' e1 e2 e3
    refine⟨u',r',?_⟩
    rcases q with ⟨k,e⟩ | ⟨k,c,e,z⟩
    ·refine .inl ⟨k,?_⟩
     have:y≠x:=fun e=>hj (nodup_ix hN e1 (e ▸ hi))
     simp[this,e]
    ·exact .inr ⟨k,c,e,z.sameBut hs (cne y c e)⟩
  ·obtain⟨w',z⟩:=I.cell y c e
   exact⟨w',z.sameBut hs (cne y c e)⟩
  ·obtain⟨e,n,ne,nf,d⟩:=I.pin p hp
   exact⟨(hs.2 p.1 ne).trans e,n,ne,nf,d⟩
 ·have hfn:X.fn x=true:=by
   rcases hf with z | z
   ·exact z
   ·rw[z]at hk;cases hk
  obtain⟨c,hc⟩:=I.ok.has x (.inl hk)
  obtain⟨w',z⟩:=I.cell x c hc
  refine wpAny_storeName_cell I.ok.kind hk hc z (fun h' hc' hs=>?_)
  obtain⟨oc,hoc,hocd⟩:=id z
  refine h { s with heap:=h' } ⟨I.ok,I.os,I.bare,⟨fun b o e n hb hx=>?_,fun b o e n hb hx=>?_,I.base.free,fun b o e hx=>?_,I.base.tups,I.base.frzs,I.base.tbls⟩,⟨m,hn.sameBut hs (Ne.symm (cne x c hc)),fun j y v' e1 e2 e3=>?_⟩,fun y c' e=>?_,I.free,I.freeC,fun p hp=>?_,tracked ⟨oc,hoc,I.freeC x c hc⟩ hs,by simpa using I.len⟩ ⟨c,hs,.inr hc⟩
  ·exact(hs.2 b (Nat.ne_of_lt (Nat.lt_of_lt_of_le (Heap.lt_size e) (I.ok.cab x c hfn hc)))).trans (I.base.keep b o e n hb hx)
  ·obtain⟨sl,e1⟩:=I.base.slot b o e n hb hx
   exact⟨sl,(hs.2 b (Nat.ne_of_lt (Nat.lt_of_lt_of_le (Heap.lt_size e) (I.ok.cab x c hfn hc)))).trans e1⟩
  ·obtain⟨o',e1⟩:=I.base.there b o e hx
   exact⟨o',(hs.2 b (Nat.ne_of_lt (Nat.lt_of_lt_of_le (Heap.lt_size e) (I.ok.cab x c hfn hc)))).trans e1⟩
  ·by_cases hj:j=i
   ·subst hj
    rw[hi]at e1;cases e1
    rw[List.getElem?_set_self hiσ]at e2
    cases e2
    exact⟨u,r,.inr ⟨.inl hk,c,hc,hc'⟩⟩
   ·rw[List.getElem?_set_ne (Ne.symm hj)]at e2
    obtain⟨u',r',q⟩:=hl j y v' e1 e2 e3
    refine⟨u',r',?_⟩
    rcases q with q | ⟨k,c',e,z'⟩
    ·exact .inl q
    ·refine .inr ⟨k,c',e,z'.sameBut hs ?_⟩
     rintro rfl
     exact hj (nodup_ix hN e1 (I.ok.inj _ _ _ e hc ▸ hi))
  ·by_cases hcc:c'=c
   ·subst hcc;exact⟨_,hc'⟩
   ·obtain⟨w2,z2⟩:=I.cell y c' e
    exact⟨w2,z2.sameBut hs hcc⟩
  ·obtain⟨e,n,ne,nf,d⟩:=I.pin p hp
   refine⟨(hs.2 p.1 ?_).trans e,n,ne,nf,d⟩
   intro q
   rw[q,hoc]at e
   have q':oc=p.2:=Option.some.inj e
   exact d w' (by rw[<- q'];exact hocd)
theorem store_ok{M:Model}{A:Around}{E:Value->Shared->Prop}{i:Nat}{x:Str}{v:V}{u:Value}{Q:Unit->Shared->Prop}(I:Inv X pins σ H s)(hN:X.N.Nodup)(hi:X.N[i]?=some x)(hx:Loc X.env.scope x)(r:RelV v u)
 (h:∀ s',Inv X pins (σ.set i (some v)) H s'->Q () s') (hf:X.fn x=true\/X.env.scope.names.lookup x=some .local:=by first | exact .inl rfl | exact .inr rfl | assumption):wpAny M A (storeName X.env x u) Q E s :=
 store_ok2 I hN hi hx r (fun s' I' _=>h s' I') hf
theorem Inv.call'{s':Shared}{ch:List Addr}(I:Inv X pins σ H s)(ho:s'.os=s.os)(u:Un (frs X.stack) ch H H' s.heap s'.heap)(hok:HOk X.prog X.w H' s'.heap)(hg:AllBare s'.gens)
 (hch:∀ b∈ch,(b∈X.ex\/X.s₀.heap.objs.size<=b)/\b≠X.env.locals/\(∀ x c,X.env.cells.lookup x=some c->c≠b)/\∀ p∈X.pn++pins,p.1≠b):Inv X pins σ H' s':=by
 obtain⟨h',g',d',t',o'⟩:=s'
 have e:o'=s.os:=ho
 subst e
 exact I.call (g':=g') (t':=t') (d':=d') u hok hg hch
end
abbrev XK:=Value->Option Addr->Hp->Prop
abbrev St:=List (Option V)
abbrev VK:=V->Hp->Prop
abbrev TE:=St->Hp->VK->Prop
abbrev TT:=St->Hp->(Bool->Hp->Prop)->Prop
abbrev TA:=St->Hp->(List V->Hp->Prop)->Prop
structure Ends where
 nx:St->Hp->Prop
 rt:VK
 bk:St->Hp->Prop:=fun _ _=>False
 ct:St->Hp->Prop:=fun _ _=>False
abbrev TS:=Ends->St->Hp->Prop
def EP(X:Cx)(pins:List (Addr×Obj))(σ:St)(Q:VK)(u:Value)(s':Shared):Prop:=∃ v H',Inv X pins σ H' s'/\RelV v u/\Q v H'
def TP(X:Cx)(pins:List (Addr×Obj))(σ:St)(Q:Bool->Hp->Prop)(b:Bool)(s':Shared):Prop:=∃ H',Inv X pins σ H' s'/\Q b H'
def AP(X:Cx)(pins:List (Addr×Obj))(σ:St)(Q:List V->Hp->Prop)(us:List Value)(s':Shared):Prop:=∃ vs H',Inv X pins σ H' s'/\Vals vs us/\Q vs H'
def SP(X:Cx)(pins:List (Addr×Obj))(D:Ends)(f:Flow)(s':Shared):Prop :=
 match f with
 | .next=>∃ σ' H',Inv X pins σ' H' s'/\D.nx σ' H'
 | .brk=>∃ σ' H',Inv X pins σ' H' s'/\D.bk σ' H'
 | .cont=>∃ σ' H',Inv X pins σ' H' s'/\D.ct σ' H'
 | .ret u=>∃ v σ' H',Inv X pins σ' H' s'/\RelV v u/\D.rt v H'
def PE(X:Cx)(e:Expr)(t:TE):Prop :=
 ∀ (pins:List (Addr×Obj)) (s:Shared) (σ:St) (H:Hp) (Q:VK),Inv X pins σ H s->t σ H Q->wpAny (model X.prog X.w) X.A (eval e X.env) (EP X pins σ Q) X.xe s
def PT(X:Cx)(e:Expr)(t:TT):Prop :=
 ∀ (pins:List (Addr×Obj)) (s:Shared) (σ:St) (H:Hp) (Q:Bool->Hp->Prop),Inv X pins σ H s->t σ H Q->wpAny (model X.prog X.w) X.A (isTrue e X.env (eval e X.env)) (TP X pins σ Q) X.xe s
def PW(X:Cx)(e:Expr)(t:TT):Prop :=
 ∀ (whole:Sem Value) (pins:List (Addr×Obj)) (s:Shared) (σ:St) (H:Hp) (Q:Bool->Hp->Prop),Inv X pins σ H s->t σ H Q->wpAny (model X.prog X.w) X.A (isTrue e X.env whole) (TP X pins σ Q) X.xe s
theorem PW.pt{X:Cx}{e:Expr}{t:TT}(h:PW X e t):PT X e t:=h _
def PA(X:Cx)(es:List Expr)(t:TA):Prop :=
 ∀ (pos:Pos) (pins:List (Addr×Obj)) (s:Shared) (σ:St) (H:Hp) (Q:List V->Hp->Prop),Inv X pins σ H s->t σ H Q->wpAny (model X.prog X.w) X.A (spliced (backTo pos (starEach es X.env))) (AP X pins σ Q) X.xe s
def PS(X:Cx)(st:Stmt)(t:TS):Prop :=
 ∀ (pins:List (Addr×Obj)) (s:Shared) (σ:St) (H:Hp) (D:Ends),Inv X pins σ H s->t D σ H->wpAny (model X.prog X.w) X.A (exec st X.env) (SP X pins D) X.xe s
def PSs(X:Cx)(st:List Stmt)(t:TS):Prop :=
 ∀ (pins:List (Addr×Obj)) (s:Shared) (σ:St) (H:Hp) (D:Ends),Inv X pins σ H s->t D σ H->wpAny (model X.prog X.w) X.A (execs st X.env) (SP X pins D) X.xe s
theorem thn{α:Type}{t:Sem α}{Q Q':α->Shared->Prop}{M:Model}{A:Around}{E:Value->Shared->Prop}{s:Shared}(h:wpAny M A t Q E s)(hQ:∀ a s,Q a s->Q' a s):wpAny M A t Q' E s:=wpAny_mono h hQ fun _ _ x=>x
end L2
namespace L2
open PySem PySem.Spec PyProof.Rows
section
variable{X:Cx}
def tVar(i:Nat):TE:=fun σ H Q=>∃ v,σ[i]?=some (some v)/\Q v H
def tC(v:V):TE:=fun _ H Q=>Q v H
theorem pe_var{i:Nat}{x:Str}{pos:Pos}(hN:X.N[i]?=some x)(hv:Vis X.env.scope x)(hd:(x == ("__debug__":Str))=false:=by decide)(hcd:(x == ("__classdict__":Str))=false:=by decide):PE X (.Name x pos) (tVar i):=by
 intro pins s σ H Q I h
 obtain⟨v,e,h⟩:=h
 obtain⟨m,hn,hl⟩:=I.loc
 obtain⟨u,r,l⟩:=hl i x v hN e hv
 have fin:EP X pins σ Q u s:=⟨v,H,I,r,h⟩
 rcases l with ⟨hk,hm⟩ | ⟨hk,c,hc,hcell⟩
 ·exact wpAny_Name (wpAny_loadName_local I.ok.kind hk hn hm fin) hd
 ·rcases hk with hk | hk
  ·exact wpAny_Name (wpAny_loadName_cell I.ok.kind hk hc hcell fin) hd
  ·exact wpAny_Name (wpAny_loadName_free I.ok.kind hk hc hcell fin hcd) hd
theorem pe_int{i j pos}:PE X (.Constant (.int i) j pos) (tC (.int i)):=fun _ _ _ H _ I h=>wpAny_Constant_int ⟨.int i,H,I.tok _,⟨_,rfl⟩,h⟩
theorem pe_bl{b j pos}:PE X (.Constant (.bool b) j pos) (tC (.bl b)):=fun _ _ _ H _ I h=>Constant_bool ⟨.bl b,H,I,rfl,h⟩
theorem pe_non{j pos}:PE X (.Constant .none j pos) (tC .non):=fun _ _ _ H _ I h=>Constant_none ⟨.non,H,I,rfl,h⟩
theorem pe_str{x j pos}:PE X (.Constant (.str x) j pos) (tC (.str x)):=fun _ _ _ H _ I h=>Calls.Constant_str ⟨.str x,H,I.tok _,⟨_,rfl⟩,h⟩
def Gl(X:Cx)(x:Str):Prop:=X.env.kindOf x=some .globalImplicit
theorem ld_glob{E:Value->Shared->Prop}{pins:List (Addr×Obj)}{s:Shared}{σ:St}{H:Hp}{x:Str}{u:Value}{pos:Pos}{Q:Value->Shared->Prop}(I:Inv X pins σ H s)(hg:Gl X x)(hm:X.mg x=some u)(h:Q u s)
 (hd:(x == ("__debug__":Str))=false:=by decide):wpAny (model X.prog X.w) X.A (eval (.Name x pos) X.env) Q E s :=
 Calls.Name_function_global I.ok.kind hg (Calls.loadGlobal_global (by rw[I.ok.glob];exact I.mod.glob.keeps I.bk) hm h) hd
theorem ld_blt{E:Value->Shared->Prop}{pins:List (Addr×Obj)}{s:Shared}{σ:St}{H:Hp}{x:Str}{u:Value}{pos:Pos}{Q:Value->Shared->Prop}(I:Inv X pins σ H s)(hg:Gl X x)(hm:X.mg x=none)(hv:bootBuiltins x=some u)(h:Q u s)
 (hn:x≠"__name__":=by decide) (hd:(x == ("__debug__":Str))=false:=by decide):wpAny (model X.prog X.w) X.A (eval (.Name x pos) X.env) Q E s:=by
 obtain⟨mb,h1,h2⟩:=I.mod.blt
 exact Calls.Name_function_global I.ok.kind hg (Calls.loadGlobal_builtin (by rw[I.ok.glob];exact I.mod.glob.keeps I.bk) hm (by rw[I.ok.blt];exact h1.keeps I.bk) ((h2 x hn).trans hv) h) hd
theorem pe_glob{x:Str}{v:V}{u:Value}{pos:Pos}(hg:Gl X x)(hm:X.mg x=some u)(r:RelV v u)(hd:(x == ("__debug__":Str))=false:=by decide):PE X (.Name x pos) (tC v) :=
 fun _ _ _ H _ I h=>ld_glob I hg hm ⟨v,H,I,r,h⟩ hd
theorem pe_bltn{x:Str}{v:V}{u:Value}{pos:Pos}(hg:Gl X x)(hm:X.mg x=none)(hv:bootBuiltins x=some u)(r:RelV v u)(hn:x≠"__name__":=by decide)(hd:(x == ("__debug__":Str))=false:=by decide):PE X (.Name x pos) (tC v) :=
 fun _ _ _ H _ I h=>ld_blt I hg hm hv ⟨v,H,I,r,h⟩ hn hd
variable{a b:Expr}{ta tb:TE}{pos:Pos}
def PC(X:Cx)(op:CmpOp)(a b:Expr)(t:TE):Prop :=
 ∀ (pins:List (Addr×Obj)) (s:Shared) (σ:St) (H:Hp) (Q:VK),Inv X pins σ H s->t σ H Q ->
  wpAny (model X.prog X.w) X.A (eval a X.env) (fun v s₁=>wpAny (model X.prog X.w) X.A (eval b X.env) (fun u s₂=>wpAny (model X.prog X.w) X.A (compareOp op v u) (EP X pins σ Q) X.xe s₂) X.xe s₁) X.xe s
def tB(t:TE):TT:=fun σ H Q=>t σ H fun x H1=>∃ c,x=.bl c/\Q c H1
theorem pt_cmp{op:CmpOp}{t:TE}(h:PC X op a b t)(h1:behindInMarks op b=false:=by first | exact nobehind _ (by decide) (by decide) | rfl):PT X (.Compare a [op] [b] pos) (tB t):=by
 intro pins s σ H Q I hw
 refine wpAny_isTrue_Compare1 (thn (h pins s σ H _ I hw) fun v s1 h1=>thn h1 fun u s2 h2=>thn h2 fun c s3 ⟨x,H1,I1,r1,q1⟩=>?_) h1
 obtain⟨d,rfl,q⟩:=q1
 cases r1
 exact wpAny_truthy_bool ⟨H1,I1,q⟩
theorem pt_val{e:Expr}{t:TE}(h:PE X e t)(he:∀ whole,isTrue e X.env whole=(do let v <- whole;standAt e.pos;holding [v] (truthy v)):=by intro _;rfl):PT X e (tB t):=by
 intro pins s σ H Q I hw
 refine isTrue_plain (thn (h pins s σ H _ I hw) fun v s1 ⟨x,H1,I1,r1,q1⟩=>?_) (he _)
 obtain⟨d,rfl,q⟩:=q1
 cases r1
 exact wpAny_truthy_bool ⟨H1,I1,q⟩
variable{tA tB':TT}{rest:List Expr}
def tAnd(t u:TT):TT:=fun σ H Q=>t σ H fun c H1=>if c=true then u σ H1 Q else Q false H1
def tOr(t u:TT):TT:=fun σ H Q=>t σ H fun c H1=>if c=true then Q true H1 else u σ H1 Q
def tNot(t:TT):TT:=fun σ H Q=>t σ H fun c H1=>Q (!c) H1
theorem pw_and1(ha:PT X a tA):PW X (.BoolOp .And [a] pos) tA:=by
 intro wh pins s σ H Q I h
 refine isTrue_and (thn (ha pins s σ H Q I h) fun c s1 e=>?_)
 cases c with
 | true=>exact isTrue_and_nil e
 | false=>exact e
theorem pw_or1(ha:PT X a tA):PW X (.BoolOp .Or [a] pos) tA:=by
 intro wh pins s σ H Q I h
 refine isTrue_or (thn (ha pins s σ H Q I h) fun c s1 e=>?_)
 cases c with
 | false=>exact isTrue_or_nil e
 | true=>exact e
theorem pw_and(ha:PT X a tA)(hb:PW X (.BoolOp .And (b::rest) pos) tB'):PW X (.BoolOp .And (a::b::rest) pos) (tAnd tA tB'):=by
 intro wh pins s σ H Q I h
 refine isTrue_and (thn (ha pins s σ H _ I h) fun c s1 ⟨H1,I1,q1⟩=>?_)
 cases c with
 | true=>exact hb wh pins s1 σ H1 Q I1 q1
 | false=>exact⟨H1,I1,q1⟩
theorem pw_or(ha:PT X a tA)(hb:PW X (.BoolOp .Or (b::rest) pos) tB'):PW X (.BoolOp .Or (a::b::rest) pos) (tOr tA tB'):=by
 intro wh pins s σ H Q I h
 refine isTrue_or (thn (ha pins s σ H _ I h) fun c s1 ⟨H1,I1,q1⟩=>?_)
 cases c with
 | true=>exact⟨H1,I1,q1⟩
 | false=>exact hb wh pins s1 σ H1 Q I1 q1
theorem pt_not(ha:PT X a tA):PT X (.UnaryOp .Not a pos) (tNot tA):=by
 intro pins s σ H Q I h
 exact isTrue_not (ha pins s σ H (fun c H1=>Q (!c) H1) I h)
def tAndV(ta tb:TE):TE:=fun σ H Q=>ta σ H fun x H1=>∃ c,x=.bl c/\if c=true then tb σ H1 Q else Q (.bl false) H1
def tOrV(ta tb:TE):TE:=fun σ H Q=>ta σ H fun x H1=>∃ c,x=.bl c/\if c=true then Q (.bl true) H1 else tb σ H1 Q
def tNotV(ta:TE):TE:=fun σ H Q=>ta σ H fun x H1=>∃ c,x=.bl c/\Q (.bl (!c)) H1
theorem pe_one{op}{t:TE}(h:PE X a t):PE X (.BoolOp op [a] pos) t:=fun pins s σ H Q I hw=>BoolOp_one (h pins s σ H Q I hw)
theorem pe_and(ha:PE X a ta)(hb:PE X (.BoolOp .And (b::rest) pos) tb):PE X (.BoolOp .And (a::b::rest) pos) (tAndV ta tb):=by
 intro pins s σ H Q I h
 refine BoolOp_and (thn (ha pins s σ H _ I h) fun v s1 ⟨x,H1,I1,r1,q1⟩=>?_)
 obtain⟨c,rfl,q1⟩:=q1
 cases r1
 refine wpAny_truthy_bool ?_
 cases c with
 | true=>exact hb pins s1 σ H1 Q I1 q1
 | false=>exact⟨.bl false,H1,I1,rfl,q1⟩
def tIf(t:TT)(ta tb:TE):TE:=fun σ H Q=>t σ H fun c H1=>if c=true then ta σ H1 Q else tb σ H1 Q
theorem pe_ifExp{c:Expr}(hc:PT X c tA)(ha:PE X a ta)(hb:PE X b tb):PE X (.IfExp c a b pos) (tIf tA ta tb):=by
 intro pins s σ H Q I h
 refine wpAny_IfExp (thn (hc pins s σ H _ I h) fun d s1 ⟨H1,I1,q1⟩=>?_)
 cases d with
 | true=>exact ha pins s1 σ H1 Q I1 q1
 | false=>exact hb pins s1 σ H1 Q I1 q1
end
end L2
namespace L2
open PySem PySem.Spec PyProof.Rows
def SqL(K:PySem.W.Frag)(H:Hp)(a:Addr)(xs:List V):Prop :=
 Rd H a (.lst xs) \/
  ∃ (o:Obj) (its:Array Value) (n:Nat),K.lookup a=some o/\o.cls=.type "list"/\o.dict=none/\o.data=.seq its n/\its.size<=sizeLine/\Vals xs its.toList
def SqT(K:PySem.W.Frag)(H:Hp)(a:Addr)(xs:List V):Prop :=
 Rd H a (.tup xs) \/
  ∃ (o:Obj) (its:Array Value) (n:Nat),K.lookup a=some o/\o.cls=.type "tuple"/\o.data=.seq its n/\its.size<=sizeLine/\Vals xs its.toList
def absV:Value->Option V
 | .none=>some .non
 | .bool b=>some (.bl b)
 | .int i _=>some (.int i)
 | .str x _=>some (.str x)
 | .bytes b _=>some (.byt b)
 | .float b _=>some (.flt b)
 | .ref a=>some (.ref a)
 | .type n=>some (.ty n)
 | _=>none
theorem RelV.abs{x:V}{u:Value}(r:RelV x u):absV u=some x:=by
 cases x with
 | non=>cases r;rfl
 | bl _=>cases r;rfl
 | int _=>obtain⟨t,rfl⟩:=r;rfl
 | str _=>obtain⟨t,rfl⟩:=r;rfl
 | byt _=>obtain⟨t,rfl⟩:=r;rfl
 | flt _=>obtain⟨t,rfl⟩:=r;rfl
 | ref _=>cases r;rfl
 | ty _=>cases r;rfl
theorem RelV.inj{x y:V}{u:Value}(r:RelV x u)(q:RelV y u):x=y:=Option.some.inj (r.abs.symm.trans q.abs)
theorem Vals.inj:∀ {xs ys:List V} {us:List Value},Vals xs us->Vals ys us->xs=ys
 | _,_,_,.nil,.nil=>rfl
 | _,_,_,.cons r t,.cons r' t'=>by rw[r.inj r',Vals.inj t t']
section
variable{X:Cx}{pins:List (Addr×Obj)}{σ:St}{H:Hp}{s:Shared}{a:Addr}{xs ys:List V}
theorem SqL.of{K:PySem.W.Frag}(h:H a=some (.lst xs)):SqL K H a xs:=.inl (.inl h)
theorem SqT.of{K:PySem.W.Frag}(h:H a=some (.tup xs)):SqT K H a xs:=.inl (.inl h)
theorem Inv.list(I:Inv X pins σ H s)(h:SqL X.K H a xs):∃ its:List Value,Vals xs its/\PlainL s.heap a its.toArray/\xs.length<=sizeLine:=by
 rcases h with h | ⟨o,its,n,hk,hc,hd,hs,hz,r⟩
 ·obtain⟨z,its,n,r,e⟩:=h.ok I.hok
  exact⟨its,r,⟨_,n,e,rfl,rfl,rfl⟩,z⟩
 ·refine⟨its.toList,r,⟨o,n,I.kIn a o hk,hc,hd,by simpa using hs⟩,?_⟩
  have e:=r.length
  simp only[Array.length_toList]at e
  omega
theorem Inv.tuple(I:Inv X pins σ H s)(h:SqT X.K H a xs):∃ its:List Value,Vals xs its/\IsTup s.heap a its.toArray/\xs.length<=sizeLine:=by
 rcases h with h | ⟨o,its,n,hk,hc,hs,hz,r⟩
 ·obtain⟨⟨z,_⟩,its,r,p⟩:=h.ok I.hok
  exact⟨its,r,p,z⟩
 ·refine⟨its.toList,r,⟨o,I.kIn a o hk,hc,n,by simpa using hs⟩,?_⟩
  have e:=r.length
  simp only[Array.length_toList]at e
  omega
theorem Inv.list_inj(I:Inv X pins σ H s)(h:SqL X.K H a xs)(h':SqL X.K H a ys):xs=ys:=by
 obtain⟨its,r,⟨o,n,e,_,_,d⟩,_⟩:=I.list h
 obtain⟨its',r',⟨o',n',e',_,_,d'⟩,_⟩:=I.list h'
 rw[e]at e';cases e'
 rw[d]at d'
 injection d' with d1 _
 have:its=its':=by simpa using congrArg Array.toList d1
 subst this
 exact r.inj r'
theorem Inv.tuple_inj(I:Inv X pins σ H s)(h:SqT X.K H a xs)(h':SqT X.K H a ys):xs=ys:=by
 obtain⟨its,r,⟨o,e,_,n,d⟩,_⟩:=I.tuple h
 obtain⟨its',r',⟨o',e',_,n',d'⟩,_⟩:=I.tuple h'
 rw[e]at e';cases e'
 rw[d]at d'
 injection d' with d1 _
 have:its=its':=by simpa using congrArg Array.toList d1
 subst this
 exact r.inj r'
end
abbrev Cx.wish(X:Cx)(E:Value->Shared->Prop):Cx:={ X with xe:=E }
abbrev Cx.nox(X:Cx):Cx:=X.wish fun _ _=>False
theorem Cx.Ok.wish{X:Cx}(ok:X.Ok)(E:Value->Shared->Prop):(X.wish E).Ok :=
 ⟨ok.mod,ok.kind,ok.glob,ok.blt,ok.above,ok.inj,ok.has,ok.cab,ok.hd,ok.frames,ok.stk,ok.exf,ok.bs,ok.bsz,ok.noex,ok.exfs,ok.funs,ok.frf⟩
theorem Cx.Ok.unwish{X:Cx}{E:Value->Shared->Prop}(ok:(X.wish E).Ok):X.Ok :=
 ⟨ok.mod,ok.kind,ok.glob,ok.blt,ok.above,ok.inj,ok.has,ok.cab,ok.hd,ok.frames,ok.stk,ok.exf,ok.bs,ok.bsz,ok.noex,ok.exfs,ok.funs,ok.frf⟩
section
variable{X:Cx}{pins:List (Addr×Obj)}{σ:St}{H:Hp}{s:Shared}{E:Value->Shared->Prop}
theorem Inv.wish(I:Inv X pins σ H s)(E:Value->Shared->Prop):Inv (X.wish E) pins σ H s:=⟨I.ok.wish E,I.os,I.bare,I.base,I.loc,I.cell,I.free,I.freeC,I.pin,I.hok,I.len⟩
theorem Inv.unwish(I:Inv (X.wish E) pins σ H s):Inv X pins σ H s:=⟨I.ok.unwish,I.os,I.bare,I.base,I.loc,I.cell,I.free,I.freeC,I.pin,I.hok,I.len⟩
theorem SP.unwish{D:Ends}{f:Flow}{s':Shared}(h:SP (X.wish E) pins D f s'):SP X pins D f s':=by
 cases f with
 | next=>obtain⟨σ',H',I,q⟩:=h;exact⟨σ',H',I.unwish,q⟩
 | brk=>obtain⟨σ',H',I,q⟩:=h;exact⟨σ',H',I.unwish,q⟩
 | cont=>obtain⟨σ',H',I,q⟩:=h;exact⟨σ',H',I.unwish,q⟩
 | ret u=>obtain⟨v,σ',H',I,r,q⟩:=h;exact⟨v,σ',H',I.unwish,r,q⟩
theorem PSs.nox{st:List Stmt}{t:TS}(h:PSs X.nox st t):PSs X st t:=fun pins s σ H D I hw =>
 wpAny_mono (h pins s σ H D (I.wish _) hw) (fun _ _ q=>q.unwish) fun _ _ z=>False.elim z
end
section
variable{X:Cx}{st:Stmt}{rest:List Stmt}{t u:TS}{e:Expr}{te:TE}{pos:Pos}
def tNext:TS:=fun D σ H=>D.nx σ H
def tSeq(t u:TS):TS:=fun D σ H=>t { D with nx:=u D } σ H
theorem pss_nil:PSs X [] tNext:=fun _ _ σ H _ I h=>wpAny_execs_nil ⟨σ,H,I,h⟩
theorem pss_cons(h1:PS X st t)(h2:PSs X rest u):PSs X (st::rest) (tSeq t u):=by
 intro pins s σ H D I h
 refine wpAny_execs_cons (thn (h1 pins s σ H { D with nx:=u D } I h) fun f s1 q=>?_)
 cases f with
 | next =>
  obtain⟨σ',H',I',q⟩:=q
  exact h2 pins s1 σ' H' D I' q
 | ret v=>exact q
 | brk=>exact q
 | cont=>exact q
theorem pss_one(h1:PS X st t):PSs X [st] t:=by
 intro pins s σ H D I h
 refine wpAny_execs_cons (thn (h1 pins s σ H D I h) fun f s1 q=>?_)
 cases f with
 | next=>exact wpAny_execs_nil q
 | ret v=>exact q
 | brk=>exact q
 | cont=>exact q
theorem Inv.quiet{pins:List (Addr×Obj)}{σ:St}{H:Hp}{s:Shared}(I:Inv X pins σ H s):interactive X.env=false:=by simp[interactive,I.ok.kind]
def tDrop(te:TE):TS:=fun D σ H=>te σ H fun _ H1=>D.nx σ H1
theorem ps_expr(he:PE X e te)(hs:swapsWith e none pos.line X.env=pure false:=by rfl):PS X (.Expr e pos) (tDrop te):=by
 intro pins s σ H D I h
 exact wpAny_Expr_any (thn (he pins s σ H _ I h) fun v s1 ⟨x,H1,I1,r1,q1⟩=>⟨σ,H1,I1,q1⟩) I.quiet hs
def tRet(te:TE):TS:=fun D σ H=>te σ H D.rt
theorem ps_ret(he:PE X e te):PS X (.Return (some e) pos) (tRet te):=by
 intro pins s σ H D I h
 exact wpAny_Return_some (thn (he pins s σ H _ I h) fun v s1 ⟨x,H1,I1,r1,q1⟩=>⟨x,σ,H1,I1,r1,q1⟩)
def tRetN:TS:=fun D _ H=>D.rt .non H
def tIfS(c:TT)(t u:TS):TS:=fun D σ H=>c σ H fun b H1=>if b=true then t D σ H1 else u D σ H1
theorem ps_if{c:Expr}{a b:List Stmt}{tc:TT}(hc:PT X c tc)(ha:PSs X a t)(hb:PSs X b u):PS X (.If c a b pos) (tIfS tc t u):=by
 intro pins s σ H D I h
 refine wpAny_If (thn (hc pins s σ H _ I h) fun d s1 ⟨H1,I1,q1⟩=>?_)
 cases d with
 | true=>exact ha pins s1 σ H1 D I1 q1
 | false=>exact hb pins s1 σ H1 D I1 q1
end
abbrev TG:=V->St->Hp->(St->Hp->Prop)->Prop
abbrev TGs:=List V->St->Hp->(St->Hp->Prop)->Prop
def PG(X:Cx)(target:Expr)(t:TG):Prop :=
 ∀ (pins:List (Addr×Obj)) (s:Shared) (σ:St) (H:Hp) (v:V) (u:Value) (Q:St->Hp->Prop),Inv X pins σ H s->RelV v u->t v σ H Q ->
  wpAny (model X.prog X.w) X.A (assign target X.env u) (fun _ s'=>∃ σ' H',Inv X pins σ' H' s'/\Q σ' H') X.xe s
def PGs(X:Cx)(ts:List Expr)(t:TGs):Prop :=
 ∀ (pins:List (Addr×Obj)) (s:Shared) (σ:St) (H:Hp) (vs:List V) (us:List Value) (Q:St->Hp->Prop),Inv X pins σ H s->Vals vs us->t vs σ H Q ->
  wpAny (model X.prog X.w) X.A (assignInOrder ((assignEach ts X.env).map (·.2)) us) (fun _ s'=>∃ σ' H',Inv X pins σ' H' s'/\Q σ' H') X.xe s
section
variable{X:Cx}{pos:Pos}
def gName(i:Nat):TG:=fun v σ H Q=>Q (σ.set i (some v)) H
theorem pg_name{i:Nat}{x:Str}(hN:X.N.Nodup)(hi:X.N[i]?=some x)(hx:Loc X.env.scope x)(hf:X.fn x=true\/X.env.scope.names.lookup x=some .local:=by first | exact .inl rfl | exact .inr rfl | assumption):PG X (.Name x pos) (gName i):=by
 intro pins s σ H v u Q I r h
 exact wpAny_assign_Name (store_ok I hN hi hx r (fun s' I'=>⟨_,H,I',h⟩) hf)
def gNil:TGs:=fun vs σ H Q=>vs=[]/\Q σ H
def gCons(t:TG)(u:TGs):TGs:=fun vs σ H Q=>∃ v r,vs=v::r/\t v σ H fun σ' H'=>u r σ' H' Q
theorem pgs_nil:PGs X [] gNil:=by
 intro pins s σ H vs us Q I r h
 obtain⟨e,h⟩:=h
 subst e
 cases r
 exact assignInOrder_nil ⟨σ,H,I,h⟩
theorem pgs_cons{e:Expr}{es:List Expr}{t:TG}{u:TGs}(h1:PG X e t)(h2:PGs X es u)
 (hs:(assignEach (e::es) X.env).map (·.2)=assign e X.env::(assignEach es X.env).map (·.2):=by rfl):PGs X (e::es) (gCons t u):=by
 intro pins s σ H vs us Q I r h
 obtain⟨v,vr,e1,h⟩:=h
 subst e1
 cases r with
 | cons r rr =>
  rw[hs]
  refine assignInOrder_cons (thn (h1 pins s σ H _ _ _ I r h) fun _ s1 ⟨σ1,H1,I1,q1⟩=>?_)
  exact h2 pins s1 σ1 H1 _ _ Q I1 rr q1
def gTup(K:PySem.W.Frag)(n:Nat)(t:TGs):TG:=fun v σ H Q=>∃ a xs,v=.ref a/\SqT K H a xs/\xs.length=n/\t xs σ H Q
theorem pg_tup{es:List Expr}{k:Nat}{t:TGs}{n:Nat}(hc:X.calm=true)(h:PGs X es t)
 (hn:(assignEach es X.env).length=n:=by rfl) (hst:(assignEach es X.env).findIdx? (·.1)=none:=by rfl):PG X (.Tuple es k pos) (gTup X.K n t):=by
 intro pins s σ H v u Q I r hw
 obtain⟨a,xs,e1,hq,hl,hw⟩:=hw
 subst e1
 cases r
 obtain⟨its,rv,ht,hz⟩:=I.tuple hq
 refine assign_Tuple_tuple (I.ok.hd hc) ht (by simp[hn,<- hl,rv.length]) hst fun h' hx=>?_
 have I1:Inv X pins σ H { s with heap:=h' }:=I.kept (t':=s.toks) fun b o e=>hx b o (Nat.ne_of_lt (Heap.lt_size e)) e
 exact h pins _ σ H xs _ Q I1 (by simpa using rv) hw
def tAsg(te:TE)(g:TG):TS:=fun D σ H=>te σ H fun x H1=>g x σ H1 D.nx
theorem ps_asg{tg e:Expr}{te:TE}{g:TG}(he:PE X e te)(hg:PG X tg g)(hs:swapsWithSole [tg] e pos.line X.env=pure false:=by rfl)(hw:swappedStores [tg] e X.env=pure none:=by rfl)
 (h1:(assignEach [tg] X.env).map (·.2)=[assign tg X.env]:=by rfl):PS X (.Assign [tg] e pos) (tAsg te g):=by
 intro pins s σ H D I h
 refine wpAny_Assign_stores (thn (he pins s σ H _ I h) fun v s1 ⟨x,H1,I1,r1,q1⟩=>?_) hs hw
 rw[h1]
 exact thn (hg pins s1 σ H1 x v _ I1 r1 q1) fun _ s2 q=>q
theorem ps_set{i:Nat}{x:Str}{e:Expr}{te:TE}{pos':Pos}(hN:X.N.Nodup)(hi:X.N[i]?=some x)(hx:Loc X.env.scope x)(he:PE X e te)(hs:swapsWith e (some (.Name x pos')) pos.line X.env=pure false:=by rfl)(hf:X.fn x=true\/X.env.scope.names.lookup x=some .local:=by first | exact .inl rfl | exact .inr rfl | assumption) :
 PS X (.Assign [.Name x pos'] e pos) (tAsg te (gName i)):=by
 intro pins s σ H D I h
 refine wpAny_Assign_Name (thn (he pins s σ H _ I h) fun v s1 ⟨y,H1,I1,r1,q1⟩=>?_) hs
 exact store_ok I1 hN hi hx r1 (fun s2 I2=>⟨_,H1,I2,q1⟩) hf
end
section
variable{X:Cx}{pos:Pos}
def tWhile(c:TT)(tb:TS):TS:=fun D σ H=>∃ W:Nat->St->Hp->Prop,(∃ m,W m σ H)/\∀ m σ H,W m σ H ->
 c σ H fun b H1=>if b=true then ∃ N:St->Hp->Prop,(∀ σ' H',N σ' H'->∃ m',m' < m/\W m' σ' H')/\tb { D with nx:=N,ct:=N,bk:=D.nx } σ H1 else D.nx σ H1
theorem ps_while{c:Expr}{body:List Stmt}{tc:TT}{tb:TS}(hp:PassesOwn (model X.prog X.w) X.A X.env X.xe)(hc:PT X c tc)(hb:PSs X body tb):PS X (.While c body [] pos) (tWhile tc tb):=by
 intro pins s σ H D I h
 obtain⟨W,⟨m0,w0⟩,turn⟩:=h
 refine wpAny_While (codeAny_whileLoop (fun n s'=>∃ σ' H',Inv X pins σ' H' s'/\W n σ' H') ?_ m0 ⟨σ,H,I,w0⟩)
 rintro n s1 ⟨σ1,H1,I1,w1⟩
 refine wpAny_passesOwn hp (thn (hc pins s1 σ1 H1 _ I1 (turn n σ1 H1 w1)) fun b s2 ⟨H2,I2,q2⟩=>?_)
 cases b with
 | true =>
  obtain⟨N,hN,q2⟩:=q2
  rw[if_pos rfl]
  refine wpAny_passesOwn hp (thn (hb pins s2 σ1 H2 _ I2 q2) fun f s3 q3=>?_)
  cases f with
  | next =>
   obtain⟨σ3,H3,I3,n3⟩:=q3
   obtain⟨m',hm,w3⟩:=hN σ3 H3 n3
   exact⟨m',hm,σ3,H3,I3,w3⟩
  | cont =>
   obtain⟨σ3,H3,I3,n3⟩:=q3
   obtain⟨m',hm,w3⟩:=hN σ3 H3 n3
   exact⟨m',hm,σ3,H3,I3,w3⟩
  | brk=>exact q3
  | ret v=>exact q3
 | false =>
  rw[if_neg Bool.false_ne_true]
  exact wpAny_execs_nil ⟨σ1,H2,I2,q2⟩
end
structure It where
 go:Nat->Hp->Prop
 yld:Nat->Hp->V->Hp->Prop
 stop:Nat->Hp->Prop
def FpOk(X:Cx)(pins:List (Addr×Obj))(H:Hp)(b:Addr):Prop :=
 H b=none/\b≠X.env.locals/\b∉X.fs/\(b∈X.ex\/X.s₀.heap.objs.size<=b)/\(∀ x c,X.env.cells.lookup x=some c->c≠b)/\∀ p∈X.pn++pins,p.1≠b
theorem Inv.fpOk{X:Cx}{pins:List (Addr×Obj)}{σ:St}{H H':Hp}{s:Shared}{b:Addr}(I:Inv X pins σ H s)(hb:s.heap.objs.size<=b)(hn:H' b=none):FpOk X pins H' b:=by
 refine⟨hn,Nat.ne_of_gt (Nat.lt_of_lt_of_le I.lt hb),I.nofs hb,.inr (Nat.le_trans I.sz hb),fun x c e z=>?_,fun p hp z=>?_⟩
 ·obtain⟨v,q⟩:=I.cell x c e
  exact absurd (Nat.lt_of_lt_of_le q.lt (by rw[z];exact hb)) (Nat.lt_irrefl _)
 ·exact absurd (Nat.lt_of_lt_of_le (Heap.lt_size (I.pin p hp).1) (by rw[z];exact hb)) (Nat.lt_irrefl _)
structure Turn(P:Program)(w:World)(K:PySem.W.Frag)(tg:Expr)(J:It)(fp:List Addr)(it:Addr)(tn:Nat->Heap->Prop):Prop where
 mem:it∈fp
 obj:∀ i h,tn i h->∀ b∈fp,∃ o,h.get? b=some o/\∀ v,o.data≠.cell v
 keep:∀ i h h',tn i h->(∀ b∈fp,∀ o,h.get? b=some o->h'.get? b=some o)->tn i h'
 item:∀ (X:Cx),X.prog=P->X.w=w->X.K=K->X.calm=true->∀ (i:Nat) (pins:List (Addr×Obj)) (s:Shared) (σ:St) (H:Hp) (E:Value->Shared->Prop),Inv X pins σ H s->(∀ b∈fp,FpOk X pins H b)->tn i s.heap->J.go i H ->
  wpAny (model P w) X.A (pyNext (.ref it)) (fun r s1=>∃ u,r=some u /\
   wpAny (model P w) X.A (letOwnedTupleGo tg (.ref it) u) (fun _ s2=>∃ x H',Inv X pins σ H' s2/\RelV x u/\J.yld i H x H'/\tn (i+1) s2.heap/\∀ b∈fp,H' b=none) E s1) E s
 done:∀ (X:Cx),X.prog=P->X.w=w->X.K=K->X.calm=true->∀ (i:Nat) (pins:List (Addr×Obj)) (s:Shared) (σ:St) (H:Hp) (E:Value->Shared->Prop),Inv X pins σ H s->(∀ b∈fp,FpOk X pins H b)->tn i s.heap->J.stop i H ->
  wpAny (model P w) X.A (pyNext (.ref it)) (fun r s1=>r=none/\Inv X pins σ H s1) E s
 self:∀ (A:Around) (i:Nat) (s:Shared) (Q:Value->Shared->Prop) (E:Value->Shared->Prop),tn i s.heap->Q (.ref it) s->wpAny (model P w) A (pyIter (.ref it)) Q E s
abbrev TI:=St->Hp->(It->Hp->Prop)->Prop
def PIE(X:Cx)(pins:List (Addr×Obj))(σ:St)(tg:Expr)(R:It->Hp->Prop)(itv:Value)(s2:Shared):Prop :=
 ∃ (it:Addr) (fp:List Addr) (tn:Nat->Heap->Prop) (J:It) (H':Hp),itv=.ref it/\Inv X pins σ H' s2/\Turn X.prog X.w X.K tg J fp it tn/\tn 0 s2.heap/\(∀ b∈fp,FpOk X pins H' b)/\R J H'
def PI(X:Cx)(tg iter:Expr)(wi:TI):Prop :=
 ∀ (pins:List (Addr×Obj)) (s:Shared) (σ:St) (H:Hp) (R:It->Hp->Prop),Inv X pins σ H s->wi σ H R ->
  wpAny (model X.prog X.w) X.A (eval iter X.env) (fun v s1=>wpAny (model X.prog X.w) X.A (pyIter v) (PIE X pins σ tg R) X.xe s1) X.xe s
theorem go_of{M:Model}{A:Around}{E:Value->Shared->Prop}{s:Shared}{tg:Expr}{it:Addr}{u:Value}{o:Obj}{n:String}{vs:Array Value}{Q:Unit->Shared->Prop}(ho:s.heap.get? it=some o)(hc:o.cls=.type n)(hd:o.data=.fields vs)
 (hn:["enumerate","zip","dict_itemiterator","dict_reverseitemiterator","odict_iterator","itertools.zip_longest","itertools.pairwise"].contains n=false) (hQ:Q () s):wpAny M A (letOwnedTupleGo tg (.ref it) u) Q E s:=by
 unfold letOwnedTupleGo
 cases tg <;> first
  | exact wpAny_pure hQ
  | (cases u <;> first
   | exact wpAny_pure hQ
   | (refine wpAny_bind (wpAny_load ho ?_)
      rw[hc,hd]
      show wpAny M A (if (["enumerate","zip","dict_itemiterator","dict_reverseitemiterator","odict_iterator","itertools.zip_longest","itertools.pairwise"].contains n && vs[0]? == some (rawInt _))=true then _ else _) Q E s
      rw[if_neg (by intro h;rw[hn,Bool.false_and]at h;cases h)]
      exact wpAny_pure hQ))
def Itl(K:PySem.W.Frag)(a:Addr):It :=
 ⟨fun i H=>∃ xs x,SqL K H a xs/\xs[i]?=some x,fun i H x H'=>H'=H/\∀ xs,SqL K H a xs->xs[i]?=some x,fun i H=>∃ xs,SqL K H a xs/\xs.length<=i⟩
def Itt(K:PySem.W.Frag)(a:Addr):It :=
 ⟨fun i H=>∃ xs x,SqT K H a xs/\xs[i]?=some x,fun i H x H'=>H'=H/\∀ xs,SqT K H a xs->xs[i]?=some x,fun i H=>∃ xs,SqT K H a xs/\xs.length<=i⟩
def Itr(lo:Int)(n:Nat):It:=⟨fun i _=>i < n,fun i H x H'=>H'=H/\x=.int (lo+i),fun i _=>n<=i⟩
theorem turn_list{P:Program}{w:World}{K:PySem.W.Frag}{tg:Expr}(a it:Addr):Turn P w K tg (Itl K a) [it] it (fun i h=>h.IsListIter it a i) where
 mem:=by simp
 obj:=fun i h st b hb=>by
  have e:b=it:=by simpa using hb
  subst e
  obtain⟨o,e,c,d⟩:=st
  exact⟨o,e,fun v z=>by rw[d]at z;cases z⟩
 keep:=fun i h h' st k=>st.at fun o e=>k it (by simp) o e
 item:=by
  intro X hP hw hK hc i pins s σ H E I hf st hg
  subst hP hw hK
  obtain⟨xs,x,hq,hx⟩:=hg
  obtain⟨its,rv,p,hz⟩:=I.list hq
  obtain⟨u,hu,ru⟩:=rv.get hx
  obtain⟨f0,f1,f2,f3,f4,f5⟩:=hf it (by simp)
  refine wpAny_pyNext_list_item st p.isList (x:=u) (by simpa using hu) fun h' st' sb=>?_
  have I1:Inv X pins σ H { s with heap:=h' }:=I.turned (t':=s.toks) (fun b o hb e=>(sb.2 b hb).trans e) f0 f1 f3 f4 f5
  obtain⟨o,e,c,d⟩:=id st'
  exact⟨u,rfl,go_of (s:={ s with heap:=h' }) e c d (by decide) ⟨x,H,I1,ru,⟨rfl,fun ys hy=>by rw[I.list_inj hy hq];exact hx⟩,st',fun b hb=>(hf b hb).1⟩⟩
 done:=by
  intro X hP hw hK hc i pins s σ H E I hf st hg
  subst hP hw hK
  obtain⟨xs,hq,hx⟩:=hg
  obtain⟨its,rv,p,hz⟩:=I.list hq
  obtain⟨f0,f1,f2,f3,f4,f5⟩:=hf it (by simp)
  have hl:=rv.length
  exact wpAny_pyNext_list_end (I.ok.hd hc) st p.isList (by simp;omega) fun h' eb=>⟨rfl,I.turned (t':=s.toks) (fun b o hb e=>eb b o hb e) f0 f1 f3 f4 f5⟩
 self:=fun _ _ _ _ _ st h=>wpAny_pyIter_listiter st h
theorem turn_tuple{P:Program}{w:World}{K:PySem.W.Frag}{tg:Expr}(a it:Addr):Turn P w K tg (Itt K a) [it] it (fun i h=>h.IsTupleIter it a i) where
 mem:=by simp
 obj:=fun i h st b hb=>by
  have e:b=it:=by simpa using hb
  subst e
  obtain⟨o,e,c,d⟩:=st
  exact⟨o,e,fun v z=>by rw[d]at z;cases z⟩
 keep:=fun i h h' st k=>st.at fun o e=>k it (by simp) o e
 item:=by
  intro X hP hw hK hc i pins s σ H E I hf st hg
  subst hP hw hK
  obtain⟨xs,x,hq,hx⟩:=hg
  obtain⟨its,rv,p,hz⟩:=I.tuple hq
  obtain⟨u,hu,ru⟩:=rv.get hx
  obtain⟨f0,f1,f2,f3,f4,f5⟩:=hf it (by simp)
  refine wpAny_pyNext_tuple_item st (show s.heap.IsTuple a its.toArray from p) (x:=u) (by simpa using hu) fun h' st' sb=>?_
  have I1:Inv X pins σ H { s with heap:=h' }:=I.turned (t':=s.toks) (fun b o hb e=>(sb.2 b hb).trans e) f0 f1 f3 f4 f5
  obtain⟨o,e,c,d⟩:=id st'
  exact⟨u,rfl,go_of (s:={ s with heap:=h' }) e c d (by decide) ⟨x,H,I1,ru,⟨rfl,fun ys hy=>by rw[I.tuple_inj hy hq];exact hx⟩,st',fun b hb=>(hf b hb).1⟩⟩
 done:=by
  intro X hP hw hK hc i pins s σ H E I hf st hg
  subst hP hw hK
  obtain⟨xs,hq,hx⟩:=hg
  obtain⟨its,rv,p,hz⟩:=I.tuple hq
  obtain⟨f0,f1,f2,f3,f4,f5⟩:=hf it (by simp)
  have hl:=rv.length
  exact wpAny_pyNext_tuple_end (I.ok.hd hc) st (show s.heap.IsTuple a its.toArray from p) (by simp;omega) fun h' eb=>⟨rfl,I.turned (t':=s.toks) (fun b o hb e=>eb b o hb e) f0 f1 f3 f4 f5⟩
 self:=fun _ _ _ _ _ st h=>wpAny_pyIter_tupleiter st h
theorem turn_range{P:Program}{w:World}{K:PySem.W.Frag}{tg:Expr}(it:Addr)(lo:Int)(n:Nat):Turn P w K tg (Itr lo n) [it] it (fun i h=>IsRangeIter h it (lo+(i:Nat) * 1) ((n:Int) - (i:Nat)) 1) where
 mem:=by simp
 obj:=fun i h st b hb=>by
  have e:b=it:=by simpa using hb
  subst e
  exact⟨_,st,fun v z=>by
   have z':Data.fields _=Data.cell v:=z
   cases z'⟩
 keep:=fun i h h' st k=>k it (by simp) _ st
 item:=by
  intro X hP hw hK hc i pins s σ H E I hf st hg
  subst hP hw hK
  obtain⟨f0,f1,f2,f3,f4,f5⟩:=hf it (by simp)
  have W:=Walks.range (prog:=X.prog) (w:=X.w) (I.ok.hd hc) it lo 1 n
  refine W.item i s _ _ hg st fun v h' tk hv st' kk=>?_
  obtain⟨t,rfl⟩:=hv
  have I1:Inv X pins σ H { s with heap:=h',toks:=tk }:=I.turned (fun b o hb e=>kk b o (by simpa using hb) e) f0 f1 f3 f4 f5
  refine⟨_,rfl,go_of (s:={ s with heap:=h',toks:=tk }) (n:="range_iterator") st' rfl rfl (by decide) ⟨.int (lo+i),H,I1,⟨t,?_⟩,⟨rfl,rfl⟩,st',fun b hb=>(hf b hb).1⟩⟩
  rw[Int.mul_one]
 done:=by
  intro X hP hw hK hc i pins s σ H E I hf st hg
  subst hP hw hK
  obtain⟨f0,f1,f2,f3,f4,f5⟩:=hf it (by simp)
  exact wpAny_pyNext_range_end (I.ok.hd hc) st (by have:n<=i:=hg;omega) fun h' eb=>⟨rfl,I.turned (t':=s.toks) (fun b o hb e=>eb b o hb e) f0 f1 f3 f4 f5⟩
 self:=fun _ _ _ _ _ st h=>wpAny_pyIter_rangeiter st h
end L2
namespace L2
open PySem PySem.Spec PyProof.Rows
section
variable{X:Cx}{tg:Expr}
def iList(K:PySem.W.Frag)(tl:TE):TI:=fun σ H R=>tl σ H fun x H1=>∃ a,x=.ref a/\(∃ xs,SqL K H1 a xs)/\R (Itl K a) H1
def iTup(K:PySem.W.Frag)(tl:TE):TI:=fun σ H R=>tl σ H fun x H1=>∃ a,x=.ref a/\(∃ xs,SqT K H1 a xs)/\R (Itt K a) H1
theorem pi_list{l:Expr}{tl:TE}(hl:PE X l tl):PI X tg l (iList X.K tl):=by
 intro pins s σ H R I h
 refine thn (hl pins s σ H _ I h) fun v s1 ⟨x,H1,I1,r1,q1⟩=>?_
 obtain⟨a,e,⟨xs,hq⟩,q⟩:=q1
 subst e
 cases r1
 obtain⟨its,rv,p,hz⟩:=I1.list hq
 refine wpAny_pyIter_list p.isList ?_
 refine⟨s1.heap.objs.size,[s1.heap.objs.size],_,_,H1,rfl,I1.kept (t':=s1.toks) fun b o e=>Heap.get?_push_of_some _ e,turn_list a _,⟨_,Heap.get?_push_size _ rfl,rfl,rfl⟩,fun b hb=>?_,q⟩
 have e:b=s1.heap.objs.size:=by simpa using hb
 subst e
 exact I1.fpOk (Nat.le_refl _) (I1.hok.fresh (Nat.le_refl _))
theorem pi_tup{l:Expr}{tl:TE}(hl:PE X l tl):PI X tg l (iTup X.K tl):=by
 intro pins s σ H R I h
 refine thn (hl pins s σ H _ I h) fun v s1 ⟨x,H1,I1,r1,q1⟩=>?_
 obtain⟨a,e,⟨xs,hq⟩,q⟩:=q1
 subst e
 cases r1
 obtain⟨its,rv,p,hz⟩:=I1.tuple hq
 refine wpAny_pyIter_tuple (show s1.heap.IsTuple a its.toArray from p) ?_
 refine⟨s1.heap.objs.size,[s1.heap.objs.size],_,_,H1,rfl,I1.kept (t':=s1.toks) fun b o e=>Heap.get?_push_of_some _ e,turn_tuple a _,⟨_,Heap.get?_push_size _ rfl,rfl,rfl⟩,fun b hb=>?_,q⟩
 have e:b=s1.heap.objs.size:=by simpa using hb
 subst e
 exact I1.fpOk (Nat.le_refl _) (I1.hok.fresh (Nat.le_refl _))
theorem range_it{pins:List (Addr×Obj)}{σ:St}{H:Hp}{s:Shared}{R:It->Hp->Prop}{E:Value->Shared->Prop}{lo hi:Int}{t u v:Tok}{tk:Nat}(I:Inv X pins σ H s)(h1 : -(2 ^ 62)<=lo)(h2:lo < 2 ^ 62)(h3 : -(2 ^ 62)<=hi)(h4:hi < 2 ^ 62)
 (q:R (Itr lo (hi - lo).toNat) H):wpAny (model X.prog X.w) X.A (pyIter (.ref s.heap.objs.size)) (PIE X pins σ tg R) E { s with heap:=s.heap.push { cls:=.type "range",data:=.fields #[.int lo t,.int hi u,.int 1 v] },toks:=tk }:=by
 refine wpAny_pyIter_range (IsRange.new ..) (small_one h1 h2 h3 h4) ?_
 have I1:Inv X pins σ H { s with heap:=s.heap.push { cls:=.type "range",data:=.fields #[.int lo t,.int hi u,.int 1 v] },toks:=tk }:=I.kept fun b o e=>Heap.get?_push_of_some _ e
 refine⟨(s.heap.push { cls:=.type "range",data:=.fields #[.int lo t,.int hi u,.int 1 v] }).objs.size,[(s.heap.push { cls:=.type "range",data:=.fields #[.int lo t,.int hi u,.int 1 v] }).objs.size],_,_,H,rfl,
  I1.kept (t':=tk) fun b o e=>Heap.get?_push_of_some _ e,turn_range _ lo (hi - lo).toNat,?_,fun b hb=>?_,q⟩
 ·have e1:lo+((0:Nat):Int) * 1=lo:=by simp
  have e2:(((hi - lo).toNat:Nat):Int) - ((0:Nat):Int)=Builtin.Range.rangeSize lo hi 1:=by rw[rangeSize_one];split <;> omega
  show IsRangeIter _ _ (lo+((0:Nat):Int) * 1) ((((hi - lo).toNat:Nat):Int) - ((0:Nat):Int)) 1
  rw[e1,e2]
  exact Heap.get?_push_size _ rfl
 ·have e:b=(s.heap.push { cls:=.type "range",data:=.fields #[.int lo t,.int hi u,.int 1 v] }).objs.size:=by simpa using hb
  subst e
  exact I1.fpOk (Nat.le_refl _) (I1.hok.fresh (Nat.le_refl _))
def iRng1(ta:TA):TI:=fun σ H R=>ta σ H fun vs H1=>∃ j:Int,vs=[.int j] /\ -(2 ^ 62)<=j/\j < 2 ^ 62/\R (Itr 0 j.toNat) H1
def iRng2(ta:TA):TI:=fun σ H R=>ta σ H fun vs H1=>∃ i j:Int,vs=[.int i,.int j]/\(-(2 ^ 62)<=i/\i < 2 ^ 62 /\ -(2 ^ 62)<=j/\j < 2 ^ 62)/\R (Itr i (j - i).toNat) H1
theorem pi_range1{a:Expr}{ta:TA}{p pos:Pos}(hg:Gl X "range")(hm:X.mg "range"=none)(ha:PA X [a] ta)(hs:starEach [a] X.env=[(false,eval a X.env)]:=by rfl):PI X tg (.Call (.Name "range" p) [a] [] pos) (iRng1 ta):=by
 intro pins s σ H R I h
 refine Call_ (ld_blt I hg hm boot_range (PyProof.Rows.callWith_type1 (thn (ha pos pins s σ H _ I h) fun us s1 ⟨vs,H1,I1,r1,q1⟩=>?_) hs rfl))
 obtain⟨j,e,q1,q2,q⟩:=q1
 subst e
 cases r1 with
 | cons r rr =>
  cases rr
  obtain⟨t,rfl⟩:=r
  exact call_range_1 (range_it I1 (by omega) (by omega) q1 q2 (by simpa using q))
theorem pi_range2{a b:Expr}{ta:TA}{p pos:Pos}(hg:Gl X "range")(hm:X.mg "range"=none)(ha:PA X [a,b] ta)(hs:starEach [a,b] X.env=[(false,eval a X.env),(false,eval b X.env)]:=by rfl)(hs2:starEach [b] X.env=[(false,eval b X.env)]:=by rfl) :
 PI X tg (.Call (.Name "range" p) [a,b] [] pos) (iRng2 ta):=by
 intro pins s σ H R I h
 refine Call_ (ld_blt I hg hm boot_range (PyProof.Rows.callWith_type1 (thn (ha pos pins s σ H _ I h) fun us s1 ⟨vs,H1,I1,r1,q1⟩=>?_) (by rw[hs,hs2]) (by rw[hs2];rfl)))
 obtain⟨i,j,e,⟨q1,q2,q3,q4⟩,q⟩:=q1
 subst e
 cases r1 with
 | cons r rr =>
  cases rr with
  | cons r' rr =>
   cases rr
   obtain⟨t,rfl⟩:=r
   obtain⟨t',rfl⟩:=r'
   exact call_range_2 (range_it I1 q1 q2 q3 q4 q)
def tFor(wi:TI)(g:TG)(tb:TS):TS:=fun D σ H=>wi σ H fun J H1=>∃ W:Nat->Nat->St->Hp->Prop,(∃ m,W 0 m σ H1)/\∀ i m σ H,W i m σ H ->
 (J.stop i H/\D.nx σ H)\/(J.go i H/\∃ N:St->Hp->Prop,(∀ σ' H',N σ' H'->∃ m',m' < m/\W (i+1) m' σ' H')/\∀ x H',J.yld i H x H'->g x σ H' fun σ2 H2=>tb { D with nx:=N,ct:=N,bk:=D.nx } σ2 H2)
def pinsAt(fp:List Addr)(h:Heap):List (Addr×Obj):=fp.filterMap fun b=>(h.get? b).map fun o=>(b,o)
theorem mem_pinsAt{fp:List Addr}{h:Heap}{b:Addr}{o:Obj}(hb:b∈fp)(e:h.get? b=some o):(b,o)∈pinsAt fp h:=List.mem_filterMap.mpr ⟨b,hb,by rw[e];rfl⟩
theorem of_pinsAt{fp:List Addr}{h:Heap}{p:Addr×Obj}(hp:p∈pinsAt fp h):p.1∈fp/\h.get? p.1=some p.2:=by
 obtain⟨b,hb,e⟩:=List.mem_filterMap.mp hp
 cases q:h.get? b with
 | none=>rw[q]at e;cases e
 | some o =>
  rw[q]at e
  have e':(b,o)=p:=Option.some.inj e
  subst e'
  exact⟨hb,q⟩
theorem Inv.pinned{pins:List (Addr×Obj)}{σ:St}{H:Hp}{s:Shared}{fp:List Addr}(I:Inv X pins σ H s)(hf:∀ b∈fp,FpOk X pins H b)(ho:∀ b∈fp,∃ o,s.heap.get? b=some o/\∀ v,o.data≠.cell v):Inv X (pins++pinsAt fp s.heap) σ H s :=
 I.pins_of fun p hp=>(List.mem_append.mp hp).elim (fun z=>I.pin p (List.mem_append_right _ z)) fun z=>by
  obtain⟨hb,e⟩:=of_pinsAt z
  obtain⟨f0,f1,f2,_⟩:=hf p.1 hb
  obtain⟨o,e',d⟩:=ho p.1 hb
  rw[e]at e';cases e'
  exact⟨e,f0,f1,f2,d⟩
theorem Inv.unpinned{pins pl:List (Addr×Obj)}{σ:St}{H:Hp}{s:Shared}(I:Inv X (pins++pl) σ H s):Inv X pins σ H s:=I.pins_of fun p hp=>I.pin p (List.mem_append_right _ (List.mem_append_left _ hp))
theorem ps_for{iter:Expr}{body:List Stmt}{wi:TI}{g:TG}{tb:TS}{pos:Pos}(hp:PassesOwn (model X.prog X.w) X.A X.env X.xe)(hc:X.calm=true)(hi:PI X tg iter wi)(hg:PG X tg g)(hb:PSs X body tb)
 (hs:∀ x,foldedSetIterable iter X.env x=pure x:=by intro _;rfl):PS X (.For tg iter body [] pos) (tFor wi g tb):=by
 intro pins s σ H D I h
 refine wpAny_For (thn (hi pins s σ H _ I h) fun v s1 h1=>thn h1 fun itv s2 h2=>?_) hs
 obtain⟨it,fp,tn,J,H2,e,I2,T,st2,f2,W,⟨m0,w0⟩,turn⟩:=h2
 subst e
 have stat:∀ {H':Hp},(∀ b∈fp,H' b=none)->∀ b∈fp,FpOk X pins H' b:=fun hn b hb=>⟨hn b hb,(f2 b hb).2⟩
 refine codeAny_forLoop_any (fun n s'=>∃ i σ' H',Inv X pins σ' H' s'/\tn i s'.heap/\(∀ b∈fp,H' b=none)/\W i n σ' H') ?_ m0 ⟨0,σ,H2,I2,st2,fun b hb=>(f2 b hb).1,w0⟩
 rintro n s3 ⟨i,σ3,H3,I3,st3,fr3,w3⟩
 rcases turn i n σ3 H3 w3 with ⟨stop,qn⟩ | ⟨go,N,hN,step⟩
 ·refine wpAny_passesOwn hp (thn (T.done X rfl rfl rfl hc i pins s3 σ3 H3 X.xe I3 (stat fr3) st3 stop) fun r s4 ⟨hr,I4⟩=>?_)
  subst hr
  exact wpAny_execs_nil ⟨σ3,H3,I4,qn⟩
 ·refine wpAny_passesOwn hp (thn (T.item X rfl rfl rfl hc i pins s3 σ3 H3 X.xe I3 (stat fr3) st3 go) fun r s4 ⟨u,hr,h4⟩=>?_)
  subst hr
  refine wpAny_passesOwn hp (thn h4 fun _ s5 ⟨x,H5,I5,r5,y5,st5,fr5⟩=>?_)
  have I5':=I5.pinned (stat fr5) (T.obj _ _ st5)
  refine wpAny_passesOwn hp (thn (hg _ s5 σ3 H5 x u _ I5' r5 (step x H5 y5)) fun _ s6 ⟨σ6,H6,I6,q6⟩=>?_)
  refine wpAny_passesOwn hp (thn (hb _ s6 σ6 H6 _ I6 q6) fun f s7 q7=>?_)
  have again:∀ {σ7:St} {H7:Hp},Inv X (pins++pinsAt fp s5.heap) σ7 H7 s7->N σ7 H7->∃ m,m < n/\∃ i σ' H',Inv X pins σ' H' s7/\tn i s7.heap/\(∀ b∈fp,H' b=none)/\W i m σ' H':=fun {σ7 H7} I7 n7=>by
   obtain⟨m',hm,w7⟩:=hN σ7 H7 n7
   refine⟨m',hm,i+1,σ7,H7,I7.unpinned,T.keep _ _ _ st5 fun b hb o e=>(I7.pin (b,o) (List.mem_append_right _ (List.mem_append_right _ (mem_pinsAt hb e)))).1,fun b hb=>?_,w7⟩
   obtain⟨o,e,d⟩:=T.obj _ _ st5 b hb
   exact(I7.pin (b,o) (List.mem_append_right _ (List.mem_append_right _ (mem_pinsAt hb e)))).2.1
  cases f with
  | next=>obtain⟨σ7,H7,I7,n7⟩:=q7;exact again I7 n7
  | cont=>obtain⟨σ7,H7,I7,n7⟩:=q7;exact again I7 n7
  | brk=>obtain⟨σ7,H7,I7,q7⟩:=q7;exact⟨σ7,H7,I7.unpinned,q7⟩
  | ret v=>obtain⟨x7,σ7,H7,I7,r7,q7⟩:=q7;exact⟨x7,σ7,H7,I7.unpinned,r7,q7⟩
end
theorem for_list{K:PySem.W.Frag}{a:Addr}{xs:List V}{g:TG}{tb:TS}{D:Ends}{σ:St}{H:Hp}(Pv:Nat->St->Hp->Prop)(h0:Pv 0 σ H)(hl:∀ i σ H,i<=xs.length->Pv i σ H->SqL K H a xs)
 (hs:∀ i x σ H,xs[i]?=some x->Pv i σ H->g x σ H fun σ2 H2=>tb { D with nx:=Pv (i+1),ct:=Pv (i+1),bk:=D.nx } σ2 H2) (hd:∀ σ H,Pv xs.length σ H->D.nx σ H) :
 ∃ W:Nat->Nat->St->Hp->Prop,(∃ m,W 0 m σ H)/\∀ i m σ H,W i m σ H ->
  ((Itl K a).stop i H/\D.nx σ H)\/((Itl K a).go i H/\∃ N:St->Hp->Prop,(∀ σ' H',N σ' H'->∃ m',m' < m/\W (i+1) m' σ' H')/\∀ x H',(Itl K a).yld i H x H'->g x σ H' fun σ2 H2=>tb { D with nx:=N,ct:=N,bk:=D.nx } σ2 H2):=by
 refine⟨fun i m σ H=>m=xs.length - i/\i<=xs.length/\Pv i σ H,⟨xs.length,by simp,Nat.zero_le _,h0⟩,?_⟩
 rintro i m σ H ⟨rfl,hi,p⟩
 have q:=hl i σ H hi p
 by_cases hlt:i < xs.length
 ·refine .inr ⟨⟨xs,xs[i],q,by simp[hlt]⟩,Pv (i+1),fun σ' H' p'=>⟨xs.length - (i+1),by omega,rfl,hlt,p'⟩,fun x H' y=>?_⟩
  obtain⟨e,y⟩:=y
  subst e
  exact hs i x σ _ (y xs q) p
 ·have e:i=xs.length:=by omega
  subst e
  exact .inl ⟨⟨xs,q,Nat.le_refl _⟩,hd σ H p⟩
theorem for_tup{K:PySem.W.Frag}{a:Addr}{xs:List V}{g:TG}{tb:TS}{D:Ends}{σ:St}{H:Hp}(Pv:Nat->St->Hp->Prop)(h0:Pv 0 σ H)(hl:∀ i σ H,i<=xs.length->Pv i σ H->SqT K H a xs)
 (hs:∀ i x σ H,xs[i]?=some x->Pv i σ H->g x σ H fun σ2 H2=>tb { D with nx:=Pv (i+1),ct:=Pv (i+1),bk:=D.nx } σ2 H2) (hd:∀ σ H,Pv xs.length σ H->D.nx σ H) :
 ∃ W:Nat->Nat->St->Hp->Prop,(∃ m,W 0 m σ H)/\∀ i m σ H,W i m σ H ->
  ((Itt K a).stop i H/\D.nx σ H)\/((Itt K a).go i H/\∃ N:St->Hp->Prop,(∀ σ' H',N σ' H'->∃ m',m' < m/\W (i+1) m' σ' H')/\∀ x H',(Itt K a).yld i H x H'->g x σ H' fun σ2 H2=>tb { D with nx:=N,ct:=N,bk:=D.nx } σ2 H2):=by
 refine⟨fun i m σ H=>m=xs.length - i/\i<=xs.length/\Pv i σ H,⟨xs.length,by simp,Nat.zero_le _,h0⟩,?_⟩
 rintro i m σ H ⟨rfl,hi,p⟩
 have q:=hl i σ H hi p
 by_cases hlt:i < xs.length
 ·refine .inr ⟨⟨xs,xs[i],q,by simp[hlt]⟩,Pv (i+1),fun σ' H' p'=>⟨xs.length - (i+1),by omega,rfl,hlt,p'⟩,fun x H' y=>?_⟩
  obtain⟨e,y⟩:=y
  subst e
  exact hs i x σ _ (y xs q) p
 ·have e:i=xs.length:=by omega
  subst e
  exact .inl ⟨⟨xs,q,Nat.le_refl _⟩,hd σ H p⟩
theorem for_range{lo:Int}{n:Nat}{g:TG}{tb:TS}{D:Ends}{σ:St}{H:Hp}(Pv:Nat->St->Hp->Prop)(h0:Pv 0 σ H)
 (hs:∀ i σ H,i < n->Pv i σ H->g (.int (lo+i)) σ H fun σ2 H2=>tb { D with nx:=Pv (i+1),ct:=Pv (i+1),bk:=D.nx } σ2 H2) (hd:∀ σ H,Pv n σ H->D.nx σ H) :
 ∃ W:Nat->Nat->St->Hp->Prop,(∃ m,W 0 m σ H)/\∀ i m σ H,W i m σ H ->
  ((Itr lo n).stop i H/\D.nx σ H)\/((Itr lo n).go i H/\∃ N:St->Hp->Prop,(∀ σ' H',N σ' H'->∃ m',m' < m/\W (i+1) m' σ' H')/\∀ x H',(Itr lo n).yld i H x H'->g x σ H' fun σ2 H2=>tb { D with nx:=N,ct:=N,bk:=D.nx } σ2 H2):=by
 refine⟨fun i m σ H=>m=n - i/\i<=n/\Pv i σ H,⟨n,by simp,Nat.zero_le _,h0⟩,?_⟩
 rintro i m σ H ⟨rfl,hi,p⟩
 by_cases hlt:i < n
 ·refine .inr ⟨hlt,Pv (i+1),fun σ' H' p'=>⟨n - (i+1),by omega,rfl,hlt,p'⟩,fun x H' y=>?_⟩
  obtain⟨e,y⟩:=y
  subst e y
  exact hs i σ _ hlt p
 ·have e:i=n:=by omega
  subst e
  exact .inl ⟨Nat.le_refl _,hd σ H p⟩
end L2
namespace L2
open PySem PySem.Spec PyProof.Rows
abbrev R2:=V->V->Hp->VK->Prop
def OpR(X:Cx)(f:Value->Value->Sem Value)(r:R2):Prop :=
 ∀ (pins:List (Addr×Obj)) (s:Shared) (σ:St) (H:Hp) (x y:V) (v u:Value) (Q:VK),Inv X pins σ H s->RelV x v->RelV y u->r x y H Q ->
  wpAny (model X.prog X.w) X.A (f v u) (EP X pins σ Q) X.xe s
def UnR(X:Cx)(f:Value->Sem Value)(r:V->Hp->VK->Prop):Prop :=
 ∀ (pins:List (Addr×Obj)) (s:Shared) (σ:St) (H:Hp) (x:V) (v:Value) (Q:VK),Inv X pins σ H s->RelV x v->r x H Q ->
  wpAny (model X.prog X.w) X.A (f v) (EP X pins σ Q) X.xe s
def CallR(X:Cx)(f:Value)(r:List V->Hp->VK->Prop):Prop :=
 ∀ (pins:List (Addr×Obj)) (s:Shared) (σ:St) (H:Hp) (xs:List V) (us:List Value) (Q:VK),Inv X pins σ H s->Vals xs us->r xs H Q ->
  wpAny (model X.prog X.w) X.A (call f us) (EP X pins σ Q) X.xe s
def TruR(X:Cx)(r:V->Hp->(Bool->Hp->Prop)->Prop):Prop :=
 ∀ (pins:List (Addr×Obj)) (s:Shared) (σ:St) (H:Hp) (x:V) (v:Value) (Q:Bool->Hp->Prop),Inv X pins σ H s->RelV x v->r x H Q ->
  wpAny (model X.prog X.w) X.A (truthy v) (TP X pins σ Q) X.xe s
def tOp(r:R2)(ta tb:TE):TE:=fun σ H Q=>ta σ H fun x H1=>tb σ H1 fun y H2=>r x y H2 Q
def tUn(r:V->Hp->VK->Prop)(ta:TE):TE:=fun σ H Q=>ta σ H fun x H1=>r x H1 Q
def rI(C:Int->Int->Prop)(g:Int->Int->V):R2:=fun x y H Q=>∃ i j,x=.int i/\y=.int j/\C i j/\Q (g i j) H
def rI0(g:Int->Int->V):R2:=fun x y H Q=>∃ i j,x=.int i/\y=.int j/\Q (g i j) H
def rU(g:Int->V):V->Hp->VK->Prop:=fun x H Q=>∃ i,x=.int i/\Q (g i) H
section
variable{X:Cx}{a b c:Expr}{ta tb tc:TE}{pos:Pos}
theorem binT(ha:PE X a ta)(hb:PE X b tb){pins:List (Addr×Obj)}{s:Shared}{σ:St}{H:Hp}{R:V->V->Hp->Prop}(I:Inv X pins σ H s)
 (h:ta σ H fun x H1=>tb σ H1 fun y H2=>R x y H2) {Q:Value->Shared->Prop} {f:Value->Value->Sem Value}
 (hf:∀ v u s2 x y H2,Inv X pins σ H2 s2->RelV x v->RelV y u->R x y H2->wpAny (model X.prog X.w) X.A (f v u) Q X.xe s2) :
 wpAny (model X.prog X.w) X.A (eval a X.env) (fun v s₁=>wpAny (model X.prog X.w) X.A (eval b X.env) (fun u s₂=>wpAny (model X.prog X.w) X.A (f v u) Q X.xe s₂) X.xe s₁) X.xe s:=by
 refine thn (ha pins s σ H _ I h) fun v s1 ⟨x,H1,I1,r1,q1⟩=>?_
 refine thn (hb pins s1 σ H1 _ I1 q1) fun u s2 ⟨y,H2,I2,r2,q2⟩=>?_
 exact hf v u s2 x y H2 I2 r1 r2 q2
theorem pe_op{op:Operator}{r:R2}(ho:OpR X (binaryOp op) r)(ha:PE X a ta)(hb:PE X b tb):PE X (.BinOp a op b pos) (tOp r ta tb):=by
 intro pins s σ H Q I h
 exact wpAny_BinOp (binT ha hb I h fun v u s2 x y H2 I2 rx ry q=>ho pins s2 σ H2 x y v u Q I2 rx ry q)
theorem pe_un{op:UnaryOp}{r:V->Hp->VK->Prop}(ho:UnR X (unaryOp op) r)(ha:PE X a ta):PE X (.UnaryOp op a pos) (tUn r ta):=by
 intro pins s σ H Q I h
 exact UnaryOp_ (thn (ha pins s σ H _ I h) fun v s1 ⟨x,H1,I1,r1,q1⟩=>ho pins s1 σ H1 x v Q I1 r1 q1)
theorem opI{f:Value->Value->Sem Value}{C:Int->Int->Prop}{g:Int->Int->Int}
 (rule:∀ (i j:Int) (t u:Tok) (s:Shared) (Q:Value->Shared->Prop) (E:Value->Shared->Prop),C i j->Q (.int (g i j) s.toks) { s with toks:=s.toks+1 }->wpAny (model X.prog X.w) X.A (f (.int i t) (.int j u)) Q E s) :
 OpR X f (rI C fun i j=>.int (g i j)):=by
 intro pins s σ H x y v u Q I rx ry h
 obtain⟨i,j,rfl,rfl,hc,q⟩:=h
 obtain⟨t,rfl⟩:=rx
 obtain⟨t',rfl⟩:=ry
 exact rule i j t t' s _ _ hc ⟨.int (g i j),H,I.tok _,⟨_,rfl⟩,q⟩
theorem opI0{f:Value->Value->Sem Value}{g:Int->Int->Int}
 (rule:∀ (i j:Int) (t u:Tok) (s:Shared) (Q:Value->Shared->Prop) (E:Value->Shared->Prop),Q (.int (g i j) s.toks) { s with toks:=s.toks+1 }->wpAny (model X.prog X.w) X.A (f (.int i t) (.int j u)) Q E s) :
 OpR X f (rI0 fun i j=>.int (g i j)):=by
 intro pins s σ H x y v u Q I rx ry h
 obtain⟨i,j,rfl,rfl,q⟩:=h
 obtain⟨t,rfl⟩:=rx
 obtain⟨t',rfl⟩:=ry
 exact rule i j t t' s _ _ ⟨.int (g i j),H,I.tok _,⟨_,rfl⟩,q⟩
theorem opB0{f:Value->Value->Sem Value}{g:Int->Int->Bool}
 (rule:∀ (i j:Int) (t u:Tok) (s:Shared) (Q:Value->Shared->Prop) (E:Value->Shared->Prop),Q (.bool (g i j)) s->wpAny (model X.prog X.w) X.A (f (.int i t) (.int j u)) Q E s) :
 OpR X f (rI0 fun i j=>.bl (g i j)):=by
 intro pins s σ H x y v u Q I rx ry h
 obtain⟨i,j,rfl,rfl,q⟩:=h
 obtain⟨t,rfl⟩:=rx
 obtain⟨t',rfl⟩:=ry
 exact rule i j t t' s _ _ ⟨.bl (g i j),H,I,rfl,q⟩
def CDiv(i j:Int):Prop:=0 < j/\j < 1073741824
def CPow(i j:Int):Prop:=0<=j/\j<=1000000/\i.natAbs < 2 ^ 64
def CMul(i j:Int):Prop:=(-(2 ^ 64) < i/\i < 2 ^ 64)\/(-(2 ^ 64) < j/\j < 2 ^ 64)
theorem CMul.ok{i j:Int}(h:CMul i j):IntMulOk i j:=by
 rcases h with ⟨h1,h2⟩ | ⟨h1,h2⟩
 ·exact .of_left (intBits_le_64 h1 h2)
 ·exact .of_right (intBits_le_64 h1 h2)
theorem two_pow_nn(k:Nat):(0:Int)<=2 ^ k:=by
 rw[two_pow_cast]
 exact Int.natCast_nonneg _
theorem op_add:OpR X (binaryOp .Add) (rI0 fun i j=>.int (i+j)):=opI0 fun _ _ _ _ _ _ _ q=>add_int q
theorem op_sub:OpR X (binaryOp .Sub) (rI0 fun i j=>.int (i - j)):=opI0 fun _ _ _ _ _ _ _ q=>sub_int q
theorem op_fdiv:OpR X (binaryOp .FloorDiv) (rI CDiv fun i j=>.int (i / j)):=opI fun i j _ _ _ _ _ hc q=>by
 have h1:(0:Int) < j:=hc.1
 have h2:j < 1073741824:=hc.2
 exact floordiv_int (by omega) (by rw[Int.fdiv_eq_ediv_of_nonneg i (by omega)];exact q) (.inl (PyProof.noPylong_small (by omega)))
theorem op_mod:OpR X (binaryOp .Mod) (rI (fun _ j=>0 < j) fun i j=>.int (i % j)):=opI fun i j _ _ _ _ _ hc q=>by
 have h1:(0:Int) < j:=hc
 exact mod_int' (by omega) (by rw[Int.fmod_eq_emod_of_nonneg i (by omega)];exact q)
theorem op_pow:OpR X (binaryOp .Pow) (rI CPow fun i j=>.int (i ^ j.toNat)):=opI fun _ _ _ _ _ _ _ hc q=>pow_int_small hc.1 hc.2.1 hc.2.2 q
theorem op_shr:OpR X (binaryOp .RShift) (rI (fun _ j=>0<=j) fun i j=>.int (i / 2 ^ j.toNat)):=opI fun i j _ _ _ _ _ hc q =>
 rshift_int hc (by rw[Int.fdiv_eq_ediv_of_nonneg i (two_pow_nn _)];exact q)
theorem op_xor:OpR X (binaryOp .BitXor) (rI0 fun i j=>.int (Builtin.bitXor i j)):=opI0 fun _ _ _ _ _ _ _ q=>xor_int q
theorem unI{f:Value->Sem Value}{g:Int->Int}
 (rule:∀ (i:Int) (t:Tok) (s:Shared) (Q:Value->Shared->Prop) (E:Value->Shared->Prop),Q (.int (g i) s.toks) { s with toks:=s.toks+1 }->wpAny (model X.prog X.w) X.A (f (.int i t)) Q E s) :
 UnR X f (rU fun i=>.int (g i)):=by
 intro pins s σ H x v Q I rx h
 obtain⟨i,rfl,q⟩:=h
 obtain⟨t,rfl⟩:=rx
 exact rule i t s _ _ ⟨.int (g i),H,I.tok _,⟨_,rfl⟩,q⟩
theorem un_neg:UnR X (unaryOp .USub) (rU fun i=>.int (-i)):=unI fun _ _ _ _ _ q=>neg_int q
end
def scal:V->V->Bool
 | .non,.non=>true | .non,.int _=>true | .int _,.non=>true | .non,.bl _=>true | .bl _,.non=>true | .non,.str _=>true | .str _,.non=>true
 | .int _,.int _=>true | .bl _,.bl _=>true | .str _,.str _=>true | .byt _,.byt _=>true
 | .int _,.str _=>true | .str _,.int _=>true | .bl _,.str _=>true | .str _,.bl _=>true
 | _,_=>false
def rEq:R2:=fun x y H Q=>scal x y=true/\Q (.bl (decide (x=y))) H
def rNe:R2:=fun x y H Q=>scal x y=true/\Q (.bl (!decide (x=y))) H
theorem dec_int{i j:Int}:decide (V.int i=V.int j)=(i == j):=by
 rw[Bool.eq_iff_iff]
 simp
theorem dec_bl{i j:Bool}:decide (V.bl i=V.bl j)=(i == j):=by
 rw[Bool.eq_iff_iff]
 simp
theorem dec_str{i j:Str}:decide (V.str i=V.str j)=(i == j):=by
 rw[Bool.eq_iff_iff]
 simp
theorem dec_byt{i j:Array UInt8}:decide (V.byt i=V.byt j)=(i.toList == j.toList):=by
 rw[Bool.eq_iff_iff]
 cases i
 cases j
 simp
section
variable{X:Cx}{a b c:Expr}{ta tb tc:TE}{pos:Pos}
theorem fin_bl{pins:List (Addr×Obj)}{σ:St}{H:Hp}{s:Shared}{Q:VK}{k k':Bool}(I:Inv X pins σ H s)(q:Q (.bl k) H)(e:k=k'):EP X pins σ Q (.bool k') s:=by
 subst e
 exact⟨.bl k,H,I,rfl,q⟩
theorem op_eq:OpR X (compareOp .Eq) rEq:=by
 intro pins s σ H x y v u Q I rx ry h
 obtain⟨hs,q⟩:=h
 cases x with
 | non =>
  cases rx
  cases y with
  | non=>cases ry;exact PySem.EqNone.eq_none_none (fin_bl I q (by simp))
  | bl j=>cases ry;exact PySem.EqNone.eq_none_bool (fin_bl I q (by simp))
  | int j=>obtain⟨t',rfl⟩:=ry;exact PySem.EqNone.eq_none_int (fin_bl I q (by simp))
  | str j=>obtain⟨t',rfl⟩:=ry;exact PySem.EqNone.eq_none_str (fin_bl I q (by simp))
  | _=>exact absurd (show false=true from hs) Bool.false_ne_true
 | bl i =>
  cases rx
  cases y with
  | non=>cases ry;exact PySem.EqNone.eq_bool_none (fin_bl I q (by simp))
  | bl j=>cases ry;exact eq_bool (fin_bl I q dec_bl)
  | str j=>obtain⟨t',rfl⟩:=ry;exact PySem.EqMixed.eq_bool_str (fin_bl I q (by simp))
  | _=>exact absurd (show false=true from hs) Bool.false_ne_true
 | int i =>
  obtain⟨t,rfl⟩:=rx
  cases y with
  | non=>cases ry;exact PySem.EqNone.eq_int_none (fin_bl I q (by simp))
  | int j=>obtain⟨t',rfl⟩:=ry;exact eq_int (fin_bl I q dec_int)
  | str j=>obtain⟨t',rfl⟩:=ry;exact PySem.EqMixed.eq_int_str (fin_bl I q (by simp))
  | _=>exact absurd (show false=true from hs) Bool.false_ne_true
 | str i =>
  obtain⟨t,rfl⟩:=rx
  cases y with
  | non=>cases ry;exact PySem.EqNone.eq_str_none (fin_bl I q (by simp))
  | bl j=>cases ry;exact PySem.EqMixed.eq_str_bool (fin_bl I q (by simp))
  | int j=>obtain⟨t',rfl⟩:=ry;exact PySem.EqMixed.eq_str_int (fin_bl I q (by simp))
  | str j=>obtain⟨t',rfl⟩:=ry;exact eq_str (fin_bl I q dec_str)
  | _=>exact absurd (show false=true from hs) Bool.false_ne_true
 | byt i =>
  obtain⟨t,rfl⟩:=rx
  cases y with
  | byt j=>obtain⟨t',rfl⟩:=ry;exact PySem.W.eq_bytes (fin_bl I q dec_byt)
  | _=>exact absurd (show false=true from hs) Bool.false_ne_true
 | _=>cases y <;> exact absurd (show false=true from hs) Bool.false_ne_true
theorem op_ne:OpR X (compareOp .NotEq) rNe:=by
 intro pins s σ H x y v u Q I rx ry h
 obtain⟨hs,q⟩:=h
 cases x with
 | non =>
  cases rx
  cases y with
  | non=>cases ry;exact PySem.EqNone.ne_none_none (fin_bl I q (by simp))
  | bl j=>cases ry;exact PySem.EqNone.ne_none_bool (fin_bl I q (by simp))
  | int j=>obtain⟨t',rfl⟩:=ry;exact PySem.EqNone.ne_none_int (fin_bl I q (by simp))
  | str j=>obtain⟨t',rfl⟩:=ry;exact PySem.EqNone.ne_none_str (fin_bl I q (by simp))
  | _=>exact absurd (show false=true from hs) Bool.false_ne_true
 | bl i =>
  cases rx
  cases y with
  | non=>cases ry;exact PySem.EqNone.ne_bool_none (fin_bl I q (by simp))
  | bl j=>cases ry;exact ne_bool (fin_bl I q (congrArg not dec_bl))
  | str j=>obtain⟨t',rfl⟩:=ry;exact PySem.EqMixed.ne_bool_str (fin_bl I q (by simp))
  | _=>exact absurd (show false=true from hs) Bool.false_ne_true
 | int i =>
  obtain⟨t,rfl⟩:=rx
  cases y with
  | non=>cases ry;exact PySem.EqNone.ne_int_none (fin_bl I q (by simp))
  | int j=>obtain⟨t',rfl⟩:=ry;exact ne_int (fin_bl I q (congrArg not dec_int))
  | str j=>obtain⟨t',rfl⟩:=ry;exact PySem.EqMixed.ne_int_str (fin_bl I q (by simp))
  | _=>exact absurd (show false=true from hs) Bool.false_ne_true
 | str i =>
  obtain⟨t,rfl⟩:=rx
  cases y with
  | non=>cases ry;exact PySem.EqNone.ne_str_none (fin_bl I q (by simp))
  | bl j=>cases ry;exact PySem.EqMixed.ne_str_bool (fin_bl I q (by simp))
  | int j=>obtain⟨t',rfl⟩:=ry;exact PySem.EqMixed.ne_str_int (fin_bl I q (by simp))
  | str j=>obtain⟨t',rfl⟩:=ry;exact ne_str (fin_bl I q (congrArg not dec_str))
  | _=>exact absurd (show false=true from hs) Bool.false_ne_true
 | byt i =>
  obtain⟨t,rfl⟩:=rx
  cases y with
  | byt j=>obtain⟨t',rfl⟩:=ry;exact PySem.W.ne_bytes (fin_bl I q (congrArg not dec_byt))
  | _=>exact absurd (show false=true from hs) Bool.false_ne_true
 | _=>cases y <;> exact absurd (show false=true from hs) Bool.false_ne_true
theorem op_lt:OpR X (compareOp .Lt) (rI0 fun i j=>.bl (decide (i < j))):=opB0 fun _ _ _ _ _ _ _ q=>lt_int q
theorem op_gt:OpR X (compareOp .Gt) (rI0 fun i j=>.bl (decide (j < i))):=opB0 fun _ _ _ _ _ _ _ q=>gt_int q
theorem op_ge:OpR X (compareOp .GtE) (rI0 fun i j=>.bl (decide (j<=i))):=opB0 fun _ _ _ _ _ _ _ q=>ge_int q
theorem op_isN:OpR X (compareOp .Is) (fun x y H Q=>y=.non/\Q (.bl (decide (x=.non))) H):=by
 intro pins s σ H x y v u Q I rx ry h
 obtain⟨rfl,q⟩:=h
 cases ry
 refine is_none_gen (fin_bl I q ?_)
 cases x <;> first
  | (cases rx;rfl)
  | (obtain⟨t,rfl⟩:=rx;rfl)
theorem op_notN:OpR X (compareOp .IsNot) (fun x y H Q=>y=.non/\Q (.bl (!decide (x=.non))) H):=by
 intro pins s σ H x y v u Q I rx ry h
 obtain⟨rfl,q⟩:=h
 cases ry
 refine isnot_none_gen (fin_bl I q ?_)
 cases x <;> first
  | (cases rx;rfl)
  | (obtain⟨t,rfl⟩:=rx;rfl)
theorem nomark(b:Expr){op:CmpOp}(h:op≠.In:=by decide)(h2:op≠.NotIn:=by decide):behindInMarks op b=false:=by
 have e1:(op == CmpOp.In)=false:=by cases op <;> first | rfl | exact absurd rfl h
 have e2:(op == CmpOp.NotIn)=false:=by cases op <;> first | rfl | exact absurd rfl h2
 cases b <;> simp[behindInMarks,e1,e2]
theorem pe_cmpR{op:CmpOp}{r:R2}(ho:OpR X (compareOp op) r)(ha:PE X a ta)(hb:PE X b tb)(hm:behindInMarks op b=false):PE X (.Compare a [op] [b] pos) (tOp r ta tb):=by
 intro pins s σ H Q I h
 exact wpAny_Compare1 (binT ha hb I h fun v u s2 x y H2 I2 rx ry q=>ho pins s2 σ H2 x y v u Q I2 rx ry q) hm
def tTest(t:TE):TT:=fun σ H Q=>t σ H fun x H'=>∃ k,x=.bl k/\Q k H'
theorem pt_cmpR{op:CmpOp}{r:R2}(ho:OpR X (compareOp op) r)(ha:PE X a ta)(hb:PE X b tb)(hm:behindInMarks op b=false):PT X (.Compare a [op] [b] pos) (tTest (tOp r ta tb)):=by
 intro pins s σ H Q I h
 refine wpAny_isTrue_Compare1 (thn (ha pins s σ H _ I h) fun v s1 ⟨x,H1,I1,r1,q1⟩=>thn (hb pins s1 σ H1 _ I1 q1) fun u s2 ⟨y,H2,I2,r2,q2⟩ =>
  thn (ho pins s2 σ H2 x y v u _ I2 r1 r2 q2) fun c s3 ⟨z,H3,I3,r3,k,e,q3⟩=>?_) hm
 subst e
 cases r3
 exact wpAny_truthy_bool ⟨H3,I3,q3⟩
def tChain(r r':R2)(ta tb tc:TE):TE:=fun σ H Q=>ta σ H fun x H1=>tb σ H1 fun y H2=>r x y H2 fun z H3=>∃ k,z=.bl k /\
 (if k=true then tc σ H3 fun w' H4=>r' y w' H4 Q else Q (.bl false) H3)
def TruV(K:PySem.W.Frag)(x:V)(H:Hp)(k:Bool):Prop :=
 match x with
 | .non=>k=false
 | .bl b=>k=b
 | .int i=>k=(i != 0)
 | .str y=>y.length<=sizeLine/\k=((y.length:Int) != 0)
 | .byt y=>y.size<=sizeLine/\k=((y.size:Int) != 0)
 | .ref p=>(∃ xs,SqL K H p xs/\k=!xs.isEmpty)\/(∃ xs,SqT K H p xs/\k=!xs.isEmpty)\/∃ kvs,H p=some (.dK kvs)/\k=!kvs.isEmpty
 | _=>False
theorem isEmpty_kv{κ:Type}{kvs:List (κ×V)}{vs:List (κ×Value)}(r:KV kvs vs):(!vs.isEmpty)=!kvs.isEmpty:=by
 cases r <;> rfl
theorem isEmpty_of{xs:List V}{its:List Value}(r:Vals xs its):(!its.toArray.isEmpty)=!xs.isEmpty:=by
 cases r <;> simp
theorem line63:(sizeLine:Nat) < 2 ^ 63:=by rw[sizeLine_eq];decide
theorem tru_ok:TruR X (fun x H Q=>∃ k,TruV X.K x H k/\Q k H):=by
 intro pins s σ H x v Q I rx h
 obtain⟨k,e,q⟩:=h
 have hl:=line63
 have hs:sizeLine=16777216:=sizeLine_eq
 cases x with
 | non =>
  cases rx
  have e':k=false:=e
  subst e'
  exact truthy_none ⟨H,I,q⟩
 | bl b =>
  cases rx
  have e':k=b:=e
  subst e'
  exact wpAny_truthy_bool ⟨H,I,q⟩
 | int i =>
  obtain⟨t,rfl⟩:=rx
  have e':k=(i != 0):=e
  subst e'
  exact PySem.P.truthy_int ⟨H,I,q⟩
 | str y =>
  obtain⟨t,rfl⟩:=rx
  obtain⟨hy,e'⟩:y.length<=sizeLine/\k=((y.length:Int) != 0):=e
  subst e'
  exact PySem.P.truthy_str (by omega) ⟨H,I.tok _,q⟩
 | byt y =>
  obtain⟨t,rfl⟩:=rx
  obtain⟨hy,e'⟩:y.size<=sizeLine/\k=((y.size:Int) != 0):=e
  subst e'
  exact PySem.W.truthy_bytes (by omega) ⟨H,I.tok _,q⟩
 | ref p =>
  cases rx
  have e':(∃ xs,SqL X.K H p xs/\k=!xs.isEmpty)\/(∃ xs,SqT X.K H p xs/\k=!xs.isEmpty)\/∃ kvs,H p=some (.dK kvs)/\k=!kvs.isEmpty:=e
  rcases e' with ⟨xs,hx,e'⟩ | ⟨xs,hx,e'⟩ | ⟨kvs,hx,e'⟩
  ·subst e'
   obtain⟨its,r,pl,hz⟩:=I.list hx
   have hlen:=r.length
   exact wpAny_truthy_list pl.isList (by simp only[List.size_toArray];omega) ⟨H,I.tok _,by rw[isEmpty_of r];exact q⟩
  ·subst e'
   obtain⟨its,r,pl,hz⟩:=I.tuple hx
   have hlen:=r.length
   exact truthy_tuple pl (by simp only[List.size_toArray];omega) ⟨H,I.tok _,by rw[isEmpty_of r];exact q⟩
  ·subst e'
   obtain⟨hz,hS,vs,r,m⟩:kvs.length<=sizeLine/\(p == sysModules)=false/\∃ vs,KV kvs vs/\s.heap.DictOf (mixKind X.prog X.w) p vs:=I.hok p _ hx
   have hlen:kvs.length=vs.length:=Paired.length r
   exact wpAny_truthy_dict hS m (by omega) ⟨H,I.tok _,by rw[isEmpty_kv r];exact q⟩
 | _=>exact(show False from e).elim
theorem pt_truth(ha:PE X a ta)(he:∀ whole,isTrue a X.env whole=(do let v <- whole;standAt a.pos;holding [v] (truthy v))) :
 PT X a (fun σ H Q=>ta σ H fun x H'=>∃ k,TruV X.K x H' k/\Q k H'):=by
 intro pins s σ H Q I h
 exact isTrue_plain (thn (ha pins s σ H _ I h) fun v s1 ⟨x,H1,I1,r1,q1⟩=>tru_ok pins s1 σ H1 x v Q I1 r1 q1) (he _)
theorem op_add_str:OpR X (binaryOp .Add) (fun x y H Q=>∃ i j,x=.str i/\y=.str j/\i.length+j.length<=sizeLine/\Q (.str (i++j)) H):=by
 intro pins s σ H x y v u Q I rx ry h
 obtain⟨i,j,rfl,rfl,hz,q⟩:=h
 obtain⟨t,rfl⟩:=rx
 obtain⟨t',rfl⟩:=ry
 exact add_str (fun t' tk=>⟨.str (i++j),H,I.tok _,⟨_,rfl⟩,q⟩) hz
theorem vals1{x:V}{us:List Value}(r:Vals [x] us):∃ u,us=[u]/\RelV x u:=by
 cases r with
 | cons r1 r2=>cases r2;exact⟨_,rfl,r1⟩
theorem vals2{x y:V}{us:List Value}(r:Vals [x,y] us):∃ u w',us=[u,w']/\RelV x u/\RelV y w':=by
 cases r with
 | cons r1 r2 =>
  cases r2 with
  | cons r3 r4=>cases r4;exact⟨_,_,rfl,r1,r3⟩
theorem call_max2(hc:X.calm=true):CallR X (.builtin "max") (fun xs H Q=>∃ i j,xs=[.int i,.int j]/\Q (.int (if j > i then j else i)) H):=by
 intro pins s σ H xs us Q I r h
 obtain⟨i,j,rfl,q⟩:=h
 obtain⟨u,w',rfl,⟨t,rfl⟩,⟨t',rfl⟩⟩:=vals2 r
 refine max_two_ints (I.ok.hd hc) fun h' tk k=>⟨_,H,I.kept k,?_,q⟩
 by_cases hj:j > i
 ·rw[if_pos hj,if_pos hj];exact⟨_,rfl⟩
 ·rw[if_neg hj,if_neg hj];exact⟨_,rfl⟩
theorem call_ord:CallR X (.builtin "ord") (fun xs H Q=>∃ x,xs=[.str x]/\x.length=1/\Q (.int (x.cps.getD 0 0:Nat)) H):=by
 intro pins s σ H xs us Q I r h
 obtain⟨x,rfl,hz,q⟩:=h
 obtain⟨u,rfl,t,rfl⟩:=vals1 r
 exact ord_of_one hz ⟨.int _,H,I.tok _,⟨_,rfl⟩,q⟩
end
end L2
namespace L2
open PySem PySem.Spec PyProof.Rows
structure ObjM(h:Heap)(x dx C:Addr)(mA:Str->Option Value):Prop where
 obj:h.get? x=some (PySem.W.instObj C dx)
 ns:h.Ns1 dx mA
 ne:dx≠x
theorem lookIn_ns{h:Heap}{dx:Addr}{mA:Str->Option Value}(n:h.Ns1 dx mA):∃ od,h.get? dx=some od/\∀ name,PySem.W.lookIn name od=some (mA name):=by
 obtain⟨o,es,ep,ho,hd,hk,_,hm⟩:=n
 refine⟨o,ho,fun name=>?_⟩
 have e:=hm name
 unfold nsFind findBy at e
 rw[<- Array.find?_toList]at e
 unfold PySem.W.lookIn
 rw[hd]
 dsimp only
 split
 ·rename_i y q
  rw[q]at e
  exact congrArg some e
 ·rename_i q
  rw[q]at e
  have a:es.toList.any (·.refKey)=false:=by
   rw[List.any_eq_false]
   intro y hy
   obtain⟨z,t,hkey⟩:=hk y (Array.mem_toList_iff.mp hy)
   simp[DictEntry.refKey,hkey]
  have a':¬ es.toList.any (·.refKey)=true:=by rw[a];exact Bool.false_ne_true
  rw[if_neg a']
  exact congrArg some e
theorem ObjM.look{h:Heap}{x dx C:Addr}{mA:Str->Option Value}(I:ObjM h x dx C mA):∃ od,PySem.W.InstAt h x (PySem.W.instObj C dx) C (some od)/\∀ name,PySem.W.lookIn name od=some (mA name) :=
 let ⟨od,ho,hl⟩:=lookIn_ns I.ns
 ⟨od,⟨I.obj,rfl,rfl,ho⟩,hl⟩
section
variable{prog:Program}{w:World}{A:Around}{E:Value->Shared->Prop}{s:Shared}{K:PySem.W.Frag}{x dx C f:Addr}{mA:Str->Option Value}{name:Str}{v:Value}
theorem get_map{expr:Bool}{Q:Value->Shared->Prop}(X:K.In s.heap)(I:ObjM s.heap x dx C mA)(hg:PySem.W.plainGet K C name=true)(hh:PySem.W.hasDictIn K C=true)
 (ha:PySem.W.findIn K (.ref C) name=some none) (hv:mA name=some v) (hv':PySem.W.handedIn v=true) (h:Q v { s with toks:=s.toks+1 }) :
 wpAny (model prog w) A (getAttr (.ref x) name expr) Q E s:=by
 obtain⟨od,J,hl⟩:=I.look
 exact PySem.W.get_value X J (PySem.W.plainGet_of hg).1 (PySem.W.findObj_own hh ha rfl (by rw[hl,hv])) hv' h
theorem get_meth{pl:Sem Bool}{Q:Value×List Value->Shared->Prop}(X:K.In s.heap)(I:ObjM s.heap x dx C mA)(hg:PySem.W.plainGet K C name=true)
 (hf:PySem.W.findIn K (.ref C) name=some (some (.ref f))) (ht:PySem.W.isFn K (.ref f)=true) (hv:mA name=none) (h:Q (.ref f,[.ref x]) s) :
 wpAny (model prog w) A (getMethod (.ref x) name pl) Q E s:=by
 obtain⟨od,J,hl⟩:=I.look
 exact PySem.W.method_fn X J (PySem.W.plainGet_of hg).1 (PySem.W.plainGet_of hg).2 hf (beq_iff_eq.mp ht) (by show(PySem.W.lookIn name od).map (·.isSome)=some false;rw[hl,hv];rfl) h
theorem set_map{ns:List Str}{Q:Unit->Shared->Prop}(X:K.In s.heap)(I:ObjM s.heap x dx C mA)
 (hs:PySem.W.findIn K (.ref C) "__setattr__"=some (some (.builtin "object.__setattr__"))) (hp:PySem.W.plainOver K C=true) (ht:PySem.W.takerIn K C name=some none) (hh:PySem.W.hasDictIn K C=true)
 (hw:PySem.Within mA ns) (hsz:ns.length<=sizeLine)
 (h:∀ h',ObjM h' x dx C (fun y=>if y=name then some v else mA y)->Heap.SameBut dx s.heap h'->Q () { s with heap:=h',toks:=s.toks+2 }) :
 wpAny (model prog w) A (setAttr (.ref x) name v) Q E s:=by
 obtain⟨od,J,hl⟩:=I.look
 refine PySem.W.set_plain X J hs (PySem.W.osa_open (s:={ s with toks:=s.toks+1 }) (r:=none) X J hp ht fun b=>?_)
 obtain⟨cd,hc,hd'⟩:=PySem.W.any_some hh
 have hx:s.heap.get? x=some ⟨.ref C,some dx,.plain,#[]⟩:=I.obj
 refine wpAny_bind (wpAny_pure (wpAny_bind (wpAny_bind (wpAny_loadPart hx (wpAny_bind (PySem.W.Looks.here (s:={ s with toks:=s.toks+1 }) (PySem.W.looks_clsIn X hc) ?_))))))
 rw[hd']
 refine wpAny_pure (a:=some dx) (wpAny_bind (wpAny_pure (wpAny_bind ?_)))
 refine wpAny_nsSet1 (s:={ s with toks:=s.toks+1 }) I.ns fun h' hn2 hs2=>?_
 obtain⟨oD,esD,epD,hoD,hdD,hcD⟩:=hn2.count (PySem.Within.cons name v hw)
 refine wpAny_bind (wpAny_lookBehind hoD (by rw[hdD];exact pastItsLine_dict (Nat.le_trans hcD (by rw[List.length_cons];omega))) ?_)
 exact wpAny_pure (h _ ⟨(hs2.2 _ (Ne.symm I.ne)).trans I.obj,hn2,I.ne⟩ hs2)
theorem make_map{R:Result->Shared->Prop}{vs:List Value}{kw:List (Str×Value)}(X:K.In s.heap)(hm:PySem.W.makesIn K C=true)
 (hi:PySem.W.findIn K (.ref C) "__init__"=some (some (.ref f))) (hf:PySem.W.typeIn K (.ref f)=some (.type "function"))
 (h:codeAny (model prog w) (A.under (.builtin "type.__call__" ⟨.ref C::vs,kw⟩)) (.call (.ref f) ⟨.ref (s.heap.objs.size+1)::vs,kw⟩) (PySem.W.InitBack (s.heap.objs.size+1) R)
  { s with heap:=(s.heap.push PySem.W.emptyDict).push (PySem.W.instObj C s.heap.objs.size) }) :
 codeAny (model prog w) A (.call (.ref C) ⟨vs,kw⟩) R s:=by
 obtain⟨hh,g,d,t,os⟩:=s
 exact PySem.W.make_core (PySem.W.makes_of X hm) (PySem.W.looks_findIn X hi) (fun self=>PySem.W.bind_fn X self hf) (.inl rfl) h
end
def putF(f:Str)(v:V):List (Str×V)->List (Str×V)
 | []=>[(f,v)]
 | (g,x)::r=>if g=f then (g,v)::r else (g,x)::putF f v r
theorem lookup_putF(f g:Str)(v:V):∀ fs:List (Str×V),(putF f v fs).lookup g=if g=f then some v else fs.lookup g
 | []=>by
  show List.lookup g [(f,v)]=_
  by_cases h:g=f
  ·have hb:(g == f)=true:=beq_iff_eq.mpr h
   simp only[List.lookup,hb,if_pos h]
  ·have hb:(g == f)=false:=beq_eq_false_iff_ne.mpr h
   simp only[List.lookup,hb,if_neg h]
 | (k,x)::r=>by
  have ih:=lookup_putF f g v r
  rw[show putF f v ((k,x)::r)=(if k=f then (k,v)::r else (k,x)::putF f v r) from rfl]
  by_cases hk:k=f
  ·rw[if_pos hk]
   by_cases h:g=k
   ·have hb:(g == k)=true:=beq_iff_eq.mpr h
    simp only[List.lookup,hb,if_pos (h.trans hk)]
   ·have hb:(g == k)=false:=beq_eq_false_iff_ne.mpr h
    simp only[List.lookup,hb,if_neg (fun e:g=f=>h (e.trans hk.symm))]
  ·rw[if_neg hk]
   by_cases h:g=k
   ·have hb:(g == k)=true:=beq_iff_eq.mpr h
    simp only[List.lookup,hb,if_neg (fun e:g=f=>hk (h.symm.trans e))]
   ·have hb:(g == k)=false:=beq_eq_false_iff_ne.mpr h
    simp only[List.lookup,hb]
    exact ih
theorem keys_putF(f:Str)(v:V):∀ fs:List (Str×V),f∈(putF f v fs).map (·.1)/\∀ g,g∈fs.map (·.1)->g∈(putF f v fs).map (·.1)
 | []=>⟨by simp[putF],fun g h=>by simp at h⟩
 | (k,x)::r=>by
  obtain⟨i1,i2⟩:=keys_putF f v r
  rw[show putF f v ((k,x)::r)=(if k=f then (k,v)::r else (k,x)::putF f v r) from rfl]
  by_cases hk:k=f
  ·rw[if_pos hk]
   subst hk
   exact⟨by simp,fun g h=>by simpa using h⟩
  ·rw[if_neg hk]
   refine⟨?_,fun g h=>?_⟩
   ·rw[List.map_cons]
    exact List.mem_cons_of_mem _ i1
   ·rw[List.map_cons]at h ⊢
    rcases List.mem_cons.mp h with e | e
    ·exact List.mem_cons.mpr (.inl e)
    ·exact List.mem_cons_of_mem _ (i2 g e)
theorem length_putF(f:Str)(v:V):∀ fs:List (Str×V),(putF f v fs).length<=fs.length+1
 | []=>by simp[putF]
 | (k,x)::r=>by
  have ih:=length_putF f v r
  rw[show putF f v ((k,x)::r)=(if k=f then (k,v)::r else (k,x)::putF f v r) from rfl]
  by_cases hk:k=f
  ·rw[if_pos hk,List.length_cons,List.length_cons];omega
  ·rw[if_neg hk,List.length_cons,List.length_cons];omega
theorem RelO.some_of{v:V}{o:Option Value}(r:RelO (some v) o):∃ u,o=some u/\RelV v u:=by
 cases o with
 | none=>exact(show False from r).elim
 | some u=>exact⟨u,rfl,r⟩
theorem RelO.none_of{o:Option Value}(r:RelO none o):o=none:=by
 cases o with
 | none=>rfl
 | some u=>exact(show False from r).elim
theorem handed_of{v:V}{u:Value}(r:RelV v u):PySem.W.handedIn u=true:=by
 cases v with
 | non=>cases (show u=Value.none from r);rfl
 | bl b=>cases (show u=Value.bool b from r);rfl
 | int i=>obtain⟨t,e⟩:=(show ∃ t,u=Value.int i t from r);cases e;rfl
 | str x=>obtain⟨t,e⟩:=(show ∃ t,u=Value.str x t from r);cases e;rfl
 | byt b=>obtain⟨t,e⟩:=(show ∃ t,u=Value.bytes b t from r);cases e;rfl
 | flt b=>obtain⟨t,e⟩:=(show ∃ t,u=Value.float b t from r);cases e;rfl
 | ref a=>cases (show u=Value.ref a from r);rfl
 | ty n=>cases (show u=Value.type n from r);rfl
section
variable{P:Program}{w:World}{H H':Hp}{h h':Heap}{a C dx:Addr}{fs fs':List (Str×V)}
theorem ins_get(hok:HOk P w H h)(e:H a=some (.ins C dx fs)):∃ mA,ObjM h a dx C mA/\(∀ f,RelO (fs.lookup f) (mA f))/\PySem.Within mA (fs.map (·.1))/\fs.length<=1000/\H dx=some (.own a):=by
 obtain⟨d,z,ne,ob,mA,n,r,q⟩:=(show ObjOk P w H h a (.ins C dx fs) from hok a _ e)
 exact⟨mA,⟨ob,n,ne⟩,r,q,z,d⟩
end
structure Cls(K:PySem.W.Frag)(C:Addr):Prop where
 pg:PySem.W.plainGet K C Str.empty=true
 hd:PySem.W.hasDictIn K C=true
 po:PySem.W.plainOver K C=true
 sa:PySem.W.findIn K (.ref C) "__setattr__"=some (some (.builtin "object.__setattr__"))
theorem Cls.get{K:PySem.W.Frag}{C:Addr}(c:Cls K C)(f:Str):PySem.W.plainGet K C f=true:=c.pg
def NoAttr(K:PySem.W.Frag)(C:Addr)(f:Str):Prop:=PySem.W.findIn K (.ref C) f=some none
theorem NoAttr.taker{K:PySem.W.Frag}{C:Addr}{f:Str}(n:NoAttr K C f):PySem.W.takerIn K C f=some none:=by
 unfold PySem.W.takerIn
 rw[show PySem.W.findIn K (.ref C) f=some none from n]
 rfl
structure Meth(K:PySem.W.Frag)(C:Addr)(m:Str)(f:Addr):Prop where
 at_:PySem.W.findIn K (.ref C) m=some (some (.ref f))
 fn:PySem.W.isFn K (.ref f)=true
 kp:PySem.W.keepIn K (.ref f)=true
section
variable{X:Cx}{pins:List (Addr×Obj)}{σ:St}{H:Hp}{s:Shared}{a C dx:Addr}{fs:List (Str×V)}{f:Str}{v:V}{A:Around}{E:Value->Shared->Prop}
theorem getattr_ok{b:Bool}{Q:Value->Shared->Prop}(I:Inv X pins σ H s)(e:H a=some (.ins C dx fs))(c:Cls X.K C)(n:NoAttr X.K C f)(l:fs.lookup f=some v)
 (h:∀ u s',Inv X pins σ H s'->RelV v u->Q u s'):wpAny (model X.prog X.w) A (getAttr (.ref a) f b) Q E s:=by
 obtain⟨mA,O,r,_,_,_⟩:=ins_get I.hok e
 obtain⟨u,hu,ru⟩:=RelO.some_of (v:=v) (o:=mA f) (by rw[<- l];exact r f)
 exact get_map I.kIn O (c.get f) c.hd n hu (handed_of ru) (h u _ (I.tok _) ru)
theorem getmeth_ok{m:Str}{g:Addr}{pl:Sem Bool}{Q:Value×List Value->Shared->Prop}(I:Inv X pins σ H s)(e:H a=some (.ins C dx fs))(c:Cls X.K C)(k:Meth X.K C m g)(l:fs.lookup m=none)
 (h:Q (.ref g,[.ref a]) s):wpAny (model X.prog X.w) A (getMethod (.ref a) m pl) Q E s:=by
 obtain⟨mA,O,r,_,_,_⟩:=ins_get I.hok e
 have hn:mA m=none:=RelO.none_of (by rw[<- l];exact r m)
 exact get_meth I.kIn O (c.get m) k.at_ k.fn hn h
theorem setattr_ok{y:V}{u:Value}{Q:Unit->Shared->Prop}(I:Inv X pins σ H s)(e:H a=some (.ins C dx fs))(c:Cls X.K C)(n:NoAttr X.K C f)(hl:fs.length < 1000)(ry:RelV y u)
 (h:∀ s',Inv X pins σ (upd H a (.ins C dx (putF f y fs))) s'->Q () s'):wpAny (model X.prog X.w) A (setAttr (.ref a) f u) Q E s:=by
 obtain⟨mA,O,r,wi,_,ho⟩:=ins_get I.hok e
 have hz:(fs.map (·.1)).length<=sizeLine:=by rw[List.length_map,sizeLine_eq];omega
 refine set_map I.kIn O c.sa c.po n.taker c.hd wi hz fun h' O' sb=>h _ ?_
 have hd:∃ o,h'.get? dx=some o:=let ⟨o,_,_,e',_⟩:=O'.ns;⟨o,e'⟩
 refine I.write (x:=a) (e:=dx) (by rw[e];exact True.intro) (.inr ho) (fun b q hb z=>(sb.2 b hb).trans z) hd ?_
 refine⟨by rw[upd_ne O.ne];exact ho,?_,O.ne,O'.obj,_,O'.ns,fun g=>?_,fun g hg=>?_⟩
 ·have:=length_putF f y fs;omega
 ·show RelO ((putF f y fs).lookup g) (if g=f then some u else mA g)
  rw[lookup_putF]
  by_cases q:g=f
  ·rw[if_pos q,if_pos q];exact ry
  ·rw[if_neg q,if_neg q];exact r g
 ·by_cases q:g=f
  ·rw[q];exact(keys_putF f y fs).1
  ·refine(keys_putF f y fs).2 g (wi g fun z=>hg ?_)
   show(if g=f then some u else mA g)=none
   rw[if_neg q];exact z
theorem Inv.made(I:Inv X pins σ H s):Inv X pins σ (upd (upd H s.heap.objs.size (.own (s.heap.objs.size+1))) (s.heap.objs.size+1) (.ins C s.heap.objs.size []))
 { s with heap:=(s.heap.push PySem.W.emptyDict).push (PySem.W.instObj C s.heap.objs.size) }:=by
 have e1:(s.heap.push PySem.W.emptyDict).get? s.heap.objs.size=some PySem.W.emptyDict:=Heap.get?_push_size s.heap rfl
 have e2:((s.heap.push PySem.W.emptyDict).push (PySem.W.instObj C s.heap.objs.size)).get? (s.heap.objs.size+1)=some (PySem.W.instObj C s.heap.objs.size):=by
  have:=Heap.get?_push_size (s.heap.push PySem.W.emptyDict) (o:=PySem.W.instObj C s.heap.objs.size) rfl
  rwa [Heap.size_push]at this
 have e3:(s.heap.push PySem.W.emptyDict).Ns s.heap.objs.size (fun _=>none):=⟨PySem.W.emptyDict,#[],_,e1,rfl,(fun e he=>absurd he (by simp)),fun _=>rfl⟩
 have I1:=I.laid (a:=s.heap.objs.size) (o:=.own (s.heap.objs.size+1)) (h':=s.heap.push PySem.W.emptyDict) (t':=s.toks) (fun b u q=>Heap.get?_push_of_some _ q) (Nat.le_refl _) ⟨_,e1⟩
 refine I1.laid (a:=s.heap.objs.size+1) (o:=.ins C s.heap.objs.size []) (t':=s.toks) (fun b u q=>Heap.get?_push_of_some _ q) (Nat.le_of_eq (Heap.size_push _ _)) ?_
 have ne:s.heap.objs.size≠s.heap.objs.size+1:=Nat.ne_of_lt (Nat.lt_succ_self _)
 refine⟨by rw[upd_ne ne,upd_same],Nat.zero_le _,ne,e2,fun _=>none,(Heap.Ns1.of_empty e3).at fun o q=>Heap.get?_push_of_some _ q,fun _=>True.intro,fun y hy=>absurd rfl hy⟩
theorem attr_of{prog:Program}{w:World}{env:Env}{e:Expr}{f:Str}{pos:Pos}{s:Shared}{Q:Value->Shared->Prop}(hb:attributeBase e f env (eval e env)=eval e env)
 (h:wpAny (model prog w) A (eval e env) (fun o s₁=>wpAny (model prog w) A (getAttr o f true) Q E s₁) E s):wpAny (model prog w) A (eval (.Attribute e f pos) env) Q E s :=
 Attribute_any_ h (by rw[arm_eval_Attribute,hb])
end
def tFld(K:PySem.W.Frag)(ta:TE)(f:Str):TE:=fun σ H Q=>ta σ H fun x H1=>∃ a C dx fs v,x=.ref a/\H1 a=some (.ins C dx fs)/\Cls K C/\NoAttr K C f/\fs.lookup f=some v/\Q v H1
def sFld(K:PySem.W.Frag)(ta tv:TE)(f:Str):TS:=fun D σ H=>tv σ H fun y H1=>ta σ H1 fun x H2=>∃ a C dx fs,x=.ref a/\H2 a=some (.ins C dx fs)/\Cls K C/\NoAttr K C f/\fs.length < 1000 /\
 D.nx σ (upd H2 a (.ins C dx (putF f y fs)))
section
variable{X:Cx}{o e value:Expr}{f:Str}{pos pos' tpos:Pos}{ta tv:TE}
theorem pe_fld(he:PE X e ta)(hb:attributeBase e f X.env (eval e X.env)=eval e X.env):PE X (.Attribute e f pos) (tFld X.K ta f):=by
 intro pins s σ H Q I h
 refine attr_of hb (thn (he pins s σ H _ I h) fun u s1 ⟨x,H1,I1,rx,a,C,dx,fs,v,ex,ea,c,n,l,q⟩=>?_)
 subst ex
 obtain rfl:u=Value.ref a:=rx
 exact getattr_ok I1 ea c n l fun u' s2 I2 ru=>⟨v,H1,I2,ru,q⟩
theorem ps_fld(ha:PE X o ta)(hv:PE X value tv)(hs:swapsWith value (some (.Attribute o f pos')) pos.line X.env=pure false):PS X (.Assign [.Attribute o f pos'] value pos) (sFld X.K ta tv f):=by
 intro pins s σ H D I h
 refine plainObj_wpAny_Assign_Attribute (thn (hv pins s σ H _ I h) fun u s1 ⟨y,H1,I1,ry,q⟩=>thn (ha pins s1 σ H1 _ I1 q) fun ov s2 ⟨x,H2,I2,rx,a,C,dx,fs,ex,ea,c,n,l,q2⟩=>?_) hs
 subst ex
 obtain rfl:ov=Value.ref a:=rx
 exact setattr_ok I2 ea c n l ry fun s3 I3=>⟨σ,_,I3,q2⟩
end
section
variable{X:Cx}{pins:List (Addr×Obj)}{σ:St}{H:Hp}{s:Shared}{A:Around}{E:Value->Shared->Prop}{Q:Value->Shared->Prop}{c:Value}{b:Bool}
inductive TyOf(K:PySem.W.Frag)(H:Hp):V->Value->Prop where
 | non:TyOf K H .non (.type "NoneType")
 | bl (x:Bool):TyOf K H (.bl x) (.type "bool")
 | int (i:Int):TyOf K H (.int i) (.type "int")
 | str (x:Str):TyOf K H (.str x) (.type "str")
 | flt (x:UInt64):TyOf K H (.flt x) (.type "float")
 | lst {a:Addr} {xs:List V} (e:H a=some (.lst xs)):TyOf K H (.ref a) (.type "list")
 | frz {a:Addr} {o:Obj} {xs:List V} (e:H a=some (.frz o (.lst xs))):TyOf K H (.ref a) (.type "list")
 | tup {a:Addr} {xs:List V} (e:H a=some (.tup xs)):TyOf K H (.ref a) (.type "tuple")
 | dK {a:Addr} {kvs:List (Key×V)} (e:H a=some (.dK kvs)):TyOf K H (.ref a) (.type "dict")
 | dT {a:Addr} {kvs:List (List Key×V)} (e:H a=some (.dT kvs)):TyOf K H (.ref a) (.type "dict")
 | ins {a C dx:Addr} {fs:List (Str×V)} (e:H a=some (.ins C dx fs)) (cl:Cls K C) (ha:PySem.W.findIn K (.ref C) "__class__"=some (some (.builtin "object.__class__")))
  (hn:PySem.W.specialIn K (.builtin "object.__class__") "__get__"=some (some (.builtin "getset_descriptor.__get__"))) (htk:PySem.W.takesIn K (.builtin "object.__class__")=some true)
  (hm:PySem.W.mroIn K C (.type "object")=some true):TyOf K H (.ref a) (.ref C)
theorem isinst_ok{x:V}{u t:Value}(I:Inv X pins σ H s)(rx:RelV x u)(ty:TyOf X.K H x t)(e:PySem.W.kitOne X.K t c=some b)(h:∀ tk,Q (.bool b) { s with toks:=tk }) :
 wpAny (model X.prog X.w) A (call (.builtin "isinstance") [u,c]) Q E s:=by
 cases ty with
 | non=>cases (show u=Value.none from rx);exact PySem.W.kia_one PySem.W.kitx_none I.kIn True.intro e (fun z=>nomatch z) h
 | bl y=>cases (show u=Value.bool y from rx);exact PySem.W.kia_one PySem.W.kitx_bool I.kIn True.intro e (fun z=>nomatch z) h
 | int i=>obtain⟨t,q⟩:=(show ∃ t,u=Value.int i t from rx);cases q;exact PySem.W.kia_one PySem.W.kitx_int I.kIn True.intro e (fun z=>nomatch z) h
 | str y=>obtain⟨t,q⟩:=(show ∃ t,u=Value.str y t from rx);cases q;exact PySem.W.kia_one PySem.W.kitx_str I.kIn True.intro e (fun z=>nomatch z) h
 | flt y=>obtain⟨t,q⟩:=(show ∃ t,u=Value.float y t from rx);cases q;exact PySem.W.kia_one PySem.W.kitx_float I.kIn True.intro e (fun z=>nomatch z) h
 | @lst a xs ea =>
  cases (show u=Value.ref a from rx)
  obtain⟨_,_,n,_,h1⟩:=(show ObjOk X.prog X.w H s.heap a (.lst xs) from I.hok a _ ea)
  exact PySem.W.kia_one PySem.W.kitx_list I.kIn ⟨_,h1,rfl⟩ e (fun z=>nomatch z) h
 | @frz a ob xs ea =>
  cases (show u=Value.ref a from rx)
  obtain⟨_,_,_,n,_,h1⟩:=(show ObjOk X.prog X.w H s.heap a (.frz ob (.lst xs)) from I.hok a _ ea)
  exact PySem.W.kia_one PySem.W.kitx_list I.kIn ⟨_,h1,rfl⟩ e (fun z=>nomatch z) h
 | @tup a xs ea =>
  cases (show u=Value.ref a from rx)
  obtain⟨_,_,_,p⟩:=(show ObjOk X.prog X.w H s.heap a (.tup xs) from I.hok a _ ea)
  obtain⟨o,h1,h2,_⟩:=p
  exact PySem.W.kia_one PySem.W.kitx_tuple I.kIn ⟨o,h1,h2⟩ e (fun z=>nomatch z) h
 | @dK a kvs ea =>
  cases (show u=Value.ref a from rx)
  obtain⟨_,_,vs,_,p⟩:=(show ObjOk X.prog X.w H s.heap a (.dK kvs) from I.hok a _ ea)
  obtain⟨o,es,ep,h1,h2,_⟩:=p
  exact PySem.W.kia_one PySem.W.kitx_dict I.kIn ⟨o,h1,h2.1⟩ e (fun z=>nomatch z) h
 | @dT a kvs ea =>
  cases (show u=Value.ref a from rx)
  obtain⟨_,_,xs,_,o,es,ep,h1,h2,_⟩:=(show ObjOk X.prog X.w H s.heap a (.dT kvs) from I.hok a _ ea)
  exact PySem.W.kia_one PySem.W.kitx_dict I.kIn ⟨o,h1,h2.1⟩ e (fun z=>nomatch z) h
 | @ins a C dx fs ea cl ha hn htk hm =>
  cases (show u=Value.ref a from rx)
  obtain⟨mA,O,_⟩:=ins_get I.hok ea
  obtain⟨od,J,_⟩:=O.look
  exact PySem.W.kia_one (PySem.W.kitx_own (cl.get _) cl.hd ha hn htk hm) I.kIn J e (fun z=>nomatch z) h
end
end L2
namespace L2
open PySem PySem.Spec PyProof.Rows
structure Room(k:Nat)(A:Around):Prop where
 hd:A.handled=none
 dp:A.depth+3 * k+5 < recursionLimit
 un:A.units+16 * k+200 < cLine
theorem Room.mono{j k:Nat}{A:Around}(r:Room k A)(h:j<=k):Room j A:=⟨r.hd,by have:=r.dp;omega,by have:=r.un;omega⟩
theorem Room.deeper{k:Nat}{A:Around}(r:Room (k+1) A)(env:Env):Room k (A.deeper env) :=
 ⟨r.hd,by have:=r.dp;show A.depth+1+3 * k+5 < _;omega,by have:=r.un;show A.units+3+16 * k+200 < _;omega⟩
theorem make_depth{A:Around}{C:Addr}{us:List Value}{kw:List (Str×Value)}:(A.under (.builtin "type.__call__" ⟨.ref C::us,kw⟩)).depth=A.depth+1:=by
 first | rfl | simp[Around.under,Code.weight,Code.isCreation,Code.isGuard,Code.isCaller,Code.frames,Code.isFrame,guardIds]
theorem make_units{A:Around}{C:Addr}{us:List Value}{kw:List (Str×Value)}:(A.under (.builtin "type.__call__" ⟨.ref C::us,kw⟩)).units=A.units+1:=by
 first | rfl | simp[Around.under,Code.cUnits,Code.frames,Code.isFrame]
theorem Room.make{k:Nat}{A:Around}(r:Room (k+1) A)(C:Addr)(us:List Value)(kw:List (Str×Value)):Room k (A.under (.builtin "type.__call__" ⟨.ref C::us,kw⟩)) :=
 ⟨r.hd,by have:=r.dp;rw[make_depth];omega,by have:=r.un;rw[make_units];omega⟩
theorem Room.depth{k:Nat}{A:Around}(r:Room k A):A.depth < recursionLimit:=by have:=r.dp;omega
theorem Room.units{k:Nat}{A:Around}(r:Room k A):A.units+64 < cLine:=by have:=r.un;omega
theorem Room.units0{k:Nat}{A:Around}(r:Room k A):A.units < cLine:=by have:=r.un;omega
def tNil:TA:=fun _ H Q=>Q [] H
def tCons(ta:TE)(tr:TA):TA:=fun σ H Q=>ta σ H fun x H1=>tr σ H1 fun xs H2=>Q (x::xs) H2
section
variable{X:Cx}{e:Expr}{es:List Expr}{te:TE}{t:TA}{pos:Pos}
theorem pa_nil:PA X [] tNil:=fun _ _ _ _ H Q I h=>Calls.spliced_nil ⟨[],H,I,.nil,h⟩
theorem pa_cons(ha:PE X e te)(hr:PA X es t)(hs:starEach (e::es) X.env=(false,eval e X.env)::starEach es X.env:=by rfl):PA X (e::es) (tCons te t):=by
 intro pos pins s σ H Q I h
 rw[hs]
 show wpAny _ _ (spliced ((false,eval e X.env)::backTo pos (starEach es X.env))) _ _ s
 refine Calls.spliced_cons (thn (ha pins s σ H _ I h) fun u s1 ⟨x,H1,I1,r1,q1⟩=>?_)
 exact thn (hr pos pins s1 σ H1 _ I1 q1) fun us s2 ⟨xs,H2,I2,r2,q2⟩=>⟨x::xs,H2,I2,.cons r1 r2,q2⟩
def tTup(t:TA):TE:=fun σ H Q=>t σ H fun xs H1=>xs.length<=sizeLine/\∀ p,H1 p=none->Q (.ref p) (upd H1 p (.tup xs))
def tLst(t:TA):TE:=fun σ H Q=>t σ H fun xs H1=>xs.length<=sizeLine/\∀ p,H1 p=none->Q (.ref p) (upd H1 p (.lst xs))
theorem pe_tup{x1}(h:PA X es t):PE X (.Tuple es x1 pos) (tTup t):=by
 intro pins s σ H Q I hq
 refine wpAny_Tuple_spliced (thn (h pos pins s σ H _ I hq) fun us s1 ⟨xs,H1,I1,r,z,q⟩=>⟨by rw[<- r.length];exact z,?_⟩)
 have hf:H1 s1.heap.objs.size=none:=I1.hok.fresh (Nat.le_refl _)
 refine⟨.ref s1.heap.objs.size,upd H1 s1.heap.objs.size (.tup xs),I1.laid (t':=s1.toks) (fun b u e=>Heap.get?_push_of_some _ e) (Nat.le_refl _) ?_,rfl,q _ hf⟩
 exact⟨⟨z,_,Heap.get?_push_size _ rfl,rfl⟩,us,r,⟨_,Heap.get?_push_size _ rfl,rfl,_,rfl⟩⟩
theorem pe_lst(h:PA X es t):PE X (.List es pos) (tLst t):=by
 intro pins s σ H Q I hq
 refine wpAny_List_spliced (thn (h pos pins s σ H _ I hq) fun us s1 ⟨xs,H1,I1,r,z,q⟩=>⟨by rw[<- r.length];exact z,?_⟩)
 have hf:H1 s1.heap.objs.size=none:=I1.hok.fresh (Nat.le_refl _)
 refine⟨.ref s1.heap.objs.size,upd H1 s1.heap.objs.size (.lst xs),I1.laid (t':=s1.toks) (fun b u e=>Heap.get?_push_of_some _ e) (Nat.le_refl _) ?_,rfl,q _ hf⟩
 exact⟨z,us,0,r,Heap.get?_push_size _ rfl⟩
end
abbrev Sp:=List V->Hp->VK->XK->Prop
abbrev CXT:=List Env->Hp->Shared->XK->Value->Shared->Prop
structure Env0(P:Program)(w:World)(K:PySem.W.Frag)(mg:Str->Option Value)(base:Heap)(A:Around)(outer:List Env)(s:Shared)(H:Hp):Prop where
 frames:A.frames=some outer
 mod:Mod K mg base
 bs:∀ b o,base.get? b=some o->s.heap.get? b=some o/\H b=none
 bsz:base.objs.size<=s.heap.objs.size
 funs:s.heap.FunFrames base outer
 frf:∀ b∈frs outer,H b=none
 hok:HOk P w H s.heap
 bare:AllBare s.gens
def CE(outer:List Env)(P:Program)(w:World)(H:Hp)(s:Shared)(Q:VK)(u:Value)(s':Shared):Prop :=
 ∃ v H',s'.os=s.os/\AllBare s'.gens/\Un (frs outer) [] H H' s.heap s'.heap/\HOk P w H' s'.heap/\RelV v u/\Q v H'
def CR(CX:CXT)(outer:List Env)(P:Program)(w:World)(H:Hp)(s:Shared)(Q:VK)(E:XK)(r:Result)(s':Shared):Prop :=
 match r with
 | .ok (.ret u)=>CE outer P w H s Q u s'
 | .ok _=>False
 | .error e=>CX outer H s E e s'
structure FnOk(P:Program)(w:World)(K:PySem.W.Frag)(mg:Str->Option Value)(base:Heap)(CX:CXT)(k:Nat)(f:Addr)(fd:FuncData)(ps:List Str)(sp:Sp):Prop where
 len:∀ vs H Q E,sp vs H Q E->vs.length=ps.length
 run:∀ (A:Around) (outer:List Env) (s:Shared) (H:Hp) (args:Args) (us:List Value) (vs:List V) (Q:VK) (E:XK),Room k A->Env0 P w K mg base A outer s H->BindsTo s fd args (ps.zip us)->Vals vs us->sp vs H Q E ->
  codeAny (model P w) A (.call (.ref f) args) (CR CX outer P w H s Q E) s
theorem FnOk.mono{P:Program}{w:World}{K:PySem.W.Frag}{mg:Str->Option Value}{base:Heap}{CX:CXT}{j k:Nat}{f:Addr}{fd:FuncData}{ps:List Str}{sp:Sp}(F:FnOk P w K mg base CX j f fd ps sp)(h:j<=k) :
 FnOk P w K mg base CX k f fd ps sp:=⟨F.len,fun A outer s H args us vs Q E hr=>F.run A outer s H args us vs Q E (hr.mono h)⟩
theorem Env0.make{P:Program}{w:World}{K:PySem.W.Frag}{mg:Str->Option Value}{base:Heap}{A:Around}{outer:List Env}{s:Shared}{H:Hp}(e:Env0 P w K mg base A outer s H)(C:Addr)(us:List Value)(kw:List (Str×Value)) :
 Env0 P w K mg base (A.under (.builtin "type.__call__" ⟨.ref C::us,kw⟩)) outer s H:=⟨by first | exact e.frames | (simpa[Around.under,Code.envs,Code.isFrame,pushEnvs]using e.frames),e.mod,e.bs,e.bsz,e.funs,e.frf,e.hok,e.bare⟩
section
variable{X:Cx}{pins:List (Addr×Obj)}{σ:St}{H:Hp}{s s':Shared}
theorem Inv.env0(I:Inv X pins σ H s):Env0 X.prog X.w X.K X.mg X.base X.A X.stack s H :=
 ⟨I.ok.frames,I.ok.mod,I.bs,Nat.le_trans I.ok.bsz I.sz,I.stack,I.stkFree,I.hok,I.bare⟩
theorem Inv.after{Q:VK}{u:Value}(I:Inv X pins σ H s)(h:CE X.stack X.prog X.w H s Q u s'):EP X pins σ Q u s':=by
 obtain⟨v,H',os,bare,un,hok,r,q⟩:=h
 obtain⟨hh,g,d,t,os'⟩:=s'
 obtain rfl:os'=s.os:=os
 exact⟨v,H',I.call (h':=hh) (g':=g) (d':=d) (t':=t) (ch:=[]) un hok bare (fun b z=>absurd z (by simp)),r,q⟩
end
def tCall(sp:Sp)(dvs:List V)(E:XK)(t:TA):TE:=fun σ H Q=>t σ H fun vs H1=>sp (vs++dvs) H1 Q E
def tMake(C:Addr)(sp:Sp)(dvs:List V)(E:XK)(t:TA):TE:=fun σ H Q=>t σ H fun vs H1=>∀ x dx,H1 x=none->H1 dx=none->dx≠x ->
 sp (.ref x::(vs++dvs)) (upd (upd H1 dx (.own x)) x (.ins C dx [])) (fun v H2=>v=.non/\Q (.ref x) H2) E
def Binds(K:PySem.W.Frag)(fd:FuncData)(ps:List Str)(ds:List Value):Prop :=
 ∀ (s:Shared) (us:List Value),K.In s.heap->(us++ds).length=ps.length->BindsTo s fd ⟨us,[]⟩ (ps.zip (us++ds))
theorem Binds.all{K:PySem.W.Frag}{fd:FuncData}{ps:List Str}(h:∀ us:List Value,us.length=ps.length->bindArgs fd ⟨us,[]⟩=pure (ps.zip us)):Binds K fd ps []:=fun s us _ hl=>by
 rw[List.append_nil]at hl ⊢
 exact .of_eq (h us hl)
def Passes(CX:CXT)(X:Cx)(E:XK):Prop:=∀ (pins:List (Addr×Obj)) (σ:St) (H:Hp) (s:Shared) (e:Value) (s':Shared),Inv X pins σ H s->CX X.stack H s E e s'->X.xe e s'
section
variable{X:Cx}{CX:CXT}{k:Nat}{f C:Addr}{fd:FuncData}{ps:List Str}{sp:Sp}{dvs:List V}{ds:List Value}{E:XK}{x m:Str}{p pos apos:Pos}{e o:Expr}{es:List Expr}{ta:TE}{t:TA}
theorem run_fn{pins:List (Addr×Obj)}{σ:St}{H:Hp}{s:Shared}{Q:VK}{us:List Value}{vs:List V}(F:FnOk X.prog X.w X.K X.mg X.base CX k f fd ps sp)(hr:Room k X.A)(hb:Binds X.K fd ps ds)(hd:Vals dvs ds)(hx:Passes CX X E)
 (I:Inv X pins σ H s) (r:Vals vs us) (h:sp (vs++dvs) H Q E):wpAny (model X.prog X.w) X.A (call (.ref f) us) (EP X pins σ Q) X.xe s:=by
 have r2:Vals (vs++dvs) (us++ds):=r.append hd
 have hl:(us++ds).length=ps.length:=by rw[<- r2.length];exact F.len _ _ _ _ h
 refine wpAny_call (codeAny_mono (F.run X.A X.stack s H ⟨us,[]⟩ (us++ds) (vs++dvs) Q E hr I.env0 (hb s us I.kIn hl) r2 h) fun r s' hq=>?_)
 cases r with
 | error e=>exact hx pins σ H s e s' I hq
 | ok fl =>
  cases fl with
  | ret u=>exact I.after hq
  | next=>exact False.elim hq
  | brk=>exact False.elim hq
  | cont=>exact False.elim hq
theorem pe_call(F:FnOk X.prog X.w X.K X.mg X.base CX k f fd ps sp)(hr:Room k X.A)(hg:Gl X x)(hm:X.mg x=some (.ref f))(hk:PySem.W.keepIn X.K (.ref f)=true)(hb:Binds X.K fd ps ds)(hd:Vals dvs ds)(hx:Passes CX X E)
 (ha:PA X (e::es) t) (hdb:(x == ("__debug__":Str))=false:=by decide) (he:starEach (e::es) X.env=(false,eval e X.env)::starEach es X.env:=by rfl) (hpl:(backTo pos (starEach es X.env)).any (·.1)=false:=by rfl) :
 PE X (.Call (.Name x p) (e::es) [] pos) (tCall sp dvs E t):=by
 intro pins s σ H Q I h
 refine wpAny_Call_Name_kw (ld_glob I hg hm ?_ hdb)
 refine PySem.W.callWith_K (h₀:=X.base) I.ok.mod.kin hk (thn (ha pos pins s σ H _ I h) fun us s1 ⟨vs,H1,I1,r,q⟩=>⟨I1.kIn,?_⟩) he hpl
 exact run_fn F hr hb hd hx I1 r q
structure Mk(K:PySem.W.Frag)(C f:Addr):Prop where
 makes:PySem.W.makesIn K C=true
 init:PySem.W.findIn K (.ref C) "__init__"=some (some (.ref f))
 fn:PySem.W.isFn K (.ref f)=true
 kp:PySem.W.keepIn K (.ref C)=true
theorem run_make{pins:List (Addr×Obj)}{σ:St}{H:Hp}{s:Shared}{Q:VK}{us:List Value}{vs:List V}(M:Mk X.K C f)(F:FnOk X.prog X.w X.K X.mg X.base CX k f fd ps sp)(hr:Room (k+1) X.A)(hb:Binds X.K fd ps ds)(hd:Vals dvs ds)
 (hx:Passes CX X E) (I:Inv X pins σ H s) (r:Vals vs us)
 (h:∀ x dx,H x=none->H dx=none->dx≠x->sp (.ref x::(vs++dvs)) (upd (upd H dx (.own x)) x (.ins C dx [])) (fun v H2=>v=.non/\Q (.ref x) H2) E) :
 wpAny (model X.prog X.w) X.A (call (.ref C) us) (EP X pins σ Q) X.xe s:=by
 have hq:=h (s.heap.objs.size+1) s.heap.objs.size (I.hok.fresh (Nat.le_succ _)) (I.hok.fresh (Nat.le_refl _)) (Nat.ne_of_lt (Nat.lt_succ_self _))
 have I2:=Inv.made (C:=C) I
 have r2:Vals (V.ref (s.heap.objs.size+1)::(vs++dvs)) (Value.ref (s.heap.objs.size+1)::(us++ds)):=.cons rfl (r.append hd)
 have hl:(Value.ref (s.heap.objs.size+1)::us++ds).length=ps.length:=by
  have e:=r2.length
  rw[F.len _ _ _ _ hq]at e
  exact e.symm
 refine wpAny_call (make_map (f:=f) I.kIn M.makes M.init (beq_iff_eq.mp M.fn) (codeAny_mono (F.run _ X.stack _ _ ⟨Value.ref (s.heap.objs.size+1)::us,[]⟩ (Value.ref (s.heap.objs.size+1)::(us++ds)) _ _ E (hr.make C us [])
  (I2.env0.make C us []) (hb _ (Value.ref (s.heap.objs.size+1)::us) I2.kIn hl) r2 hq) fun r s' hq'=>?_))
 cases r with
 | error e=>exact hx pins σ _ _ e s' I2 hq'
 | ok fl =>
  cases fl with
  | ret u =>
   obtain⟨v,H',I3,rv,ev,q3⟩:=I2.after hq'
   subst ev
   exact⟨rv,⟨V.ref (s.heap.objs.size+1),H',I3,rfl,q3⟩⟩
  | next=>exact False.elim hq'
  | brk=>exact False.elim hq'
  | cont=>exact False.elim hq'
theorem pe_make(M:Mk X.K C f)(F:FnOk X.prog X.w X.K X.mg X.base CX k f fd ps sp)(hr:Room (k+1) X.A)(hg:Gl X x)(hm:X.mg x=some (.ref C))(hb:Binds X.K fd ps ds)(hd:Vals dvs ds)(hx:Passes CX X E)
 (ha:PA X (e::es) t) (hdb:(x == ("__debug__":Str))=false:=by decide) (he:starEach (e::es) X.env=(false,eval e X.env)::starEach es X.env:=by rfl) (hpl:(backTo pos (starEach es X.env)).any (·.1)=false:=by rfl) :
 PE X (.Call (.Name x p) (e::es) [] pos) (tMake C sp dvs E t):=by
 intro pins s σ H Q I h
 refine wpAny_Call_Name_kw (ld_glob I hg hm ?_ hdb)
 refine PySem.W.callWith_K (h₀:=X.base) I.ok.mod.kin M.kp (thn (ha pos pins s σ H _ I h) fun us s1 ⟨vs,H1,I1,r,q⟩=>⟨I1.kIn,?_⟩) he hpl
 exact run_make M F hr hb hd hx I1 r q
theorem pe_make0(M:Mk X.K C f)(F:FnOk X.prog X.w X.K X.mg X.base CX k f fd ps sp)(hr:Room (k+1) X.A)(hg:Gl X x)(hm:X.mg x=some (.ref C))(hb:Binds X.K fd ps ds)(hd:Vals dvs ds)(hx:Passes CX X E)
 (hdb:(x == ("__debug__":Str))=false:=by decide):PE X (.Call (.Name x p) [] [] pos) (tMake C sp dvs E tNil):=by
 intro pins s σ H Q I h
 refine wpAny_Call_Name_kw (ld_glob I hg hm ?_ hdb)
 exact PySem.W.callWith_K0 I.kIn M.kp (run_make (us:=[]) M F hr hb hd hx I .nil h)
end
section
variable{X:Cx}{CX:CXT}{k:Nat}{f C:Addr}{fd:FuncData}{ps ks:List Str}{sp:Sp}{E:XK}{x m:Str}{p pos apos kpos:Pos}{e o:Expr}{es:List Expr}{kws:List Keyword}{te ta:TE}{t tk:TA}{nm:Option Str}
variable{g:List Value->List Value->List Value}{gV:List V->List V->List V}
end
structure FnScope(N P:List Str)(sc:Scope):Prop where
 kind:sc.kind=.function
 co:sc.isCoroutine=false
 gen:sc.isGenerator=false
 nd:N.Nodup
 pre:N.take P.length=P
 par:∀ x∈P,sc.names.lookup x=some .local\/sc.names.lookup x=some .cell
 nofree:∀ y∈sc.names,y.2≠.free
theorem bindL_out{kindOf:Str->Option NameKind}{x:Str}:∀ {binds:List (Str×Value)} {m:Str->Option Value},(∀ v,(x,v)∉binds)->bindL kindOf binds m x=m x
 | [],_,_=>rfl
 | (n,v)::r,m,h=>by
  unfold bindL
  rw[bindL_out fun w hw=>h w (List.mem_cons_of_mem _ hw)]
  split
  ·have:x≠n:=by rintro rfl;exact h v List.mem_cons_self
   simp[this]
  ·rfl
theorem bindC_out{kindOf:Str->Option NameKind}{x:Str}:∀ {binds:List (Str×Value)} {m:Str->Option Value},(∀ v,(x,v)∉binds)->bindC kindOf binds m x=m x
 | [],_,_=>rfl
 | (n,v)::r,m,h=>by
  unfold bindC
  rw[bindC_out fun w hw=>h w (List.mem_cons_of_mem _ hw)]
  split
  ·rfl
  ·have:x≠n:=by rintro rfl;exact h v List.mem_cons_self
   simp[this]
theorem bindL_get{kindOf:Str->Option NameKind}{x:Str}{v:Value}:∀ {P:List Str} {vs:List Value} {i:Nat} {m:Str->Option Value},P.Nodup->P[i]?=some x->vs[i]?=some v->kindOf x=some .local ->
 bindL kindOf (P.zip vs) m x=some v
 | [],_,_,_,_,h,_,_=>by simp at h
 | _::_,[],_,_,_,_,h,_=>by simp at h
 | p::P,w::vs,0,m,nd,h1,h2,hk=>by
  simp at h1 h2;subst h1;subst h2
  show bindL kindOf ((p,w)::P.zip vs) m p=_
  unfold bindL
  rw[bindL_out fun v hv=>(List.nodup_cons.mp nd).1 (List.of_mem_zip hv).1,if_pos hk]
  simp
 | p::P,w::vs,i+1,m,nd,h1,h2,hk=>by
  show bindL kindOf ((p,w)::P.zip vs) m x=_
  unfold bindL
  exact bindL_get (i:=i) (List.nodup_cons.mp nd).2 (by simpa using h1) (by simpa using h2) hk
theorem bindC_get{kindOf:Str->Option NameKind}{x:Str}{v:Value}:∀ {P:List Str} {vs:List Value} {i:Nat} {m:Str->Option Value},P.Nodup->P[i]?=some x->vs[i]?=some v->kindOf x≠some .local ->
 bindC kindOf (P.zip vs) m x=some v
 | [],_,_,_,_,h,_,_=>by simp at h
 | _::_,[],_,_,_,_,h,_=>by simp at h
 | p::P,w::vs,0,m,nd,h1,h2,hk=>by
  simp at h1 h2;subst h1;subst h2
  show bindC kindOf ((p,w)::P.zip vs) m p=_
  unfold bindC
  rw[bindC_out fun v hv=>(List.nodup_cons.mp nd).1 (List.of_mem_zip hv).1,if_neg hk]
  simp
 | p::P,w::vs,i+1,m,nd,h1,h2,hk=>by
  show bindC kindOf ((p,w)::P.zip vs) m x=_
  unfold bindC
  exact bindC_get (i:=i) (List.nodup_cons.mp nd).2 (by simpa using h1) (by simpa using h2) hk
def start(N:List Str)(vs:List V):St:=vs.map some++List.replicate (N.length - vs.length) none
def cxOf(CX:CXT)(P:Program)(w:World)(K:PySem.W.Frag)(mg:Str->Option Value)(base:Heap)(N:List Str)(qual:Str)(scope:Scope)(f:Addr)(cd:Value)(A:Around)(outer:List Env)(s:Shared)(H:Hp)(E:XK):Cx where
 prog:=P
 w:=w
 K:=K
 mg:=mg
 base:=base
 A:=A.deeper (envOfC qual scope s.heap.objs.size f cd)
 N:=N
 s₀:=s
 H₀:=H
 env:=envOfC qual scope s.heap.objs.size f cd
 outer:=outer
 stack:=envOfC qual scope s.heap.objs.size f cd::outer
 ex:=[]
 calm:=true
 fn:=fun _=>true
 pn:=[]
 xe:=fun e s'=>wpAny (model P w) (A.deeper (envOfC qual scope s.heap.objs.size f cd)) (leaving (envOfC qual scope s.heap.objs.size f cd) e) (fun _ s''=>CX outer H s E e s'') (fun e' s''=>CX outer H s E e' s'') s'
theorem cell_has{sc:Scope}{n:Nat}{x:Str}(h:sc.names.lookup x=some .cell):∃ c,(cellsFrom n sc.names []).lookup x=some c:=by
 have q:=PySem.W.cellsFrom_some sc.names n [] (.inl h)
 exact Option.isSome_iff_exists.mp q
theorem inv_start{CX:CXT}{P:Program}{w:World}{K:PySem.W.Frag}{mg:Str->Option Value}{base:Heap}{N ps:List Str}{qual:Str}{scope:Scope}{f:Addr}{cd:Value}{A:Around}{outer:List Env}{s s1:Shared}{H:Hp}{E:XK}{us:List Value}{vs:List V}
 (S:FnScope N ps scope) (hd:A.handled=none) (e0:Env0 P w K mg base A outer s H) (hl:vs.length=ps.length) (r:Vals vs us)
 (x:InCallC s s.heap.objs.size (bindL (envOfC qual scope s.heap.objs.size f cd).kindOf (ps.zip us) fun _=>none) (cellsFrom (s.heap.objs.size+1) scope.names []) (bindC (envOfC qual scope s.heap.objs.size f cd).kindOf (ps.zip us) fun _=>none) s1) :
 Inv (cxOf CX P w K mg base N qual scope f cd A outer s H E) [] (start N vs) H s1:=by
 have hpl:ps.length<=N.length:=by have:=congrArg List.length S.pre;rw[List.length_take]at this;omega
 obtain⟨h1,tk,rfl,hk⟩:=x.done
 have noA:∀ b:Addr,b∉(cxOf CX P w K mg base N qual scope f cd A outer s H E).ex:=fun b z=>absurd (show b∈([]:List Addr) from z) (by simp)
 refine⟨⟨e0.mod,S.kind,rfl,rfl,Nat.le_refl _,fun y z c h1 h2=>?_,fun y hy=>?_,fun y c _ h=>?_,fun _=>hd,Around.frames_deeper e0.frames,.inr ⟨rfl,rfl⟩,fun b z=>absurd z (noA b),e0.bs,e0.bsz,fun b _ _=>noA b,fun b z=>absurd z (noA b),e0.funs,e0.frf⟩,
  rfl,e0.bare,Un.kept hk,⟨_,x.toInCall.ns,fun i y v h1 h2 h3=>?_⟩,fun y c h=>⟨_,x.cell y c h⟩,e0.hok.fresh (Nat.le_refl _),fun y c h=>?_,fun p hp=>absurd (show p∈([]:List (Addr×Obj)) from hp) (by simp),e0.hok.kept hk,?_⟩
 ·exact name_of_addr x.apart (PySem.mem_of_lookup h1) (PySem.mem_of_lookup h2)
 ·have hy:scope.names.lookup y=some .cell\/scope.names.lookup y=some .free:=hy
  rcases hy with hy | hy
  ·exact cell_has hy
  ·exact absurd rfl (S.nofree _ (PySem.mem_of_lookup hy))
 ·exact Nat.le_of_lt (x.above y c (PySem.mem_of_lookup h))
 ·have hi:i < vs.length:=by
   unfold start at h2
   by_cases hi:i < vs.length
   ·exact hi
   ·rw[List.getElem?_append_right (by simpa using hi)]at h2
    rw[List.getElem?_replicate]at h2
    split at h2 <;> cases h2
  have ha:vs[i]?=some v:=by
   unfold start at h2
   rw[List.getElem?_append_left (by simpa using hi),List.getElem?_map]at h2
   cases e:vs[i]? with
   | none=>rw[e]at h2;cases h2
   | some a=>rw[e]at h2;cases h2;rfl
  obtain⟨u,hu,rv⟩:=r.get ha
  have hp:ps[i]?=some y:=by
   rw[<- S.pre,List.getElem?_take_of_lt (by omega)];exact h1
  have ndP:ps.Nodup:=by rw[<- S.pre];exact S.nd.sublist (List.take_sublist _ _)
  refine⟨u,rv,?_⟩
  rcases S.par y (List.mem_of_getElem? hp) with k | k
  ·exact .inl ⟨k,bindL_get ndP hp hu k⟩
  ·obtain⟨c,e⟩:=cell_has (n:=s.heap.objs.size+1) k
   refine .inr ⟨.inl k,c,e,?_⟩
   have q:=x.cell y c e
   rw[bindC_get ndP hp hu (by show scope.names.lookup y≠_;rw[k];decide)]at q
   exact q
 ·exact e0.hok.fresh (Nat.le_of_lt (x.above y c (PySem.mem_of_lookup h)))
 ·unfold start
  show _=N.length
  rw[List.length_append,List.length_map,List.length_replicate]
  omega
theorem fn_of{CX:CXT}{P:Program}{w:World}{K:PySem.W.Frag}{mg:Str->Option Value}{base:Heap}{k:Nat}{f:Addr}{name qual:Str}{params:Arguments}{body:List Stmt}{scope:Scope}{dV kV doc pm cdv ct oc:Value}{an od:Option Addr}
 {osl:Array (Option Value)} {N ps:List Str} {sp:Sp} (lk:K.lookup f=some ⟨oc,od,.func (PySem.W.fnOf name qual params body scope dV kV doc pm an cdv ct),osl⟩) (hcd:PySem.W.codeIn K cdv qual=true) (S:FnScope N ps scope)
 (len:∀ vs H Q E,sp vs H Q E->vs.length=ps.length)
 (hbody:∀ (A:Around) (outer:List Env) (s:Shared) (H:Hp) (vs:List V) (Q:VK) (E:XK),Room k (A.deeper (envOfC qual scope s.heap.objs.size f cdv))->sp vs H Q E ->
  ∃ t,PSs (cxOf CX P w K mg base N qual scope f cdv A outer s H E) body t/\t { nx:=fun _ H'=>Q .non H',rt:=Q } (start N vs) H) :
 FnOk P w K mg base CX (k+1) f (PySem.W.fnOf name qual params body scope dV kV doc pm an cdv ct) ps sp:=by
 refine⟨len,fun A outer s H args us vs Q E hr e0 hb r hsp=>?_⟩
 have hl:=len _ _ _ _ hsp
 have KX:K.In s.heap:=e0.mod.kin.keeps fun b o e=>(e0.bs b o e).1
 have lim:s.heap.NoLimit:=e0.mod.nolimit.keeps fun b o e=>(e0.bs b o e).1
 have hkind:∀ y∈ps.zip us,scope.names.lookup y.1=some .local\/(scope.names.lookup y.1=some .cell/\((cellsFrom (s.heap.objs.size+1) scope.names []).lookup y.1).isSome=true):=fun⟨n,v⟩ hy=>by
  rcases S.par n (List.of_mem_zip hy).1 with q | q
  ·exact .inl q
  ·exact .inr ⟨q,PySem.W.cellsFrom_some _ _ _ (.inl q)⟩
 refine codeAny_call_function hr.depth (KX _ _ lk) rfl S.co S.gen rfl (PySem.W.codeRec_of KX hcd) (hb _ _ _ _ ?_)
 refine wpAny_newFunctionEnv_cells S.kind hkind fun env he s1 x=>?_
 subst he
 refine⟨lim.keeps x.toInCall.keep,codeAny_func ?_⟩
 obtain⟨t,ht,hq⟩:=hbody A outer s H vs Q E (hr.deeper _) hsp
 have I:Inv (cxOf CX P w K mg base N qual scope f cdv A outer s H E) [] (start N vs) H s1:=inv_start S hr.hd e0 hl r x
 refine wpAny_mono (ht [] s1 (start N vs) H _ I hq) (fun fl s' hs=>?_) fun e s' hs=>hs
 have fin:∀ {σ':St} {H':Hp} {v:V} {u:Value},Inv (cxOf CX P w K mg base N qual scope f cdv A outer s H E) [] σ' H' s'->RelV v u->Q v H'->CE outer P w H s Q u s' :=
  fun {σ' H' v u} J rv q=>⟨v,H',J.os,J.bare,J.base,J.hok,rv,q⟩
 cases fl with
 | ret u =>
  obtain⟨v,σ',H',J,rv,q⟩:=hs
  exact fin J rv q
 | next =>
  obtain⟨σ',H',J,q⟩:=hs
  exact fin (v:=V.non) (u:=Value.none) J rfl q
 | brk =>
  obtain⟨_,_,_,q⟩:=hs
  exact False.elim q
 | cont =>
  obtain⟨_,_,_,q⟩:=hs
  exact False.elim q
end L2
namespace L2
open PySem PySem.Spec PyProof.Rows
section
variable{X:Cx}{x:Str}{p pos:Pos}{e:Expr}{es:List Expr}{t:TA}{id T:String}{r:List V->Hp->VK->Prop}
def tCB(r:List V->Hp->VK->Prop)(t:TA):TE:=fun σ H Q=>t σ H fun vs H1=>r vs H1 Q
theorem pe_callB(hc:CallR X (.builtin id) r)(hg:Gl X x)(hm:X.mg x=none)(hv:bootBuiltins x=some (.builtin id))(ha:PA X (e::es) t)(hn:x≠"__name__":=by decide)(hdb:(x == ("__debug__":Str))=false:=by decide)
 (he:starEach (e::es) X.env=(false,eval e X.env)::starEach es X.env:=by rfl) (hpl:(backTo pos (starEach es X.env)).any (·.1)=false:=by rfl):PE X (.Call (.Name x p) (e::es) [] pos) (tCB r t):=by
 intro pins s σ H Q I h
 refine wpAny_Call_Name_kw (ld_blt I hg hm hv ?_ hn hdb)
 exact PyProof.Rows.callWith_builtin1 (thn (ha pos pins s σ H _ I h) fun us s1 ⟨vs,H1,I1,r1,q1⟩=>hc pins s1 σ H1 vs us Q I1 r1 q1) he hpl
theorem pe_callTy(hc:CallR X (.type T) r)(hg:Gl X x)(hm:X.mg x=none)(hv:bootBuiltins x=some (.type T))(ha:PA X (e::es) t)(hn:x≠"__name__":=by decide)(hdb:(x == ("__debug__":Str))=false:=by decide)
 (he:starEach (e::es) X.env=(false,eval e X.env)::starEach es X.env:=by rfl) (hpl:(backTo pos (starEach es X.env)).any (·.1)=false:=by rfl):PE X (.Call (.Name x p) (e::es) [] pos) (tCB r t):=by
 intro pins s σ H Q I h
 refine wpAny_Call_Name_kw (ld_blt I hg hm hv ?_ hn hdb)
 exact PyProof.Rows.callWith_type1 (thn (ha pos pins s σ H _ I h) fun us s1 ⟨vs,H1,I1,r1,q1⟩=>hc pins s1 σ H1 vs us Q I1 r1 q1) he hpl
end
end L2
namespace HT
open PySem PyProof.Rows
theorem eqAt_int(A:Around)(s:Shared)(a:Int)(t:Tok)(c:Int)(u:Tok):∃ e,SeqAt.EqAt A s (.int a t) (.int c u) e/\(e=true↔a=c) :=
 ⟨(a == c),SeqAt.EqAt.int_int a t c u,by simp⟩
theorem rcLt_int(A:Around)(s:Shared)(a:Int)(t:Tok)(c:Int)(u:Tok)(prog:Program)(w:World)(E:Value->Shared->Prop)(Q:Value->Shared->Prop)(h:Q (.bool (decide (a < c))) s) :
 wpAny (model prog w) A (richCompare .Lt (.int a t) (.int c u)) Q E s :=
 (PyProof.Rows.lt_int h:wpAny (model prog w) A (compareOp .Lt (.int a t) (.int c u)) Q E s)
section
open PySem.SeqAt
open PySem.AutoSeq1 (wpAny_loadPart')
open PySem.MeetsSeq PySem.MeetsSeq2 PySem.MeetsSeq3
end
section
variable{prog:Program}{w:World}{A:Around}{E:Value->Shared->Prop}{s:Shared}
def sIx(n d:Nat):Option Int->Nat
 | none=>d
 | some v=>if v < 0 then (v+(n:Int)).toNat else min v.toNat n
theorem sIx_nat(n d k:Nat):sIx n d (some (k:Int))=min k n:=by
 show(if (k:Int) < 0 then ((k:Int)+(n:Int)).toNat else min (k:Int).toNat n)=min k n
 rw[if_neg (by omega),Int.toNat_natCast]
end
end HT
namespace L2
open PySem PySem.Spec PyProof.Rows
abbrev TO:=St->Hp->(Option Int->Hp->Prop)->Prop
def PO(X:Cx)(e:Option Expr)(t:TO):Prop :=
 ∀ (pins:List (Addr×Obj)) (s:Shared) (σ:St) (H:Hp) (Q:Option Int->Hp->Prop),Inv X pins σ H s->t σ H Q ->
  wpAny (model X.prog X.w) X.A (evalPart e X.env) (fun u s'=>∃ o H',Inv X pins σ H' s'/\IsPart u o/\Q o H') X.xe s
def tNoPart:TO:=fun _ H Q=>Q none H
def tPart(t:TE):TO:=fun σ H Q=>t σ H fun x H1=>∃ i,x=.int i/\Q (some i) H1
section
variable{X:Cx}{e:Expr}{te:TE}{lo hi:Option Expr}{tl th:TO}{pos p2:Pos}
theorem po_none:PO X none tNoPart:=by
 intro pins s σ H Q I h
 rw[evalPart_none]
 exact wpAny_pure ⟨none,H,I,.none,h⟩
theorem po_some(h:PE X e te):PO X (some e) (tPart te):=by
 intro pins s σ H Q I hw
 rw[evalPart_some]
 refine thn (h pins s σ H _ I hw) fun u s1 ⟨x,H1,I1,r1,q1⟩=>?_
 obtain⟨i,rfl,q⟩:=q1
 obtain⟨t,rfl⟩:=r1
 exact⟨some i,H1,I1,.int i t,q⟩
def SlR(X:Cx)(r:V->Option Int->Option Int->Hp->VK->Prop):Prop :=
 ∀ (pins:List (Addr×Obj)) (s:Shared) (σ:St) (H:Hp) (x:V) (v vl vu:Value) (lo hi:Option Int) (sl:Addr) (Q:VK),Inv X pins σ H s->RelV x v->s.heap.IsSliceOf sl vl vu .none->IsPart vl lo->IsPart vu hi->r x lo hi H Q ->
  ∃ T id,typeLookup (.type T) "__getitem__"=pure (some (.builtin id))/\s.TypeIs v T/\wpAny (model X.prog X.w) X.A (getItem v (.ref sl)) (EP X pins σ Q) X.xe s
def tSl(r:V->Option Int->Option Int->Hp->VK->Prop)(te:TE)(tl th:TO):TE:=fun σ H Q=>te σ H fun x H1=>tl σ H1 fun l H2=>th σ H2 fun u H3=>r x l u H3 Q
theorem pe_slice{r:V->Option Int->Option Int->Hp->VK->Prop}(hr:SlR X r)(he:PE X e te)(hl:PO X lo tl)(hu:PO X hi th):PE X (.Subscript e (.Slice lo hi none p2) pos) (tSl r te tl th):=by
 intro pins s σ H Q I h
 refine Subscript_ (thn (he pins s σ H _ I h) fun v s1 ⟨x,H1,I1,r1,q1⟩=>?_)
 refine wpAny_Slice (thn (hl pins s1 σ H1 _ I1 q1) fun vl s2 ⟨l,H2,I2,pl,q2⟩=>thn (hu pins s2 σ H2 _ I2 q2) fun vu s3 ⟨u,H3,I3,pu,q3⟩=>?_)
 rw[evalPart_none]
 refine wpAny_pure ?_
 have I4:Inv X pins σ H3 { s3 with heap:=s3.heap.push { cls:=.type "slice",data:=.fields #[vl,vu,.none] } }:=I3.kept (t':=s3.toks) fun b ob q=>Heap.get?_push_of_some _ q
 obtain⟨T,id,hT,ht,hg⟩:=hr pins { s3 with heap:=s3.heap.push { cls:=.type "slice",data:=.fields #[vl,vu,.none] } } σ H3 x v vl vu l u s3.heap.objs.size Q I4 r1 (Heap.IsSliceOf.new ..) pl pu q3
 show wpAny (model X.prog X.w) X.A (subscriptTail e (.Slice lo hi none p2) v (.ref s3.heap.objs.size)) (EP X pins σ Q) X.xe { s3 with heap:=s3.heap.push { cls:=.type "slice",data:=.fields #[vl,vu,.none] } }
 exact tail_any (ops:=[.ref s3.heap.objs.size,v]) ht hT hg (by with_unfolding_all rfl)
def cutV(xs:List V)(lo hi:Option Int):List V:=(xs.drop (HT.sIx xs.length 0 lo)).take (HT.sIx xs.length xs.length hi - HT.sIx xs.length 0 lo)
theorem cutV_length(xs:List V)(lo hi:Option Int):(cutV xs lo hi).length<=xs.length:=by
 unfold cutV
 rw[List.length_take,List.length_drop]
 omega
end
end L2
namespace L2
open PySem PySem.Spec PyProof.Rows
def ixN(n:Nat)(i:Int):Option Nat:=if 0<=i then (if i < n then some i.toNat else none) else if -(n:Int)<=i then some (i+n).toNat else none
def atI{α:Type}(xs:List α)(i:Int):Option α:=(ixN xs.length i).bind fun j=>xs[j]?
theorem ixN_seq{n:Nat}{i:Int}{j:Nat}(h:ixN n i=some j):seqIndex? i n=some j/\j < n /\ -(n:Int)<=i/\i < n:=by
 unfold ixN at h
 by_cases h0:0<=i
 ·rw[if_pos h0]at h
  by_cases h1:i < n
  ·rw[if_pos h1]at h
   have e:i.toNat=j:=Option.some.inj h
   exact⟨by rw[seqIndex_of h0 h1,e],by omega,by omega,h1⟩
  ·rw[if_neg h1]at h;cases h
 ·rw[if_neg h0]at h
  by_cases h1 : -(n:Int)<=i
  ·rw[if_pos h1]at h
   have e:(i+n).toNat=j:=Option.some.inj h
   exact⟨by rw[seqIndex_neg (by omega) h1,e],by omega,h1,by omega⟩
  ·rw[if_neg h1]at h;cases h
theorem atI_get{α:Type}{xs:List α}{i:Int}{v:α}(h:atI xs i=some v):∃ j,seqIndex? i xs.length=some j/\xs[j]?=some v/\j < xs.length /\ -(xs.length:Int)<=i/\i < xs.length:=by
 unfold atI at h
 cases e:ixN xs.length i with
 | none=>rw[e]at h;cases h
 | some j =>
  rw[e]at h
  obtain⟨h1,h2,h3,h4⟩:=ixN_seq e
  exact⟨j,h1,h,h2,h3,h4⟩
theorem atI_nat{α:Type}{xs:List α}{j:Nat}{v:α}(h:xs[j]?=some v):atI xs (j:Int)=some v:=by
 have hj:j < xs.length:=(List.getElem?_eq_some_iff.mp h).1
 have e:ixN xs.length (j:Int)=some j:=by
  unfold ixN
  rw[if_pos (by omega),if_pos (by omega)];simp
 unfold atI;rw[e];exact h
theorem atI_last{α:Type}(xs:List α)(v:α):atI (xs++[v]) (-1)=some v:=by
 have hl:(xs++[v]).length=xs.length+1:=by simp
 have e:ixN (xs++[v]).length (-1)=some xs.length:=by
  unfold ixN
  rw[hl,if_neg (by decide),if_pos (by omega)]
  congr 1
  omega
 unfold atI
 rw[e]
 show(xs++[v])[xs.length]?=some v
 simp
def PlainIx(b:Expr):Prop:=∀ o i,subscripted b false o i=operate [o,i] (getItem o i)
def IxR(X:Cx)(r:R2):Prop :=
 ∀ (value slice:Expr) (pins:List (Addr×Obj)) (s:Shared) (σ:St) (H:Hp) (x y:V) (v u:Value) (Q:VK),Inv X pins σ H s->RelV x v->RelV y u->r x y H Q ->
  subscripted slice false v u=operate [v,u] (getItem v u)->wpAny (model X.prog X.w) X.A (subscriptTail value slice v u) (EP X pins σ Q) X.xe s
def MtR(X:Cx)(id:String)(r:V->List V->Hp->VK->Prop):Prop :=
 ∀ (pins:List (Addr×Obj)) (s:Shared) (σ:St) (H:Hp) (x:V) (xs:List V) (v:Value) (us:List Value) (Q:VK),Inv X pins σ H s->RelV x v->Vals xs us->r x xs H Q ->
  wpAny (model X.prog X.w) X.A (call (.builtin id) (v::us)) (EP X pins σ Q) X.xe s
section
variable{X:Cx}{a b:Expr}{ta tb:TE}{pos:Pos}
theorem pe_ix{r:R2}(hr:IxR X r)(ha:PE X a ta)(hb:PE X b tb)(hs:PlainIx b):PE X (.Subscript a b pos) (tOp r ta tb):=by
 intro pins s σ H Q I h
 exact Subscript_ (binT ha hb I h fun v u s2 x y H2 I2 rx ry q=>hr a b pins s2 σ H2 x y v u Q I2 rx ry q (hs _ _))
def rIxL(K:PySem.W.Frag):R2:=fun x y H Q=>∃ p xs i v,x=.ref p/\y=.int i/\SqL K H p xs/\atI xs i=some v/\Q v H
def rIxT(K:PySem.W.Frag):R2:=fun x y H Q=>∃ p xs i v,x=.ref p/\y=.int i/\SqT K H p xs/\atI xs i=some v/\Q v H
def rIxS:R2:=fun x y H Q=>∃ z i c,x=.str z/\y=.int i/\z.length<=sizeLine/\atI z.cps.toList i=some c/\Q (.str ⟨#[c]⟩) H
theorem ix_list:IxR X (rIxL X.K):=by
 intro value slice pins s σ H x y v u Q I rx ry h hs
 obtain⟨p,xs,i,z,rfl,rfl,hq,he,q⟩:=h
 cases rx
 obtain⟨t,rfl⟩:=ry
 obtain⟨its,r,pl,hz⟩:=I.list hq
 obtain⟨j,h1,h2,h3,h4,h5⟩:=atI_get he
 obtain⟨w,ew,rw'⟩:=r.get h2
 have hl:=r.length
 have hn:=line63
 have fin:EP X pins σ Q w s:=⟨z,H,I,rw',q⟩
 by_cases h0:0<=i
 ·have hj:i.toNat=j:=by
   rw[seqIndex_of h0 h5]at h1
   exact Option.some.inj h1
  exact item_listR pl.isList h0 (by omega) (by rw[hj];simpa using ew) fin hs
 ·have hj:(i+(its.toArray.size:Int)).toNat=j:=by
   rw[seqIndex_neg (by omega) h4]at h1
   rw[List.size_toArray,<- hl]
   exact Option.some.inj h1
  exact subscriptTail_builtinR (x:=w) pl.isList.typeIs slot_list_getitem.lookup
   (wpAny_getItem_list_neg (Q:=fun r s'=>r=w/\EP X pins σ Q r s') pl.isList (by omega) (by rw[List.size_toArray] <;> omega) (by omega) (by rw[hj];simpa using ew) ⟨rfl,fin⟩) hs
theorem ix_tup:IxR X (rIxT X.K):=by
 intro value slice pins s σ H x y v u Q I rx ry h hs
 obtain⟨p,xs,i,z,rfl,rfl,hq,he,q⟩:=h
 cases rx
 obtain⟨t,rfl⟩:=ry
 obtain⟨its,r,pl,hz⟩:=I.tuple hq
 obtain⟨j,h1,h2,h3,h4,h5⟩:=atI_get he
 obtain⟨w,ew,rw'⟩:=r.get h2
 have hl:=r.length
 have hn:=line63
 have fin:EP X pins σ Q w s:=⟨z,H,I,rw',q⟩
 exact subscriptTail_builtinR (x:=w) pl.typeIs slot_tuple_getitem.lookup
  (getItem_tuple (j:=j) (Q:=fun r s'=>r=w/\EP X pins σ Q r s') pl (by omega) (by omega) (by rw[List.size_toArray,<- hl];exact h1) (by simpa using ew) ⟨rfl,fin⟩) hs
theorem slice_bounds(lo hi:Option Int)(n:Nat):(sliceBounds lo hi none n).1=((HT.sIx n 0 lo:Nat):Int)/\(sliceBounds lo hi none n).2.1=((HT.sIx n n hi:Nat):Int)/\(sliceBounds lo hi none n).2.2=1:=by
 refine⟨?_,?_,rfl⟩
 ·cases lo with
  | none=>simp[sliceBounds,HT.sIx]
  | some i =>
   simp only[sliceBounds,HT.sIx,Option.getD_none,show(1:Int) > 0 by decide,if_true]
   by_cases h:i < 0
   ·simp only[h,if_true] <;> omega
   ·simp only[h,if_false] <;> omega
 ·cases hi with
  | none=>simp[sliceBounds,HT.sIx]
  | some i =>
   simp only[sliceBounds,HT.sIx,Option.getD_none,show(1:Int) > 0 by decide,if_true]
   by_cases h:i < 0
   ·simp only[h,if_true] <;> omega
   ·simp only[h,if_false] <;> omega
theorem slicePick_cut(its:List Value)(lo hi:Option Int):slicePick its.toArray lo hi none=((its.drop (HT.sIx its.length 0 lo)).take (HT.sIx its.length its.length hi - HT.sIx its.length 0 lo)).toArray:=by
 obtain⟨h1,h2,h3⟩:=slice_bounds lo hi its.toArray.size
 unfold slicePick
 rw[h1,h2,h3]
 simp only[sliceRange_one,pick_run,List.size_toArray] <;> rfl
def rSlL(K:PySem.W.Frag):V->Option Int->Option Int->Hp->VK->Prop:=fun x lo hi H Q=>∃ a xs,x=.ref a/\SqL K H a xs/\∀ p,H p=none->Q (.ref p) (upd H p (.lst (cutV xs lo hi)))
theorem sl_list:SlR X (rSlL X.K):=by
 intro pins s σ H x v vl vu lo hi sl Q I rx hs pl pu h
 obtain⟨a,xs,rfl,hx,q⟩:=h
 cases rx
 obtain⟨its,r,ht,hz⟩:=I.list hx
 have hlen:=r.length
 refine⟨"list",_,slot_list_getitem.lookup,ht.isList.typeIs,?_⟩
 refine wpAny_getItem_list_slice ht.isList hs pl pu .none (by simp) ?_ (by rw[List.size_toArray] <;> omega)
 rw[slicePick_cut,<- hlen]
 refine⟨.ref s.heap.objs.size,_,I.laid (t':=s.toks) (o:=.lst (cutV xs lo hi)) (fun b ob q=>Heap.get?_push_of_some _ q) (Nat.le_refl _) ?_,rfl,q _ (I.hok.fresh (Nat.le_refl _))⟩
 exact⟨Nat.le_trans (cutV_length xs lo hi) hz,_,0,(r.drop (HT.sIx xs.length 0 lo)).take (HT.sIx xs.length xs.length hi - HT.sIx xs.length 0 lo),Heap.get?_push_size _ rfl⟩
def flatV:V->Bool
 | .non=>true
 | .bl _=>true
 | .int _=>true
 | .str _=>true
 | _=>false
def eqV:V->V->Bool
 | .non,.non=>true
 | .bl a,.bl b=>a == b
 | .bl a,.int b=>(if a then 1 else 0) == b
 | .int a,.bl b=>a == (if b then 1 else 0)
 | .int a,.int b=>a == b
 | .str a,.str b=>a == b
 | _,_=>false
theorem eqAt_V{A:Around}{s:Shared}{y x:V}{u v:Value}(ry:RelV y u)(rx:RelV x v)(fy:flatV y=true)(fx:flatV x=true):SeqAt.EqAt A s u v (eqV y x):=by
 cases y with
 | non =>
  cases ry
  cases x with
  | non=>cases rx;exact SeqAt.EqAt.same _
  | bl b=>cases rx;exact SeqAt.EqAt.none_bool b
  | int b=>obtain⟨t,rfl⟩:=rx;exact SeqAt.EqAt.none_int b t
  | str b=>obtain⟨t,rfl⟩:=rx;exact SeqAt.EqAt.none_str b t
  | _=>exact absurd (show false=true from fx) Bool.false_ne_true
 | bl a =>
  cases ry
  cases x with
  | non=>cases rx;exact SeqAt.EqAt.bool_none a
  | bl b=>cases rx;exact SeqAt.EqAt.bool_bool a b
  | int b=>obtain⟨t,rfl⟩:=rx;exact SeqAt.EqAt.bool_int a b t
  | str b=>obtain⟨t,rfl⟩:=rx;exact SeqAt.EqAt.bool_str a b t
  | _=>exact absurd (show false=true from fx) Bool.false_ne_true
 | int a =>
  obtain⟨t',rfl⟩:=ry
  cases x with
  | non=>cases rx;exact SeqAt.EqAt.int_none a t'
  | bl b=>cases rx;exact SeqAt.EqAt.int_bool a t' b
  | int b=>obtain⟨t,rfl⟩:=rx;exact SeqAt.EqAt.int_int a t' b t
  | str b=>obtain⟨t,rfl⟩:=rx;exact SeqAt.EqAt.int_str a t' b t
  | _=>exact absurd (show false=true from fx) Bool.false_ne_true
 | str a =>
  obtain⟨t',rfl⟩:=ry
  cases x with
  | non=>cases rx;exact SeqAt.EqAt.str_none a t'
  | bl b=>cases rx;exact SeqAt.EqAt.str_bool a t' b
  | int b=>obtain⟨t,rfl⟩:=rx;exact SeqAt.EqAt.str_int a t' b t
  | str b=>obtain⟨t,rfl⟩:=rx;exact SeqAt.EqAt.str_str a t' b t
  | _=>exact absurd (show false=true from fx) Bool.false_ne_true
 | _=>exact absurd (show false=true from fy) Bool.false_ne_true
def inV(x:V)(xs:List V):Bool:=xs.any fun y=>eqV y x
def rIn(K:PySem.W.Frag)(neg:Bool):R2:=fun x y H Q=>∃ p xs,y=.ref p/\(SqL K H p xs\/SqT K H p xs)/\flatV x=true/\xs.all flatV=true/\Q (.bl (if neg then !inV x xs else inV x xs)) H
theorem call_len_seq:CallR X (.builtin "len") (fun xs H Q=>∃ p ys,xs=[.ref p]/\(SqL X.K H p ys\/SqT X.K H p ys)/\Q (.int ys.length) H):=by
 intro pins s σ H xs us Q I r h
 obtain⟨p,ys,rfl,hq,q⟩:=h
 obtain⟨u,rfl,rx⟩:=vals1 r
 cases rx
 have hn:=line63
 rcases hq with hq | hq
 ·obtain⟨its,r',pl,hz⟩:=I.list hq
  have hlen:=r'.length
  exact Calls.call_len_list pl.isList (by simp only[List.size_toArray] <;> omega) ⟨.int ys.length,H,I.tok _,⟨s.toks+1,by rw[List.size_toArray,hlen]⟩,q⟩
 ·obtain⟨its,r',pl,hz⟩:=I.tuple hq
  have hlen:=r'.length
  exact len_tuple pl (by simp only[List.size_toArray] <;> omega) ⟨.int ys.length,H,I.tok _,⟨s.toks+1,by rw[List.size_toArray,hlen]⟩,q⟩
theorem call_list_of:CallR X (.type "list") (fun xs H Q=>∃ p ys,xs=[.ref p]/\(SqL X.K H p ys\/SqT X.K H p ys)/\∀ l,H l=none->Q (.ref l) (upd H l (.lst ys))):=by
 intro pins s σ H xs us Q I r h
 obtain⟨p,ys,rfl,hq,q⟩:=h
 obtain⟨u,rfl,rx⟩:=vals1 r
 cases rx
 have fin:∀ (its:List Value),Vals ys its->ys.length<=sizeLine->∀ (h':Heap) (c':Nat),(∀ b o',s.heap.get? b=some o'->h'.get? b=some o') ->
  h'.get? s.heap.objs.size=some { cls:=.type "list",dict:=none,data:=.seq its.toArray c',slots:=#[] }->EP X pins σ Q (.ref s.heap.objs.size) { s with heap:=h' }:=fun its r' hz h' c' kp e =>
  ⟨.ref s.heap.objs.size,_,I.laid (t':=s.toks) kp (Nat.le_refl _) (show ObjOk X.prog X.w _ h' _ (.lst ys) from⟨hz,its,c',r',e⟩),rfl,q _ (I.hok.fresh (Nat.le_refl _))⟩
 rcases hq with hq | hq
 ·obtain⟨its,r',pl,hz⟩:=I.list hq
  have hlen:=r'.length
  obtain⟨o,ho,hc,n,hd⟩:=pl.isList
  exact call_list_seq p (.inl rfl) ho hc hd (fun h' c' kp e=>fin its r' hz h' c' kp e) (by simp only[List.size_toArray] <;> omega)
 ·obtain⟨its,r',pl,hz⟩:=I.tuple hq
  have hlen:=r'.length
  obtain⟨o,ho,hc,n,hd⟩:=pl
  exact call_list_seq p (.inr rfl) ho hc hd (fun h' c' kp e=>fin its r' hz h' c' kp e) (by simp only[List.size_toArray] <;> omega)
theorem call_tuple_of:CallR X (.type "tuple") (fun xs H Q=>∃ p ys,xs=[.ref p]/\((SqL X.K H p ys/\∀ l,H l=none->Q (.ref l) (upd H l (.tup ys)))\/(SqT X.K H p ys/\Q (.ref p) H))):=by
 intro pins s σ H xs us Q I r h
 obtain⟨p,ys,rfl,h⟩:=h
 obtain⟨u,rfl,rx⟩:=vals1 r
 cases rx
 rcases h with ⟨hq,q⟩ | ⟨hq,q⟩
 ·obtain⟨its,r',pl,hz⟩:=I.list hq
  have hlen:=r'.length
  refine call_tuple_list pl.isList (fun h' kp=>?_) (by simp only[List.size_toArray] <;> omega)
  have I1:Inv X pins σ H { s with heap:=h' }:=I.kept (t':=s.toks) kp
  have I2:Inv X pins σ (upd H h'.objs.size (.tup ys)) { s with heap:=h'.push { cls:=.type "tuple",data:=.seq its.toArray } } :=
   I1.laid (t':=s.toks) (fun b o e=>Heap.get?_push_of_some _ e) (Nat.le_refl _) (show ObjOk X.prog X.w _ _ _ (.tup ys) from⟨⟨hz,_,Heap.get?_push_size _ rfl,rfl⟩,its,r',IsTup.new _ _⟩)
  exact⟨.ref h'.objs.size,_,I2,rfl,q _ (I1.hok.fresh (Nat.le_refl _))⟩
 ·obtain⟨its,r',pl,hz⟩:=I.tuple hq
  exact call_tuple_same pl ⟨.ref p,H,I,rfl,q⟩
def tyV(K:PySem.W.Frag)(T:String)(x:V)(H:Hp):Prop:=match x with
 | .str _=>T="str"
 | .int _=>T="int"
 | .ref p=>(T="list"/\∃ xs,SqL K H p xs)\/(T="tuple"/\∃ o,K.lookup p=some o/\o.cls=.type "tuple"/\o.dict=none) \/
  (T="dict"/\((∃ kvs,H p=some (.dK kvs))\/∃ kvs,H p=some (.dT kvs)))\/(T="set"/\∃ S n,H p=some (.set S n))
 | _=>False
theorem tyV_is{pins:List (Addr×Obj)}{σ:St}{H:Hp}{s:Shared}{T:String}{x:V}{v:Value}(I:Inv X pins σ H s)(r:RelV x v)(ty:tyV X.K T x H) :
 s.TypeIs v T/\∀ a,v=.ref a->∃ ob,s.heap.get? a=some ob/\ob.dict=none:=by
 cases x with
 | str z =>
  obtain⟨t,rfl⟩:=r
  cases (show T="str" from ty)
  exact⟨typeIs_str s z t,fun _ e=>nomatch e⟩
 | int i =>
  obtain⟨t,rfl⟩:=r
  cases (show T="int" from ty)
  exact⟨typeIs_int s i t,fun _ e=>nomatch e⟩
 | ref p =>
  cases r
  rcases ty with ⟨rfl,xs,hq⟩ | ⟨rfl,o,hk,hc,hd⟩ | ⟨rfl,hk⟩ | ⟨rfl,S,n,hk⟩
  ·obtain⟨its,_,pl,_⟩:=I.list hq
   refine⟨pl.isList.typeIs,fun a e=>?_⟩
   cases e
   obtain⟨o,n,e,c,hd,_⟩:=pl
   exact⟨o,e,hd⟩
  ·refine⟨⟨o,I.kIn p o hk,hc⟩,fun a e=>?_⟩
   cases e
   exact⟨o,I.kIn _ o hk,hd⟩
  ·have z:∃ o,s.heap.get? p=some o/\o.ExactDict:=by
    rcases hk with ⟨kvs,hk⟩ | ⟨kvs,hk⟩
    ·obtain⟨_,_,_,_,o,_,_,e,ex,_⟩:=I.hok p _ hk
     exact⟨o,e,ex⟩
    ·obtain⟨_,_,_,_,o,_,_,e,ex,_⟩:=I.hok p _ hk
     exact⟨o,e,ex⟩
   obtain⟨o,e,ex⟩:=z
   refine⟨⟨o,e,ex.1⟩,fun a e2=>?_⟩
   cases e2
   exact⟨o,e,ex.2.1⟩
  ·obtain⟨o,_,_,_,e,ex,_⟩:=I.hok p _ hk
   refine⟨⟨o,e,ex.1⟩,fun a e2=>?_⟩
   cases e2
   exact⟨o,e,ex.2.1⟩
 | _=>exact False.elim ty
def tBM0(K:PySem.W.Frag)(T:String)(r:V->List V->Hp->VK->Prop)(to:TE):TE:=fun σ H Q=>to σ H fun x H1=>tyV K T x H1/\r x [] H1 Q
def tBM(K:PySem.W.Frag)(T:String)(r:V->List V->Hp->VK->Prop)(to:TE)(t:TA):TE:=fun σ H Q=>to σ H fun x H1=>tyV K T x H1/\t σ H1 fun xs H2=>r x xs H2 Q
variable{o e:Expr}{es:List Expr}{to:TE}{t:TA}{name:Str}{apos cpos:Pos}{T id:String}{r:V->List V->Hp->VK->Prop}
theorem pe_bm(pa:PlainAttrs T)(slot:Slot T name id)(hty:typeOf (.builtin id)=pure (.type "method_descriptor"))(hm:MtR X id r)(ho:PE X o to)(ha:PA X (e::es) t)
 (hbase:attributeBase o name X.env (eval o X.env)=eval o X.env:=by rfl)
 (hfew:((backTo cpos (starEach (e::es) X.env)).all (fun x=>!x.1) && (backToKw cpos (keywordEach [] X.env)).all (fun x=>x.1.isSome)
  && decide ((e::es).length+([]:List Keyword).length+(if ([]:List Keyword).isEmpty then 0 else 1) < 30))=true:=by rfl)
 (hline:(apos.endLine == cpos.line)=true:=by rfl) (hs:starEach (e::es) X.env=(false,eval e X.env)::starEach es X.env:=by rfl) (hplain:(backTo cpos (starEach es X.env)).any (·.1)=false:=by rfl) :
 PE X (.Call (.Attribute o name apos) (e::es) [] cpos) (tBM X.K T r to t):=by
 intro pins s σ H Q I h
 refine wpAny_Call_method_late hbase hfew hline rfl (thn (ho pins s σ H _ I h) fun v s1 ⟨x,H1,I1,r1,ty,q1⟩=>?_)
 obtain⟨h1,h2⟩:=tyV_is I1 r1 ty
 refine⟨T,id,pa,slot,hty,h1,h2,?_⟩
 have hA:=ha cpos pins s1 σ H1 _ I1 q1
 rw[hs]at hA ⊢
 refine Calls.callWith_builtin (by show(false || (backTo cpos (starEach es X.env)).any (·.1))=false;rw[hplain] <;> rfl) (Calls.evalArgs_plain ?_)
 exact thn hA fun us s2 ⟨vs,H2,I2,r2,q2⟩=>hm pins s2 σ H2 x vs v us Q I2 r1 r2 q2
end
end L2
namespace L2
open PySem PySem.Spec PyProof.Rows
def MtM(X:Cx)(id:String)(r:V->List V->Hp->VK->Prop):Prop :=
 ∀ (pins:List (Addr×Obj)) (s:Shared) (σ:St) (H:Hp) (x:V) (xs:List V) (v:Value) (us:List Value) (Q:VK),Inv X pins σ H s->RelV x v->Vals xs us->r x xs H Q ->
  wpAny (model X.prog X.w) X.A (call (.builtin id) (v::us)) (EP X pins σ Q) X.xe s
theorem Vals.one:∀ {x:V} {us:List Value},Vals [x] us->∃ u,us=[u]/\RelV x u
 | _,_,.cons r .nil=>⟨_,rfl,r⟩
section
variable{X:Cx}{pins:List (Addr×Obj)}{σ:St}{H:Hp}{s:Shared}{l b:Addr}{xs ys zs:List V}
theorem Inv.lset{its its':List Value}{n:Nat}{f:Array Value->Array Value}{t':Nat}(I:Inv X pins σ H s)(hH:H l=some (.lst xs))
 (e:s.heap.get? l=some { cls:=.type "list",data:=.seq its.toArray n }) (hf:f its.toArray=its'.toArray) (hv:Vals ys its') (hz:ys.length<=sizeLine) :
 Inv X pins σ (upd H l (.lst ys)) { s with heap:=s.heap.update l (Obj.mapSeq f),toks:=t' }:=by
 have q:=PySem.IsL.update e f
 rw[hf]at q
 refine I.write (x:=l) (e:=l) (by rw[hH];exact trivial) (.inl rfl) (fun b' u hb hu=>(Heap.get?_update_other s.heap (Obj.mapSeq f) (Ne.symm hb)).trans hu) ⟨_,q⟩ ?_
 exact⟨hz,its',_,hv,q⟩
theorem Inv.lnew{its:List Value}{t':Nat}(I:Inv X pins σ H s)(hv:Vals ys its)(hz:ys.length<=sizeLine) :
 Inv X pins σ (upd H s.heap.objs.size (.lst ys)) { s with heap:=s.heap.push { cls:=.type "list",data:=.seq its.toArray },toks:=t' } :=
 I.laid (fun _ _ q=>Heap.get?_push_of_some _ q) (Nat.le_refl _) ⟨hz,its,0,hv,Heap.get?_push_size _ rfl⟩
theorem Inv.fresh(I:Inv X pins σ H s):H s.heap.objs.size=none:=I.hok.fresh (Nat.le_refl _)
theorem Inv.lstM(I:Inv X pins σ H s)(hH:H l=some (.lst xs)):xs.length<=sizeLine/\∃ (its:List Value) (n:Nat),Vals xs its/\xs.length=its.length/\s.heap.get? l=some { cls:=.type "list",data:=.seq its.toArray n }:=by
 obtain⟨z,its,n,r,e⟩:=I.hok l _ hH
 exact⟨z,its,n,r,r.length,e⟩
theorem notLongL{n:Nat}(h:n<=sizeLine):Builtin.List.listTooLong n=false:=by
 unfold Builtin.List.listTooLong
 exact decide_eq_false (by omega)
end
section
variable{X:Cx}
def rAppend:V->List V->Hp->VK->Prop:=fun x vs H Q=>∃ l xs y,x=.ref l/\vs=[y]/\H l=some (.lst xs)/\xs.length < sizeLine/\Q .non (upd H l (.lst (xs++[y])))
theorem mt_append:MtM X "list.append" rAppend:=by
 intro pins s σ H x vs v us Q I rx rv h
 obtain⟨l,xs,y,rfl,rfl,hH,hz,q⟩:=h
 cases rx
 obtain⟨u,rfl,ru⟩:=rv.one
 obtain⟨z,its,n,r,hl,e⟩:=I.lstM hH
 refine call_meets F.slot_list_append ⟨_,e,rfl⟩ F.entry_list_append (F.args_list_append_2 _ _) (PySem.list_append l its.toArray n u (by rw[List.size_toArray];omega)) ⟨e,?_⟩
 refine⟨.non,_,I.lset (its':=its++[u]) hH e (by simp) (r.append (.cons ru .nil)) ?_,rfl,q⟩
 rw[List.length_append,List.length_singleton]
 omega
def rCat:R2:=fun x y H Q=>∃ l b xs zs,x=.ref l/\y=.ref b/\H l=some (.lst xs)/\H b=some (.lst zs)/\xs.length+zs.length<=sizeLine/\∀ p,H p=none->Q (.ref p) (upd H p (.lst (xs++zs)))
theorem op_cat:OpR X (binaryOp .Add) rCat:=by
 intro pins s σ H x y v u Q I rx ry h
 obtain⟨l,b,xs,zs,rfl,rfl,hH,hB,hz,q⟩:=h
 cases rx
 cases ry
 obtain⟨z,its,n,r,hl,e⟩:=I.lstM hH
 obtain⟨z2,its2,n2,r2,hl2,e2⟩:=I.lstM hB
 refine PySem.P.add_list e e2 ?_ (by rw[List.size_toArray,List.size_toArray];omega)
 have ea:its.toArray++its2.toArray=(its++its2).toArray:=by simp
 rw[ea]
 exact⟨.ref _,_,I.lnew (t':=s.toks) (r.append r2) (by rw[List.length_append];omega),rfl,q _ I.fresh⟩
end
section
variable{prog:Program}{w:World}{A:Around}{E:Value->Shared->Prop}{s:Shared}
end
section
variable{X:Cx}
end
end L2
namespace Att
open PySem PySem.W PySem.Calls PyProof.Rows
theorem ints_of_wellAll{P:Params}{h:Heap}:∀ (ns:List Int) (vs:List Value),WellAll P h vs (ns.map WData.int)->IntsAre vs ns:=by
 intro ns
 induction ns with
 | nil =>
  intro vs w
  rw[List.map_nil]at w
  cases w
  exact .nil
 | cons n ns ih =>
  intro vs w
  rw[List.map_cons]at w
  cases w with
  | cons a b =>
   cases a
   exact .cons _ _ (ih _ b)
theorem script_of{l:OpenLaw}{n:Nat}(hn:l.most=some n){P:Params}{h:Heap}{args:List WData}{vals:List Value}
 (hpre:l.row.toRowW.claim.pre args=true) (hwl:WellAll P h vals args) :
 ∃ a vs ns,vals=[Value.ref a]/\args=[WData.list (ns.map WData.int)]/\h.get? a=some { cls:=.type "list",data:=.seq vs.toArray }/\IntsAre vs ns/\ns.length<=n:=by
 have hsh:WShape.hasAll [] args [.list .int]=true:=(pre_splitW hpre).1
 have hc:l.pre.holds [] { args:=args }=true:=(pre_splitW hpre).2
 obtain⟨d,r,rfl,h1,h2⟩:=hasAllW_cons hsh
 obtain rfl:=hasAllW_nil h2
 obtain⟨xs,rfl,h3⟩:=hasW_list h1
 obtain⟨ns,rfl⟩:=items_int h3
 have hlen:ns.length<=n:=by
  unfold OpenLaw.pre at hc
  have h4:(WTm.not (.lt (.lit (.int (n:Int))) (.len (.arg 0)))).holds [] { args:=[.list (ns.map .int)] }=true:=by
   have h4:=(holds_andW hc).1
   rw[hn]at h4
   exact h4
  have h5:=condW_of h4 (w_not (w_lt w_lit (w_len_list (w_arg rfl))))
  rw[List.length_map]at h5
  refine Nat.le_of_not_lt fun q=>?_
  have q':(n:Int) < ((ns.length:Nat):Int):=by omega
  first
   | (rw[decide_eq_true q']at h5;exact absurd h5 (by decide))
   | (simp at h5;omega)
 cases hwl with
 | cons w1 w2 =>
  cases w2
  cases w1 with
  | list ho hall=>exact⟨_,_,ns,rfl,rfl,ho,ints_of_wellAll ns _ hall,hlen⟩
theorem post_true(l:OpenLaw)(args:List WData):l.row.toRowW.claim.post args (.bool true) args=true :=
 postW_of (r:=l.row.toRowW) (X:=(true == true))
  (show WShape.has [] (.bool true) .bool=true by first | rfl | decide | simp[WShape.has,WShape.arms,WShape.armsAll])
  (show(WTm.eq .res (.lit (.bool true))).value [] { args:=args,res:=some (.bool true),after:=args }=some (.bool (true == true)) from w_eq_bool (w_res rfl) w_lit) rfl
section
variable{prog:Program}{w:World}{A:Around}{E:Value->Shared->Prop}{s:Shared}{K:Frag}
end
end Att
namespace L2
open PySem PySem.Spec PyProof.Rows
theorem vals_ints:∀ {vs:List Value} {ns:List Int},IntsAre vs ns->Vals (ns.map V.int) vs
 | _,_,.nil=>.nil
 | _,_,.cons n t h=>.cons ⟨t,rfl⟩ (vals_ints h)
def Only(H:Hp):Prop:=∀ b,H b=none\/∃ o xs,H b=some (.frz o (.lst xs))
theorem law_call{P:Program}{w:World}{K:PySem.W.Frag}{mg mb:Str->Option Value}{CX:CXT}{k:Nat}{fa a:Addr}{fd:FuncData}{x:Str}{sp:Sp}{s₁:Shared}{vs:List Value}{ns:List Int}
 (KX:K.In s₁.heap) (hns:s₁.heap.Ns mainGlobals mg) (hb:s₁.heap.Ns builtinsNs mb) (hbb:∀ x:Str,x≠"__name__"->mb x=bootBuiltins x) (hlim:s₁.heap.NoLimit) (hg:s₁.gens=#[])
 (ha:s₁.heap.get? a=some { cls:=.type "list",data:=.seq vs.toArray }) (hi:IntsAre vs ns) (hl:ns.length<=sizeLine) (hr:Room k callerA)
 (F:∀ base:Heap,K.In base->base.Ns mainGlobals mg->FnOk P w K mg base CX k fa fd [x] sp) (hbind:∀ (s:Shared) (u:Value),BindsTo s fd ⟨[u],[]⟩ [(x,u)])
 (hsp:∀ H:Hp,Only H->SqL K H a (ns.map V.int)->sp [.ref a] H (fun v _=>v=.bl true) fun _ _ _=>False)
 (hCX:∀ H e s',CX [] H s₁ (fun _ _ _=>False) e s'->False) :
 codeAny (model P w) callerA (.call (.ref fa) ⟨[.ref a],[]⟩) (fun r s'=>r=.ok (.ret (.bool true))/\OldK s₁.heap s'.heap/\s'.os=s₁.os/\AllBare s'.gens) s₁:=by
 have rv:=vals_ints hi
 have lenV:=hi.length
 have core:∀ H:Hp,Only H->SqL K H a (ns.map V.int)->HOk P w H s₁.heap->(∀ b,H b≠none->b=a)->(H a≠none->K.lookup a=none) ->
  codeAny (model P w) callerA (.call (.ref fa) ⟨[.ref a],[]⟩) (fun r s'=>r=.ok (.ret (.bool true))/\OldK s₁.heap s'.heap/\s'.os=s₁.os/\AllBare s'.gens) s₁:=by
  intro H hO hS hok hA hK
  have base_of:∀ {b:Addr} {o:Obj},s₁.heap.get? b=some o->H b=none->(hidT s₁.heap H).get? b=some o:=fun e n=>hidT_get e n
  have noA:∀ {b:Addr} {o:Obj} {es:Array DictEntry} {ep:Nat},s₁.heap.get? b=some o->o.data=.dict es ep->H b=none:=fun {b o es ep} e d=>by
   cases q:H b with
   | none=>rfl
   | some u =>
    have e':b=a:=hA b (by rw[q];simp)
    subst e'
    rw[ha]at e;cases e
    have d':Data.seq vs.toArray _=Data.dict es ep:=d
    cases d'
  have nsK:∀ {b:Addr} {m:Str->Option Value},s₁.heap.Ns b m->(hidT s₁.heap H).Ns b m:=fun {b m} ⟨o,es,ep,e,d,r⟩=>⟨o,es,ep,base_of e (noA e d),d,r⟩
  have hKb:K.In (hidT s₁.heap H):=fun b o e=>base_of (KX b o e) (by
   cases q:H b with
   | none=>rfl
   | some u =>
    have e':b=a:=hA b (by rw[q];simp)
    subst e'
    rw[hK (by rw[q];simp)]at e;cases e)
  have hM:Mod K mg (hidT s₁.heap H):=⟨hKb,nsK hns,⟨mb,nsK hb,hbb⟩,let ⟨mc,h1,h2⟩:=hlim;⟨mc,nsK h1,h2⟩⟩
  have e0:Env0 P w K mg (hidT s₁.heap H) callerA [] s₁ H:=⟨rfl,hM,fun b o e=>of_hidT e,Nat.le_of_eq (hidT_size _ _),trivial,fun b hb=>absurd (show b∈([]:List Addr) from hb) (by simp),hok,.of_eq hg⟩
  refine codeAny_mono ((F _ hKb (nsK hns)).run callerA [] s₁ H ⟨[.ref a],[]⟩ [.ref a] [.ref a] _ _ hr e0 (hbind s₁ (.ref a)) (.cons rfl .nil) (hsp H hO hS)) fun r s' h=>?_
  cases r with
  | error e=>exact(hCX H e s' h).elim
  | ok fl =>
   cases fl with
   | next=>exact False.elim h
   | brk=>exact False.elim h
   | cont=>exact False.elim h
   | ret u =>
    obtain⟨v,H',os,bare,un,hok',r',q⟩:=h
    have q':v=.bl true:=q
    subst q'
    obtain rfl:u=Value.bool true:=r'
    refine⟨rfl,OldK.of_keep fun b o e=>?_,os,bare⟩
    cases q:H b with
    | none=>exact un.keep b o e q (by intro z;exact absurd (show b∈([]:List Addr) from z) (by simp)) (by simp)
    | some u =>
     rcases hO b with z | ⟨ob,xs,z⟩
     ·rw[q]at z;cases z
     ·have z2:=un.frzs b ob _ z
      obtain⟨e1,_⟩:=hok b _ z
      obtain⟨e2,_⟩:=hok' b _ z2
      rw[e]at e1;cases e1
      exact e2
 cases hk:K.lookup a with
 | some o =>
  have e:=KX a o hk
  rw[ha]at e
  cases e
  refine core (fun _=>none) (fun _=>.inl rfl) (.inr ⟨_,vs.toArray,_,hk,rfl,rfl,rfl,by rw[List.size_toArray,lenV];exact hl,by simpa using rv⟩) (fun b u z=>by have z':(none:Option HO)=some u:=z;cases z') (fun b z=>absurd rfl z) fun z=>absurd rfl z
 | none =>
  refine core (fun b=>if b=a then some (.frz { cls:=.type "list",data:=.seq vs.toArray } (.lst (ns.map V.int))) else none) (fun b=>?_) (.inl (.inr ⟨{ cls:=.type "list",data:=.seq vs.toArray },if_pos rfl⟩)) (fun b u z=>?_) (fun b z=>?_) fun _=>hk
  ·by_cases hb:b=a
   ·exact .inr ⟨_,_,if_pos hb⟩
   ·exact .inl (if_neg hb)
  ·by_cases hb:b=a
   ·have z':=(if_pos hb).symm.trans z
    cases z'
    subst hb
    exact⟨ha,by rw[List.length_map];exact hl,vs,_,rv,ha⟩
   ·have z':=(if_neg hb).symm.trans z
    cases z'
  ·by_cases hb:b=a
   ·exact hb
   ·exact absurd (if_neg hb) z
end L2
namespace L2
open PySem PySem.Spec PyProof.Rows
end L2
namespace L2
open PySem PySem.Spec PyProof.Rows
def defArgs(s:Stmt):Arguments:=match s with
 | .FunctionDef _ a _ _ _ _ _ _ _ _=>a
 | _=>{ posonlyargs:=[],args:=[],vararg:=none,kwonlyargs:=[],kw_defaults:=[],kwarg:=none,defaults:=[] }
def defBody(s:Stmt):List Stmt:=match s with
 | .FunctionDef _ _ b _ _ _ _ _ _ _=>b
 | _=>[]
def defScope(s:Stmt):Scope:=match s with
 | .FunctionDef _ _ _ _ _ _ sc _ _ _=>sc
 | _=>{ kind:=.function,names:=[],isGenerator:=false,isCoroutine:=false }
abbrev CX0:CXT:=fun _ _ _ _ _ _=>False
abbrev E0:XK:=fun _ _ _=>False
theorem pass0{X:Cx}:Passes CX0 X E0:=fun _ _ _ _ _ _ _ h=>h.elim
structure Fun(K:PySem.W.Frag)(x qual:Str)(st:Stmt)(f:Addr)(fd:FuncData):Prop where
 ex:∃ (oc:Value) (od:Option Addr) (kV doc pm:Value) (an:Option Addr) (cdv ct:Value) (osl:Array (Option Value)),
  fd=PySem.W.fnOf x qual (defArgs st) (defBody st) (defScope st) .none kV doc pm an cdv ct/\K.lookup f=some ⟨oc,od,.func fd,osl⟩/\PySem.W.codeIn K cdv qual=true
 kp:PySem.W.keepIn K (.ref f)=true
section
variable{P:Program}{w:World}{K:PySem.W.Frag}{mg:Str->Option Value}{base:Heap}
theorem Fun.ok{x qual:Str}{st:Stmt}{f:Addr}{fd:FuncData}{N ps:List Str}{k:Nat}{sp:Sp}(F:Fun K x qual st f fd)(S:FnScope N ps (defScope st))(len:∀ vs H Q E,sp vs H Q E->vs.length=ps.length)
 (hbody:∀ (cdv:Value) (A:Around) (outer:List Env) (s:Shared) (H:Hp) (vs:List V) (Q:VK) (E:XK),Room k (A.deeper (envOfC qual (defScope st) s.heap.objs.size f cdv))->sp vs H Q E ->
  ∃ t,PSs (cxOf CX0 P w K mg base N qual (defScope st) f cdv A outer s H E).nox (defBody st) t/\t { nx:=fun _ H'=>Q .non H',rt:=Q } (start N vs) H):FnOk P w K mg base CX0 (k+1) f fd ps sp:=by
 obtain⟨oc,od,kV,doc,pm,an,cdv,ct,osl,rfl,lk,hcd⟩:=F.ex
 refine fn_of lk hcd S len fun A outer s H vs Q E hr hsp=>?_
 obtain⟨t,h,q⟩:=hbody cdv A outer s H vs Q E hr hsp
 exact⟨t,h.nox,q⟩
theorem Fun.binds{x qual:Str}{st:Stmt}{f:Addr}{fd:FuncData}{ps:List Str}(F:Fun K x qual st f fd)
 (h:∀ (kV doc pm:Value) (an:Option Addr) (cdv ct:Value) (us:List Value),us.length=ps.length->bindArgs (PySem.W.fnOf x qual (defArgs st) (defBody st) (defScope st) .none kV doc pm an cdv ct) ⟨us,[]⟩=pure (ps.zip us)):Binds K fd ps []:=by
 obtain⟨oc,od,kV,doc,pm,an,cdv,ct,osl,rfl,lk,hcd⟩:=F.ex
 exact .all (h kV doc pm an cdv ct)
theorem fun_mk{x qual:Str}{st:Stmt}{f:Addr}{oc:Value}{od an:Option Addr}{osl:Array (Option Value)}{kV doc pm cdv ct:Value}(l:K.lookup f=some ⟨oc,od,.func (PySem.W.fnOf x qual (defArgs st) (defBody st) (defScope st) .none kV doc pm an cdv ct),osl⟩)
 (c:PySem.W.codeIn K cdv qual=true) (k:PySem.W.keepIn K (.ref f)=true):Fun K x qual st f (PySem.W.fnOf x qual (defArgs st) (defBody st) (defScope st) .none kV doc pm an cdv ct):=⟨⟨oc,od,kV,doc,pm,an,cdv,ct,osl,rfl,l,c⟩,k⟩
end
theorem small1000{n:Nat}(h:n<=1000):n < sizeLine:=Nat.lt_of_le_of_lt h (by decide)
section
variable{X:Cx}
theorem pv(i:Nat){x:Str}{pos:Pos}(hN:X.N[i]?=some x:=by rfl)(hv:Vis X.env.scope x:=by first | exact Or.inl rfl | exact Or.inr (Or.inl rfl) | exact Or.inr (Or.inr rfl))(hd:(x == ("__debug__":Str))=false:=by decide)
 (hcd:(x == ("__classdict__":Str))=false:=by decide):PE X (.Name x pos) (tVar i):=pe_var hN hv hd hcd
end
theorem iteT{A B:Prop}(h:A):if true=true then A else B:=by
 rw[if_pos rfl]
 exact h
theorem ite2{c A B:Prop}[Decidable c](h1:c->A)(h2:¬ c->B):if c then A else B:=by
 by_cases h:c
 ·rw[if_pos h]
  exact h1 h
 ·rw[if_neg h]
  exact h2 h
def Same(H H':Hp):Prop:=∀ b o,H b=some o->H' b=some o
theorem Same.refl(H:Hp):Same H H:=fun _ _ h=>h
theorem Same.trans{H H1 H2:Hp}(a:Same H H1)(b:Same H1 H2):Same H H2:=fun c o h=>b c o (a c o h)
theorem Same.seq{K:PySem.W.Frag}{H H':Hp}{a:Addr}{xs:List V}(e:Same H H')(h:SqL K H a xs):SqL K H' a xs:=by
 rcases h with (h | ⟨o,h⟩) | h
 ·exact .inl (.inl (e _ _ h))
 ·exact .inl (.inr ⟨o,e _ _ h⟩)
 ·exact .inr h
end L2
end
section
namespace L2
open PySem PySem.Spec PyProof.Rows
end L2
namespace L2
open PySem PySem.Spec PyProof.Rows
section
variable(P:Program)(w:World)
end
section
variable{P:Program}{w:World}{H H':Hp}{h h':Heap}{a:Addr}{o:HO}
end
section
variable{P:Program}{w:World}{H:Hp}{h h':Heap}{x e:Addr}{o':HO}
end
section
variable{fs fs' ex ex':List Addr}{H H1 H2:Hp}{h h1 h2 h':Heap}{a x e:Addr}{o:HO}
end
end L2
namespace L2
open PySem PySem.Spec PyProof.Rows
section
variable{X:Cx}{pins:List (Addr×Obj)}{σ:List (Option V)}{H H':Hp}{s:Shared}{h':Heap}
end
end L2
namespace L2
open PySem PySem.Spec PyProof.Rows
section
variable{X:Cx}
variable{a b:Expr}{ta tb:TE}{pos:Pos}
variable{tA tB':TT}{rest:List Expr}
end
end L2
namespace L2
open PySem PySem.Spec PyProof.Rows
section
variable{X:Cx}{pins:List (Addr×Obj)}{σ:St}{H:Hp}{s:Shared}{a:Addr}{xs ys:List V}
end
section
variable{X:Cx}{pins:List (Addr×Obj)}{σ:St}{H:Hp}{s:Shared}{E:Value->Shared->Prop}
end
section
variable{X:Cx}{st:Stmt}{rest:List Stmt}{t u:TS}{e:Expr}{te:TE}{pos:Pos}
end
section
variable{X:Cx}{pos:Pos}
end
section
variable{X:Cx}{pos:Pos}
end
end L2
namespace L2
open PySem PySem.Spec PyProof.Rows
section
variable{X:Cx}{tg:Expr}
end
end L2
namespace L2
open PySem PySem.Spec PyProof.Rows
section
variable{X:Cx}{a b c:Expr}{ta tb tc:TE}{pos:Pos}
end
section
variable{X:Cx}{a b c:Expr}{ta tb tc:TE}{pos:Pos}
end
end L2
namespace L2
open PySem PySem.Spec PyProof.Rows
section
variable{prog:Program}{w:World}{A:Around}{E:Value->Shared->Prop}{s:Shared}{K:PySem.W.Frag}{x dx C f:Addr}{mA:Str->Option Value}{name:Str}{v:Value}
end
section
variable{P:Program}{w:World}{H H':Hp}{h h':Heap}{a C dx:Addr}{fs fs':List (Str×V)}
end
section
variable{X:Cx}{pins:List (Addr×Obj)}{σ:St}{H:Hp}{s:Shared}{a C dx:Addr}{fs:List (Str×V)}{f:Str}{v:V}{A:Around}{E:Value->Shared->Prop}
end
section
variable{X:Cx}{o e value:Expr}{f:Str}{pos pos' tpos:Pos}{ta tv:TE}
end
section
variable{X:Cx}{pins:List (Addr×Obj)}{σ:St}{H:Hp}{s:Shared}{A:Around}{E:Value->Shared->Prop}{Q:Value->Shared->Prop}{c:Value}{b:Bool}
end
end L2
namespace L2
open PySem PySem.Spec PyProof.Rows
section
variable{X:Cx}{e:Expr}{es:List Expr}{te:TE}{t:TA}{pos:Pos}
end
section
variable{X:Cx}{pins:List (Addr×Obj)}{σ:St}{H:Hp}{s s':Shared}
end
section
variable{X:Cx}{CX:CXT}{k:Nat}{f C:Addr}{fd:FuncData}{ps:List Str}{sp:Sp}{dvs:List V}{ds:List Value}{E:XK}{x m:Str}{p pos apos:Pos}{e o:Expr}{es:List Expr}{ta:TE}{t:TA}
end
section
variable{X:Cx}{CX:CXT}{k:Nat}{f C:Addr}{fd:FuncData}{ps ks:List Str}{sp:Sp}{E:XK}{x m:Str}{p pos apos kpos:Pos}{e o:Expr}{es:List Expr}{kws:List Keyword}{te ta:TE}{t tk:TA}{nm:Option Str}
variable{g:List Value->List Value->List Value}{gV:List V->List V->List V}
end
end L2
namespace L2
open PySem PySem.Spec PyProof.Rows
section
variable{X:Cx}{x:Str}{p pos:Pos}{e:Expr}{es:List Expr}{t:TA}{id T:String}{r:List V->Hp->VK->Prop}
end
end L2
namespace L2
open PySem PySem.Spec PyProof.Rows
section
variable{κ:Type}[DecidableEq κ]
def valV(kvs:List (κ×V))(k:κ):Option V:=(kvs.find? fun kv=>decide (kv.1=k)).map (·.2)
def putK(kvs:List (κ×V))(k:κ)(v:V):List (κ×V) :=
 if (kvs.any fun kv=>decide (kv.1=k))=true then kvs.map (fun kv=>if kv.1=k then (kv.1,v) else kv) else kvs++[(k,v)]
def dropK(kvs:List (κ×V))(k:κ):List (κ×V):=kvs.filter fun kv=>decide (kv.1≠k)
theorem valV_pos{p:κ×V}{r:List (κ×V)}{k:κ}(e:p.1=k):valV (p::r) k=some p.2:=by simp[valV,List.find?_cons,e]
theorem valV_neg{p:κ×V}{r:List (κ×V)}{k:κ}(e:¬ p.1=k):valV (p::r) k=valV r k:=by simp[valV,List.find?_cons,e]
theorem valV_any(k:κ):∀ kvs:List (κ×V),(kvs.any fun kv=>decide (kv.1=k))=(valV kvs k).isSome
 | []=>rfl
 | p::r=>by
  rw[List.any_cons]
  by_cases e:p.1=k
  ·simp only[valV_pos e,decide_eq_true e,Bool.true_or,Option.isSome_some]
  ·rw[valV_neg e,decide_eq_false e,Bool.false_or];exact valV_any k r
theorem length_putK(kvs:List (κ×V))(k:κ)(v:V):(putK kvs k v).length<=kvs.length+1:=by
 unfold putK
 split
 ·rw[List.length_map];omega
 ·rw[List.length_append,List.length_cons,List.length_nil];omega
theorem putK_new{kvs:List (κ×V)}{k:κ}(v:V)(h:valV kvs k=none):putK kvs k v=kvs++[(k,v)]:=by
 unfold putK
 rw[valV_any,h]
 exact if_neg (by decide)
theorem RelO.isSome_eq{o:Option V}{u:Option Value}(r:RelO o u):o.isSome=u.isSome:=by
 cases o with
 | none=>cases u with
  | none=>rfl
  | some _=>exact(show False from r).elim
 | some _=>cases u with
  | none=>exact(show False from r).elim
  | some _=>rfl
theorem RelO.getD{o:Option V}{u:Option Value}{d:V}{d':Value}(r:RelO o u)(rd:RelV d d'):RelV (o.getD d) (u.getD d'):=by
 cases o with
 | none=>cases u with
  | none=>exact rd
  | some _=>exact(show False from r).elim
 | some _=>cases u with
  | none=>exact(show False from r).elim
  | some _=>exact r
theorem KV.val{kvs:List (κ×V)}{vs:List (κ×Value)}(r:KV kvs vs)(k:κ):RelO (valV kvs k) (valueAt vs k):=by
 unfold KV at r
 induction r with
 | nil=>exact True.intro
 | @cons p q ps qs h t ih =>
  obtain⟨h1,h2⟩:=h
  by_cases e:p.1=k
  ·have e':q.1=k:=h1.symm.trans e
   have b:valueAt (q::qs) k=some q.2:=by simp[valueAt,List.find?_cons,e']
   rw[valV_pos e,b];exact h2
  ·have e':¬ q.1=k:=fun z=>e (h1.trans z)
   have b:valueAt (q::qs) k=valueAt qs k:=by simp[valueAt,List.find?_cons,e']
   rw[valV_neg e,b];exact ih
theorem KV.any{kvs:List (κ×V)}{vs:List (κ×Value)}(r:KV kvs vs)(k:κ):(kvs.any fun kv=>decide (kv.1=k))=vs.any fun kv=>decide (kv.1=k):=by
 unfold KV at r
 induction r with
 | nil=>rfl
 | cons h t ih=>rw[List.any_cons,List.any_cons,ih,h.1]
theorem KV.repl{kvs:List (κ×V)}{vs:List (κ×Value)}(r:KV kvs vs)(k:κ){y:V}{u:Value}(ry:RelV y u) :
 KV (kvs.map fun kv=>if kv.1=k then (kv.1,y) else kv) (vs.map fun kv=>if kv.1=k then (kv.1,u) else kv):=by
 unfold KV at r ⊢
 induction r with
 | nil=>exact .nil
 | @cons p q ps qs h t ih =>
  rw[List.map_cons,List.map_cons]
  refine .cons ?_ ih
  obtain⟨h1,h2⟩:=h
  by_cases e:p.1=k
  ·rw[if_pos e,if_pos (h1.symm.trans e)];exact⟨h1,ry⟩
  ·rw[if_neg e,if_neg (fun z=>e (h1.trans z))];exact⟨h1,h2⟩
theorem KV.put{kvs:List (κ×V)}{vs:List (κ×Value)}(r:KV kvs vs)(k:κ){y:V}{u:Value}(ry:RelV y u):KV (putK kvs k y) (stored vs k u):=by
 unfold putK stored
 rw[r.any k]
 by_cases e:(vs.any fun kv=>decide (kv.1=k))=true
 ·rw[if_pos e,if_pos e];exact r.repl k ry
 ·rw[if_neg e,if_neg e];exact Paired.snoc r ⟨rfl,ry⟩
theorem KV.drop{kvs:List (κ×V)}{vs:List (κ×Value)}(r:KV kvs vs)(k:κ):KV (dropK kvs k) (without vs k):=by
 unfold KV at r ⊢
 unfold dropK without
 induction r with
 | nil=>exact .nil
 | @cons p q ps qs h t ih =>
  obtain⟨h1,h2⟩:=h
  rw[List.filter_cons,List.filter_cons]
  by_cases e:p.1=k
  ·have a:¬ decide (p.1≠k)=true:=by simp[e]
   have b:¬ decide (q.1≠k)=true:=by simp[h1.symm.trans e]
   rw[if_neg a,if_neg b];exact ih
  ·have e':¬ q.1=k:=fun z=>e (h1.trans z)
   have a:decide (p.1≠k)=true:=by simp[e]
   have b:decide (q.1≠k)=true:=by simp[e']
   rw[if_pos a,if_pos b];exact .cons ⟨h1,h2⟩ ih
theorem KV.length{kvs:List (κ×V)}{vs:List (κ×Value)}(r:KV kvs vs):kvs.length=vs.length:=Paired.length r
theorem dropK_le(kvs:List (κ×V))(k:κ):(dropK kvs k).length<=kvs.length:=List.length_filter_le _ _
end
theorem kV_is{P:Program}{w:World}{k:Key}{u:Value}(r:RelV (kV k) u):(mixKind P w).is k u=true:=by
 cases k with
 | inl i=>obtain⟨t,e⟩:=(show ∃ t,u=Value.int i t from r);subst e;exact mixKind_int P w i t
 | inr x=>obtain⟨t,e⟩:=(show ∃ t,u=Value.str x t from r);subst e;exact mixKind_str P w x t
theorem items_are{P:Program}{w:World}:∀ {ks:List Key} {us:List Value},Vals (ks.map kV) us->ItemsAre (mixKind P w) ks us
 | [],_,r=>by rw[List.map_nil]at r;cases r;exact .nil
 | k::ks,_,r=>by
  rw[List.map_cons]at r
  cases r with
  | cons h t=>exact .cons (kV_is h) (items_are t)
abbrev KT(H:Hp):List (List Key×V)->List (List Key×Addr×Value)->Prop:=Paired fun p q=>p.1=q.1/\H q.2.1=some (.tup (p.1.map kV))/\RelV p.2 q.2.2
theorem KT.val{H:Hp}{kvs:List (List Key×V)}{xs:List (List Key×Addr×Value)}(r:KT H kvs xs)(k:List Key):RelO (valV kvs k) ((atKey xs k).map (·.2)):=by
 induction r with
 | nil=>exact True.intro
 | @cons p q ps qs h t ih =>
  obtain⟨h1,_,h2⟩:=h
  by_cases e:p.1=k
  ·have e':q.1=k:=h1.symm.trans e
   have b:atKey (q::qs) k=some q.2:=by simp[atKey,List.find?_cons,e']
   rw[valV_pos e,b];exact h2
  ·have e':¬ q.1=k:=fun z=>e (h1.trans z)
   have b:atKey (q::qs) k=atKey qs k:=by simp[atKey,List.find?_cons,e']
   rw[valV_neg e,b];exact ih
theorem KT.repl{H:Hp}{kvs:List (List Key×V)}{xs:List (List Key×Addr×Value)}(r:KT H kvs xs)(k:List Key){y:V}{u:Value}(ry:RelV y u) :
 KT H (kvs.map fun kv=>if kv.1=k then (kv.1,y) else kv) (xs.map (putAt k u)):=by
 induction r with
 | nil=>exact .nil
 | @cons p q ps qs h t ih =>
  rw[List.map_cons,List.map_cons]
  refine .cons ?_ ih
  obtain⟨h1,h2,h3⟩:=h
  unfold putAt
  by_cases e:p.1=k
  ·rw[if_pos e,if_pos (h1.symm.trans e)];exact⟨h1,h2,ry⟩
  ·rw[if_neg e,if_neg (fun z=>e (h1.trans z))];exact⟨h1,h2,h3⟩
theorem KT.put{H:Hp}{kvs:List (List Key×V)}{xs:List (List Key×Addr×Value)}(r:KT H kvs xs)(k:List Key){b:Addr}{y:V}{u:Value}(hb:H b=some (.tup (k.map kV)))(ry:RelV y u) :
 KT H (putK kvs k y) (storedH xs k b u):=by
 have e:(kvs.any fun kv=>decide (kv.1=k))=(atKey xs k).isSome:=by
  rw[valV_any,(r.val k).isSome_eq,Option.isSome_map]
 unfold putK storedH
 rw[e]
 by_cases q:(atKey xs k).isSome=true
 ·rw[if_pos q,if_pos q];exact r.repl k ry
 ·rw[if_neg q,if_neg q];exact Paired.snoc r ⟨rfl,hb,ry⟩
theorem KT.keeps{H H':Hp}{kvs:List (List Key×V)}{xs:List (List Key×Addr×Value)}(r:KT H kvs xs)(ht:∀ b ys,H b=some (.tup ys)->H' b=some (.tup ys)):KT H' kvs xs :=
 Paired.mapP r fun _ _ z=>⟨z.1,ht _ _ z.2.1,z.2.2⟩
section
variable{P:Program}{w:World}{H:Hp}{h:Heap}{a:Addr}
theorem rd_of{u:HO}(ok:HOk P w H h)(e:Rd H a u):ObjOk P w H h a u:=e.ok ok
theorem dk_rd{kvs:List (Key×V)}(ok:HOk P w H h)(e:Rd H a (.dK kvs)):kvs.length<=sizeLine/\(a == sysModules)=false/\∃ vs,KV kvs vs/\h.DictOf (mixKind P w) a vs :=
 show ObjOk P w H h a (.dK kvs) from rd_of ok e
theorem dk_of{kvs:List (Key×V)}(ok:HOk P w H h)(e:H a=some (.dK kvs)):kvs.length<=sizeLine/\(a == sysModules)=false/\∃ vs,KV kvs vs/\h.DictOf (mixKind P w) a vs:=dk_rd ok (.inl e)
theorem key_of{ks:List Key}(ok:HOk P w H h)(e:H a=some (.tup (ks.map kV))):(tupleKind (mixKind P w)).is h ks a:=by
 obtain⟨_,its,r,o,h1,h2,n,h3⟩:=(show ObjOk P w H h a (.tup (ks.map kV)) from ok a _ e)
 exact⟨o,its.toArray,n,h1,h2,h3,by simpa using items_are r⟩
theorem dt_rd{kvs:List (List Key×V)}(ok:HOk P w H h)(e:Rd H a (.dT kvs)):kvs.length<=sizeLine/\(a == sysModules)=false /\
 ∃ xs,KT H kvs xs/\h.DictOfH (tupleKind (mixKind P w)) a xs:=by
 obtain⟨z,y,xs,r,o,es,ep,h1,h2,h3,h4,h5⟩:=(show ObjOk P w H h a (.dT kvs) from rd_of ok e)
 refine⟨z,y,xs,r,o,es,ep,h1,h2,h3,h4,fun x hx=>?_,h5⟩
 have all:∀ {l:List (List Key×V)} {m:List (List Key×Addr×Value)},KT H l m->∀ x∈m,(tupleKind (mixKind P w)).is h x.1 x.2.1:=by
  intro l m q
  induction q with
  | nil=>intro x hx;exact nomatch hx
  | @cons p q ps qs hq t ih =>
   intro x hx
   rcases List.mem_cons.mp hx with e | hx
   ·subst e
    exact key_of ok (by rw[<- hq.1];exact hq.2.1)
   ·exact ih x hx
 exact all r x hx
theorem dt_of{kvs:List (List Key×V)}(ok:HOk P w H h)(e:H a=some (.dT kvs)):kvs.length<=sizeLine/\(a == sysModules)=false /\
 ∃ xs,KT H kvs xs/\h.DictOfH (tupleKind (mixKind P w)) a xs:=dt_rd ok (.inl e)
end
def DGet(H:Hp)(a:Addr)(y:V)(r:Option V):Prop :=
 (∃ kvs k,Rd H a (.dK kvs)/\y=kV k/\r=valV kvs k)\/∃ kvs k b,Rd H a (.dT kvs)/\y=.ref b/\H b=some (.tup (k.map kV))/\r=valV kvs k
def DPut(H:Hp)(a:Addr)(y v:V)(H':Hp):Prop :=
 (∃ kvs k,H a=some (.dK kvs)/\y=kV k/\kvs.length < sizeLine/\H'=upd H a (.dK (putK kvs k v))) \/
 ∃ kvs k b,H a=some (.dT kvs)/\y=.ref b/\H b=some (.tup (k.map kV))/\kvs.length < sizeLine/\H'=upd H a (.dT (putK kvs k v))
theorem DGet.k{H:Hp}{a:Addr}{kvs:List (Key×V)}{k:Key}(e:H a=some (.dK kvs)):DGet H a (kV k) (valV kvs k):=.inl ⟨kvs,k,.inl e,rfl,rfl⟩
theorem DPut.k{H:Hp}{a:Addr}{kvs:List (Key×V)}{k:Key}{v:V}(e:H a=some (.dK kvs))(hl:kvs.length < sizeLine):DPut H a (kV k) v (upd H a (.dK (putK kvs k v))):=.inl ⟨kvs,k,e,rfl,hl,rfl⟩
section
variable{X:Cx}{pins:List (Addr×Obj)}{σ:St}{H:Hp}{s:Shared}{a:Addr}{y v:V}{u r:Value}{o:Option V}{A:Around}{E:Value->Shared->Prop}
theorem Inv.big(I:Inv X pins σ H s):sysModules < s.heap.objs.size:=by
 have h:mainGlobals < s.heap.objs.size:=(I.mod.glob.keeps I.bk).lt
 exact Nat.lt_trans (by decide) h
theorem d_getItem{Q:Value->Shared->Prop}(hu:A.units+1 < cLine)(I:Inv X pins σ H s)(g:DGet H a y (some v))(ry:RelV y u)(h:∀ w' s',Inv X pins σ H s'->RelV v w'->Q w' s') :
 wpAny (model X.prog X.w) A (getItem (.ref a) u) Q E s:=by
 rcases g with ⟨kvs,k,e,ey,l⟩ | ⟨kvs,k,b,e,ey,eb,l⟩
 ·subst ey
  obtain⟨z,hd,vs,rel,dd⟩:=dk_rd I.hok e
  obtain⟨w',hw,rw'⟩:=RelO.some_of (v:=v) (o:=valueAt vs k) (by rw[l];exact rel.val k)
  exact wpAny_getItem_of (kV_is ry) dd.mapOf hw (h w' _ (I.tok _) rw')
 ·subst ey
  cases (show u=Value.ref b from ry)
  obtain⟨z,hd,xs,rel,dd⟩:=dt_rd I.hok e
  obtain⟨w',hw,rw'⟩:=RelO.some_of (v:=v) (o:=(atKey xs k).map (·.2)) (by rw[l];exact rel.val k)
  obtain⟨p,hp,hp2⟩:=Option.map_eq_some_iff.mp hw
  refine wpAny_getItem_heap (tupleKind_room_in1 hu) (key_of I.hok eb) dd hp ?_
  rw[hp2]
  exact h w' _ (I.tok _) rw'
theorem d_in{Q:Value->Shared->Prop}(hu:A.units+1 < cLine)(I:Inv X pins σ H s)(g:DGet H a y o)(ry:RelV y u)(h:∀ s',Inv X pins σ H s'->Q (.bool o.isSome) s') :
 wpAny (model X.prog X.w) A (compareOp .In u (.ref a)) Q E s:=by
 rcases g with ⟨kvs,k,e,ey,l⟩ | ⟨kvs,k,b,e,ey,eb,l⟩
 ·subst ey
  obtain⟨z,hd,vs,rel,dd⟩:=dk_rd I.hok e
  refine wpAny_in_of (kV_is ry) hd dd.mapOf ?_
  rw[<- (rel.val k).isSome_eq,<- l]
  exact h _ (I.tok _)
 ·subst ey
  cases (show u=Value.ref b from ry)
  obtain⟨z,hd,xs,rel,dd⟩:=dt_rd I.hok e
  refine wpAny_in_heap (tupleKind_room_in1 hu) (key_of I.hok eb) hd dd ?_
  have q:=(rel.val k).isSome_eq
  rw[Option.isSome_map]at q
  rw[<- q,<- l]
  exact h _ (I.tok _)
theorem d_notIn{Q:Value->Shared->Prop}(hu:A.units+1 < cLine)(I:Inv X pins σ H s)(g:DGet H a y o)(ry:RelV y u)(h:∀ s',Inv X pins σ H s'->Q (.bool (!o.isSome)) s') :
 wpAny (model X.prog X.w) A (compareOp .NotIn u (.ref a)) Q E s:=by
 rcases g with ⟨kvs,k,e,ey,l⟩ | ⟨kvs,k,b,e,ey,eb,l⟩
 ·subst ey
  obtain⟨z,hd,vs,rel,dd⟩:=dk_rd I.hok e
  refine wpAny_notIn_of (kV_is ry) hd dd.mapOf ?_
  rw[<- (rel.val k).isSome_eq,<- l]
  exact h _ (I.tok _)
 ·subst ey
  cases (show u=Value.ref b from ry)
  obtain⟨z,hd,xs,rel,dd⟩:=dt_rd I.hok e
  refine wpAny_notIn_heap (tupleKind_room_in1 hu) (key_of I.hok eb) hd dd ?_
  have q:=(rel.val k).isSome_eq
  rw[Option.isSome_map]at q
  rw[<- q,<- l]
  exact h _ (I.tok _)
theorem d_write{h':Heap}{t':Nat}{ob:HO}(I:Inv X pins σ H s)(mu:Mut (H a))(hs:Heap.SameBut a s.heap h')(he:∃ q,h'.get? a=some q)(new:ObjOk X.prog X.w (upd H a ob) h' a ob) :
 Inv X pins σ (upd H a ob) { s with heap:=h',toks:=t' } :=
 I.write (x:=a) (e:=a) mu (.inl rfl) (fun b q hb z=>(hs.2 b hb).trans z) he new
theorem dk_new{P:Program}{w:World}{H':Hp}{h':Heap}{kvs:List (Key×V)}{vs:List (Key×Value)}(z:kvs.length<=sizeLine)(hd:(a == sysModules)=false)(rel:KV kvs vs)(dd:h'.DictOf (mixKind P w) a vs) :
 ObjOk P w H' h' a (.dK kvs):=⟨z,hd,vs,rel,dd⟩
theorem d_setItem{H':Hp}{Q:Unit->Shared->Prop}(hu:A.units+1 < cLine)(I:Inv X pins σ H s)(g:DPut H a y v H')(ry:RelV y u)(rv:RelV v r)(h:∀ s',Inv X pins σ H' s'->Q () s') :
 wpAny (model X.prog X.w) A (setItem (.ref a) u r) Q E s:=by
 rcases g with ⟨kvs,k,e,ey,l,eH⟩ | ⟨kvs,k,b,e,ey,eb,l,eH⟩
 ·subst ey eH
  obtain⟨z,hd,vs,rel,dd⟩:=dk_of I.hok e
  have hz:vs.length<=sizeLine:=by rw[<- rel.length];exact z
  have hl:(putK kvs k v).length<=sizeLine:=by have:=length_putK kvs k v;omega
  refine wpAny_setItem_pairs (hsz:=hz) (kV_is ry) dd fun h' dd' hs=>h _ ?_
  have he:∃ q,h'.get? a=some q:=let ⟨q,_,_,hq,_⟩:=dd';⟨q,hq⟩
  exact d_write I (by rw[e];exact True.intro) hs he (dk_new hl hd (rel.put k rv) dd')
 ·subst ey eH
  cases (show u=Value.ref b from ry)
  obtain⟨z,hd,xs,rel,dd⟩:=dt_of I.hok e
  have hz:xs.length<=sizeLine:=by rw[<- Paired.length rel];exact z
  have hl:(putK kvs k v).length<=sizeLine:=by have:=length_putK kvs k v;omega
  refine wpAny_setItem_heap (hsz:=hz) (tupleKind_room_in1 hu) (key_of I.hok eb) dd fun h' dd' hs=>h _ ?_
  obtain⟨q,es,ep,hq,h2,h3,h4,_,h5⟩:=dd'
  refine d_write I (by rw[e];exact True.intro) hs ⟨q,hq⟩ ⟨hl,hd,_,(rel.put k eb rv).keeps fun c ys ec=>?_,q,es,ep,hq,h2,h3,h4,h5⟩
  rw[upd_ne (ne_of ec e (fun z=>nomatch z))]
  exact ec
end
section
variable{X:Cx}{pins:List (Addr×Obj)}{σ:St}{H:Hp}{s:Shared}{a:Addr}{kvs:List (Key×V)}{k:Key}{u:Value}{A:Around}{E:Value->Shared->Prop}
theorem d_pop{v:V}{more:List Value}{Q:Value->Shared->Prop}(I:Inv X pins σ H s)(e:H a=some (.dK kvs))(ry:RelV (kV k) u)(l:valV kvs k=some v)(hm:more=[]\/∃ x,more=[x])
 (h:∀ w' s',Inv X pins σ (upd H a (.dK (dropK kvs k))) s'->RelV v w'->Q w' s'):wpAny (model X.prog X.w) A (call (.builtin "dict.pop") (.ref a::u::more)) Q E s:=by
 obtain⟨z,hd,vs,rel,dd⟩:=dk_of I.hok e
 obtain⟨w',hw,rw'⟩:=RelO.some_of (v:=v) (o:=valueAt vs k) (by rw[<- l];exact rel.val k)
 have hp:(keyPart u).isSome=true:=by
  cases k with
  | inl i=>obtain⟨t,q⟩:=(show ∃ t,u=Value.int i t from ry);subst q;rfl
  | inr x=>obtain⟨t,q⟩:=(show ∃ t,u=Value.str x t from ry);subst q;rfl
 have ha:argsOk "dict.pop" ⟨.ref a::u::more,[]⟩:=by
  rcases hm with q | ⟨x,q⟩
  ·subst q;exact PySem.F.args_dict_pop_2 _ _
  ·subst q;exact PySem.F.args_dict_pop_3 _ _ _
 refine call_meetsIn PySem.F.slot_dict_pop dd.typeIs PySem.F.entry_dict_pop ha (meets_dict_pop_there (mixKind X.prog X.w) a (kV_is ry) more hm hp)
  ⟨vs,w',dd,by rw[<- rel.length];exact z,hw,fun h' dd' hs=>h w' _ ?_ rw'⟩
 have he:∃ q,h'.get? a=some q:=let ⟨q,_,_,hq,_⟩:=dd';⟨q,hq⟩
 exact d_write I (by rw[e];exact True.intro) hs he (dk_new (Nat.le_trans (dropK_le kvs k) z) hd (rel.drop k) dd')
end
def NoSl(i:Expr):Prop:=∀ ov iv,subscripted i false ov iv=operate [ov,iv] (getItem ov iv)
theorem subD_of{prog:Program}{w:World}{A:Around}{E:Value->Shared->Prop}{s:Shared}{env:Env}{value slice:Expr}{pos:Pos}{T id:String}{Q:Value->Shared->Prop}
 (hl:typeLookup (.type T) "__getitem__"=pure (some (.builtin id))) (hs:NoSl slice)
 (h:wpAny (model prog w) A (eval value env) (fun o s₁=>wpAny (model prog w) A (eval slice env) (fun i s₂=>s₂.TypeIs o T/\wpAny (model prog w) A (getItem o i) Q E s₂) E s₁) E s) :
 wpAny (model prog w) A (eval (.Subscript value slice pos) env) Q E s:=by
 refine Subscript_ (wpAny_mono h (fun o s₁ h₁=>wpAny_mono h₁ (fun i s₂ h₂=>?_) fun _ _ x=>x) fun _ _ x=>x)
 obtain⟨hT,h₂⟩:=h₂
 unfold subscriptTail
 refine wpAny_bind ?_
 rw[getitemInPython_of_ne hT.not_modules]
 refine wpAny_bind (wpAny_specialOf hT hl ?_)
 have fin:wpAny (model prog w) A (subscripted slice false o i) (fun r s₃=>wpAny (model prog w) A (letTemporaryGo value o r >>= fun _=>pure r) Q E s₃) E s₂:=by
  rw[hs o i]
  exact wpAny_operating (wpAny_mono h₂ (fun r s₃ h₃=>wpAny_bind (wpAny_letTemporaryGo (wpAny_pure h₃))) fun _ _ x=>x)
 first
  | exact wpAny_pure (wpAny_bind fin)
  | exact wpAny_bind (wpAny_pure (wpAny_bind fin))
  | exact wpAny_bind fin
theorem dict_typeIs{X:Cx}{pins:List (Addr×Obj)}{σ:St}{H:Hp}{s:Shared}{a:Addr}{y:V}{o:Option V}(I:Inv X pins σ H s)(g:DGet H a y o):s.TypeIs (.ref a) "dict":=by
 rcases g with ⟨kvs,k,e,_,_⟩ | ⟨kvs,k,b,e,_,_,_⟩
 ·obtain⟨_,_,vs,_,dd⟩:=dk_rd I.hok e
  exact dd.typeIs
 ·obtain⟨_,_,xs,_,dd⟩:=dt_rd I.hok e
  exact dd.typeIs
def tDGet(td ty:TE):TE:=fun σ H Q=>td σ H fun x H1=>ty σ H1 fun y H2=>∃ a v,x=.ref a/\DGet H2 a y (some v)/\Q v H2
def tDIn(ty td:TE):TE:=fun σ H Q=>ty σ H fun y H1=>td σ H1 fun x H2=>∃ a o,x=.ref a/\DGet H2 a y o/\Q (.bl o.isSome) H2
def tDNotIn(ty td:TE):TE:=fun σ H Q=>ty σ H fun y H1=>td σ H1 fun x H2=>∃ a o,x=.ref a/\DGet H2 a y o/\Q (.bl (!o.isSome)) H2
def sDPut(td ty tv:TE):TS:=fun D σ H=>tv σ H fun v H1=>td σ H1 fun x H2=>ty σ H2 fun y H3=>∃ a H4,x=.ref a/\DPut H3 a y v H4/\D.nx σ H4
section
variable{X:Cx}{o i e value:Expr}{pos pos' tpos:Pos}{td ty tv:TE}
theorem pe_dget(hu:X.A.units+1 < cLine)(ho:PE X o td)(hi:PE X i ty)(hs:NoSl i):PE X (.Subscript o i pos) (tDGet td ty):=by
 intro pins s σ H Q I h
 refine subD_of PySem.F.slot_dict_getitem.lookup hs (thn (ho pins s σ H _ I h) fun u s1 ⟨x,H1,I1,rx,q1⟩=>thn (hi pins s1 σ H1 _ I1 q1) fun iv s2 ⟨y,H2,I2,ry,a,v,ex,g,q2⟩=>?_)
 subst ex
 obtain rfl:u=Value.ref a:=rx
 exact⟨dict_typeIs I2 g,d_getItem hu I2 g ry fun w' s3 I3 rw'=>⟨v,H2,I3,rw',q2⟩⟩
theorem pc_din(hu:X.A.units+1 < cLine)(hi:PE X i ty)(ho:PE X o td):PC X .In i o (tDIn ty td):=by
 intro pins s σ H Q I h
 refine thn (hi pins s σ H _ I h) fun iv s1 ⟨y,H1,I1,ry,q1⟩=>thn (ho pins s1 σ H1 _ I1 q1) fun u s2 ⟨x,H2,I2,rx,a,ov,ex,g,q2⟩=>?_
 subst ex
 obtain rfl:u=Value.ref a:=rx
 exact d_in hu I2 g ry fun s3 I3=>⟨.bl ov.isSome,H2,I3,rfl,q2⟩
theorem pc_dnotin(hu:X.A.units+1 < cLine)(hi:PE X i ty)(ho:PE X o td):PC X .NotIn i o (tDNotIn ty td):=by
 intro pins s σ H Q I h
 refine thn (hi pins s σ H _ I h) fun iv s1 ⟨y,H1,I1,ry,q1⟩=>thn (ho pins s1 σ H1 _ I1 q1) fun u s2 ⟨x,H2,I2,rx,a,ov,ex,g,q2⟩=>?_
 subst ex
 obtain rfl:u=Value.ref a:=rx
 exact d_notIn hu I2 g ry fun s3 I3=>⟨.bl (!ov.isSome),H2,I3,rfl,q2⟩
theorem ps_dput(hu:X.A.units+1 < cLine)(ho:PE X o td)(hi:PE X i ty)(hv:PE X value tv)(hs:swapsWith value (some (.Subscript o i pos')) pos.line X.env=pure false) :
 PS X (.Assign [.Subscript o i pos'] value pos) (sDPut td ty tv):=by
 intro pins s σ H D I h
 refine wpAny_Assign_Subscript (thn (hv pins s σ H _ I h) fun r s1 ⟨v,H1,I1,rv,q1⟩=>thn (ho pins s1 σ H1 _ I1 q1) fun u s2 ⟨x,H2,I2,rx,q2⟩=>thn (hi pins s2 σ H2 _ I2 q2) fun iv s3 ⟨y,H3,I3,ry,a,H4,ex,g,q3⟩=>?_) hs
 subst ex
 obtain rfl:u=Value.ref a:=rx
 exact d_setItem hu I3 g ry rv fun s4 I4=>⟨σ,H4,I4,q3⟩
end
theorem dk_empty{P:Program}{w:World}{H:Hp}(h:Heap)(hb:sysModules < h.objs.size):ObjOk P w H (h.push { cls:=.type "dict",data:=.dict #[] }) h.objs.size (.dK []) :=
 ⟨Nat.zero_le _,beq_eq_false_iff_ne.mpr (Ne.symm (Nat.ne_of_lt hb)),[],.nil,Heap.DictOf.new h⟩
def tDNewK:TE:=fun _ H Q=>∀ p,H p=none->Q (.ref p) (upd H p (.dK []))
section
variable{X:Cx}{pos:Pos}
theorem pe_dnewK:PE X (.Dict [] [] pos) tDNewK:=fun pins s σ H Q I h =>
 wpAny_Dict_empty ⟨.ref s.heap.objs.size,_,I.laid (a:=s.heap.objs.size) (o:=.dK []) (t':=s.toks) (fun _ _ q=>Heap.get?_push_of_some _ q) (Nat.le_refl _) (dk_empty s.heap I.big),rfl,h _ (I.hok.fresh (Nat.le_refl _))⟩
end
structure M1(X:Cx)(o:Expr)(m:Str)(apos:Pos)(e:Expr)(cpos:Pos):Prop where
 base:attributeBase o m X.env (eval o X.env)=eval o X.env
 few:((backTo cpos (starEach [e] X.env)).all (fun x=>!x.1) && (backToKw cpos (keywordEach [] X.env)).all (fun x=>x.1.isSome)
  && decide (([e]:List Expr).length+([]:List Keyword).length+(if ([]:List Keyword).isEmpty then 0 else 1) < 30))=true
 line:(apos.endLine == cpos.line)=true
 trees:backTo cpos (starEach [e] X.env)=[(false,eval e X.env)]
def IsD(H:Hp)(a:Addr):Prop:=(∃ kvs,Rd H a (.dK kvs))\/∃ kvs,Rd H a (.dT kvs)
theorem isD_at{X:Cx}{pins:List (Addr×Obj)}{σ:St}{H:Hp}{s:Shared}{a:Addr}(I:Inv X pins σ H s)(d:IsD H a) :
 s.TypeIs (.ref a) "dict"/\(∀ b,Value.ref a=.ref b->∃ ob,s.heap.get? b=some ob/\ob.dict=none)/\(a == sysModules)=false:=by
 rcases d with ⟨kvs,e⟩ | ⟨kvs,e⟩
 ·obtain⟨_,hd,vs,_,dd⟩:=dk_rd I.hok e
  refine⟨dd.typeIs,fun b q=>?_,hd⟩
  cases q
  obtain⟨ob,_,_,h1,h2,_⟩:=dd
  exact⟨ob,h1,h2.2.1⟩
 ·obtain⟨_,hd,xs,_,dd⟩:=dt_rd I.hok e
  refine⟨dd.typeIs,fun b q=>?_,hd⟩
  cases q
  obtain⟨ob,_,_,h1,h2,_⟩:=dd
  exact⟨ob,h1,h2.2.1⟩
section
variable{X:Cx}{pins:List (Addr×Obj)}{σ:St}{H:Hp}{s:Shared}{a:Addr}{y d:V}{u r:Value}{o:Option V}{A:Around}{E:Value->Shared->Prop}
theorem d_get1{Q:Value->Shared->Prop}(hu:A.units+1 < cLine)(I:Inv X pins σ H s)(g:DGet H a y o)(ry:RelV y u)(h:∀ w' s',Inv X pins σ H s'->RelV (o.getD .non) w'->Q w' s') :
 wpAny (model X.prog X.w) A (call (.builtin "dict.get") [.ref a,u]) Q E s:=by
 rcases g with ⟨kvs,k,e,ey,l⟩ | ⟨kvs,k,b,e,ey,eb,l⟩
 ·subst ey
  obtain⟨z,hd,vs,rel,dd⟩:=dk_rd I.hok e
  refine call_meetsIn PySem.F.slot_dict_get dd.typeIs PySem.F.entry_dict_get (PySem.F.args_dict_get_2 _ _) (meets_dict_get (mixKind X.prog X.w) a (kV_is ry) hd) ⟨_,dd.mapOf,h _ _ (I.tok _) ?_⟩
  rw[l]
  exact(rel.val k).getD rfl
 ·subst ey
  cases (show u=Value.ref b from ry)
  obtain⟨z,hd,xs,rel,dd⟩:=dt_rd I.hok e
  refine call_meetsIn PySem.F.slot_dict_get dd.typeIs PySem.F.entry_dict_get (PySem.F.args_dict_get_2 _ _) (meetsH_dict_get (tupleKind (mixKind X.prog X.w)) a b hd) ⟨tupleKind_room_in1 hu,k,xs,key_of I.hok eb,dd,h _ _ (I.tok _) ?_⟩
  rw[l]
  exact(rel.val k).getD rfl
end
def tDGet1(td ty:TE):TE:=fun σ H Q=>td σ H fun x H1=>∃ a,x=.ref a/\IsD H1 a/\ty σ H1 fun y H2=>∃ o,DGet H2 a y o/\Q (o.getD .non) H2
def tDPop1(td ty:TE):TE:=fun σ H Q=>td σ H fun x H1=>∃ a,x=.ref a/\IsD H1 a/\ty σ H1 fun y H2=>∃ kvs k v,H2 a=some (.dK kvs)/\y=kV k/\valV kvs k=some v/\Q v (upd H2 a (.dK (dropK kvs k)))
section
variable{X:Cx}{o e f:Expr}{apos cpos:Pos}{td ty tx:TE}
theorem pe_dget1(hu:X.A.units+1 < cLine)(ho:PE X o td)(he:PE X e ty)(m:M1 X o "get" apos e cpos):PE X (.Call (.Attribute o "get" apos) [e] [] cpos) (tDGet1 td ty):=by
 intro pins s σ H Q I h
 refine wpAny_Call_method m.base m.few m.line PySem.F.plainAttrs_dict PySem.F.slot_dict_get PySem.F.type_dict_get (thn (ho pins s σ H _ I h) fun u s1 ⟨x,H1,I1,rx,a,ex,d,q1⟩=>?_)
 subst ex
 obtain rfl:u=Value.ref a:=rx
 obtain⟨t1,t2,_⟩:=isD_at I1 d
 refine⟨t1,t2,?_⟩
 rw[m.trees]
 refine Calls.callWith_builtin rfl (Calls.evalArgs_plain (Calls.spliced_cons (thn (he pins s1 σ H1 _ I1 q1) fun iv s2 ⟨y,H2,I2,ry,ov,g,q2⟩=>Calls.spliced_nil ?_)))
 exact d_get1 hu I2 g ry fun w' s3 I3 rw'=>⟨_,H2,I3,rw',q2⟩
theorem pe_dpop1(ho:PE X o td)(he:PE X e ty)(m:M1 X o "pop" apos e cpos):PE X (.Call (.Attribute o "pop" apos) [e] [] cpos) (tDPop1 td ty):=by
 intro pins s σ H Q I h
 refine wpAny_Call_method m.base m.few m.line PySem.F.plainAttrs_dict PySem.F.slot_dict_pop PySem.F.type_dict_pop (thn (ho pins s σ H _ I h) fun u s1 ⟨x,H1,I1,rx,a,ex,d,q1⟩=>?_)
 subst ex
 obtain rfl:u=Value.ref a:=rx
 obtain⟨t1,t2,_⟩:=isD_at I1 d
 refine⟨t1,t2,?_⟩
 rw[m.trees]
 refine Calls.callWith_builtin rfl (Calls.evalArgs_plain (Calls.spliced_cons (thn (he pins s1 σ H1 _ I1 q1) fun iv s2 ⟨y,H2,I2,ry,kvs,k,v,ea,ey,l,q2⟩=>Calls.spliced_nil ?_)))
 subst ey
 exact d_pop I2 ea ry l (.inl rfl) fun w' s3 I3 rw'=>⟨v,_,I3,rw',q2⟩
end
section
variable{X:Cx}{pins:List (Addr×Obj)}{σ:St}{H:Hp}{s:Shared}{a:Addr}{kvs:List (Key×V)}{A:Around}{E:Value->Shared->Prop}
end
section
variable{X:Cx}{pins:List (Addr×Obj)}{σ:St}{H:Hp}{s:Shared}{a:Addr}{y:V}{u:Value}{A:Around}{E:Value->Shared->Prop}
end
end L2
namespace Att
open PySem PySem.W PySem.Calls PyProof.Rows
section
variable{prog:Program}{w:World}{A:Around}{E:Value->Shared->Prop}{s:Shared}{K:Frag}
end
end Att
namespace L2
open PySem PySem.Spec PyProof.Rows
end L2
namespace L2
open PySem PySem.Spec PyProof.Rows
end L2
namespace L2
open PySem PySem.Spec PyProof.Rows
section
variable{P:Program}{w:World}{K:PySem.W.Frag}{mg:Str->Option Value}{base:Heap}
end
section
variable{X:Cx}
end
section
variable{κ:Type}[DecidableEq κ]
end
end L2
end
section
namespace L2
open PySem PySem.Spec PyProof.Rows
theorem relabel_lookup(env:Env):∀ (l:List (Str×NameKind)) (x:Str),
 (l.map fun(n,k)=>if (k == NameKind.free && env.scope.kind == .function && env.kindOf n == some .cell) then (n,NameKind.cell) else (n,k)).lookup x
  = (l.lookup x).map fun k=>if (k == NameKind.free && env.scope.kind == .function && env.kindOf x == some .cell) then NameKind.cell else k
 | [],_=>rfl
 | (n,k)::r,x=>by
  have ih:=relabel_lookup env r x
  show List.lookup x ((if (k == NameKind.free && env.scope.kind == .function && env.kindOf n == some .cell)=true then (n,NameKind.cell) else (n,k))::_)=_
  cases hx:x == n with
  | true =>
   have e:x=n:=by simpa using hx
   subst e
   by_cases hc:(k == NameKind.free && env.scope.kind == .function && env.kindOf x == some .cell)=true
   ·rw[if_pos hc];simp only[List.lookup_cons,hx,Option.map_some,hc,if_true]
   ·rw[if_neg hc];simp only[List.lookup_cons,hx,Option.map_some,if_neg hc]
  | false =>
   by_cases hc:(k == NameKind.free && env.scope.kind == .function && env.kindOf n == some .cell)=true
   ·rw[if_pos hc];simp only[List.lookup_cons,hx];exact ih
   ·rw[if_neg hc];simp only[List.lookup_cons,hx];exact ih
theorem closure_go{env:Env}:∀ (l:List (Str×NameKind)) (acc:List (Str×Addr)),(∀ y∈l,y.2=.free->∃ c,env.cells.lookup y.1=some c)->(∀ y c,acc.lookup y=some c->env.cells.lookup y=some c) ->
 ∃ cl,(forIn l acc fun x (cs:List (Str×Addr))=>(if (x.2 == NameKind.free)=true then (do let a <- cellOf env x.1;pure (ForInStep.yield ((x.1,a)::cs))) else pure (ForInStep.yield cs):Sem (ForInStep (List (Str×Addr)))))=pure cl/\(∀ y c,cl.lookup y=some c->env.cells.lookup y=some c)/\(∀ y c,acc.lookup y=some c->∃ c',cl.lookup y=some c') /\
  ∀ y∈l,y.2=.free->∃ c,cl.lookup y.1=some c
 | [],acc,_,h2=>⟨acc,rfl,h2,fun _ c h=>⟨c,h⟩,fun _ h=>nomatch h⟩
 | (n,k)::r,acc,h1,h2=>by
  by_cases hk:k=.free
  ·subst hk
   obtain⟨c,hc⟩:=h1 (n,.free) List.mem_cons_self rfl
   have h2':∀ y c',((n,c)::acc).lookup y=some c'->env.cells.lookup y=some c':=fun y c' h=>by
    rw[List.lookup_cons]at h
    cases hy:y == n with
    | true=>rw[hy]at h;have e:y=n:=by simpa using hy
            subst e;cases h;exact hc
    | false=>rw[hy]at h;exact h2 y c' h
   obtain⟨cl,e,q1,q2,q3⟩:=closure_go r ((n,c)::acc) (fun y hy=>h1 y (List.mem_cons_of_mem _ hy)) h2'
   refine⟨cl,?_,q1,fun y c' h=>?_,fun y hy hf=>?_⟩
   ·rw[List.forIn_cons]
    simp only[beq_self_eq_true,if_true]
    unfold cellOf
    rw[hc]
    exact e
   ·cases hy:y == n with
    | true=>exact q2 y c (by rw[List.lookup_cons,hy])
    | false=>exact q2 y c' (by rw[List.lookup_cons,hy];exact h)
   ·rcases List.mem_cons.mp hy with e' | hy
    ·subst e'
     exact q2 n c (by simp[List.lookup_cons])
    ·exact q3 y hy hf
  ·have hb:(k == NameKind.free)=false:=by simpa using hk
   obtain⟨cl,e,q1,q2,q3⟩:=closure_go r acc (fun y hy=>h1 y (List.mem_cons_of_mem _ hy)) h2
   refine⟨cl,?_,q1,q2,fun y hy hf=>?_⟩
   ·rw[List.forIn_cons]
    simp only[hb,Bool.false_eq_true,if_false]
    exact e
   ·rcases List.mem_cons.mp hy with e' | hy
    ·subst e';exact absurd hf hk
    ·exact q3 y hy hf
theorem closure_ok(env:Env)(sc:Scope)(h:∀ y∈sc.names,y.2=.free->∃ c,env.cells.lookup y.1=some c) :
 ∃ cl,closureFor sc env=pure cl/\(∀ y c,cl.lookup y=some c->env.cells.lookup y=some c)/\∀ y∈sc.names,y.2=.free->∃ c,cl.lookup y.1=some c:=by
 obtain⟨cl,e,q1,_,q3⟩:=closure_go (env:=env) sc.names [] h (fun y c z=>by simp at z)
 refine⟨cl,?_,q1,q3⟩
 unfold closureFor
 rw[<- e]
 simp only[bind_pure]
def blk(X:Cx)(sc:Scope)(x:Str)(M:List Str)(cl:List (Str×Addr))(C:Addr)(s:Shared)(H:Hp)(fp:List Addr):Cx :=
 { X with N:=x::M,s₀:=s,H₀:=H,env:=compEnvC sc cl C X.env,outer:=X.stack,ex:=fp,fn:=fun _=>false,pn:=[],xe:=fun _ _=>False }
structure BlkOk(X:Cx)(sc:Scope)(x:Str)(M:List Str):Prop where
 kind:sc.kind=.function
 nocell:∀ y∈sc.names,y.2≠.cell
 names:∀ y∈sc.names,y.2=.local->sc.names.lookup y.1=some .local
 own:sc.names.lookup x=some .local
 nd:(x::M).Nodup
 len:M.length=X.N.length
 free:∀ y∈sc.names,y.2=.free->X.env.kindOf y.1=some .cell\/X.env.kindOf y.1=some .free
 same:∀ (i:Nat) (y:Str),M[i]?=some y->sc.names.lookup y=some .free->X.N[i]?=some y
 noloc:∀ y∈M,sc.names.lookup y≠some .local
section
variable{X:Cx}
theorem Inv.toBlk{pins:List (Addr×Obj)}{σ:St}{H:Hp}{s:Shared}{sc:Scope}{x:Str}{M:List Str}{cl:List (Str×Addr)}{fp:List Addr}{h₁:Heap}{tk:Nat}
 (I:Inv X pins σ H s) (B:BlkOk X sc x M) (q1:∀ y c,cl.lookup y=some c->X.env.cells.lookup y=some c) (q3:∀ y∈sc.names,y.2=.free->∃ c,cl.lookup y.1=some c)
 (fpk:∀ b∈fp,FpOk X pins H b) (fpl:∀ b∈fp,b < s.heap.objs.size) {m:Str->Option Value} (hn:h₁.Ns s.heap.objs.size m) (keep:∀ b o,s.heap.get? b=some o->h₁.get? b=some o) :
 Inv (blk X sc x M cl s.heap.objs.size s H fp) [] (none::σ) H { s with heap:=h₁,toks:=tk }:=by
 have kindOf':∀ y,(blk X sc x M cl s.heap.objs.size s H fp).env.kindOf y=(sc.names.lookup y).map fun k=>if (k == NameKind.free && X.env.scope.kind == .function && X.env.kindOf y == some .cell) then NameKind.cell else k:=fun y=>relabel_lookup X.env sc.names y
 have isfree:∀ y,((blk X sc x M cl s.heap.objs.size s H fp).env.kindOf y=some .cell\/(blk X sc x M cl s.heap.objs.size s H fp).env.kindOf y=some .free)->sc.names.lookup y=some .free:=fun y hy=>by
  rw[kindOf']at hy
  cases e:sc.names.lookup y with
  | none=>rw[e]at hy;simp at hy
  | some k =>
   rw[e]at hy
   by_cases hk:k=.free
   ·rw[hk]
   ·exfalso
    have hb:(k == NameKind.free)=false:=by simpa using hk
    simp only[hb,Bool.false_and,Option.map_some,Bool.false_eq_true,if_false,Option.some.injEq]at hy
    rcases hy with z | z
    ·exact B.nocell (y,k) (PySem.mem_of_lookup e) z
    ·exact hk z
 have ncell:∀ y c,X.env.cells.lookup y=some c->c < s.heap.objs.size:=fun y c e=>by
  obtain⟨v,o,ho,_⟩:=I.cell y c e
  exact Heap.lt_size ho
 have below:∀ b∈fp,FpOk X pins H b:=fpk
 refine⟨⟨I.ok.mod,B.kind,I.ok.glob,I.ok.blt,Nat.le_refl _,fun y z c h1 h2=>I.ok.inj y z c (q1 y c h1) (q1 z c h2),fun y hy=>q3 _ (PySem.mem_of_lookup (isfree y hy)) rfl,fun y c h _=>absurd (show false=true from h) Bool.false_ne_true,I.ok.hd,I.ok.frames,.inl rfl,
  fun b hb=>?_,I.bs,Nat.le_trans I.ok.bsz I.sz,fun b o e hb=>?_,fun b hb z=>?_,I.stack,I.stkFree⟩,rfl,I.bare,Un.kept keep,⟨_,hn,fun i y v e1 e2 e3=>?_⟩,fun y c h=>?_,I.hok.fresh (Nat.le_refl _),fun y c h=>I.freeC y c (q1 y c h),fun p hp=>absurd (show p∈([]:List (Addr×Obj)) from hp) (by simp),I.hok.kept keep,?_⟩
 ·exact⟨Nat.ne_of_lt (fpl b hb),fun y c h=>(fpk b hb).2.2.2.2.1 y c (q1 y c h)⟩
 ·rcases(fpk b hb).2.2.2.1 with z | z
  ·exact I.ok.noex b o e z
  ·exact absurd (Nat.lt_of_lt_of_le (Heap.lt_size e) (Nat.le_trans I.ok.bsz z)) (Nat.lt_irrefl _)
 ·rcases List.mem_cons.mp (I.stkSub b z) with e | z
  ·exact(fpk b hb).2.1 e
  ·exact(fpk b hb).2.2.1 z
 ·cases i with
  | zero=>simp at e2
  | succ i =>
   have e1':M[i]?=some y:=e1
   have e2':σ[i]?=some (some v):=e2
   have hy:sc.names.lookup y=some .free:=by
    rcases e3 with z | z | z
    ·exfalso
     have z':(blk X sc x M cl s.heap.objs.size s H fp).env.kindOf y=some .local:=z
     rw[kindOf']at z'
     cases e:sc.names.lookup y with
     | none=>rw[e]at z';simp at z'
     | some k =>
      rw[e]at z'
      simp only[Option.map_some,Option.some.injEq]at z'
      split at z'
      ·cases z'
      ·subst z'
       exact B.noloc y (List.mem_of_getElem? e1') e
    ·exact isfree y (.inl z)
    ·exact isfree y (.inr z)
   have hk:=B.free _ (PySem.mem_of_lookup hy) rfl
   obtain⟨m0,hn0,hl⟩:=I.loc
   obtain⟨u,r,l⟩:=hl i y v (B.same i y e1' hy) e2' (hk.elim (fun z=>.inr (.inl z)) fun z=>.inr (.inr z))
   refine⟨u,r,.inr ⟨?_,?_⟩⟩
   ·rcases e3 with z | z | z
    ·exfalso
     have z':(blk X sc x M cl s.heap.objs.size s H fp).env.kindOf y=some .local:=z
     rw[kindOf',hy]at z'
     simp only[Option.map_some,Option.some.injEq]at z'
     split at z' <;> cases z'
    ·exact .inl z
    ·exact .inr z
   ·rcases l with ⟨k,_⟩ | ⟨_,c,e,hc⟩
    ·rcases hk with z | z <;> (have z':X.env.kindOf y=_:=z;rw[k]at z';cases z')
    ·obtain⟨c',e'⟩:=q3 _ (PySem.mem_of_lookup hy) rfl
     have e'':=q1 y c' e'
     rw[e]at e'';cases e''
     obtain⟨o,ho,hd⟩:=hc
     exact⟨c,e',o,keep c o ho,hd⟩
 ·obtain⟨v,o,ho,hd⟩:=I.cell y c (q1 y c h)
  exact⟨v,o,keep c o ho,hd⟩
 ·show(none::σ).length=(x::M).length
  rw[List.length_cons,List.length_cons,I.len,B.len]
end
def PIfs(X:Cx)(ifs:List Expr)(t:TT):Prop :=
 ∀ (pins:List (Addr×Obj)) (s:Shared) (σ:St) (H:Hp) (Q:Bool->Hp->Prop),Inv X pins σ H s->t σ H Q ->
  wpAny (model X.prog X.w) X.A (forIn ifs true fun c r=>if r=true then do let ok <- isTrue c X.env (eval c X.env);pure (ForInStep.yield ok) else pure (ForInStep.yield r)) (TP X pins σ Q) X.xe s
def tYes:TT:=fun _ H Q=>Q true H
theorem pif_nil{X:Cx}:PIfs X [] tYes:=fun _ _ _ H _ I h=>wpAny_tests_nil ⟨H,I,h⟩
theorem pif_one{X:Cx}{c:Expr}{t:TT}(h:PT X c t):PIfs X [c] t:=fun pins s σ H Q I q=>wpAny_tests_one (h pins s σ H Q I q)
section
variable{prog:Program}{w:World}{A:Around}{E:Value->Shared->Prop}{R:Result->Shared->Prop}{s:Shared}
theorem compLoop_go{elt target iter:Expr}{ifs:List Expr}{scope:Scope}{pos:Pos}{it acc:Value}{env:Env}(I:Nat->Shared->Prop)
 (turn:∀ n s,I n s->wpAny (model prog w) A (pyNext it) (fun r s₁=>match r with
  | none=>R (.ok .next) s₁
  | some v=>wpAny (model prog w) A (letOwnedTupleGo target it v) (fun _ s₁=>wpAny (model prog w) A (assign target env v) (fun _ s₂ =>
   wpAny (model prog w) A (forIn ifs true fun c r=>if r=true then do let ok <- isTrue c env (eval c env);pure (ForInStep.yield ok) else pure (ForInStep.yield r)) (fun ok s₃ =>
    if ok=true then wpAny (model prog w) A (eval elt env) (fun x s₄ =>
     wpAny (model prog w) A (call (.builtin "list.append") [acc,x]) (fun _ s₅=>∃ m,m < n/\I m s₅) (fun _ _=>False) s₄) (fun _ _=>False) s₃
    else ∃ m,m < n/\I m s₃) (fun _ _=>False) s₂) (fun _ _=>False) s₁) (fun _ _=>False) s₁) (fun _ _=>False) s)
 (n:Nat) (h:I n s) :
 codeAny (model prog w) A (.compLoop (.ListComp elt [⟨target,iter,ifs,0⟩] scope pos) 0 it acc env) R s:=by
 refine codeAny_loop rfl I (fun n s hI=>?_) n h
 show wpAny _ A ((compTurn (.ListComp elt [⟨target,iter,ifs,0⟩] scope pos) 0 it acc env).onRaise (fun x=>do noteFrame x env;theTreesLotGoes x)) _ _ s
 refine wpAny_noted ?_
 rw[compTurn_list]
 refine wpAny_bind (wpAny_standAt (wpAny_bind (wpAny_mono (turn n s hI) (fun r s₁ h₁=>?_) fun _ _ h'=>h'.elim)))
 cases r with
 | none=>exact wpAny_pure h₁
 | some v =>
  refine wpAny_bind (wpAny_mono h₁ (fun _ s₁ h₁=>?_) fun _ _ h'=>h'.elim)
  refine wpAny_bind (wpAny_mono h₁ (fun _ s₂ h₂=>wpAny_bind (wpAny_mono h₂ (fun ok s₃ h₃=>?_) fun _ _ h'=>h'.elim)) fun _ _ h'=>h'.elim)
  cases ok with
  | false=>exact wpAny_pure ⟨rfl,h₃⟩
  | true =>
   exact wpAny_bind (wpAny_bind (wpAny_mono h₃ (fun x s₄ h₄=>wpAny_bind (wpAny_mono h₄ (fun _ s₅ h₅=>wpAny_pure (wpAny_pure ⟨rfl,h₅⟩)) fun _ _ h'=>h'.elim)) fun _ _ h'=>h'.elim))
end
def tLc(wi:TI)(tt:TT)(te:TE):TE:=fun σ H Q=>wi σ H fun J H1=>∀ D,H1 D=none->∃ W:Nat->Nat->List V->Hp->Prop,(∃ m,W 0 m [] (upd H1 D (.lst [])))/\∀ i m ys H,W i m ys H ->
 H D=some (.lst ys)/\((J.stop i H/\Q (.ref D) H)\/(J.go i H/\ys.length < sizeLine/\∀ x H',J.yld i H x H'->tt (some x::σ) H' fun b H2=>if b=true then te (some x::σ) H2 fun v H3 =>
  H3 D=some (.lst ys)/\∃ m',m' < m/\W (i+1) m' (ys++[v]) (upd H3 D (.lst (ys++[v]))) else ∃ m',m' < m/\W (i+1) m' ys H2))
section
variable{X:Cx}
theorem lcomp_core{sc:Scope}{x:Str}{px pos:Pos}{iter elt:Expr}{ifs:List Expr}{M:List Str}{wi:TI}{tt:TT}{te:TE}{cl:List (Str×Addr)}{RR:Value->Addr->Result->Shared->Prop}{pins:List (Addr×Obj)}{s:Shared}{σ:St}{H:Hp}{Q:VK}
 (hc:X.calm=true) (B:BlkOk X sc x M) (hi:PI X (.Name x px) iter wi) (ht:∀ C s H fp,PIfs (blk X sc x M cl C s H fp) ifs tt) (he:∀ C s H fp,PE (blk X sc x M cl C s H fp) elt te)
 (q1:∀ y c,cl.lookup y=some c->X.env.cells.lookup y=some c) (q3:∀ y∈sc.names,y.2=.free->∃ c,cl.lookup y.1=some c)
 (I:Inv X pins σ H s) (h:tLc wi tt te σ H Q)
 (hRR:∀ (D C:Addr) (s':Shared) (m:Str->Option Value) (H':Hp),Inv X pins σ H' s'->s'.heap.Ns C m->FpOk X pins H' C->Q (.ref D) H'->RR (.ref D) C (.ok .next) s') :
 wpAny (model X.prog X.w) X.A (eval iter X.env) (fun xv s₁=>wpAny (model X.prog X.w) X.A (pyIter xv) (fun it s₂=>wpAny (model X.prog X.w) X.A (newList []) (fun acc s₃ =>
  wpAny (model X.prog X.w) X.A (newFunctionEnv sc X.env.globals cl [] X.env.qual none .none (some X.env)) (fun cenv s₄ =>
   codeAny (model X.prog X.w) X.A (.compStart (.ListComp elt [⟨.Name x px,iter,ifs,0⟩] sc pos) 0 it acc { cenv with scope:=relabel sc X.env }) (RR acc cenv.locals) s₄) X.xe s₃) X.xe s₂) X.xe s₁) X.xe s:=by
 refine thn (hi pins s σ H _ I h) fun v s1 h1=>thn h1 fun itv s2 h2=>?_
 obtain⟨it,fp,tn,J,H2,rfl,I2,T,st2,f2,q2⟩:=h2
 refine wpAny_newObj_type (wpAny_newFunctionEnv B.nocell (by intro y hy;simp at hy) (fun h₁ hns₁ hsb₁=>?_) B.kind)
 dsimp only at hns₁ hsb₁ ⊢
 obtain⟨W,⟨m0,w0⟩,turn⟩:=q2 s2.heap.objs.size I2.fresh
 have I3:Inv X pins σ (upd H2 s2.heap.objs.size (.lst [])) { s2 with heap:=s2.heap.push { cls:=.type "list",data:=.seq ([]:List Value).toArray },toks:=s2.toks }:=I2.lnew .nil (Nat.zero_le _)
 generalize hs3:({ s2 with heap:=s2.heap.push { cls:=.type "list",data:=.seq ([]:List Value).toArray },toks:=s2.toks }:Shared)=s3 at I3
 have eh:s2.heap.push { cls:=.type "list",dict:=none,data:=.seq ([]:List Value).toArray }=s3.heap:=by rw[<- hs3]
 have fpl:∀ b∈fp,b < s2.heap.objs.size:=fun b hb=>by
  obtain⟨o,e,_⟩:=T.obj _ _ st2 b hb
  exact Heap.lt_size e
 have sz:s3.heap.objs.size=s2.heap.objs.size+1:=by rw[<- eh,Heap.size_push]
 have fpl3:∀ b∈fp,b < s3.heap.objs.size:=fun b hb=>by rw[sz];exact Nat.lt_succ_of_lt (fpl b hb)
 have fp3:∀ b∈fp,FpOk X pins (upd H2 s2.heap.objs.size (.lst [])) b:=fun b hb=>⟨by rw[upd_ne (Nat.ne_of_lt (fpl b hb))];exact(f2 b hb).1,(f2 b hb).2⟩
 rw[eh]at hns₁ hsb₁ ⊢
 have keep:∀ b o,s3.heap.get? b=some o->h₁.get? b=some o:=fun b o e=>hsb₁.extBut b o (Nat.ne_of_lt (Heap.lt_size e)) (Heap.get?_push_of_some _ e)
 have IB:=I3.toBlk (tk:=s2.toks+([]:List (Str×Value)).length) B q1 q3 fp3 fpl3 hns₁ keep
 have st4:tn 0 h₁:=T.keep _ _ _ st2 fun b hb o e=>keep b o (by rw[<- eh];exact Heap.get?_push_of_some _ e)
 have es:({ s3 with heap:=h₁,toks:=s2.toks+([]:List (Str×Value)).length }:Shared)={ s2 with heap:=h₁,toks:=s2.toks+([]:List (Str×Value)).length }:=by rw[<- hs3]
 rw[es]at IB
 have hx':(blk X sc x M cl s3.heap.objs.size s3 (upd H2 s2.heap.objs.size (.lst [])) fp).env.scope.names.lookup x=some .local:=lookup_relabel_local B.own
 have hg:PG (blk X sc x M cl s3.heap.objs.size s3 (upd H2 s2.heap.objs.size (.lst [])) fp) (.Name x px) (gName 0):=pg_name B.nd rfl (.inl hx') (.inr hx')
 have he':=he s3.heap.objs.size s3 (upd H2 s2.heap.objs.size (.lst [])) fp
 have ht':=ht s3.heap.objs.size s3 (upd H2 s2.heap.objs.size (.lst [])) fp
 have loop:∀ s₄:Shared,s₄={ s2 with heap:=h₁,toks:=s2.toks+([]:List (Str×Value)).length } ->
  codeAny (model X.prog X.w) X.A (.compLoop (.ListComp elt [⟨.Name x px,iter,ifs,0⟩] sc pos) 0 (.ref it) (.ref s2.heap.objs.size) (compEnvC sc cl s3.heap.objs.size X.env)) (RR (.ref s2.heap.objs.size) s3.heap.objs.size) s₄:=by
  rintro s₄ rfl
  refine compLoop_go (fun n s'=>∃ i ys o H',Inv (blk X sc x M cl s3.heap.objs.size s3 (upd H2 s2.heap.objs.size (.lst [])) fp) [] (o::σ) H' s'/\tn i s'.heap/\(∀ b∈fp,H' b=none)/\W i n ys H') ?_ m0
   ⟨0,[],none,_,IB,st4,fun b hb=>(fp3 b hb).1,w0⟩
  rintro n s' ⟨i,ys,o,H',I',st',fr',w'⟩
  have fpB:∀ {H':Hp} {pl:List (Addr×Obj)},(∀ b∈fp,H' b=none)->∀ b∈fp,FpOk (blk X sc x M cl s3.heap.objs.size s3 (upd H2 s2.heap.objs.size (.lst [])) fp) [] H' b:=fun {H' pl} hn b hb =>
   ⟨hn b hb,Nat.ne_of_lt (fpl3 b hb),fun z=>I'.ok.exfs b hb z,.inl hb,fun y c hy=>(fp3 b hb).2.2.2.2.1 y c (q1 y c hy),fun p hp=>absurd (show p∈([]:List (Addr×Obj)) from hp) (by simp)⟩
  obtain⟨hD,⟨stop,q⟩ | ⟨go,hlen,step⟩⟩:=turn i n ys H' w'
  ·refine wpAny_mono (T.done (blk X sc x M cl s3.heap.objs.size s3 (upd H2 s2.heap.objs.size (.lst [])) fp) rfl rfl rfl hc i [] s' (o::σ) H' (fun _ _=>False) I' (fpB (pl:=[]) fr') st' stop) (fun r s4 ⟨hr,I4⟩=>?_) fun _ _ f=>f.elim
   subst hr
   obtain⟨m,hn,_⟩:=I4.loc
   refine hRR _ _ s4 m H' (I3.call' (ch:=fp) I4.os I4.base I4.hok I4.bare fun b hb=>⟨(fp3 b hb).2.2.2.1,(fp3 b hb).2.1,(fp3 b hb).2.2.2.2.1,(fp3 b hb).2.2.2.2.2⟩) hn (I3.fpOk (Nat.le_refl _) I4.free) q
  ·refine wpAny_mono (T.item (blk X sc x M cl s3.heap.objs.size s3 (upd H2 s2.heap.objs.size (.lst [])) fp) rfl rfl rfl hc i [] s' (o::σ) H' (fun _ _=>False) I' (fpB (pl:=[]) fr') st' go) (fun r s4 ⟨u,hr,h4⟩=>?_) fun _ _ f=>f.elim
   subst hr
   refine wpAny_mono h4 (fun _ s5 ⟨y,H5,I5,r5,y5,st5,fr5⟩=>?_) fun _ _ f=>f.elim
   have I5':=I5.pinned (fpB (pl:=[]) fr5) (T.obj _ _ st5)
   refine wpAny_mono (hg _ s5 (o::σ) H5 y u (fun σ' H'=>σ'=some y::σ/\H'=H5) I5' r5 ⟨rfl,rfl⟩) (fun _ s6 ⟨σ6,H6,I6,e6,e6'⟩=>?_) fun _ _ f=>f.elim
   subst e6 e6'
   have again:∀ {H7:Hp} {s7:Shared} {zs:List V} {m':Nat},Inv (blk X sc x M cl s3.heap.objs.size s3 (upd H2 s2.heap.objs.size (.lst [])) fp) ([]++pinsAt fp s5.heap) (some y::σ) H7 s7->m' < n->W (i+1) m' zs H7 ->
    ∃ m,m < n/\∃ i ys o H',Inv (blk X sc x M cl s3.heap.objs.size s3 (upd H2 s2.heap.objs.size (.lst [])) fp) [] (o::σ) H' s7/\tn i s7.heap/\(∀ b∈fp,H' b=none)/\W i m ys H':=fun {H7 s7 zs m'} I7 hm w7=>by
    refine⟨m',hm,i+1,zs,some y,H7,I7.unpinned,T.keep _ _ _ st5 fun b hb o e=>(I7.pin (b,o) (List.mem_append_right _ (List.mem_append_right _ (mem_pinsAt hb e)))).1,fun b hb=>?_,w7⟩
    obtain⟨o,e,d⟩:=T.obj _ _ st5 b hb
    exact(I7.pin (b,o) (List.mem_append_right _ (List.mem_append_right _ (mem_pinsAt hb e)))).2.1
   refine wpAny_mono (ht' _ s6 (some y::σ) H6 _ I6 (step y H6 y5)) (fun b s7 ⟨H7,I7,q7⟩=>?_) fun _ _ f=>f.elim
   cases b with
   | false =>
    rw[if_neg Bool.false_ne_true]at q7 ⊢
    obtain⟨m',hm,w7⟩:=q7
    exact again I7 hm w7
   | true =>
    rw[if_pos rfl]at q7 ⊢
    refine wpAny_mono (he' _ s7 (some y::σ) H7 _ I7 q7) (fun u8 s8 ⟨v8,H8,I8,r8,hD8,m',hm,w8⟩=>?_) fun _ _ f=>f.elim
    refine wpAny_mono (mt_append (X:=blk X sc x M cl s3.heap.objs.size s3 (upd H2 s2.heap.objs.size (.lst [])) fp) _ s8 (some y::σ) H8 (.ref s2.heap.objs.size) [v8] (.ref s2.heap.objs.size) [u8] (fun _ H9=>H9=upd H8 s2.heap.objs.size (.lst (ys++[v8]))) I8 rfl (.cons r8 .nil) ⟨_,ys,v8,rfl,rfl,hD8,hlen,rfl⟩) (fun _ s9 ⟨_,H9,I9,_,e9⟩=>?_) fun _ _ f=>f.elim
    subst e9
    exact again I9 hm w8
 exact codeAny_compStart_list (loop _ rfl) (T.self X.A 0 _ _ _ st4 (loop _ rfl))
theorem pe_lcomp{sc:Scope}{x:Str}{px pos:Pos}{iter elt:Expr}{ifs:List Expr}(M:List Str){wi:TI}{tt:TT}{te:TE}(hc:X.calm=true)(B:BlkOk X sc x M)(hi:PI X (.Name x px) iter wi)
 (ht:∀ cl C s H fp,PIfs (blk X sc x M cl C s H fp) ifs tt) (he:∀ cl C s H fp,PE (blk X sc x M cl C s H fp) elt te) (hs:∀ x,foldedSetIterable iter X.env x=pure x:=by intro _;rfl) :
 PE X (.ListComp elt [⟨.Name x px,iter,ifs,0⟩] sc pos) (tLc wi tt te):=by
 intro pins s σ H Q I h
 obtain⟨cl,hcl,q1,q3⟩:=closure_ok X.env sc (fun y hy hf=>I.ok.has y.1 (B.free y hy hf))
 rw[eval_ListComp]
 refine wpAny_comprehension_free (use:=none) rfl hs hcl B.kind B.names (lcomp_core (RR:=fun acc C=>compPost (model X.prog X.w) X.A X.xe none (EP X pins σ Q) acc C) hc B hi (ht cl) (he cl) q1 q3 I h ?_)
 intro D C s' m H' I' hn fpC q
 exact⟨m,hn,fun h' sb=>⟨.ref D,H',I'.turned (t':=s'.toks) (fun b o hb e=>sb.extBut b o hb e) fpC.1 fpC.2.1 fpC.2.2.2.1 fpC.2.2.2.2.1 fpC.2.2.2.2.2,rfl,q⟩⟩
def tSetLc(j:Nat)(wi:TI)(tt:TT)(te:TE):TS:=fun D σ H=>tLc wi tt te σ H fun v H'=>D.nx (σ.set j (some v)) H'
end
end L2
end
section
namespace HT
open PySem PyProof.Rows L2
def lexV:List V->List V->Option Bool
 | [],[]=>some false
 | [],_::_=>some true
 | _::_,[]=>some false
 | .int i::xs,.int j::ys=>if i=j then lexV xs ys else some (decide (i < j))
 | .str i::xs,.str j::ys=>if i=j then lexV xs ys else some (decide (i.cps.toList < j.cps.toList))
 | _::_,_::_=>none
theorem lexV_nil_nil:lexV [] []=some false:=rfl
theorem lexV_nil_cons(y:V)(ys:List V):lexV [] (y::ys)=some true:=rfl
theorem lexV_cons_nil(x:V)(xs:List V):lexV (x::xs) []=some false:=by cases x <;> rfl
theorem rcLt_str(A:Around)(s:Shared)(a:Str)(t:Tok)(c:Str)(u:Tok)(prog:Program)(w:World)(E:Value->Shared->Prop)(Q:Value->Shared->Prop)(h:Q (.bool (decide (a.cps.toList < c.cps.toList))) s) :
 wpAny (model prog w) A (richCompare .Lt (.str a t) (.str c u)) Q E s :=
 (lt_str h:wpAny (model prog w) A (compareOp .Lt (.str a t) (.str c u)) Q E s)
section
open PySem.SeqAt
open PySem.AutoSeq1 (wpAny_loadPart')
open PySem.MeetsSeq PySem.MeetsSeq2 PySem.MeetsSeq3
theorem tuple_lt_V(l b:Addr)(items items2:Array Value)(n n2:Nat)(dd dd2:Option Addr)(sl sl2:Array (Option Value))(xs ys:List V)(hi:Vals xs items.toList)(hj:Vals ys items2.toList)(r:Bool)(hr:lexV xs ys=some r) :
 Meets (Builtin.«tuple.__lt__» ⟨[.ref l,.ref b],[]⟩)
  (fun _ R s=>s.heap.get? l=some { cls:=.type "tuple",dict:=dd,data:=.seq items n,slots:=sl }/\s.heap.get? b=some { cls:=.type "tuple",dict:=dd2,data:=.seq items2 n2,slots:=sl2 } /\
   R (.ok (.ret (.bool r))) s) :=
 .of_wp fun prog w A R s h=>by
  obtain⟨hp,g,d,tk,os⟩:=s;obtain⟨hl,hb,h⟩:=h
  have f2:=AutoSeq1.sub_tuple_tuple
  have z1:items.size=xs.length:=by rw[hi.length];simp
  have z2:items2.size=ys.length:=by rw[hj.length];simp
  wp_walk using wpAny_loadPart' hl,wpAny_loadPart' hb,wpAny_forIn_list _ (fun rest b s'=>b.1=none/\s'=⟨hp,g,d,tk,os⟩/\∃ (vs ws:List Value) (xs' ys':List V),rest=vs.zip ws /\
   Vals xs' vs/\Vals ys' ws/\xs'.length+items2.size=ys'.length+items.size/\lexV xs' ys'=some r) _
  case turn =>
   rintro⟨y,x⟩ rest b s' ⟨hb',rfl,vs,ws,xs',ys',hz,hvi,hwi,hlen,hR⟩
   cases hvi with
   | nil=>rw[List.zip_nil_left]at hz;cases hz
   | cons ra hvi' =>
    cases hwi with
    | nil=>rw[List.zip_nil_right]at hz;cases hz
    | cons rb hwi' =>
     rename_i a1 v1 l1 l2 a2 v2 l3 l4
     rw[List.zip_cons_cons]at hz
     injection hz with hyx hrest
     injection hyx with hy hx
     subst hy hx
     simp only[List.length_cons]at hlen
     cases a1 with
     | int i =>
      cases a2 with
      | int j =>
       obtain⟨t,rfl⟩:=ra
       obtain⟨u,rfl⟩:=rb
       simp only[lexV]at hR
       obtain⟨e,he,hiff⟩:=eqAt_int A.in1 ⟨hp,g,d,tk,os⟩ i t j u
       refine wpAny_bind (he prog w _ _ ?_)
       cases e with
       | true =>
        rw[if_pos (hiff.mp rfl)]at hR
        wp_walk
        exact⟨rfl,rfl,_,_,_,_,hrest,hvi',hwi',by omega,hR⟩
       | false =>
        rw[if_neg (fun q=>absurd (hiff.mpr q) Bool.false_ne_true)]at hR
        cases hR
        have hri:=rcLt_int A.in1 ⟨hp,g,d,tk,os⟩ i t j u prog w
        wp_walk using hri
        exact⟨_,rfl,by simpa using h⟩
      | _=>simp[lexV]at hR
     | str i =>
      cases a2 with
      | str j =>
       obtain⟨t,rfl⟩:=ra
       obtain⟨u,rfl⟩:=rb
       simp only[lexV]at hR
       refine wpAny_bind (SeqAt.EqAt.str_str (A:=A.in1) (s:=⟨hp,g,d,tk,os⟩) i t j u prog w _ _ ?_)
       cases e:(i == j) with
       | true =>
        rw[if_pos (by simpa using e)]at hR
        wp_walk
        exact⟨rfl,rfl,_,_,_,_,hrest,hvi',hwi',by omega,hR⟩
       | false =>
        rw[if_neg (by simpa using e)]at hR
        cases hR
        have hri:=rcLt_str A.in1 ⟨hp,g,d,tk,os⟩ i t j u prog w
        wp_walk using hri
        exact⟨_,rfl,by simpa using h⟩
      | _=>simp[lexV]at hR
     | _=>cases a2 <;> simp[lexV]at hR
  case fin =>
   rintro⟨b1,b2⟩ s' ⟨hb',rfl,vs,ws,xs',ys',hz,hvi,hwi,hlen,hR⟩
   simp only at hb'
   subst hb'
   have hv:r=decide (items.size < items2.size):=by
    cases hvi with
    | nil =>
     cases hwi with
     | nil =>
      simp only[List.length_nil]at hlen
      rw[lexV_nil_nil]at hR;cases hR
      exact(decide_eq_false (by omega)).symm
     | cons c hw =>
      simp only[List.length_nil,List.length_cons]at hlen
      rw[lexV_nil_cons]at hR;cases hR
      exact(decide_eq_true (by omega)).symm
    | cons a hv =>
     cases hwi with
     | nil =>
      simp only[List.length_nil,List.length_cons]at hlen
      rw[lexV_cons_nil]at hR;cases hR
      exact(decide_eq_false (by omega)).symm
     | cons c hw =>
      rw[List.zip_cons_cons]at hz
      cases hz
   rw[hv]at h
   wp_walk
   exact⟨_,rfl,by simpa[Builtin.Tuple.tupleCompareSizes]using h⟩
  case h =>
   exact⟨rfl,rfl,items.toList,items2.toList,xs,ys,rfl,hi,hj,by omega,hr⟩
end
section
variable{prog:Program}{w:World}{A:Around}{E:Value->Shared->Prop}{s:Shared}
theorem lt_tupV{l b:Addr}{items items2:Array Value}{xs ys:List V}{r:Bool}{Q:Value->Shared->Prop}(hl:IsTup s.heap l items)(hb:IsTup s.heap b items2)(hi:Vals xs items.toList)(hj:Vals ys items2.toList)(hr:lexV xs ys=some r)
 (hu:A.units < cLine) (h:Q (.bool r) s):wpAny (model prog w) A (compareOp .Lt (.ref l) (.ref b)) Q E s:=by
 obtain⟨⟨cls,dd,data,sl⟩,ho,hc,n,hd⟩:=id hl
 obtain⟨⟨cls2,dd2,data2,sl2⟩,ho2,hc2,n2,hd2⟩:=id hb
 simp only at hc hd hc2 hd2
 subst hc hd hc2 hd2
 exact richCompare_meets_room (op:=.Lt) ⟨_,ho,rfl⟩ ⟨_,ho2,rfl⟩ PySem.F.slot_tuple_lt PySem.F.entry_tuple_lt (PySem.F.args_tuple_lt_2 _ _) (tuple_lt_V l b items items2 n n2 dd dd2 sl sl2 xs ys hi hj r hr)
  ⟨ho,ho2,show Value.bool r≠Value.notImplemented/\Q (.bool r) s from⟨(fun x=>nomatch x),h⟩⟩ hu
end
end HT
namespace L2
open PySem PySem.Spec PyProof.Rows
section
variable{X:Cx}
def clsV:V->Option Value
 | .ty n=>some (.type n)
 | .ref a=>some (.ref a)
 | _=>none
def rIsI(K:PySem.W.Frag):List V->Hp->VK->Prop:=fun xs H Q=>∃ x c t cv b,xs=[x,c]/\clsV c=some cv/\TyOf K H x t/\PySem.W.kitOne K t cv=some b/\Q (.bl b) H
theorem call_isinst:CallR X (.builtin "isinstance") (rIsI X.K):=by
 intro pins s σ H xs us Q I r h
 obtain⟨x,c,t,cv,b,rfl,hc,ty,e,q⟩:=h
 obtain⟨u,w',rfl,rx,rc⟩:=vals2 r
 have ec:w'=cv:=by
  cases c <;> simp[clsV]at hc
  ·subst hc;exact rc
  ·subst hc;exact rc
 subst ec
 exact isinst_ok I rx ty e fun tk=>⟨.bl b,H,I.tok tk,rfl,q⟩
def rLtV(K:PySem.W.Frag):R2:=fun x y H Q=>∃ a b xs ys r,x=.ref a/\y=.ref b/\SqT K H a xs/\SqT K H b ys/\HT.lexV xs ys=some r/\Q (.bl r) H
theorem op_ltV(hu:X.A.units < cLine):OpR X (compareOp .Lt) (rLtV X.K):=by
 intro pins s σ H x y v u Q I rx ry h
 obtain⟨a,b,xs,ys,r,rfl,rfl,ha,hb,e,q⟩:=h
 cases rx
 cases ry
 obtain⟨its,r1,p1,_⟩:=I.tuple ha
 obtain⟨its2,r2,p2,_⟩:=I.tuple hb
 exact HT.lt_tupV p1 p2 (by simpa using r1) (by simpa using r2) e hu ⟨.bl r,H,I,rfl,q⟩
def Its(z:Str):It:=⟨fun i _=>i < z.length,fun i H x H'=>H'=H/\∃ c,z.cps[i]?=some c/\x=.str ⟨#[c]⟩,fun i _=>z.length<=i⟩
theorem turn_strA{P:Program}{w:World}{K:PySem.W.Frag}{tg:Expr}(it:Addr)(z:Str)(t:Tok):Turn P w K tg (Its z) [it] it (fun i h=>h.IsStrIter it "str_ascii_iterator" z t i) where
 mem:=by simp
 obj:=fun i h st b hb=>by
  have e:b=it:=by simpa using hb
  subst e
  obtain⟨o,e,c,d⟩:=st
  exact⟨o,e,fun v z=>by rw[d]at z;cases z⟩
 keep:=fun i h h' st k=>let ⟨o,ho,r⟩:=st;⟨o,k it (by simp) o ho,r⟩
 item:=by
  intro X hP hw hK hc i pins s σ H E I hf st hg
  subst hP hw hK
  obtain⟨f0,f1,f2,f3,f4,f5⟩:=hf it (by simp)
  have W:=Walks.strAscii (prog:=X.prog) (w:=X.w) (I.ok.hd hc) it z t
  refine W.item i s _ _ hg st fun v h' tk hv st' kk=>?_
  obtain⟨c,u,hcu,rfl⟩:=hv
  have I1:Inv X pins σ H { s with heap:=h',toks:=tk }:=I.turned (fun b o hb e=>kk b o (by simpa using hb) e) f0 f1 f3 f4 f5
  obtain⟨o,e,c',d⟩:=id st'
  exact⟨_,rfl,go_of (s:={ s with heap:=h',toks:=tk }) e c' d (by decide) ⟨.str ⟨#[c]⟩,H,I1,⟨_,rfl⟩,⟨rfl,c,hcu,rfl⟩,st',fun b hb=>(hf b hb).1⟩⟩
 done:=by
  intro X hP hw hK hc i pins s σ H E I hf st hg
  subst hP hw hK
  obtain⟨f0,f1,f2,f3,f4,f5⟩:=hf it (by simp)
  have hg':z.length<=i:=hg
  exact wpAny_pyNext_ascii_end (I.ok.hd hc) st (by simpa[Str.length]using hg') fun h' eb=>⟨rfl,I.turned (t':=s.toks) (fun b o hb e=>eb b o hb e) f0 f1 f3 f4 f5⟩
 self:=fun _ _ _ _ _ st h=>wpAny_pyIter_striter_ascii st h
theorem turn_strW{P:Program}{w:World}{K:PySem.W.Frag}{tg:Expr}(it:Addr)(z:Str)(t:Tok):Turn P w K tg (Its z) [it] it (fun i h=>h.IsStrIter it "str_iterator" z t i) where
 mem:=by simp
 obj:=fun i h st b hb=>by
  have e:b=it:=by simpa using hb
  subst e
  obtain⟨o,e,c,d⟩:=st
  exact⟨o,e,fun v z=>by rw[d]at z;cases z⟩
 keep:=fun i h h' st k=>let ⟨o,ho,r⟩:=st;⟨o,k it (by simp) o ho,r⟩
 item:=by
  intro X hP hw hK hc i pins s σ H E I hf st hg
  subst hP hw hK
  obtain⟨f0,f1,f2,f3,f4,f5⟩:=hf it (by simp)
  have W:=Walks.strWide (prog:=X.prog) (w:=X.w) (I.ok.hd hc) it z t
  refine W.item i s _ _ hg st fun v h' tk hv st' kk=>?_
  obtain⟨c,u,hcu,rfl⟩:=hv
  have I1:Inv X pins σ H { s with heap:=h',toks:=tk }:=I.turned (fun b o hb e=>kk b o (by simpa using hb) e) f0 f1 f3 f4 f5
  obtain⟨o,e,c',d⟩:=id st'
  exact⟨_,rfl,go_of (s:={ s with heap:=h',toks:=tk }) e c' d (by decide) ⟨.str ⟨#[c]⟩,H,I1,⟨_,rfl⟩,⟨rfl,c,hcu,rfl⟩,st',fun b hb=>(hf b hb).1⟩⟩
 done:=by
  intro X hP hw hK hc i pins s σ H E I hf st hg
  subst hP hw hK
  obtain⟨f0,f1,f2,f3,f4,f5⟩:=hf it (by simp)
  have hg':z.length<=i:=hg
  exact wpAny_pyNext_wide_end (I.ok.hd hc) st (by simpa[Str.length]using hg') fun h' eb=>⟨rfl,I.turned (t':=s.toks) (fun b o hb e=>eb b o hb e) f0 f1 f3 f4 f5⟩
 self:=fun _ _ _ _ _ st h=>wpAny_pyIter_striter_wide st h
end
end L2
namespace L2
open PySem PySem.Spec PyProof.Rows
section
variable{X:Cx}
def iStr(tl:TE):TI:=fun σ H R=>tl σ H fun x H1=>∃ z,x=.str z/\R (Its z) H1
theorem pi_str{tg l:Expr}{tl:TE}(hl:PE X l tl):PI X tg l (iStr tl):=by
 intro pins s σ H R I h
 refine thn (hl pins s σ H _ I h) fun v s1 ⟨x,H1,I1,r1,q1⟩=>?_
 obtain⟨z,e,q⟩:=q1
 subst e
 obtain⟨t,rfl⟩:=r1
 cases ha:z.cps.all (· < 128)
 ·refine wpAny_pyIter_wide ha ?_
  refine⟨s1.heap.objs.size,[s1.heap.objs.size],_,_,H1,rfl,I1.kept (t':=s1.toks) fun b o e=>Heap.get?_push_of_some _ e,turn_strW _ z t,⟨_,Heap.get?_push_size _ rfl,rfl,rfl⟩,fun b hb=>?_,q⟩
  have e:b=s1.heap.objs.size:=by simpa using hb
  subst e
  exact I1.fpOk (Nat.le_refl _) (I1.hok.fresh (Nat.le_refl _))
 ·refine wpAny_pyIter_ascii ha ?_
  refine⟨s1.heap.objs.size,[s1.heap.objs.size],_,_,H1,rfl,I1.kept (t':=s1.toks) fun b o e=>Heap.get?_push_of_some _ e,turn_strA _ z t,⟨_,Heap.get?_push_size _ rfl,rfl,rfl⟩,fun b hb=>?_,q⟩
  have e:b=s1.heap.objs.size:=by simpa using hb
  subst e
  exact I1.fpOk (Nat.le_refl _) (I1.hok.fresh (Nat.le_refl _))
theorem for_str{z:Str}{g:TG}{tb:TS}{D:Ends}{σ:St}{H:Hp}(Pv:Nat->St->Hp->Prop)(h0:Pv 0 σ H)
 (hs:∀ i c σ H,z.cps.toList[i]?=some c->Pv i σ H->g (.str ⟨#[c]⟩) σ H fun σ2 H2=>tb { D with nx:=Pv (i+1),ct:=Pv (i+1),bk:=D.nx } σ2 H2) (hd:∀ σ H,Pv z.length σ H->D.nx σ H) :
 ∃ W:Nat->Nat->St->Hp->Prop,(∃ m,W 0 m σ H)/\∀ i m σ H,W i m σ H ->
  ((Its z).stop i H/\D.nx σ H)\/((Its z).go i H/\∃ N:St->Hp->Prop,(∀ σ' H',N σ' H'->∃ m',m' < m/\W (i+1) m' σ' H')/\∀ x H',(Its z).yld i H x H'->g x σ H' fun σ2 H2=>tb { D with nx:=N,ct:=N,bk:=D.nx } σ2 H2):=by
 refine⟨fun i m σ H=>m=z.length - i/\i<=z.length/\Pv i σ H,⟨z.length,by simp,Nat.zero_le _,h0⟩,?_⟩
 rintro i m σ H ⟨rfl,hi,p⟩
 by_cases hlt:i < z.length
 ·refine .inr ⟨hlt,Pv (i+1),fun σ' H' p'=>⟨z.length - (i+1),by omega,rfl,hlt,p'⟩,fun x H' y=>?_⟩
  obtain⟨e,c,hc,e2⟩:=y
  subst e e2
  exact hs i c σ _ (by simpa using hc) p
 ·have e:i=z.length:=by omega
  subst e
  exact .inl ⟨Nat.le_refl _,hd σ H p⟩
def rJoin(K:PySem.W.Frag):V->List V->Hp->VK->Prop:=fun x xs H Q=>∃ z l ys,x=.str z/\xs=[.ref l]/\SqL K H l (ys.map V.str)/\(ys.map (·.length)).sum+ys.length * z.length<=16777216/\Q (.str (Txt.join z ys)) H
def rSlS:V->Option Int->Option Int->Hp->VK->Prop:=fun x lo hi H Q=>∃ z,x=.str z/\z.length<=sizeLine/\Q (.str (Txt.slice z lo hi)) H
def eqVs(xs ys:List V):Bool:=(List.range (min xs.length ys.length)).all (fun i=>eqV (xs.getD i .non) (ys.getD i .non)) && xs.length == ys.length
def rEqL(K:PySem.W.Frag)(neg:Bool):R2:=fun x y H Q=>∃ a b xs ys,x=.ref a/\y=.ref b/\SqL K H a xs/\SqL K H b ys/\xs.all flatV=true/\ys.all flatV=true/\Q (.bl (if neg then !eqVs xs ys else eqVs xs ys)) H
theorem eqV_refl{x:V}(f:flatV x=true):eqV x x=true:=by cases x <;> simp[eqV,flatV]at *
end
end L2
end
section
namespace L2
open PySem PySem.Spec PyProof.Rows
theorem bo_len:bootBuiltins "len"=some (.builtin "len"):=by decide +kernel
theorem bo_isinstance:bootBuiltins "isinstance"=some (.builtin "isinstance"):=by decide +kernel
theorem bo_ord:bootBuiltins "ord"=some (.builtin "ord"):=by decide +kernel
theorem bo_max:bootBuiltins "max"=some (.builtin "max"):=by decide +kernel
theorem bo_str:bootBuiltins "str"=some (.type "str"):=by decide +kernel
theorem bo_int:bootBuiltins "int"=some (.type "int"):=by decide +kernel
theorem bo_list:bootBuiltins "list"=some (.type "list"):=by decide +kernel
theorem bo_tuple:bootBuiltins "tuple"=some (.type "tuple"):=by decide +kernel
def blkB(dsc sc:Scope)(x:Str)(N M:List Str):Bool :=
 decide (sc.kind=.function) && sc.names.all (fun y=>decide (y.2≠.cell)) && sc.names.all (fun y=>decide (y.2=.local->sc.names.lookup y.1=some .local)) && decide (sc.names.lookup x=some .local) && decide ((x::M).Nodup) &&
 decide (M.length=N.length) && sc.names.all (fun y=>decide (y.2=.free->dsc.names.lookup y.1=some .cell\/dsc.names.lookup y.1=some .free)) &&
 (List.range M.length).all (fun i=>match M[i]? with | some y=>decide (sc.names.lookup y=some .free->N[i]?=some y) | none=>true) && M.all (fun y=>decide (sc.names.lookup y≠some .local))
theorem blkOk{X:Cx}{sc dsc:Scope}{x:Str}{N M:List Str}(hN:X.N=N)(hs:X.env.scope=dsc)(h:blkB dsc sc x N M=true):BlkOk X sc x M:=by
 unfold blkB at h
 simp only[Bool.and_eq_true,decide_eq_true_eq,List.all_eq_true]at h
 obtain⟨⟨⟨⟨⟨⟨⟨⟨h1,h2⟩,h3⟩,h4⟩,h5⟩,h6⟩,h7⟩,h8⟩,h9⟩:=h
 refine⟨h1,h2,h3,h4,h5,by rw[hN];exact h6,fun y hy hf=>?_,fun i y hi hf=>?_,h9⟩
 ·have:=h7 y hy hf
  rw[<- hs]at this
  exact this
 ·have hl:i < M.length:=(List.getElem?_eq_some_iff.mp hi).1
  have:=h8 i (List.mem_range.mpr hl)
  rw[hi]at this
  rw[hN]
  exact(decide_eq_true_eq.mp this) hf
def Cal(P:Program)(w:World)(K:PySem.W.Frag)(mg:Str->Option Value)(base:Heap)(k:Nat)(x:Str)(ps:List Str)(sp:Sp):Prop :=
 ∃ f fd,FnOk P w K mg base CX0 k f fd ps sp/\Binds K fd ps []/\PySem.W.keepIn K (.ref f)=true/\mg x=some (.ref f)
section
variable{X:Cx}{e:Expr}{es:List Expr}{t:TA}{p pos:Pos}
theorem pe_cal{j k:Nat}{x:Str}{ps:List Str}{sp:Sp}(G:Cal X.prog X.w X.K X.mg X.base j x ps sp)(hr:Room k X.A)(hj:j<=k)(hg:Gl X x)(ha:PA X (e::es) t)(hdb:(x == ("__debug__":Str))=false:=by decide)
 (he:starEach (e::es) X.env=(false,eval e X.env)::starEach es X.env:=by rfl) (hpl:(backTo pos (starEach es X.env)).any (·.1)=false:=by rfl):PE X (.Call (.Name x p) (e::es) [] pos) (tCall sp [] E0 t):=by
 obtain⟨f,fd,F,b,kp,m⟩:=G
 exact pe_call F (hr.mono hj) hg m kp b .nil pass0 ha hdb he hpl
theorem pe_gint{x:Str}{i:Int}(h:∃ t,X.mg x=some (.int i t))(hg:Gl X x)(hd:(x == ("__debug__":Str))=false:=by decide):PE X (.Name x pos) (tC (.int i)):=by
 obtain⟨t,h⟩:=h
 exact pe_glob hg h ⟨t,rfl⟩ hd
end
theorem isI_of{K:PySem.W.Frag}{H:Hp}{Q:VK}{x:V}{n:String}{t:Value}{b:Bool}(ty:TyOf K H x t)(e:PySem.W.kitOne K t (.type n)=some b)(q:Q (.bl b) H):rIsI K [x,.ty n] H Q:=⟨x,.ty n,t,.type n,b,rfl,rfl,ty,e,q⟩
section
variable{K:PySem.W.Frag}
end
end L2
namespace L2
open PySem PySem.Spec PyProof.Rows
theorem rd_start{t:TS}{D:Ends}{σ σ':St}{H:Hp}(e:σ'=σ)(h:t D σ H):t D σ' H:=by rw[e];exact h
end L2
end
section
namespace Att
open PySem PySem.W PySem.Calls PyProof.Rows
theorem bits_all:∀ (ns:List Int),WData.weightAll (ns.map WData.int)<=2 ^ 20->∀ n∈ns,Builtin.Int.intBits n<=2 ^ 20
 | [],_,_,h=>nomatch h
 | m::ns,hw,n,h=>by
  rw[List.map_cons]at hw
  have e:WData.weightAll (WData.int m::ns.map WData.int)=WData.weight (.int m)+1+WData.weightAll (ns.map WData.int):=by simp only[WData.weightAll]
  rw[e]at hw
  rcases List.mem_cons.mp h with rfl | h
  ·have:WData.weight (.int n)<=2 ^ 20:=by omega
   simpa only[WData.weight,Builtin.Int.intBits]using this
  ·exact bits_all ns (by omega) n h
theorem attach_callB{l:OpenLaw}{n:Nat}{q:Program}{loose:List Str}{XP:(Str->Option Value)->Heap->Prop}{YP:World->Heap->Prop}{d:DefRec}
 (hn:l.most=some n) (hdf:d.params.defaults=[])
 (call:∀ (w:World) (s₀ s₁:Shared) (mg mb:Str->Option Value) (fa:Addr) (o:Obj) (pm cd doc:Value) (a:Addr) (vs:List Value) (ns:List Int),
  Ground q loose [] XP w s₀ mg mb s₁.heap->YP w s₁.heap ->
  s₁.heap.get? fa=some o->o.data=.func (docDef d.name d.params d.body d.scope pm cd doc)->s₁.heap.CodeRec cd d.name->mg d.name=some (.ref fa) ->
  s₁.heap.get? a=some { cls:=.type "list",data:=.seq vs.toArray }->IntsAre vs ns->ns.length<=n->(∀ i∈ns,Builtin.Int.intBits i<=2 ^ 20)->s₁.gens=#[] ->
  codeAny (model l.prog w) callerA (.call (.ref fa) ⟨[.ref a],[]⟩) (fun r s'=>r=.ok (.ret (.bool true))/\OldK s₁.heap s'.heap/\s'.os=s₁.os/\AllBare s'.gens) s₁) :
 WalkO q loose XP YP l.row.toRowW d [] (fun f vs=>PySem.call f vs):=by
 intro w s₀ s₁ mg mb G Y fa o pm cd doc dV kV ho hd hcd hD hmg hg args vals as hpre hlay hrd hwl hlo
 obtain rfl:dV=.none:=Dflts.none hD hdf
 obtain rfl:kV=.none:=Dflts.noKw hD
 obtain⟨a,vs,ns,rfl,rfl,hobj,hints,hlen⟩:=script_of hn hpre hwl
 have hb:∀ i∈ns,Builtin.Int.intBits i<=2 ^ 20:=by
  have h1:WData.layable (.list (ns.map WData.int))=true:=by
   have:=hlay
   unfold WData.layableAll at this
   exact List.all_eq_true.mp this _ List.mem_cons_self
  have h2:WData.weight (.list (ns.map WData.int))<=2 ^ 20:=of_decide_eq_true (Bool.and_eq_true_iff.mp h1).2
  exact bits_all ns (by simpa only[WData.weight]using h2)
 refine enter_call (codeAny_mono (call w s₀ s₁ mg mb fa o pm cd doc a vs ns G Y ho (fd_plain hd) hcd hmg hobj hints hlen hb hg) fun r s' hq=>?_)
 obtain⟨rfl,h2,h3,h4⟩:=hq
 exact⟨.inl ⟨.bool true,.bool true,[],rfl,fun _=>rfl,.bool true,post_true l _,fun _=>⟨List.Pairwise.nil,fun _ hm=>(nomatch hm)⟩⟩,h2,h3,h4⟩
end Att
namespace L2
open PySem PySem.Spec PyProof.Rows
theorem walk_ofB{l:PySem.W.OpenLaw}{n k:Nat}{q:Program}{loose:List Str}{XP:(Str->Option Value)->Heap->Prop}{YP:World->Heap->Prop}{d:DefRec}{K:Params->PySem.W.Frag}{CX:World->CXT}{sp:PySem.W.Frag->Sp}{x:Str}
 (hn:l.most=some n) (hn2:n<=sizeLine) (hdf:d.params.defaults=[]) (hr:Room k callerA)
 (hY:∀ (w:World) (h:Heap),YP w h->(K w.params).In h)
 (F:∀ (w:World) (mg:Str->Option Value) (fa:Addr) (h:Heap),(K w.params).In h->h.Ns mainGlobals mg->mg d.name=some (.ref fa) ->
  ∃ fd:FuncData,(∀ (s:Shared) (u:Value),BindsTo s fd ⟨[u],[]⟩ [(x,u)]) /\
   ∀ base:Heap,(K w.params).In base->base.Ns mainGlobals mg->FnOk l.prog w (K w.params) mg base (CX w) k fa fd [x] (sp (K w.params)))
 (hsp:∀ (K:PySem.W.Frag) (H:Hp) (a:Addr) (ns:List Int),ns.length<=n->(∀ i∈ns,Builtin.Int.intBits i<=2 ^ 20)->Only H->SqL K H a (ns.map V.int)->sp K [.ref a] H (fun v _=>v=.bl true) fun _ _ _=>False)
 (hCX:∀ (w:World) (H:Hp) (s:Shared) (e:Value) (s':Shared),CX w [] H s (fun _ _ _=>False) e s'->False) :
 PySem.W.WalkO q loose XP YP l.row.toRowW d [] (fun f vs=>PySem.call f vs):=by
 refine Att.attach_callB hn hdf fun w s₀ s₁ mg mb fa o pm cd doc a vs ns G Y ho hd hcd hmg hobj hints hlen hb hg=>?_
 have KX:=hY w _ Y
 obtain⟨fd,hbd,hF⟩:=F w mg fa _ KX G.T.g hmg
 exact law_call KX G.T.g G.T.b G.T.builtins G.T.nolimit hg hobj hints (Nat.le_trans hlen hn2) hr hF hbd (fun H hO hS=>hsp _ H a ns hlen hb hO hS) fun H e s'=>hCX w H s₁ e s'
section
variable{X:Cx}
theorem op_mulB:OpR X (binaryOp .Mult) (rI IntMulOk fun i j=>.int (i * j)):=opI fun _ _ _ _ _ _ _ hc q=>mul_int q hc
end
end L2
end
section
namespace L2
open PySem PySem.Spec PyProof.Rows
section
variable{X:Cx}
end
theorem same_upd{H:Hp}{p:Addr}(h:H p=none)(o:HO):Same H (upd H p o):=fun b u q=>by rw[upd_ne (ne_of_none q h)];exact q
theorem Same.updL{H H':Hp}{p:Addr}(s:Same H H')(h:H p=none)(o:HO):Same H (upd H' p o):=fun b u q=>by rw[upd_ne (ne_of_none q h)];exact s b u q
theorem Same.seqT{K:PySem.W.Frag}{H H':Hp}{a:Addr}{xs:List V}(e:Same H H')(h:SqT K H a xs):SqT K H' a xs:=by
 rcases h with (h | ⟨o,h⟩) | h
 ·exact .inl (.inl (e _ _ h))
 ·exact .inl (.inr ⟨o,e _ _ h⟩)
 ·exact .inr h
end L2
namespace L2
open PySem PySem.Spec PyProof.Rows
def FoR(J:It)(g:TG)(tb:TS)(D:Ends)(σ:St)(H1:Hp):Prop:=∃ W:Nat->Nat->St->Hp->Prop,(∃ m,W 0 m σ H1)/\∀ i m σ H,W i m σ H ->
 (J.stop i H/\D.nx σ H)\/(J.go i H/\∃ N:St->Hp->Prop,(∀ σ' H',N σ' H'->∃ m',m' < m/\W (i+1) m' σ' H')/\∀ x H',J.yld i H x H'->g x σ H' fun σ2 H2=>tb { D with nx:=N,ct:=N,bk:=D.nx } σ2 H2)
def LcR(J:It)(tt:TT)(te:TE)(σ:St)(Q:VK)(H1:Hp):Prop:=∀ D,H1 D=none->∃ W:Nat->Nat->List V->Hp->Prop,(∃ m,W 0 m [] (upd H1 D (.lst [])))/\∀ i m ys H,W i m ys H ->
 H D=some (.lst ys)/\((J.stop i H/\Q (.ref D) H)\/(J.go i H/\ys.length < sizeLine/\∀ x H',J.yld i H x H'->tt (some x::σ) H' fun b H2=>if b=true then te (some x::σ) H2 fun v H3 =>
  H3 D=some (.lst ys)/\∃ m',m' < m/\W (i+1) m' (ys++[v]) (upd H3 D (.lst (ys++[v]))) else ∃ m',m' < m/\W (i+1) m' ys H2))
theorem tFor_rng1{ta:TA}{g:TG}{tb:TS}{D:Ends}{σ:St}{H:Hp}:tFor (iRng1 ta) g tb D σ H=ta σ H fun vs H1=>∃ j:Int,vs=[.int j] /\ -(2 ^ 62)<=j/\j < 2 ^ 62/\FoR (Itr 0 j.toNat) g tb D σ H1:=rfl
theorem tFor_rng2{ta:TA}{g:TG}{tb:TS}{D:Ends}{σ:St}{H:Hp}:tFor (iRng2 ta) g tb D σ H=ta σ H fun vs H1=>∃ i j:Int,vs=[.int i,.int j]/\(-(2 ^ 62)<=i/\i < 2 ^ 62 /\ -(2 ^ 62)<=j/\j < 2 ^ 62)/\FoR (Itr i (j - i).toNat) g tb D σ H1:=rfl
theorem tFor_list{K:PySem.W.Frag}{tl:TE}{g:TG}{tb:TS}{D:Ends}{σ:St}{H:Hp}:tFor (iList K tl) g tb D σ H=tl σ H fun x H1=>∃ a,x=.ref a/\(∃ xs,SqL K H1 a xs)/\FoR (Itl K a) g tb D σ H1:=rfl
theorem tFor_tup{K:PySem.W.Frag}{tl:TE}{g:TG}{tb:TS}{D:Ends}{σ:St}{H:Hp}:tFor (iTup K tl) g tb D σ H=tl σ H fun x H1=>∃ a,x=.ref a/\(∃ xs,SqT K H1 a xs)/\FoR (Itt K a) g tb D σ H1:=rfl
theorem tFor_str{tl:TE}{g:TG}{tb:TS}{D:Ends}{σ:St}{H:Hp}:tFor (iStr tl) g tb D σ H=tl σ H fun x H1=>∃ z,x=.str z/\FoR (Its z) g tb D σ H1:=rfl
theorem tLc_rng1{ta:TA}{tt:TT}{te:TE}{σ:St}{H:Hp}{Q:VK}:tLc (iRng1 ta) tt te σ H Q=ta σ H fun vs H1=>∃ j:Int,vs=[.int j] /\ -(2 ^ 62)<=j/\j < 2 ^ 62/\LcR (Itr 0 j.toNat) tt te σ Q H1:=rfl
theorem tLc_list{K:PySem.W.Frag}{tl:TE}{tt:TT}{te:TE}{σ:St}{H:Hp}{Q:VK}:tLc (iList K tl) tt te σ H Q=tl σ H fun x H1=>∃ a,x=.ref a/\(∃ xs,SqL K H1 a xs)/\LcR (Itl K a) tt te σ Q H1:=rfl
theorem tLc_tup{K:PySem.W.Frag}{tl:TE}{tt:TT}{te:TE}{σ:St}{H:Hp}{Q:VK}:tLc (iTup K tl) tt te σ H Q=tl σ H fun x H1=>∃ a,x=.ref a/\(∃ xs,SqT K H1 a xs)/\LcR (Itt K a) tt te σ Q H1:=rfl
theorem tLc_str{tl:TE}{tt:TT}{te:TE}{σ:St}{H:Hp}{Q:VK}:tLc (iStr tl) tt te σ H Q=tl σ H fun x H1=>∃ z,x=.str z/\LcR (Its z) tt te σ Q H1:=rfl
theorem foR_range{lo:Int}{n:Nat}{g:TG}{tb:TS}{D:Ends}{σ:St}{H:Hp}(Pv:Nat->St->Hp->Prop)(h0:Pv 0 σ H)
 (hs:∀ i σ H,i < n->Pv i σ H->g (.int (lo+i)) σ H fun σ2 H2=>tb { D with nx:=Pv (i+1),ct:=Pv (i+1),bk:=D.nx } σ2 H2) (hd:∀ σ H,Pv n σ H->D.nx σ H):FoR (Itr lo n) g tb D σ H:=for_range Pv h0 hs hd
theorem foR_list{K:PySem.W.Frag}{a:Addr}(xs:List V){g:TG}{tb:TS}{D:Ends}{σ:St}{H:Hp}(Pv:Nat->St->Hp->Prop)(h0:Pv 0 σ H)(hl:∀ i σ H,i<=xs.length->Pv i σ H->SqL K H a xs)
 (hs:∀ i x σ H,xs[i]?=some x->Pv i σ H->g x σ H fun σ2 H2=>tb { D with nx:=Pv (i+1),ct:=Pv (i+1),bk:=D.nx } σ2 H2) (hd:∀ σ H,Pv xs.length σ H->D.nx σ H):FoR (Itl K a) g tb D σ H:=for_list Pv h0 hl hs hd
theorem foR_tup{K:PySem.W.Frag}{a:Addr}(xs:List V){g:TG}{tb:TS}{D:Ends}{σ:St}{H:Hp}(Pv:Nat->St->Hp->Prop)(h0:Pv 0 σ H)(hl:∀ i σ H,i<=xs.length->Pv i σ H->SqT K H a xs)
 (hs:∀ i x σ H,xs[i]?=some x->Pv i σ H->g x σ H fun σ2 H2=>tb { D with nx:=Pv (i+1),ct:=Pv (i+1),bk:=D.nx } σ2 H2) (hd:∀ σ H,Pv xs.length σ H->D.nx σ H):FoR (Itt K a) g tb D σ H:=for_tup Pv h0 hl hs hd
theorem foR_str{z:Str}{g:TG}{tb:TS}{D:Ends}{σ:St}{H:Hp}(Pv:Nat->St->Hp->Prop)(h0:Pv 0 σ H)
 (hs:∀ i c σ H,z.cps.toList[i]?=some c->Pv i σ H->g (.str ⟨#[c]⟩) σ H fun σ2 H2=>tb { D with nx:=Pv (i+1),ct:=Pv (i+1),bk:=D.nx } σ2 H2) (hd:∀ σ H,Pv z.length σ H->D.nx σ H):FoR (Its z) g tb D σ H:=for_str Pv h0 hs hd
end L2
end
section
namespace SortT
open PySem PySem.W PyProof.Rows
def spec{α:Type}(n:Nat)(r:Nat->Nat):KasT α->(α->Prop)->Prop
 | .ret a,Q=>Q a
 | .ask i j k,Q=>i < n/\j < n/\spec n r (k (decide (r i < r j))) Q
theorem spec_mono{α:Type}{n:Nat}{r:Nat->Nat}{Q Q':α->Prop}(h:∀ a,Q a->Q' a):∀ t:KasT α,spec n r t Q->spec n r t Q'
 | .ret a,q=>h a q
 | .ask i j k,q=>⟨q.1,q.2.1,spec_mono h (k _) q.2.2⟩
theorem spec_bind{α β:Type}{n:Nat}{r:Nat->Nat}{f:α->KasT β}{Q:β->Prop}:∀ t:KasT α,spec n r t (fun a=>spec n r (f a) Q)->spec n r (t.bind f) Q
 | .ret a,q=>q
 | .ask i j k,q=>⟨q.1,q.2.1,spec_bind (k _) q.2.2⟩
theorem spec_wp{α:Type}{n:Nat}{r:Nat->Nat}{cmp:Nat->Nat->(Bool->Shared->Prop)->Shared->Prop}{Q:α->Shared->Prop}{I:Shared->Prop}(hc:∀ i j C s,i < n->j < n->I s->(∀ s',I s'->C (decide (r i < r j)) s')->cmp i j C s) :
 ∀ (t:KasT α) (s:Shared),I s->spec n r t (fun a=>∀ s',I s'->Q a s')->t.kasWp cmp Q s
 | .ret a,s,hs,q=>q s hs
 | .ask i j k,s,hs,q=>hc i j _ s q.1 q.2.1 hs fun s' hs'=>spec_wp hc (k _) s' hs' q.2.2
def K(r:Nat->Nat)(p:Array Nat)(i:Nat):Nat:=r (p.getD i 0)
structure Ok(n:Nat)(p:Array Nat):Prop where
 size:p.size=n
 perm:p.Perm (List.range n).toArray
theorem Ok.lt{n:Nat}{p:Array Nat}(h:Ok n p)(hn:0 < n)(i:Nat):p.getD i 0 < n:=by
 rw[Array.getD_eq_getD_getElem?]
 cases e:p[i]? with
 | none=>exact hn
 | some x =>
  have hx:x∈p:=Array.mem_of_getElem? e
  have:=(h.perm.mem_iff (a:=x)).mp hx
  simpa using this
theorem Ok.start(n:Nat):Ok n (List.range n).toArray:=⟨by simp,Array.Perm.refl _⟩
theorem Ok.rev{n:Nat}{p:Array Nat}(h:Ok n p)(i j:Nat):Ok n (kas_rev p i j):=⟨(mirror_size _ _ _ _).trans h.size,(mirror_perm _ _ _ _).trans h.perm⟩
theorem Ok.bub{n:Nat}{p:Array Nat}(h:Ok n p)(i j:Nat):Ok n (bubble p i j):=⟨(bubble_size _ _ _).trans h.size,(bubble_perm _ _ _).trans h.perm⟩
theorem K_of{r:Nat->Nat}{p q:Array Nat}{i j:Nat}(h:p[i]?=q[j]?):K r p i=K r q j:=by
 unfold K;rw[Array.getD_eq_getD_getElem?,Array.getD_eq_getD_getElem?,h]
theorem K_rev{r:Nat->Nat}{p:Array Nat}{i j:Nat}(hj:j<=p.size)(k:Nat):K r (kas_rev p i j) k=if i<=k/\k < j then K r p (i+j - 1 - k) else K r p k:=by
 have h:=getElem?_mirror (xs:=p) (i:=i) hj ((j - i) / 2) (by omega) k
 unfold kas_rev
 by_cases hk:(i<=k/\k < i+(j - i) / 2)\/(j - (j - i) / 2<=k/\k < j)
 ·rw[if_pos hk]at h
  rw[if_pos (by omega)]
  exact K_of h
 ·rw[if_neg hk]at h
  by_cases hk2:i<=k/\k < j
  ·rw[if_pos hk2]
   have e:i+j - 1 - k=k:=by omega
   rw[e]
   exact K_of h
  ·rw[if_neg hk2]
   exact K_of h
theorem K_bub{r:Nat->Nat}{p:Array Nat}{k l:Nat}(hk:k < p.size)(hl:l<=k)(x:Nat):K r (bubble p k (k - l)) x=if x=l then K r p k else if l < x/\x<=k then K r p (x - 1) else K r p x:=by
 have h:=getElem?_bubble (xs:=p) hk (k - l) (by omega) x
 have e:k - (k - l)=l:=by omega
 rw[e]at h
 by_cases h1:x=l
 ·rw[if_pos h1]at h ⊢;exact K_of h
 ·rw[if_neg h1]at h ⊢
  by_cases h2:l < x/\x<=k
  ·rw[if_pos h2]at h ⊢;exact K_of h
  ·rw[if_neg h2]at h ⊢;exact K_of h
def Up(r:Nat->Nat)(p:Array Nat)(m:Nat):Prop:=∀ i j,i<=j->j < m->K r p i<=K r p j
def Dn(r:Nat->Nat)(p:Array Nat)(m:Nat):Prop:=∀ i j,i<=j->j < m->K r p j<=K r p i
variable{n:Nat}{r:Nat->Nat}
theorem asc_ok{p:Array Nat}(hp:Ok n p)(hn:0 < n):∀ (f m:Nat),1<=m->m+f<=n->Up r p m->spec n r (kas_asc p f m) fun k=>m<=k/\k<=m+f/\Up r p k/\(k < m+f->K r p k < K r p (k - 1))
 | 0,m,h1,h2,u=>⟨Nat.le_refl _,Nat.le_refl _,u,fun h=>absurd h (by omega)⟩
 | f+1,m,h1,h2,u=>by
  refine⟨hp.lt hn _,hp.lt hn _,?_⟩
  show spec n r (if decide (K r p m < K r p (m - 1))=true then .ret m else kas_asc p f (m+1)) _
  by_cases h:K r p m < K r p (m - 1)
  ·rw[if_pos (decide_eq_true h)]
   exact⟨Nat.le_refl _,by omega,u,fun _=>h⟩
  ·rw[if_neg (by simpa using h)]
   refine spec_mono (fun k hk=>⟨by omega,by omega,hk.2.2.1,fun h'=>hk.2.2.2 (by omega)⟩) _ (asc_ok hp hn f (m+1) (by omega) (by omega) fun i j hij hj=>?_)
   by_cases hjm:j=m
   ·subst hjm
    by_cases him:i=j
    ·rw[him];exact Nat.le_refl _
    ·have:=u i (j - 1) (by omega) (by omega);omega
   ·exact u i j hij (by omega)
theorem rev_up{p:Array Nat}{m:Nat}(hm:m<=p.size)(d:Dn r p m):Up r (kas_rev p 0 m) m:=fun i j hij hj=>by
 rw[K_rev hm,K_rev hm,if_pos (by omega),if_pos (by omega)]
 exact d _ _ (by omega) (by omega)
theorem tail_ok{p:Array Nat}(hp:Ok n p)(hn:0 < n){m:Nat}(h1:1<=m)(hm:m<=n)(d:Dn r p m):spec n r (kas_tail3 m n p) fun q=>1<=q.1/\q.1<=n/\Ok n q.2/\Up r q.2 q.1:=by
 unfold kas_tail3
 refine spec_bind _ (spec_mono (fun k hk=>?_) _ (asc_ok (hp.rev 0 m) hn (n - m) m h1 (by omega) (rev_up (by rw[hp.size];exact hm) d)))
 exact⟨by omega,by omega,hp.rev 0 m,hk.2.2.1⟩
theorem rev_same{p:Array Nat}{a b:Nat}(hb:b<=p.size)(h:∀ i,a<=i->i < b->K r p i=K r p a)(k:Nat):K r (kas_rev p a b) k=K r p k:=by
 rw[K_rev hb]
 by_cases hk:a<=k/\k < b
 ·rw[if_pos hk,h _ (by omega) (by omega),h k hk.1 hk.2]
 ·rw[if_neg hk]
theorem desc_ok(hn:0 < n):∀ (f:Nat) (p:Array Nat) (m q:Nat),Ok n p->q+1<=m->m+f<=n->Dn r p m->(∀ i,m - (q+1)<=i->i < m->K r p i=K r p (m - (q+1))) ->
 spec n r (kas_desc f p m q) fun x=>Ok n x.1/\m<=x.2.1/\x.2.1<=m+f/\x.2.2+1<=x.2.1/\Dn r x.1 x.2.1/\∀ i,x.2.1 - (x.2.2+1)<=i->i < x.2.1->K r x.1 i=K r x.1 (x.2.1 - (x.2.2+1))
 | 0,p,m,q,hp,hq,hf,d,e=>⟨hp,Nat.le_refl _,Nat.le_refl _,hq,d,e⟩
 | f+1,p,m,q,hp,hq,hf,d,e=>by
  have step:∀ p':Array Nat,Ok n p'->(∀ k,K r p' k=K r p k)->∀ q',q'+1<=m+1->K r p m<=K r p (m - 1)->(∀ i,m+1 - (q'+1)<=i->i < m+1->K r p i=K r p (m+1 - (q'+1)))->Dn r p' (m+1)/\∀ i,m+1 - (q'+1)<=i->i < m+1->K r p' i=K r p' (m+1 - (q'+1)):=fun p' hp' hk q' hq' hle he=>by
   refine⟨fun i j hij hj=>?_,fun i h1 h2=>by rw[hk,hk];exact he i h1 h2⟩
   rw[hk,hk]
   by_cases hjm:j=m
   ·subst hjm
    by_cases him:i=j
    ·rw[him];exact Nat.le_refl _
    ·have:=d i (j - 1) (by omega) (by omega);omega
   ·exact d i j hij (by omega)
  refine⟨hp.lt hn _,hp.lt hn _,?_⟩
  show spec n r (if decide (K r p m < K r p (m - 1))=true then (if q > 0 then kas_desc f (kas_rev p (m - (q+1)) m) (m+1) 0 else kas_desc f p (m+1) 0) else .ask (p.getD (m - 1) 0) (p.getD m 0) fun d=>if d=true then .ret (p,m,q) else kas_desc f p (m+1) (q+1)) _
  by_cases h:K r p m < K r p (m - 1)
  ·rw[if_pos (decide_eq_true h)]
   have one:∀ i,m+1 - (0+1)<=i->i < m+1->K r p i=K r p (m+1 - (0+1)):=fun i h1 h2=>by
    have:i=m+1 - (0+1):=by omega
    rw[this]
   have post:∀ {x:Array Nat×Nat×Nat},(Ok n x.1/\m+1<=x.2.1/\x.2.1<=m+1+f/\x.2.2+1<=x.2.1/\Dn r x.1 x.2.1/\∀ i,x.2.1 - (x.2.2+1)<=i->i < x.2.1->K r x.1 i=K r x.1 (x.2.1 - (x.2.2+1))) ->
    Ok n x.1/\m<=x.2.1/\x.2.1<=m+(f+1)/\x.2.2+1<=x.2.1/\Dn r x.1 x.2.1/\∀ i,x.2.1 - (x.2.2+1)<=i->i < x.2.1->K r x.1 i=K r x.1 (x.2.1 - (x.2.2+1)):=fun hx=>⟨hx.1,by omega,by omega,hx.2.2.2.1,hx.2.2.2.2.1,hx.2.2.2.2.2⟩
   by_cases hq0:q > 0
   ·rw[if_pos hq0]
    have hs:=step (kas_rev p (m - (q+1)) m) (hp.rev _ _) (rev_same (by rw[hp.size];omega) e) 0 (by omega) (by omega) one
    exact spec_mono (fun x hx=>post hx) _ (desc_ok hn f _ (m+1) 0 (hp.rev _ _) (by omega) (by omega) hs.1 hs.2)
   ·rw[if_neg hq0]
    have hs:=step p hp (fun _=>rfl) 0 (by omega) (by omega) one
    exact spec_mono (fun x hx=>post hx) _ (desc_ok hn f _ (m+1) 0 hp (by omega) (by omega) hs.1 hs.2)
  ·rw[if_neg (by simpa using h)]
   refine⟨hp.lt hn _,hp.lt hn _,?_⟩
   show spec n r (if decide (K r p (m - 1) < K r p m)=true then .ret (p,m,q) else kas_desc f p (m+1) (q+1)) _
   by_cases h2:K r p (m - 1) < K r p m
   ·rw[if_pos (decide_eq_true h2)]
    exact⟨hp,Nat.le_refl _,Nat.le_add_right _ _,hq,d,e⟩
   ·rw[if_neg (by simpa using h2)]
    have he:∀ i,m+1 - (q+1+1)<=i->i < m+1->K r p i=K r p (m+1 - (q+1+1)):=fun i h3 h4=>by
     have e1:m+1 - (q+1+1)=m - (q+1):=by omega
     rw[e1]at h3 ⊢
     by_cases him:i=m
     ·have:=e (m - 1) (by omega) (by omega)
      rw[him];omega
     ·exact e i h3 (by omega)
    have hs:=step p hp (fun _=>rfl) (q+1) (by omega) (by omega) he
    exact spec_mono (fun x hx=>⟨hx.1,by omega,by omega,hx.2.2.2.1,hx.2.2.2.2.1,hx.2.2.2.2.2⟩) _ (desc_ok hn f _ (m+1) (q+1) hp (by omega) (by omega) hs.1 hs.2)
theorem descPart_ok{p:Array Nat}(hp:Ok n p)(hn:0 < n){m:Nat}(h1:1<=m)(hm:m+1<=n)(d:Dn r p (m+1)):spec n r (kas_descPart m n p) fun q=>1<=q.1/\q.1<=n/\Ok n q.2/\Up r q.2 q.1:=by
 unfold kas_descPart
 refine spec_bind _ (spec_mono (fun x hx=>?_) _ (desc_ok hn (n - (m+1)) p (m+1) 0 hp (by omega) (by omega) d fun i h3 h4=>by
  have:i=m+1 - (0+1):=by omega
  rw[this]))
 obtain⟨ho,h3,h4,h5,hd,he⟩:=hx
 by_cases hq:x.2.2 > 0
 ·rw[if_pos hq]
  refine tail_ok (ho.rev _ _) hn (by omega) (by omega) fun i j hij hj=>?_
  rw[rev_same (by rw[ho.size];omega) he,rev_same (by rw[ho.size];omega) he]
  exact hd i j hij hj
 ·rw[if_neg hq]
  exact tail_ok ho hn (by omega) (by omega) hd
theorem count_ok{p:Array Nat}(hp:Ok n p)(hn:0 < n):spec n r (kas_count n p) fun q=>1<=q.1/\q.1<=n/\Ok n q.2/\Up r q.2 q.1:=by
 unfold kas_count
 refine spec_bind _ (spec_mono (fun m hm=>?_) _ (asc_ok hp hn (n - 1) 1 (Nat.le_refl _) (by omega) fun i j hij hj=>by
  have:i=j:=by omega
  rw[this];exact Nat.le_refl _))
 obtain⟨h1,h2,u,hlt⟩:=hm
 by_cases he:m=n
 ·rw[if_pos (by simpa using he)]
  exact⟨h1,by omega,hp,u⟩
 ·rw[if_neg (by simpa using he)]
  have hlt':K r p m < K r p (m - 1):=hlt (by omega)
  by_cases h3:m > 1
  ·rw[if_pos h3]
   refine⟨hp.lt hn _,hp.lt hn _,?_⟩
   show spec n r (if decide (K r p 0 < K r p (m - 1))=true then .ret (m,p) else kas_descPart m n (kas_rev p 0 m)) _
   by_cases h4:K r p 0 < K r p (m - 1)
   ·rw[if_pos (decide_eq_true h4)]
    exact⟨h1,by omega,hp,u⟩
   ·rw[if_neg (by simpa using h4)]
    have eq:∀ i,0<=i->i < m->K r p i=K r p 0:=fun i _ hi=>by
     have a:=u 0 i (by omega) hi
     have b:=u i (m - 1) (by omega) (by omega)
     omega
    refine descPart_ok (hp.rev 0 m) hn h1 (by omega) fun i j hij hj=>?_
    rw[rev_same (by rw[hp.size];omega) eq,rev_same (by rw[hp.size];omega) eq]
    by_cases hjm:j=m
    ·subst hjm
     by_cases hij':i=j
     ·rw[hij'];exact Nat.le_refl _
     ·rw[eq i (by omega) (by omega)]
      have:=eq (j - 1) (by omega) (by omega)
      omega
    ·rw[eq i (by omega) (by omega),eq j (by omega) (by omega)]
     exact Nat.le_refl _
  ·rw[if_neg h3]
   refine descPart_ok hp hn h1 (by omega) fun i j hij hj=>?_
   have hm1:m=1:=by omega
   subst hm1
   by_cases hij':i=j
   ·rw[hij'];exact Nat.le_refl _
   ·have hi0:i=0:=by omega
    have hj1:j=1:=by omega
    subst hi0 hj1
    exact Nat.le_of_lt hlt'
theorem place_ok{p:Array Nat}(hp:Ok n p)(hn:0 < n){k:Nat}(u:Up r p k):∀ (f l q:Nat),l<=q->q<=k->q - l<=f->(∀ i,i < l->K r p i<=K r p k)->(∀ i,q<=i->i < k->K r p k < K r p i) ->
 spec n r (kas_place p k f l q) fun x=>x<=k/\(∀ i,i < x->K r p i<=K r p k)/\∀ i,x<=i->i < k->K r p k < K r p i
 | 0,l,q,h1,h2,h3,a,b=>by
  have e:l=q:=by omega
  subst e
  exact⟨h2,a,b⟩
 | f+1,l,q,h1,h2,h3,a,b=>by
  unfold kas_place
  by_cases hlq:l >= q
  ·rw[if_pos hlq]
   have e:l=q:=by omega
   subst e
   exact⟨h2,a,b⟩
  ·rw[if_neg hlq]
   refine⟨hp.lt hn _,hp.lt hn _,?_⟩
   show spec n r (if decide (K r p k < K r p ((l+q) / 2))=true then kas_place p k f l ((l+q) / 2) else kas_place p k f ((l+q) / 2+1) q) _
   by_cases h:K r p k < K r p ((l+q) / 2)
   ·rw[if_pos (decide_eq_true h)]
    refine place_ok hp hn u f l _ (by omega) (by omega) (by omega) a fun i hi hik=>?_
    have:=u ((l+q) / 2) i hi hik
    omega
   ·rw[if_neg (by simpa using h)]
    refine place_ok hp hn u f _ q (by omega) (by omega) (by omega) (fun i hi=>?_) b
    have:=u i ((l+q) / 2) (by omega) (by omega)
    omega
theorem bin_ok(hn:0 < n):∀ (f:Nat) (p:Array Nat) (k:Nat),Ok n p->k+f=n->Up r p k->spec n r (kas_bin f p k) fun q=>Ok n q/\Up r q n
 | 0,p,k,hp,h,u=>⟨hp,by rw[<- h];exact u⟩
 | f+1,p,k,hp,h,u=>by
  unfold kas_bin
  refine spec_bind _ (spec_mono (fun x hx=>?_) _ (place_ok hp hn u k 0 k (Nat.zero_le _) (Nat.le_refl _) (by omega) (fun i hi=>absurd hi (by omega)) fun i h1 h2=>absurd h2 (by omega)))
  obtain⟨hx1,hx2,hx3⟩:=hx
  refine bin_ok hn f _ (k+1) (hp.bub _ _) (by omega) fun i j hij hj=>?_
  rw[K_bub (by rw[hp.size];omega) hx1,K_bub (by rw[hp.size];omega) hx1]
  by_cases hi1:i=x
  ·rw[if_pos hi1]
   by_cases hj1:j=x
   ·rw[if_pos hj1];exact Nat.le_refl _
   ·rw[if_neg hj1,if_pos (by omega)]
    exact Nat.le_of_lt (hx3 (j - 1) (by omega) (by omega))
  ·rw[if_neg hi1]
   by_cases hi2:x < i/\i<=k
   ·rw[if_pos hi2,if_neg (by omega),if_pos (by omega)]
    exact u _ _ (by omega) (by omega)
   ·rw[if_neg hi2]
    by_cases hj1:j=x
    ·rw[if_pos hj1];exact hx2 i (by omega)
    ·rw[if_neg hj1]
     by_cases hj2:x < j/\j<=k
     ·rw[if_pos hj2];exact u _ _ (by omega) (by omega)
     ·rw[if_neg hj2];exact u _ _ (by omega) (by omega)
theorem sort_ok(hn:0 < n):spec n r (kas_sort n) fun q=>Ok n q/\Up r q n:=by
 unfold kas_sort
 refine spec_bind _ (spec_mono (fun x hx=>?_) _ (count_ok (Ok.start n) hn))
 obtain⟨h1,h2,ho,u⟩:=hx
 by_cases h:x.1 < n
 ·rw[if_pos h]
  have e:max x.1 1=x.1:=by omega
  rw[e]
  exact bin_ok hn _ _ _ ho (by omega) u
 ·rw[if_neg h]
  have e:x.1=n:=by omega
  rw[e]at u
  exact⟨ho,u⟩
end SortT
end
section
namespace SortB
open PySem PySem.W PyProof.Rows
def K(rk:Keyed->Nat)(a:Array Keyed)(i:Nat):Nat:=match a[i]? with | some p=>rk p | none=>0
section
variable{prog:Program}{w:World}{A:Around}{E:Value->Shared->Prop}{s:Shared}{κ:SortKind}{rk:Keyed->Nat}{S:Keyed->Prop}
end
end SortB
end
section
namespace SortB
open PySem PySem.W PyProof.Rows
section
variable{rk:Keyed->Nat}{la lb out:List Keyed}{ia ib k:Nat}
end
section
variable{rk:Keyed->Nat}{a:Array Keyed}{i j k n:Nat}{x:Keyed}
end
section
variable{prog:Program}{w:World}{A:Around}{E:Value->Shared->Prop}{s:Shared}{κ:SortKind}{rk:Keyed->Nat}{S:Keyed->Prop}
end
end SortB
end
section
namespace SortB
open PySem PySem.W PyProof.Rows
section
variable{rk:Keyed->Nat}{la lb R:List Keyed}{na nb k:Nat}
end
section
variable{rk:Keyed->Nat}{a:Array Keyed}{i j k n:Nat}{x:Keyed}
end
section
variable{prog:Program}{w:World}{A:Around}{E:Value->Shared->Prop}{s:Shared}{κ:SortKind}{rk:Keyed->Nat}{S:Keyed->Prop}
end
end SortB
end
section
namespace SortB
open PySem PySem.W PyProof.Rows
section
variable{rk:Keyed->Nat}{a b c:Array Keyed}{lo hi lo' hi' i j k n:Nat}
end
section
variable{prog:Program}{w:World}{A:Around}{E:Value->Shared->Prop}{s:Shared}{κ:SortKind}{rk:Keyed->Nat}{S:Keyed->Prop}
end
end SortB
end
section
namespace SortB
open PySem PySem.W PyProof.Rows
section
variable{prog:Program}{w:World}{A:Around}{E:Value->Shared->Prop}{s:Shared}{κ:SortKind}{rk:Keyed->Nat}{S:Keyed->Prop}
end
end SortB
end
section
namespace SortB
open PySem PySem.W PyProof.Rows
section
variable{rk:Keyed->Nat}{a b:Array Keyed}{l r:List (Nat×Nat×Nat)}{lo hi mid:Nat}
end
section
variable{prog:Program}{w:World}{A:Around}{E:Value->Shared->Prop}{s:Shared}{κ:SortKind}{rk:Keyed->Nat}{S:Keyed->Prop}
end
end SortB
end
section
namespace SortB
open PySem PySem.W PyProof.Rows
open Classical in
section
variable{prog:Program}{w:World}{A:Around}{E:Value->Shared->Prop}{s:Shared}{κ:SortKind}{ks vs:List Value}{r:Nat->Nat}
end
end SortB
end
section
namespace L2
open PySem PySem.Spec PyProof.Rows PySem.W
theorem Inv.adopt{X:Cx}{pins:List (Addr×Obj)}{σ:St}{H:Hp}{s:Shared}{h':Heap}{D:Addr}{o:HO}{t':Nat}(I:Inv X pins σ H s)(f:FpOk X pins H D)(k:∀ b u,b≠D->s.heap.get? b=some u->h'.get? b=some u)
 (new:ObjOk X.prog X.w (upd H D o) h' D o):Inv X pins σ (upd H D o) { s with heap:=h',toks:=t' }:=by
 obtain⟨f0,f1,f2,f3,f4,f5⟩:=f
 have nit:∀ b u,H b=some u->b≠D:=fun b u e z=>by rw[z,f0]at e;cases e
 refine I.step (g':=s.gens) (d':=s.drawn) (ch:=[D]) (fun b hb=>?_) (fun b o _ _ hc e _=>k b o (fun z=>hc (by simp[z])) e) (fun b o _ _ hc e _=>⟨o.slots,k b o (fun z=>hc (by simp[z])) e⟩) (fun b _ hc _ n=>by rw[upd_ne (fun z=>hc (by simp[z]))];exact n)
  (fun b o hc e=>⟨o,k b o (fun z=>hc (by simp[z])) e⟩) (fun b _ e=>by rw[upd_ne (nit _ _ e)];exact e) (fun b _ _ e=>by rw[upd_ne (nit _ _ e)];exact e) (fun b ps e=>⟨#[],by rw[upd_ne (nit _ _ e),e];simp⟩) (fun m hm=>?_) (fun b u e=>?_) I.bare
 ·have e:b=D:=by simpa using hb
  subst e
  exact⟨f3,f1,f4,f5⟩
 ·obtain⟨o,es,ep,ho,r⟩:=hm
  exact⟨o,es,ep,k _ o (Ne.symm f1) ho,r⟩
 ·by_cases hb:b=D
  ·subst hb;rw[upd_same]at e;cases e;exact new
  ·rw[upd_ne hb]at e
   refine(I.hok b u e).stay (fun c v hc q=>k c v ?_ q) (fun c q=>by rw[upd_ne (nit _ _ q)];exact q) fun c xs q=>by rw[upd_ne (nit _ _ q)];exact q
   rcases hc with z | z
   ·rw[z];exact hb
   ·exact nit c _ z
theorem Vals.getD:∀ {xs:List V} {us:List Value},Vals xs us->∀ i,RelV (xs.getD i .non) (us.getD i Value.none):=fun {xs us} r i=>by
 cases e:xs[i]? with
 | none =>
  have e2:=r.none_of e
  rw[List.getD_eq_getElem?_getD,List.getD_eq_getElem?_getD,e,e2]
  rfl
 | some x =>
  obtain⟨u,e2,ru⟩:=r.get e
  rw[List.getD_eq_getElem?_getD,List.getD_eq_getElem?_getD,e,e2]
  exact ru
theorem Vals.pick{xs:List V}{us:List Value}(r:Vals xs us):∀ l:List Nat,Vals (l.map fun i=>xs.getD i .non) (l.map fun i=>us.getD i Value.none)
 | []=>.nil
 | i::l=>.cons (r.getD i) (r.pick l)
theorem countP_lt{α:Type}{p q:α->Bool}:∀ {l:List α} {a:α},(∀ x∈l,p x=true->q x=true)->a∈l->q a=true->p a=false->l.countP p < l.countP q
 | x::l,a,h,hm,hq,hp=>by
  have mono:l.countP p<=l.countP q:=List.countP_mono_left fun y hy=>h y (List.mem_cons_of_mem _ hy)
  rw[List.countP_cons,List.countP_cons]
  rcases List.mem_cons.mp hm with e | e
  ·subst e
   rw[hq,hp]
   simp only[Bool.false_eq_true,if_false,if_true]
   omega
  ·have ih:=countP_lt (fun y hy=>h y (List.mem_cons_of_mem _ hy)) e hq hp
   have hx:=h x List.mem_cons_self
   cases hpx:p x with
   | false=>simp only[Bool.false_eq_true,if_false];split <;> omega
   | true=>rw[hx hpx];simp only[if_true];omega
structure Swo{α:Type}(xs:List α)(lt:α->α->Bool):Prop where
 irr:∀ a∈xs,lt a a=false
 tr:∀ a∈xs,∀ b∈xs,∀ c∈xs,lt a b=true->lt b c=true->lt a c=true
 neg:∀ a∈xs,∀ b∈xs,∀ c∈xs,lt a c=true->lt a b=true\/lt b c=true
theorem Swo.rank{α:Type}{xs:List α}{lt:α->α->Bool}(w:Swo xs lt){a b:α}(ha:a∈xs)(hb:b∈xs):decide (xs.countP (lt · a) < xs.countP (lt · b))=lt a b:=by
 cases e:lt a b with
 | true=>exact decide_eq_true (countP_lt (fun x hx h=>w.tr x hx a ha b hb h e) ha e (w.irr a ha))
 | false =>
  refine decide_eq_false fun h=>?_
  have:xs.countP (lt · b)<=xs.countP (lt · a):=List.countP_mono_left fun x hx h=>(w.neg x hx a ha b hb h).elim id fun z=>by rw[e]at z;cases z
  omega
theorem getD_mem{α:Type}{xs:List α}{i:Nat}{d:α}(h:i < xs.length):xs.getD i d∈xs:=by
 rw[List.getD_eq_getElem?_getD,List.getElem?_eq_getElem h]
 exact List.getElem_mem h
theorem picks_perm{α:Type}{xs:List α}{d:α}{p:Array Nat}(h:SortT.Ok xs.length p):(p.toList.map fun i=>xs.getD i d).Perm xs:=by
 have h1:p.toList.Perm (List.range xs.length):=by
  have:=Array.perm_iff_toList_perm.mp h.perm
  simpa using this
 have h2:=h1.map (fun i=>xs.getD i d)
 have h3:(List.range xs.length).map (fun i=>xs.getD i d)=xs:=by
  apply List.ext_getElem
  ·simp
  ·intro i h1 h2
   simp[h2]
 rw[h3]at h2
 exact h2
theorem picks_up{xs:List V}{lt:V->V->Bool}(w:Swo xs lt){p:Array Nat}(h:SortT.Ok xs.length p)(hn:0 < xs.length)(u:SortT.Up (fun i=>xs.countP (lt · (xs.getD i .non))) p xs.length) :
 (p.toList.map fun i=>xs.getD i V.non).Pairwise fun a b=>lt b a=false:=by
 rw[List.pairwise_iff_getElem]
 intro i j hi hj hij
 have hi':i < p.size:=by simpa using hi
 have hj':j < p.size:=by simpa using hj
 have hjn:j < xs.length:=by rw[<- h.size];exact hj'
 have:=u i j (by omega) hjn
 unfold SortT.K at this
 have gi:p.getD i 0=p[i]:=by simp[Array.getD,hi']
 have gj:p.getD j 0=p[j]:=by simp[Array.getD,hj']
 have li:=h.lt hn i
 have lj:=h.lt hn j
 rw[gi]at this li
 rw[gj]at this lj
 have e1:(p.toList.map fun i=>xs.getD i V.non)[i]=xs.getD p[i] .non:=by simp
 have e2:(p.toList.map fun i=>xs.getD i V.non)[j]=xs.getD p[j] .non:=by simp
 rw[e1,e2,<- w.rank (getD_mem lj) (getD_mem li)]
 dsimp only at this
 exact decide_eq_false (by omega)
end L2
end
section
namespace L2
open PySem PySem.Spec PyProof.Rows PySem.W
section
variable{X:Cx}{pins:List (Addr×Obj)}{σ:St}{H:Hp}{s:Shared}{k:Nat}{f:Addr}{fd:FuncData}{p0:Str}{sp:Sp}{A:Around}{E:Value->Shared->Prop}
structure KeyF(K:PySem.W.Frag)(sp:Sp)(H:Hp)(xs:List V)(rk:V->List V)(lt:V->V->Bool):Prop where
 hd:∀ v∈xs,∃ n r,rk v=.int n::r
 key:∀ v∈xs,∀ H2,Same H H2->∀ R:VK,(∀ p H3,Same H2 H3->SqT K H3 p (rk v)->R (.ref p) H3)->sp [v] H2 R E0
 lex:∀ v∈xs,∀ u∈xs,HT.lexV (rk v) (rk u)=some (lt v u)
 swo:Swo xs lt
theorem pw_small{α:Type}{R:α->α->Prop}:∀ {xs:List α},xs.length < 2->xs.Pairwise R
 | [],_=>List.Pairwise.nil
 | [a],_=>List.pairwise_singleton _ _
end
end L2
end
section
namespace L2
open PySem PySem.Spec PyProof.Rows PySem.W
theorem bo_sorted:bootBuiltins "sorted"=some (.builtin "sorted"):=by decide +kernel
theorem copied(h:Heap)(vs:List Value):((h.push (seqObj "list" #[] 0)).update h.objs.size (Obj.mapSeq (·++vs.toArray))).objs.size=h.objs.size+1 /\
 ∀ b o,h.get? b=some o->((h.push (seqObj "list" #[] 0)).update h.objs.size (Obj.mapSeq (·++vs.toArray))).get? b=some o:=by
 constructor
 ·simp only[Heap.size_update,size_push']
 ·intro b o q
  have nb:b≠h.objs.size:=Nat.ne_of_lt (Heap.lt_size q)
  exact((Heap.SameBut.update (h.push (seqObj "list" #[] 0)) h.objs.size _).2 b nb).trans (Heap.get?_push_of_some _ q)
section
variable{X:Cx}{pins:List (Addr×Obj)}{σ:St}{H:Hp}{s:Shared}{k:Nat}{f:Addr}{fd:FuncData}{p0:Str}{sp:Sp}
def tSortK(K:PySem.W.Frag)(sp:Sp)(te:TE):TE:=fun σ H Q=>te σ H fun x H1=>∃ a xs rk lt,x=.ref a/\SqL K H1 a xs/\xs.length < 64/\KeyF K sp H1 xs rk lt /\
 ∀ D H' ys,Same H1 H'->H1 D=none->H' D=some (.lst ys)->ys.Perm xs->ys.Pairwise (fun a b=>lt b a=false)->Q (.ref D) H'
def tSortKB(K:PySem.W.Frag)(sp:Sp)(te:TE):TE:=fun σ H Q=>te σ H fun x H1=>∃ a xs rk lt,x=.ref a/\SqL K H1 a xs/\xs.length < 1000/\KeyF K sp H1 xs rk lt /\
 ∀ D H' ys,Same H1 H'->H1 D=none->H' D=some (.lst ys)->ys.Perm xs->ys.Pairwise (fun a b=>lt b a=false)->Q (.ref D) H'
end
end L2
end
section
namespace L2
open PySem PySem.Spec PyProof.Rows
section
variable{X:Cx}{e:Expr}{es:List Expr}{te:TE}{pos:Pos}
def tFmtI(te:TE):TE:=fun σ H Q=>te σ H fun x H1=>∃ i:Int,x=.int i/\i.natAbs.log2 < 1920/\Q (.str (toString i)) H1
def tFmtS(te:TE):TE:=fun σ H Q=>te σ H fun x H1=>∃ z:Str,x=.str z/\z.length<=sizeLine/\Q (.str z) H1
def tParts:List TE->Str->TE
 | [],acc=>fun _ H Q=>acc.length<=sizeLine/\Q (.str acc) H
 | t::ts,acc=>fun σ H Q=>t σ H fun x H1=>∃ z:Str,x=.str z/\(acc++z).length<=sizeLine/\tParts ts (acc++z) σ H1 Q
def tJoinF(ts:List TE):TE:=tParts ts Str.empty
end
theorem empty_add(z:Str):Str.empty++z=z:=by
 apply PyProof.Rows.ext_toList
 rw[PySem.W.KT.app_list];rfl
end L2
end
section
namespace Pl
open PySem L2
def plainV:V->Prop
 | .non=>True
 | .int i => -(10 ^ 30) < i/\i < 10 ^ 30
 | .str z=>z.length<=40
 | _=>False
def rk:V->List V
 | .non=>[.int 0,.int 0]
 | .str z=>[.int 2,.str z]
 | v=>[.int 1,v]
def ltV(a b:V):Bool:=(HT.lexV (rk a) (rk b)).getD false
theorem lex_rk{a b:V}(ha:plainV a)(hb:plainV b):HT.lexV (rk a) (rk b)=some (ltV a b):=by
 unfold ltV
 cases a <;> first | exact ha.elim | skip
 all_goals (cases b <;> first | exact hb.elim | skip)
 all_goals (simp only[rk,HT.lexV];repeat' (first | rfl | split))
theorem lt_nn:ltV .non .non=false:=rfl
theorem lt_ni(i:Int):ltV .non (.int i)=true:=rfl
theorem lt_ns(z:Str):ltV .non (.str z)=true:=rfl
theorem lt_in(i:Int):ltV (.int i) .non=false:=rfl
theorem lt_sn(z:Str):ltV (.str z) .non=false:=rfl
theorem lt_is(i:Int)(z:Str):ltV (.int i) (.str z)=true:=rfl
theorem lt_si(i:Int)(z:Str):ltV (.str z) (.int i)=false:=rfl
theorem lt_ii(i j:Int):ltV (.int i) (.int j)=decide (i < j):=by
 unfold ltV
 simp only[rk,HT.lexV,if_true]
 by_cases e:i=j
 ·rw[if_pos e];subst e;simp
 ·rw[if_neg e];rfl
theorem lt_ss(x y:Str):ltV (.str x) (.str y)=decide (x.cps.toList < y.cps.toList):=by
 unfold ltV
 simp only[rk,HT.lexV,if_true]
 by_cases e:x=y
 ·rw[if_pos e];subst e
  have:¬ (x.cps.toList < x.cps.toList):=List.lt_irrefl _
  simp[this]
 ·rw[if_neg e];rfl
theorem irr{a:V}(ha:plainV a):ltV a a=false:=by
 cases a <;> first | exact ha.elim | skip
 ·rfl
 ·rw[lt_ii];simp
 ·rw[lt_ss];exact decide_eq_false (List.lt_irrefl _)
theorem tr{a b c:V}(ha:plainV a)(hb:plainV b)(hc:plainV c)(h1:ltV a b=true)(h2:ltV b c=true):ltV a c=true:=by
 cases a <;> first | exact ha.elim | skip
 all_goals (cases b <;> first | exact hb.elim | skip)
 all_goals (cases c <;> first | exact hc.elim | skip)
 all_goals first | rfl | (exfalso;rw[lt_nn]at h1;cases h1;done) | (exfalso;rw[lt_in]at h1;cases h1;done) | (exfalso;rw[lt_sn]at h1;cases h1;done) | (exfalso;rw[lt_si]at h1;cases h1;done) | (exfalso;rw[lt_nn]at h2;cases h2;done) | (exfalso;rw[lt_in]at h2;cases h2;done) | (exfalso;rw[lt_sn]at h2;cases h2;done) | (exfalso;rw[lt_si]at h2;cases h2;done) | skip
 ·rw[lt_ii,decide_eq_true_eq]at *;omega
 ·rw[lt_ss,decide_eq_true_eq]at *;exact List.lt_trans h1 h2
theorem tri{a b:V}(ha:plainV a)(hb:plainV b)(h1:ltV a b=false)(h2:ltV b a=false):a=b:=by
 cases a <;> first | exact ha.elim | skip
 all_goals (cases b <;> first | exact hb.elim | skip)
 all_goals first | rfl | (exfalso;rw[lt_ni]at h1;cases h1;done) | (exfalso;rw[lt_ns]at h1;cases h1;done) | (exfalso;rw[lt_is]at h1;cases h1;done) | (exfalso;rw[lt_ni]at h2;cases h2;done) | (exfalso;rw[lt_ns]at h2;cases h2;done) | (exfalso;rw[lt_is]at h2;cases h2;done) | skip
 ·rw[lt_ii,decide_eq_false_iff_not]at *
  congr 1;omega
 ·rw[lt_ss,decide_eq_false_iff_not]at *
  congr 1
  exact PyProof.Rows.ext_toList (List.le_antisymm (List.not_lt.mp h2) (List.not_lt.mp h1))
theorem neg{a b c:V}(ha:plainV a)(hb:plainV b)(hc:plainV c)(h:ltV a c=true):ltV a b=true\/ltV b c=true:=by
 cases e:ltV a b with
 | true=>exact .inl rfl
 | false =>
  cases e2:ltV b a with
  | true=>exact .inr (tr hb ha hc e2 h)
  | false=>rw[tri ha hb e e2]at h;exact .inr h
theorem swo{xs:List V}(h:∀ v∈xs,plainV v):Swo xs ltV:=⟨fun a ha=>irr (h a ha),fun a ha b hb c hc=>tr (h a ha) (h b hb) (h c hc),fun a ha b hb c hc=>neg (h a ha) (h b hb) (h c hc)⟩
end Pl
end
section
namespace L2
open PySem PySem.Spec PyProof.Rows
def SameT(H H':Hp):Prop:=∀ b xs,H b=some (.tup xs)->H' b=some (.tup xs)
theorem Same.t{H H':Hp}(s:Same H H'):SameT H H':=fun b xs e=>s b _ e
theorem SameT.refl(H:Hp):SameT H H:=fun _ _ e=>e
theorem SameT.trans{H H1 H2:Hp}(a:SameT H H1)(b:SameT H1 H2):SameT H H2:=fun c xs e=>b c xs (a c xs e)
theorem sameT_lst{H:Hp}{D:Addr}{ys zs:List V}(h:H D=some (.lst ys)):SameT H (upd H D (.lst zs)):=fun b xs e=>by
 rw[upd_ne (ne_of e h (by intro z;cases z))];exact e
theorem lcR_ofT{J:It}{te:TE}{σ:St}{H1:Hp}{Q:VK}(n:Nat)(item:Nat->V->Prop)(P:Hp->Nat->V->Prop)(mono:∀ H H' i v,SameT H H'->P H i v->P H' i v)(hz:n<=sizeLine)
 (hgo:∀ i H2,i < n->Same H1 H2->J.go i H2/\∀ x H',J.yld i H2 x H'->H'=H2/\item i x) (hst:∀ H2,Same H1 H2->J.stop n H2)
 (he:∀ i x H2 (R:VK),item i x->Same H1 H2->(∀ v H3,P H3 i v->Same H2 H3->R v H3)->te (some x::σ) H2 R)
 (hq:∀ D H2 ys,H1 D=none->Same H1 H2->H2 D=some (.lst ys)->ys.length=n->(∀ i y,ys[i]?=some y->P H2 i y)->Q (.ref D) H2):LcR J tYes te σ Q H1:=by
 intro D hD
 refine⟨fun i m ys H2=>m=n - i/\i<=n/\ys.length=i/\H2 D=some (.lst ys)/\Same H1 H2/\∀ j y,ys[j]?=some y->P H2 j y,⟨_,rfl,Nat.zero_le _,rfl,upd_same,same_upd hD _,fun j y h=>by simp at h⟩,?_⟩
 rintro i m ys H2 ⟨rfl,hi,hl,hd,sm,hp⟩
 refine⟨hd,?_⟩
 by_cases hlt:i < n
 ·obtain⟨go,yl⟩:=hgo i H2 hlt sm
  refine .inr ⟨go,by omega,fun x H' y=>?_⟩
  obtain⟨e,hx⟩:=yl x H' y
  subst e
  unfold tYes
  refine iteT ?_
  refine he i x _ _ hx sm fun v H3 pv s3=>⟨s3 _ _ hd,n - (i+1),by omega,rfl,hlt,by rw[List.length_append,hl];rfl,upd_same,(sm.trans s3).updL hD _,fun j y h=>?_⟩
  have st:=sameT_lst (zs:=ys++[v]) (s3 _ _ hd)
  by_cases hj:j < ys.length
  ·rw[List.getElem?_append_left hj]at h
   exact mono _ _ _ _ (s3.t.trans st) (hp j y h)
  ·rw[List.getElem?_append_right (by omega)]at h
   have hj2:j=i:=by
    have:=(List.getElem?_eq_some_iff.mp h).1
    simp at this
    omega
   subst hj2
   rw[hl]at h
   simp at h
   subst h
   exact mono _ _ _ _ st pv
 ·have e:i=n:=by omega
  subst e
  exact .inl ⟨hst H2 sm,hq D H2 ys hD sm hd hl hp⟩
theorem lcR_listT{K:PySem.W.Frag}{a:Addr}(xs:List V){te:TE}{σ:St}{H1:Hp}{Q:VK}(P:Hp->Nat->V->Prop)(mono:∀ H H' i v,SameT H H'->P H i v->P H' i v)(hx:SqL K H1 a xs)(hz:xs.length<=sizeLine)
 (he:∀ i x H2 (R:VK),xs[i]?=some x->Same H1 H2->(∀ v H3,P H3 i v->Same H2 H3->R v H3)->te (some x::σ) H2 R)
 (hq:∀ D H2 ys,H1 D=none->Same H1 H2->H2 D=some (.lst ys)->ys.length=xs.length->(∀ i y,ys[i]?=some y->P H2 i y)->Q (.ref D) H2):LcR (Itl K a) tYes te σ Q H1 :=
 lcR_ofT xs.length (fun i x=>xs[i]?=some x) P mono hz (fun i H2 hi s=>⟨⟨xs,xs[i],s.seq hx,by simp[hi]⟩,fun x H' y=>⟨y.1,y.2 xs (s.seq hx)⟩⟩) (fun H2 s=>⟨xs,s.seq hx,Nat.le_refl _⟩) he hq
theorem lcR_filter{J:It}{tt:TT}{σ:St}{H1:Hp}{Q:VK}(xs:List V)(p:V->Bool)(hz:xs.length<=sizeLine)
 (hgo:∀ i H2,i < xs.length->Same H1 H2->J.go i H2/\∀ x H',J.yld i H2 x H'->H'=H2/\xs[i]?=some x) (hst:∀ H2,Same H1 H2->J.stop xs.length H2)
 (he:∀ (i:Nat) x H2 (R:Bool->Hp->Prop),xs[i]?=some x->Same H1 H2->(∀ H3,Same H2 H3->R (p x) H3)->tt (some x::σ) H2 R)
 (hq:∀ D H2,H1 D=none->Same H1 H2->H2 D=some (.lst (xs.filter p))->Q (.ref D) H2):LcR J tt (tVar 0) σ Q H1:=by
 intro D hD
 refine⟨fun i m ys H2=>m=xs.length - i/\i<=xs.length/\ys=(xs.take i).filter p/\H2 D=some (.lst ys)/\Same H1 H2,⟨_,rfl,Nat.zero_le _,by simp,upd_same,same_upd hD _⟩,?_⟩
 rintro i m ys H2 ⟨rfl,hi,hy,hd,sm⟩
 refine⟨hd,?_⟩
 by_cases hlt:i < xs.length
 ·obtain⟨go,yl⟩:=hgo i H2 hlt sm
  have hl:ys.length<=i:=by
   rw[hy]
   exact Nat.le_trans (List.length_filter_le _ _) (by rw[List.length_take];omega)
  refine .inr ⟨go,by omega,fun x H' y=>?_⟩
  obtain⟨e,hx⟩:=yl x H' y
  subst e
  have ht:(xs.take (i+1)).filter p=if p x=true then ys++[x] else ys:=by
   rw[List.take_succ,hx,List.filter_append,<- hy]
   cases hp:p x <;> simp[hp]
  refine he i x _ _ hx sm fun H3 s3=>?_
  cases hp:p x with
  | true =>
   rw[if_pos rfl]
   refine⟨x,rfl,s3 _ _ hd,xs.length - (i+1),by omega,rfl,hlt,?_,upd_same,(sm.trans s3).updL hD _⟩
   rw[ht,hp,if_pos rfl]
  | false =>
   rw[if_neg Bool.false_ne_true]
   refine⟨xs.length - (i+1),by omega,rfl,hlt,?_,s3 _ _ hd,sm.trans s3⟩
   rw[ht,hp,if_neg Bool.false_ne_true]
 ·have e:i=xs.length:=by omega
  subst e
  rw[List.take_length]at hy
  exact .inl ⟨hst H2 sm,hq D H2 hD sm (by rw[hd,hy])⟩
end L2
end
section
namespace L2
open PySem PySem.Spec PyProof.Rows
def noStar:Expr->Bool
 | .Starred _ _=>false
 | _=>true
theorem star_cons{e:Expr}{es:List Expr}{env:Env}(h:noStar e=true):starEach (e::es) env=(false,eval e env)::starEach es env:=by
 cases e <;> first | rfl | (exact absurd h Bool.false_ne_true)
theorem pa_c{X:Cx}{e:Expr}{es:List Expr}{te:TE}{t:TA}(ha:PE X e te)(hr:PA X es t)(hn:noStar e=true:=by rfl):PA X (e::es) (tCons te t):=pa_cons ha hr (star_cons hn)
end L2
end
section
namespace L2
open PySem PySem.Spec PyProof.Rows
section
variable{prog:Program}{w:World}{A:Around}{E:Value->Shared->Prop}{s:Shared}
variable{z TI TO i1 i2:Addr}{fp1 fp2:List Addr}{n1 n2 i:Nat}{P1 P2:Nat->Value->Prop}{S1 S2:Nat->Heap->Prop}
end
end L2
end
section
namespace L2
open PySem PySem.Spec PyProof.Rows
def SqB(tup:Bool)(H:Hp)(a:Addr)(xs:List V):Prop:=H a=some (if tup then .tup xs else .lst xs)
def ItZ(ta tb:Bool)(a b:Addr):It :=
 ⟨fun i H=>∃ xs ys x y,SqB ta H a xs/\SqB tb H b ys/\xs[i]?=some x/\ys[i]?=some y,
  fun i H v H'=>∃ T x y,H T=none/\v=.ref T/\H'=upd H T (.tup [x,y])/\(∀ xs,SqB ta H a xs->xs[i]?=some x)/\∀ ys,SqB tb H b ys->ys[i]?=some y,
  fun i H=>∃ xs,SqB ta H a xs/\xs.length=i⟩
section
variable{prog:Program}{w:World}{A:Around}{E:Value->Shared->Prop}{s:Shared}
end
section
variable{X:Cx}{ea eb:Expr}{ua ub:TE}{p pos tpos:Pos}{elts:List Expr}{kk:Nat}
def iZip(ta tb:Bool)(ua ub:TE):TI:=fun σ H R=>ua σ H fun x H1=>ub σ H1 fun y H2=>∃ a b xs ys,x=.ref a/\y=.ref b/\SqB ta H2 a xs/\SqB tb H2 b ys/\R (ItZ ta tb a b) H2
theorem tFor_zip{ta tb:Bool}{g:TG}{t:TS}{D:Ends}{σ:St}{H:Hp}:tFor (iZip ta tb ua ub) g t D σ H=ua σ H fun x H1=>ub σ H1 fun y H2=>∃ a b xs ys,x=.ref a/\y=.ref b/\SqB ta H2 a xs/\SqB tb H2 b ys/\FoR (ItZ ta tb a b) g t D σ H2:=rfl
end
end L2
end
section
namespace L2
open PySem PySem.Spec PyProof.Rows
section
variable{X:Cx}
end
end L2
end
section
namespace L2
open PySem PySem.Spec PyProof.Rows
section
variable{X:Cx}
def rAll(K:PySem.W.Frag):List V->Hp->VK->Prop:=fun xs H Q=>∃ (a:Addr) (bs:List Bool),xs=[.ref a]/\SqL K H a (bs.map V.bl)/\Q (.bl (bs.all id)) H
def tDNew:TE:=fun _ H Q=>∀ p,H p=none->Q (.ref p) (upd H p (.dK []))
def rEqN(K:PySem.W.Frag):R2:=fun x y H Q=>∃ a b xs ys,x=.ref a/\y=.ref b/\SqL K H a xs/\SqL K H b ys/\((xs.length≠ys.length/\Q (.bl false) H)\/(xs.all flatV=true/\ys.all flatV=true/\Q (.bl (eqVs xs ys)) H))
theorem tLc_rng2{ta:TA}{tt:TT}{te:TE}{σ:St}{H:Hp}{Q:VK}:tLc (iRng2 ta) tt te σ H Q=ta σ H fun vs H1=>∃ i j:Int,vs=[.int i,.int j]/\(-(2 ^ 62)<=i/\i < 2 ^ 62 /\ -(2 ^ 62)<=j/\j < 2 ^ 62)/\LcR (Itr i (j - i).toNat) tt te σ Q H1:=rfl
end
end L2
end
section
namespace L2
open PySem PySem.Spec PyProof.Rows
end L2
namespace Th
open PySem L2 Pl
def signB(c:Nat):Bool:=decide (32<=c/\c<=126/\c≠37)
def goodZ(z:Str):Prop:=z.length<=60/\∀ c∈z.cps.toList,signB c=true\/c=9\/c=10
def flatG:V->Prop
 | .non=>True
 | .bl _=>True
 | .int _=>True
 | .str z=>goodZ z
 | _=>False
def TT:Nat->Hp->V->Prop
 | 0,H,v=>flatG v\/∃ a,v=.ref a/\((∃ xs,H a=some (.lst xs))\/H a=some (.dK [])\/∃ xs,H a=some (.tup xs)/\xs.length<=60)
 | n+1,H,v=>flatG v\/∃ a,v=.ref a/\((∃ xs,H a=some (.lst xs))\/H a=some (.dK [])\/∃ xs,H a=some (.tup xs)/\xs.length<=60/\∀ u∈xs,TT n H u)
end Th
end
section
namespace L2
open PySem PySem.Spec PyProof.Rows
def HeadIs(h:Heap)(Y:Addr->Prop)(e:Addr)(vs:Array Value):Option Value->Prop
 | none=>vs[1]?=some .none
 | some v=>∃ T oT ts,vs[1]?=some (.ref T)/\T≠e/\(Y T/\oT.cls=.type "traceback")/\h.get? T=some oT/\oT.data=.fields ts/\ts[3]?=some v
def Links:List (Addr×Obj)->Value->Prop
 | [],c=>c=.none
 | p::r,c=>c=.ref p.1/\∃ va c',p.2.data=.fields va/\va[2]?=some c'/\Links r c'
def Lie(h:Heap)(Y:Addr->Prop)(e:Addr)(ch:List (Addr×Obj)):Prop:=(e::ch.map (·.1)).Nodup/\∀ p∈ch,h.get? p.1=some p.2/\p.2.cls≠.type "traceback"/\(∃ va,p.2.data=.fields va)/\Y p.1
def Exc(h:Heap)(Y:Addr->Prop)(e:Addr)(cls:Value)(dx:Option Addr)(ch:List (Addr×Obj))(fl:Option Value):Prop :=
 ∃ oe vs,h.get? e=some oe/\oe.cls=cls/\oe.dict=dx/\oe.data=.fields vs/\((∃ c,vs[2]?=some c/\Links ch c)/\Lie h Y e ch)/\HeadIs h Y e vs fl
structure Stay(Y:Addr->Prop)(e:Addr)(fs:List Addr)(h h':Heap):Prop where
 keep:∀ b o,h.get? b=some o->b≠e->¬ (Y b/\o.cls=.type "traceback")->b∉fs->h'.get? b=some o
 slot:∀ b o,h.get? b=some o->(∀ vs,o.data≠.fields vs)->∃ sl,h'.get? b=some { o with slots:=sl }
 size:h.objs.size<=h'.objs.size
theorem Stay.trans{Y:Addr->Prop}{e:Addr}{fs:List Addr}{h₁ h₂ h₃:Heap}(x:Stay Y e fs h₁ h₂)(y:Stay Y e fs h₂ h₃):Stay Y e fs h₁ h₃ :=
 ⟨fun b o q a c d=>y.keep b o (x.keep b o q a c d) a c d,fun b o q n=>let ⟨_,e1⟩:=x.slot b o q n;let ⟨sl,e2⟩:=y.slot b _ e1 n;⟨sl,e2⟩,Nat.le_trans x.size y.size⟩
theorem Stay.funs{Y:Addr->Prop}{e:Addr}{fs:List Addr}{h h' base:Heap}{l:List Env}(x:Stay Y e fs h h')(f:h.FunFrames base l):h'.FunFrames base l :=
 f.of_keeps fun b o q n=>let ⟨sl,e1⟩:=x.slot b o q n;⟨_,e1,rfl⟩
theorem Lie.stay{Y:Addr->Prop}{e:Addr}{fs:List Addr}{h h':Heap}{ch:List (Addr×Obj)}(l:Lie h Y e ch)(st:Stay Y e fs h h')(nf:∀ b∈fs,∃ o,h.get? b=some o/\∀ vs,o.data≠.fields vs):Lie h' Y e ch :=
 ⟨l.1,fun p hp=>by
  obtain⟨q,c,⟨va,d⟩,y⟩:=l.2 p hp
  refine⟨st.keep p.1 p.2 q (fun z=>?_) (fun z=>c z.2) (fun z=>?_),c,⟨va,d⟩,y⟩
  ·exact(List.nodup_cons.mp l.1).1 (by rw[<- z];exact List.mem_map_of_mem hp)
  ·obtain⟨o,q',n⟩:=nf _ z
   rw[q]at q';cases q'
   exact n va d⟩
theorem dict_mapF(o:Obj)(f):(o.mapFields f).dict=o.dict:=by
 obtain⟨c,d,dt,sl⟩:=o;cases dt <;> rfl
theorem stay_set{Y:Addr->Prop}{e a:Addr}{fs:List Addr}{h:Heap}{o:Obj}{vs:Array Value}(i:Nat)(x:Value)(ho:h.get? a=some o)(hd:o.data=.fields vs)(ha:a=e\/(Y a/\o.cls=.type "traceback")) :
 Stay Y e fs h (h.update a (Obj.mapFields (·.setIfInBounds i x))) where
 keep b u q n1 n2 _:=by
  rw[Heap.get?_update_other _ _ (fun z=>by subst z;rw[ho]at q;cases q;exact ha.elim n1 n2)];exact q
 slot b u q n:=⟨u.slots,by
  rw[Heap.get?_update_other _ _ (fun z=>by subst z;rw[ho]at q;cases q;exact n vs hd)];exact q⟩
 size:=by rw[Heap.size_update];exact Nat.le_refl _
theorem set_get{a:Addr}{h:Heap}{o:Obj}{vs:Array Value}(i:Nat)(x:Value)(ho:h.get? a=some o)(hd:o.data=.fields vs) :
 (h.update a (Obj.mapFields (·.setIfInBounds i x))).get? a=some (o.mapFields (·.setIfInBounds i x)):=Heap.get?_update_self _ ho (Obj.isFreed_of_fields (Obj.data_mapFields hd _))
section
variable{M:Model}{A:Around}{E:Value->Shared->Prop}{s:Shared}{Y:Addr->Prop}{base:Heap}{env:Env}{outer:List Env}{L e:Addr}{cls:Value}{dx:Option Addr}{ch:List (Addr×Obj)}{fl:Option Value}{Q:Unit->Shared->Prop}
theorem land_ok{fs:List Addr}{v:Value}(nf:∀ b∈fs,∃ o,s.heap.get? b=some o/\∀ vs,o.data≠.fields vs)(x:Exc s.heap Y e cls dx ch (some v))(q:∀ h',Stay Y e fs s.heap h'->Exc h' Y e cls dx ch (some .none)->Q () { s with heap:=h' }):wpAny M A (setFlight (.ref e) none) Q E s:=by
 obtain⟨oe,vs,he,hc,hdx,hd,⟨lk,ll⟩,T,oT,ts,h1,hTe,hY,hT,hdT,h3⟩:=x
 unfold setFlight
 refine wpAny_bind (wpAny_field he hd h1 ?_)
 rw[if_pos (show(Value.ref T != Value.none)=true from by simp)]
 have hsz:3 < ts.size:=(Array.getElem?_eq_some_iff.mp h3).1
 have st:=stay_set (Y:=Y) (e:=e) (fs:=fs) 3 ((none:Option Addr).elim Value.none fun f=>rawInt f) hT hdT (.inr hY)
 refine wpAny_setField hT hdT hsz (q _ st ⟨oe,vs,?_,hc,hdx,hd,⟨lk,ll.stay st nf⟩,T,_,_,h1,hTe,⟨hY.1,(Obj.cls_mapFields _ _).trans hY.2⟩,set_get 3 _ hT hdT,Obj.data_mapFields hdT _,?_⟩)
 ·rw[Heap.get?_update_other _ _ hTe];exact he
 ·simp[hsz]
theorem entry_ok{head:Value}{hadNext:Bool}(hfr:A.frames=some (env::outer))(hl:s.heap.FunFrames base (env::outer))(hf:env.frame=some L)(hy:∀ b,s.heap.objs.size<=b->Y b){oe:Obj}{vs:Array Value}
 (he:s.heap.get? e=some oe) (hc:oe.cls=cls) (hdx:oe.dict=dx) (hd:oe.data=.fields vs) (hsz:1 < vs.size) (lk:∃ c,vs[2]?=some c/\Links ch c) (ll:Lie s.heap Y e ch)
 (q:∀ h',Stay Y e (frs (env::outer)) s.heap h'->Exc h' Y e cls dx ch (some (rawInt L))->Q () { s with heap:=h' }) :
 wpAny M A (do let a <- frameOf env;let pl <- entryPlaceOf L hadNext;let b <- EntryCells.newEntry head a .none (rawInt L) .none pl;setField (.ref e) 1 b) Q E s:=by
 refine wpAny_bind (wpAny_frameOf_fun hfr hl hf fun h₁ hs=>?_)
 refine wpAny_bind (wpAny_entryPlaceOf fun pl hpl=>?_)
 unfold EntryCells.newEntry newFields
 refine wpAny_bind (wpAny_newObj_type ?_ (hpl.sizeOk5 _ _ _ _ _))
 have hef:e∉frs (env::outer):=fun hm=>by
  obtain⟨_,o,ho,hn⟩:=hl.mem hm
  rw[he]at ho;cases ho;exact hn vs hd
 have he1:h₁.get? e=some oe:=(hs.2.1 e hef).trans he
 have hne:h₁.objs.size≠e:=Nat.ne_of_gt (Heap.lt_size he1)
 generalize htb:({ cls:=.type "traceback",dict:=none,data:=.fields ([head,.ref L,.none,rawInt L,.none]++(if pl.isEmpty then List.replicate 6 Value.none else pl)).toArray }:Obj)=tb
 have htd:tb.data=.fields ([head,.ref L,.none,rawInt L,.none]++(if pl.isEmpty then List.replicate 6 Value.none else pl)).toArray:=by rw[<- htb]
 have hfr':tb.isFreed=false:=Obj.isFreed_of_fields htd
 have he2:(h₁.push tb).get? e=some oe:=Heap.get?_push_of_some _ he1
 have hY:Y h₁.objs.size:=hy _ (by rw[hs.1];exact Nat.le_refl _)
 have htc:tb.cls=.type "traceback":=by rw[<- htb]
 have st:Stay Y e (frs (env::outer)) s.heap ((h₁.push tb).update e (Obj.mapFields (·.setIfInBounds 1 (Value.ref h₁.objs.size)))):=by
  refine Stay.trans ?_ (stay_set 1 _ he2 hd (.inl rfl))
  refine⟨fun b o g _ _ n=>Heap.get?_push_of_some _ ((hs.2.1 b n).trans g),fun b o g _=>?_,?_⟩
  ·obtain⟨sl,g1⟩:=hs.2.2 b o g
   exact⟨sl,Heap.get?_push_of_some _ g1⟩
  ·rw[<- hs.1];cases h₁;simp[Heap.push]
 refine wpAny_setField he2 hd hsz (q _ st ⟨_,_,set_get 1 _ he2 hd,(Obj.cls_mapFields _ _).trans hc,(dict_mapF _ _).trans hdx,Obj.data_mapFields hd _,⟨?_,ll.stay st fun b hb=>(hl.mem hb).2⟩,h₁.objs.size,tb,_,by simp[hsz],hne,⟨hY,htc⟩,?_,htd,?_⟩)
 ·obtain⟨c,h2,l⟩:=lk
  exact⟨c,by rw[Array.getElem?_setIfInBounds_ne (by decide)];exact h2,l⟩
 ·rw[Heap.get?_update_other _ _ (Ne.symm hne)];exact Heap.get?_push_size _ hfr'
 ·first | (simp;done) | (rcases hpl with rfl | ⟨_,_,_,_,_,_,_,rfl⟩ <;> simp)
theorem note_ok(hfr:A.frames=some (env::outer))(hl:s.heap.FunFrames base (env::outer))(hf:env.frame=some L)(hy:∀ b,s.heap.objs.size<=b->Y b)(x:Exc s.heap Y e cls dx ch fl)(hfl:fl=none\/fl=some .none)
 (q:∀ h',Stay Y e (frs (env::outer)) s.heap h'->Exc h' Y e cls dx ch (some (rawInt L))->Q () { s with heap:=h' }):wpAny M A (noteFrame (.ref e) env) Q E s:=by
 obtain⟨oe,vs,he,hc,hdx,hd,⟨lk,ll⟩,hh⟩:=x
 unfold noteFrame
 simp only[hf]
 rcases hfl with rfl | rfl
 ·have h1:vs[1]?=some .none:=hh
  refine wpAny_bind (wpAny_field he hd h1 ?_)
  rw[if_neg (by decide)]
  exact entry_ok hfr hl hf hy he hc hdx hd (Array.getElem?_eq_some_iff.mp h1).1 lk ll q
 ·obtain⟨T,oT,ts,h1,hTe,hY,hT,hdT,h3⟩:=hh
  refine wpAny_bind (wpAny_field he hd h1 ?_)
  rw[if_pos (show(Value.ref T != Value.none)=true from by simp)]
  refine wpAny_bind (wpAny_field hT hdT h3 ?_)
  rw[if_neg (show ¬ ((Value.none == rawInt L)=true) from by simp[rawInt])]
  refine wpAny_bind (wpAny_setField hT hdT (Array.getElem?_eq_some_iff.mp h3).1 ?_)
  have st:Stay Y e (frs (env::outer)) s.heap (s.heap.update T (Obj.mapFields (·.setIfInBounds 3 Value.none))):=stay_set 3 _ hT hdT (.inr hY)
  refine entry_ok (s:={ s with heap:=s.heap.update T (Obj.mapFields (·.setIfInBounds 3 Value.none)) }) hfr (st.funs hl) hf (fun b hb=>hy b (Nat.le_trans st.size hb)) ((Heap.get?_update_other _ _ hTe).trans he) hc hdx hd (Array.getElem?_eq_some_iff.mp h1).1 lk (ll.stay st fun b hb=>(hl.mem hb).2) fun h' t x'=>q h' (st.trans t) x'
theorem leave_ok(hfr:A.frames=some (env::outer))(hl:s.heap.FunFrames base (env::outer))(hf:env.frame=some L)(hy:∀ b,s.heap.objs.size<=b->Y b)(x:Exc s.heap Y e cls dx ch fl)(hfl:fl=none\/fl=some .none)
 (q:∀ h',Stay Y e (frs (env::outer)) s.heap h'->Exc h' Y e cls dx ch (some .none)->Q () { s with heap:=h' }):wpAny M A (leaving env (.ref e)) Q E s:=by
 unfold leaving
 refine wpAny_bind (note_ok hfr hl hf hy x hfl fun h₁ st x1=>?_)
 exact land_ok (s:={ s with heap:=h₁ }) (fs:=frs (env::outer)) (fun b hb=>((st.funs hl).mem hb).2) x1 fun h₂ st2 x2=>q h₂ (st.trans st2) x2
end
end L2
end
section
namespace L2
open PySem PySem.Spec PyProof.Rows
theorem Exc.mono{h:Heap}{Y Y':Addr->Prop}{e:Addr}{cls:Value}{dx:Option Addr}{ch:List (Addr×Obj)}{fl:Option Value}(x:Exc h Y e cls dx ch fl)(k:∀ b,Y b->Y' b):Exc h Y' e cls dx ch fl:=by
 obtain⟨oe,vs,he,hc,hdx,hd,⟨lk,l1,l2⟩,hh⟩:=x
 refine⟨oe,vs,he,hc,hdx,hd,⟨lk,l1,fun p hp=>let ⟨a,b,c,d⟩:=l2 p hp;⟨a,b,c,k _ d⟩⟩,?_⟩
 cases fl with
 | none=>exact hh
 | some v=>obtain⟨T,oT,ts,h1,h2,h3,r⟩:=hh;exact⟨T,oT,ts,h1,h2,⟨k T h3.1,h3.2⟩,r⟩
def Yg(old:Heap)(H:Hp)(b:Addr):Prop:=old.get? b=none/\H b=none
def CX1(P:Program)(w:World):CXT:=fun outer H s E e s'=>∃ ea cls dx ch H',e=.ref ea/\s'.os=s.os/\AllBare s'.gens/\Un (frs outer) [] H H' s.heap s'.heap/\HOk P w H' s'.heap /\
 Exc s'.heap (Yg s.heap H') ea cls dx ch (some .none)/\s.heap.get? ea=none/\H' ea=none/\E cls dx H'
def Throws(X:Cx)(E:XK):Prop:=∀ (pins:List (Addr×Obj)) (σ:St) (H:Hp) (s:Shared) (e:Addr) (cls:Value) (dx:Option Addr) (ch:List (Addr×Obj)) (fl:Option Value),Inv X pins σ H s->Exc s.heap (Yg X.s₀.heap H) e cls dx ch fl->(fl=none\/fl=some .none) ->
 X.s₀.heap.get? e=none->H e=none->E cls dx H->X.xe (.ref e) s
section
variable{X:Cx}{E:XK}{pins:List (Addr×Obj)}{σ:St}{H:Hp}{s:Shared}
theorem Inv.young(I:Inv X pins σ H s)(hx:X.ex=[]){b:Addr}(h:s.heap.get? b=none):X.s₀.heap.get? b=none:=by
 cases q:X.s₀.heap.get? b with
 | none=>rfl
 | some o =>
  obtain⟨o',e⟩:=I.base.there b o q (by rw[hx];simp)
  rw[h]at e;cases e
theorem frs_cons{env:Env}{outer:List Env}{L:Addr}(h:env.frame=some L):frs (env::outer)=L::frs outer:=by unfold frs;rw[List.filterMap_cons,h]
end
section
variable{P:Program}{w:World}{K:PySem.W.Frag}{mg:Str->Option Value}{base:Heap}{N:List Str}{qual:Str}{scope:Scope}{f:Addr}{cd:Value}{A:Around}{outer:List Env}{s:Shared}{H:Hp}{E:XK}
theorem throws0:Throws (cxOf (CX1 P w) P w K mg base N qual scope f cd A outer s H E) E:=by
 intro pins σ H' s' e cls dx ch fl I x hfl n1 n2 hE
 have n1:s.heap.get? e=none:=n1
 have fr:frs (envOfC qual scope s.heap.objs.size f cd::outer)=s.heap.objs.size::frs outer:=frs_cons rfl
 have stk:s'.heap.FunFrames base (envOfC qual scope s.heap.objs.size f cd::outer):=I.stack
 have sf:∀ b∈frs (envOfC qual scope s.heap.objs.size f cd::outer),H' b=none:=I.stkFree
 have ib:Un (frs outer) [] H H' s.heap s'.heap:=I.base
 show wpAny (model P w) _ (leaving _ (.ref e)) _ _ s'
 refine leave_ok (base:=base) (Y:=Yg s.heap H') (L:=s.heap.objs.size) (fl:=fl) I.ok.frames stk rfl (fun b hb=>⟨Heap.get?_none_of_le (Nat.le_trans I.sz hb),I.hok.fresh hb⟩) x hfl fun h' st x'=>?_
 have nf:∀ b o,s.heap.get? b=some o->b∉frs outer->b∉frs (envOfC qual scope s.heap.objs.size f cd::outer):=fun b o q hb hm=>by
  rw[fr]at hm
  rcases List.mem_cons.mp hm with z | z
  ·rw[z]at q;exact absurd (Heap.lt_size q) (Nat.lt_irrefl _)
  ·exact hb z
 have ne:∀ b o,s.heap.get? b=some o->b≠e:=fun b o q z=>by rw[z,n1]at q;cases q
 have ny:∀ b o (o':Obj),s.heap.get? b=some o->¬ (Yg s.heap H' b/\o'.cls=.type "traceback"):=fun b o o' q y=>by rw[y.1.1]at q;cases q
 refine⟨e,cls,dx,ch,H',rfl,I.os,I.bare,⟨fun b o q n hb hx=>?_,fun b o q n hb hx=>?_,ib.free,fun b o q hx=>?_,ib.tups,ib.frzs,ib.tbls⟩,fun b u eb=>?_,x',n1,n2,hE⟩
 ·exact st.keep b o (ib.keep b o q n hb hx) (ne b o q) (ny b o _ q) (nf b o q hb)
 ·obtain⟨sl,q1⟩:=ib.slot b o q n hb hx
  obtain⟨_,o2,q2,hn⟩:=stk.mem (show b∈frs _ by rw[fr];exact List.mem_cons_of_mem _ hb)
  rw[q1]at q2;cases q2
  obtain⟨sl',q3⟩:=st.slot b _ q1 hn
  exact⟨sl',q3⟩
 ·obtain⟨o',q1⟩:=ib.there b o q hx
  by_cases hn:∀ vs,o'.data≠.fields vs
  ·obtain⟨sl,q2⟩:=st.slot b o' q1 hn
   exact⟨_,q2⟩
  ·refine⟨o',st.keep b o' q1 (ne b o q) (ny b o _ q) fun hm=>?_⟩
   obtain⟨_,o2,q2,hn2⟩:=stk.mem hm
   rw[q1]at q2;cases q2
   exact hn hn2
 ·refine(I.hok b u eb).stay (fun c v hc q=>?_) (fun _ q=>q) fun _ _ q=>q
  have hc':H' c≠none:=by
   rcases hc with z | z
   ·rw[z,eb];simp
   ·rw[z];simp
  exact st.keep c v q (fun z=>hc' (by rw[z];exact n2)) (fun y=>hc' y.1.2) fun hm=>hc' (sf c hm)
theorem own1:PassesOwn (model P w) (cxOf (CX1 P w) P w K mg base N qual scope f cd A outer s H E).A (cxOf (CX1 P w) P w K mg base N qual scope f cd A outer s H E).env (cxOf (CX1 P w) P w K mg base N qual scope f cd A outer s H E).xe:=PassesOwn.leaving (Q₁:=fun e s''=>CX1 P w outer H s E e s'')
end
theorem ObjOk.obj{P:Program}{w:World}{H:Hp}{h:Heap}{a:Addr}{o:HO}(x:ObjOk P w H h a o):∃ ob,h.get? a=some ob:=by
 cases o with
 | lst xs=>obtain⟨_,_,_,_,e⟩:=x;exact⟨_,e⟩
 | tup xs=>obtain⟨_,_,_,p⟩:=x;obtain⟨o,e,_⟩:=p;exact⟨_,e⟩
 | dK kvs=>obtain⟨_,_,_,_,o,_,_,e,_⟩:=x;exact⟨_,e⟩
 | dT kvs=>obtain⟨_,_,_,_,o,_,_,e,_⟩:=x;exact⟨_,e⟩
 | set S n=>obtain⟨o,_,_,_,e,_⟩:=x;exact⟨_,e⟩
 | ins C dx fs=>obtain⟨_,_,_,e,_⟩:=x;exact⟨_,e⟩
 | own y=>exact x
 | xd fs=>obtain⟨_,⟨_,_,_,e,_⟩,_⟩:=x;exact⟨_,e⟩
 | rng lo hi=>obtain⟨_,_,_,e⟩:=x;exact⟨_,e⟩
 | frz ob u=>obtain⟨e,_⟩:=x;exact⟨_,e⟩
 | tbl ps=>exact⟨_,x⟩
 | met f y=>exact⟨_,x⟩
 | ext φ=>obtain⟨_,e,_⟩:=x;exact e
theorem HOk.none_of{P:Program}{w:World}{H:Hp}{h:Heap}{a:Addr}(x:HOk P w H h)(e:h.get? a=none):H a=none:=by
 cases q:H a with
 | none=>rfl
 | some u=>obtain⟨o,e'⟩:=(x a u q).obj;rw[e]at e';cases e'
structure ExcC(K:PySem.W.Frag)(C:Addr)(bm bmB:List Value)(newId:String):Prop where
 ex:∃ nm q N bs hdct sn sub ab col dd k0 k1 k2 k3 k5,K.lookup C=some (excClassObj nm q C N bs bm hdct sn sub ab col dd k0 k1 k2 k3 k5 newId)/\PySem.W.nsOkIn K N=true/\PySem.W.nsIn K N "__init__"=some none
 tail:PySem.W.tailIn K bmB bm=true
section
variable{X:Cx}{E:XK}{x:Str}{C:Addr}{bm bmB:List Value}{B newId initId:String}{np cpos pos:Pos}
end
end L2
end
section
namespace L2
open PySem PySem.Spec PyProof.Rows
structure Old(X:Cx)(pins:List (Addr×Obj))(old:Heap):Prop where
 ent:∀ b,old.get? b=none->X.s₀.heap.get? b=none
 pin:∀ p∈X.pn++pins,old.get? p.1≠none
def X1P(X:Cx)(pins:List (Addr×Obj))(σ:St)(E:XK)(ev:Value)(s':Shared):Prop :=
 ∃ ea cls dx ch H' old,ev=.ref ea/\Inv X pins σ H' s'/\Exc s'.heap (Yg old H') ea cls dx ch (some .none)/\Old X pins old/\(∀ b,s'.heap.objs.size<=b->old.get? b=none)/\old.get? ea=none/\H' ea=none/\E cls dx H'
abbrev TE1:=St->Hp->VK->XK->Prop
abbrev TS1:=Ends->St->Hp->XK->Prop
def PE1(X:Cx)(e:Expr)(t:TE1):Prop :=
 ∀ (pins:List (Addr×Obj)) (s:Shared) (σ:St) (H:Hp) (Q:VK) (E:XK),Inv X pins σ H s->t σ H Q E->wpAny (model X.prog X.w) X.A (eval e X.env) (EP X pins σ Q) (X1P X pins σ E) s
def PS1(X:Cx)(st:Stmt)(t:TS1):Prop :=
 ∀ (pins:List (Addr×Obj)) (s:Shared) (σ:St) (H:Hp) (D:Ends) (E:XK),Inv X pins σ H s->t D σ H E->wpAny (model X.prog X.w) X.A (exec st X.env) (SP X pins D) (X1P X pins σ E) s
section
variable{X:Cx}{E:XK}{e:Expr}{es:List Expr}{t:TA}{t1:TE1}{x:Str}{p pos:Pos}{k j:Nat}{f:Addr}{fd:FuncData}{ps:List Str}{sp:Sp}
theorem X1P.thrown{pins:List (Addr×Obj)}{σ:St}{ev:Value}{s':Shared}(T:Throws X E)(h:X1P X pins σ E ev s'):X.xe ev s':=by
 obtain⟨ea,cls,dx,ch,H',old,rfl,I,y,o,_,n1,n2,hE⟩:=h
 exact T pins σ H' s' ea cls dx ch _ I (y.mono fun b z=>⟨o.ent b z.1,z.2⟩) (.inr rfl) (o.ent _ n1) n2 hE
theorem PE1.pe(h:PE1 X e t1)(T:Throws X E):PE X e (fun σ H Q=>t1 σ H Q E):=fun pins s σ H Q I q=>wpAny_mono (h pins s σ H Q E I q) (fun _ _ z=>z) fun _ _ z=>z.thrown T
theorem Inv.old{pins:List (Addr×Obj)}{σ:St}{H:Hp}{s:Shared}(I:Inv X pins σ H s)(hex:X.ex=[]):Old X pins s.heap :=
 ⟨fun b h=>I.young hex h,fun p hp h=>by rw[(I.pin p hp).1]at h;cases h⟩
theorem run_fn1{pins:List (Addr×Obj)}{σ:St}{H:Hp}{s:Shared}{Q:VK}{us:List Value}{vs:List V}(F:FnOk X.prog X.w X.K X.mg X.base (CX1 X.prog X.w) k f fd ps sp)(hr:Room k X.A)(hb:Binds X.K fd ps [])(hex:X.ex=[])
 (I:Inv X pins σ H s) (r:Vals vs us) (h:sp vs H Q E):wpAny (model X.prog X.w) X.A (call (.ref f) us) (EP X pins σ Q) (X1P X pins σ E) s:=by
 have hl:(us++[]).length=ps.length:=by rw[List.append_nil,<- r.length];exact F.len _ _ _ _ h
 have b:=hb s us I.kIn hl
 rw[List.append_nil]at b
 refine wpAny_call (codeAny_mono (F.run X.A X.stack s H ⟨us,[]⟩ us vs Q E hr I.env0 b r h) fun res s' hq=>?_)
 cases res with
 | error ev =>
  obtain⟨ea,cls,dx,ch,H',rfl,os,bare,un,hok,y,n1,n2,hE⟩:=hq
  refine⟨ea,cls,dx,ch,H',s.heap,rfl,I.call' (ch:=[]) os un hok bare (fun b z=>absurd z (by simp)),y,I.old hex,fun b hb=>?_,n1,n2,hE⟩
  cases q:s.heap.get? b with
  | none=>rfl
  | some u =>
   obtain⟨u',q'⟩:=un.there b u q (by simp)
   exact absurd (Nat.lt_of_lt_of_le (Heap.lt_size q') hb) (Nat.lt_irrefl _)
 | ok fl =>
  cases fl with
  | ret u=>exact I.after hq
  | next=>exact False.elim hq
  | brk=>exact False.elim hq
  | cont=>exact False.elim hq
def tCall1(sp:Sp)(t:TA):TE1:=fun σ H Q E=>t σ H fun vs H1=>sp vs H1 Q E
theorem pa_nox{pins:List (Addr×Obj)}{σ:St}{H:Hp}{s:Shared}{Q:List V->Hp->Prop}{W:Value->Shared->Prop}(ha:PA X.nox es t)(I:Inv X pins σ H s)(q:t σ H Q):wpAny (model X.prog X.w) X.A (spliced (backTo pos (starEach es X.env))) (AP X pins σ Q) W s :=
 wpAny_mono (ha pos pins s σ H Q (I.wish _) q) (fun _ _ ⟨vs,H',I',r,z⟩=>⟨vs,H',I'.unwish,r,z⟩) fun _ _ z=>False.elim z
theorem pe1_call(F:FnOk X.prog X.w X.K X.mg X.base (CX1 X.prog X.w) k f fd ps sp)(hr:Room k X.A)(hg:Gl X x)(hm:X.mg x=some (.ref f))(hk:PySem.W.keepIn X.K (.ref f)=true)(hb:Binds X.K fd ps [])(hex:X.ex=[])
 (ha:PA X.nox (e::es) t) (hdb:(x == ("__debug__":Str))=false:=by decide) (he:starEach (e::es) X.env=(false,eval e X.env)::starEach es X.env:=by rfl) (hpl:(backTo pos (starEach es X.env)).any (·.1)=false:=by rfl) :
 PE1 X (.Call (.Name x p) (e::es) [] pos) (tCall1 sp t):=by
 intro pins s σ H Q E I h
 refine wpAny_Call_Name_kw (ld_glob I hg hm ?_ hdb)
 refine PySem.W.callWith_K (h₀:=X.base) I.ok.mod.kin hk (thn (pa_nox ha I h) fun us s1 ⟨vs,H1,I1,r,q⟩=>⟨I1.kIn,?_⟩) he hpl
 exact run_fn1 F hr hb hex I1 r q
theorem ps1_expr(h:PE1 X e t1)(hs:swapsWith e none pos.line X.env=pure false:=by rfl):PS1 X (.Expr e pos) (fun D σ H E=>t1 σ H (fun _ H1=>D.nx σ H1) E):=fun pins s σ H D E I q =>
 wpAny_Expr_any (thn (h pins s σ H _ E I q) fun v s1 ⟨x,H1,I1,r1,q1⟩=>⟨σ,H1,I1,q1⟩) I.quiet hs
end
section
variable{X:Cx}{pins:List (Addr×Obj)}{σ:St}{H:Hp}{s:Shared}
theorem ns_slot{h h':Heap}{a:Addr}{m:Str->Option Value}(hn:h.Ns a m)(k:∀ o,h.get? a=some o->(∀ vs,o.data≠.fields vs)->∃ sl,h'.get? a=some { o with slots:=sl }):h'.Ns a m:=by
 obtain⟨o,es,ep,ho,hd,r⟩:=hn
 obtain⟨sl,e⟩:=k o ho fun vs q=>by rw[hd]at q;cases q
 exact⟨_,es,ep,e,hd,r⟩
theorem Inv.stayed{old h':Heap}{e:Addr}(I:Inv X pins σ H s)(hex:X.ex=[])(o:Old X pins old)(n1:old.get? e=none)(n2:H e=none)(st:Stay (Yg old H) e (frs X.stack) s.heap h'):Inv X pins σ H { s with heap:=h' }:=by
 have ne:∀ b,X.s₀.heap.get? b≠none->b≠e:=fun b q z=>q (by rw[z];exact o.ent _ n1)
 have ny:∀ b (u:Obj),X.s₀.heap.get? b≠none->¬ (Yg old H b/\u.cls=.type "traceback"):=fun b _ q y=>q (o.ent _ y.1.1)
 have sub:∀ b,b∈frs X.stack->b=X.env.locals\/b∈X.fs:=fun b hb=>List.mem_cons.mp (I.stkSub b hb)
 have nl:∀ b u,X.s₀.heap.get? b=some u->b≠X.env.locals:=fun b u q=>Nat.ne_of_lt (Nat.lt_of_lt_of_le (Heap.lt_size q) I.ok.above)
 have xn:∀ b:Addr,b∉X.ex:=fun b z=>by rw[hex]at z;exact absurd z (by simp)
 have ck:∀ c v,s.heap.IsCell c v->({ s with heap:=h' }:Shared).heap.IsCell c v:=fun c v ⟨oc,hc,hd⟩=>by
  obtain⟨sl,q⟩:=st.slot c oc hc fun vs z=>by rw[hd]at z;cases z
  exact⟨_,q,hd⟩
 refine⟨I.ok,I.os,I.bare,⟨fun b u q n hb hx=>?_,fun b u q n hb hx=>?_,I.base.free,fun b u q hx=>?_,I.base.tups,I.base.frzs,I.base.tbls⟩,?_,fun y c q=>?_,I.free,I.freeC,fun p hp=>?_,fun b u eb=>?_,I.len⟩
 ·exact st.keep b u (I.base.keep b u q n hb hx) (ne b (by rw[q];simp)) (ny b _ (by rw[q];simp)) fun hm=>(sub b hm).elim (nl b u q) hb
 ·obtain⟨sl,q1⟩:=I.base.slot b u q n hb hx
  obtain⟨_,o2,q2,hn⟩:=I.ok.funs.mem hb
  rw[q]at q2;cases q2
  obtain⟨sl',q3⟩:=st.slot b _ q1 hn
  exact⟨sl',q3⟩
 ·obtain⟨u',q1⟩:=I.base.there b u q hx
  by_cases hn:∀ vs,u'.data≠.fields vs
  ·obtain⟨sl,q2⟩:=st.slot b u' q1 hn
   exact⟨_,q2⟩
  ·refine⟨u',st.keep b u' q1 (ne b (by rw[q];simp)) (ny b _ (by rw[q];simp)) fun hm=>?_⟩
   obtain⟨_,o2,q2,hn2⟩:=I.stack.mem hm
   rw[q1]at q2;cases q2
   exact hn hn2
 ·obtain⟨m,hn,hl⟩:=I.loc
  refine⟨m,ns_slot hn fun u q n=>st.slot _ u q n,fun i y v e1 e2 e3=>?_⟩
  obtain⟨u,r,l⟩:=hl i y v e1 e2 e3
  refine⟨u,r,?_⟩
  rcases l with l | ⟨k,c,ec,z⟩
  ·exact .inl l
  ·exact .inr ⟨k,c,ec,ck c _ z⟩
 ·obtain⟨v,z⟩:=I.cell y c q
  exact⟨v,ck c v z⟩
 ·obtain⟨q,n,a,b,d⟩:=I.pin p hp
  have hq:=o.pin p hp
  exact⟨st.keep p.1 p.2 q (fun z=>hq (by rw[z];exact n1)) (fun y=>hq y.1.1) fun hm=>(sub p.1 hm).elim a b,n,a,b,d⟩
 ·refine(I.hok b u eb).stay (fun c v hc q=>?_) (fun _ q=>q) fun _ _ q=>q
  have hc':H c≠none:=by
   rcases hc with z | z
   ·rw[z,eb];simp
   ·rw[z];simp
  exact st.keep c v q (fun z=>hc' (by rw[z];exact n2)) (fun y=>hc' y.1.2) fun hm=>hc' (I.stkFree c hm)
abbrev Cx.held(X:Cx)(ea:Addr)(ps:List (Addr×Obj)):Cx:={ X with A:=X.A.mark (some (.ref ea)),calm:=false,pn:=ps++X.pn }
theorem Inv.held{ea:Addr}{ps:List (Addr×Obj)}(I:Inv X pins σ H s)(h:∀ p∈ps,s.heap.get? p.1=some p.2/\H p.1=none/\p.1≠X.env.locals/\p.1∉X.fs/\∀ v,p.2.data≠.cell v):Inv (X.held ea ps) pins σ H s :=
 ⟨⟨I.ok.mod,I.ok.kind,I.ok.glob,I.ok.blt,I.ok.above,I.ok.inj,I.ok.has,I.ok.cab,(fun h=>by cases h),I.ok.frames,I.ok.stk,I.ok.exf,I.ok.bs,I.ok.bsz,I.ok.noex,I.ok.exfs,I.ok.funs,I.ok.frf⟩,I.os,I.bare,I.base,I.loc,I.cell,I.free,I.freeC,fun p hp=>by
  have hp:p∈(ps++X.pn)++pins:=hp
  rw[List.append_assoc]at hp
  exact(List.mem_append.mp hp).elim (h p) (I.pin p),I.hok,I.len⟩
theorem Inv.unheld{ea:Addr}{ps:List (Addr×Obj)}(I:Inv (X.held ea ps) pins σ H s)(ok:X.Ok):Inv X pins σ H s:=⟨ok,I.os,I.bare,I.base,I.loc,I.cell,I.free,I.freeC,fun p hp=>I.pin p (by show p∈(ps++X.pn)++pins;rw[List.append_assoc];exact List.mem_append_right _ hp),I.hok,I.len⟩
end
section
variable{X:Cx}{st b₀:Stmt}{suite:List Stmt}{t1:TS1}{ts:TS}{x:Str}{C:Addr}{bm bmB:List Value}{B newId initId:String}{np hpos pos:Pos}
end
end L2
end
section
namespace L2
open PySem PySem.Spec PyProof.Rows
section
variable{prog:Program}{w:World}{A:Around}{s:Shared}{R:Result->Shared->Prop}{value:Value}
end
section
variable{M:Model}{A:Around}{E:Value->Shared->Prop}{env:Env}
variable{nm q:Str}{C N:Addr}{bs bm:List Value}{hdct:Bool}{sn:List Str}{sub:List Value}{ab:Bool}{col:Option Bool}{dd:Option Addr}{k0 k1 k2 k3 k5:Option Value}{newId:String}
end
section
variable{X:Cx}{E:XK}{x:Str}{C ea:Addr}{ps:List (Addr×Obj)}{bm bmB:List Value}{B newId initId:String}{np cpos kpos pos:Pos}{j:Nat}
end
end L2
end
section
namespace L2
open PySem PySem.Spec PyProof.Rows
def MeV(P:Program)(w:World)(K:PySem.W.Frag)(mg:Str->Option Value)(base:Heap)(k:Nat)(C:Addr)(m:Str)(sp:Sp):Prop :=
 ∃ f fd ps,Meth K C m f/\FnOk P w K mg base (CX1 P w) k f fd ps sp/\Binds K fd ps []
section
variable{X:Cx}{C:Addr}{m x:Str}{k i:Nat}{sp:Sp}{ta:TE}{t:TA}{e o:Expr}{es:List Expr}{p pos apos:Pos}{pl:Sem Bool}
theorem pe_noxW{pins:List (Addr×Obj)}{σ:St}{H:Hp}{s:Shared}{Q:VK}{W:Value->Shared->Prop}(h:PE X.nox e ta)(I:Inv X pins σ H s)(q:ta σ H Q):wpAny (model X.prog X.w) X.A (eval e X.env) (EP X pins σ Q) W s :=
 wpAny_mono (h pins s σ H Q (I.wish _) q) (fun _ _ ⟨v,H',I',r,z⟩=>⟨v,H',I'.unwish,r,z⟩) fun _ _ z=>False.elim z
end
section
variable{P:Program}{w:World}{K:PySem.W.Frag}{mg:Str->Option Value}{base:Heap}
theorem Fun.ok1{x qual:Str}{st:Stmt}{f:Addr}{fd:FuncData}{N ps:List Str}{k:Nat}{sp:Sp}(F:Fun K x qual st f fd)(S:FnScope N ps (defScope st))(len:∀ vs H Q E,sp vs H Q E->vs.length=ps.length)
 (hbody:∀ (cdv:Value) (A:Around) (outer:List Env) (s:Shared) (H:Hp) (vs:List V) (Q:VK) (E:XK),Room k (A.deeper (envOfC qual (defScope st) s.heap.objs.size f cdv))->sp vs H Q E ->
  ∃ t,PSs (cxOf (CX1 P w) P w K mg base N qual (defScope st) f cdv A outer s H E) (defBody st) t/\t { nx:=fun _ H'=>Q .non H',rt:=Q } (start N vs) H):FnOk P w K mg base (CX1 P w) (k+1) f fd ps sp:=by
 obtain⟨oc,od,kV,doc,pm,an,cdv,ct,osl,rfl,lk,hcd⟩:=F.ex
 exact fn_of lk hcd S len fun A outer s H vs Q E hr hsp=>hbody cdv A outer s H vs Q E hr hsp
end
end L2
end
section
namespace L2
open PySem PySem.Spec PyProof.Rows
section
variable{X:Cx}
theorem throwsN:Throws X E0:=fun _ _ _ _ _ _ _ _ _ _ _ _ _ _ h=>h.elim
end
section
variable{P:Program}{w:World}{K:PySem.W.Frag}{mg:Str->Option Value}{base:Heap}{N:List Str}{qual:Str}{scope:Scope}{f:Addr}{cd:Value}{A:Around}{outer:List Env}{s:Shared}{H:Hp}{E:XK}
end
end L2
end
section
namespace L2
open PySem PySem.Spec PyProof.Rows
def Cal1(P:Program)(w:World)(K:PySem.W.Frag)(mg:Str->Option Value)(base:Heap)(k:Nat)(x:Str)(ps:List Str)(sp:Sp):Prop :=
 ∃ f fd,FnOk P w K mg base (CX1 P w) k f fd ps sp/\Binds K fd ps []/\PySem.W.keepIn K (.ref f)=true/\mg x=some (.ref f)
def MkV(P:Program)(w:World)(K:PySem.W.Frag)(mg:Str->Option Value)(base:Heap)(k:Nat)(x:Str)(C:Addr)(sp:Sp):Prop :=
 ∃ f fd ps,Mk K C f/\FnOk P w K mg base CX0 k f fd ps sp/\Binds K fd ps []/\mg x=some (.ref C)
section
variable{X:Cx}{e o:Expr}{es:List Expr}{t:TA}{ta:TE}{p pos apos:Pos}{j k:Nat}{x m:Str}{ps:List Str}{sp:Sp}{C:Addr}{E:XK}{pl:Sem Bool}
theorem pe1_cal(G:Cal1 X.prog X.w X.K X.mg X.base j x ps sp)(hr:Room k X.A)(hj:j<=k)(hg:Gl X x)(hex:X.ex=[])(ha:PA X.nox (e::es) t)(hdb:(x == ("__debug__":Str))=false:=by decide)
 (he:starEach (e::es) X.env=(false,eval e X.env)::starEach es X.env:=by rfl) (hpl:(backTo pos (starEach es X.env)).any (·.1)=false:=by rfl):PE1 X (.Call (.Name x p) (e::es) [] pos) (tCall1 sp t):=by
 obtain⟨f,fd,F,b,kp,m⟩:=G
 exact pe1_call F (hr.mono hj) hg m kp b hex ha hdb he hpl
theorem MeV.mono{P:Program}{w:World}{K:PySem.W.Frag}{mg:Str->Option Value}{base:Heap}(G:MeV P w K mg base j C m sp)(hj:j<=k):MeV P w K mg base k C m sp:=by
 obtain⟨f,fd,ps,a,F,b⟩:=G
 exact⟨f,fd,ps,a,F.mono hj,b⟩
theorem pe_mk(G:MkV X.prog X.w X.K X.mg X.base j x C sp)(hr:Room k X.A)(hj:j+1<=k)(hg:Gl X x)(ha:PA X (e::es) t)(hdb:(x == ("__debug__":Str))=false:=by decide)
 (he:starEach (e::es) X.env=(false,eval e X.env)::starEach es X.env:=by rfl) (hpl:(backTo pos (starEach es X.env)).any (·.1)=false:=by rfl):PE X (.Call (.Name x p) (e::es) [] pos) (tMake C sp [] E0 t):=by
 obtain⟨f,fd,ps,M,F,b,hm⟩:=G
 exact pe_make M F (hr.mono hj) hg hm b .nil pass0 ha hdb he hpl
theorem pe_gfn{f:Addr}(hm:X.mg x=some (.ref f))(hg:Gl X x)(hd:(x == ("__debug__":Str))=false:=by decide):PE X (.Name x pos) (tC (.ref f)):=pe_glob hg hm rfl hd
end
end L2
end
section
namespace Tg
open PySem L2 Pl
def signB(c:Nat):Bool:=decide (32<=c/\c<=126/\c≠37)
def goodZ(z:Str):Prop:=z.length<=10000000
def flatG:V->Prop
 | .non=>True
 | .bl _=>True
 | .int _=>True
 | .str z=>goodZ z
 | _=>False
def TT:Nat->Hp->V->Prop
 | 0,H,v=>flatG v\/∃ a,v=.ref a/\((∃ xs,H a=some (.lst xs))\/H a=some (.dK [])\/∃ xs,H a=some (.tup xs)/\xs.length<=100000)
 | n+1,H,v=>flatG v\/∃ a,v=.ref a/\((∃ xs,H a=some (.lst xs))\/H a=some (.dK [])\/∃ xs,H a=some (.tup xs)/\xs.length<=100000/\∀ u∈xs,TT n H u)
end Tg
end
section
namespace L2
open PySem PySem.Spec PyProof.Rows
section
variable{X:Cx}
end
end L2
namespace L2
open PySem PySem.Spec PyProof.Rows
end L2
end
section
namespace L2
open PySem PySem.Spec PyProof.Rows
section
variable{X:Cx}
end
end L2
end
section
namespace L2
open PySem PySem.Spec PyProof.Rows
end L2
end
section
namespace PySem
section
variable{prog:Program}{w:World}{A:Around}{E:Value->Shared->Prop}{h:Heap}{g:Array GenState}{d:Drawn}{t:Nat}{os:OsState}
variable{nm q:Str}{C N:Addr}{bs bm bmB:List Value}{hdct:Bool}{sn:List Str}{sub:List Value}{ab:Bool}{col:Option Bool}{dd:Option Addr}{k0 k1 k2 k3 k5:Option Value}{B newId initId:String}
abbrev excRec(h:Heap)(C:Addr):Obj:={ cls:=.ref C,data:=.fields #[.ref h.objs.size,.none,.none,.none,.bool false,.none] }
abbrev excTup(rest:List Value):Obj:={ cls:=.type "tuple",data:=.seq rest.toArray }
end
end PySem
end
section
namespace PySem.W
open PySem PySem.Spec PySem.Calls PyProof.Rows PySem.Builtin PySem.Builtin.ObjectAttr
abbrev bmV:List Value:=[.type "ValueError",.type "Exception",.type "BaseException",.type "object"]
structure XCl(K:Frag)(C CT:Addr):Prop where
 cl:∃ nm q N bs sn sub ab col dd k0 k1 k2 k3 k5,K.lookup C=some (excClassObj nm q C N bs (.ref CT::bmV) true sn sub ab col dd k0 k1 k2 k3 k5 "ValueError.__new__")/\nsOkIn K N=true
 tail:tailIn K bmV (.ref CT::bmV)=true
 ga:findIn K (.ref C) "__getattribute__"=some (some (.builtin "BaseException.__getattribute__"))
 gt:findIn K (.ref C) "__getattr__"=some none
 sa:findIn K (.ref C) "__setattr__"=some (some (.builtin "object.__setattr__"))
 cc:findIn K (.ref C) "__class__"=some (some (.builtin "object.__class__"))
 cg:specialIn K (.builtin "object.__class__") "__get__"=some (some (.builtin "getset_descriptor.__get__"))
 ct:takesIn K (.builtin "object.__class__")=some true
section
variable{K:Frag}{C CT:Addr}
theorem XCl.cd(c:XCl K C CT):∃ cd,clsIn K C=some cd/\cd.mro=.ref C::.ref CT::bmV/\cd.hasDict=true:=by
 obtain⟨nm,q,N,bs,sn,sub,ab,col,dd,k0,k1,k2,k3,k5,lk,_⟩:=c.cl
 have e:clsIn K C=(match (excClassObj nm q C N bs (.ref CT::bmV) true sn sub ab col dd k0 k1 k2 k3 k5 "ValueError.__new__") with | ⟨_,_,.cls cd,_⟩=>some cd | _=>none):=by unfold clsIn;rw[lk]
 exact⟨_,e,rfl,rfl⟩
theorem XCl.has(c:XCl K C CT):hasDictIn K C=true:=by
 obtain⟨cd,h,_,d⟩:=c.cd
 unfold hasDictIn;rw[h];exact d
theorem XCl.mro(c:XCl K C CT)(T:Value):mroIn K C T=some ((Value.ref C::.ref CT::bmV).contains T):=by
 obtain⟨cd,h,m,_⟩:=c.cd
 unfold mroIn;rw[h,Option.bind_some,m];rfl
theorem XCl.mroT(c:XCl K C CT){T:String}(h:bmV.contains (.type T)=true):mroIn K C (.type T)=some true:=by
 rw[c.mro,List.contains_cons,List.contains_cons,h];rfl
end
section
variable{prog:Program}{w:World}{A:Around}{E:Value->Shared->Prop}{s:Shared}{K:Frag}{x C CT:Addr}{ox:Obj}{od:Option Obj}{name:Str}
theorem xget_open{tk:Tok}{fill expr:Bool}{Q:Value->Shared->Prop}(X:K.In s.heap)(I:InstAt s.heap x ox C od)(c:XCl K C CT)
 (h:wpAny (model prog w) A.in1 (Builtin.«object.__getattribute__» ⟨[.ref x,.str name tk],[]⟩)
  (fun fin s'=>match fin with | .done (.ret v)=>wpAny (model prog w) A (handedOut v) Q E s' | _=>False) (fun _ _=>False) s) :
 wpAny (model prog w) A (getAttrBy (.ref x) (.str name tk) fill expr) Q E s:=by
 have L0:=I.type (M:=model prog w)
 have L1:=looks_findIn (M:=model prog w) X c.ga
 have SL:=PySem.F.attr_ValueError.ga
 unfold getAttrBy
 refine wpAny_holding (wpAny_bind (L0.here (wpAny_bind (L1.here ?_))))
 dsimp only
 rw[show(onTheHeap (Value.ref C) && Value.builtin "BaseException.__getattribute__" == Value.builtin "object.__getattribute__")=false from by rw[show(Value.builtin "BaseException.__getattribute__" == Value.builtin "object.__getattribute__")=false from by decide +kernel,Bool.and_false],if_neg (by decide)]
 unfold getAttrByItsOwn
 refine wpAny_bind ((looks_hook (mc:=.ref C) X (r:=none) (by show(if onTheHeap (.ref C)=true then findIn K (.ref C) "__getattr__" else some none)=some none;rw[if_pos (show onTheHeap (Value.ref C)=true from rfl)];exact c.gt)).here (wpAny_bind (wpAny_attempt (wpAny_holding ?_))))
 unfold callGetattribute
 rw[show(expr && onTheHeap (Value.builtin "BaseException.__getattribute__"))=false from Bool.and_false _,if_neg (by decide)]
 unfold boundAndCalled
 rw[SL.bind]
 refine wpAny_bind (wpAny_pure ?_)
 show wpAny _ _ (call (.builtin "BaseException.__getattribute__") [.ref x,.str name tk]) _ _ _
 refine wpAny_call ?_
 refine codeAny_call_builtin SL.plain PySem.F.entry_bexc_ga ?_
 refine @check_slot (model prog w) _ _ s "BaseException.__getattribute__" "BaseException" "__getattribute__" (.ref x) [.str name tk] [] _ (by decide +kernel) (by decide +kernel) (I.type.andThen (looks_mroIn X (c.mroT (by decide)))) (PySem.F.args_bexc_ga _ _) ?_
 refine wpAny_mono h (fun fin s' z=>?_) fun _ _ z=>z.elim
 rcases fin with (_ | _ | _ | _) | _ <;> first | exact z | exact z.elim
theorem xget_value{v:Value}{expr:Bool}{Q:Value->Shared->Prop}(X:K.In s.heap)(I:InstAt s.heap x ox C od)(c:XCl K C CT)(hf:findObj K C od name=some (.value v))(hh:handedIn v=true)(h:Q v { s with toks:=s.toks+1 }) :
 wpAny (model prog w) A (getAttr (.ref x) name expr) Q E s:=by
 unfold getAttr
 refine wpAny_bind (wpAny_mkText (xget_open (s:={ s with toks:=s.toks+1 }) X I c ?_))
 have L0:=I.type (M:=model prog w)
 have L1:=looks_find (M:=model prog w) X I hf
 unfold Builtin.«object.__getattribute__»
 refine wpAny_bind (wpAny_pure (wpAny_bind (wpAny_pure (wpAny_bind (L0.here (s:={ s with toks:=s.toks+1 }) (wpAny_bind (L1.here (s:={ s with toks:=s.toks+1 }) ?_)))))))
 refine wpAny_pure ?_
 show wpAny _ _ (handedOut v) _ _ _
 rw[handedOut_of hh];exact wpAny_pure h
theorem xget_class{Q:Option Value->Shared->Prop}(X:K.In s.heap)(I:InstAt s.heap x ox C od)(c:XCl K C CT)(h:Q (some (.ref C)) { s with toks:=s.toks+1 }):wpAny (model prog w) A (getAttr? (.ref x) "__class__") Q E s:=by
 have hf:findObj K C od "__class__"=some (.bind (.builtin "getset_descriptor.__get__") (.builtin "object.__class__")):=by
  obtain⟨cd,hc,_⟩:=c.cd
  simp only[findObj,hc,Option.bind_some,c.cc,c.cg,c.ct]
 unfold getAttr? getAttrBy?
 refine wpAny_bind (wpAny_mkText (wpAny_bind (wpAny_attempt (xget_open (s:={ s with toks:=s.toks+1 }) X I c ?_))))
 have L0:=I.type (M:=model prog w)
 have L1:=looks_find (M:=model prog w) X I hf
 unfold Builtin.«object.__getattribute__»
 refine wpAny_bind (wpAny_pure (wpAny_bind (wpAny_pure (wpAny_bind (L0.here (s:={ s with toks:=s.toks+1 }) (wpAny_bind (L1.here (s:={ s with toks:=s.toks+1 }) ?_)))))))
 show wpAny _ _ (holding [.builtin "object.__class__"] (call (.builtin "getset_descriptor.__get__") [.builtin "object.__class__",.ref x,.ref C]) >>= ret) _ _ _
 refine wpAny_bind (wpAny_holding (wpAny_call (class_get (s:={ s with toks:=s.toks+1 }) (ox:=ox) (od:=od) X I (c.mroT (by decide)) ?_)))
 refine wpAny_pure ?_
 show wpAny _ _ (handedOut (.ref C)) _ _ _
 exact wpAny_pure (wpAny_pure h)
theorem kitx_exc(c:XCl K C CT):KitX K (.ref x) (.ref C) (fun h=>InstAt h x ox C od) where
 ty:=fun _ _ _ I=>I.type
 it:=fun _ _ X _=>by
  obtain⟨cdD,hcD,_⟩:=c.cd
  unfold clsIn at hcD
  split at hcD
  ·rename_i c' d' cd' sl' ho
   intro A' Q' E' s' k q
   unfold isType loadHead
   exact wpAny_bind (wpAny_loadPart (k _ _ (X _ _ ho)) (wpAny_pure q))
  ·cases hcD
 ne:=fun h tp dd its n sl X htp=>by
  obtain⟨cdD,hcD,_⟩:=c.cd
  refine Bool.eq_false_iff.mpr fun q=>?_
  have e:C=tp:=Value.ref.inj (beq_iff_eq.mp q)
  subst e
  unfold clsIn at hcD
  split at hcD
  ·rename_i c' d' cd' sl' ho
   have z:=(X _ _ ho).symm.trans htp
   cases z
  ·cases hcD
 ca:=fun X I k=>xget_class X I c k
theorem xosa_open{R:Result->Shared->Prop}{tk:Tok}{v:Value}(X:K.In s.heap)(I:InstAt s.heap x ox C od)(c:XCl K C CT)(ht:findIn K (.ref C) name=some none)
 (h:∀ b,wpAny (model prog w) A.in1 (storeInOwnDict (.ref x) (.ref C) (.str name tk) name v b)
  (fun fin s'=>match fin with | .done f=>R (.ok f) s' | .again c'=>c'.quiet=true/\codeAny (model prog w) A c' R s') (fun e s'=>R (.error e) s') s) :
 codeAny (model prog w) A (.call (.builtin "object.__setattr__") ⟨[.ref x,.str name tk,v],[]⟩) R s:=by
 have SF:=PySem.F.store_object
 obtain⟨cd,hc,ho,_⟩:=c.cd
 have sub:Looks (model prog w) s.heap (isInstance (.ref x) (.type "object")) true:=I.type.andThen (looks_mroIn X (c.mroT (by decide)))
 refine codeAny_call_builtin SF.slot.plain SF.entry (@check_slot (model prog w) _ _ s "object.__setattr__" "object" "__setattr__" (.ref x) [.str name tk,v] [] _ SF.kind SF.split sub (SF.args (.ref x) (.str name tk) v) ?_)
 have hm:Looks (model prog w) s.heap (mroOf (.ref C)) cd.mro:=(looks_clsIn X hc).andThen .now
 rw[osa_eq,refuse_eq]
 refine wpAny_bind (wpAny_bind (I.type.here (wpAny_bind (hm.here ?_))))
 rw[ho,refuseLoop_ref,refuseLoop_ref,PySem.F.store_ValueError.passes]
 refine wpAny_pure (wpAny_bind (I.type.here (wpAny_bind ((looks_findIn X ht).here (wpAny_bind (wpAny_pure (a:=none) ?_))))))
 exact h _
theorem xset_none{v:Value}{Q:Unit->Shared->Prop}(X:K.In s.heap)(c:XCl K C CT)(ht:findIn K (.ref C) name=some none)(hx:s.heap.get? x=some ox)(hcl:ox.cls=.ref C)(hn:notCls ox=true)(hfr:ox.isFreed=false)
 (hd:ox.dict=none) (h:∀ h',h'.Ns1 s.heap.objs.size (fun y=>if y=name then some v else none)->h'.get? x=some { ox with dict:=some s.heap.objs.size }->(∀ b o,b≠x->s.heap.get? b=some o->h'.get? b=some o)->Q () { s with heap:=h',toks:=s.toks+2 }) :
 wpAny (model prog w) A (setAttr (.ref x) name v) Q E s:=by
 have J:InstAt s.heap x ox C none:=⟨hx,hcl,hn,by rw[hd];trivial⟩
 refine set_plain X J c.sa (xosa_open (s:={ s with toks:=s.toks+1 }) X J c ht fun b=>?_)
 obtain⟨cd,hc,_,hd'⟩:=c.cd
 obtain⟨oc,odi,oda,osl⟩:=ox
 dsimp only at hcl hd
 subst hcl hd
 refine wpAny_bind (wpAny_pure (wpAny_bind (wpAny_bind (wpAny_loadPart hx (wpAny_bind (Looks.here (s:={ s with toks:=s.toks+1 }) (looks_clsIn X hc) ?_))))))
 rw[hd']
 have hx₁:(s.heap.push { cls:=.type "dict",data:=.dict #[] }).get? x=some ⟨.ref C,none,oda,osl⟩:=Heap.get?_push_of_some _ hx
 have hxs:x≠s.heap.objs.size:=Nat.ne_of_lt (Heap.lt_size hx)
 rw[if_neg (by decide)]
 dsimp only
 rw[if_neg (show ¬ ((!true || !typeHasDict (Value.ref C))=true) by simp[typeHasDict])]
 have hgd:((s.heap.push { cls:=.type "dict",data:=.dict #[] }).update x fun o=>{ cls:=o.cls,dict:=some s.heap.objs.size,data:=o.data,slots:=o.slots }).get? s.heap.objs.size=some { cls:=.type "dict",data:=.dict #[] } :=
  (Heap.get?_update_ne _ _ _ _ hxs.symm).trans (Heap.get?_push_at rfl rfl)
 have hnd:((s.heap.push { cls:=.type "dict",data:=.dict #[] }).update x fun o=>{ cls:=o.cls,dict:=some s.heap.objs.size,data:=o.data,slots:=o.slots }).Ns s.heap.objs.size (fun _=>none) :=
  ⟨_,#[],_,hgd,rfl,fun e he=>absurd he (by simp),fun _=>rfl⟩
 have hgx:((s.heap.push { cls:=.type "dict",data:=.dict #[] }).update x fun o=>{ cls:=o.cls,dict:=some s.heap.objs.size,data:=o.data,slots:=o.slots }).get? x=some ⟨.ref C,some s.heap.objs.size,oda,osl⟩:=by
  refine Heap.get?_update_self _ hx₁ ?_
  cases oda <;> first | rfl | exact hfr
 have core:wpAny (model prog w) A.in1 (do let d <- alloc { cls:=.type "dict",data:=.dict #[] };update x fun o=>{ cls:=o.cls,dict:=some d,data:=o.data,slots:=o.slots };dictMade (Value.ref C) x d)
  (fun a s'=>wpAny (model prog w) A.in1 (match a with | some d=>storeInDict d (Value.str name s.toks) name v | none=>noDictFor (Value.ref x) (Value.ref C) name b)
   (fun fin s'=>match fin with | .done f=>(match (Except.ok f:Result) with | .ok (.ret _)=>Q () s' | .ok _=>False | .error e=>E e s') | .again c'=>c'.quiet=true/\codeAny (model prog w) A c' (fun r s'=>match r with | .ok (.ret _)=>Q () s' | .ok _=>False | .error e=>E e s') s') (fun e s'=>E e s') s')
  (fun e s'=>E e s') { s with toks:=s.toks+1 }:=by
  refine wpAny_bind (wpAny_alloc' ?_)
  refine wpAny_bind (wpAny_update' hx₁ ?_)
  refine wpAny_pure ?_
  show wpAny _ _ (storeInDict s.heap.objs.size (.str name s.toks) name v) _ _ _
  unfold storeInDict newKeyGuard
  refine wpAny_bind (wpAny_pure (wpAny_bind (wpAny_nsSet1 (Heap.Ns1.of_empty hnd) fun h' hn' hs=>?_)))
  obtain⟨oD,esD,epD,hoD,hdD,hcD⟩:=hn'.count (Within.cons name v Within.nil)
  refine wpAny_bind (wpAny_lookBehind hoD (by rw[hdD];exact pastItsLine_dict (Nat.le_trans hcD (by rw[List.length_cons,List.length_nil,sizeLine_eq];omega))) ?_)
  refine wpAny_pure (h h' hn' ((hs.2 x hxs).trans hgx) fun b ob hbx hb=>?_)
  exact(hs.2 b (Nat.ne_of_lt (Heap.lt_size hb))).trans ((Heap.get?_update_ne _ _ _ _ hbx).trans (Heap.get?_push_of_some _ hb))
 cases oda with
 | cls c=>exact absurd hn (by simp[notCls])
 | _=>exact core
end
end PySem.W
end
section
namespace L2
open PySem PySem.Spec PyProof.Rows
abbrev newX(C:Addr)(dx:Option Addr)(t:Addr):Obj:={ cls:=.ref C,dict:=dx,data:=.fields #[.ref t,.none,.none,.none,.bool false,.none] }
def xN(e C:Addr)(dx:Option Addr):HO:=.ext fun h=>∃ t,h.get? e=some (newX C dx t)
def xC(e C:Addr)(dx:Option Addr):HO:=.ext fun h=>∃ o vs,h.get? e=some o/\o.cls=.ref C/\o.dict=dx/\o.data=.fields vs
def xD(d:Addr)(fs:List (Str×V)):HO:=.ext fun h=>∃ mA,h.Ns1 d mA/\(∀ f,RelO (fs.lookup f) (mA f))/\PySem.Within mA (fs.map (·.1))
def XAt(H:Hp)(a C:Addr)(fs:List (Str×V)):Prop:=(H a=some (xC a C none)/\fs=[])\/∃ d,H a=some (xC a C (some d))/\H d=some (xD d fs)
section
variable{P:Program}{w:World}{H:Hp}{h:Heap}{e C:Addr}{dx:Option Addr}{fs:List (Str×V)}
theorem ok_xN{t:Addr}(q:h.get? e=some (newX C dx t)):ObjOk P w H h e (xN e C dx):=⟨⟨t,q⟩,⟨_,q⟩,fun h1 h2 ⟨t,q⟩ k=>⟨t,k _ q⟩⟩
theorem ok_xC{o:Obj}{vs:Array Value}(q:h.get? e=some o)(a:o.cls=.ref C)(b:o.dict=dx)(c:o.data=.fields vs):ObjOk P w H h e (xC e C dx):=⟨⟨o,vs,q,a,b,c⟩,⟨_,q⟩,fun h1 h2 ⟨o,vs,q,r⟩ k=>⟨o,vs,k _ q,r⟩⟩
theorem ok_xD{mA:Str->Option Value}(q:h.Ns1 e mA)(a:∀ f,RelO (fs.lookup f) (mA f))(b:PySem.Within mA (fs.map (·.1))):ObjOk P w H h e (xD e fs) :=
 ⟨⟨mA,q,a,b⟩,let ⟨o,_,_,z,_⟩:=q;⟨o,z⟩,fun h1 h2 ⟨mA,q,r⟩ k=>⟨mA,q.at k,r⟩⟩
end
section
variable{X:Cx}{pins:List (Addr×Obj)}{σ:St}{H:Hp}{s:Shared}{a C CT:Addr}{fs:List (Str×V)}
theorem Inv.exc(I:Inv X pins σ H s)(x:XAt H a C fs):∃ ox od,PySem.W.InstAt s.heap a ox C od/\∀ f v,fs.lookup f=some v->∃ o u,od=some o/\PySem.W.lookIn f o=some (some u)/\RelV v u:=by
 rcases x with ⟨h,e⟩ | ⟨d,h,e⟩
 ·obtain⟨⟨o,vs,q,c,dd,dt⟩,_,_⟩:=(show ObjOk X.prog X.w H s.heap a (xC a C none) from I.hok a _ h)
  exact⟨o,none,⟨q,c,by unfold PySem.W.notCls;rw[dt],by rw[dd];trivial⟩,fun f v l=>by subst e;simp at l⟩
 ·obtain⟨⟨o,vs,q,c,dd,dt⟩,_,_⟩:=(show ObjOk X.prog X.w H s.heap a (xC a C (some d)) from I.hok a _ h)
  obtain⟨⟨mA,hns,rel,wi⟩,_,_⟩:=(show ObjOk X.prog X.w H s.heap d (xD d fs) from I.hok d _ e)
  obtain⟨od,hod,hl⟩:=lookIn_ns hns
  refine⟨o,some od,⟨q,c,by unfold PySem.W.notCls;rw[dt],by rw[dd];exact hod⟩,fun f v l=>?_⟩
  obtain⟨u,hu,ru⟩:=RelO.some_of (v:=v) (o:=mA f) (by rw[<- l];exact rel f)
  exact⟨od,u,rfl,by rw[hl,hu],ru⟩
def tXF(K:PySem.W.Frag)(CT:Addr)(ta:TE)(f:Str):TE:=fun σ H Q=>ta σ H fun x H1=>∃ a C fs v,x=.ref a/\XAt H1 a C fs/\PySem.W.XCl K C CT/\NoAttr K C f/\fs.lookup f=some v/\Q v H1
theorem pe_xfld{e:Expr}{f:Str}{pos:Pos}{ta:TE}(CT:Addr)(he:PE X e ta)(hb:attributeBase e f X.env (eval e X.env)=eval e X.env):PE X (.Attribute e f pos) (tXF X.K CT ta f):=by
 intro pins s σ H Q I h
 refine attr_of hb (thn (he pins s σ H _ I h) fun u s1 ⟨x,H1,I1,rx,a,C,fs,v,ex,xa,c,n,l,q⟩=>?_)
 subst ex
 obtain rfl:u=Value.ref a:=rx
 obtain⟨ox,od,J,g⟩:=I1.exc xa
 obtain⟨o,u,rfl,hl,ru⟩:=g f v l
 exact PySem.W.xget_value I1.kIn J c (PySem.W.findObj_own c.has n rfl hl) (handed_of ru) ⟨v,H1,I1.tok _,ru,q⟩
def rIsX(K:PySem.W.Frag)(CT:Addr):List V->Hp->VK->Prop:=fun xs H Q=>∃ a C fs c cv b,xs=[.ref a,c]/\clsV c=some cv/\XAt H a C fs/\PySem.W.XCl K C CT/\PySem.W.kitOne K (.ref C) cv=some b/\Q (.bl b) H
theorem call_isX(CT:Addr):CallR X (.builtin "isinstance") (rIsX X.K CT):=by
 intro pins s σ H xs us Q I r h
 obtain⟨a,C,fs,c,cv,b,rfl,hc,xa,xc,e,q⟩:=h
 obtain⟨u,w',rfl,rx,rc⟩:=vals2 r
 have ec:w'=cv:=by
  cases c <;> simp[clsV]at hc
  ·subst hc;exact rc
  ·subst hc;exact rc
 subst ec
 obtain rfl:u=Value.ref a:=rx
 obtain⟨ox,od,J,_⟩:=I.exc xa
 exact PySem.W.kia_one (PySem.W.kitx_exc xc) I.kIn J e (fun z=>nomatch z) fun tk=>⟨.bl b,H,I.tok tk,rfl,q⟩
end
section
variable{X:Cx}{pins:List (Addr×Obj)}{σ:St}{H H':Hp}{s:Shared}{d e:Addr}{o:HO}
theorem Inv.track(I:Inv X pins σ H s)(hn:H d=none)(y:X.s₀.heap.get? d=none)(nl:d≠X.env.locals)(nc:∀ x c,X.env.cells.lookup x=some c->c≠d)(np:∀ p∈X.pn++pins,p.1≠d)(ok:ObjOk X.prog X.w (upd H d o) s.heap d o) :
 Inv X pins σ (upd H d o) s :=
 ⟨I.ok,I.os,I.bare,⟨I.base.keep,I.base.slot,fun b u q n hx=>by rw[upd_ne (fun z=>by rw[z,y]at q;cases q)];exact I.base.free b u q n hx,I.base.there,fun b xs q=>by have z:=I.base.tups b xs q;rw[upd_ne (ne_of_none z hn)];exact z,
  fun b u xs q=>by have z:=I.base.frzs b u xs q;rw[upd_ne (ne_of_none z hn)];exact z,fun b ps q=>by obtain⟨m,z⟩:=I.base.tbls b ps q;exact⟨m,by rw[upd_ne (ne_of_none z hn)];exact z⟩⟩,
  I.loc,I.cell,by rw[upd_ne (Ne.symm nl)];exact I.free,fun x c q=>by rw[upd_ne (nc x c q)];exact I.freeC x c q,fun p hp=>by obtain⟨a,b,r⟩:=I.pin p hp;exact⟨a,by rw[upd_ne (np p hp)];exact b,r⟩,
  fun b u q=>by
   by_cases hb:b=d
   ·subst hb;rw[upd_same]at q;cases q;exact ok
   ·rw[upd_ne hb]at q
    exact(I.hok b u q).stay (fun c v _ r=>r) (fun c r=>by rw[upd_ne (ne_of_none r hn)];exact r) fun c xs r=>by rw[upd_ne (ne_of_none r hn)];exact r,
  I.len⟩
theorem Inv.nowhere(I:Inv X pins σ H s)(hex:X.ex=[])(h:s.heap.get? d=none):H d=none/\X.s₀.heap.get? d=none/\d≠X.env.locals/\(∀ x c,X.env.cells.lookup x=some c->c≠d)/\∀ p∈X.pn++pins,p.1≠d:=by
 refine⟨I.hok.none_of h,I.young hex h,fun z=>?_,fun x c q z=>?_,fun p hp z=>?_⟩
 ·obtain⟨m,⟨o,es,ep,ho,_⟩,_⟩:=I.loc
  rw[z,ho]at h;cases h
 ·obtain⟨v,o,ho,_⟩:=I.cell x c q
  rw[z,h]at ho;cases ho
 ·have:=(I.pin p hp).1
  rw[z,h]at this;cases this
theorem Inv.off{φ:Heap->Prop}(I:Inv X pins σ H s)(he:H e=some (.ext φ))(y:X.s₀.heap.get? e=none)(h3:∀ b,b≠e->H' b=H b)(hn:H' e=none):Inv X pins σ H' s:=by
 have ne:∀ b,H b=none->b≠e:=fun b q z=>by rw[z,he]at q;cases q
 have nt:∀ b u,H b=some u->(∀ ψ,u≠.ext ψ)->b≠e:=fun b u q n z=>by rw[z,he]at q;cases q;exact n _ rfl
 have tt:∀ b xs,H b=some (.tup xs)->H' b=some (.tup xs):=fun b xs q=>(h3 b (nt b _ q (fun _ z=>by cases z))).trans q
 refine⟨I.ok,I.os,I.bare,⟨I.base.keep,I.base.slot,fun b u q n hx=>?_,I.base.there,fun b xs q=>tt b xs (I.base.tups b xs q),fun b u xs q=>?_,fun b ps q=>?_⟩,I.loc,I.cell,(h3 _ (ne _ I.free)).trans I.free,fun x c q=>(h3 _ (ne _ (I.freeC x c q))).trans (I.freeC x c q),fun p hp=>?_,fun b u q=>?_,I.len⟩
 ·have z:=I.base.free b u q n hx
  exact(h3 b (ne b z)).trans z
 ·have z:=I.base.frzs b u xs q
  exact(h3 b (nt b _ z (fun _ z=>by cases z))).trans z
 ·obtain⟨m,z⟩:=I.base.tbls b ps q
  exact⟨m,(h3 b (nt b _ z (fun _ z=>by cases z))).trans z⟩
 ·obtain⟨a,b,r⟩:=I.pin p hp
  exact⟨a,(h3 _ (ne _ b)).trans b,r⟩
 ·have hb:b≠e:=fun z=>by rw[z,hn]at q;cases q
  rw[h3 b hb]at q
  exact(I.hok b u q).stay (fun c v _ r=>r) (fun c r=>(h3 c (nt c _ r (fun _ z=>by cases z))).trans r) tt
theorem name_gone{M:Model}{A:Around}{E:Value->Shared->Prop}{i:Nat}{n:Str}{pos:Pos}{Q:Unit->Shared->Prop}(I:Inv X pins σ H s)(hN:X.N.Nodup)(hi:X.N[i]?=some n)(hk:X.env.kindOf n=some .local)
 (h:∀ s',Inv X pins (σ.set i none) H s'->Q () s'):wpAny M A (do bindName X.env n .none;unbindBehindTheSuite X.env n pos) Q E s:=by
 obtain⟨m,hn,hl⟩:=id I.loc
 have hcls:(X.env.scope.kind == .class || (X.env.scope.kind == .module && X.env.locals != X.env.globals))=false:=by rw[I.ok.kind];rfl
 have hiσ:i < σ.length:=by rw[I.len];exact(List.getElem?_eq_some_iff.mp hi).1
 refine wpAny_nameGoes_keeps hk hn hcls fun h' v hn' hs=>h _ ?_
 have cne:=I.cne
 refine⟨I.ok,I.os,I.bare,⟨fun b o e n hb hx=>?_,fun b o e n hb hx=>?_,I.base.free,fun b o e hx=>?_,I.base.tups,I.base.frzs,I.base.tbls⟩,⟨_,hn',fun j y v' e1 e2 e3=>?_⟩,fun y c e=>?_,I.free,I.freeC,fun p hp=>?_,fun b ob e=>?_,by simpa using I.len⟩
 ·exact(hs.2 b (Nat.ne_of_lt (Nat.lt_of_lt_of_le (Heap.lt_size e) I.ok.above))).trans (I.base.keep b o e n hb hx)
 ·obtain⟨sl,e1⟩:=I.base.slot b o e n hb hx
  exact⟨sl,(hs.2 b (Nat.ne_of_lt (Nat.lt_of_lt_of_le (Heap.lt_size e) I.ok.above))).trans e1⟩
 ·obtain⟨o',e1⟩:=I.base.there b o e hx
  exact⟨o',(hs.2 b (Nat.ne_of_lt (Nat.lt_of_lt_of_le (Heap.lt_size e) I.ok.above))).trans e1⟩
 ·by_cases hj:j=i
  ·subst hj
   rw[List.getElem?_set_self hiσ]at e2
   cases e2
  ·rw[List.getElem?_set_ne (Ne.symm hj)]at e2
   obtain⟨u',r',q⟩:=hl j y v' e1 e2 e3
   refine⟨u',r',?_⟩
   rcases q with ⟨k,e⟩ | ⟨k,c,e,z⟩
   ·refine .inl ⟨k,?_⟩
    have:y≠n:=fun e=>hj (nodup_ix hN e1 (e ▸ hi))
    simp[this,e]
   ·exact .inr ⟨k,c,e,z.sameBut hs (cne y c e)⟩
 ·obtain⟨w',z⟩:=I.cell y c e
  exact⟨w',z.sameBut hs (cne y c e)⟩
 ·obtain⟨e,n,ne,nf,d⟩:=I.pin p hp
  exact⟨(hs.2 p.1 ne).trans e,n,ne,nf,d⟩
 ·refine(I.hok b ob e).stay (fun c w' hc q=>(hs.2 c ?_).trans q) (fun _ q=>q) fun _ _ q=>q
  rintro rfl
  rcases hc with z | hc
  ·rw[<- z,I.free]at e;cases e
  ·rw[I.free]at hc;cases hc
end
section
variable{X:Cx}{pins:List (Addr×Obj)}{σ:St}{H:Hp}{s:Shared}{a C CT:Addr}{f:Str}
theorem setX0{A:Around}{E:Value->Shared->Prop}{y:V}{u:Value}{Q:Unit->Shared->Prop}(I:Inv X pins σ H s)(hex:X.ex=[])(e:H a=some (xN a C none))(c:PySem.W.XCl X.K C CT)(n:NoAttr X.K C f)(ry:RelV y u)
 (h:∀ d s',H d=none->d≠a->Inv X pins σ (upd (upd H a (xN a C (some d))) d (xD d [(f,y)])) s'->Q () s'):wpAny (model X.prog X.w) A (setAttr (.ref a) f u) Q E s:=by
 obtain⟨⟨t,q⟩,_,_⟩:=(show ObjOk X.prog X.w H s.heap a (xN a C none) from I.hok a _ e)
 refine PySem.W.xset_none I.kIn c n q rfl rfl rfl rfl fun h' hns hx hk=>?_
 obtain⟨w1,w2,w3,w4,w5⟩:=I.nowhere hex (Heap.get?_none_of_le (Nat.le_refl s.heap.objs.size))
 have hne:s.heap.objs.size≠a:=fun z=>by rw[z,e]at w1;cases w1
 refine h s.heap.objs.size _ w1 hne ?_
 have I1:Inv X pins σ (upd H a (xN a C (some s.heap.objs.size))) { s with heap:=h',toks:=s.toks+2 } :=
  I.write (x:=a) (e:=a) (by rw[e];exact True.intro) (.inl rfl) (fun b u hb z=>hk b u hb z) ⟨_,hx⟩ (ok_xN (t:=t) hx)
 refine I1.track (by rw[upd_ne hne];exact w1) w2 w3 w4 w5 (ok_xD hns (fun g=>?_) fun g hg=>?_)
 ·by_cases hg:g=f
  ·have hb:(g == f)=true:=beq_iff_eq.mpr hg
   simp only[List.lookup,hb,if_pos hg];exact ry
  ·have hb:(g == f)=false:=beq_eq_false_iff_ne.mpr hg
   simp only[List.lookup,hb,if_neg hg];trivial
 ·by_cases z:g=f
  ·rw[z];simp
  ·rw[if_neg z]at hg;exact absurd hg (by simp)
def sXF0(K:PySem.W.Frag)(CT:Addr)(ta tv:TE)(f:Str):TS:=fun D σ H=>tv σ H fun y H1=>ta σ H1 fun x H2=>∃ a C,x=.ref a/\H2 a=some (xN a C none)/\PySem.W.XCl K C CT/\NoAttr K C f /\
 ∀ d,H2 d=none->d≠a->D.nx σ (upd (upd H2 a (xN a C (some d))) d (xD d [(f,y)]))
def sXF1(K:PySem.W.Frag)(CT:Addr)(ta tv:TE)(f:Str):TS:=fun D σ H=>tv σ H fun y H1=>ta σ H1 fun x H2=>∃ a C d fs,x=.ref a/\H2 a=some (xN a C (some d))/\H2 d=some (xD d fs)/\PySem.W.XCl K C CT/\NoAttr K C f/\fs.length < 1000 /\
 D.nx σ (upd H2 d (xD d (putF f y fs)))
variable{o value:Expr}{pos pos':Pos}{ta tv:TE}
theorem ps_xf0(CT:Addr)(hex:X.ex=[])(ha:PE X o ta)(hv:PE X value tv)(hs:swapsWith value (some (.Attribute o f pos')) pos.line X.env=pure false):PS X (.Assign [.Attribute o f pos'] value pos) (sXF0 X.K CT ta tv f):=by
 intro pins s σ H D I h
 refine plainObj_wpAny_Assign_Attribute (thn (hv pins s σ H _ I h) fun u s1 ⟨y,H1,I1,ry,q⟩=>thn (ha pins s1 σ H1 _ I1 q) fun ov s2 ⟨x,H2,I2,rx,a,C,ex,ea,c,n,q2⟩=>?_) hs
 subst ex
 obtain rfl:ov=Value.ref a:=rx
 exact setX0 I2 hex ea c n ry fun d s3 w1 w2 I3=>⟨σ,_,I3,q2 d w1 w2⟩
structure XTop(K:PySem.W.Frag)(mg:Str->Option Value)(x:Str)(CT:Addr):Prop where
 mg_:mg x=some (.ref CT)
 cl:ExcC K CT PySem.W.bmV PySem.W.bmV "ValueError.__new__"
 sp:PySem.W.specialIn K (.ref CT) "__getattribute__"=some (some (.builtin "type.__getattribute__"))
 rd:PySem.W.readsIn K CT (.type "type")=true
 ini:PySem.W.findCls K (.ref CT) (.type "type") "__init__"=some (.val (.builtin "ValueError.__init__"))
def tBI(K:PySem.W.Frag)(CT:Addr)(t:TA):TE:=fun σ H Q=>t σ H fun vs H1=>∃ a C ws,vs=.ref a::ws/\ws.length<=1000/\H1 a=some (xN a C none)/\PySem.W.XCl K C CT/\Q .non H1
end
end L2
end
section
namespace PySem
section
variable{prog:Program}{w:World}{A:Around}{E:Value->Shared->Prop}{s:Shared}{K:W.Frag}{C CT e t:Addr}{dx:Option Addr}
theorem xinit_call{rest:List Value}{Q:Value->Shared->Prop}(X:K.In s.heap)(c:W.XCl K C CT)(he:s.heap.get? e=some { cls:=.ref C,dict:=dx,data:=.fields #[.ref t,.none,.none,.none,.bool false,.none] })(hl:rest.length<=sizeLine)
 (h:∀ h' t',h'.get? e=some { cls:=.ref C,dict:=dx,data:=.fields #[.ref t',.none,.none,.none,.bool false,.none] }->(∀ b o,b≠e->s.heap.get? b=some o->h'.get? b=some o)->Q .none { s with heap:=h' }) :
 wpAny (model prog w) A (call (.builtin "ValueError.__init__") (.ref e::rest)) Q E s:=by
 obtain⟨nm,q,N,bs,sn,sub,ab,col,dd,k0,k1,k2,k3,k5,lk,ok⟩:=c.cl
 have FB:=F.excBase_ValueError
 have TL:OwnTail s.heap W.bmV (.ref CT::W.bmV):=W.tail_of_in X c.tail
 have hC:=X _ _ lk
 obtain⟨hh,g,d,tk,os⟩:=s
 refine wpAny_call (codeAny_call_builtin FB.init.plain FB.initEntry (wpAny_check_init_subT FB TL hC he rfl ?_))
 wp_walk
 refine h _ hh.objs.size ?_ fun b o hb z=>?_
 ·rw[Heap.get?_update_self _ (Heap.get?_push_of_some _ he) rfl]
  rfl
 ·rw[Heap.get?_update_other _ _ (Ne.symm hb)]
  exact Heap.get?_push_of_some _ z
end
section
variable{prog:Program}{w:World}{A:Around}{E:Value->Shared->Prop}{h:Heap}{g:Array GenState}{d:Drawn}{t:Nat}{os:OsState}{K:W.Frag}{C CT:Addr}
theorem made_X(X:K.In h)(c:W.XCl K C CT){rest:List Value}{fI:Addr}{Q:Fin->Shared->Prop}(hf:W.findIn K (.ref C) "__init__"=some (some (.ref fI)))(hfn:W.isFn K (.ref fI)=true)
 (fin:∀ h' e,Heap.MadeExcOf h h' e (.ref C) rest->wpAny (model prog w) A (call (.ref fI) (.ref e::rest)) (fun r s'=>r=.none/\Q (.done (.ret (.ref e))) s') E ⟨h',g,d,t,os⟩) (short:rest.length<=sizeLine) :
 wpAny (model prog w) A (Builtin.«type.__call__» ⟨.ref C::rest,[]⟩) Q E ⟨h,g,d,t,os⟩:=by
 obtain⟨nm,q,N,bs,sn,sub,ab,col,dd,k0,k1,k2,k3,k5,lk,ok⟩:=c.cl
 have FB:=F.excBase_ValueError
 have TL:OwnTail h W.bmV (.ref CT::W.bmV):=W.tail_of_in X c.tail
 have cl:=X _ _ lk
 repeat (first | (with_reducible refine wpAny_loadPart_at cl ?_) | (with_reducible refine wpAny_madeBy_exc cl ?_) | wp_step)
 refine codeAny_call_builtin_code (Code.quiet_builtin _ FB.quiet) (wpAny_check_new_subT FB TL cl ?_)
 refine codeAny_exc_new_subT FB TL cl ?_ short
 show wpAny _ _ _ _ _ _
 have kp:∀ b o,h.get? b=some o->((h.push (excTup rest)).push (excRec h C)).get? b=some o:=fun b o e=>Heap.get?_push_of_some _ (Heap.get?_push_of_some _ e)
 have X1:K.In ((h.push (excTup rest)).push (excRec h C)):=X.keeps kp
 have cl1:((h.push (excTup rest)).push (excRec h C)).get? C=_:=kp _ _ cl
 have rec1:((h.push (excTup rest)).push (excRec h C)).get? (h.objs.size+1)=some (excRec h C):=by heap_get
 have self:(Value.ref C::.ref CT::W.bmV).contains (.ref C)=true:=by rw[List.contains_cons];simp
 unfold isInstance
 repeat (first | (with_reducible refine wpAny_loadPart_at rec1 ?_) | (with_reducible refine wpAny_isSubtype_exc cl1 ?_;rw[self]) | wp_step)
 show wpAny _ _ (typeLookup (.ref C) _) _ _ _
 refine(W.looks_findIn (M:=model prog w) X1 hf).at ?_
 refine wpAny_holding (wpAny_bind ((W.bind_fn (M:=model prog w) X1 _ (beq_iff_eq.mp hfn)).at ?_))
 have mk:Heap.MadeExcOf h ((h.push (excTup rest)).push (excRec h C)) (h.objs.size+1) (.ref C) rest :=
  ⟨kp,Heap.get?_none_of_le (Nat.le_succ _),h.objs.size,rec1,Heap.get?_none_of_le (Nat.le_refl _),Heap.get?_push_of_some _ (Heap.get?_push_at rfl rfl)⟩
 refine wpAny_bind (wpAny_mono (fin _ (h.objs.size+1) mk) (fun r s' hr=>?_) fun _ _ z=>z)
 obtain⟨rfl,hQ⟩:=hr
 wp_walk
 exact hQ
theorem call_X(X:K.In h)(c:W.XCl K C CT){rest:List Value}{fI:Addr}{Q:Value->Shared->Prop}(hf:W.findIn K (.ref C) "__init__"=some (some (.ref fI)))(hfn:W.isFn K (.ref fI)=true)
 (fin:∀ h' e,Heap.MadeExcOf h h' e (.ref C) rest->wpAny (model prog w) (A.under (.builtin "type.__call__" ⟨.ref C::rest,[]⟩)) (call (.ref fI) (.ref e::rest)) (fun r s'=>r=.none/\Q (.ref e) s') E ⟨h',g,d,t,os⟩) (short:rest.length<=sizeLine) :
 wpAny (model prog w) A (call (.ref C) rest) Q E ⟨h,g,d,t,os⟩:=by
 obtain⟨nm,q,N,bs,sn,sub,ab,col,dd,k0,k1,k2,k3,k5,lk,ok⟩:=c.cl
 have cl:=X _ _ lk
 have l1:=tc_lookup
 have l2:=tc_bind (.ref C)
 have ty:(⟨h,g,d,t,os⟩:Shared).TypeIs (.ref C) "type":=⟨_,cl,rfl⟩
 refine wpAny_call (codeAny_of_tree ?_)
 show wpAny _ _ (callAny (.ref C) _) _ _ _
 repeat (any_goals (first | assumption | (with_reducible refine wpAny_loadPart_at cl ?_) | wp_step))
 refine⟨rfl,?_⟩
 refine codeAny_call_builtin_at (Code.quiet_builtin _ (by decide +kernel)) entry_typeCall (wpAny_check_type_call_sub cl (made_X X c hf hfn (fun h' e hm=>?_) short))
 exact fin h' e hm
end
section
variable{M:Model}{A:Around}{E:Value->Shared->Prop}{env:Env}
variable{nm q:Str}{C N:Addr}{bs bm:List Value}{hdct:Bool}{sn:List Str}{sub:List Value}{ab:Bool}{col:Option Bool}{dd:Option Addr}{k0 k1 k2 k3 k5:Option Value}{newId:String}
theorem raise_any{s:Shared}{x:Sem Value}{Q:Flow->Shared->Prop}(hbase:bm.contains (.type "BaseException")=true)(hh:A.handled=none)
 (h:wpAny M A x (fun v s₁=>∃ e t dx,v=.ref e/\s₁.heap.get? C=some (excClassObj nm q C N bs bm hdct sn sub ab col dd k0 k1 k2 k3 k5 newId)/\s₁.heap.get? e=some { cls:=.ref C,dict:=dx,data:=.fields #[.ref t,.none,.none,.none,.bool false,.none] }/\E (.ref e) s₁) E s) :
 wpAny M A (raiseStmt env (some x) none) Q E s:=by
 have hcB:(Value.ref C::bm).contains (.type "BaseException")=true:=by rw[List.contains_cons,hbase,Bool.or_true]
 unfold raiseStmt
 refine wpAny_bind (wpAny_mono h (fun v s₁ h₁=>?_) fun _ _ x=>x)
 obtain⟨e,t,dx,rfl,hC,he,hE⟩:=h₁
 obtain⟨hp,g,d,tk,os⟩:=s₁
 repeat (first | with_reducible refine wpAny_loadPart_at he ?_ | with_reducible refine wpAny_loadPart_at hC ?_ | (with_reducible refine wpAny_isSubtype_exc hC ?_;rw[hcB]) | wp_step)
 exact wpAny_raiseNew_none hh hE
variable{nm' q':Str}{CT N':Addr}{bs' bm':List Value}{hdct':Bool}{sn':List Str}{sub':List Value}{ab':Bool}{col':Option Bool}{dd':Option Addr}{j0 j1 j2 j3 j5:Option Value}{newId':String}
theorem excMatches_up{h:Heap}{g:Array GenState}{d:Drawn}{t:Nat}{os:OsState}{e:Addr}{oe:Obj}{Q:Bool->Shared->Prop}
 (hC:h.get? C=some (excClassObj nm q C N bs bm hdct sn sub ab col dd k0 k1 k2 k3 k5 newId)) (hT:h.get? CT=some (excClassObj nm' q' CT N' bs' bm' hdct' sn' sub' ab' col' dd' j0 j1 j2 j3 j5 newId'))
 (he:h.get? e=some oe) (hcls:oe.cls=.ref C) (hbase:bm'.contains (.type "BaseException")=true) (hin:(Value.ref C::bm).contains (.ref CT)=true)
 (hq:Q true ⟨h,g,d,t,os⟩):wpAny M A (excMatches (.ref e) (.ref CT)) Q E ⟨h,g,d,t,os⟩:=by
 have hcB:(Value.ref CT::bm').contains (.type "BaseException")=true:=by rw[List.contains_cons,hbase,Bool.or_true]
 have f:=tc_notTuple
 unfold excMatches
 repeat (first | (with_reducible refine wpAny_loadPart_at he ?_;rw[hcls]) | with_reducible refine wpAny_loadPart_at hT ?_ | (with_reducible refine wpAny_isSubtype_exc hT ?_;rw[hcB]) | (with_reducible refine wpAny_isSubtype_exc hC ?_;rw[hin]) | wp_step)
 exact hq
end
end PySem
namespace PySem.W
open PySem
def xFacts(K:Frag)(C:Addr)(fl:List Str):Bool:=findIn K (.ref C) "__getattribute__" == some (some (.builtin "BaseException.__getattribute__")) && (findIn K (.ref C) "__getattr__" == some none && (findIn K (.ref C) "__setattr__" == some (some (.builtin "object.__setattr__")) && (findIn K (.ref C) "__class__" == some (some (.builtin "object.__class__")) && fl.all fun f=>findIn K (.ref C) f == some none)))
section
variable{K:Frag}{C CT:Addr}{fl:List Str}
theorem xFacts_of(h:xFacts K C fl=true):findIn K (.ref C) "__getattribute__"=some (some (.builtin "BaseException.__getattribute__"))/\findIn K (.ref C) "__getattr__"=some none/\findIn K (.ref C) "__setattr__"=some (some (.builtin "object.__setattr__")) /\
 findIn K (.ref C) "__class__"=some (some (.builtin "object.__class__"))/\∀ f∈fl,findIn K (.ref C) f=some none:=by
 unfold xFacts at h
 simp only[Bool.and_eq_true,beq_iff_eq,List.all_eq_true]at h
 exact h
theorem xFacts_no(h:xFacts K C fl=true){f:Str}(hf:f∈fl):L2.NoAttr K C f:=(xFacts_of h).2.2.2.2 f hf
theorem XCl.of(cl:∃ nm q N bs sn sub ab col dd k0 k1 k2 k3 k5,K.lookup C=some (excClassObj nm q C N bs (.ref CT::bmV) true sn sub ab col dd k0 k1 k2 k3 k5 "ValueError.__new__")/\nsOkIn K N=true)(tail:tailIn K bmV (.ref CT::bmV)=true)
 (h:xFacts K C fl=true) (cg:specialIn K (.builtin "object.__class__") "__get__"=some (some (.builtin "getset_descriptor.__get__"))) (ct:takesIn K (.builtin "object.__class__")=some true):XCl K C CT :=
 let ⟨a,b,c,d,_⟩:=xFacts_of h;⟨cl,tail,a,b,c,d,cg,ct⟩
def tabOk(K:Frag)(l:List Addr):Bool:=(List.range l.length).all fun i=>(List.range l.length).all fun j=>kitOne K (.ref (l.getD i 0)) (.ref (l.getD j 0)) == some (decide (i=j))
def tvOk(K:Frag)(l:List Addr):Bool:=(List.range l.length).all fun i=>kitOne K (.ref (l.getD i 0)) (.type "ValueError") == some true
theorem xtab_of{l:List Addr}(h:tabOk K l=true):∀ i j,i < l.length->j < l.length->kitOne K (.ref (l.getD i 0)) (.ref (l.getD j 0))=some (decide (i=j)):=by
 unfold tabOk at h
 simp only[List.all_eq_true,List.mem_range,beq_iff_eq]at h
 exact fun i j hi hj=>h i hi j hj
theorem xtv_of{l:List Addr}(h:tvOk K l=true):∀ i,i < l.length->kitOne K (.ref (l.getD i 0)) (.type "ValueError")=some true:=by
 unfold tvOk at h
 simp only[List.all_eq_true,List.mem_range,beq_iff_eq]at h
 exact h
end
end PySem.W
namespace L2
open PySem PySem.Spec PyProof.Rows
theorem bo_ValueError:bootBuiltins "ValueError"=some (.type "ValueError"):=by decide +kernel
section
variable{X:Cx}{x:Str}{CT:Addr}{e:Expr}{es:List Expr}{t:TA}{p pos apos cpos np:Pos}{pl:Sem Bool}
theorem pe_binit(T:XTop X.K X.mg x CT)(hg:Gl X x)(ha:PA X (e::es) t)(hdb:(x == ("__debug__":Str))=false:=by decide)
 (he:starEach (e::es) X.env=(false,eval e X.env)::starEach es X.env:=by rfl) (hpl:(backTo pos (starEach es X.env)).any (·.1)=false:=by rfl)
 (ht:eval (.Call (.Attribute (.Name x p) "__init__" apos) (e::es) [] pos) X.env=(do
  let ov <- eval (.Name x p) X.env
  standAt apos.atName
  let (f,first) <- holding [ov] (getMethod ov "__init__" pl)
  callWith pos f first (backTo pos (starEach (e::es) X.env)) (backToKw pos (keywordEach [] X.env))):=by rfl) :
 PE X (.Call (.Attribute (.Name x p) "__init__" apos) (e::es) [] pos) (tBI X.K CT t):=by
 intro pins s σ H Q I h
 refine PySem.W.methodCall_KW (pl:=pl) (ld_glob I hg T.mg_ ?_ hdb) ht
 refine PySem.W.method_cls I.kIn T.sp (PySem.W.cls_value I.kIn T.rd T.ini (by decide +kernel) ?_)
 refine PyProof.Rows.callWith_builtin1 (thn (ha pos pins _ σ H _ (I.tok _) h) fun us s1 ⟨vs,H1,I1,r,a,C,ws,ev,hl,ea,c,q⟩=>?_) he hpl
 subst ev
 cases r with
 | cons r0 r1 =>
  cases (show _=Value.ref a from r0)
  obtain⟨⟨t,g⟩,_,_⟩:=(show ObjOk X.prog X.w H1 s1.heap a (xN a C none) from I1.hok a _ ea)
  refine xinit_call I1.kIn c g (by rw[<- r1.length,sizeLine_eq];omega) fun h' t' g' k=>⟨.non,H1,?_,rfl,q⟩
  have I2:=I1.write (h':=h') (t':=s1.toks) (x:=a) (e:=a) (o:=xN a C none) (by rw[ea];exact True.intro) (.inl rfl) (fun b u hb z=>k b u hb z) ⟨_,g'⟩ (ok_xN (t:=t') g')
  have eH:upd H1 a (xN a C none)=H1:=by
   funext b
   by_cases hb:b=a
   ·rw[hb,upd_same];exact ea.symm
   ·rw[upd_ne hb]
  rw[eH]at I2
  exact I2
def sp_X(C:Addr)(fl:List Str):Sp:=fun vs H Q _=>∃ e ws,vs=.ref e::ws/\ws.length=fl.length/\H e=some (xN e C none)/\∀ d,H d=none->d≠e->Q .non (upd (upd H e (xN e C (some d))) d (xD d (fl.zip ws)))
def MkX(P:Program)(w:World)(K:PySem.W.Frag)(mg:Str->Option Value)(base:Heap)(k:Nat)(x:Str)(C CT:Addr)(fl:List Str):Prop :=
 ∃ f fd ps,FnOk P w K mg base CX0 k f fd ps (sp_X C fl)/\Binds K fd ps []/\PySem.W.XCl K C CT/\PySem.W.findIn K (.ref C) "__init__"=some (some (.ref f))/\PySem.W.isFn K (.ref f)=true/\PySem.W.keepIn K (.ref C)=true/\mg x=some (.ref C)
def tRaiseX(E:XK)(C:Addr)(fl:List Str)(t:TA):TS:=fun _ σ H=>t σ H fun vs H1=>vs.length=fl.length/\vs.length<=1000/\∀ d,H1 d=none->E (.ref C) (some d) (upd H1 d (xD d (fl.zip vs)))
variable{E:XK}{C:Addr}{fl:List Str}{j k:Nat}
theorem ps_raiseX(T:Throws X E)(hex:X.ex=[])(hcalm:X.calm=true)(hg:Gl X x)(G:MkX X.prog X.w X.K X.mg X.base j x C CT fl)(hr:Room k X.A)(hj:j+1<=k)(ha:PA X (e::es) t)(hdb:(x == ("__debug__":Str))=false:=by decide)
 (he:starEach (e::es) X.env=(false,eval e X.env)::starEach es X.env:=by rfl) (hpl:(backTo cpos (starEach es X.env)).any (·.1)=false:=by rfl) :
 PS X (.Raise (some (.Call (.Name x np) (e::es) [] cpos)) none pos) (tRaiseX E C fl t):=by
 intro pins s σ H D I h
 obtain⟨f,fd,ps,F,hb,c,hf,hfn,kp,hm⟩:=G
 obtain⟨nm,q,N,bs,sn,sub,ab,col,dd,k0,k1,k2,k3,k5,lk,ok⟩:=id c.cl
 rw[arm_exec_Raise]
 refine wpAny_bind (wpAny_standAt (raise_any (C:=C) (nm:=nm) (q:=q) (N:=N) (bs:=bs) (bm:=.ref CT::PySem.W.bmV) (hdct:=true) (sn:=sn) (sub:=sub) (ab:=ab) (col:=col) (dd:=dd) (k0:=k0) (k1:=k1) (k2:=k2) (k3:=k3) (k5:=k5) (newId:="ValueError.__new__") (by rw[List.contains_cons,PySem.F.excBase_ValueError.hasBase,Bool.or_true]) (I.ok.hd hcalm) ?_))
 refine wpAny_bind (wpAny_mono (wpAny_Call_ofName (ld_glob I hg hm ?_ hdb)) (fun v s₃ h₃=>wpAny_bind (wpAny_standAt (wpAny_pure h₃))) fun _ _ z=>z)
 refine PySem.W.callWith_K (h₀:=X.base) I.ok.mod.kin kp (thn (ha cpos pins s σ H _ I h) fun us s1 ⟨vs,H1,I1,r,hl,hz,q⟩=>⟨I1.kIn,?_⟩) he hpl
 obtain⟨hh,g,dr,tk,os⟩:=s1
 refine call_X I1.kIn c hf hfn (fun h' ea mk=>?_) (by rw[sizeLine_eq,List.nil_append,<- r.length];omega)
 rw[List.nil_append]at mk ⊢
 have hC':=mk.there
 obtain⟨tt,he',_⟩:=hC'
 obtain⟨w1,w2,w3,w4,w5⟩:=I1.nowhere hex mk.new
 have I1':Inv X pins σ H1 ⟨h',g,dr,tk,os⟩:=I1.kept (t':=tk) mk.keeps
 have I2:Inv X pins σ (upd H1 ea (xN ea C none)) ⟨h',g,dr,tk,os⟩:=I1'.track w1 w2 w3 w4 w5 (ok_xN (t:=tt) he')
 have hsp:sp_X C fl (.ref ea::vs) (upd H1 ea (xN ea C none)) (fun v H2=>v=.non/\∃ d,H1 d=none/\d≠ea/\H2=upd (upd (upd H1 ea (xN ea C none)) ea (xN ea C (some d))) d (xD d (fl.zip vs))) E0 :=
  ⟨ea,vs,rfl,hl,upd_same,fun d hd hne=>⟨rfl,d,by rw[upd_ne hne]at hd;exact hd,hne,rfl⟩⟩
 have r2:Vals (V.ref ea::vs) (Value.ref ea::us):=.cons rfl r
 have hlen:(Value.ref ea::us++[]).length=ps.length:=by rw[List.append_nil,<- r2.length];exact F.len _ _ _ _ hsp
 have b:=hb ⟨h',g,dr,tk,os⟩ (Value.ref ea::us) I2.kIn hlen
 rw[List.append_nil]at b
 refine wpAny_call (codeAny_mono (F.run _ X.stack _ _ ⟨Value.ref ea::us,[]⟩ (Value.ref ea::us) _ _ E0 ((hr.mono hj).make C us []) (I2.env0.make C us []) b r2 hsp) fun res s' hq=>?_)
 cases res with
 | error ev=>exact False.elim hq
 | ok fo =>
  cases fo with
  | next=>exact False.elim hq
  | brk=>exact False.elim hq
  | cont=>exact False.elim hq
  | ret u =>
   obtain⟨v,H3,I3,rv,ev,d,hd,hne,eH⟩:=I2.after hq
   subst ev
   subst eH
   have e3:upd (upd (upd H1 ea (xN ea C none)) ea (xN ea C (some d))) d (xD d (fl.zip vs)) ea=some (xN ea C (some d)):=by rw[upd_ne (Ne.symm hne),upd_same]
   obtain⟨⟨t3,g3⟩,_,_⟩:=(show ObjOk X.prog X.w _ s'.heap ea (xN ea C (some d)) from I3.hok ea _ e3)
   have e4:upd H1 d (xD d (fl.zip vs)) ea=none:=by rw[upd_ne (Ne.symm hne)];exact w1
   have I4:Inv X pins σ (upd H1 d (xD d (fl.zip vs))) s':=I3.off e3 w2 (fun y hy=>by
    by_cases hyd:y=d
    ·rw[hyd,upd_same,upd_same]
    ·rw[upd_ne hyd,upd_ne hyd,upd_ne hy,upd_ne hy]) e4
   refine⟨rv,ea,t3,some d,rfl,I3.kIn _ _ lk,g3,?_⟩
   exact T pins σ _ s' ea (.ref C) (some d) [] none I4 ⟨_,_,g3,rfl,rfl,rfl,⟨⟨.none,rfl,rfl⟩,by simp,fun p hp=>by cases hp⟩,rfl⟩ (.inl rfl) w2 e4 (q d hd)
end
def Ends.gone(D:Ends)(i:Nat):Ends:={ nx:=fun σ H=>D.nx (σ.set i none) H,rt:=D.rt,bk:=fun σ H=>D.bk (σ.set i none) H,ct:=fun σ H=>D.ct (σ.set i none) H }
section
variable{X:Cx}{st b₀:Stmt}{suite:List Stmt}{t1:TS1}{ts:TS}{x n:Str}{CT:Addr}{np hpos pos:Pos}{i:Nat}
end
end L2
end
section
namespace L2
open PySem PySem.Spec PyProof.Rows
inductive Dt where
 | v (x:V)
 | t (xs:List Dt)
 | l (xs:List Dt)
instance:Inhabited Dt:=⟨.v .non⟩
mutual
def eqD:Dt->Dt->Bool
 | .v x,.v y=>eqV x y
 | .t xs,.t ys=>eqDs xs ys
 | .l xs,.l ys=>eqDs xs ys
 | _,_=>false
def eqDs:List Dt->List Dt->Bool
 | [],[]=>true
 | x::xs,y::ys=>eqD x y && eqDs xs ys
 | _,_=>false
end
inductive Rep(K:PySem.W.Frag)(H:Hp):Nat->Dt->V->Prop where
 | v {n:Nat} {x:V} (f:flatV x=true):Rep K H n (.v x) x
 | t {n:Nat} {a:Addr} {ds:List Dt} {xs:List V} (h:SqT K H a xs) (e:ds.length=xs.length) (r:∀ (i:Nat) d x,ds[i]?=some d->xs[i]?=some x->Rep K H n d x):Rep K H (n+1) (.t ds) (.ref a)
 | l {n:Nat} {a:Addr} {ds:List Dt} {xs:List V} (h:SqL K H a xs) (e:ds.length=xs.length) (r:∀ (i:Nat) d x,ds[i]?=some d->xs[i]?=some x->Rep K H n d x):Rep K H (n+1) (.l ds) (.ref a)
theorem all_range_succ(n:Nat)(p:Nat->Bool):(List.range (n+1)).all p=(p 0 && (List.range n).all fun i=>p (i+1)):=by
 rw[List.range_succ_eq_map,List.all_cons,List.all_map];rfl
theorem eqDs_eq:∀ xs ys:List Dt,eqDs xs ys=((List.range (min xs.length ys.length)).all (fun i=>eqD (xs.getD i default) (ys.getD i default)) && (xs.length == ys.length))
 | [],[]=>by simp[eqDs]
 | [],y::ys=>by simp[eqDs]
 | x::xs,[]=>by simp[eqDs]
 | x::xs,y::ys=>by
  rw[eqDs,eqDs_eq xs ys,List.length_cons,List.length_cons,Nat.succ_min_succ,all_range_succ]
  simp only[List.getD_cons_zero,List.getD_cons_succ,Bool.and_assoc]
  have:(xs.length+1 == ys.length+1)=(xs.length == ys.length):=by rw[Bool.eq_iff_iff,beq_iff_eq,beq_iff_eq];omega
  rw[this]
theorem eqDs_len{xs ys:List Dt}(h:xs.length=ys.length):eqDs xs ys=(List.range xs.length).all (fun i=>eqD (xs.getD i default) (ys.getD i default)):=by
 rw[eqDs_eq,<- h,Nat.min_self,beq_self_eq_true,Bool.and_true]
theorem eqDs_ne{xs ys:List Dt}(h:xs.length≠ys.length):eqDs xs ys=false:=by
 rw[eqDs_eq,beq_eq_false_iff_ne.mpr h,Bool.and_false]
section
variable{K:PySem.W.Frag}{H H':Hp}{n m:Nat}{d d':Dt}{x:V}
theorem Rep.self(r:Rep K H n d x):eqD d d=true:=by
 induction r with
 | v f=>unfold eqD;exact eqV_refl f
 | t h e _ ih =>
  unfold eqD
  rw[eqDs_len rfl,List.all_eq_true]
  intro i hi
  rename_i ds xs _
  have hi:=List.mem_range.mp hi
  have h1:ds[i]?=some ds[i]:=List.getElem?_eq_getElem hi
  have h2:xs[i]?=some (xs[i]'(by omega)):=List.getElem?_eq_getElem (by omega)
  have:=ih i _ _ h1 h2
  rwa [show ds.getD i default=ds[i] by simp[List.getD,h1]]
 | l h e _ ih =>
  unfold eqD
  rw[eqDs_len rfl,List.all_eq_true]
  intro i hi
  rename_i ds xs _
  have hi:=List.mem_range.mp hi
  have h1:ds[i]?=some ds[i]:=List.getElem?_eq_getElem hi
  have h2:xs[i]?=some (xs[i]'(by omega)):=List.getElem?_eq_getElem (by omega)
  have:=ih i _ _ h1 h2
  rwa [show ds.getD i default=ds[i] by simp[List.getD,h1]]
end
section
variable{X:Cx}{pins:List (Addr×Obj)}{σ:St}{H:Hp}{s:Shared}
theorem Inv.tup_not_list{a:Addr}{xs ys:List V}(I:Inv X pins σ H s)(h:SqT X.K H a xs)(h':SqL X.K H a ys):False:=by
 obtain⟨its,r,⟨o,e,c,_⟩,_⟩:=I.tuple h
 obtain⟨its',r',⟨o',n',e',c',_⟩,_⟩:=I.list h'
 rw[e]at e';cases e'
 rw[c]at c';exact absurd (Value.type.inj c') (by decide)
theorem Rep.det(I:Inv X pins σ H s):∀ {n m:Nat} {d d':Dt} {x y:V},Rep X.K H n d x->Rep X.K H m d' y->x=y->d=d':=by
 intro n m d d' x y r
 induction r generalizing m d' y with
 | v f =>
  intro r' e
  subst e
  cases r' with
  | v _=>rfl
  | t _ _ _=>exact absurd f (by simp[flatV])
  | l _ _ _=>exact absurd f (by simp[flatV])
 | t h e _ ih =>
  intro r' ee
  cases r' with
  | v f=>subst ee;exact absurd f (by simp[flatV])
  | t h' e' r2 =>
   cases ee
   have:=I.tuple_inj h h'
   subst this
   congr 1
   refine List.ext_getElem (by omega) fun i h1 h2=>?_
   exact ih i _ _ (List.getElem?_eq_getElem h1) (List.getElem?_eq_getElem (show i < _ by omega)) (r2 i _ _ (List.getElem?_eq_getElem h2) (List.getElem?_eq_getElem (by omega))) rfl
  | l h' _ _=>cases ee;exact(I.tup_not_list h h').elim
 | l h e _ ih =>
  intro r' ee
  cases r' with
  | v f=>subst ee;exact absurd f (by simp[flatV])
  | l h' e' r2 =>
   cases ee
   have:=I.list_inj h h'
   subst this
   congr 1
   refine List.ext_getElem (by omega) fun i h1 h2=>?_
   exact ih i _ _ (List.getElem?_eq_getElem h1) (List.getElem?_eq_getElem (show i < _ by omega)) (r2 i _ _ (List.getElem?_eq_getElem h2) (List.getElem?_eq_getElem (by omega))) rfl
  | t h' _ _=>cases ee;exact(I.tup_not_list h' h).elim
theorem getD_of{α:Type}{xs:List α}{i:Nat}{x d:α}(h:xs[i]?=some x):xs.getD i d=x:=by simp[List.getD,h]
theorem ne_units{A:Around}{n:Nat}(h:A.units+(n+1) < cLine):A.in1.units+n < cLine:=by show A.units+1+n < cLine;omega
theorem Rep.eqAt(I:Inv X pins σ H s):∀ (n:Nat) {A:Around} {d d':Dt} {x y:V} {u v:Value},A.units+n < cLine->Rep X.K H n d x->Rep X.K H n d' y->RelV x u->RelV y v->SeqAt.EqAt A s u v (eqD d d'):=by
 intro n
 induction n with
 | zero =>
  intro A d d' x y u v hu r r' rx ry
  cases r with
  | v f =>
   cases r' with
   | v f'=>unfold eqD;exact eqAt_V rx ry f f'
 | succ n ih =>
  intro A d d' x y u v hu r r' rx ry
  have hu0:A.units < cLine:=by omega
  have elems:∀ {ds es:List Dt} {xs ys:List V} {us vs:List Value},ds.length=xs.length->es.length=ys.length->(∀ (i:Nat) d x,ds[i]?=some d->xs[i]?=some x->Rep X.K H n d x)->(∀ (i:Nat) d x,es[i]?=some d->ys[i]?=some x->Rep X.K H n d x) ->
   Vals xs us->Vals ys vs->∀ j (h1:j < us.toArray.size) (h2:j < vs.toArray.size),SeqAt.EqAt A.in1 s us.toArray[j] vs.toArray[j] (eqD (ds.getD j default) (es.getD j default)):=by
   intro ds es xs ys us vs l1 l2 r1 r2 w1 w2 j h1 h2
   have m1:=w1.length
   have m2:=w2.length
   have j1:j < xs.length:=by have:j < us.length:=by simpa using h1
                             omega
   have j2:j < ys.length:=by have:j < vs.length:=by simpa using h2
                             omega
   have g1:ds[j]?=some (ds[j]'(by omega)):=List.getElem?_eq_getElem _
   have g2:es[j]?=some (es[j]'(by omega)):=List.getElem?_eq_getElem _
   have x1:xs[j]?=some xs[j]:=List.getElem?_eq_getElem _
   have x2:ys[j]?=some ys[j]:=List.getElem?_eq_getElem _
   obtain⟨u1,e1,q1⟩:=w1.get x1
   obtain⟨u2,e2,q2⟩:=w2.get x2
   rw[getD_of g1,getD_of g2]
   have k1:us.toArray[j]=u1:=by
    have:us[j]?=some us[j]:=List.getElem?_eq_getElem _
    rw[this]at e1;simpa using e1
   have k2:vs.toArray[j]=u2:=by
    have:vs[j]?=some vs[j]:=List.getElem?_eq_getElem _
    rw[this]at e2;simpa using e2
   rw[k1,k2]
   exact ih (ne_units hu) (r1 j _ _ g1 x1) (r2 j _ _ g2 x2) q1 q2
  cases r with
  | v f =>
   cases r' with
   | v f'=>unfold eqD;exact eqAt_V rx ry f f'
   | t h e _ =>
    cases ry
    obtain⟨its,_,p,_⟩:=I.tuple h
    unfold eqD
    cases x <;> first | (exact(Bool.false_ne_true f).elim) | skip
    ·cases (show u=Value.none from rx);exact .none_tuple p hu0
    ·cases (show u=Value.bool _ from rx);exact .bool_tuple _ p hu0
    ·obtain⟨t,rfl⟩:=rx;exact .int_tuple _ _ p hu0
    ·obtain⟨t,rfl⟩:=rx;exact .str_tuple _ _ p hu0
   | l h e _ =>
    cases ry
    obtain⟨its,_,p,_⟩:=I.list h
    unfold eqD
    cases x <;> first | (exact(Bool.false_ne_true f).elim) | skip
    ·cases (show u=Value.none from rx);exact .none_list p.isList hu0
    ·cases (show u=Value.bool _ from rx);exact .bool_list _ p.isList hu0
    ·obtain⟨t,rfl⟩:=rx;exact .int_list _ _ p.isList hu0
    ·obtain⟨t,rfl⟩:=rx;exact .str_list _ _ p.isList hu0
  | t h e r1 =>
   rename_i a ds xs
   cases rx
   obtain⟨its,w1,p,_⟩:=I.tuple h
   cases r' with
   | v f' =>
    unfold eqD
    cases y <;> first | (exact(Bool.false_ne_true f').elim) | skip
    ·cases (show v=Value.none from ry);exact .tuple_none p hu0
    ·cases (show v=Value.bool _ from ry);exact .tuple_bool _ p hu0
    ·obtain⟨t,rfl⟩:=ry;exact .tuple_int _ _ p hu0
    ·obtain⟨t,rfl⟩:=ry;exact .tuple_str _ _ p hu0
   | t h' e' r2 =>
    rename_i b es ys
    cases ry
    obtain⟨its',w2,p',_⟩:=I.tuple h'
    by_cases ab:a=b
    ·subst ab
     have z:=Rep.det I (.t h e r1) (.t h' e' r2) rfl
     rw[<- z,Rep.self (.t h e r1)];exact .same _
    ·have q:=SeqAt.RcAt.tuples (A:=A) (e:=fun i=>eqD (ds.getD i default) (es.getD i default)) p p' hu0 (elems e e' r1 r2 w1 w2)
     have sz:its.toArray.size=ds.length:=by rw[List.size_toArray,<- w1.length,e]
     have sz':its'.toArray.size=es.length:=by rw[List.size_toArray,<- w2.length,e']
     rw[sz,sz',<- eqDs_eq]at q
     unfold eqD
     exact .of_refs ab q
   | l h' _ _ =>
    cases ry
    obtain⟨its',w2,p',_⟩:=I.list h'
    unfold eqD
    exact .tuple_list p p'.isList hu0
  | l h e r1 =>
   rename_i a ds xs
   cases rx
   obtain⟨its,w1,p,_⟩:=I.list h
   cases r' with
   | v f' =>
    unfold eqD
    cases y <;> first | (exact(Bool.false_ne_true f').elim) | skip
    ·cases (show v=Value.none from ry);exact .list_none p.isList hu0
    ·cases (show v=Value.bool _ from ry);exact .list_bool _ p.isList hu0
    ·obtain⟨t,rfl⟩:=ry;exact .list_int _ _ p.isList hu0
    ·obtain⟨t,rfl⟩:=ry;exact .list_str _ _ p.isList hu0
   | l h' e' r2 =>
    rename_i b es ys
    cases ry
    obtain⟨its',w2,p',_⟩:=I.list h'
    by_cases ab:a=b
    ·subst ab
     have z:=Rep.det I (.l h e r1) (.l h' e' r2) rfl
     rw[<- z,Rep.self (.l h e r1)];exact .same _
    ·have sz:its.toArray.size=ds.length:=by rw[List.size_toArray,<- w1.length,e]
     have sz':its'.toArray.size=es.length:=by rw[List.size_toArray,<- w2.length,e']
     unfold eqD
     by_cases hl:ds.length=es.length
     ·have q:=SeqAt.RcAt.lists (A:=A) (e:=fun i=>eqD (ds.getD i default) (es.getD i default)) p.isList p'.isList (by omega) hu0 (elems e e' r1 r2 w1 w2)
      rw[sz,<- eqDs_len hl]at q
      exact .of_refs ab q
     ·rw[eqDs_ne hl]
      exact .of_refs ab (SeqAt.RcAt.lists_lengths p.isList p'.isList (by rw[sz,sz'];exact bne_iff_ne.mpr hl) hu0)
   | t h' _ _ =>
    cases ry
    obtain⟨its',w2,p',_⟩:=I.tuple h'
    unfold eqD
    exact .list_tuple p.isList p' hu0
theorem Rep.elems(I:Inv X pins σ H s){n:Nat}{A:Around}(hu:A.units+(n+1) < cLine){ds es:List Dt}{xs ys:List V}{us vs:List Value}(l1:ds.length=xs.length)(l2:es.length=ys.length)
 (r1:∀ (i:Nat) d x,ds[i]?=some d->xs[i]?=some x->Rep X.K H n d x) (r2:∀ (i:Nat) d x,es[i]?=some d->ys[i]?=some x->Rep X.K H n d x) (w1:Vals xs us) (w2:Vals ys vs) (j:Nat) (h1:j < us.toArray.size) (h2:j < vs.toArray.size) :
 SeqAt.EqAt A.in1 s us.toArray[j] vs.toArray[j] (eqD (ds.getD j default) (es.getD j default)):=by
 have m1:=w1.length
 have m2:=w2.length
 have j1:j < xs.length:=by have:j < us.length:=by simpa using h1
                           omega
 have j2:j < ys.length:=by have:j < vs.length:=by simpa using h2
                           omega
 have g1:ds[j]?=some (ds[j]'(by omega)):=List.getElem?_eq_getElem _
 have g2:es[j]?=some (es[j]'(by omega)):=List.getElem?_eq_getElem _
 have x1:xs[j]?=some xs[j]:=List.getElem?_eq_getElem _
 have x2:ys[j]?=some ys[j]:=List.getElem?_eq_getElem _
 obtain⟨u1,e1,q1⟩:=w1.get x1
 obtain⟨u2,e2,q2⟩:=w2.get x2
 rw[getD_of g1,getD_of g2]
 have k1:us.toArray[j]=u1:=by
  have:us[j]?=some us[j]:=List.getElem?_eq_getElem _
  rw[this]at e1;simpa using e1
 have k2:vs.toArray[j]=u2:=by
  have:vs[j]?=some vs[j]:=List.getElem?_eq_getElem _
  rw[this]at e2;simpa using e2
 rw[k1,k2]
 exact Rep.eqAt I n (ne_units hu) (r1 j _ _ g1 x1) (r2 j _ _ g2 x2) q1 q2
theorem Rep.rcAt(I:Inv X pins σ H s){n:Nat}{A:Around}{d d':Dt}{x y:V}{u v:Value}(hu:A.units+n < cLine)(r:Rep X.K H n d x)(r':Rep X.K H n d' y)(rx:RelV x u)(ry:RelV y v):SeqAt.RcAt A s u v (eqD d d'):=by
 have hu0:A.units < cLine:=by omega
 cases r with
 | v f =>
  cases r' with
  | v f' =>
   unfold eqD
   cases x <;> first | (exact(Bool.false_ne_true f).elim) | skip
   all_goals (cases y <;> first | (exact(Bool.false_ne_true f').elim) | skip)
   ·cases (show u=Value.none from rx)
    cases (show v=Value.none from ry)
    exact SeqAt.RcAt.none_none
   ·cases (show u=Value.none from rx)
    cases (show v=Value.bool _ from ry)
    exact SeqAt.RcAt.none_bool _
   ·cases (show u=Value.none from rx)
    obtain⟨tv,rfl⟩:=ry
    exact SeqAt.RcAt.none_int _ _
   ·cases (show u=Value.none from rx)
    obtain⟨tv,rfl⟩:=ry
    exact SeqAt.RcAt.none_str _ _
   ·cases (show u=Value.bool _ from rx)
    cases (show v=Value.none from ry)
    exact SeqAt.RcAt.bool_none _
   ·cases (show u=Value.bool _ from rx)
    cases (show v=Value.bool _ from ry)
    exact SeqAt.RcAt.bool_bool _ _
   ·cases (show u=Value.bool _ from rx)
    obtain⟨tv,rfl⟩:=ry
    exact SeqAt.RcAt.bool_int _ _ _
   ·cases (show u=Value.bool _ from rx)
    obtain⟨tv,rfl⟩:=ry
    exact SeqAt.RcAt.bool_str _ _ _
   ·obtain⟨tu,rfl⟩:=rx
    cases (show v=Value.none from ry)
    exact SeqAt.RcAt.int_none _ _
   ·obtain⟨tu,rfl⟩:=rx
    cases (show v=Value.bool _ from ry)
    exact SeqAt.RcAt.int_bool _ _ _
   ·obtain⟨tu,rfl⟩:=rx
    obtain⟨tv,rfl⟩:=ry
    exact SeqAt.RcAt.int_int _ _ _ _
   ·obtain⟨tu,rfl⟩:=rx
    obtain⟨tv,rfl⟩:=ry
    exact SeqAt.RcAt.int_str _ _ _ _
   ·obtain⟨tu,rfl⟩:=rx
    cases (show v=Value.none from ry)
    exact SeqAt.RcAt.str_none _ _
   ·obtain⟨tu,rfl⟩:=rx
    cases (show v=Value.bool _ from ry)
    exact SeqAt.RcAt.str_bool _ _ _
   ·obtain⟨tu,rfl⟩:=rx
    obtain⟨tv,rfl⟩:=ry
    exact SeqAt.RcAt.str_int _ _ _ _
   ·obtain⟨tu,rfl⟩:=rx
    obtain⟨tv,rfl⟩:=ry
    exact SeqAt.RcAt.str_str _ _ _ _
  | t h e _ =>
   cases ry
   obtain⟨its,_,p,_⟩:=I.tuple h
   unfold eqD
   cases x <;> first | (exact(Bool.false_ne_true f).elim) | skip
   ·cases (show u=Value.none from rx)
    exact SeqAt.RcAt.none_tuple p hu0
   ·cases (show u=Value.bool _ from rx)
    exact SeqAt.RcAt.bool_tuple _ p hu0
   ·obtain⟨tu,rfl⟩:=rx
    exact SeqAt.RcAt.int_tuple _ _ p hu0
   ·obtain⟨tu,rfl⟩:=rx
    exact SeqAt.RcAt.str_tuple _ _ p hu0
  | l h e _ =>
   cases ry
   obtain⟨its,_,p,_⟩:=I.list h
   unfold eqD
   cases x <;> first | (exact(Bool.false_ne_true f).elim) | skip
   ·cases (show u=Value.none from rx)
    exact SeqAt.RcAt.none_list p.isList hu0
   ·cases (show u=Value.bool _ from rx)
    exact SeqAt.RcAt.bool_list _ p.isList hu0
   ·obtain⟨tu,rfl⟩:=rx
    exact SeqAt.RcAt.int_list _ _ p.isList hu0
   ·obtain⟨tu,rfl⟩:=rx
    exact SeqAt.RcAt.str_list _ _ p.isList hu0
 | t h e r1 =>
  rename_i n a ds xs
  cases rx
  obtain⟨its,w1,p,_⟩:=I.tuple h
  cases r' with
  | v f' =>
   unfold eqD
   cases y <;> first | (exact(Bool.false_ne_true f').elim) | skip
   ·cases (show v=Value.none from ry)
    exact SeqAt.RcAt.tuple_none p hu0
   ·cases (show v=Value.bool _ from ry)
    exact SeqAt.RcAt.tuple_bool _ p hu0
   ·obtain⟨tv,rfl⟩:=ry
    exact SeqAt.RcAt.tuple_int _ _ p hu0
   ·obtain⟨tv,rfl⟩:=ry
    exact SeqAt.RcAt.tuple_str _ _ p hu0
  | t h' e' r2 =>
   rename_i b es ys
   cases ry
   obtain⟨its',w2,p',_⟩:=I.tuple h'
   have q:=SeqAt.RcAt.tuples (A:=A) (e:=fun i=>eqD (ds.getD i default) (es.getD i default)) p p' hu0 (Rep.elems I hu e e' r1 r2 w1 w2)
   have sz:its.toArray.size=ds.length:=by rw[List.size_toArray,<- w1.length,e]
   have sz':its'.toArray.size=es.length:=by rw[List.size_toArray,<- w2.length,e']
   rw[sz,sz',<- eqDs_eq]at q
   unfold eqD
   exact q
  | l h' _ _ =>
   cases ry
   obtain⟨its',w2,p',_⟩:=I.list h'
   unfold eqD
   exact SeqAt.RcAt.tuple_list p p'.isList hu0
 | l h e r1 =>
  rename_i n a ds xs
  cases rx
  obtain⟨its,w1,p,_⟩:=I.list h
  cases r' with
  | v f' =>
   unfold eqD
   cases y <;> first | (exact(Bool.false_ne_true f').elim) | skip
   ·cases (show v=Value.none from ry)
    exact SeqAt.RcAt.list_none p.isList hu0
   ·cases (show v=Value.bool _ from ry)
    exact SeqAt.RcAt.list_bool _ p.isList hu0
   ·obtain⟨tv,rfl⟩:=ry
    exact SeqAt.RcAt.list_int _ _ p.isList hu0
   ·obtain⟨tv,rfl⟩:=ry
    exact SeqAt.RcAt.list_str _ _ p.isList hu0
  | l h' e' r2 =>
   rename_i b es ys
   cases ry
   obtain⟨its',w2,p',_⟩:=I.list h'
   have sz:its.toArray.size=ds.length:=by rw[List.size_toArray,<- w1.length,e]
   have sz':its'.toArray.size=es.length:=by rw[List.size_toArray,<- w2.length,e']
   unfold eqD
   by_cases hl:ds.length=es.length
   ·have q:=SeqAt.RcAt.lists (A:=A) (e:=fun i=>eqD (ds.getD i default) (es.getD i default)) p.isList p'.isList (by omega) hu0 (Rep.elems I hu e e' r1 r2 w1 w2)
    rw[sz,<- eqDs_len hl]at q
    exact q
   ·rw[eqDs_ne hl]
    exact SeqAt.RcAt.lists_lengths p.isList p'.isList (by rw[sz,sz'];exact bne_iff_ne.mpr hl) hu0
  | t h' _ _ =>
   cases ry
   obtain⟨its',w2,p',_⟩:=I.tuple h'
   unfold eqD
   exact SeqAt.RcAt.list_tuple p.isList p' hu0
theorem Rep.rcNeAt(I:Inv X pins σ H s){n:Nat}{A:Around}{d d':Dt}{x y:V}{u v:Value}(hu:A.units+n < cLine)(r:Rep X.K H n d x)(r':Rep X.K H n d' y)(rx:RelV x u)(ry:RelV y v):SeqAt.RcNeAt A s u v (!eqD d d'):=by
 have hu0:A.units < cLine:=by omega
 cases r with
 | v f =>
  cases r' with
  | v f' =>
   unfold eqD
   cases x <;> first | (exact(Bool.false_ne_true f).elim) | skip
   all_goals (cases y <;> first | (exact(Bool.false_ne_true f').elim) | skip)
   ·cases (show u=Value.none from rx)
    cases (show v=Value.none from ry)
    exact SeqAt.RcNeAt.none_none
   ·cases (show u=Value.none from rx)
    cases (show v=Value.bool _ from ry)
    exact SeqAt.RcNeAt.none_bool _
   ·cases (show u=Value.none from rx)
    obtain⟨tv,rfl⟩:=ry
    exact SeqAt.RcNeAt.none_int _ _
   ·cases (show u=Value.none from rx)
    obtain⟨tv,rfl⟩:=ry
    exact SeqAt.RcNeAt.none_str _ _
   ·cases (show u=Value.bool _ from rx)
    cases (show v=Value.none from ry)
    exact SeqAt.RcNeAt.bool_none _
   ·cases (show u=Value.bool _ from rx)
    cases (show v=Value.bool _ from ry)
    exact SeqAt.RcNeAt.bool_bool _ _
   ·cases (show u=Value.bool _ from rx)
    obtain⟨tv,rfl⟩:=ry
    exact SeqAt.RcNeAt.bool_int _ _ _
   ·cases (show u=Value.bool _ from rx)
    obtain⟨tv,rfl⟩:=ry
    exact SeqAt.RcNeAt.bool_str _ _ _
   ·obtain⟨tu,rfl⟩:=rx
    cases (show v=Value.none from ry)
    exact SeqAt.RcNeAt.int_none _ _
   ·obtain⟨tu,rfl⟩:=rx
    cases (show v=Value.bool _ from ry)
    exact SeqAt.RcNeAt.int_bool _ _ _
   ·obtain⟨tu,rfl⟩:=rx
    obtain⟨tv,rfl⟩:=ry
    exact SeqAt.RcNeAt.int_int _ _ _ _
   ·obtain⟨tu,rfl⟩:=rx
    obtain⟨tv,rfl⟩:=ry
    exact SeqAt.RcNeAt.int_str _ _ _ _
   ·obtain⟨tu,rfl⟩:=rx
    cases (show v=Value.none from ry)
    exact SeqAt.RcNeAt.str_none _ _
   ·obtain⟨tu,rfl⟩:=rx
    cases (show v=Value.bool _ from ry)
    exact SeqAt.RcNeAt.str_bool _ _ _
   ·obtain⟨tu,rfl⟩:=rx
    obtain⟨tv,rfl⟩:=ry
    exact SeqAt.RcNeAt.str_int _ _ _ _
   ·obtain⟨tu,rfl⟩:=rx
    obtain⟨tv,rfl⟩:=ry
    exact SeqAt.RcNeAt.str_str _ _ _ _
  | t h e _ =>
   cases ry
   obtain⟨its,_,p,_⟩:=I.tuple h
   unfold eqD
   cases x <;> first | (exact(Bool.false_ne_true f).elim) | skip
   ·cases (show u=Value.none from rx)
    exact SeqAt.RcNeAt.none_tuple p hu0
   ·cases (show u=Value.bool _ from rx)
    exact SeqAt.RcNeAt.bool_tuple _ p hu0
   ·obtain⟨tu,rfl⟩:=rx
    exact SeqAt.RcNeAt.int_tuple _ _ p hu0
   ·obtain⟨tu,rfl⟩:=rx
    exact SeqAt.RcNeAt.str_tuple _ _ p hu0
  | l h e _ =>
   cases ry
   obtain⟨its,_,p,_⟩:=I.list h
   unfold eqD
   cases x <;> first | (exact(Bool.false_ne_true f).elim) | skip
   ·cases (show u=Value.none from rx)
    exact SeqAt.RcNeAt.none_list p.isList hu0
   ·cases (show u=Value.bool _ from rx)
    exact SeqAt.RcNeAt.bool_list _ p.isList hu0
   ·obtain⟨tu,rfl⟩:=rx
    exact SeqAt.RcNeAt.int_list _ _ p.isList hu0
   ·obtain⟨tu,rfl⟩:=rx
    exact SeqAt.RcNeAt.str_list _ _ p.isList hu0
 | t h e r1 =>
  rename_i n a ds xs
  cases rx
  obtain⟨its,w1,p,_⟩:=I.tuple h
  cases r' with
  | v f' =>
   unfold eqD
   cases y <;> first | (exact(Bool.false_ne_true f').elim) | skip
   ·cases (show v=Value.none from ry)
    exact SeqAt.RcNeAt.tuple_none p hu0
   ·cases (show v=Value.bool _ from ry)
    exact SeqAt.RcNeAt.tuple_bool _ p hu0
   ·obtain⟨tv,rfl⟩:=ry
    exact SeqAt.RcNeAt.tuple_int _ _ p hu0
   ·obtain⟨tv,rfl⟩:=ry
    exact SeqAt.RcNeAt.tuple_str _ _ p hu0
  | t h' e' r2 =>
   rename_i b es ys
   cases ry
   obtain⟨its',w2,p',_⟩:=I.tuple h'
   have q:=SeqAt.RcNeAt.tuples (A:=A) (e:=fun i=>eqD (ds.getD i default) (es.getD i default)) p p' hu0 (Rep.elems I hu e e' r1 r2 w1 w2)
   have sz:its.toArray.size=ds.length:=by rw[List.size_toArray,<- w1.length,e]
   have sz':its'.toArray.size=es.length:=by rw[List.size_toArray,<- w2.length,e']
   rw[sz,sz',<- eqDs_eq]at q
   unfold eqD
   exact q
  | l h' _ _ =>
   cases ry
   obtain⟨its',w2,p',_⟩:=I.list h'
   unfold eqD
   exact SeqAt.RcNeAt.tuple_list p p'.isList hu0
 | l h e r1 =>
  rename_i n a ds xs
  cases rx
  obtain⟨its,w1,p,_⟩:=I.list h
  cases r' with
  | v f' =>
   unfold eqD
   cases y <;> first | (exact(Bool.false_ne_true f').elim) | skip
   ·cases (show v=Value.none from ry)
    exact SeqAt.RcNeAt.list_none p.isList hu0
   ·cases (show v=Value.bool _ from ry)
    exact SeqAt.RcNeAt.list_bool _ p.isList hu0
   ·obtain⟨tv,rfl⟩:=ry
    exact SeqAt.RcNeAt.list_int _ _ p.isList hu0
   ·obtain⟨tv,rfl⟩:=ry
    exact SeqAt.RcNeAt.list_str _ _ p.isList hu0
  | l h' e' r2 =>
   rename_i b es ys
   cases ry
   obtain⟨its',w2,p',_⟩:=I.list h'
   have sz:its.toArray.size=ds.length:=by rw[List.size_toArray,<- w1.length,e]
   have sz':its'.toArray.size=es.length:=by rw[List.size_toArray,<- w2.length,e']
   unfold eqD
   by_cases hl:ds.length=es.length
   ·have q:=SeqAt.RcNeAt.lists (A:=A) (e:=fun i=>eqD (ds.getD i default) (es.getD i default)) p.isList p'.isList (by omega) hu0 (Rep.elems I hu e e' r1 r2 w1 w2)
    rw[sz,<- eqDs_len hl]at q
    exact q
   ·rw[eqDs_ne hl]
    exact SeqAt.RcNeAt.lists_lengths p.isList p'.isList (by rw[sz,sz'];exact bne_iff_ne.mpr hl) hu0
  | t h' _ _ =>
   cases ry
   obtain⟨its',w2,p',_⟩:=I.tuple h'
   unfold eqD
   exact SeqAt.RcNeAt.list_tuple p.isList p' hu0
def rD(K:PySem.W.Frag)(neg:Bool):R2:=fun x y H Q=>∃ n d d',n<=60/\Rep K H n d x/\Rep K H n d' y/\Q (.bl (if neg then !eqD d d' else eqD d d')) H
theorem op_eqD(hu:X.A.units+64 < cLine):OpR X (compareOp .Eq) (rD X.K false):=by
 intro pins s σ H x y v u Q I rx ry h
 obtain⟨n,d,d',hn,r,r',q⟩:=h
 exact Rep.rcAt I (A:=X.A) (by omega) r r' rx ry X.prog X.w X.xe _ ⟨.bl _,H,I,rfl,q⟩
theorem op_neD(hu:X.A.units+64 < cLine):OpR X (compareOp .NotEq) (rD X.K true):=by
 intro pins s σ H x y v u Q I rx ry h
 obtain⟨n,d,d',hn,r,r',q⟩:=h
 exact Rep.rcNeAt I (A:=X.A) (by omega) r r' rx ry X.prog X.w X.xe _ ⟨.bl _,H,I,rfl,q⟩
end
end L2
end
section
namespace L2
open PySem PySem.Spec PyProof.Rows PySem.W
structure OneK(xs:List V)(lt:V->V->Bool):Prop where
 ty:∃ T:String,(Value.type T != Value.type "tuple")=true/\∀ v∈xs,∀ u,RelV v u->typeOf u=pure (.type T)
 ask:∀ v∈xs,∀ v'∈xs,∀ u u',RelV v u->RelV v' u'->∀ (prog:Program) (w:World) (A:Around) (E:Value->Shared->Prop) (s:Shared) (Q:Bool->Shared->Prop),Q (lt v v') s->wpAny (model prog w) A (keyLt' oneType' u u') Q E s
 swo:Swo xs lt
section
variable{X:Cx}{pins:List (Addr×Obj)}{σ:St}{H:Hp}{s:Shared}{A:Around}{E:Value->Shared->Prop}
end
def ltP:V->V->Bool
 | .int a,.int b=>decide (a < b)
 | .str a,.str b=>decide (a.cps.toList < b.cps.toList)
 | _,_=>false
theorem one_ints{xs:List V}(h:∀ v∈xs,∃ n,v=.int n):OneK xs ltP where
 ty:=⟨"int",by decide,fun v hv u r=>by obtain⟨n,rfl⟩:=h v hv;obtain⟨t,rfl⟩:=r;rfl⟩
 ask:=fun v hv v' hv' u u' r r' prog w A E s Q q=>by
  obtain⟨n,rfl⟩:=h v hv;obtain⟨t,rfl⟩:=r
  obtain⟨n',rfl⟩:=h v' hv';obtain⟨t',rfl⟩:=r'
  exact kat_lt_int q
 swo:=⟨fun a ha=>by obtain⟨n,rfl⟩:=h a ha;simp[ltP],fun a ha b hb c hc=>by
  obtain⟨x,rfl⟩:=h a ha;obtain⟨y,rfl⟩:=h b hb;obtain⟨z,rfl⟩:=h c hc
  simp only[ltP,decide_eq_true_eq];omega,fun a ha b hb c hc=>by
  obtain⟨x,rfl⟩:=h a ha;obtain⟨y,rfl⟩:=h b hb;obtain⟨z,rfl⟩:=h c hc
  simp only[ltP,decide_eq_true_eq];omega⟩
theorem one_strs{xs:List V}(h:∀ v∈xs,∃ z,v=.str z):OneK xs ltP where
 ty:=⟨"str",by decide,fun v hv u r=>by obtain⟨n,rfl⟩:=h v hv;obtain⟨t,rfl⟩:=r;rfl⟩
 ask:=fun v hv v' hv' u u' r r' prog w A E s Q q=>by
  obtain⟨n,rfl⟩:=h v hv;obtain⟨t,rfl⟩:=r
  obtain⟨n',rfl⟩:=h v' hv';obtain⟨t',rfl⟩:=r'
  exact kas_lt_str q
 swo:=⟨fun a ha=>by obtain⟨n,rfl⟩:=h a ha;simp only[ltP,decide_eq_false_iff_not];exact List.lt_irrefl _,fun a ha b hb c hc=>by
  obtain⟨x,rfl⟩:=h a ha;obtain⟨y,rfl⟩:=h b hb;obtain⟨z,rfl⟩:=h c hc
  simp only[ltP,decide_eq_true_eq];exact fun p q=>List.lt_trans p q,fun a ha b hb c hc=>by
  obtain⟨x,rfl⟩:=h a ha;obtain⟨y,rfl⟩:=h b hb;obtain⟨z,rfl⟩:=h c hc
  simp only[ltP,decide_eq_true_eq]
  intro p
  by_cases q:x.cps.toList < y.cps.toList
  ·exact .inl q
  ·exact .inr (List.lt_of_le_of_lt (List.not_lt.mp q) p)⟩
end L2
end
section
namespace L2
open PySem PySem.Spec PyProof.Rows
theorem relKey{k:Key}{u:Value}(h:keyIs k u=true):RelV (kV k) u:=by
 rcases keyIs_shape h with ⟨i,t,rfl,rfl⟩ | ⟨x,t,rfl,rfl⟩
 ·exact⟨t,rfl⟩
 ·exact⟨t,rfl⟩
def NF(X:Cx)(d:Addr):Prop:=∀ o u,X.H₀ d≠some (.frz o u)
section
variable{X:Cx}{pins:List (Addr×Obj)}{σ:St}{H:Hp}{s:Shared}{d:Addr}{kvs:List (Key×V)}
theorem Inv.recast{u u':HO}(I:Inv X pins σ H s)(h:H d=some u)(n1:∀ xs,u≠.tup xs)(n2:∀ o v,X.H₀ d≠some (.frz o v))(n3:∀ ps,u≠.tbl ps)(n4:∀ x,u≠.own x)(ok:ObjOk X.prog X.w (upd H d u') s.heap d u'):Inv X pins σ (upd H d u') s:=by
 have ne:∀ b,H b=none->b≠d:=fun b q z=>by rw[z,h]at q;cases q
 have nt:∀ b xs,H b=some (.tup xs)->b≠d:=fun b xs q z=>by rw[z,h]at q;exact n1 xs (Option.some.inj q)
 have no:∀ b x,H b=some (.own x)->b≠d:=fun b x q z=>by rw[z,h]at q;exact n4 x (Option.some.inj q)
 refine⟨I.ok,I.os,I.bare,⟨I.base.keep,I.base.slot,fun b v q n hx=>?_,I.base.there,fun b xs q=>?_,fun b o v q=>?_,fun b ps q=>?_⟩,I.loc,I.cell,by rw[upd_ne (ne _ I.free)];exact I.free,fun x c q=>by rw[upd_ne (ne _ (I.freeC x c q))];exact I.freeC x c q,fun p hp=>?_,fun b v q=>?_,I.len⟩
 ·have z:=I.base.free b v q n hx
  rw[upd_ne (ne b z)];exact z
 ·have z:=I.base.tups b xs q
  rw[upd_ne (nt b xs z)];exact z
 ·have z:=I.base.frzs b o v q
  rw[upd_ne (fun e=>by rw[e]at q;exact n2 o v q)];exact z
 ·obtain⟨m,z⟩:=I.base.tbls b ps q
  exact⟨m,by rw[upd_ne (fun e=>by rw[e,h]at z;exact n3 _ (Option.some.inj z))];exact z⟩
 ·obtain⟨a,b,r⟩:=I.pin p hp
  exact⟨a,by rw[upd_ne (ne _ b)];exact b,r⟩
 ·by_cases hb:b=d
  ·subst hb;rw[upd_same]at q;cases q;exact ok
  ·rw[upd_ne hb]at q
   exact(I.hok b v q).stay (fun c v _ r=>r) (fun c r=>by rw[upd_ne (no c b r)];exact r) fun c xs r=>by rw[upd_ne (nt c xs r)];exact r
theorem Inv.nf(I:Inv X pins σ H s)(h:H d=some (.dK kvs)):NF X d:=fun o u q=>by
 have z:=I.base.frzs d o u q
 rw[h]at z;cases z
theorem Inv.freeze(I:Inv X pins σ H s)(h:H d=some (.dK kvs)):∃ ob,s.heap.get? d=some ob/\Inv X pins σ (upd H d (.frz ob (.dK kvs))) s:=by
 obtain⟨z,y,vs,r,o,es,ep,e,c⟩:=(show ObjOk X.prog X.w H s.heap d (.dK kvs) from I.hok d _ h)
 exact⟨o,e,I.recast h (fun _ z=>by cases z) (I.nf h) (fun _ z=>by cases z) (fun _ z=>by cases z) ⟨e,z,y,vs,r,o,es,ep,e,c⟩⟩
theorem Inv.thaw{ob:Obj}(I:Inv X pins σ H s)(nf:NF X d)(h:H d=some (.frz ob (.dK kvs))):Inv X pins σ (upd H d (.dK kvs)) s:=by
 obtain⟨_,z,y,vs,r,o,es,ep,e,c⟩:=(show ObjOk X.prog X.w H s.heap d (.frz ob (.dK kvs)) from I.hok d _ h)
 exact I.recast h (fun _ z=>by cases z) nf (fun _ z=>by cases z) (fun _ z=>by cases z) ⟨z,y,vs,r,o,es,ep,e,c⟩
end
def Itd(d:Addr)(ob:Obj)(kvs:List (Key×V)):It :=
 ⟨fun i H=>H d=some (.frz ob (.dK kvs))/\i < kvs.length,fun i H x H'=>H'=H/\∃ k v,kvs[i]?=some (k,v)/\x=kV k,fun i H=>H d=some (.frz ob (.dK kvs))/\kvs.length<=i⟩
theorem frz_at{P:Program}{w:World}{H:Hp}{h:Heap}{d:Addr}{ob:Obj}{kvs:List (Key×V)}{es:Array DictEntry}{ep:Nat}(ok:HOk P w H h)(e:H d=some (.frz ob (.dK kvs)))(hd:ob.data=.dict es ep) :
 (d == sysModules)=false/\∃ vs,KV kvs vs/\h.DictAt (mixKind P w) d vs ep:=by
 obtain⟨e0,z,y,vs,r,o,es',ep',e1,c1,c2,c3⟩:=(show ObjOk P w H h d (.frz ob (.dK kvs)) from ok d _ e)
 rw[e0]at e1;cases e1
 rw[hd]at c2;cases c2
 exact⟨y,vs,r,ob,es,e0,c1,hd,c3⟩
theorem KV.get{kvs:List (Key×V)}{vs:List (Key×Value)}(r:KV kvs vs){i:Nat}{k:Key}{v:V}(h:kvs[i]?=some (k,v)):∃ u,vs[i]?=some (k,u)/\RelV v u:=by
 induction r generalizing i with
 | nil=>simp at h
 | cons a b ih =>
  cases i with
  | zero =>
   simp only[List.getElem?_cons_zero,Option.some.injEq]at h ⊢
   subst h
   rename_i q _ _
   obtain⟨k',u⟩:=q
   exact⟨u,by rw[show k=k' from a.1],a.2⟩
  | succ j =>
   simp only[List.getElem?_cons_succ]at h ⊢
   exact ih h
theorem KV.len{kvs:List (Key×V)}{vs:List (Key×Value)}(r:KV kvs vs):kvs.length=vs.length:=Paired.length r
theorem turn_dict{P:Program}{w:World}{K:PySem.W.Frag}{tg:Expr}(it d:Addr)(ob:Obj)(kvs:List (Key×V))(es:Array DictEntry)(ep:Nat)(hdt:ob.data=.dict es ep):Turn P w K tg (Itd d ob kvs) [it] it (fun i h=>h.IsKeyIter it d i kvs.length ep) where
 mem:=by simp
 obj:=fun i h st b hb=>by
  have e:b=it:=by simpa using hb
  subst e
  obtain⟨o,e,c,dd⟩:=st
  exact⟨o,e,fun v z=>by rw[dd]at z;cases z⟩
 keep:=fun i h h' st k=>let ⟨o,ho,r⟩:=st;⟨o,k it (by simp) o ho,r⟩
 item:=by
  intro X hP hw hK hc i pins s σ H E I hf st hg
  subst hP hw hK
  obtain⟨hz,hi⟩:=hg
  obtain⟨_,vs,rv,da⟩:=frz_at I.hok hz hdt
  have hl:=rv.len
  obtain⟨k,v,hkv⟩:∃ k v,kvs[i]?=some (k,v):=⟨kvs[i].1,kvs[i].2,List.getElem?_eq_getElem hi⟩
  obtain⟨u,hu,_⟩:=rv.get hkv
  obtain⟨f0,f1,f2,f3,f4,f5⟩:=hf it (by simp)
  rw[hl]at st
  refine wpAny_pyNext_dict_item st da hu fun key h' hk st' sb=>?_
  have I1:Inv X pins σ H { s with heap:=h' }:=I.turned (t':=s.toks) (fun b o hb e=>(sb.2 b hb).trans e) f0 f1 f3 f4 f5
  obtain⟨o,e,c,dd⟩:=id st'
  exact⟨key,rfl,go_of (s:={ s with heap:=h' }) e c dd (by decide) ⟨kV k,H,I1,relKey hk,⟨rfl,k,v,hkv,rfl⟩,by rw[hl];exact st',fun b hb=>(hf b hb).1⟩⟩
 done:=by
  intro X hP hw hK hc i pins s σ H E I hf st hg
  subst hP hw hK
  obtain⟨hz,hi⟩:=hg
  obtain⟨_,vs,rv,da⟩:=frz_at I.hok hz hdt
  have hl:=rv.len
  obtain⟨f0,f1,f2,f3,f4,f5⟩:=hf it (by simp)
  rw[hl]at st
  exact wpAny_pyNext_dict_end (I.ok.hd hc) st da (List.getElem?_eq_none (by omega)) fun h' eb=>⟨rfl,I.turned (t':=s.toks) (fun b o hb e=>eb b o hb e) f0 f1 f3 f4 f5⟩
 self:=fun _ _ _ _ _ st h=>wpAny_pyIter_keyiter st h
def iDict(X:Cx)(tl:TE):TI:=fun σ H R=>tl σ H fun x H1=>∃ d kvs,x=.ref d/\H1 d=some (.dK kvs)/\∀ ob,NF X d->R (Itd d ob kvs) (upd H1 d (.frz ob (.dK kvs)))
section
variable{X:Cx}
theorem pi_dict{tg l:Expr}{tl:TE}(hl:PE X l tl):PI X tg l (iDict X tl):=by
 intro pins s σ H R I h
 refine thn (hl pins s σ H _ I h) fun v s1 ⟨x,H1,I1,r1,q1⟩=>?_
 obtain⟨d,kvs,e,hd,q⟩:=q1
 subst e
 obtain rfl:v=Value.ref d:=r1
 obtain⟨ob,hob,I2⟩:=I1.freeze hd
 obtain⟨z,y,vs,rv,o,es,ep,e0,c1,c2,c3⟩:=(show ObjOk X.prog X.w H1 s1.heap d (.dK kvs) from I1.hok d _ hd)
 rw[hob]at e0;cases e0
 have da:s1.heap.DictAt (mixKind X.prog X.w) d vs ep:=⟨ob,es,hob,c1,c2,c3⟩
 refine wpAny_pyIter_dict y da ?_
 have nf:=I1.nf hd
 refine⟨s1.heap.objs.size,[s1.heap.objs.size],_,_,upd H1 d (.frz ob (.dK kvs)),rfl,I2.kept (t':=s1.toks) fun b o e=>Heap.get?_push_of_some _ e,turn_dict _ d ob kvs es ep c2,⟨_,Heap.get?_push_size _ rfl,rfl,?_⟩,fun b hb=>?_,q ob nf⟩
 ·rw[rv.len];rfl
 ·have e:b=s1.heap.objs.size:=by simpa using hb
  subst e
  exact I2.fpOk (Nat.le_refl _) (I2.hok.fresh (Nat.le_refl _))
def Ends.thawed(X:Cx)(D:Ends):Ends:={ D with nx:=fun σ H=>∃ d ob kvs,NF X d/\H d=some (.frz ob (.dK kvs))/\D.nx σ (upd H d (.dK kvs)),rt:=fun v H=>∃ d ob kvs,NF X d/\H d=some (.frz ob (.dK kvs))/\D.rt v (upd H d (.dK kvs)) }
def sThaw(X:Cx)(t:TS):TS:=fun D σ H=>t (D.thawed X) σ H
def tThaw(X:Cx)(te:TE):TE:=fun σ H Q=>te σ H fun v H1=>∃ d ob kvs,NF X d/\H1 d=some (.frz ob (.dK kvs))/\Q v (upd H1 d (.dK kvs))
theorem pe_thaw{e:Expr}{te:TE}(h:PE X e te):PE X e (tThaw X te):=fun pins s σ H Q I q=>wpAny_mono (h pins s σ H _ I q) (fun u s1 ⟨v,H',I',r,d,ob,kvs,nf,e,q'⟩=>⟨v,_,I'.thaw nf e,r,q'⟩) fun _ _ z=>z
theorem tFor_dict{tl:TE}{g:TG}{tb:TS}{D:Ends}{σ:St}{H:Hp}:tFor (iDict X tl) g tb D σ H=tl σ H fun x H1=>∃ d kvs,x=.ref d/\H1 d=some (.dK kvs)/\∀ ob,NF X d->FoR (Itd d ob kvs) g tb D σ (upd H1 d (.frz ob (.dK kvs))):=rfl
theorem tLc_dict{tl:TE}{tt:TT}{te:TE}{σ:St}{H:Hp}{Q:VK}:tLc (iDict X tl) tt te σ H Q=tl σ H fun x H1=>∃ d kvs,x=.ref d/\H1 d=some (.dK kvs)/\∀ ob,NF X d->LcR (Itd d ob kvs) tt te σ Q (upd H1 d (.frz ob (.dK kvs))):=rfl
end
theorem lcR_keys{d:Addr}{ob:Obj}{kvs:List (Key×V)}{tt:TT}{σ:St}{H1:Hp}{Q:VK}(p:V->Bool)(hz:kvs.length<=sizeLine)(hd:H1 d=some (.frz ob (.dK kvs)))
 (he:∀ k v H2 (R:Bool->Hp->Prop),(k,v)∈kvs->Same H1 H2->(∀ H3,Same H2 H3->R (p (kV k)) H3)->tt (some (kV k)::σ) H2 R)
 (hq:∀ D H2,H1 D=none->Same H1 H2->H2 D=some (.lst ((kvs.map fun q=>kV q.1).filter p))->Q (.ref D) H2):LcR (Itd d ob kvs) tt (tVar 0) σ Q H1 :=
 lcR_filter (kvs.map fun q=>kV q.1) p (by rw[List.length_map];exact hz) (fun i H2 hi s=>⟨⟨s _ _ hd,by rwa [List.length_map]at hi⟩,fun x H' ⟨e,k,v,hkv,ex⟩=>⟨e,by rw[List.getElem?_map,hkv,ex];rfl⟩⟩)
  (fun H2 s=>⟨s _ _ hd,by rw[List.length_map];exact Nat.le_refl _⟩) (fun i x H2 R hx s r=>by
   rw[List.getElem?_map]at hx
   cases e:kvs[i]? with
   | none=>rw[e]at hx;cases hx
   | some q =>
    rw[e]at hx
    cases hx
    exact he q.1 q.2 H2 R (List.mem_of_getElem? e) s r) hq
end L2
end
section
namespace L2
open PySem PySem.Spec PyProof.Rows
theorem Room.u1{k:Nat}{A:Around}(r:Room k A):A.units+1 < cLine:=by have:=r.units;omega
def SqE(b:Bool)(K:PySem.W.Frag)(H:Hp)(a:Addr)(xs:List V):Prop:=if b=true then SqT K H a xs else SqL K H a xs
def ItE(b:Bool)(K:PySem.W.Frag)(a:Addr):It:=if b=true then Itt K a else Itl K a
theorem SqE.same{b:Bool}{K:PySem.W.Frag}{H H':Hp}{a:Addr}{xs:List V}(h:SqE b K H a xs)(s:Same H H'):SqE b K H' a xs:=by
 cases b with
 | true=>exact Same.seqT s h
 | false=>exact Same.seq s h
def iSeq(K:PySem.W.Frag)(tl:TE):TI:=fun σ H R=>tl σ H fun x H1=>∃ a b,x=.ref a/\(∃ xs,SqE b K H1 a xs)/\R (ItE b K a) H1
section
variable{X:Cx}{tg:Expr}
theorem pi_seq{l:Expr}{tl:TE}(hl:PE X l tl):PI X tg l (iSeq X.K tl):=by
 intro pins s σ H R I h
 refine thn (hl pins s σ H _ I h) fun v s1 ⟨x,H1,I1,r1,q1⟩=>?_
 obtain⟨a,b,e,⟨xs,hq⟩,q⟩:=q1
 subst e
 cases r1
 cases b with
 | false =>
  obtain⟨its,rv,p,hz⟩:=I1.list hq
  refine wpAny_pyIter_list p.isList ?_
  refine⟨s1.heap.objs.size,[s1.heap.objs.size],_,_,H1,rfl,I1.kept (t':=s1.toks) fun b o e=>Heap.get?_push_of_some _ e,turn_list a _,⟨_,Heap.get?_push_size _ rfl,rfl,rfl⟩,fun b hb=>?_,q⟩
  have e:b=s1.heap.objs.size:=by simpa using hb
  subst e
  exact I1.fpOk (Nat.le_refl _) (I1.hok.fresh (Nat.le_refl _))
 | true =>
  obtain⟨its,rv,p,hz⟩:=I1.tuple hq
  refine wpAny_pyIter_tuple (show s1.heap.IsTuple a its.toArray from p) ?_
  refine⟨s1.heap.objs.size,[s1.heap.objs.size],_,_,H1,rfl,I1.kept (t':=s1.toks) fun b o e=>Heap.get?_push_of_some _ e,turn_tuple a _,⟨_,Heap.get?_push_size _ rfl,rfl,rfl⟩,fun b hb=>?_,q⟩
  have e:b=s1.heap.objs.size:=by simpa using hb
  subst e
  exact I1.fpOk (Nat.le_refl _) (I1.hok.fresh (Nat.le_refl _))
end
theorem tFor_seq{K:PySem.W.Frag}{tl:TE}{g:TG}{tb:TS}{D:Ends}{σ:St}{H:Hp}:tFor (iSeq K tl) g tb D σ H=tl σ H fun x H1=>∃ a b,x=.ref a/\(∃ xs,SqE b K H1 a xs)/\FoR (ItE b K a) g tb D σ H1:=rfl
theorem foR_seq{b:Bool}{K:PySem.W.Frag}{a:Addr}(xs:List V){g:TG}{tb:TS}{D:Ends}{σ:St}{H:Hp}(Pv:Nat->St->Hp->Prop)(h0:Pv 0 σ H)(hl:∀ i σ H,i<=xs.length->Pv i σ H->SqE b K H a xs)
 (hs:∀ i x σ H,xs[i]?=some x->Pv i σ H->g x σ H fun σ2 H2=>tb { D with nx:=Pv (i+1),ct:=Pv (i+1),bk:=D.nx } σ2 H2) (hd:∀ σ H,Pv xs.length σ H->D.nx σ H):FoR (ItE b K a) g tb D σ H:=by
 cases b with
 | true=>exact foR_tup xs Pv h0 hl hs hd
 | false=>exact foR_list xs Pv h0 hl hs hd
end L2
end
section
namespace PySem.W
open PySem
def clsFacts(K:Frag)(C:Addr)(fl:List Str):Bool:=plainGet K C Str.empty && (hasDictIn K C && (plainOver K C && (findIn K (.ref C) "__setattr__" == some (some (.builtin "object.__setattr__")) && (findIn K (.ref C) "__class__" == some (some (.builtin "object.__class__")) && (mroIn K C (.type "object") == some true && fl.all fun f=>findIn K (.ref C) f == some none)))))
theorem clsFacts_of{K:Frag}{C:Addr}{fl:List Str}(h:clsFacts K C fl=true):L2.Cls K C/\findIn K (.ref C) "__class__"=some (some (.builtin "object.__class__"))/\mroIn K C (.type "object")=some true/\∀ f∈fl,L2.NoAttr K C f:=by
 unfold clsFacts at h
 simp only[Bool.and_eq_true,beq_iff_eq,List.all_eq_true]at h
 obtain⟨a,b,c,d,e,f,g⟩:=h
 exact⟨⟨a,b,c,d⟩,e,f,g⟩
def mtxOk(K:Frag)(l:List Addr)(m:Nat->Nat->Bool):Bool:=(List.range l.length).all fun i=>(List.range l.length).all fun j=>kitOne K (.ref (l.getD i 0)) (.ref (l.getD j 0)) == some (m i j)
theorem mtx_of{K:Frag}{l:List Addr}{m:Nat->Nat->Bool}(h:mtxOk K l m=true):∀ i j,i < l.length->j < l.length->kitOne K (.ref (l.getD i 0)) (.ref (l.getD j 0))=some (m i j):=by
 unfold mtxOk at h
 simp only[List.all_eq_true,List.mem_range,beq_iff_eq]at h
 exact fun i j hi hj=>h i hi j hj
end PySem.W
namespace L2
open PySem PySem.Spec PyProof.Rows
structure ObC(K:PySem.W.Frag)(C:Addr)(fl:List Str):Prop where
 cl:Cls K C
 cc:PySem.W.findIn K (.ref C) "__class__"=some (some (.builtin "object.__class__"))
 mo:PySem.W.mroIn K C (.type "object")=some true
 no:∀ f∈fl,NoAttr K C f
 cg:PySem.W.specialIn K (.builtin "object.__class__") "__get__"=some (some (.builtin "getset_descriptor.__get__"))
 ct:PySem.W.takesIn K (.builtin "object.__class__")=some true
theorem ObC.of{K:PySem.W.Frag}{C:Addr}{fl:List Str}(h:PySem.W.clsFacts K C fl=true)(cg:PySem.W.specialIn K (.builtin "object.__class__") "__get__"=some (some (.builtin "getset_descriptor.__get__")))(ct:PySem.W.takesIn K (.builtin "object.__class__")=some true):ObC K C fl :=
 let ⟨a,b,c,d⟩:=PySem.W.clsFacts_of h;⟨a,b,c,d,cg,ct⟩
def tMethV(P:Program)(w:World)(K:PySem.W.Frag)(mg:Str->Option Value)(base:Heap)(k:Nat)(m:Str)(ta:TE)(t:TA):TE1:=fun σ H Q E=>ta σ H fun x H1=>∃ a C dx fs sp,x=.ref a/\H1 a=some (.ins C dx fs)/\fs.lookup m=none/\Cls K C/\MeV P w K mg base k C m sp/\t σ H1 fun vs H2=>sp (x::vs) H2 Q E
section
variable{X:Cx}{m:Str}{k:Nat}{ta:TE}{t:TA}{e o:Expr}{es:List Expr}{pos apos:Pos}{pl:Sem Bool}
theorem pe1_methV(he:PE X.nox o ta)(hr:Room k X.A)(hex:X.ex=[])(ha:PA X.nox (e::es) t)
 (hst:starEach (e::es) X.env=(false,eval e X.env)::starEach es X.env:=by rfl) (hpl:(backTo pos (starEach es X.env)).any (·.1)=false:=by rfl)
 (ht:eval (.Call (.Attribute o m apos) (e::es) [] pos) X.env=(do
  let ov <- eval o X.env
  standAt apos.atName
  let (f,first) <- holding [ov] (getMethod ov m pl)
  callWith pos f first (backTo pos (starEach (e::es) X.env)) (backToKw pos (keywordEach [] X.env))):=by rfl) :
 PE1 X (.Call (.Attribute o m apos) (e::es) [] pos) (tMethV X.prog X.w X.K X.mg X.base k m ta t):=by
 intro pins s σ H Q E I h
 refine PySem.W.methodCall_KW (pl:=pl) (thn (pe_noxW he I h) fun u s1 ⟨y,H1,I1,rx,a,C,dx,fs,sp,ex,ea,l,c,G,q⟩=>?_) ht
 obtain⟨f,fd,ps,hm,F,hb⟩:=G
 subst ex
 obtain rfl:u=Value.ref a:=rx
 refine getmeth_ok I1 ea c hm l ?_
 refine PySem.W.callWith_K (first:=[.ref a]) (h₀:=X.base) I.ok.mod.kin hm.kp (thn (pa_nox ha I1 q) fun us s2 ⟨vs,H2,I2,r,q2⟩=>⟨I2.kIn,?_⟩) hst hpl
 exact run_fn1 (us:=.ref a::us) (vs:=.ref a::vs) F hr hb hex I2 (.cons rfl r) q2
theorem pe1_methV0(he:PE X.nox o ta)(hr:Room k X.A)(hex:X.ex=[])
 (ht:eval (.Call (.Attribute o m apos) [] [] pos) X.env=(do
  let ov <- eval o X.env
  standAt apos.atName
  let (f,first) <- holding [ov] (getMethod ov m pl)
  callWith pos f first (backTo pos (starEach [] X.env)) (backToKw pos (keywordEach [] X.env))):=by rfl) :
 PE1 X (.Call (.Attribute o m apos) [] [] pos) (tMethV X.prog X.w X.K X.mg X.base k m ta tNil):=by
 intro pins s σ H Q E I h
 refine PySem.W.methodCall_KW (pl:=pl) (thn (pe_noxW he I h) fun u s1 ⟨y,H1,I1,rx,a,C,dx,fs,sp,ex,ea,l,c,G,q⟩=>?_) ht
 obtain⟨f,fd,ps,hm,F,hb⟩:=G
 subst ex
 obtain rfl:u=Value.ref a:=rx
 refine getmeth_ok I1 ea c hm l ?_
 exact PySem.W.callWith_K0 (first:=[.ref a]) I1.kIn hm.kp (run_fn1 (us:=[.ref a]) (vs:=[.ref a]) F hr hb hex I1 (.cons rfl .nil) q)
theorem pe_mk0{j:Nat}{x:Str}{C:Addr}{sp:Sp}{p:Pos}(G:MkV X.prog X.w X.K X.mg X.base j x C sp)(hr:Room k X.A)(hj:j+1<=k)(hg:Gl X x)(hdb:(x == ("__debug__":Str))=false:=by decide):PE X (.Call (.Name x p) [] [] pos) (tMake C sp [] E0 tNil):=by
 obtain⟨f,fd,ps,M,F,b,hm⟩:=G
 exact pe_make0 M F (hr.mono hj) hg hm b .nil pass0 hdb
end
end L2
end
section
namespace L2
open PySem PySem.Spec PyProof.Rows
theorem two_ok{x y:V}:[x,y].length<=sizeLine:=show 2<=sizeLine by decide
theorem lcR_fm{J:It}{tt:TT}{te:TE}{σ:St}{H1:Hp}{Q:VK}(xs:List V)(p:V->Bool)(f:V->V)(hz:xs.length<=sizeLine)
 (hgo:∀ i H2,i < xs.length->Same H1 H2->J.go i H2/\∀ x H',J.yld i H2 x H'->H'=H2/\xs[i]?=some x) (hst:∀ H2,Same H1 H2->J.stop xs.length H2)
 (ht:∀ (i:Nat) x H2 (R:Bool->Hp->Prop),xs[i]?=some x->Same H1 H2->R (p x) H2->tt (some x::σ) H2 R)
 (he:∀ (i:Nat) x H2 (R:VK),xs[i]?=some x->p x=true->Same H1 H2->R (f x) H2->te (some x::σ) H2 R)
 (hq:∀ D H2,H1 D=none->Same H1 H2->H2 D=some (.lst ((xs.filter p).map f))->Q (.ref D) H2):LcR J tt te σ Q H1:=by
 intro D hD
 refine⟨fun i m ys H2=>m=xs.length - i/\i<=xs.length/\ys=((xs.take i).filter p).map f/\H2 D=some (.lst ys)/\Same H1 H2,⟨_,rfl,Nat.zero_le _,by simp,upd_same,same_upd hD _⟩,?_⟩
 rintro i m ys H2 ⟨rfl,hi,hy,hd,sm⟩
 refine⟨hd,?_⟩
 by_cases hlt:i < xs.length
 ·obtain⟨go,yl⟩:=hgo i H2 hlt sm
  have hl:ys.length<=i:=by
   rw[hy,List.length_map]
   exact Nat.le_trans (List.length_filter_le _ _) (by rw[List.length_take];omega)
  refine .inr ⟨go,by omega,fun x H' y=>?_⟩
  obtain⟨e,hx⟩:=yl x H' y
  subst e
  have hn:((xs.take (i+1)).filter p).map f=if p x=true then ys++[f x] else ys:=by
   rw[List.take_succ,hx,List.filter_append,List.map_append,<- hy]
   cases hp:p x <;> simp[hp]
  refine ht i x _ _ hx sm ?_
  cases hp:p x with
  | true =>
   rw[if_pos rfl]
   refine he i x _ _ hx hp sm ⟨hd,xs.length - (i+1),by omega,rfl,hlt,?_,upd_same,sm.updL hD _⟩
   rw[hn,hp,if_pos rfl]
  | false =>
   rw[if_neg Bool.false_ne_true]
   refine⟨xs.length - (i+1),by omega,rfl,hlt,?_,hd,sm⟩
   rw[hn,hp,if_neg Bool.false_ne_true]
 ·have e:i=xs.length:=by omega
  subst e
  rw[List.take_length]at hy
  exact .inl ⟨hst H2 sm,hq D H2 hD sm (by rw[hd,hy])⟩
theorem lcM_tup{K:PySem.W.Frag}{a:Addr}{tt:TT}{te:TE}{σ:St}{H1:Hp}{Q:VK}(xs:List V)(p:V->Bool)(f:V->V)(hx:SqT K H1 a xs)(hz:xs.length<=sizeLine)
 (ht:∀ (i:Nat) x H2 (R:Bool->Hp->Prop),xs[i]?=some x->Same H1 H2->R (p x) H2->tt (some x::σ) H2 R)
 (he:∀ (i:Nat) x H2 (R:VK),xs[i]?=some x->p x=true->Same H1 H2->R (f x) H2->te (some x::σ) H2 R)
 (hq:∀ D H2,H1 D=none->Same H1 H2->H2 D=some (.lst ((xs.filter p).map f))->Q (.ref D) H2):LcR (Itt K a) tt te σ Q H1 :=
 lcR_fm xs p f hz (fun i H2 hi s=>⟨⟨xs,xs[i],s.seqT hx,by simp[hi]⟩,fun x H' y=>⟨y.1,y.2 xs (s.seqT hx)⟩⟩) (fun H2 s=>⟨xs,s.seqT hx,Nat.le_refl _⟩) ht he hq
def sndOf(H:Hp):V->V
 | .ref a=>match H a with | some (.tup [_,w])=>w | _=>.non
 | _=>.non
theorem sndOf_at{H:Hp}{a:Addr}{k w:V}(h:H a=some (.tup [k,w])):sndOf H (.ref a)=w:=by
 show(match H a with | some (.tup [_,w])=>w | _=>.non)=w
 rw[h]
theorem rd_fld{K:PySem.W.Frag}{C a dx:Addr}{fl:List Str}{f:Str}{fs:List (Str×V)}{v:V}{i:Nat}{σ:St}{H:Hp}{Q:VK}(c:ObC K C fl)(hf:f∈fl)(hs:σ[i]?=some (some (.ref a)))(ha:H a=some (.ins C dx fs))(hv:fs.lookup f=some v)(q:Q v H):tFld K (tVar i) f σ H Q :=
 ⟨_,hs,a,C,dx,fs,v,rfl,ha,c.cl,c.no f hf,hv,q⟩
theorem rd_set{K:PySem.W.Frag}{C a dx:Addr}{fl:List Str}{f:Str}{fs:List (Str×V)}{i:Nat}{σ:St}{H H1:Hp}{tv:TE}{D:Ends}{y:V}(c:ObC K C fl)(hf:f∈fl)(hs:σ[i]?=some (some (.ref a)))(hv:∀ Q:VK,Q y H1->tv σ H Q)(ha:H1 a=some (.ins C dx fs))(l:fs.length < 1000)(q:D.nx σ (upd H1 a (.ins C dx (putF f y fs)))):sFld K (tVar i) tv f D σ H :=
 hv _ ⟨_,hs,a,C,dx,fs,rfl,ha,c.cl,c.no f hf,l,q⟩
theorem upd_swap{H:Hp}{a b:Addr}{x y:HO}(h:a≠b):upd (upd H a x) b y=upd (upd H b y) a x:=by
 funext c
 by_cases h1:c=b
 ·subst h1;rw[upd_same,upd_ne (Ne.symm h),upd_same]
 ·by_cases h2:c=a
  ·subst h2;rw[upd_same,upd_ne h1,upd_same]
  ·rw[upd_ne h1,upd_ne h2,upd_ne h2,upd_ne h1]
def HE(b:Bool)(H:Hp)(e:Addr)(xs:List V):Prop:=H e=some (if b=true then .tup xs else .lst xs)
theorem HE.upd_ins{b:Bool}{H:Hp}{a e C dx:Addr}{o:HO}{fs:List (Str×V)}{xs:List V}(h:HE b H e xs)(ha:H a=some (.ins C dx fs)):HE b (upd H a o) e xs:=by
 have ne:e≠a:=fun z=>by
  unfold HE at h
  rw[z,ha]at h
  cases b <;> cases h
 unfold HE
 rw[upd_ne ne]
 exact h
theorem HE.same{b:Bool}{H H':Hp}{e:Addr}{xs:List V}(h:HE b H e xs)(s:Same H H'):HE b H' e xs:=s _ _ h
section
variable{P:Program}{w:World}{K:PySem.W.Frag}{mg:Str->Option Value}{base:Heap}{k i:Nat}{C D a dx:Addr}{m:Str}{sp:Sp}{fs:List (Str×V)}{fl:List Str}{σ:St}{H:Hp}{Q:VK}{E:XK}{t:TA}{b:Bool}
theorem rd_methV0(hs:σ[i]?=some (some (.ref a)))(ha:H a=some (.ins C dx fs))(l:fs.lookup m=none)(c:Cls K C)(M:MeV P w K mg base k C m sp)(q:sp [.ref a] H Q E):tMethV P w K mg base k m (tVar i) tNil σ H Q E:=⟨_,hs,a,C,dx,fs,sp,rfl,ha,l,c,M,q⟩
theorem rd_methV(hs:σ[i]?=some (some (.ref a)))(ha:H a=some (.ins C dx fs))(l:fs.lookup m=none)(c:Cls K C)(M:MeV P w K mg base k C m sp)(q:t σ H fun vs H2=>sp (.ref a::vs) H2 Q E):tMethV P w K mg base k m (tVar i) t σ H Q E:=⟨_,hs,a,C,dx,fs,sp,rfl,ha,l,c,M,q⟩
theorem rD_same{n:Nat}{d:Dt}{x y:V}{neg:Bool}(hn:n<=60)(rx:Rep K H n d x)(ry:Rep K H n d y)(q:Q (.bl (!neg)) H):rD K neg x y H Q:=⟨n,d,d,hn,rx,ry,by
 rw[Rep.self rx]
 cases neg <;> exact q⟩
end
theorem same_mk{H H':Hp}{x dx:Addr}{o u:HO}(hx:H x=none)(hdx:H dx=none)(s:Same (upd (upd H dx u) x o) H'):Same H H':=fun b v hb=>s _ _ (by rw[upd_ne (ne_of_none hb hx),upd_ne (ne_of_none hb hdx)];exact hb)
theorem same_updN{H H':Hp}{d:Addr}{o:HO}(s:Same H H')(n:H d=none):Same H (upd H' d o):=fun b u hb=>by
 rw[upd_ne (ne_of_none hb n)];exact s b u hb
end L2
end
section
namespace L2
open PySem PySem.Spec PyProof.Rows
def Itd1(lo:Int)(n:Nat):It:=⟨fun i _=>i < n,fun i H x H'=>H'=H/\x=.int (lo - i),fun i _=>n<=i⟩
section
variable{X:Cx}{tg:Expr}
def iRngD(ta:TA):TI:=fun σ H R=>ta σ H fun vs H1=>∃ i j:Int,vs=[.int i,.int j,.int (-1)]/\(-(2 ^ 62)<=i/\i < 2 ^ 62 /\ -(2 ^ 62)<=j/\j < 2 ^ 62)/\R (Itd1 i (i - j).toNat) H1
end
theorem tFor_rngD{ta:TA}{g:TG}{tb:TS}{D:Ends}{σ:St}{H:Hp}:tFor (iRngD ta) g tb D σ H=ta σ H fun vs H1=>∃ i j:Int,vs=[.int i,.int j,.int (-1)]/\(-(2 ^ 62)<=i/\i < 2 ^ 62 /\ -(2 ^ 62)<=j/\j < 2 ^ 62)/\FoR (Itd1 i (i - j).toNat) g tb D σ H1:=rfl
end L2
end
section
namespace L2
open PySem PySem.Spec PyProof.Rows PySem.W
section
variable{X:Cx}{pins:List (Addr×Obj)}{σ:St}{H:Hp}{s:Shared}{A:Around}{E:Value->Shared->Prop}
end
section
variable{prog:Program}{w:World}{A:Around}{E:Value->Shared->Prop}{s:Shared}{T:String}{r d:Addr}{n:Nat}{P:Nat->Value->Prop}{OK:Heap->Prop}
end
end L2
end
section
namespace L2
open PySem PySem.Spec PyProof.Rows PySem.W
section
variable{prog:Program}{w:World}{A:Around}{E:Value->Shared->Prop}{s:Shared}
end
def onceK{K:Type}[DecidableEq K](ks:List K):List K:=ks.foldl (fun acc k=>if k∈acc then acc else acc++[k]) []
section
variable{prog:Program}{w:World}{K:Type}[DecidableEq K]{knd:KeyKind prog w K}{A:Around}{E:Value->Shared->Prop}{s:Shared}
end
end L2
end
section
namespace L2
open PySem PySem.Spec PyProof.Rows PySem.W
def tSetK(K:PySem.W.Frag)(te:TE)(Q:List Key->Hp->Prop):St->Hp->Prop:=fun σ H=>te σ H fun x H1=>∃ l ks,x=.ref l/\SqL K H1 l (ks.map kV)/\ks.length < 4000/\Q ks H1
section
variable{X:Cx}{e:Expr}{te:TE}{p pos p2 pos2:Pos}{pins:List (Addr×Obj)}{σ:St}{H:Hp}{s:Shared}
def tLenSet(K:PySem.W.Frag)(te:TE):TE:=fun σ H Q=>tSetK K te (fun ks H1=>Q (.int (onceK ks).length) H1) σ H
end
end L2
end
section
namespace L2
open PySem PySem.Spec PyProof.Rows PySem.W
section
variable{X:Cx}
theorem ext_body{A:Around}{prog:Program}{w:World}{s:Shared}{E:Value->Shared->Prop}{l b:Addr}{items items2:Array Value}{n n2:Nat}{o2:Obj}{Q:Fin->Shared->Prop}(e:s.heap.get? l=some { cls:=.type "list",data:=.seq items n })(e2:s.heap.get? b=some o2)
 (hc:o2.cls=.type "list"\/o2.cls=.type "tuple") (hd:o2.data=.seq items2 n2) (hsz:items.size+items2.size<=sizeLine) (h:Q (.done (.ret .none)) { s with heap:=s.heap.update l (Obj.mapSeq fun x=>x++items2) }) :
 wpAny (model prog w) A (Builtin.«list.extend» ⟨[.ref l,.ref b],[]⟩) Q E s:=by
 have hlong:¬ (!items.isEmpty && Builtin.List.listTooLong (items.size+items2.size))=true:=by
  rw[notLongL hsz,Bool.and_false]
  exact Bool.false_ne_true
 show wpAny _ _ (Builtin.List.listExtendWith (.ref l) (.ref b) .none) _ _ s
 unfold Builtin.List.listExtendWith
 rcases hc with hc | hc
 all_goals
  refine wpAny_bind (wpAny_typeOf ⟨o2,e2,hc⟩ ?_)
  rw[if_pos (by simp)]
  refine wpAny_bind (listItems_at e2 hd ?_)
  refine wpAny_bind (listItems_at e rfl ?_)
  rw[if_neg hlong]
  refine wpAny_bind (listUpdate_at e rfl ?_ (by omega) (by rw[Array.size_append];omega))
  exact wpAny_pure h
def rExtendE(K:PySem.W.Frag):V->List V->Hp->VK->Prop:=fun x vs H Q=>∃ l b xs zs,x=.ref l/\vs=[.ref b]/\H l=some (.lst xs)/\(SqL K H b zs\/SqT K H b zs)/\xs.length+zs.length<=sizeLine/\Q .non (upd H l (.lst (xs++zs)))
theorem mt_extendE:MtM X "list.extend" (rExtendE X.K):=by
 intro pins s σ H x vs v us Q I rx rv h
 obtain⟨l,b,xs,zs,rfl,rfl,hH,hB,hz,q⟩:=h
 cases rx
 obtain⟨u,rfl,ru⟩:=rv.one
 cases ru
 obtain⟨z,its,n,r,hl,e⟩:=I.lstM hH
 obtain⟨its2,r2,o2,n2,e2,c2,d2⟩:∃ its2,Vals zs its2/\∃ o2 n2,s.heap.get? b=some o2/\(o2.cls=.type "list"\/o2.cls=.type "tuple")/\o2.data=.seq its2.toArray n2:=by
  rcases hB with hB | hB
  ·obtain⟨its2,r2,p,_⟩:=I.list hB
   obtain⟨o,n2,eo,c,d,_⟩:=p
   exact⟨its2,r2,o,n2,eo,.inl c,by first | exact d | assumption⟩
  ·obtain⟨its2,r2,⟨o,eo,c,n2,d⟩,_⟩:=I.tuple hB
   exact⟨its2,r2,o,n2,eo,.inr c,d⟩
 have hl2:=r2.length
 refine wpAny_call (codeAny_call_builtin PySem.F.slot_list_extend.plain PySem.F.entry_list_extend (PySem.F.slot_list_extend.check _ _ _ _ _ _ _ _ ⟨_,e,rfl⟩ (PySem.F.args_list_extend_2 _ _) ?_))
 refine ext_body e e2 c2 d2 (by rw[List.size_toArray,List.size_toArray];omega) ?_
 refine⟨.non,_,I.lset (its':=its++its2) hH e (by simp) (r.append r2) ?_,rfl,q⟩
 rw[List.length_append]
 omega
end
end L2
end
section
namespace L2
open PySem PySem.Spec PyProof.Rows PySem.W
section
variable{X:Cx}{c:Expr}{a b:Stmt}{tc:TT}{ta tb:TS1}{pos:Pos}
end
end L2
end
section
namespace L2
open PySem PySem.Spec PyProof.Rows
section
variable{X:Cx}{st b₀:Stmt}{suite:List Stmt}{t1:TS1}{ts:TS}{x n:Str}{D₀ CT:Addr}{np hpos pos:Pos}{i:Nat}
theorem ps_tryX(h1:PS1 X st t1)(hex:X.ex=[])(hst:X.stack=X.env::X.outer)(hfr:X.env.frame=some X.env.locals)(hg:Gl X x)(hm:X.mg x=some (.ref D₀))(xc:PySem.W.XCl X.K D₀ CT)
 (hN:X.N.Nodup) (hi:X.N[i]?=some n) (hk:X.env.scope.names.lookup n=some .local) (hs:∀ ea,X.Ok->PSs (X.held ea []).nox (b₀::suite) ts) (hdb:(x == ("__debug__":Str))=false:=by decide) :
 PS X (.Try [st] [.ExceptHandler (some (.Name x np)) (some n) (b₀::suite) hpos] [] [] pos)
  (fun D σ H=>t1 D σ H fun cls dx H'=>cls=.ref D₀/\∀ ea,H' ea=none->ts (D.gone i) (σ.set i (some (.ref ea))) (upd H' ea (xC ea D₀ dx))):=by
 intro pins s σ H D I h
 refine wpAny_Try_except (wpAny_execs_cons (wpAny_mono (h1 pins s σ H D _ I h) (fun f s1 q=>?_) fun ev s1 q=>?_))
 ·cases f with
  | next=>exact wpAny_execs_nil (wpAny_execs_nil q)
  | ret v=>exact q
  | brk=>exact q
  | cont=>exact q
 obtain⟨ea,cls,dx,ch,H',old,rfl,I1,y,o,hsz,n1,n2,rfl,hts⟩:=q
 have frm:X.A.frames=some (X.env::X.outer):=by rw[<- hst];exact I1.ok.frames
 have stk:s1.heap.FunFrames X.base (X.env::X.outer):=by rw[<- hst];exact I1.stack
 obtain⟨nm',q',N',bs',sn',sub',ab',col',dd',j0,j1,j2,j3,j5,lk',ok'⟩:=xc.cl
 refine note_ok (base:=X.base) frm stk hfr (fun b hb=>⟨hsz b hb,I1.hok.fresh hb⟩) y (.inr rfl) fun h2 st2 y2=>?_
 refine land_ok (s:={ s1 with heap:=h2 }) (fs:=frs (X.env::X.outer)) (fun b hb=>((st2.funs stk).mem hb).2) y2 fun h3 st3 y3=>?_
 have st:=st2.trans st3
 rw[<- hst]at st
 have I3:Inv X pins σ H' { s1 with heap:=h3 }:=I1.stayed hex o n1 n2 st
 refine wpAny_handleBy_cons (codeAny_handlers_test (ld_glob (X:=X.held ea []) (I3.held (ea:=ea) (ps:=[]) fun p hp=>by cases hp) hg hm ?_ hdb)) (by intro z;cases z)
 obtain⟨oe,vs,he,hc,hdx,hd,_,hh⟩:=id y3
 refine excMatches_up (I3.kIn _ _ lk') (I3.kIn _ _ lk') he hc (by rw[List.contains_cons];exact Bool.or_eq_true _ _ |>.mpr (.inr (by decide))) (by simp) (codeAny_handlers_suite_as ?_)
 refine land_ok (s:={ s1 with heap:=h3 }) (fs:=frs X.stack) (fun b hb=>(I3.stack.mem hb).2) y3 fun h4 st4 y4=>?_
 have I4:Inv X pins σ H' { s1 with heap:=h4 }:=I3.stayed hex o n1 n2 st4
 obtain⟨oe4,vs4,he4,hc4,hdx4,hd4,_,_⟩:=y4
 have nfr:∀ b u va,h4.get? b=some u->u.data=.fields va->b≠X.env.locals:=fun b u va q d=>by
  have st4:h4.FunFrames X.base (X.env::X.outer):=by rw[<- hst];exact I4.stack
  have hno:b∉frs (X.env::X.outer):=fun hm=>by
   obtain⟨_,o2,q2,hn2⟩:=st4.mem hm
   rw[q]at q2;cases q2
   exact hn2 va d
  rw[frs_cons hfr]at hno
  exact fun z=>hno (by rw[z];exact List.mem_cons_self)
 have hok4:=I4.hok
 have I5:Inv X pins σ (upd H' ea (xC ea D₀ dx)) { s1 with heap:=h4 }:=I4.track n2 (o.ent _ n1) (nfr _ _ _ he4 hd4) (fun x c q z=>by
  obtain⟨v,oc,ho,hcd⟩:=I4.cell x c q
  rw[z]at ho
  have ho:h4.get? ea=some oc:=ho
  rw[he4]at ho;cases ho
  rw[hd4]at hcd;cases hcd) (fun p hp z=>o.pin p hp (by rw[z];exact n1)) (ok_xC he4 hc4 hdx4 hd4)
 have J5:Inv (X.held ea []).nox pins σ (upd H' ea (xC ea D₀ dx)) { s1 with heap:=h4 }:=(I5.held (ea:=ea) (ps:=[]) fun p hp=>by cases hp).wish _
 refine store_ok (X:=(X.held ea []).nox) J5 hN hi (.inl hk) (v:=.ref ea) rfl (fun s6 J6=>?_) (.inr hk)
 refine wpAny_mono (hs ea I.ok pins s6 _ _ (D.gone i) J6 (hts ea n2)) (fun f s7 z=>?_) fun _ _ z=>False.elim z
 show wpAny _ _ (do bindName X.env n .none;unbindBehindTheSuite X.env n hpos) _ _ _
 have back:∀ {σ':St} {H'':Hp},Inv (X.held ea []).nox pins σ' H'' s7->Inv X pins σ' H'' s7:=fun J=>(Inv.unwish J).unheld I.ok
 cases f with
 | next=>obtain⟨σ',H5,J,q⟩:=z;exact name_gone (back J) hN hi hk fun s8 J8=>⟨_,H5,J8,q⟩
 | brk=>obtain⟨σ',H5,J,q⟩:=z;exact name_gone (back J) hN hi hk fun s8 J8=>⟨_,H5,J8,q⟩
 | cont=>obtain⟨σ',H5,J,q⟩:=z;exact name_gone (back J) hN hi hk fun s8 J8=>⟨_,H5,J8,q⟩
 | ret u=>obtain⟨v,σ',H5,J,r,q⟩:=z;exact name_gone (back J) hN hi hk fun s8 J8=>⟨v,_,H5,J8,r,q⟩
end
section
variable{X:Cx}{ea:Addr}{qs:List (Addr×Obj)}
theorem pe_xfldH{e:Expr}{f:Str}{pos:Pos}{ta:TE}(CT:Addr)(he:PE (X.held ea qs).nox e ta)(hb:attributeBase e f X.env (eval e X.env)=eval e X.env):PE (X.held ea qs).nox (.Attribute e f pos) (tXF X.K CT ta f):=pe_xfld CT he hb
theorem call_isXH(CT:Addr):CallR (X.held ea qs).nox (.builtin "isinstance") (rIsX X.K CT):=call_isX CT
end
theorem kit_up{K:PySem.W.Frag}{C CT:Addr}(c:PySem.W.XCl K C CT)(hT:ExcC K CT PySem.W.bmV PySem.W.bmV "ValueError.__new__"):PySem.W.kitOne K (.ref C) (.ref CT)=some true:=by
 obtain⟨cd,e,m,_⟩:=c.cd
 unfold PySem.W.kitOne
 split
 ·rfl
 ·have hm:PySem.W.mroIn K C (.ref CT)=some true:=by
   unfold PySem.W.mroIn
   rw[e]
   show(if cd.mro.isEmpty=true then none else some (cd.mro.contains (.ref CT)))=some true
   rw[m]
   rw[if_neg (by simp)]
   simp
  obtain⟨nm,q,N,bs,hdct,sn,sub,ab,col,dd,k0,k1,k2,k3,k5,lk,ok,_⟩:=hT.ex
  have h1:(PySem.W.clsIn K CT).isSome=true:=by unfold PySem.W.clsIn;rw[lk];rfl
  have h2:PySem.W.typeIn K (.ref CT)=some (.type "type"):=by show(K.lookup CT).map (·.cls)=_;rw[lk];rfl
  unfold PySem.W.kitCls
  show(if ((PySem.W.clsIn K CT).isSome && PySem.W.typeIn K (Value.ref CT) == some (Value.type "type"))=true then PySem.W.subIn K (Value.ref C) (Value.ref CT) else none)=some true
  rw[h1,h2,if_pos (by rfl)]
  unfold PySem.W.subIn
  exact hm
end L2
end
section
namespace PySem.W
open PySem
def clI(K:Frag)(C f:Addr):Bool:=(match findCls K (.ref C) (.type "type") "__init__" with | some (.val v)=>v == .ref f | _=>false) && (specialIn K (.ref C) "__getattribute__" == some (some (.builtin "type.__getattribute__")) && readsIn K C (.type "type"))
end PySem.W
namespace L2
open PySem PySem.Spec PyProof.Rows
structure ClI(K:PySem.W.Frag)(C f:Addr):Prop where
 sp:PySem.W.specialIn K (.ref C) "__getattribute__"=some (some (.builtin "type.__getattribute__"))
 rd:PySem.W.readsIn K C (.type "type")=true
 ini:PySem.W.findCls K (.ref C) (.type "type") "__init__"=some (.val (.ref f))
theorem ClI.of{K:PySem.W.Frag}{C f:Addr}(h:PySem.W.clI K C f=true):ClI K C f:=by
 unfold PySem.W.clI at h
 rw[Bool.and_eq_true,Bool.and_eq_true]at h
 obtain⟨a,b,c⟩:=h
 refine⟨beq_iff_eq.mp b,c,?_⟩
 split at a
 ·rename_i v e
  rw[e,beq_iff_eq.mp a]
 ·exact(Bool.false_ne_true a).elim
def BaI(P:Program)(w:World)(K:PySem.W.Frag)(mg:Str->Option Value)(base:Heap)(k:Nat)(x:Str)(sp:Sp):Prop :=
 ∃ C f fd ps,mg x=some (.ref C)/\ClI K C f/\PySem.W.keepIn K (.ref f)=true/\FnOk P w K mg base CX0 k f fd ps sp/\Binds K fd ps []
section
variable{X:Cx}{x:Str}{sp:Sp}{e:Expr}{es:List Expr}{t:TA}{p pos apos:Pos}{pl:Sem Bool}{j k:Nat}
theorem pe_bainit(G:BaI X.prog X.w X.K X.mg X.base j x sp)(hr:Room k X.A)(hj:j<=k)(hg:Gl X x)(ha:PA X (e::es) t)(hdb:(x == ("__debug__":Str))=false:=by decide)
 (he:starEach (e::es) X.env=(false,eval e X.env)::starEach es X.env:=by rfl) (hpl:(backTo pos (starEach es X.env)).any (·.1)=false:=by rfl)
 (ht:eval (.Call (.Attribute (.Name x p) "__init__" apos) (e::es) [] pos) X.env=(do
  let ov <- eval (.Name x p) X.env
  standAt apos.atName
  let (f,first) <- holding [ov] (getMethod ov "__init__" pl)
  callWith pos f first (backTo pos (starEach (e::es) X.env)) (backToKw pos (keywordEach [] X.env))):=by rfl) :
 PE X (.Call (.Attribute (.Name x p) "__init__" apos) (e::es) [] pos) (tCall sp [] E0 t):=by
 obtain⟨C,f,fd,ps,hm,T,kp,F,b⟩:=G
 intro pins s σ H Q I h
 refine PySem.W.methodCall_KW (pl:=pl) (ld_glob I hg hm ?_ hdb) ht
 refine PySem.W.method_cls I.kIn T.sp (PySem.W.cls_value I.kIn T.rd T.ini rfl ?_)
 refine PySem.W.callWith_K (first:=[]) (h₀:=X.base) I.ok.mod.kin kp (thn (ha pos pins _ σ H _ (I.tok _) h) fun us s1 ⟨vs,H1,I1,r,q⟩=>⟨I1.kIn,?_⟩) he hpl
 rw[List.nil_append]
 exact run_fn F (hr.mono hj) b .nil pass0 I1 r q
end
end L2
end
section
namespace L2
open PySem PySem.Spec PyProof.Rows
noncomputable instance:DecidableEq Dt:=fun a b=>Classical.propDecidable (a=b)
def hV:V->Bool
 | .int _=>true
 | .str _=>true
 | .non=>true
 | _=>false
mutual
def hD:Dt->Bool
 | .v x=>hV x
 | .t xs=>hDs xs
 | .l _=>false
def hDs:List Dt->Bool
 | []=>true
 | x::xs=>hD x && hDs xs
end
theorem hDs_mem:∀ {xs:List Dt},hDs xs=true->∀ x∈xs,hD x=true
 | [],_,x,h=>nomatch h
 | y::ys,h,x,hx=>by
  unfold hDs at h
  rw[Bool.and_eq_true]at h
  rcases List.mem_cons.mp hx with e | hx
  ·rw[e];exact h.1
  ·exact hDs_mem h.2 x hx
theorem hDs_of:∀ {xs:List Dt},(∀ x∈xs,hD x=true)->hDs xs=true
 | [],_=>by unfold hDs;rfl
 | y::ys,h=>by
  unfold hDs
  rw[h y List.mem_cons_self,hDs_of fun x hx=>h x (List.mem_cons_of_mem _ hx)];rfl
mutual
def haD(w:World):Dt->Int
 | .v (.int i)=>hashInt i
 | .v (.str x)=>hashStr w x
 | .v _=>reduceHash 0xFCA86420
 | .t xs=>reduceHash (Builtin.Tuple.tupleHashOf (haDs w xs))
 | .l _=>0
def haDs(w:World):List Dt->List Int
 | []=>[]
 | x::xs=>haD w x::haDs w xs
end
mutual
def drD:Dt->Nat
 | .v _=>1
 | .t xs=>drDs xs+1
 | .l _=>0
def drDs:List Dt->Nat
 | []=>0
 | x::xs=>drD x+drDs xs
end
theorem haDs_snoc(w:World)(y:Dt):∀ xs,haDs w (xs++[y])=haDs w xs++[haD w y]
 | []=>by simp[haDs]
 | x::xs=>by rw[List.cons_append];unfold haDs;rw[haDs_snoc w y xs];rfl
theorem drDs_snoc(y:Dt):∀ xs,drDs (xs++[y])=drDs xs+drD y
 | []=>by simp[drDs]
 | x::xs=>by
  rw[List.cons_append]
  have h1:drDs (x::(xs++[y]))=drD x+drDs (xs++[y]):=by rw[drDs]
  have h2:drDs (x::xs)=drD x+drDs xs:=by rw[drDs]
  rw[h1,h2,drDs_snoc y xs];omega
def HasD(h:Heap):Nat->Dt->Value->Prop
 | 0,.v x,u=>hV x=true/\RelV x u
 | 0,.t _,_=>False
 | 0,.l _,_=>False
 | _+1,.v x,u=>hV x=true/\RelV x u
 | n+1,.t ds,u=>∃ (a:Addr) (its:List Value),u=.ref a/\IsTup h a its.toArray/\Paired (fun d v=>HasD h n d v) ds its
 | _+1,.l _,_=>False
theorem HasD.flat{h:Heap}{n:Nat}{x:V}{u:Value}:HasD h n (.v x) u->hV x=true/\RelV x u:=by
 cases n <;> exact id
theorem HasD.tup{h:Heap}{n:Nat}{ds:List Dt}{u:Value}(q:HasD h n (.t ds) u):∃ m a its,n=m+1/\u=.ref a/\IsTup h a (List.toArray its)/\Paired (fun d v=>HasD h m d v) ds its:=by
 cases n with
 | zero=>exact q.elim
 | succ m=>obtain⟨a,its,e,p,r⟩:=q;exact⟨m,a,its,rfl,e,p,r⟩
theorem relV_inj{x y:V}{u:Value}(hx:hV x=true)(hy:hV y=true)(r:RelV x u)(q:RelV y u):x=y:=by
 cases x <;> first | exact(Bool.false_ne_true hx).elim | skip
 all_goals (cases y <;> first | exact(Bool.false_ne_true hy).elim | skip)
 all_goals simp only[RelV]at r q
 all_goals first
  | rfl
  | (obtain⟨t,rfl⟩:=r;obtain⟨t',e⟩:=q;cases e;rfl)
  | (obtain⟨t,rfl⟩:=r;obtain⟨t',e⟩:=q;cases e)
  | (obtain⟨t,rfl⟩:=r;cases q)
  | (subst r;obtain⟨t',e⟩:=q;cases e)
theorem relV_ref{x:V}{a:Addr}(hx:hV x=true)(r:RelV x (.ref a)):False:=by
 cases x <;> first | exact(Bool.false_ne_true hx).elim | skip
 ·cases (show Value.ref a=Value.none from r)
 ·obtain⟨t,e⟩:=r;cases e
 ·obtain⟨t,e⟩:=r;cases e
theorem isTup_inj{h:Heap}{a:Addr}{xs ys:List Value}(p:IsTup h a xs.toArray)(q:IsTup h a ys.toArray):xs=ys:=by
 obtain⟨o,ho,_,n,hd⟩:=p
 obtain⟨o',ho',_,n',hd'⟩:=q
 rw[ho]at ho';cases ho'
 rw[hd]at hd'
 injection hd' with e _
 injection e
theorem paired_det{α β:Type}{F G:α->β->Prop}(det:∀ a b u,F a u->G b u->a=b):∀ {xs ys:List α} {us:List β},Paired F xs us->Paired G ys us->xs=ys
 | _,_,_,.nil,.nil=>rfl
 | _,_,_,.cons r t,.cons r' t'=>by rw[det _ _ _ r r',paired_det det t t']
theorem HasD.inj{h:Heap}:∀ (n m:Nat) (x y:Dt) (u:Value),HasD h n x u->HasD h m y u->x=y:=by
 intro n
 induction n with
 | zero =>
  intro m x y u p q
  cases x with
  | v x =>
   cases y with
   | v y=>obtain⟨a,b⟩:=p;obtain⟨c,d⟩:=q.flat;rw[relV_inj a c b d]
   | t ds=>obtain⟨m,a,its,_,rfl,_⟩:=q.tup;exact(relV_ref p.1 p.2).elim
   | l _=>cases m <;> exact q.elim
  | t _=>exact p.elim
  | l _=>exact p.elim
 | succ n ih =>
  intro m x y u p q
  cases x with
  | v x =>
   cases y with
   | v y=>obtain⟨a,b⟩:=p;obtain⟨c,d⟩:=q.flat;rw[relV_inj a c b d]
   | t ds=>obtain⟨m,a,its,_,rfl,_⟩:=q.tup;exact(relV_ref p.1 p.2).elim
   | l _=>cases m <;> exact q.elim
  | t ds =>
   obtain⟨a,its,rfl,p1,r⟩:=p
   cases y with
   | v y=>obtain⟨c,d⟩:=q.flat;exact(relV_ref c d).elim
   | t es =>
    obtain⟨m',a',its',_,e,p2,r2⟩:=q.tup
    cases e
    have:=isTup_inj p1 p2
    subst this
    rw[paired_det (fun a b u h1 h2=>ih m' a b u h1 h2) r r2]
   | l _=>cases m <;> exact q.elim
  | l _=>exact p.elim
theorem HasD.keeps{h h':Heap}{e:Addr}{o:Obj}{es ep}(ho:h.get? e=some o)(hd:o.data=.dict es ep)(hs:Heap.SameBut e h h'):∀ (n:Nat) (d:Dt) (u:Value),HasD h n d u->HasD h' n d u:=by
 intro n
 induction n with
 | zero=>intro d u q;cases d <;> exact q
 | succ n ih =>
  intro d u q
  cases d with
  | v x=>exact q
  | l x=>exact q
  | t ds =>
   obtain⟨a,its,rfl,⟨o',ho',hc,m,hd'⟩,r⟩:=q
   have hne:a≠e:=by
    intro z;subst z
    rw[ho]at ho';cases ho'
    rw[hd]at hd';exact nomatch hd'
   exact⟨a,its,rfl,⟨o',(hs.2 a hne).trans ho',hc,m,hd'⟩,Paired.mapP r fun d v z=>ih d v z⟩
section
variable{prog:Program}{w:World}{E:Value->Shared->Prop}
theorem hash_V{A:Around}{s:Shared}{x:V}{u:Value}{Q:Int->Shared->Prop}(f:hV x=true)(r:RelV x u)(h:Q (haD w (.v x)) { s with toks:=s.toks+drD (.v x) }):wpAny (model prog w) A (pyHash u) Q E s:=by
 have e1:drD (.v x)=1:=by rw[drD]
 rw[e1]at h
 cases x <;> first | exact(Bool.false_ne_true f).elim | skip
 ·cases (show u=Value.none from r)
  rw[haD]at h
  exact PySem.W.pyHash_slot (T:="NoneType") rfl F.slot_NoneType_hash F.entry_NoneType_hash (F.args_NoneType_hash_1 _) (beq_builtin_none _) (.inl rfl) (wpAny_bind (wpAny_pure (wpAny_bind (wpAny_mkInt (wpAny_pure ⟨_,_,rfl,h⟩)))))
  all_goals (intros;rename_i z;cases z)
 ·obtain⟨t,rfl⟩:=r
  rw[haD]at h
  exact wpAny_pyHash_int h
 ·obtain⟨t,rfl⟩:=r
  rw[haD]at h
  exact wpAny_pyHash_str h
theorem hash_D:∀ (n:Nat) {A:Around} {s:Shared} {d:Dt} {u:Value} {Q:Int->Shared->Prop},A.units+n < cLine->HasD s.heap n d u->Q (haD w d) { s with toks:=s.toks+drD d }->wpAny (model prog w) A (pyHash u) Q E s:=by
 intro n
 induction n with
 | zero =>
  intro A s d u Q hu x h
  cases d with
  | v x'=>exact hash_V x.1 x.2 h
  | t _=>exact x.elim
  | l _=>exact x.elim
 | succ n ih =>
  intro A s d u Q hu x h
  cases d with
  | v x'=>exact hash_V x.1 x.2 h
  | l _=>exact x.elim
  | t ds =>
   obtain⟨a,its,rfl,⟨o,ho,hc,m,hd⟩,r⟩:=x
   refine PySem.W.pyHash_slot (T:="tuple") ⟨o,ho,hc⟩ F.slot_tuple_hash F.entry_tuple_hash (F.args_tuple_hash_1 _) (beq_builtin_none _) (.inr (by omega)) ?_
   show wpAny _ _ (Builtin.Tuple.tupleItemsOf (.ref a) >>= _) _ _ s
   refine wpAny_bind (wpAny_tupleItemsOf ho hd ?_)
   refine wpAny_bind ?_
   rw[<- Array.forIn_toList]
   refine wpAny_forIn_list _
    (fun rest (b:Array Int) s'=>∃ done left,ds=done++left/\Paired (fun d v=>HasD s.heap n d v) left rest/\b.toList=haDs w done/\s'={ s with toks:=s.toks+drDs done })
    _ ?_ ?_ _ _ ⟨[],ds,rfl,by simpa using r,by simp[haDs],by simp[drDs]⟩
   ·rintro x rest b s' ⟨done,left,rfl,hl,hb,rfl⟩
    cases hl with
    | @cons k _ ks' _ h1 hl' =>
     refine wpAny_bind (ih (s:={ s with toks:=s.toks+drDs done }) (by show A.units+1+n < _;omega) h1 ?_)
     first
      | exact wpAny_pure ⟨done++[k],ks',by simp,hl',by simp[hb,haDs_snoc],by simp[drDs_snoc,Nat.add_assoc]⟩
      | exact wpAny_bind (wpAny_pure (wpAny_pure ⟨done++[k],ks',by simp,hl',by simp[hb,haDs_snoc],by simp[drDs_snoc,Nat.add_assoc]⟩))
   ·rintro b s' ⟨done,left,rfl,hl,hb,rfl⟩
    cases hl
    rw[List.append_nil]at h
    show wpAny _ _ (retInt (Builtin.Tuple.tupleHashOf b.toList)) _ _ _
    rw[hb]
    refine wpAny_bind (wpAny_mkInt (wpAny_pure ⟨_,_,rfl,?_⟩))
    have e1:haD w (.t done)=reduceHash (Builtin.Tuple.tupleHashOf (haDs w done)):=by rw[haD]
    have e2:drD (.t done)=drDs done+1:=by rw[drD]
    rw[e1,e2]at h
    exact h
end
theorem eqV_hV{x y:V}(hx:hV x=true)(hy:hV y=true):eqV x y=decide (Dt.v x=Dt.v y):=by
 have:eqV x y=decide (x=y):=by
  cases x <;> first | exact(Bool.false_ne_true hx).elim | skip
  all_goals (cases y <;> first | exact(Bool.false_ne_true hy).elim | skip)
  all_goals first | (simp[eqV];done) | (rw[eqV,Bool.eq_iff_iff,beq_iff_eq,decide_eq_true_iff];exact⟨fun e=>by rw[e],fun e=>by injection e⟩)
 rw[this,Bool.eq_iff_iff,decide_eq_true_iff,decide_eq_true_iff]
 exact⟨fun e=>by rw[e],fun e=>by injection e⟩
theorem flat_hV{x:V}(h:hV x=true):flatV x=true:=by
 cases x <;> first | rfl | exact(Bool.false_ne_true h).elim
theorem lists_eq{ds es:List Dt}{e:Nat->Bool}(he:∀ i,i < ds.length->i < es.length->e i=decide (ds.getD i default=es.getD i default)):((List.range (min ds.length es.length)).all e && (ds.length == es.length))=decide (Dt.t ds=Dt.t es):=by
 rw[Bool.eq_iff_iff,decide_eq_true_iff,Bool.and_eq_true,beq_iff_eq,List.all_eq_true]
 constructor
 ·rintro⟨h1,h2⟩
  congr 1
  refine List.ext_getElem h2 fun i a b=>?_
  have:=h1 i (List.mem_range.mpr (by omega))
  rw[he i a b,decide_eq_true_iff]at this
  rw[getD_of (List.getElem?_eq_getElem a),getD_of (List.getElem?_eq_getElem b)]at this
  exact this
 ·intro h
  injection h with h
  subst h
  refine⟨fun i hi=>?_,rfl⟩
  have:=List.mem_range.mp hi
  rw[he i (by omega) (by omega),decide_eq_true_iff]
theorem paired_get{α β:Type}{F:α->β->Prop}:∀ {xs:List α} {us:List β} {i:Nat} {x:α} {u:β},Paired F xs us->xs[i]?=some x->us[i]?=some u->F x u
 | _,_,_,_,_,.nil,h,_=>by simp at h
 | _,_,0,_,_,.cons r _,h,h'=>by simp at h h';rw[<- h,<- h'];exact r
 | _,_,i+1,_,_,.cons _ t,h,h'=>paired_get (i:=i) t (by simpa using h) (by simpa using h')
theorem eq_D:∀ (n:Nat) {A:Around} {s:Shared} {d d':Dt} {u v:Value},A.units+n < cLine->HasD s.heap n d u->HasD s.heap n d' v->SeqAt.EqAt A s u v (decide (d=d')):=by
 intro n
 have flat:∀ {A:Around} {s:Shared} {x y:V} {u v:Value},hV x=true->RelV x u->hV y=true->RelV y v->SeqAt.EqAt A s u v (decide (Dt.v x=Dt.v y)):=fun f r f' r'=>by
  rw[<- eqV_hV f f'];exact eqAt_V r r' (flat_hV f) (flat_hV f')
 induction n with
 | zero =>
  intro A s d d' u v hu p q
  cases d with
  | v x =>
   cases d' with
   | v y=>exact flat p.1 p.2 q.1 q.2
   | t _=>exact q.elim
   | l _=>exact q.elim
  | t _=>exact p.elim
  | l _=>exact p.elim
 | succ n ih =>
  intro A s d d' u v hu p q
  have hu0:A.units < cLine:=by omega
  cases d with
  | l _=>exact p.elim
  | v x =>
   cases d' with
   | l _=>exact q.elim
   | v y=>exact flat p.1 p.2 q.1 q.2
   | t es =>
    obtain⟨b,its',rfl,p2,r2⟩:=q
    obtain⟨f,r⟩:=p
    rw[show decide (Dt.v x=Dt.t es)=false from decide_eq_false (fun z=>nomatch z)]
    cases x <;> first | exact(Bool.false_ne_true f).elim | skip
    ·cases (show u=Value.none from r);exact .none_tuple p2 hu0
    ·obtain⟨t,rfl⟩:=r;exact .int_tuple _ _ p2 hu0
    ·obtain⟨t,rfl⟩:=r;exact .str_tuple _ _ p2 hu0
  | t ds =>
   obtain⟨a,its,rfl,p1,r1⟩:=id p
   cases d' with
   | l _=>exact q.elim
   | v y =>
    obtain⟨f,r⟩:=q
    rw[show decide (Dt.t ds=Dt.v y)=false from decide_eq_false (fun z=>nomatch z)]
    cases y <;> first | exact(Bool.false_ne_true f).elim | skip
    ·cases (show v=Value.none from r);exact .tuple_none p1 hu0
    ·obtain⟨t,rfl⟩:=r;exact .tuple_int _ _ p1 hu0
    ·obtain⟨t,rfl⟩:=r;exact .tuple_str _ _ p1 hu0
   | t es =>
    obtain⟨b,its',rfl,p2,r2⟩:=id q
    by_cases ab:a=b
    ·subst ab
     rw[show decide (Dt.t ds=Dt.t es)=true from decide_eq_true (HasD.inj _ _ _ _ _ p q)]
     exact .same _
    ·have l1:=Paired.length r1
     have l2:=Paired.length r2
     have z:=SeqAt.RcAt.tuples (A:=A) (e:=fun i=>decide (ds.getD i default=es.getD i default)) p1 p2 hu0 fun j h1 h2=>by
      have j1:j < its.length:=by simpa using h1
      have j2:j < its'.length:=by simpa using h2
      have g1:ds[j]?=some (ds[j]'(by omega)):=List.getElem?_eq_getElem _
      have g2:es[j]?=some (es[j]'(by omega)):=List.getElem?_eq_getElem _
      have w1:=paired_get r1 g1 (List.getElem?_eq_getElem j1)
      have w2:=paired_get r2 g2 (List.getElem?_eq_getElem j2)
      rw[getD_of g1,getD_of g2]
      exact ih (A:=A.in1) (by show A.units+1+n < _;omega) w1 w2
     rw[List.size_toArray,List.size_toArray,<- l1,<- l2,lists_eq fun i _ _=>rfl]at z
     exact .of_refs ab z
section
variable{prog:Program}{w:World}{E:Value->Shared->Prop}
theorem quiet_V{A:Around}{s:Shared}{x:V}{u:Value}{m:Nat}{Q:Bool->Shared->Prop}(f:hV x=true)(r:RelV x u)(h:Q true s):wpAny (model prog w) A (eqIsQuiet m u) Q E s:=by
 have:carriedByValue u=true:=by
  cases x <;> first | exact(Bool.false_ne_true f).elim | skip
  ·cases (show u=Value.none from r);rfl
  ·obtain⟨t,rfl⟩:=r;rfl
  ·obtain⟨t,rfl⟩:=r;rfl
 rw[eqIsQuiet_byValue _ this]
 exact wpAny_pure h
theorem quiet_D:∀ (n m:Nat) {A:Around} {s:Shared} {d:Dt} {u:Value} {Q:Bool->Shared->Prop},n<=m->HasD s.heap n d u->Q true s->wpAny (model prog w) A (eqIsQuiet m u) Q E s:=by
 intro n
 induction n with
 | zero =>
  intro m A s d u Q _ p h
  cases d with
  | v x=>exact quiet_V p.1 p.2 h
  | t _=>exact p.elim
  | l _=>exact p.elim
 | succ n ih =>
  intro m A s d u Q hm p h
  cases d with
  | v x=>exact quiet_V p.1 p.2 h
  | l _=>exact p.elim
  | t ds =>
   obtain⟨k,rfl⟩:∃ k,m=k+1:=⟨m - 1,by omega⟩
   obtain⟨a,its,rfl,⟨o,ho,hc,j,hd⟩,r⟩:=p
   have hT:s.TypeIs (.ref a) "tuple":=⟨o,ho,hc⟩
   unfold eqIsQuiet
   refine wpAny_bind (wpAny_specialOf hT F.slot_tuple_eq.lookup ?_)
   show wpAny _ _ (isInstance (.ref a) (.type "tuple") >>= _) _ _ s
   refine wpAny_bind (wpAny_isInstance hT isSubtype_tuple_tuple ?_)
   simp only[Bool.not_true,Bool.false_eq_true,if_false]
   refine wpAny_bind (wpAny_seqItems ho hd ?_)
   refine wpAny_bind ?_
   show wpAny _ _ (forIn its.toArray _ _) _ _ s
   rw[<- Array.forIn_toList]
   refine wpAny_forIn_list _ (fun rest r s'=>r.1=none/\s'=s/\∃ left,Paired (fun d v=>HasD s.heap n d v) left rest) _ ?_ ?_ _ _ ⟨rfl,rfl,ds,by simpa using r⟩
   ·rintro v rest r s' ⟨hr,rfl,left,hl⟩
    cases hl with
    | cons h1 hl' =>
     refine wpAny_bind (ih k (by omega) h1 ?_)
     simp only[Bool.not_true,Bool.false_eq_true,if_false]
     exact wpAny_pure ⟨rfl,rfl,_,hl'⟩
   ·rintro⟨r1,r2⟩ s' ⟨hr,rfl,_⟩
    simp only at hr
    subst hr
    exact wpAny_pure h
end
noncomputable def nestKind (prog:Program) (w:World):HeapKind prog w Dt where
 is:=fun h d a=>HasD h 8 d (.ref a)
 hash:=haD w
 draws:=drD
 room:=fun A=>A.units+8 < cLine
 inj:=fun p q=>HasD.inj _ _ _ _ _ p q
 keeps:=fun p ho hd hs=>HasD.keeps ho hd hs _ _ _ p
 pyHash:=fun hu p h=>hash_D 8 hu p h
 eqBool:=fun hu p q h=>eq_D 8 hu p q _ _ _ _ h
 quiet:=fun p h=>quiet_D 8 8 (Nat.le_refl _) p h
end L2
end
section
namespace PySem
section
variable{prog:Program}{w:World}{K:Type}[DecidableEq K]{knd:HeapKind prog w K}{A:Around}{E:Value->Shared->Prop}{s:Shared}
end
end PySem
namespace L2
open PySem PySem.Spec PyProof.Rows
abbrev NX:=List (Dt×Addr×V)
def NKV:NX->List (Dt×Addr×Value)->Prop:=Paired fun p q=>p.1=q.1/\p.2.1=q.2.1/\RelV p.2.2 q.2.2
def isN(P:Program)(w:World)(a:Addr)(xs:NX)(h:Heap):Prop:=xs.length<=sizeLine/\(a == sysModules)=false/\∃ ys,NKV xs ys/\∃ o es ep,h.get? a=some o/\o.ExactDict/\o.data=.dict es ep/\es.toList=ys.map (entryOfKey (nestKind P w))/\(ys.map (·.1)).Nodup
def dN(P:Program)(w:World)(a:Addr)(xs:NX):HO:=.ext (isN P w a xs)
structure DnAt(P:Program)(w:World)(K:PySem.W.Frag)(H:Hp)(a:Addr)(xs:NX):Prop where
 at_:H a=some (dN P w a xs)
 keys:∀ x∈xs,Rep K H 8 x.1 (.ref x.2.1)/\hD x.1=true
noncomputable def valN (xs:NX) (d:Dt):Option V:=(xs.find? fun x=>decide (x.1=d)).map (·.2.2)
theorem paired_of{α β:Type}{F:α->β->Prop}:∀ {xs:List α} {us:List β},xs.length=us.length->(∀ (i:Nat) x u,xs[i]?=some x->us[i]?=some u->F x u)->Paired F xs us
 | [],[],_,_=>.nil
 | [],_::_,h,_=>by simp at h
 | _::_,[],h,_=>by simp at h
 | x::xs,u::us,h,f=>.cons (f 0 _ _ rfl rfl) (paired_of (by simpa using h) fun i a b ha hb=>f (i+1) a b (by simpa using ha) (by simpa using hb))
theorem isN_stay{P:Program}{w:World}{a:Addr}{xs:NX}(h1 h2:Heap)(p:isN P w a xs h1)(k:∀ o,h1.get? a=some o->h2.get? a=some o):isN P w a xs h2:=by
 obtain⟨z,y,ys,r,o,es,ep,e,c⟩:=p
 exact⟨z,y,ys,r,o,es,ep,k o e,c⟩
section
variable{X:Cx}{pins:List (Addr×Obj)}{σ:St}{H:Hp}{s:Shared}{a b:Addr}{xs:NX}{d:Dt}
theorem Rep.has(I:Inv X pins σ H s){n:Nat}{x:V}(r:Rep X.K H n d x):∀ {u:Value},hD d=true->RelV x u->HasD s.heap n d u:=by
 induction r with
 | @v n x f =>
  intro u h r
  rw[hD]at h
  cases n <;> exact⟨h,r⟩
 | t h e r1 ih =>
  intro u hh r
  cases (show u=Value.ref _ from r)
  rw[hD]at hh
  obtain⟨its,w1,p,_⟩:=I.tuple h
  have l1:=w1.length
  refine⟨_,its,rfl,p,paired_of (by omega) fun i d u hd hu=>?_⟩
  have hi:=(List.getElem?_eq_some_iff.mp hu).1
  obtain⟨u',e',r'⟩:=w1.get (i:=i) (List.getElem?_eq_getElem (by omega))
  rw[hu]at e';cases e'
  exact ih i d _ hd (List.getElem?_eq_getElem (by omega)) (hDs_mem hh d (List.mem_of_getElem? hd)) r'
 | l h e _ _ =>
  intro u hh _
  rw[hD]at hh;exact(Bool.false_ne_true hh).elim
theorem DnAt.dict(I:Inv X pins σ H s)(g:DnAt X.prog X.w X.K H a xs):xs.length<=sizeLine/\(a == sysModules)=false/\∃ ys,NKV xs ys/\s.heap.DictOfH (nestKind X.prog X.w) a ys:=by
 obtain⟨⟨z,y,ys,r,o,es,ep,h1,h2,h3,h4,h5⟩,_,_⟩:=(show ObjOk X.prog X.w H s.heap a (dN X.prog X.w a xs) from I.hok a _ g.at_)
 refine⟨z,y,ys,r,o,es,ep,h1,h2,h3,h4,fun q hq=>?_,h5⟩
 obtain⟨i,hi⟩:=List.mem_iff_getElem?.mp hq
 have l:=Paired.length r
 have hp:xs[i]?=some (xs[i]'(by have:=(List.getElem?_eq_some_iff.mp hi).1;omega)):=List.getElem?_eq_getElem _
 have z:=paired_get r hp hi
 rw[<- z.1,<- z.2.1]
 have k:=g.keys _ (List.mem_of_getElem? hp)
 exact k.1.has I k.2 rfl
theorem NKV.val{xs:NX}{ys:List (Dt×Addr×Value)}(r:NKV xs ys)(d:Dt):RelO (valN xs d) ((atKey ys d).map (·.2)):=by
 induction r with
 | nil=>exact True.intro
 | @cons p q ps qs hq t ih =>
  unfold valN atKey
  rw[List.find?_cons,List.find?_cons,<- hq.1]
  by_cases e:p.1=d
  ·rw[decide_eq_true e];exact hq.2.2
  ·rw[decide_eq_false e];exact ih
theorem NKV.none{xs:NX}{ys:List (Dt×Addr×Value)}(r:NKV xs ys){d:Dt}(h:valN xs d=none):atKey ys d=none:=by
 have:=r.val d
 rw[h]at this
 cases e:atKey ys d with
 | none=>rfl
 | some p=>rw[e]at this;exact this.elim
theorem NKV.some{xs:NX}{ys:List (Dt×Addr×Value)}(r:NKV xs ys){d:Dt}:(valN xs d).isSome=(atKey ys d).isSome:=by
 have:=(r.val d).isSome_eq
 rw[Option.isSome_map]at this
 exact this
variable{A:Around}{E:Value->Shared->Prop}
theorem n_in{Q:Value->Shared->Prop}(hu:A.units+9 < cLine)(I:Inv X pins σ H s)(g:DnAt X.prog X.w X.K H a xs)(r:Rep X.K H 8 d (.ref b))(hd:hD d=true)(h:∀ s',Inv X pins σ H s'->Q (.bool (valN xs d).isSome) s') :
 wpAny (model X.prog X.w) A (compareOp .In (.ref b) (.ref a)) Q E s:=by
 obtain⟨z,y,ys,rel,dd⟩:=g.dict I
 refine wpAny_in_heap (knd:=nestKind X.prog X.w) (show A.units+1+8 < cLine by omega) (r.has I hd rfl) y dd ?_
 rw[<- rel.some];exact h _ (I.tok _)
theorem n_get{v:V}{Q:Value->Shared->Prop}(hu:A.units+9 < cLine)(I:Inv X pins σ H s)(g:DnAt X.prog X.w X.K H a xs)(r:Rep X.K H 8 d (.ref b))(hd:hD d=true)(l:valN xs d=some v)(h:∀ w' s',Inv X pins σ H s'->RelV v w'->Q w' s') :
 wpAny (model X.prog X.w) A (getItem (.ref a) (.ref b)) Q E s:=by
 obtain⟨z,y,ys,rel,dd⟩:=g.dict I
 obtain⟨w',hw,rw'⟩:=RelO.some_of (v:=v) (o:=(atKey ys d).map (·.2)) (by rw[<- l];exact rel.val d)
 obtain⟨p,hp,hp2⟩:=Option.map_eq_some_iff.mp hw
 refine wpAny_getItem_heap (knd:=nestKind X.prog X.w) (show A.units+1+8 < cLine by omega) (r.has I hd rfl) dd hp ?_
 rw[hp2]
 exact h w' _ (I.tok _) rw'
theorem n_put{v:V}{u:Value}{Q:Unit->Shared->Prop}(hu:A.units+9 < cLine)(I:Inv X pins σ H s)(g:DnAt X.prog X.w X.K H a xs)(r:Rep X.K H 8 d (.ref b))(hd:hD d=true)(l:valN xs d=none)(hl:xs.length < sizeLine)(rv:RelV v u)
 (h:∀ s',Inv X pins σ (upd H a (dN X.prog X.w a (xs++[(d,b,v)]))) s'->Q () s'):wpAny (model X.prog X.w) A (setItem (.ref a) (.ref b) u) Q E s:=by
 obtain⟨z,y,ys,rel,dd⟩:=g.dict I
 refine wpAny_setItem_heap (knd:=nestKind X.prog X.w) (hsz:=by rw[<- Paired.length rel];exact z) (show A.units+1+8 < cLine by omega) (r.has I hd rfl) dd fun h' dd' hs=>h _ ?_
 obtain⟨q,es,ep,hq,h2,h3,h4,_,h5⟩:=dd'
 rw[storedH_new (rel.none l)]at h4 h5
 refine d_write I (by rw[g.at_];exact True.intro) hs ⟨q,hq⟩ ⟨⟨by rw[List.length_append];exact hl,y,_,Paired.snoc rel ⟨rfl,rfl,rv⟩,q,es,ep,hq,h2,h3,h4,h5⟩,⟨q,hq⟩,isN_stay⟩
theorem DnAt.typeIs(I:Inv X pins σ H s)(g:DnAt X.prog X.w X.K H a xs):s.TypeIs (.ref a) "dict":=let ⟨_,_,_,_,dd⟩:=g.dict I;dd.typeIs
end
def tNIn(P:Program)(w:World)(K:PySem.W.Frag)(ty td:TE):TE:=fun σ H Q=>ty σ H fun y H1=>td σ H1 fun x H2=>∃ a b xs d,x=.ref a/\y=.ref b/\DnAt P w K H2 a xs/\Rep K H2 8 d (.ref b)/\hD d=true/\Q (.bl (valN xs d).isSome) H2
def tNGet(P:Program)(w:World)(K:PySem.W.Frag)(td ty:TE):TE:=fun σ H Q=>td σ H fun x H1=>ty σ H1 fun y H2=>∃ a b xs d v,x=.ref a/\y=.ref b/\DnAt P w K H2 a xs/\Rep K H2 8 d (.ref b)/\hD d=true/\valN xs d=some v/\Q v H2
def sNPut(P:Program)(w:World)(K:PySem.W.Frag)(td ty tv:TE):TS:=fun D σ H=>tv σ H fun v H1=>td σ H1 fun x H2=>ty σ H2 fun y H3=>∃ a b xs d,x=.ref a/\y=.ref b/\DnAt P w K H3 a xs/\Rep K H3 8 d (.ref b)/\hD d=true/\valN xs d=none/\xs.length < sizeLine/\D.nx σ (upd H3 a (dN P w a (xs++[(d,b,v)])))
def tNPop(P:Program)(w:World)(K:PySem.W.Frag)(td ty:TE):TE:=fun σ H Q=>td σ H fun x H1=>∃ a xs0,x=.ref a/\DnAt P w K H1 a xs0/\ty σ H1 fun y H2=>∃ b xs d j c v,y=.ref b/\DnAt P w K H2 a xs/\Rep K H2 8 d (.ref b)/\hD d=true/\xs[j]?=some (d,c,v)/\Q v (upd H2 a (dN P w a (xs.eraseIdx j)))
def tNNew(P:Program)(w:World):TE:=fun _ H Q=>∀ p,H p=none->Q (.ref p) (upd H p (dN P w p []))
section
variable{X:Cx}{o i e value:Expr}{pos pos' apos cpos:Pos}{td ty tv:TE}
theorem pc_nin(hu:X.A.units+9 < cLine)(hi:PE X i ty)(ho:PE X o td):PC X .In i o (tNIn X.prog X.w X.K ty td):=by
 intro pins s σ H Q I h
 refine thn (hi pins s σ H _ I h) fun iv s1 ⟨y,H1,I1,ry,q1⟩=>thn (ho pins s1 σ H1 _ I1 q1) fun u s2 ⟨x,H2,I2,rx,a,b,xs,d,ex,ey,g,r,hd,q2⟩=>?_
 subst ex ey
 obtain rfl:u=Value.ref a:=rx
 obtain rfl:iv=Value.ref b:=ry
 exact n_in hu I2 g r hd fun s3 I3=>⟨.bl (valN xs d).isSome,H2,I3,rfl,q2⟩
theorem pe_nget(hu:X.A.units+9 < cLine)(ho:PE X o td)(hi:PE X i ty)(hs:NoSl i):PE X (.Subscript o i pos) (tNGet X.prog X.w X.K td ty):=by
 intro pins s σ H Q I h
 refine subD_of PySem.F.slot_dict_getitem.lookup hs (thn (ho pins s σ H _ I h) fun u s1 ⟨x,H1,I1,rx,q1⟩=>thn (hi pins s1 σ H1 _ I1 q1) fun iv s2 ⟨y,H2,I2,ry,a,b,xs,d,v,ex,ey,g,r,hd,l,q2⟩=>?_)
 subst ex ey
 obtain rfl:u=Value.ref a:=rx
 obtain rfl:iv=Value.ref b:=ry
 exact⟨g.typeIs I2,n_get hu I2 g r hd l fun w' s3 I3 rw'=>⟨v,H2,I3,rw',q2⟩⟩
theorem ps_nput(hu:X.A.units+9 < cLine)(ho:PE X o td)(hi:PE X i ty)(hv:PE X value tv)(hs:swapsWith value (some (.Subscript o i pos')) pos.line X.env=pure false) :
 PS X (.Assign [.Subscript o i pos'] value pos) (sNPut X.prog X.w X.K td ty tv):=by
 intro pins s σ H D I h
 refine wpAny_Assign_Subscript (thn (hv pins s σ H _ I h) fun r s1 ⟨v,H1,I1,rv,q1⟩=>thn (ho pins s1 σ H1 _ I1 q1) fun u s2 ⟨x,H2,I2,rx,q2⟩=>thn (hi pins s2 σ H2 _ I2 q2) fun iv s3 ⟨y,H3,I3,ry,a,b,xs,d,ex,ey,g,rp,hd,l,hl,q3⟩=>?_) hs
 subst ex ey
 obtain rfl:u=Value.ref a:=rx
 obtain rfl:iv=Value.ref b:=ry
 exact n_put hu I3 g rp hd l hl rv fun s4 I4=>⟨σ,_,I4,q3⟩
theorem dn_empty{P:Program}{w:World}{H:Hp}(h:Heap)(hb:sysModules < h.objs.size):ObjOk P w H (h.push { cls:=.type "dict",data:=.dict #[] }) h.objs.size (dN P w h.objs.size []) :=
 ⟨⟨Nat.zero_le _,beq_eq_false_iff_ne.mpr (Ne.symm (Nat.ne_of_lt hb)),[],.nil,_,#[],0,Heap.get?_push_size _ rfl,⟨rfl,rfl,rfl⟩,rfl,rfl,List.nodup_nil⟩,⟨_,Heap.get?_push_size _ rfl⟩,isN_stay⟩
theorem pe_dnewN:PE X (.Dict [] [] pos) (tNNew X.prog X.w):=fun pins s σ H Q I h =>
 wpAny_Dict_empty ⟨.ref s.heap.objs.size,_,I.laid (a:=s.heap.objs.size) (o:=dN X.prog X.w s.heap.objs.size []) (t':=s.toks) (fun _ _ q=>Heap.get?_push_of_some _ q) (Nat.le_refl _) (dn_empty s.heap I.big),rfl,h _ (I.hok.fresh (Nat.le_refl _))⟩
end
theorem Room.u9{k:Nat}{A:Around}(r:Room k A):A.units+9 < cLine:=by have:=r.un;omega
end L2
end
section
namespace L2
open PySem PySem.Spec PyProof.Rows
def TD(H:Hp):Nat->Dt->V->Prop
 | 0,.v x,y=>hV x=true/\y=x
 | 0,.t _,_=>False
 | 0,.l _,_=>False
 | _+1,.v x,y=>hV x=true/\y=x
 | n+1,.t ds,y=>∃ (a:Addr) (xs:List V),y=.ref a/\H a=some (.tup xs)/\Paired (fun d v=>TD H n d v) ds xs
 | _+1,.l _,_=>False
section
variable{H H':Hp}{K:PySem.W.Frag}
theorem TD.flat{n:Nat}{x y:V}:TD H n (.v x) y->hV x=true/\y=x:=by cases n <;> exact id
theorem TD.ofV{n:Nat}{x:V}(f:hV x=true):TD H n (.v x) x:=by cases n <;> exact⟨f,rfl⟩
theorem TD.tup{n:Nat}{ds:List Dt}{y:V}(q:TD H n (.t ds) y):∃ m a xs,n=m+1/\y=.ref a/\H a=some (.tup xs)/\Paired (fun d v=>TD H m d v) ds xs:=by
 cases n with
 | zero=>exact q.elim
 | succ m=>obtain⟨a,xs,e,h,r⟩:=q;exact⟨m,a,xs,rfl,e,h,r⟩
theorem TD.ofT{n:Nat}{a:Addr}{xs:List V}{ds:List Dt}(h:H a=some (.tup xs))(r:Paired (fun d v=>TD H n d v) ds xs):TD H (n+1) (.t ds) (.ref a):=⟨a,xs,rfl,h,r⟩
theorem TD.sameT(s:SameT H H'):∀ (n:Nat) {d:Dt} {y:V},TD H n d y->TD H' n d y:=by
 intro n
 induction n with
 | zero=>intro d y q;cases d <;> exact q
 | succ n ih =>
  intro d y q
  cases d with
  | v x=>exact q
  | l x=>exact q
  | t ds=>obtain⟨a,xs,e,h,r⟩:=q;exact⟨a,xs,e,s _ _ h,Paired.mapP r fun d v z=>ih z⟩
theorem TD.same{n:Nat}{d:Dt}{y:V}(q:TD H n d y)(s:Same H H'):TD H' n d y:=TD.sameT s.t n q
theorem TD.mono:∀ (n:Nat) {m:Nat} {d:Dt} {y:V},n<=m->TD H n d y->TD H m d y:=by
 intro n
 induction n with
 | zero =>
  intro m d y _ q
  cases d with
  | v x=>obtain⟨f,e⟩:=q;subst e;exact TD.ofV f
  | t _=>exact q.elim
  | l _=>exact q.elim
 | succ n ih =>
  intro m d y hm q
  cases d with
  | v x=>obtain⟨f,e⟩:=q;subst e;exact TD.ofV f
  | l _=>exact q.elim
  | t ds =>
   obtain⟨a,xs,e,h,r⟩:=q
   obtain⟨k,rfl⟩:∃ k,m=k+1:=⟨m - 1,by omega⟩
   exact⟨a,xs,e,h,Paired.mapP r fun d v z=>ih (by omega) z⟩
theorem TD.rep:∀ (n:Nat) {d:Dt} {y:V},TD H n d y->Rep K H n d y:=by
 intro n
 induction n with
 | zero =>
  intro d y q
  cases d with
  | v x=>obtain⟨f,e⟩:=q;subst e;exact .v (flat_hV f)
  | t _=>exact q.elim
  | l _=>exact q.elim
 | succ n ih =>
  intro d y q
  cases d with
  | v x=>obtain⟨f,e⟩:=q;subst e;exact .v (flat_hV f)
  | l _=>exact q.elim
  | t ds =>
   obtain⟨a,xs,e,h,r⟩:=q
   subst e
   exact .t (SqT.of h) (Paired.length r) fun i d x h1 h2=>ih (paired_get r h1 h2)
theorem TD.h:∀ (n:Nat) {d:Dt} {y:V},TD H n d y->hD d=true:=by
 intro n
 induction n with
 | zero =>
  intro d y q
  cases d with
  | v x=>rw[hD];exact q.1
  | t _=>exact q.elim
  | l _=>exact q.elim
 | succ n ih =>
  intro d y q
  cases d with
  | v x=>rw[hD];exact q.1
  | l _=>exact q.elim
  | t ds =>
   obtain⟨a,xs,e,h,r⟩:=q
   rw[hD]
   refine hDs_of fun x hx=>?_
   obtain⟨i,hi⟩:=List.mem_iff_getElem?.mp hx
   have l:=Paired.length r
   have hl:=(List.getElem?_eq_some_iff.mp hi).1
   exact ih (paired_get r hi (List.getElem?_eq_getElem (show i < xs.length by omega)))
theorem TD.pair{n:Nat}{a:Addr}{x y:V}{d e:Dt}(h:H a=some (.tup [x,y]))(hx:TD H n d x)(hy:TD H n e y):TD H (n+1) (.t [d,e]) (.ref a):=TD.ofT h (.cons hx (.cons hy .nil))
theorem TD.pair_of{n:Nat}{y:V}{d e:Dt}(q:TD H (n+1) (.t [d,e]) y):∃ a x z,y=.ref a/\H a=some (.tup [x,z])/\TD H n d x/\TD H n e z:=by
 obtain⟨a,xs,rfl,h,r⟩:=q
 cases r with
 | cons r1 r2 =>
  cases r2 with
  | cons r3 r4=>cases r4;exact⟨a,_,_,rfl,h,r1,r3⟩
end
mutual
theorem eqD_hD:∀ d e:Dt,hD d=true->hD e=true->(eqD d e=true↔d=e)
 | .v x,.v y,h,h'=>by
  rw[hD]at h h';rw[eqD,eqV_hV h h',decide_eq_true_iff]
 | .t xs,.t ys,h,h'=>by
  rw[hD]at h h';rw[eqD,eqDs_hD xs ys h h']
  exact⟨fun e=>by rw[e],fun e=>by injection e⟩
 | .v x,.t ys,_,_=>by simp[eqD]
 | .t xs,.v y,_,_=>by simp[eqD]
 | .l xs,_,h,_=>by rw[hD]at h;exact(Bool.false_ne_true h).elim
 | .v x,.l ys,_,h=>by rw[hD]at h;exact(Bool.false_ne_true h).elim
 | .t x,.l ys,_,h=>by rw[hD]at h;exact(Bool.false_ne_true h).elim
theorem eqDs_hD:∀ d e:List Dt,hDs d=true->hDs e=true->(eqDs d e=true↔d=e)
 | [],[],_,_=>by simp[eqDs]
 | [],_::_,_,_=>by simp[eqDs]
 | _::_,[],_,_=>by simp[eqDs]
 | x::xs,y::ys,h,h'=>by
  rw[hDs,Bool.and_eq_true]at h h'
  rw[eqDs,Bool.and_eq_true,eqD_hD x y h.1 h'.1,eqDs_hD xs ys h.2 h'.2]
  exact⟨fun e=>by rw[e.1,e.2],fun e=>by injection e with a b;exact⟨a,b⟩⟩
end
theorem eqD_dec{d e:Dt}(h:hD d=true)(h':hD e=true):eqD d e=decide (d=e):=by
 rw[Bool.eq_iff_iff,eqD_hD d e h h',decide_eq_true_iff]
theorem rD_tdN{K:PySem.W.Frag}{H:Hp}{n:Nat}{d e:Dt}{x y:V}{Q:VK}(hn:n<=60)(h1:TD H n d x)(h2:TD H n e y)(q:Q (.bl (!decide (d=e))) H):rD K true x y H Q :=
 ⟨n,d,e,hn,h1.rep,h2.rep,by rw[if_pos rfl,eqD_dec h1.h h2.h];exact q⟩
def SameX(S:List Addr)(H H':Hp):Prop:=∀ b o,b∉S->H b=some o->H' b=some o
section
variable{S:List Addr}{H H' H1 H2:Hp}
theorem SameX.refl(S:List Addr)(H:Hp):SameX S H H:=fun _ _ _ e=>e
theorem Same.x(s:Same H H')(S:List Addr):SameX S H H':=fun b o _ e=>s b o e
theorem SameX.trans(a:SameX S H H1)(b:SameX S H1 H2):SameX S H H2:=fun c o n e=>b c o n (a c o n e)
theorem SameX.upd{a:Addr}{o:HO}(s:SameX S H H')(h:a∈S):SameX S H (L2.upd H' a o):=fun b u n e=>by
 rw[upd_ne (fun z=>n (by rw[z];exact h))];exact s b u n e
theorem SameX.mono{S':List Addr}(s:SameX S H H')(h:∀ a∈S,a∈S'):SameX S' H H':=fun b o n e=>s b o (fun z=>n (h b z)) e
end
end L2
namespace L2
open PySem PySem.Spec PyProof.Rows
section
variable{α β:Type}[DecidableEq β]
theorem find_key(g:α->β):∀ {xs:List α} {x:α},(xs.map g).Nodup->x∈xs->xs.find? (fun y=>decide (g y=g x))=some x
 | [],_,_,h=>nomatch h
 | y::ys,x,nd,h=>by
  rw[List.map_cons,List.nodup_cons]at nd
  rw[List.find?_cons]
  rcases List.mem_cons.mp h with e | h
  ·subst e;rw[decide_eq_true rfl]
  ·have:g y≠g x:=fun e=>nd.1 (by rw[e];exact List.mem_map_of_mem h)
   rw[decide_eq_false this]
   exact find_key g nd.2 h
theorem find_no(g:α->β){xs:List α}{b:β}(h:∀ x∈xs,g x≠b):xs.find? (fun y=>decide (g y=b))=none:=by
 rw[List.find?_eq_none]
 intro x hx z
 exact h x hx (of_decide_eq_true z)
end
theorem valV_mapF{α κ:Type}[DecidableEq κ](f:α->κ×V)(xs:List α)(k:κ):valV (xs.map f) k=(xs.find? fun x=>decide ((f x).1=k)).map fun x=>(f x).2:=by
 unfold valV
 rw[List.find?_map,Option.map_map]
 rfl
theorem valN_map{α:Type}(f:α->Dt×Addr×V)(xs:List α)(k:Dt):valN (xs.map f) k=(xs.find? fun x=>decide ((f x).1=k)).map fun x=>(f x).2.2:=by
 unfold valN
 rw[List.find?_map,Option.map_map]
 rfl
end L2
end
section
namespace L2
open PySem PySem.Spec PyProof.Rows
section
variable{X:Cx}
end
theorem TDs.of{H:Hp}{n:Nat}{Pd:Dt->Prop}:∀ {xs:List V},(∀ x∈xs,∃ d,TD H n d x/\Pd d)->∃ ds:List Dt,Paired (fun d v=>TD H n d v) ds xs/\∀ d∈ds,Pd d
 | [],_=>⟨[],.nil,fun d h=>nomatch h⟩
 | x::xs,h=>by
  obtain⟨d,hd,pd⟩:=h x List.mem_cons_self
  obtain⟨ds,r,p⟩:=TDs.of (xs:=xs) fun y hy=>h y (List.mem_cons_of_mem _ hy)
  exact⟨d::ds,.cons hd r,fun e he=>by
   rcases List.mem_cons.mp he with z | z
   ·rw[z];exact pd
   ·exact p e z⟩
theorem TDs.sameT{H H':Hp}{n:Nat}{es:List Dt}{xs:List V}(r:Paired (fun d v=>TD H n d v) es xs)(s:SameT H H'):Paired (fun d v=>TD H' n d v) es xs:=Paired.mapP r fun _ _ z=>TD.sameT s n z
def tMethE(P:Program)(w:World)(K:PySem.W.Frag)(mg:Str->Option Value)(base:Heap)(k:Nat)(m:Str)(ta:TE1)(t:TA):TE1:=fun σ H Q E=>ta σ H (fun x H1=>∃ a C dx fs sp,x=.ref a/\H1 a=some (.ins C dx fs)/\fs.lookup m=none/\Cls K C/\MeV P w K mg base k C m sp/\t σ H1 fun vs H2=>sp (x::vs) H2 Q E) E
section
variable{X:Cx}{m:Str}{k:Nat}{ta:TE1}{t:TA}{e o:Expr}{es:List Expr}{pos apos:Pos}{pl:Sem Bool}
theorem pe1_methE(he:PE1 X o ta)(hr:Room k X.A)(hex:X.ex=[])(ha:PA X.nox (e::es) t)
 (hst:starEach (e::es) X.env=(false,eval e X.env)::starEach es X.env:=by rfl) (hpl:(backTo pos (starEach es X.env)).any (·.1)=false:=by rfl)
 (ht:eval (.Call (.Attribute o m apos) (e::es) [] pos) X.env=(do
  let ov <- eval o X.env
  standAt apos.atName
  let (f,first) <- holding [ov] (getMethod ov m pl)
  callWith pos f first (backTo pos (starEach (e::es) X.env)) (backToKw pos (keywordEach [] X.env))):=by rfl) :
 PE1 X (.Call (.Attribute o m apos) (e::es) [] pos) (tMethE X.prog X.w X.K X.mg X.base k m ta t):=by
 intro pins s σ H Q E I h
 refine PySem.W.methodCall_KW (pl:=pl) (thn (he pins s σ H _ E I h) fun u s1 ⟨y,H1,I1,rx,a,C,dx,fs,sp,ex,ea,l,c,G,q⟩=>?_) ht
 obtain⟨f,fd,ps,hm,F,hb⟩:=G
 subst ex
 obtain rfl:u=Value.ref a:=rx
 refine getmeth_ok I1 ea c hm l ?_
 refine PySem.W.callWith_K (first:=[.ref a]) (h₀:=X.base) I.ok.mod.kin hm.kp (thn (pa_nox ha I1 q) fun us s2 ⟨vs,H2,I2,r,q2⟩=>⟨I2.kIn,?_⟩) hst hpl
 exact run_fn1 (us:=.ref a::us) (vs:=.ref a::vs) F hr hb hex I2 (.cons rfl r) q2
theorem pe1_methE0(he:PE1 X o ta)(hr:Room k X.A)(hex:X.ex=[])
 (ht:eval (.Call (.Attribute o m apos) [] [] pos) X.env=(do
  let ov <- eval o X.env
  standAt apos.atName
  let (f,first) <- holding [ov] (getMethod ov m pl)
  callWith pos f first (backTo pos (starEach [] X.env)) (backToKw pos (keywordEach [] X.env))):=by rfl) :
 PE1 X (.Call (.Attribute o m apos) [] [] pos) (tMethE X.prog X.w X.K X.mg X.base k m ta tNil):=by
 intro pins s σ H Q E I h
 refine PySem.W.methodCall_KW (pl:=pl) (thn (he pins s σ H _ E I h) fun u s1 ⟨y,H1,I1,rx,a,C,dx,fs,sp,ex,ea,l,c,G,q⟩=>?_) ht
 obtain⟨f,fd,ps,hm,F,hb⟩:=G
 subst ex
 obtain rfl:u=Value.ref a:=rx
 refine getmeth_ok I1 ea c hm l ?_
 exact PySem.W.callWith_K0 (first:=[.ref a]) I1.kIn hm.kp (run_fn1 (us:=[.ref a]) (vs:=[.ref a]) F hr hb hex I1 (.cons rfl .nil) q)
end
end L2
end
section
open L2
namespace Tr
def keyD:Dt->V
 | .t (.v k::_)=>k
 | _=>.non
def tdOf(l:Int)(es:List Dt):Dt:=.t [.v (.int l),.t es]
def hdOf(k:V)(n:Int):Dt:=.t [.v k,.v (.int n)]
def fstK:List Dt->V
 | []=>.non
 | e::_=>keyD e
theorem tdOf_inj{l l':Int}{es es':List Dt}(h:tdOf l es=tdOf l' es'):l=l'/\es=es':=by
 unfold tdOf at h
 injection h with h
 injection h with h1 h
 injection h with h2 h
 injection h1 with h1
 injection h1 with h1
 injection h2 with h2
 exact⟨h1,h2⟩
theorem hdOf_inj{k k':V}{n n':Int}(h:hdOf k n=hdOf k' n'):k=k'/\n=n':=by
 unfold hdOf at h
 injection h with h
 injection h with h1 h
 injection h with h2 h
 injection h1 with h1
 injection h2 with h2
 injection h2 with h2
 exact⟨h1,h2⟩
theorem keyD_hd(k:V)(n:Int):keyD (hdOf k n)=k:=rfl
section
variable(lv:V->Nat)
def step(l:Int)(parts:List (List Dt))(e:Dt):List (List Dt) :=
 if parts=[]\/l < lv (keyD e) then parts++[[e]] else parts.dropLast++[parts.getLast?.getD []++[e]]
def cutF(l:Int)(es:List Dt):List (List Dt):=es.foldl (step lv l) []
structure CutD(l:Int)(es:List Dt)(parts:List (List Dt)):Prop where
 flat:parts.flatten=es
 full:∀ part∈parts,part≠[]
 head:∀ (i:Nat) x r,0 < i->parts[i]?=some (x::r)->l < lv (keyD x)
 rest:∀ x r,(x::r)∈parts->∀ y∈r,(lv (keyD y):Int)<=l
variable{lv}{l:Int}{es:List Dt}{parts:List (List Dt)}
theorem CutD.nil:CutD lv l [] []:=⟨rfl,(fun _ h=>by cases h),(fun i x r _ h=>by simp at h),(fun x r h=>by cases h)⟩
theorem CutD.more{x:Dt}(c:CutD lv l es parts)(h:parts=[]\/l < lv (keyD x)):CutD lv l (es++[x]) (parts++[[x]]) where
 flat:=by rw[List.flatten_append,c.flat];simp
 full:=fun part hp=>by
  rcases List.mem_append.mp hp with z | z
  ·exact c.full part z
  ·have:part=[x]:=by simpa using z
   rw[this];simp
 head:=fun i y r hi e=>by
  by_cases hl:i < parts.length
  ·rw[List.getElem?_append_left hl]at e;exact c.head i y r hi e
  ·rw[List.getElem?_append_right (by omega)]at e
   have h0:i - parts.length=0:=by
    cases q:i - parts.length with
    | zero=>rfl
    | succ m=>rw[q]at e;simp at e
   rw[h0]at e
   simp at e
   rcases h with z | z
   ·rw[z]at h0;simp at h0;omega
   ·rw[<- e.1];exact z
 rest:=fun y r hp z hz=>by
  rcases List.mem_append.mp hp with w | w
  ·exact c.rest y r w z hz
  ·have:y::r=[x]:=by simpa using w
   cases this
   cases hz
theorem CutD.on{x:Dt}{ini:List (List Dt)}{last:List Dt}(c:CutD lv l es (ini++[last]))(h:(lv (keyD x):Int)<=l):CutD lv l (es++[x]) (ini++[last++[x]]) where
 flat:=by have:=c.flat;simp at this ⊢;rw[<- this];simp
 full:=fun part hp=>by
  rcases List.mem_append.mp hp with z | z
  ·exact c.full part (List.mem_append_left _ z)
  ·have:part=last++[x]:=by simpa using z
   rw[this];simp
 head:=fun i y r hi e=>by
  by_cases hl:i < ini.length
  ·rw[List.getElem?_append_left hl]at e
   exact c.head i y r hi (by rw[List.getElem?_append_left hl];exact e)
  ·rw[List.getElem?_append_right (by omega)]at e
   have h0:i - ini.length=0:=by
    cases q:i - ini.length with
    | zero=>rfl
    | succ m=>rw[q]at e;simp at e
   rw[h0]at e
   have hne:=c.full last (by simp)
   match last,hne,e,c with
   | z::zs,_,e,c =>
    simp at e
    rw[<- e.1]
    exact c.head i z zs hi (by rw[List.getElem?_append_right (by omega),h0];rfl)
 rest:=fun y r hp z hz=>by
  rcases List.mem_append.mp hp with w | w
  ·exact c.rest y r (List.mem_append_left _ w) z hz
  ·have w:y::r=last++[x]:=by simpa using w
   have hne:=c.full last (by simp)
   match last,hne,w,c with
   | u::us,_,w,c =>
    simp at w
    obtain⟨rfl,rfl⟩:=w
    rcases List.mem_append.mp hz with v | v
    ·exact c.rest y us (by simp) z v
    ·have:z=x:=by simpa using v
     rw[this];exact h
theorem snoc_of{α:Type}:∀ {xs:List α},xs≠[]->∃ ini last,xs=ini++[last]
 | [],h=>absurd rfl h
 | [x],_=>⟨[],x,rfl⟩
 | x::y::ys,_=>by
  obtain⟨ini,last,e⟩:=snoc_of (xs:=y::ys) (by simp)
  exact⟨x::ini,last,by rw[e];rfl⟩
theorem CutD.step{x:Dt}(c:CutD lv l es parts):CutD lv l (es++[x]) (step lv l parts x):=by
 unfold Tr.step
 split
 ·rename_i h;exact c.more h
 ·rename_i h
  have h1:parts≠[]:=fun z=>h (.inl z)
  obtain⟨ini,last,rfl⟩:=snoc_of h1
  have:(lv (keyD x):Int)<=l:=by have:¬ l < lv (keyD x):=fun z=>h (.inr z);omega
  simpa using c.on this
theorem cutF_snoc(es:List Dt)(x:Dt):cutF lv l (es++[x])=step lv l (cutF lv l es) x:=by
 unfold cutF;rw[List.foldl_append];rfl
theorem snoc_rec{α:Type}{C:List α->Prop}(h0:C [])(h1:∀ xs x,C xs->C (xs++[x]))(xs:List α):C xs:=by
 have:∀ n (xs:List α),xs.length=n->C xs:=by
  intro n
  induction n with
  | zero=>intro xs h;rw[List.length_eq_zero_iff.mp h];exact h0
  | succ n ih =>
   intro xs h
   obtain⟨ini,last,rfl⟩:=snoc_of (xs:=xs) (by intro z;rw[z]at h;simp at h)
   exact h1 _ _ (ih ini (by simpa using h))
 exact this _ xs rfl
theorem cutF_ok(l:Int):∀ es,CutD lv l es (cutF lv l es):=snoc_rec CutD.nil fun xs x c=>by rw[cutF_snoc];exact c.step
theorem cutF_ne{es:List Dt}(h:es≠[]):cutF lv l es≠[]:=fun z=>h (by have:=(cutF_ok (lv:=lv) l es).flat;rw[z]at this;exact this.symm)
theorem cutF_one{es:List Dt}(hne:es≠[])(h:∀ e∈es,(lv (keyD e):Int)<=l):cutF lv l es=[es]:=by
 have c:=cutF_ok (lv:=lv) l es
 match q:cutF lv l es with
 | []=>exact absurd q (cutF_ne hne)
 | [p]=>rw[q]at c;have:=c.flat;simp at this;rw[this]
 | p::p2::r =>
  rw[q]at c
  have hp2:=c.full p2 (by simp)
  match p2,hp2 with
  | x::xs,_ =>
   have h1:=c.head 1 x xs (by omega) rfl
   have h2:x∈es:=by rw[<- c.flat];simp
   have:=h x h2
   omega
end
structure Fn(tbl:List (Int×Dt)):Prop where
 num:∀ n d d',(n,d)∈tbl->(n,d')∈tbl->d=d'
 dat:∀ n n' d,(n,d)∈tbl->(n',d)∈tbl->n=n'
inductive Heads(tbl:List (Int×Dt))(l:Int):List (List Dt)->List Dt->Prop
 | nil:Heads tbl l [] []
 | cons {part:List Dt} {parts:List (List Dt)} {hs:List Dt} {n:Int} (h:(n,tdOf l part)∈tbl) (r:Heads tbl l parts hs):Heads tbl l (part::parts) (hdOf (fstK part) n::hs)
section
variable{tbl tbl':List (Int×Dt)}{l:Int}{parts:List (List Dt)}{hs:List Dt}
theorem Heads.mono(h:Heads tbl l parts hs)(s:∀ x∈tbl,x∈tbl'):Heads tbl' l parts hs:=by
 induction h with
 | nil=>exact .nil
 | cons h _ ih=>exact .cons (s _ h) ih
theorem Heads.snoc{part:List Dt}{n:Int}(h:Heads tbl l parts hs)(m:(n,tdOf l part)∈tbl):Heads tbl l (parts++[part]) (hs++[hdOf (fstK part) n]):=by
 induction h with
 | nil=>exact .cons m .nil
 | cons h _ ih=>exact .cons h ih
theorem Heads.length(h:Heads tbl l parts hs):hs.length=parts.length:=by
 induction h with
 | nil=>rfl
 | cons _ _ ih=>simp[ih]
theorem Heads.det(f:Fn tbl)(h:Heads tbl l parts hs):∀ {hs':List Dt},Heads tbl l parts hs'->hs=hs':=by
 induction h with
 | nil=>intro hs' h';cases h';rfl
 | cons h _ ih =>
  intro hs' h'
  cases h' with
  | cons h2 r2=>rw[f.dat _ _ _ h h2,ih r2]
end
structure Chain(lv:V->Nat)(tbl:List (Int×Dt))(rows:List Dt)(top:Nat)(L:Nat->List Dt):Prop where
 low:L 0=rows
 up:∀ j,j<=top->Heads tbl j (cutF lv j (L j)) (L (j+1))
 one:(L (top+1)).length=1
 two:∀ j,1<=j->j<=top->1 < (L j).length
section
variable{lv:V->Nat}{tbl tbl':List (Int×Dt)}{rows rows':List Dt}{top top':Nat}{L L':Nat->List Dt}
theorem Chain.mono(c:Chain lv tbl rows top L)(s:∀ x∈tbl,x∈tbl'):Chain lv tbl' rows top L:=⟨c.low,fun j h=>(c.up j h).mono s,c.one,c.two⟩
theorem Chain.det(f:Fn tbl)(c:Chain lv tbl rows top L)(c':Chain lv tbl rows top' L'):top=top'/\∀ j,j<=top+1->L j=L' j:=by
 have key:∀ j,j<=top+1->j<=top'+1->L j=L' j:=by
  intro j
  induction j with
  | zero=>intro _ _;rw[c.low,c'.low]
  | succ j ih =>
   intro h h'
   have e:=ih (by omega) (by omega)
   have u:=c.up j (by omega)
   have u':=c'.up j (by omega)
   rw[e]at u
   exact u.det f u'
 have e:top=top':=by
  rcases Nat.lt_trichotomy top top' with h | h | h
  ·have:=c'.two (top+1) (by omega) (by omega)
   rw[<- key (top+1) (by omega) (by omega),c.one]at this;omega
  ·exact h
  ·have:=c.two (top'+1) (by omega) (by omega)
   rw[key (top'+1) (by omega) (by omega),c'.one]at this;omega
 subst e
 exact⟨rfl,fun j h=>key j h h⟩
end
def numD:Dt->Int
 | .t [_,.v (.int n)]=>n
 | _=>0
section
variable{lv:V->Nat}{tbl:List (Int×Dt)}{l:Int}{parts:List (List Dt)}{hs rows:List Dt}{top:Nat}{L:Nat->List Dt}
theorem Heads.keys(h:Heads tbl l parts hs):hs.map keyD=parts.map fstK:=by
 induction h with
 | nil=>rfl
 | cons h r ih=>rw[List.map_cons,List.map_cons,ih];rfl
theorem Heads.mem(h:Heads tbl l parts hs){x:Dt}(hx:x∈hs):∃ part∈parts,∃ n,x=hdOf (fstK part) n/\(n,tdOf l part)∈tbl:=by
 induction h with
 | nil=>cases hx
 | @cons part parts hs n h r ih =>
  rcases List.mem_cons.mp hx with e | hx
  ·exact⟨part,List.mem_cons_self,n,e,h⟩
  ·obtain⟨p,hp,q⟩:=ih hx;exact⟨p,List.mem_cons_of_mem _ hp,q⟩
end
structure Part(lv:V->Nat)(tbl:List (Int×Dt))(rows:List Dt)(j:Nat)(L:Nat->List Dt):Prop where
 low:L 0=rows
 up:∀ i,i < j->Heads tbl i (cutF lv i (L i)) (L (i+1))
 two:∀ i,1<=i->i < j->1 < (L i).length
section
variable{lv:V->Nat}{tbl tbl':List (Int×Dt)}{rows hs:List Dt}{j:Nat}{L:Nat->List Dt}
theorem Part.start(h:Heads tbl 0 (cutF lv 0 rows) hs):Part lv tbl rows 1 (fun i=>if i=0 then rows else hs) where
 low:=rfl
 up:=fun i hi=>by
  obtain rfl:i=0:=by omega
  exact h
 two:=fun i h1 h2=>by omega
theorem Part.next(p:Part lv tbl rows j L)(s:∀ x∈tbl,x∈tbl')(hj:1<=j)(h2:1 < (L j).length)(h:Heads tbl' j (cutF lv j (L j)) hs):Part lv tbl' rows (j+1) (fun i=>if i=j+1 then hs else L i) where
 low:=by show(if 0=j+1 then hs else L 0)=rows;rw[if_neg (by omega)];exact p.low
 up:=fun i hi=>by
  show Heads tbl' i (cutF lv i (if i=j+1 then hs else L i)) (if i+1=j+1 then hs else L (i+1))
  rw[if_neg (by omega)]
  by_cases e:i=j
  ·subst e;rw[if_pos rfl];exact h
  ·rw[if_neg (by omega)];exact(p.up i (by omega)).mono s
 two:=fun i h1 hi=>by
  show 1 < (if i=j+1 then hs else L i).length
  rw[if_neg (by omega)]
  by_cases e:i=j
  ·subst e;exact h2
  ·exact p.two i h1 (by omega)
theorem Part.chain{top:Nat}(p:Part lv tbl rows (top+1) L)(h:(L (top+1)).length=1):Chain lv tbl rows top L:=⟨p.low,fun i hi=>p.up i (by omega),h,fun i h1 h2=>p.two i h1 (by omega)⟩
theorem Part.full(p:Part lv tbl rows j L)(hr:rows≠[]):∀ i,i<=j->L i≠[]:=by
 intro i
 induction i with
 | zero=>intro _;rw[p.low];exact hr
 | succ i ih =>
  intro h z
  have u:=p.up i (by omega)
  have l:=u.length
  rw[z]at l
  exact cutF_ne (ih (by omega)) (List.length_eq_zero_iff.mp l.symm)
theorem Part.top(p:Part lv tbl rows j L)(h6:∀ k,lv k<=6)(hr:rows≠[])(hj:7<=j):(L 7).length=1:=by
 have u:=p.up 6 (by omega)
 rw[cutF_one (p.full hr 6 (by omega)) (fun e _=>by have:=h6 (keyD e);omega)]at u
 rw[u.length];rfl
end
end Tr
end
section
namespace L2
open PySem PySem.Spec PyProof.Rows
end L2
end
section
namespace L2
open PySem PySem.Spec PyProof.Rows
section
variable{a b c d e u:TS}{D:Ends}{σ:St}{H:Hp}
theorem rd_gen1(h:∀ R:St->Hp->Prop,(∀ σ H,u D σ H->R σ H)->a { D with nx:=R } σ H):tSeq a u D σ H:=h (u D) fun _ _ z=>z
theorem rd_gen3(h:∀ R:St->Hp->Prop,(∀ σ H,u D σ H->R σ H)->tSeq a (tSeq b c) { D with nx:=R } σ H):tSeq a (tSeq b (tSeq c u)) D σ H:=h (u D) fun _ _ z=>z
theorem rd_gen4(h:∀ R:St->Hp->Prop,(∀ σ H,u D σ H->R σ H)->tSeq a (tSeq b (tSeq c d)) { D with nx:=R } σ H):tSeq a (tSeq b (tSeq c (tSeq d u))) D σ H:=h (u D) fun _ _ z=>z
theorem rd_gen5(h:∀ R:St->Hp->Prop,(∀ σ H,u D σ H->R σ H)->tSeq a (tSeq b (tSeq c (tSeq d e))) { D with nx:=R } σ H):tSeq a (tSeq b (tSeq c (tSeq d (tSeq e u)))) D σ H:=h (u D) fun _ _ z=>z
end
section
variable{X:Cx}
theorem foldl_size:∀ (n:Nat) (z acc:Array Nat),((List.replicate n z).foldl (·++·) acc).size=acc.size+z.size * n:=by
 intro n z
 induction n with
 | zero=>intro acc;rfl
 | succ n ih=>intro acc;rw[List.replicate_succ,List.foldl_cons,ih,Array.size_append,Nat.mul_succ];omega
theorem foldl_list:∀ (n:Nat) (z acc:Array Nat),((List.replicate n z).foldl (·++·) acc).toList=acc.toList++(List.replicate n z.toList).flatten:=by
 intro n z
 induction n with
 | zero=>intro acc;simp
 | succ n ih=>intro acc;rw[List.replicate_succ,List.foldl_cons,ih,Array.toList_append,List.replicate_succ,List.flatten_cons,List.append_assoc]
def rRepN:R2:=fun x y H Q=>∃ (z:Str) (n:Int),x=.str z/\y=.int n /\ -1000<=n/\n<=1000/\z.length<=100/\∀ r:Str,r.cps.toList=(List.replicate n.toNat z.cps.toList).flatten->Q (.str r) H
theorem op_repN:OpR X (binaryOp .Mult) rRepN:=by
 intro pins s σ H x y v u Q I rx ry h
 obtain⟨z,n,rfl,rfl,h0,h1,hz,q⟩:=h
 obtain⟨t,rfl⟩:=rx
 obtain⟨t',rfl⟩:=ry
 have hmul:z.length * n.toNat<=100000:=Nat.le_trans (Nat.mul_le_mul hz (show n.toNat<=1000 by omega)) (by decide)
 refine PySem.P.mul_str (by rw[decide_eq_false (by omega),decide_eq_false (by omega)];rfl) (fun hn _=>?_) (fun _ _=>?_) ?_
 ·have:((2:Int) ^ 63 - 1) / (n:Int) >= ((2:Int) ^ 63 - 1) / 100000:=by
   refine(Int.le_ediv_iff_mul_le (by omega)).mpr ?_
   have:((2:Int) ^ 63 - 1) / 100000 * (n:Int)<=((2:Int) ^ 63 - 1) / 100000 * 100000:=Int.mul_le_mul_of_nonneg_left (by omega) (by decide)
   exact Int.le_trans this (by decide)
  have e:((2:Int) ^ 63 - 1) / 100000=92233720368547:=by decide
  omega
 ·generalize z.length * n.toNat=m at hmul ⊢
  have hs:100000<=sizeLine:=by decide
  exact decide_eq_false (by omega)
 ·by_cases hn:n < 1
  ·rw[if_pos hn]
   exact⟨by decide,⟨.str _,H,I.tok _,⟨_,rfl⟩,q _ (by rw[show n.toNat=0 by omega];rfl)⟩⟩
  ·rw[if_neg hn]
   by_cases h2:(n == 1 || z.length == 0)=true
   ·rw[if_pos h2]
    rw[Bool.or_eq_true,beq_iff_eq,beq_iff_eq]at h2
    refine⟨.str z,H,I,⟨_,rfl⟩,q z ?_⟩
    rcases h2 with e | e
    ·rw[e];simp
    ·have:z.cps.toList=[]:=List.eq_nil_of_length_eq_zero e
     rw[this]
     simp
   ·rw[if_neg h2]
    refine⟨?_,⟨.str _,H,I.tok _,⟨_,rfl⟩,q _ (by rw[foldl_list];rfl)⟩⟩
    show((List.replicate n.toNat z.cps).foldl (·++·) #[]).size<=sizeLine
    rw[foldl_size]
    have hs:100000<=sizeLine:=by decide
    have:z.cps.size * n.toNat<=100000:=hmul
    simp;omega
end
end L2
end
section
namespace L2
open PySem PySem.Spec PyProof.Rows
section
variable{X:Cx}
end
end L2
namespace L2
open PySem PySem.Spec PyProof.Rows
end L2
end
section
open L2 PySem
namespace Tr
def SubR(tbl:List (Int×Dt)):Nat->Dt->List Dt->Prop
 | 0,d,es=>es=[d]
 | l+1,d,es=>∃ k n part ess,d=hdOf k n/\(n,tdOf (l:Int) part)∈tbl/\Paired (SubR tbl l) part ess/\es=ess.flatten
def SubsR(tbl:List (Int×Dt))(l:Nat)(part es:List Dt):Prop:=∃ ess,Paired (SubR tbl l) part ess/\es=ess.flatten
theorem paired_split{α β:Type}{F:α->β->Prop}:∀ {xs ys:List α} {us:List β},Paired F (xs++ys) us->∃ u1 u2,us=u1++u2/\Paired F xs u1/\Paired F ys u2
 | [],_,us,h=>⟨[],us,rfl,.nil,h⟩
 | x::xs,ys,_,.cons r t=>by
  obtain⟨u1,u2,e,a,b⟩:=paired_split t
  exact⟨_::u1,u2,by rw[e];rfl,.cons r a,b⟩
section
variable{lv:V->Nat}{tbl:List (Int×Dt)}{rows:List Dt}{top:Nat}{L:Nat->List Dt}
theorem subs_zero(rows:List Dt):SubsR tbl 0 rows rows:=by
 refine⟨rows.map fun d=>[d],?_,?_⟩
 ·induction rows with
  | nil=>exact .nil
  | cons d r ih=>exact .cons rfl ih
 ·induction rows with
  | nil=>rfl
  | cons d r ih=>rw[List.map_cons,List.flatten_cons,<- ih];rfl
theorem heads_sub{j:Nat}{parts:List (List Dt)}{hs:List Dt}(h:Heads tbl (j:Int) parts hs):∀ {ess:List (List Dt)},Paired (SubR tbl j) parts.flatten ess->∃ ess',Paired (SubR tbl (j+1)) hs ess'/\ess'.flatten=ess.flatten:=by
 induction h with
 | nil=>intro ess p;cases p;exact⟨[],.nil,rfl⟩
 | @cons part parts hs n hm r ih =>
  intro ess p
  rw[List.flatten_cons]at p
  obtain⟨u1,u2,e,a,b⟩:=paired_split p
  obtain⟨ess',q,f⟩:=ih b
  refine⟨u1.flatten::ess',.cons ⟨_,n,part,u1,rfl,hm,a,rfl⟩ q,?_⟩
  rw[List.flatten_cons,f,e,List.flatten_append]
theorem Chain.sub(c:Chain lv tbl rows top L):∀ j,j<=top+1->SubsR tbl j (L j) rows:=by
 intro j
 induction j with
 | zero=>intro _;rw[c.low];exact subs_zero rows
 | succ j ih =>
  intro h
  obtain⟨ess,p,e⟩:=ih (by omega)
  have u:=c.up j (by omega)
  rw[<- (cutF_ok (lv:=lv) (j:Int) (L j)).flat]at p
  obtain⟨ess',q,f⟩:=heads_sub u p
  exact⟨ess',q,by rw[f];exact e⟩
theorem Chain.spread(c:Chain lv tbl rows top L){k:V}{n:Int}(e:L (top+1)=[hdOf k n]):∃ part,(n,tdOf (top:Int) part)∈tbl/\SubsR tbl top part rows:=by
 obtain⟨ess,p,f⟩:=c.sub (top+1) (Nat.le_refl _)
 rw[e]at p
 cases p with
 | cons r t =>
  cases t
  obtain⟨k',n',part,es2,e1,hm,q,g⟩:=r
  obtain⟨_,rfl⟩:=hdOf_inj e1
  exact⟨part,hm,es2,q,by rw[f,g];simp⟩
end
end Tr
end
section
namespace L2
open PySem PySem.Spec PyProof.Rows PySem.W
section
variable{prog:Program}{w:World}{A:Around}{E:Value->Shared->Prop}{s:Shared}
end
section
variable{X:Cx}{e:Expr}{te:TE}{p pos p2 pos2:Pos}{pins:List (Addr×Obj)}{σ:St}{H:Hp}{s:Shared}
end
end L2
end
section
namespace L2
open PySem PySem.Spec PyProof.Rows PySem.W
section
variable{prog:Program}{w:World}{A:Around}{E:Value->Shared->Prop}{h:Heap}{g:Array GenState}{d:Drawn}{t:Nat}{os:OsState}{a:Addr}{its:Array Value}{c:Nat}
end
section
variable{prog:Program}{w:World}{K:Type}[DecidableEq K]{knd:KeyKind prog w K}{A:Around}{E:Value->Shared->Prop}{s:Shared}
end
end L2
end
section
namespace L2
open PySem PySem.Spec PyProof.Rows PySem.W
theorem bo_dict:bootBuiltins "dict"=some (.type "dict"):=by rfl
section
variable{prog:Program}{w:World}{A:Around}{E:Value->Shared->Prop}{h:Heap}{g:Array GenState}{d:Drawn}{t:Nat}{os:OsState}{a:Addr}{its:Array Value}{c:Nat}{sl:Array (Option Value)}
end
section
variable{prog:Program}{w:World}{K:Type}[DecidableEq K]{knd:KeyKind prog w K}{A:Around}{E:Value->Shared->Prop}{s:Shared}
end
end L2
end
section
namespace L2
open PySem PySem.Spec PyProof.Rows PySem.W
end L2
end
section
namespace L2
open PySem PySem.Spec PyProof.Rows PySem.W
end L2
end
section
namespace L2
open PySem PySem.Spec PyProof.Rows PySem.W
section
variable{prog:Program}{w:World}{K:Type}[DecidableEq K]{knd:KeyKind prog w K}{A:Around}{E:Value->Shared->Prop}{s:Shared}
end
end L2
end
section
namespace L2
open PySem PySem.Spec PyProof.Rows PySem.W
section
variable{prog:Program}{w:World}{A:Around}{E:Value->Shared->Prop}{s:Shared}
section
variable{it a:Addr}{i ep:Nat}{es:Array (Int×Value)}{t:SetTable}{Q:Option Value->Shared->Prop}
end
section
variable{a:Addr}{i ep slot:Nat}{es:Array (Int×Value)}{t:SetTable}{R:Option (Value×Nat)->Shared->Prop}
end
end
end L2
end
section
namespace L2
open PySem PySem.Spec PyProof.Rows PySem.W
section
variable{prog:Program}{w:World}{A:Around}{E:Value->Shared->Prop}{s:Shared}
section
variable{it a tp:Addr}{ep:Nat}{es:Array (Int×Value)}{t:SetTable}
end
section
variable{a:Addr}{ep:Nat}{es:Array (Int×Value)}{t:SetTable}
end
end
end L2
end
section
namespace L2
open PySem PySem.Spec PyProof.Rows PySem.W
section
variable{X:Cx}{pins:List (Addr×Obj)}{σ:St}{H:Hp}{s:Shared}{A:Around}{E:Value->Shared->Prop}
end
section
variable{X:Cx}{e:Expr}{te:TE}{p pos p2 pos2:Pos}{pins:List (Addr×Obj)}{σ:St}{H:Hp}{s:Shared}
end
end L2
end
section
namespace L2
open PySem PySem.Spec PyProof.Rows PySem.W
section
variable{X:Cx}{e:Expr}{te:TE}{p pos p2 pos2:Pos}{pins:List (Addr×Obj)}{σ:St}{H:Hp}{s:Shared}
end
end L2
end
section
namespace Rw
open PySem L2 Pl
end Rw
end
section
open L2 PySem
namespace Tr
section
variable{lv:V->Nat}{l:Int}
theorem step_app{A B:List (List Dt)}{x:Dt}(h:B≠[]):step lv l (A++B) x=A++step lv l B x:=by
 obtain⟨ini,last,rfl⟩:=snoc_of h
 unfold step
 by_cases c:l < lv (keyD x)
 ·rw[if_pos (.inr c),if_pos (.inr c),List.append_assoc]
 ·rw[if_neg (fun z=>z.elim (fun z=>by simp at z) c),if_neg (fun z=>z.elim (fun z=>by simp at z) c)]
  rw[<- List.append_assoc,List.dropLast_concat,List.dropLast_concat,List.getLast?_concat,List.getLast?_concat,List.append_assoc]
theorem cutF_app{X Y:List Dt}(h:X=[]\/Y=[]\/l < lv (fstK Y)):cutF lv l (X++Y)=cutF lv l X++cutF lv l Y:=by
 rcases h with h | h | h
 ·rw[h];rfl
 ·rw[h,List.append_nil];unfold cutF;simp
 ·by_cases hY:Y=[]
  ·rw[hY,List.append_nil];unfold cutF;simp
  revert h hY
  refine snoc_rec (C:=fun Y=>l < lv (fstK Y)->Y≠[]->cutF lv l (X++Y)=cutF lv l X++cutF lv l Y) (fun _ z=>absurd rfl z) (fun Y x ih h _=>?_) Y
  rw[<- List.append_assoc,cutF_snoc,cutF_snoc]
  by_cases e:Y=[]
  ·subst e
   rw[List.append_nil]
   unfold step
   rw[if_pos (.inr h),if_pos (.inl rfl)];rfl
  ·rw[ih (by cases Y with | nil=>exact absurd rfl e | cons y r=>exact h) e,step_app (cutF_ne e)]
theorem cut_uniq{es:List Dt}{parts:List (List Dt)}(c:CutD lv l es parts):cutF lv l es=parts:=by
 revert es
 refine snoc_rec (C:=fun parts=>∀ {es:List Dt},CutD lv l es parts->cutF lv l es=parts) (fun {es} c=>?_) (fun ps p ih es c=>?_) parts
 ·have:=c.flat;simp at this;rw[this];rfl
 have hp:=c.full p (by simp)
 obtain⟨x,r,rfl⟩:∃ x r,p=x::r:=by cases p with | nil=>exact absurd rfl hp | cons x r=>exact⟨x,r,rfl⟩
 have c':CutD lv l ps.flatten ps:=⟨rfl,fun q hq=>c.full q (List.mem_append_left _ hq),fun i y s hi e=>c.head i y s hi (by rw[List.getElem?_append_left (List.getElem?_eq_some_iff.mp e).1];exact e),fun y s hy=>c.rest y s (List.mem_append_left _ hy)⟩
 have fl:=c.flat
 rw[List.flatten_append]at fl
 simp at fl
 rw[<- fl]
 have h1:ps.flatten=[]\/(x::r)=[]\/l < lv (fstK (x::r)):=by
  by_cases e:ps=[]
  ·exact .inl (by rw[e];rfl)
  ·refine .inr (.inr ?_)
   exact c.head ps.length x r (List.length_pos_iff.mpr e) (by simp)
 rw[cutF_app h1,ih c']
 congr 1
 have h2:∀ y∈r,(lv (keyD y):Int)<=l:=c.rest x r (by simp)
 clear fl h1 c' hp c ih
 revert h2
 refine snoc_rec (C:=fun r=>(∀ y∈r,(lv (keyD y):Int)<=l)->cutF lv l (x::r)=[x::r]) (fun _=>?_) (fun r y ih h=>?_) r
 ·unfold cutF step;simp
 ·rw[show x::(r++[y])=(x::r)++[y] from rfl,cutF_snoc,ih fun z hz=>h z (List.mem_append_left _ hz)]
  have:=h y (by simp)
  unfold step
  rw[if_neg (fun z=>z.elim (fun z=>by simp at z) fun z=>by omega)]
  rfl
theorem CutD.left{es:List Dt}{P Q:List (List Dt)}(c:CutD lv l es (P++Q)):CutD lv l P.flatten P:=⟨rfl,fun q hq=>c.full q (List.mem_append_left _ hq),fun i y s hi e=>c.head i y s hi (by rw[List.getElem?_append_left (List.getElem?_eq_some_iff.mp e).1];exact e),fun y s hy=>c.rest y s (List.mem_append_left _ hy)⟩
theorem CutD.right{es:List Dt}{P Q:List (List Dt)}(c:CutD lv l es (P++Q)):CutD lv l Q.flatten Q:=⟨rfl,fun q hq=>c.full q (List.mem_append_right _ hq),fun i y s hi e=>c.head (P.length+i) y s (by omega) (by rw[List.getElem?_append_right (by omega),Nat.add_sub_cancel_left];exact e),fun y s hy=>c.rest y s (List.mem_append_right _ hy)⟩
end
section
variable{tbl tbl':List (Int×Dt)}{l:Int}
theorem Heads.app{P P':List (List Dt)}{hs hs':List Dt}(h:Heads tbl l P hs)(h':Heads tbl l P' hs'):Heads tbl l (P++P') (hs++hs'):=by
 induction h with
 | nil=>exact h'
 | cons m _ ih=>exact .cons m ih
theorem Heads.split:∀ {hs hs':List Dt} {P:List (List Dt)},Heads tbl l P (hs++hs')->∃ P1 P2,P=P1++P2/\Heads tbl l P1 hs/\Heads tbl l P2 hs'
 | [],hs',P,h=>⟨[],P,rfl,.nil,h⟩
 | x::hs,hs',P,h=>by
  rw[List.cons_append]at h
  generalize e:x::(hs++hs')=q at h
  cases h with
  | nil=>cases e
  | @cons part parts _ n m r =>
   injection e with e1 e2
   subst e1 e2
   obtain⟨P1,P2,rfl,a,b⟩:=Heads.split r
   exact⟨part::P1,P2,rfl,.cons m a,b⟩
end
def Tow(lv:V->Nat)(tbl:List (Int×Dt)):Nat->List Dt->List Dt->Prop
 | 0,R,hs=>hs=R
 | l+1,R,hs=>∃ gs,Tow lv tbl l R gs/\Heads tbl l (cutF lv l gs) hs
section
variable{lv:V->Nat}{tbl tbl':List (Int×Dt)}
theorem Tow.mono(s:∀ x∈tbl,x∈tbl'):∀ {l:Nat} {R hs:List Dt},Tow lv tbl l R hs->Tow lv tbl' l R hs
 | 0,_,_,h=>h
 | l+1,_,_,⟨gs,a,b⟩=>⟨gs,a.mono s,b.mono s⟩
theorem Tow.det(f:Fn tbl):∀ {l:Nat} {R hs hs':List Dt},Tow lv tbl l R hs->Tow lv tbl l R hs'->hs=hs'
 | 0,_,_,_,h,h'=>h.trans h'.symm
 | l+1,_,_,_,⟨gs,a,b⟩,⟨gs',a',b'⟩=>by
  have:=Tow.det f a a'
  subst this
  exact b.det f b'
theorem fstK_flat{P:List (List Dt)}{p:List Dt}(h:p≠[]):fstK ((p::P).flatten)=fstK p:=by
 cases p with
 | nil=>exact absurd rfl h
 | cons x r=>rfl
theorem Tow.fst:∀ {l:Nat} {R hs:List Dt},Tow lv tbl l R hs->(R=[]↔hs=[])/\fstK hs=fstK R
 | 0,_,_,h=>by rw[show _=_ from h];exact⟨Iff.rfl,rfl⟩
 | l+1,R,hs,⟨gs,a,b⟩=>by
  obtain⟨h1,h2⟩:=a.fst
  have c:=cutF_ok (lv:=lv) (l:Int) gs
  generalize cutF lv l gs=P at b c
  cases b with
  | nil =>
   have:=c.flat;simp at this;subst this
   exact⟨⟨fun _=>rfl,fun _=>h1.mpr rfl⟩,h2⟩
  | @cons part parts hs n m r =>
   have fu:=c.full part (by simp)
   have fl:=c.flat
   refine⟨⟨fun e=>?_,fun e=>by cases e⟩,?_⟩
   ·rw[h1.mp e]at fl
    simp at fl
    exact absurd fl.1 fu
   ·rw[<- h2,<- fl,fstK_flat fu];rfl
theorem Tow.ne{l:Nat}{R hs:List Dt}(h:Tow lv tbl l R hs)(n:R≠[]):hs≠[]:=fun z=>n (h.fst.1.mpr z)
theorem Tow.ne'{l:Nat}{R hs:List Dt}(h:Tow lv tbl l R hs)(n:hs≠[]):R≠[]:=fun z=>n (h.fst.1.mp z)
theorem Tow.app:∀ {l:Nat} {A B a b:List Dt},Tow lv tbl l A a->Tow lv tbl l B b->(A=[]\/B=[]\/l<=lv (fstK B))->Tow lv tbl l (A++B) (a++b)
 | 0,_,_,_,_,ha,hb,_=>by rw[show _=_ from ha,show _=_ from hb];rfl
 | l+1,A,B,_,_,⟨ga,a1,a2⟩,⟨gb,b1,b2⟩,h=>by
  refine⟨ga++gb,a1.app b1 (h.imp_right fun z=>z.imp_right fun z=>by omega),?_⟩
  rw[cutF_app]
  ·exact a2.app b2
  ·rcases h with h | h | h
   ·exact .inl (a1.fst.1.mp h)
   ·exact .inr (.inl (b1.fst.1.mp h))
   ·refine .inr (.inr ?_);rw[b1.fst.2];omega
theorem Tow.split:∀ {l:Nat} {R a b:List Dt},Tow lv tbl l R (a++b)->∃ A B,R=A++B/\Tow lv tbl l A a/\Tow lv tbl l B b/\(a=[]\/b=[]\/l<=lv (fstK B))
 | 0,R,a,b,h=>⟨a,b,(show _=R from h).symm,rfl,rfl,.inr (.inr (Nat.zero_le _))⟩
 | l+1,R,a,b,⟨gs,h1,h2⟩=>by
  obtain⟨P,Q,e,hP,hQ⟩:=h2.split
  have c:=cutF_ok (lv:=lv) (l:Int) gs
  rw[e]at c
  have eg:gs=P.flatten++Q.flatten:=by rw[<- List.flatten_append];exact c.flat.symm
  rw[eg]at h1
  obtain⟨A,B,eR,tA,tB,hc⟩:=h1.split
  refine⟨A,B,eR,⟨_,tA,by rw[cut_uniq c.left];exact hP⟩,⟨_,tB,by rw[cut_uniq c.right];exact hQ⟩,?_⟩
  by_cases ea:a=[]
  ·exact .inl ea
  by_cases eb:b=[]
  ·exact .inr (.inl eb)
  refine .inr (.inr ?_)
  rw[<- tB.fst.2]
  cases hQ with
  | nil=>exact absurd rfl eb
  | @cons part parts hs n m r =>
   have fu:=c.full part (by simp)
   rw[fstK_flat fu]
   have hp:0 < P.length:=by rw[<- hP.length];exact List.length_pos_iff.mpr ea
   obtain⟨x,s,rfl⟩:∃ x s,part=x::s:=by cases part with | nil=>exact absurd rfl fu | cons x s=>exact⟨x,s,rfl⟩
   have:=c.head P.length x s hp (by simp)
   show l+1<=lv (keyD x)
   omega
theorem Tow.one{l:Nat}{R:List Dt}{h:Dt}(t:Tow lv tbl (l+1) R [h]):∃ n part,h=hdOf (fstK R) n/\(n,tdOf (l:Int) part)∈tbl/\Tow lv tbl l R part/\cutF lv l part=[part]:=by
 obtain⟨gs,a,b⟩:=t
 have c:=cutF_ok (lv:=lv) (l:Int) gs
 generalize e:cutF lv l gs=P at b c
 cases b with
 | @cons part parts hs n m r =>
  cases r
  have fl:=c.flat
  simp at fl
  subst fl
  exact⟨n,part,by rw[a.fst.2],m,a,e⟩
theorem Chain.tow{rows:List Dt}{top:Nat}{L:Nat->List Dt}(c:Chain lv tbl rows top L):∀ j,j<=top+1->Tow lv tbl j rows (L j):=by
 intro j
 induction j with
 | zero=>intro _;exact c.low
 | succ j ih=>intro h;exact⟨L j,ih (by omega),c.up j (by omega)⟩
theorem Tow.at_{l:Nat}{R a b:List Dt}{h:Dt}(t:Tow lv tbl (l+1) R (a++h::b)):∃ A M B n part,R=A++(M++B)/\Tow lv tbl (l+1) A a/\Tow lv tbl (l+1) M [h]/\Tow lv tbl (l+1) B b/\h=hdOf (fstK M) n/\(n,tdOf (l:Int) part)∈tbl/\Tow lv tbl l M part/\M≠[]/\(A=[]\/l+1<=lv (fstK M))/\(B=[]\/l+1<=lv (fstK B)):=by
 obtain⟨A,N,e,tA,tN,h1⟩:=t.split
 obtain⟨M,B,e2,tM,tB,h2⟩:=(show Tow lv tbl (l+1) N ([h]++b) from tN).split
 obtain⟨n,part,eh,hm,tp,_⟩:=tM.one
 have hM:M≠[]:=tM.ne' (by simp)
 refine⟨A,M,B,n,part,by rw[e,e2],tA,tM,tB,eh,hm,tp,hM,?_,?_⟩
 ·rcases h1 with z | z | z
  ·exact .inl (tA.fst.1.mpr z)
  ·cases z
  ·refine .inr ?_
   rw[e2]at z
   cases M with
   | nil=>exact absurd rfl hM
   | cons x r=>exact z
 ·rcases h2 with z | z | z
  ·cases z
  ·exact .inl (tB.fst.1.mpr z)
  ·exact .inr z
theorem Tow.mid{l:Nat}{A M B a m b:List Dt}(tA:Tow lv tbl (l+1) A a)(tM:Tow lv tbl (l+1) M m)(tB:Tow lv tbl (l+1) B b)(h1:A=[]\/M=[]\/l+1<=lv (fstK M))(h2:B=[]\/l+1<=lv (fstK B)):Tow lv tbl (l+1) (A++(M++B)) (a++(m++b)):=by
 refine tA.app (tM.app tB (.inr h2)) ?_
 rcases h1 with z | z | z
 ·exact .inl z
 ·subst z;exact .inr h2
 ·by_cases e:M=[]
  ·subst e;exact .inr h2
  ·refine .inr (.inr ?_)
   cases M with
   | nil=>exact absurd rfl e
   | cons x r=>exact z
theorem Tow.up{l:Nat}{R gs hs:List Dt}(t:Tow lv tbl l R gs)(h:Heads tbl l (cutF lv l gs) hs):Tow lv tbl (l+1) R hs:=⟨gs,t,h⟩
theorem cut_len{es:List Dt}{l:Int}:(cutF lv l es).length<=es.length:=by
 have c:=cutF_ok (lv:=lv) l es
 have fu:=c.full
 have fl:=c.flat
 generalize cutF lv l es=P at fu fl
 rw[<- fl]
 clear fl c
 induction P with
 | nil=>simp
 | cons p r ih =>
  have h1:=fu p (by simp)
  have h2:0 < p.length:=List.length_pos_iff.mpr h1
  have:=ih fun q hq=>fu q (List.mem_cons_of_mem _ hq)
  rw[List.flatten_cons,List.length_append,List.length_cons];omega
theorem Tow.len{l:Nat}{R gs hs:List Dt}(t:Tow lv tbl l R gs)(h:Heads tbl l (cutF lv l gs) hs):hs.length<=gs.length:=by
 rw[h.length];exact cut_len
theorem Tow.len0:∀ {l:Nat} {R hs:List Dt},Tow lv tbl l R hs->hs.length<=R.length
 | 0,_,_,h=>by rw[show _=_ from h];exact Nat.le_refl _
 | l+1,_,_,⟨gs,a,b⟩=>Nat.le_trans (a.len b) a.len0
end
section
variable(lt:V->V->Prop)
def PutR(k:V)(row:Dt)(R R':List Dt):Prop:=∃ A C,R'=A++row::C/\(R=A++C\/∃ o,R=A++o::C/\keyD o=k)/\(∀ a∈A,lt (keyD a) k)/\∀ c∈C,lt k (keyD c)
def DelR(k:V)(R R':List Dt):Prop:=∃ A o C,R=A++o::C/\R'=A++C/\keyD o=k
def UpR(R:List Dt):Prop:=R.Pairwise fun a b=>lt (keyD a) (keyD b)
variable{lt}
theorem PutR.mid{k:V}{row:Dt}{A M M' B:List Dt}(h:PutR lt k row M M')(hA:∀ a∈A,lt (keyD a) k)(hB:∀ b∈B,lt k (keyD b)):PutR lt k row (A++(M++B)) (A++(M'++B)):=by
 obtain⟨X,Y,e,e2,h1,h2⟩:=h
 refine⟨A++X,Y++B,by rw[e];simp,?_,fun a ha=>?_,fun c hc=>?_⟩
 ·rcases e2 with e2 | ⟨o,e2,ho⟩
  ·left;rw[e2];simp
  ·right;exact⟨o,by rw[e2];simp,ho⟩
 ·exact(List.mem_append.mp ha).elim (hA a) (h1 a)
 ·exact(List.mem_append.mp hc).elim (h2 c) (hB c)
theorem DelR.mid{k:V}{A M M' B:List Dt}(h:DelR k M M'):DelR k (A++(M++B)) (A++(M'++B)):=by
 obtain⟨X,o,Y,e,e2,h1⟩:=h
 exact⟨A++X,o,Y++B,by rw[e];simp,by rw[e2];simp,h1⟩
theorem UpR.left{A B:List Dt}(h:UpR lt (A++B)):UpR lt A:=(List.pairwise_append.mp h).1
theorem UpR.right{A B:List Dt}(h:UpR lt (A++B)):UpR lt B:=(List.pairwise_append.mp h).2.1
theorem UpR.across{A B:List Dt}(h:UpR lt (A++B)){a b:Dt}(ha:a∈A)(hb:b∈B):lt (keyD a) (keyD b):=(List.pairwise_append.mp h).2.2 a ha b hb
theorem fstK_mem{R:List Dt}(h:R≠[]):∃ x∈R,keyD x=fstK R:=by
 cases R with
 | nil=>exact absurd rfl h
 | cons x r=>exact⟨x,by simp,rfl⟩
theorem UpR.ahead{A M:List Dt}{k:V}(h:UpR lt (A++M))(hM:M≠[])(tr:∀ {a b c},lt a b->lt b c->lt a c)(le:lt (fstK M) k\/fstK M=k):∀ a∈A,lt (keyD a) k:=fun a ha=>by
 obtain⟨x,hx,e⟩:=fstK_mem hM
 have:=h.across ha hx
 rw[e]at this
 rcases le with le | le
 ·exact tr this le
 ·rw[<- le];exact this
theorem UpR.behind{M B:List Dt}{k:V}(h:UpR lt (M++B))(tr:∀ {a b c},lt a b->lt b c->lt a c)(le:B=[]\/lt k (fstK B)):∀ b∈B,lt k (keyD b):=fun b hb=>by
 rcases le with le | le
 ·subst le;cases hb
 ·have u:=h.right
  cases B with
  | nil=>cases hb
  | cons x r =>
   rcases List.mem_cons.mp hb with e | e
   ·rw[e];exact le
   ·exact tr le ((List.pairwise_cons.mp u).1 b e)
theorem PutR.fst{k:V}{row:Dt}{R R':List Dt}(h:PutR lt k row R R')(irr:∀ a,¬ lt a a)(tr:∀ {a b c},lt a b->lt b c->lt a c)(hk:keyD row=k)(hR:R≠[])(le:lt (fstK R) k\/fstK R=k):fstK R'=fstK R:=by
 obtain⟨A,C,e,e2,h1,h2⟩:=h
 cases A with
 | cons x r =>
  rw[e]
  rcases e2 with e2 | ⟨o,e2,ho⟩
  ·rw[e2];rfl
  ·rw[e2];rfl
 | nil =>
  rw[e]
  show keyD row=_
  rw[hk]
  rcases e2 with e2 | ⟨o,e2,ho⟩
  ·exfalso
   rw[List.nil_append]at e2
   subst e2
   obtain⟨x,hx,ex⟩:=fstK_mem hR
   have:=h2 x hx
   rw[ex]at this
   rcases le with le | le
   ·exact irr _ (tr this le)
   ·rw[le]at this;exact irr _ this
  ·rw[e2];exact ho.symm
theorem DelR.fst{k:V}{R R':List Dt}(h:DelR k R R')(hf:fstK R≠k):fstK R'=fstK R/\R'≠[]:=by
 obtain⟨A,o,C,e,e2,h1⟩:=h
 cases A with
 | cons x r=>rw[e,e2];exact⟨rfl,by simp⟩
 | nil=>exact absurd (by rw[e];exact h1) hf
theorem PutR.up{k:V}{row:Dt}{R R':List Dt}(h:PutR lt k row R R')(u:UpR lt R)(hk:keyD row=k)(tr:∀ {a b c},lt a b->lt b c->lt a c):UpR lt R':=by
 obtain⟨A,C,e,e2,h1,h2⟩:=h
 have uAC:UpR lt A/\UpR lt C:=by
  rcases e2 with e2 | ⟨o,e2,ho⟩
  ·rw[e2]at u;exact⟨u.left,u.right⟩
  ·rw[e2]at u;exact⟨u.left,(List.pairwise_cons.mp u.right).2⟩
 rw[e]
 refine List.pairwise_append.mpr ⟨uAC.1,List.pairwise_cons.mpr ⟨fun c hc=>by rw[hk];exact h2 c hc,uAC.2⟩,fun a ha b hb=>?_⟩
 rcases List.mem_cons.mp hb with z | z
 ·rw[z,hk];exact h1 a ha
 ·exact tr (h1 a ha) (h2 b z)
theorem DelR.up{k:V}{R R':List Dt}(h:DelR k R R')(u:UpR lt R):UpR lt R':=by
 obtain⟨A,o,C,e,e2,h1⟩:=h
 rw[e]at u;rw[e2]
 exact u.sublist (List.Sublist.append_left (List.sublist_cons_self _ _) _)
theorem PutR.mem{k:V}{row:Dt}{R R':List Dt}(h:PutR lt k row R R')(irr:∀ a,¬ lt a a)(x:Dt):x∈R'↔x=row\/(x∈R/\keyD x≠k):=by
 obtain⟨A,C,e,e2,h1,h2⟩:=h
 have ne:∀ y,y∈A\/y∈C->keyD y≠k:=fun y hy z=>by
  rcases hy with hy | hy
  ·have:=h1 y hy;rw[z]at this;exact irr _ this
  ·have:=h2 y hy;rw[z]at this;exact irr _ this
 rw[e]
 constructor
 ·intro h
  rcases List.mem_append.mp h with h | h
  ·refine .inr ⟨?_,ne x (.inl h)⟩
   rcases e2 with e2 | ⟨o,e2,_⟩ <;> rw[e2] <;> simp[h]
  ·rcases List.mem_cons.mp h with h | h
   ·exact .inl h
   ·refine .inr ⟨?_,ne x (.inr h)⟩
    rcases e2 with e2 | ⟨o,e2,_⟩ <;> rw[e2] <;> simp[h]
 ·rintro(h | ⟨h,hk⟩)
  ·simp[h]
  ·rcases e2 with e2 | ⟨o,e2,ho⟩
   ·rw[e2]at h
    rcases List.mem_append.mp h with h | h <;> simp[h]
   ·rw[e2]at h
    rcases List.mem_append.mp h with h | h
    ·simp[h]
    ·rcases List.mem_cons.mp h with h | h
     ·rw[h]at hk;exact absurd ho hk
     ·simp[h]
theorem DelR.mem{k:V}{R R':List Dt}(h:DelR k R R')(u:UpR lt R)(irr:∀ a,¬ lt a a)(x:Dt):x∈R'↔x∈R/\keyD x≠k:=by
 obtain⟨A,o,C,e,e2,h1⟩:=h
 rw[e]at u ⊢;rw[e2]
 have hA:∀ a∈A,keyD a≠k:=fun a ha z=>by
  have:=u.across ha (List.mem_cons_self (a:=o) (l:=C));rw[z,h1]at this;exact irr _ this
 have hC:∀ c∈C,keyD c≠k:=fun c hc z=>by
  have:=(List.pairwise_cons.mp u.right).1 c hc;rw[z,h1]at this;exact irr _ this
 constructor
 ·intro h
  rcases List.mem_append.mp h with h | h
  ·exact⟨by simp[h],hA x h⟩
  ·exact⟨by simp[h],hC x h⟩
 ·rintro⟨h,hk⟩
  rcases List.mem_append.mp h with h | h
  ·simp[h]
  ·rcases List.mem_cons.mp h with h | h
   ·rw[h]at hk;exact absurd h1 hk
   ·simp[h]
theorem UpR.ext(irr:∀ a,¬ lt a a)(tr:∀ {a b c},lt a b->lt b c->lt a c):∀ {R S:List Dt},UpR lt R->UpR lt S->(∀ x,x∈R↔x∈S)->R=S
 | [],[],_,_,_=>rfl
 | [],y::s,_,_,h=>by have:=(h y).mpr (by simp);cases this
 | x::r,[],_,_,h=>by have:=(h x).mp (by simp);cases this
 | x::r,y::s,hR,hS,h=>by
  have uR:=List.pairwise_cons.mp hR
  have uS:=List.pairwise_cons.mp hS
  have exy:x=y:=by
   rcases List.mem_cons.mp ((h x).mp (by simp)) with e | e
   ·exact e
   rcases List.mem_cons.mp ((h y).mpr (by simp)) with e' | e'
   ·exact e'.symm
   exact absurd (tr (uR.1 y e') (uS.1 x e)) (irr _)
  subst exy
  congr 1
  refine UpR.ext irr tr uR.2 uS.2 fun z=>?_
  constructor
  ·intro hz
   rcases List.mem_cons.mp ((h z).mp (List.mem_cons_of_mem _ hz)) with e | e
   ·subst e;exact absurd (uR.1 _ hz) (irr _)
   ·exact e
  ·intro hz
   rcases List.mem_cons.mp ((h z).mpr (List.mem_cons_of_mem _ hz)) with e | e
   ·subst e;exact absurd (uS.1 _ hz) (irr _)
   ·exact e
end
section
variable{lv:V->Nat}{tbl:List (Int×Dt)}
structure Root(lv:V->Nat)(tbl:List (Int×Dt))(R:List Dt)(top:Nat)(n:Int):Prop where
 one:∃ k,Tow lv tbl (top+1) R [hdOf k n]
 two:∀ j hs,1<=j->j<=top->Tow lv tbl j R hs->1 < hs.length
theorem Chain.toRoot{rows:List Dt}{top:Nat}{L:Nat->List Dt}{k:V}{n:Int}(f:Fn tbl)(c:Chain lv tbl rows top L)(e:L (top+1)=[hdOf k n]):Root lv tbl rows top n :=
 ⟨⟨k,by have:=c.tow (top+1) (Nat.le_refl _);rw[e]at this;exact this⟩,fun j hs h1 h2 t=>by rw[t.det f (c.tow j (by omega))];exact c.two j h1 h2⟩
theorem Tow.levels:∀ {l:Nat} {R hs:List Dt},Tow lv tbl l R hs->∃ L:Nat->List Dt,L 0=R/\L l=hs/\∀ j,j < l->Heads tbl j (cutF lv j (L j)) (L (j+1))
 | 0,R,hs,h=>⟨fun _=>R,rfl,(show hs=R from h).symm,fun j hj=>by omega⟩
 | l+1,R,hs,⟨gs,a,b⟩=>by
  obtain⟨L,h0,h1,h2⟩:=a.levels
  refine⟨fun j=>if j=l+1 then hs else L j,(if_neg (by omega)).trans h0,if_pos rfl,fun j hj=>?_⟩
  show Heads tbl j (cutF lv j (if j=l+1 then hs else L j)) (if j+1=l+1 then hs else L (j+1))
  rw[if_neg (by omega)]
  by_cases e:j=l
  ·subst e;rw[if_pos rfl,h1];exact b
  ·rw[if_neg (by omega)];exact h2 j (by omega)
theorem levels_tow{l:Nat}{R:List Dt}{L:Nat->List Dt}(h0:L 0=R)(h:∀ j,j < l->Heads tbl j (cutF lv j (L j)) (L (j+1))):∀ j,j<=l->Tow lv tbl j R (L j):=by
 intro j
 induction j with
 | zero=>intro _;exact h0
 | succ j ih=>intro hj;exact⟨L j,ih (by omega),h j (by omega)⟩
theorem Root.chain{R:List Dt}{top:Nat}{n:Int}(r:Root lv tbl R top n):∃ L k,Chain lv tbl R top L/\L (top+1)=[hdOf k n]:=by
 obtain⟨k,t⟩:=r.one
 obtain⟨L,h0,h1,h2⟩:=t.levels
 exact⟨L,k,⟨h0,fun j hj=>h2 j (by omega),by rw[h1];rfl,fun j hj1 hj2=>r.two j _ hj1 hj2 (levels_tow h0 h2 j (by omega))⟩,h1⟩
theorem Root.page{R:List Dt}{top:Nat}{n:Int}(r:Root lv tbl R top n):∃ part,(n,tdOf (top:Int) part)∈tbl/\Tow lv tbl top R part/\cutF lv top part=[part]/\R≠[]:=by
 obtain⟨k,t⟩:=r.one
 obtain⟨n',part,e,hm,tp,hc⟩:=t.one
 obtain⟨_,rfl⟩:=hdOf_inj e
 exact⟨part,hm,tp,hc,t.ne' (by simp)⟩
end
section
variable{lv:V->Nat}{tbl:List (Int×Dt)}
theorem cut_keys{l:Int}{e:Dt}:∀ (r:List Dt),(cutF lv l (e::r)).map fstK=keyD e::(r.map keyD).filter fun k=>decide (l < lv k):=by
 refine snoc_rec rfl fun r x ih=>?_
 rw[show e::(r++[x])=(e::r)++[x] from rfl,cutF_snoc]
 have c:=cutF_ok (lv:=lv) l (e::r)
 have hne:=cutF_ne (lv:=lv) (l:=l) (es:=e::r) (by simp)
 generalize cutF lv l (e::r)=P at ih c hne
 obtain⟨ini,last,rfl⟩:=snoc_of hne
 unfold step
 by_cases h:l < lv (keyD x)
 ·rw[if_pos (.inr h),List.map_append,ih,List.map_append,List.filter_append]
  simp[h,fstK]
 ·rw[if_neg (fun z=>z.elim (fun z=>by simp at z) h),List.dropLast_concat,List.getLast?_concat,Option.getD_some]
  rw[List.map_append]at ih ⊢
  have fu:=c.full last (by simp)
  have e1:fstK (last++[x])=fstK last:=by cases last with | nil=>exact absurd rfl fu | cons y s=>rfl
  rw[List.map_cons,e1,List.map_nil]
  rw[List.map_cons,List.map_nil]at ih
  rw[ih,List.map_append,List.filter_append]
  simp[h]
theorem Tow.keys:∀ {l:Nat} {e:Dt} {r hs:List Dt},Tow lv tbl (l+1) (e::r) hs->hs.map keyD=keyD e::(r.map keyD).filter fun k=>decide (l < lv k)
 | 0,e,r,hs,⟨gs,a,b⟩=>by
  rw[show gs=_ from a]at b
  rw[b.keys,cut_keys]
  congr 1
  exact List.filter_congr fun k _=>by simp
 | l+1,e,r,hs,⟨gs,a,b⟩=>by
  have ih:=Tow.keys a
  rw[b.keys]
  cases gs with
  | nil=>cases ih
  | cons g gr =>
   rw[List.map_cons]at ih
   injection ih with i1 i2
   rw[cut_keys,i1,i2,List.filter_filter]
   congr 1
   refine List.filter_congr fun k _=>?_
   rw[<- Bool.decide_and]
   exact decide_eq_decide.mpr (by omega)
theorem Tow.many{l:Nat}{R hs:List Dt}(h:Tow lv tbl (l+1) R hs)(hR:R≠[]):hs.length=1+(((R.map keyD).tail).filter fun k=>decide (l < lv k)).length:=by
 cases R with
 | nil=>exact absurd rfl hR
 | cons e r =>
  have:=congrArg List.length h.keys
  rw[List.length_map,List.length_cons]at this
  rw[this,Nat.add_comm];rfl
theorem Tow.more{l:Nat}{R R' hs hs':List Dt}{tbl':List (Int×Dt)}(h:Tow lv tbl (l+1) R hs)(h':Tow lv tbl' (l+1) R' hs')(hR:R≠[])(s:(R.map keyD).Sublist (R'.map keyD)):hs.length<=hs'.length:=by
 have hR':R'≠[]:=fun z=>by
  rw[z]at s
  have:=List.sublist_nil.mp s
  exact hR (List.map_eq_nil_iff.mp this)
 rw[h.many hR,h'.many hR']
 have:=((s.tail).filter fun k=>decide (l < lv k)).length_le
 omega
variable{lt:V->V->Prop}
theorem PutR.sub{k:V}{row:Dt}{R R':List Dt}(h:PutR lt k row R R')(hk:keyD row=k):(R.map keyD).Sublist (R'.map keyD):=by
 obtain⟨A,C,e,e2,h1,h2⟩:=h
 rw[e]
 rcases e2 with e2 | ⟨o,e2,ho⟩
 ·rw[e2,List.map_append,List.map_append]
  exact List.Sublist.append_left (by rw[List.map_cons];exact List.sublist_cons_self _ _) _
 ·rw[e2,List.map_append,List.map_append,List.map_cons,List.map_cons,ho,hk]
  exact List.Sublist.refl _
theorem DelR.sub{k:V}{R R':List Dt}(h:DelR k R R'):(R'.map keyD).Sublist (R.map keyD):=by
 obtain⟨A,o,C,e,e2,h1⟩:=h
 rw[e,e2,List.map_append,List.map_append,List.map_cons]
 exact List.Sublist.append_left (List.sublist_cons_self _ _) _
theorem Tow.single{l:Nat}{R R' hs hs':List Dt}{tbl':List (Int×Dt)}(h:Tow lv tbl (l+1) R hs)(h':Tow lv tbl' (l+1) R' hs')(h1:hs.length=1)(hR':R'≠[])(s:(R'.map keyD).Sublist (R.map keyD)):∃ k n,hs'=[hdOf k n]:=by
 have:=h'.more h hR' s
 have hn:=h'.ne hR'
 cases hs' with
 | nil=>exact absurd rfl hn
 | cons x r =>
  cases r with
  | nil =>
   obtain⟨n,part,e,_⟩:=h'.one
   exact⟨_,n,by rw[e]⟩
  | cons y s=>simp at this;omega
theorem Tow.down{i j:Nat}{R hs gs:List Dt}(f:Fn tbl)(hj:Tow lv tbl j R hs)(hi:Tow lv tbl i R gs)(h:i<=j):hs.length<=gs.length:=by
 obtain⟨L,h0,h1,h2⟩:=hj.levels
 have key:∀ d,d<=j - i->(L (i+d)).length<=(L i).length:=by
  intro d
  induction d with
  | zero=>intro _;exact Nat.le_refl _
  | succ d ih =>
   intro hd
   have u:=h2 (i+d) (by omega)
   have:=ih (by omega)
   have c:=cut_len (lv:=lv) (es:=L (i+d)) (l:=((i+d:Nat):Int))
   rw[<- u.length]at c
   rw[<- Nat.add_assoc];omega
 have e:=(levels_tow h0 h2 i h).det f hi
 have k:=key (j - i) (Nat.le_refl _)
 rw[show i+(j - i)=j by omega,h1,e]at k
 exact k
theorem Root.of_two{R part:List Dt}{j:Nat}{k:V}{n:Int}(f:Fn tbl)(t:Tow lv tbl (j+1) R [hdOf k n])(tp:Tow lv tbl j R part)(h:j=0\/1 < part.length):Root lv tbl R j n :=
 ⟨⟨k,t⟩,fun i hs h1 h2 ti=>by
  rcases h with h | h
  ·omega
  ·have:=tp.down f ti h2;omega⟩
end
section
variable(lt:V->V->Prop)(tbl:List (Int×Dt))(k:V)
inductive Way:Int->List Int->Prop
 | leaf {n:Int} {part:List Dt} (h:(n,tdOf 0 part)∈tbl):Way n [n]
 | stop {n:Int} {l:Nat} {part:List Dt} (h:(n,tdOf ((l+1:Nat):Int) part)∈tbl) (a:∀ x∈part,lt k (keyD x)):Way n [n]
 | go {n n':Int} {l:Nat} {a b:List Dt} {k':V} {w:List Int} (h:(n,tdOf ((l+1:Nat):Int) (a++hdOf k' n'::b))∈tbl) (h1:¬ lt k k') (h2:∀ x∈b,lt k (keyD x)) (r:Way n' w):Way n (n::w)
end
section
variable{lt:V->V->Prop}{tbl tbl':List (Int×Dt)}{k:V}
end
section
variable{lv:V->Nat}{tbl:List (Int×Dt)}
end
end Tr
end
section
namespace L2
open PySem PySem.Spec PyProof.Rows
def rEqR(K:PySem.W.Frag):R2:=fun x y H Q=>∃ a b,∃ as:List Addr,x=.ref a/\y=.ref b/\SqL K H a (as.map V.ref)/\SqL K H b (as.map V.ref)/\Q (.bl true) H
section
variable{X:Cx}
theorem op_eqR(hu:X.A.units < cLine):OpR X (compareOp .Eq) (rEqR X.K):=by
 intro pins s σ H x y v u Q I rx ry h
 obtain⟨a,b,as,rfl,rfl,ha,hb,q⟩:=h
 cases rx
 cases ry
 obtain⟨its,r1,p1,_⟩:=I.list ha
 obtain⟨its2,r2,p2,_⟩:=I.list hb
 have l1:=r1.length
 have l2:=r2.length
 have e:its=its2:=by
  refine List.ext_getElem (by omega) fun i h1 h2=>?_
  have hi:i < as.length:=by rw[List.length_map]at l1;omega
  have hx:(as.map V.ref)[i]?=some (.ref as[i]):=by rw[List.getElem?_map,List.getElem?_eq_getElem hi];rfl
  obtain⟨u1,e1,q1⟩:=r1.get hx
  obtain⟨u2,e2,q2⟩:=r2.get hx
  rw[List.getElem?_eq_getElem h1]at e1
  rw[List.getElem?_eq_getElem h2]at e2
  cases e1;cases e2
  exact(show its[i]=Value.ref as[i] from q1).trans (show its2[i]=Value.ref as[i] from q2).symm
 subst e
 refine SeqAt.eq_listAt (e:=fun _=>true) p1.isList p2.isList rfl hu (fun j h1 h2=>SeqAt.EqAt.same _) ⟨.bl _,H,I,rfl,?_⟩
 have:(List.range its.toArray.size).all (fun _=>true)=true:=by simp
 rw[this]
 exact q
end
end L2
end
section
namespace L2
open PySem PySem.Spec PyProof.Rows PySem.W
section
variable{prog:Program}{w:World}{A:Around}{E:Value->Shared->Prop}{s:Shared}{κ:SortKind}{ks vs:List Value}{r:Nat->Nat}
theorem small_run(hl:ks.length=vs.length)(h2:2<=vs.length)(h64:vs.length < 64)(hc:∀ i j (C:Bool->Shared->Prop),i < vs.length->j < vs.length->C (decide (r i < r j)) s->kas_ask prog w A κ ks i j C s) :
 wpAny (model prog w) A (sortRuns'.run (SortSt.mk' κ (ks.toArray.zip vs.toArray) #[] 7 none)) (fun x s'=>∃ p:Array Nat,arrOf x.2=p.map (kas_item (ks.toArray.zip vs.toArray))/\failedOf x.2=none/\s'=s/\SortT.Ok vs.length p/\SortT.Up r p vs.length) E s:=by
 refine kat_run (Q:=fun st' s'=>∃ p:Array Nat,arrOf st'=p.map (kas_item (ks.toArray.zip vs.toArray))/\failedOf st'=none/\s'=s/\SortT.Ok vs.length p/\SortT.Up r p vs.length)
  (G:=fun p s'=>s'=s/\SortT.Ok vs.length p/\SortT.Up r p vs.length) hl h2 h64 (fun p st' s' a1 a2 a3 a4=>⟨p,a2,a3,a4⟩) ?_
 refine SortT.spec_wp (n:=vs.length) (r:=r) (I:=fun s'=>s'=s) (fun i j C s' hi hj es hC=>?_) _ s rfl (SortT.spec_mono (fun p hp s' es=>⟨es,hp⟩) _ (SortT.sort_ok (by omega)))
 subst es
 exact hc i j C hi hj (hC s' rfl)
end
section
variable{X:Cx}{pins:List (Addr×Obj)}{σ:St}{H:Hp}{s:Shared}{A:Around}{E:Value->Shared->Prop}
theorem sorted1S_run{l:Addr}{xs:List V}{lt:V->V->Bool}{Q:VK}(I:Inv X pins σ H s)(hl:SqL X.K H l xs)(h64:xs.length < 64)(hK:OneK xs lt)
 (h:∀ D H' ys,Same H H'->H D=none->H' D=some (.lst ys)->ys.Perm xs->ys.Pairwise (fun a b=>lt b a=false)->Q (.ref D) H') :
 wpAny (model X.prog X.w) X.A (call (.builtin "sorted") [.ref l]) (EP X pins σ Q) X.xe s:=by
 obtain⟨vs,rv,pl,hz⟩:=I.list hl
 have hlv:=rv.length
 have hvz:vs.length<=sizeLine:=by rw[<- hlv];exact hz
 refine Calls.call_function_entry kind_sorted plain_sorted entry_sorted (args_sorted1 _) ?_
 unfold Builtin.«sorted»
 refine wpAny_bind (m:=checkCount "sorted" 1 1 _) (wpAny_pure ?_)
 refine wpAny_bind (collect_list pl.isList ?_ hvz)
 refine wpAny_bind (wpAny_newList ?_ hvz)
 obtain⟨hsz,kept1⟩:=copied s.heap vs
 have hoL:=Heap.get?_push_size ((s.heap.push (seqObj "list" #[] 0)).update s.heap.objs.size (Obj.mapSeq (·++vs.toArray))) (o:=seqObj "list" vs.toArray 0) rfl
 rw[hsz]at hoL
 have keep:=fun b o q=>Heap.get?_push_of_some (seqObj "list" vs.toArray 0) (kept1 b o q)
 have I1:Inv X pins σ H { s with heap:=((s.heap.push (seqObj "list" #[] 0)).update s.heap.objs.size (Obj.mapSeq (·++vs.toArray))).push (seqObj "list" vs.toArray 0) }:=I.kept (t':=s.toks) keep
 have fD:FpOk X pins H (s.heap.objs.size+1):=I.fpOk (Nat.le_succ _) (I.hok.fresh (Nat.le_succ _))
 show wpAny _ _ _ _ _ { s with heap:=((s.heap.push (seqObj "list" #[] 0)).update s.heap.objs.size (Obj.mapSeq (·++vs.toArray))).push (seqObj "list" vs.toArray 0) }
 rw[hsz]
 generalize ((s.heap.push (seqObj "list" #[] 0)).update s.heap.objs.size (Obj.mapSeq (·++vs.toArray))).push (seqObj "list" vs.toArray 0)=h1 at hoL I1
 generalize s.heap.objs.size+1=D at hoL fD
 refine wpAny_bind (wpAny_holding (wpAny_call_entry slot_list_sort ⟨_,hoL,rfl⟩ entry_list_sort ?body (args_list_sort _)))
 case body =>
  rw[list_sort_plain]
  have s1:=Heap.SameBut.update h1 D (Obj.mapSeq fun _=>(#[]:Array Value))
  obtain⟨e1,ho1⟩:∃ e1,(h1.update D (Obj.mapSeq fun _=>(#[]:Array Value))).get? D=some (seqObj "list" #[] e1):=⟨_,get?_update_seq hoL fun _=>#[]⟩
  have I2:Inv X pins σ H { s with heap:=h1.update D (Obj.mapSeq fun _=>(#[]:Array Value)) }:=I1.turned (t':=s.toks) (fun b o hb q=>(s1.2 b hb).trans q) fD.1 fD.2.1 fD.2.2.2.1 fD.2.2.2.2.1 fD.2.2.2.2.2
  have I3:Inv X (pins++[(D,seqObj "list" #[] e1)]) σ H { s with heap:=h1.update D (Obj.mapSeq fun _=>(#[]:Array Value)) }:=I2.pins_of fun p hp=>(List.mem_append.mp hp).elim (fun z=>I2.pin p (List.mem_append_right _ z)) fun z=>by
   have z:p=(D,seqObj "list" #[] e1):=by simpa using z
   subst z
   exact⟨ho1,fD.1,fD.2.1,fD.2.2.1,fun v q=>by cases q⟩
  have I5:Inv X (pins++[(D,seqObj "list" #[] e1)]) σ H { s with heap:=((h1.update D (Obj.mapSeq fun _=>(#[]:Array Value))).push (seqObj "tuple" vs.toArray 0)).push (seqObj "list" #[] 0) }:=I3.kept (t':=s.toks) fun b u q=>Heap.get?_push_of_some _ (Heap.get?_push_of_some _ q)
  refine wpAny_bind (listItems_at hoL rfl ?_)
  refine wpAny_bind (listUpdate_at hoL rfl ?_ (by rw[List.size_toArray];exact hvz) (Nat.zero_le _))
  refine wpAny_bind (seqEpoch_at ho1 rfl ?_)
  refine wpAny_bind (wpAny_newTuple ?_ (by show vs.length<=_;exact hvz))
  refine wpAny_bind (wpAny_newList ?_ (Nat.zero_le _))
  refine wpAny_holding ?_
  show wpAny (model X.prog X.w) _ _ _ _ { s with heap:=((h1.update D (Obj.mapSeq fun _=>(#[]:Array Value))).push (seqObj "tuple" vs.toArray 0)).push (seqObj "list" #[] 0) }
  generalize ((h1.update D (Obj.mapSeq fun _=>(#[]:Array Value))).push (seqObj "tuple" vs.toArray 0)).push (seqObj "list" #[] 0)=h2 at I5
  dsimp only
  have tail:∀ {st:SortSt} {out:List Value} {ys:List V},(arrOf st).map (·.2)=List.toArray out->failedOf st=none->Vals ys out->ys.length < 1000->ys.Perm xs->ys.Pairwise (fun a b=>lt b a=false) ->
   wpAny (model X.prog X.w) X.A.in1.in1 (do
    let ep <- seqEpoch D
    Builtin.List.listUpdate (Value.ref D) fun x=>Array.map (fun x=>x.snd) (arrOf st)
    match failedOf st with
    | some e=>do
     rule "list.sort.comparison-raised"
     throw e
     if (ep != e1)=true then do
         rule "list.sort.modified"
         raiseErrorWords "ValueError" "list modified during sort"
         ret Value.none
      else ret Value.none
    | x =>
     if (ep != e1)=true then do
      rule "list.sort.modified"
      raiseErrorWords "ValueError" "list modified during sort"
      ret Value.none
     else ret Value.none)
    (fun fin s'=>∃ v,fin=Fin.done (Flow.ret v)/\wpAny (model X.prog X.w) X.A.in1 (ret (Value.ref D)) (fun fin s'=>∃ v,fin=Fin.done (Flow.ret v)/\EP X pins σ Q v s') X.xe s')
    X.xe { s with heap:=h2 }:=by
   intro st out ys hout hf ro hlo p1 p2
   have hD:=(I5.pin (D,seqObj "list" #[] e1) (List.mem_append_right _ (List.mem_append_right _ (by simp)))).1
   have s2:=Heap.SameBut.update h2 D (Obj.mapSeq fun _=>List.toArray out)
   obtain⟨c2,hc2⟩:∃ c2,(h2.update D (Obj.mapSeq fun _=>List.toArray out)).get? D=some (seqObj "list" (List.toArray out) c2):=⟨_,get?_update_seq hD fun _=>List.toArray out⟩
   have ho:out.length < 1000:=by rw[<- ro.length];exact hlo
   rw[hout]
   refine wpAny_bind (seqEpoch_at hD rfl ?_)
   refine wpAny_bind (listUpdate_at hD rfl ?_ (Nat.zero_le _) (by rw[List.size_toArray];exact Nat.le_succ_of_le (Nat.le_of_lt (small1000 (by omega)))))
   rw[hf]
   simp only[bne_self_eq_false,Bool.false_eq_true,if_false]
   have I6:Inv X pins σ (upd H D (.lst ys)) { s with heap:=h2.update D (Obj.mapSeq fun _=>List.toArray out) }:=(I5.unpinned).adopt (t':=s.toks) fD (fun b u hb q=>(s2.2 b hb).trans q) ⟨Nat.le_of_lt (small1000 (by omega)),out,c2,ro,hc2⟩
   exact wpAny_pure ⟨_,rfl,wpAny_pure ⟨_,rfl,.ref D,_,I6,rfl,h D _ ys ((Same.refl _).updL fD.1 _) fD.1 upd_same p1 p2⟩⟩
  by_cases h2':vs.toArray.size < 2
  ·rw[if_pos h2',if_pos h2']
   refine wpAny_bind (wpAny_pure ?_)
   rw[StateT.run_pure]
   refine wpAny_bind (wpAny_pure ?_)
   refine tail (st:=SortSt.mk' general' (vs.toArray.zip vs.toArray) #[] 7 none) (out:=vs) ?_ rfl rv (by omega) (List.Perm.refl _) (pw_small (by rw[List.size_toArray]at h2';omega))
   apply Array.toList_inj.mp
   show(Array.map (·.2) (vs.toArray.zip vs.toArray)).toList=_
   rw[Array.toList_map,ksk_zip]
   show List.map (·.2) (vs.zip vs)=vs
   exact List.map_snd_zip (by omega)
  ·rw[if_neg h2',if_neg h2']
   rw[List.size_toArray]at h2'
   obtain⟨T,hT1,hT⟩:=hK.ty
   have mem:∀ v∈vs,∃ x∈xs,RelV x v:=fun v hv=>by
    obtain⟨i,hi,rfl⟩:=List.mem_iff_getElem.mp hv
    obtain⟨u,eu,ru⟩:=rv.get (i:=i) (x:=xs[i]'(by omega)) (List.getElem?_eq_getElem _)
    rw[List.getElem?_eq_getElem hi]at eu
    cases eu
    exact⟨_,List.getElem_mem _,ru⟩
   refine wpAny_bind (kas_kind (T:=.type T) (by omega) (fun v hv=>?_) hT1 (by simp) ?_)
   ·obtain⟨x,hx,rx⟩:=mem v hv
    exact Looks.of_pure (hT x hx v rx)
   have hn:0 < xs.length:=by omega
   have at_:∀ i,i < xs.length->RelV (xs.getD i .non) (vs.getD i Value.none)/\xs.getD i .non∈xs:=fun i hi=>by
    obtain⟨u,eu,ru⟩:=rv.get (i:=i) (x:=xs[i]) (List.getElem?_eq_getElem _)
    have e1:xs.getD i .non=xs[i]:=by simp[hi]
    have e2:vs.getD i Value.none=u:=by simp[List.getD,eu]
    rw[e1,e2]
    exact⟨ru,List.getElem_mem _⟩
   have run:=small_run (prog:=X.prog) (w:=X.w) (A:=X.A.in1.in1) (E:=X.xe) (κ:=oneType') (ks:=vs) (vs:=vs) (s:={ s with heap:=h2 }) (r:=fun i=>xs.countP (lt · (xs.getD i .non))) rfl (by omega) (by omega)
    (fun i j C hi hj hC=>by
     rw[<- hlv]at hi hj
     rw[hK.swo.rank (at_ i hi).2 (at_ j hj).2]at hC
     unfold kas_ask
     exact hK.ask _ (at_ i hi).2 _ (at_ j hj).2 _ _ (at_ i hi).1 (at_ j hj).1 _ _ _ _ _ _ hC)
   rw[<- hlv]at run
   refine wpAny_bind (wpAny_mono run ?_ fun _ _ x=>x)
   rintro⟨⟨⟩,st'⟩ s' ⟨p,har,hf,es,ok,up⟩
   subst es
   have hout:=kat_snds (ks:=vs) (vs:=vs) rfl har
   exact tail hout hf (rv.pick p.toList) (by rw[List.length_map,Array.length_toList,ok.size];omega) (picks_perm ok) (picks_up hK.swo ok hn up)
end
def rSort1S(K:PySem.W.Frag):List V->Hp->VK->Prop:=fun vs H Q=>∃ a xs lt,vs=[.ref a]/\SqL K H a xs/\xs.length < 64/\OneK xs lt /\
 ∀ D H' ys,Same H H'->H D=none->H' D=some (.lst ys)->ys.Perm xs->ys.Pairwise (fun a b=>lt b a=false)->Q (.ref D) H'
theorem call_sorted1S{X:Cx}:CallR X (.builtin "sorted") (rSort1S X.K):=by
 intro pins s σ H xs us Q I r h
 obtain⟨a,ys,lt,rfl,hl,h64,hK,q⟩:=h
 obtain⟨u,rfl,ru⟩:=vals1 r
 obtain rfl:u=Value.ref a:=ru
 exact sorted1S_run I hl h64 hK q
end L2
end
section
namespace L2
open PySem PySem.Spec PyProof.Rows PySem.W
def rDictD:List V->Hp->VK->Prop:=fun xs H Q=>∃ d kvs,xs=[.ref d]/\H d=some (.dK kvs)/\kvs.length<=1000/\∀ D,H D=none->Q (.ref D) (upd H D (.dK kvs))
theorem call_dictD{X:Cx}:CallR X (.type "dict") rDictD:=by
 intro pins s σ H xs us Q I r h
 obtain⟨p,kvs,rfl,hp,lz,q⟩:=h
 obtain⟨u,rfl,ru⟩:=vals1 r
 obtain rfl:u=Value.ref p:=ru
 obtain⟨hz,hn,kks,kv,hD⟩:=(show ObjOk X.prog X.w H s.heap p (.dK kvs) from I.hok p _ hp)
 have l3:=kv.length
 refine kt_call_dict hn hD (by rw[<- l3];exact hz) fun h' hm hs=>?_
 have kp:∀ b o,s.heap.get? b=some o->h'.get? b=some o:=fun b o e=>(hs.2 b (Nat.ne_of_lt (Heap.lt_size e))).trans (Heap.get?_push_of_some _ e)
 exact⟨.ref s.heap.objs.size,_,I.laid (a:=s.heap.objs.size) (o:=.dK kvs) (t':=s.toks) kp (Nat.le_refl _) ⟨hz,beq_eq_false_iff_ne.mpr (Ne.symm (Nat.ne_of_lt I.big)),_,kv,hm⟩,rfl,q _ (I.hok.fresh (Nat.le_refl _))⟩
theorem TD.det{H:Hp}:∀ (n:Nat) {m:Nat} {d e:Dt} {y:V},TD H n d y->TD H m e y->d=e:=by
 have fl:∀ {x:V},hV x=true->∀ a,x≠.ref a:=fun {x} h a z=>by rw[z]at h;cases h
 intro n
 induction n with
 | zero =>
  intro m d e y h1 h2
  cases d with
  | v x =>
   obtain⟨f1,rfl⟩:=h1.flat
   cases e with
   | v x'=>obtain⟨_,e2⟩:=h2.flat;rw[e2]
   | t ds=>obtain⟨_,a,_,_,e2,_⟩:=h2.tup;exact absurd e2 (fl f1 a)
   | l ds=>cases m <;> exact h2.elim
  | t ds=>obtain⟨_,_,_,em,_⟩:=h1.tup;cases em
  | l ds=>exact h1.elim
 | succ n ih =>
  intro m d e y h1 h2
  cases d with
  | v x =>
   obtain⟨f1,rfl⟩:=h1.flat
   cases e with
   | v x'=>obtain⟨_,e2⟩:=h2.flat;rw[e2]
   | t ds=>obtain⟨_,a,_,_,e2,_⟩:=h2.tup;exact absurd e2 (fl f1 a)
   | l ds=>cases m <;> exact h2.elim
  | t ds =>
   obtain⟨n',a,xs,en,rfl,ha,p1⟩:=h1.tup
   obtain rfl:n'=n:=by omega
   cases e with
   | v x'=>obtain⟨f2,e2⟩:=h2.flat;exact absurd e2.symm (fl f2 a)
   | t es =>
    obtain⟨m',a',xs',em,e2,ha',p2⟩:=h2.tup
    cases e2
    rw[ha]at ha'
    cases ha'
    congr 1
    clear ha h1 h2
    induction p1 generalizing es with
    | nil=>cases p2;rfl
    | cons r t ih2 =>
     cases p2 with
     | cons r' t'=>rw[ih r r',ih2 _ t']
   | l ds=>cases m <;> exact h2.elim
  | l ds=>exact h1.elim
end L2
end
section
namespace My
open PySem L2 Pl Th Tr
variable{P:Program}{w:World}{K:PySem.W.Frag}{mg:Str->Option Value}{base:Heap}
theorem cxOf_K{CX:CXT}{P:Program}{w:World}{K:PySem.W.Frag}{mg:Str->Option Value}{base:Heap}{N:List Str}{qual:Str}{scope:Scope}{f:Addr}{cd:Value}{A:Around}{outer:List Env}{s:Shared}{H:Hp}{E:XK}:(cxOf CX P w K mg base N qual scope f cd A outer s H E).K=K:=rfl
theorem cxOf_P{CX:CXT}{P:Program}{w:World}{K:PySem.W.Frag}{mg:Str->Option Value}{base:Heap}{N:List Str}{qual:Str}{scope:Scope}{f:Addr}{cd:Value}{A:Around}{outer:List Env}{s:Shared}{H:Hp}{E:XK}:(cxOf CX P w K mg base N qual scope f cd A outer s H E).prog=P:=rfl
theorem cxOf_w{CX:CXT}{P:Program}{w:World}{K:PySem.W.Frag}{mg:Str->Option Value}{base:Heap}{N:List Str}{qual:Str}{scope:Scope}{f:Addr}{cd:Value}{A:Around}{outer:List Env}{s:Shared}{H:Hp}{E:XK}:(cxOf CX P w K mg base N qual scope f cd A outer s H E).w=w:=rfl
theorem blk_K{X:Cx}{sc:Scope}{x:Str}{M:List Str}{cl:List (Str×Addr)}{C:Addr}{s:Shared}{H:Hp}{fp:List Addr}:(blk X sc x M cl C s H fp).K=X.K:=rfl
local macro_rules | `(tactic| walk_at "rd") => `(tactic| simp (maxSteps := 1000000) only [cxOf_K, blk_K, tFor_rng1, tFor_rng2, tFor_list, tFor_tup, tFor_str, tLc_rng1, tLc_list, tLc_tup, tLc_str, tSeq, tNext, tSetLc, rIxL, rIxT, rIxS, rLtV, rIn, rEqL, rJoin, rCat, rSlL, rSlS, Int.reduceLT, Int.reduceLE, Int.reduceToNat, tIfS, tTest, tB, tNot, tAnd, tOr, tAndV, tOrV, tNotV, tOp, tUn, tVar, tC, tRet, tRetN, tAsg, gName, tDrop, tCB, tCall, tCons, tNil, tTup, tLst, rI, rI0, rU, rEq, rNe, scal, tBM, tBM0, rAppend, tChain, tSl, tPart, tNoPart, tFmtI, tFmtS, tJoinF, tParts, empty_add, tSortK, tSortKB, tDGet1, tDPop1, rExtendE, tFor_rngD, tLenSet, tSetK, tFor_seq, tDNewK, sDPut, tDGet, tDIn, tDNotIn, tThaw, tLc_dict, tFor_dict, sThaw, Ends.thawed, cxOf_P, cxOf_w, tCall1, tMethE, tNIn, tNGet, sNPut, tNPop, tNNew, tIf, tFor_zip, gTup, gCons, gNil, rAll, tDNew, tLc_rng2, rEqN, tYes,  List.getElem?_cons_zero, List.getElem?_cons_succ, List.set_cons_zero, List.set_cons_succ, Option.some.injEq, V.int.injEq, V.bl.injEq, V.str.injEq, V.ref.injEq, exists_eq_left, exists_eq_left', exists_eq_right, exists_and_left, List.cons.injEq, and_true, true_and, List.append_nil, decide_eq_true_eq, Bool.not_eq_true', decide_eq_false_iff_not, Bool.not_true, Bool.not_false, if_true, if_false, Bool.true_eq_false, Bool.false_eq_true, reduceCtorEq, exists_const, exists_false, false_and, and_false, not_true_eq_false, not_false_eq_true, ite_true, ite_false])
local macro_rules | `(tactic| walk_at "side") => `(tactic| first | omega | decide | (unfold CDiv; omega) | (refine CMul.ok ?_; unfold CMul; omega) | (unfold CMul; omega) | (unfold CPow; omega) | (unfold CDiv; decide) | (unfold CPow; decide))
local macro_rules | `(tactic| walk_at "go") => `(tactic| (repeat refine And.intro (by walk_at "side") ?_))
def top(i:Nat):Stmt:=PySem.Challenge.pw_twigtable_k37_changes_in_a_row.main.body.getD i (.Pass ⟨0,0,0,0⟩)
def topM(i j:Nat):Stmt:=match top i with | .ClassDef _ _ _ body _ _ _ _ _ _ _=>body.getD j (.Pass ⟨0,0,0,0⟩) | s=>s
abbrev s_NotRising_init:Stmt:=topM 3 0
theorem sc_NotRising_init:FnScope ["self","key"] ["self","key"] (defScope s_NotRising_init):=⟨rfl,rfl,rfl,by decide +kernel,rfl,by decide +kernel,by decide +kernel⟩
abbrev s_NoRow_init:Stmt:=topM 4 0
theorem sc_NoRow_init:FnScope ["self","key"] ["self","key"] (defScope s_NoRow_init):=⟨rfl,rfl,rfl,by decide +kernel,rfl,by decide +kernel,by decide +kernel⟩
abbrev s_Unfit_init:Stmt:=topM 5 0
theorem sc_Unfit_init:FnScope ["self","key"] ["self","key"] (defScope s_Unfit_init):=⟨rfl,rfl,rfl,by decide +kernel,rfl,by decide +kernel,by decide +kernel⟩
abbrev s_NoPage_init:Stmt:=topM 6 0
theorem sc_NoPage_init:FnScope ["self","number"] ["self","number"] (defScope s_NoPage_init):=⟨rfl,rfl,rfl,by decide +kernel,rfl,by decide +kernel,by decide +kernel⟩
abbrev s_rank_of:Stmt:=top 8
theorem sc_rank_of:FnScope ["value"] ["value"] (defScope s_rank_of):=⟨rfl,rfl,rfl,by decide +kernel,rfl,by decide +kernel,by decide +kernel⟩
abbrev s_cells_at:Stmt:=top 14
theorem sc_cells_at:FnScope ["rows","at","key"] ["rows","at","key"] (defScope s_cells_at):=⟨rfl,rfl,rfl,by decide +kernel,rfl,by decide +kernel,by decide +kernel⟩
abbrev s_mixed_first:Stmt:=top 18
theorem sc_mixed_first:FnScope ["key","mix","sign"] ["key"] (defScope s_mixed_first):=⟨rfl,rfl,rfl,by decide +kernel,rfl,by decide +kernel,by decide +kernel⟩
abbrev s_Page_init:Stmt:=topM 22 0
theorem sc_Page_init:FnScope ["self","level","entries"] ["self","level","entries"] (defScope s_Page_init):=⟨rfl,rfl,rfl,by decide +kernel,rfl,by decide +kernel,by decide +kernel⟩
abbrev s_Page_told:Stmt:=topM 22 1
theorem sc_Page_told:FnScope ["self"] ["self"] (defScope s_Page_told):=⟨rfl,rfl,rfl,by decide +kernel,rfl,by decide +kernel,by decide +kernel⟩
abbrev s_Page_first:Stmt:=topM 22 2
theorem sc_Page_first:FnScope ["self"] ["self"] (defScope s_Page_first):=⟨rfl,rfl,rfl,by decide +kernel,rfl,by decide +kernel,by decide +kernel⟩
abbrev s_Page_under:Stmt:=topM 22 4
theorem sc_Page_under:FnScope ["self"] ["self"] (defScope s_Page_under):=⟨rfl,rfl,rfl,by decide +kernel,rfl,by decide +kernel,by decide +kernel⟩
abbrev s_Leaf_spread:Stmt:=topM 23 1
theorem sc_Leaf_spread:FnScope ["self","pages"] ["self","pages"] (defScope s_Leaf_spread):=⟨rfl,rfl,rfl,by decide +kernel,rfl,by decide +kernel,by decide +kernel⟩
abbrev s_Twig_under:Stmt:=topM 24 1
theorem sc_Twig_under:FnScope ["self"] ["self"] (defScope s_Twig_under):=⟨rfl,rfl,rfl,by decide +kernel,rfl,by decide +kernel,by decide +kernel⟩
abbrev s_Pages_init:Stmt:=topM 26 0
theorem sc_Pages_init:FnScope ["self"] ["self"] (defScope s_Pages_init):=⟨rfl,rfl,rfl,by decide +kernel,rfl,by decide +kernel,by decide +kernel⟩
abbrev s_rows_with:Stmt:=top 36
theorem sc_rows_with:FnScope ["rows","at","row"] ["rows","at","row"] (defScope s_rows_with):=⟨rfl,rfl,rfl,by decide +kernel,rfl,by decide +kernel,by decide +kernel⟩
abbrev s_Change_init:Stmt:=topM 42 0
theorem sc_Change_init:FnScope ["self","key","old","new"] ["self","key","old","new"] (defScope s_Change_init):=⟨rfl,rfl,rfl,by decide +kernel,rfl,by decide +kernel,by decide +kernel⟩
abbrev s_Turned_init:Stmt:=topM 42 0
theorem sc_Turned_init:FnScope ["self","key","old","new"] ["self","key","old","new"] (defScope s_Turned_init):=⟨rfl,rfl,rfl,by decide +kernel,rfl,by decide +kernel,by decide +kernel⟩
abbrev s__law_cell:Stmt:=top 49
theorem sc__law_cell:FnScope ["_law_script","_law_k"] ["_law_script","_law_k"] (defScope s__law_cell):=⟨rfl,rfl,rfl,by decide +kernel,rfl,by decide +kernel,by decide +kernel⟩
abbrev s__law_key:Stmt:=top 50
theorem sc__law_key:FnScope ["_law_cell_here","_law_base"] ["_law_cell_here"] (defScope s__law_key):=⟨rfl,rfl,rfl,by decide +kernel,rfl,by decide +kernel,by decide +kernel⟩
abbrev s__law_cells:Stmt:=top 51
theorem sc__law_cells:FnScope ["_law_cell_here"] ["_law_cell_here"] (defScope s__law_cells):=⟨rfl,rfl,rfl,by decide +kernel,rfl,by decide +kernel,by decide +kernel⟩
abbrev s__law_risen:Stmt:=top 52
theorem sc__law_risen:FnScope ["_law_known","_law_numbers","_law_texts"] ["_law_known"] (defScope s__law_risen):=⟨rfl,rfl,rfl,by decide +kernel,rfl,by decide +kernel,by decide +kernel⟩
abbrev s_before:Stmt:=top 9
theorem sc_before:FnScope ["one","other"] ["one","other"] (defScope s_before):=⟨rfl,rfl,rfl,by decide +kernel,rfl,by decide +kernel,by decide +kernel⟩
abbrev s_mixed:Stmt:=top 19
theorem sc_mixed:FnScope ["key","mix"] ["key"] (defScope s_mixed):=⟨rfl,rfl,rfl,by decide +kernel,rfl,by decide +kernel,by decide +kernel⟩
abbrev s_Leaf_init:Stmt:=topM 23 0
theorem sc_Leaf_init:FnScope ["self","rows"] ["self","rows"] (defScope s_Leaf_init):=⟨rfl,rfl,rfl,by decide +kernel,rfl,by decide +kernel,by decide +kernel⟩
abbrev s_Twig_init:Stmt:=topM 24 0
theorem sc_Twig_init:FnScope ["self","level","heads"] ["self","level","heads"] (defScope s_Twig_init):=⟨rfl,rfl,rfl,by decide +kernel,rfl,by decide +kernel,by decide +kernel⟩
abbrev s_Pages_kept:Stmt:=topM 26 1
theorem sc_Pages_kept:FnScope ["self","page","told","number"] ["self","page"] (defScope s_Pages_kept):=⟨rfl,rfl,rfl,by decide +kernel,rfl,by decide +kernel,by decide +kernel⟩
abbrev s_PutIn_init:Stmt:=topM 43 0
theorem sc_PutIn_init:FnScope ["self","key","new"] ["self","key","new"] (defScope s_PutIn_init):=⟨rfl,rfl,rfl,by decide +kernel,rfl,by decide +kernel,by decide +kernel⟩
abbrev s_TakenOut_init:Stmt:=topM 44 0
theorem sc_TakenOut_init:FnScope ["self","key","old"] ["self","key","old"] (defScope s_TakenOut_init):=⟨rfl,rfl,rfl,by decide +kernel,rfl,by decide +kernel,by decide +kernel⟩
abbrev s_place_of:Stmt:=top 10
theorem sc_place_of:FnScope ["keys","key","low","high","middle"] ["keys","key"] (defScope s_place_of):=⟨rfl,rfl,rfl,by decide +kernel,rfl,by decide +kernel,by decide +kernel⟩
abbrev s_level_of:Stmt:=top 20
theorem sc_level_of:FnScope ["key","rest","level"] ["key"] (defScope s_level_of):=⟨rfl,rfl,rfl,by decide +kernel,rfl,by decide +kernel,by decide +kernel⟩
abbrev s_Pages_told_at:Stmt:=topM 26 2
theorem sc_Pages_told_at:FnScope ["self","number"] ["self","number"] (defScope s_Pages_told_at):=⟨rfl,rfl,rfl,by decide +kernel,rfl,by decide +kernel,by decide +kernel⟩
abbrev s_last_up_to:Stmt:=top 12
theorem sc_last_up_to:FnScope ["entries","key","place"] ["entries","key"] (defScope s_last_up_to):=⟨rfl,rfl,rfl,by decide +kernel,rfl,by decide +kernel,by decide +kernel⟩
abbrev s_page_of:Stmt:=top 25
theorem sc_page_of:FnScope ["level","entries"] ["level","entries"] (defScope s_page_of):=⟨rfl,rfl,rfl,by decide +kernel,rfl,by decide +kernel,by decide +kernel⟩
abbrev s_Pages_card:Stmt:=topM 26 4
theorem sc_Pages_card:FnScope ["self","number","told"] ["self","number"] (defScope s_Pages_card):=⟨rfl,rfl,rfl,by decide +kernel,rfl,by decide +kernel,by decide +kernel⟩
abbrev s_cut:Stmt:=top 28
theorem sc_cut:FnScope ["entries","level","parts","entry"] ["entries","level"] (defScope s_cut):=⟨rfl,rfl,rfl,by decide +kernel,rfl,by decide +kernel,by decide +kernel⟩
abbrev s__law_change:Stmt:=top 53
theorem sc__law_change:FnScope ["_law_known","_law_key_here","_law_cell_here","_law_fits","_law_kind","_law_old","_law_new"] ["_law_known","_law_key_here","_law_cell_here"] (defScope s__law_change):=⟨rfl,rfl,rfl,by decide +kernel,rfl,by decide +kernel,by decide +kernel⟩
abbrev s_Pages_page:Stmt:=topM 26 3
theorem sc_Pages_page:FnScope ["self","number","told"] ["self","number"] (defScope s_Pages_page):=⟨rfl,rfl,rfl,by decide +kernel,rfl,by decide +kernel,by decide +kernel⟩
abbrev s_heads_of:Stmt:=top 29
theorem sc_heads_of:FnScope ["pages","level","entries","heads","part","page"] ["pages","level","entries"] (defScope s_heads_of):=⟨rfl,rfl,rfl,by decide +kernel,rfl,by decide +kernel,by decide +kernel⟩
abbrev s__law_drawn:Stmt:=top 54
theorem sc__law_drawn:FnScope ["_law_script","_law_base","_law_known","_law_changes","_law_wrong","_law_many","_law_left","_law_cell_here","_law_change_here","_law_key_here","_law_old","_law_new"] ["_law_script","_law_base","_law_known"] (defScope s__law_drawn):=⟨rfl,rfl,rfl,by decide +kernel,rfl,by decide +kernel,by decide +kernel⟩
abbrev s_seek:Stmt:=top 13
theorem sc_seek:FnScope ["pages","root","key","path","number","page","at"] ["pages","root","key"] (defScope s_seek):=⟨rfl,rfl,rfl,by decide +kernel,rfl,by decide +kernel,by decide +kernel⟩
abbrev s_crowned:Stmt:=top 30
theorem sc_crowned:FnScope ["pages","level","heads","top","above"] ["pages","level","heads"] (defScope s_crowned):=⟨rfl,rfl,rfl,by decide +kernel,rfl,by decide +kernel,by decide +kernel⟩
abbrev s_lowered:Stmt:=top 40
theorem sc_lowered:FnScope ["pages","heads","number","under"] ["pages","heads"] (defScope s_lowered):=⟨rfl,rfl,rfl,by decide +kernel,rfl,by decide +kernel,by decide +kernel⟩
abbrev s_built:Stmt:=top 31
theorem sc_built:FnScope ["pages","rows","at"] ["pages","rows"] (defScope s_built):=⟨rfl,rfl,rfl,by decide +kernel,rfl,by decide +kernel,by decide +kernel⟩
abbrev s_Page_spread:Stmt:=topM 22 5
theorem sc_Page_spread:FnScope ["self","pages","rows","number"] ["self","pages"] (defScope s_Page_spread):=⟨rfl,rfl,rfl,by decide +kernel,rfl,by decide +kernel,by decide +kernel⟩
abbrev s_rows_of:Stmt:=top 32
theorem sc_rows_of:FnScope ["pages","root"] ["pages","root"] (defScope s_rows_of):=⟨rfl,rfl,rfl,by decide +kernel,rfl,by decide +kernel,by decide +kernel⟩
abbrev s_heads_with:Stmt:=top 35
theorem sc_heads_with:FnScope ["pages","number","row","page","at","way","heads","inner"] ["pages","number","row"] (defScope s_heads_with):=⟨rfl,rfl,rfl,by decide +kernel,rfl,by decide +kernel,by decide +kernel⟩
abbrev s_joined:Stmt:=top 39
theorem sc_joined:FnScope ["pages","left","right","one","entries","others","inner"] ["pages","left","right"] (defScope s_joined):=⟨rfl,rfl,rfl,by decide +kernel,rfl,by decide +kernel,by decide +kernel⟩
abbrev s_put:Stmt:=top 34
theorem sc_put:FnScope ["pages","root","key","cells","row","level"] ["pages","root","key","cells"] (defScope s_put):=⟨rfl,rfl,rfl,by decide +kernel,rfl,by decide +kernel,by decide +kernel⟩
abbrev s_heads_without:Stmt:=top 38
theorem sc_heads_without:FnScope ["pages","number","key","page","at","entries","inner"] ["pages","number","key"] (defScope s_heads_without):=⟨rfl,rfl,rfl,by decide +kernel,rfl,by decide +kernel,by decide +kernel⟩
abbrev s_take:Stmt:=top 37
theorem sc_take:FnScope ["pages","root","key"] ["pages","root","key"] (defScope s_take):=⟨rfl,rfl,rfl,by decide +kernel,rfl,by decide +kernel,by decide +kernel⟩
abbrev s_Change_onto:Stmt:=topM 42 4
theorem sc_Change_onto:FnScope ["self","pages","root"] ["self","pages","root"] (defScope s_Change_onto):=⟨rfl,rfl,rfl,by decide +kernel,rfl,by decide +kernel,by decide +kernel⟩
abbrev s_moved:Stmt:=top 47
theorem sc_moved:FnScope ["pages","root","changes","change"] ["pages","root","changes"] (defScope s_moved):=⟨rfl,rfl,rfl,by decide +kernel,rfl,by decide +kernel,by decide +kernel⟩
abbrev s__law_refused:Stmt:=top 55
theorem sc__law_refused:FnScope ["_law_pages","_law_root","_law_changes","_law_wrong","_law_told","e"] ["_law_pages","_law_root","_law_changes","_law_wrong"] (defScope s__law_refused):=⟨rfl,rfl,rfl,by decide +kernel,rfl,by decide +kernel,by decide +kernel⟩
abbrev s_law:Stmt:=top 56
theorem sc_law:FnScope ["_law_script","_law_pages","_law_base","_law_known","_law_k","_law_rows","_law_root","_law_changes","_law_wrong","_law_many","_law_left","_law_handed","_law_due"] ["_law_script"] (defScope s_law):=⟨rfl,rfl,rfl,by decide +kernel,rfl,by decide +kernel,by decide +kernel⟩
structure Zs(mg:Str->Option Value):Prop where
 ValueError:mg "ValueError"=none
 dict:mg "dict"=none
 int:mg "int"=none
 isinstance:mg "isinstance"=none
 len:mg "len"=none
 list:mg "list"=none
 max:mg "max"=none
 ord:mg "ord"=none
 range:mg "range"=none
 sorted:mg "sorted"=none
 str:mg "str"=none
 tuple:mg "tuple"=none
 MODULUS:∃ t,mg "MODULUS"=some (.int (2147483647) t)
 TOP_LEVEL:∃ t,mg "TOP_LEVEL"=some (.int (6) t)
def isaM(i j:Nat):Bool:=([(0,0),(1,0),(1,1),(2,0),(2,2),(3,3),(4,4),(5,4),(5,5),(6,4),(6,6),(7,4),(7,7)]:List (Nat×Nat)).contains (i,j)
structure Tx(K:PySem.W.Frag)(mg:Str->Option Value)(CT:Addr)(cs:Nat->Addr)(ob:Nat->Addr):Prop where
 mg_Page:mg "Page"=some (.ref (ob 0))
 mg_Leaf:mg "Leaf"=some (.ref (ob 1))
 mg_Twig:mg "Twig"=some (.ref (ob 2))
 mg_Pages:mg "Pages"=some (.ref (ob 3))
 mg_Change:mg "Change"=some (.ref (ob 4))
 mg_PutIn:mg "PutIn"=some (.ref (ob 5))
 mg_TakenOut:mg "TakenOut"=some (.ref (ob 6))
 mg_Turned:mg "Turned"=some (.ref (ob 7))
 ob_:∀ i,i < 8->ObC K (ob i) ["level","rows","heads","entries","told_by_number","number_by_told","count","key","old","new"]
 isa:∀ i j,i < 8->j < 8->PySem.W.kitOne K (.ref (ob i)) (.ref (ob j))=some (isaM i j)
 top:XTop K mg "TableError" CT
 mg_NoPage:mg "NoPage"=some (.ref (cs 0))
 mg_NotRising:mg "NotRising"=some (.ref (cs 1))
 mg_NoRow:mg "NoRow"=some (.ref (cs 2))
 mg_Unfit:mg "Unfit"=some (.ref (cs 3))
 cl:∀ i,i < 4->PySem.W.XCl K (cs i) CT
 no:∀ i,i < 4->∀ f∈(["number","key"]:List Str),NoAttr K (cs i) f
 tab:∀ i j,i < 4->j < 4->PySem.W.kitOne K (.ref (cs i)) (.ref (cs j))=some (decide (i=j))
 tv:∀ i,i < 4->PySem.W.kitOne K (.ref (cs i)) (.type "ValueError")=some true
seal PE PT PW PA PS PSs PI PG PIfs PGs PO in
theorem ok_NoPage_init{CT:Addr}{cs:Nat->Addr}{ob:Nat->Addr}{f:Addr}{fd:FuncData}(Z:Zs mg)(T:Tx K mg CT cs ob)(F:Fun K "__init__" "NoPage.__init__" s_NoPage_init f fd):FnOk P w K mg base CX0 1 f fd ["self","number"] (sp_X (cs 0) ["number"]):=by
 refine F.ok sc_NoPage_init (fun vs H Q E h=>?_) (fun cdv A outer s H vs Q E hr h=>?_)
 ·obtain⟨e,ws,rfl,hl,_⟩:=h;obtain⟨_,rfl⟩:=List.length_eq_one_iff.mp hl;rfl
 obtain⟨e,ws,rfl,hl,he,q⟩:=h
 obtain⟨w0,rfl⟩:=List.length_eq_one_iff.mp hl
 refine⟨_,(@pss_cons _ _ _ _ _ (ps_expr (pe_binit T.top rfl (pa_c (pv 0) (pa_c (pv 1) pa_nil))))
  (pss_one (ps_xf0 CT rfl (pv 0) (pv 1) rfl))),?_⟩
 refine rd_start (σ:=[some (.ref e),some w0]) rfl ?_
 walk_at "rd"
 simp only[tBI,sXF0,sXF1]
 walk_at "rd"
 exact⟨e,cs 0,[w0],⟨rfl,rfl⟩,by show 1<=1000;decide,he,T.cl 0 (by decide),cs 0,he,T.cl 0 (by decide),(T.no 0 (by decide) _ (by decide)),fun d hd hne=>q d hd hne⟩
seal PE PT PW PA PS PSs PI PG PIfs PGs PO in
theorem ok_NotRising_init{CT:Addr}{cs:Nat->Addr}{ob:Nat->Addr}{f:Addr}{fd:FuncData}(Z:Zs mg)(T:Tx K mg CT cs ob)(F:Fun K "__init__" "NotRising.__init__" s_NotRising_init f fd):FnOk P w K mg base CX0 1 f fd ["self","key"] (sp_X (cs 1) ["key"]):=by
 refine F.ok sc_NotRising_init (fun vs H Q E h=>?_) (fun cdv A outer s H vs Q E hr h=>?_)
 ·obtain⟨e,ws,rfl,hl,_⟩:=h;obtain⟨_,rfl⟩:=List.length_eq_one_iff.mp hl;rfl
 obtain⟨e,ws,rfl,hl,he,q⟩:=h
 obtain⟨w0,rfl⟩:=List.length_eq_one_iff.mp hl
 refine⟨_,(@pss_cons _ _ _ _ _ (ps_expr (pe_binit T.top rfl (pa_c (pv 0) (pa_c (pv 1) pa_nil))))
  (pss_one (ps_xf0 CT rfl (pv 0) (pv 1) rfl))),?_⟩
 refine rd_start (σ:=[some (.ref e),some w0]) rfl ?_
 walk_at "rd"
 simp only[tBI,sXF0,sXF1]
 walk_at "rd"
 exact⟨e,cs 1,[w0],⟨rfl,rfl⟩,by show 1<=1000;decide,he,T.cl 1 (by decide),cs 1,he,T.cl 1 (by decide),(T.no 1 (by decide) _ (by decide)),fun d hd hne=>q d hd hne⟩
seal PE PT PW PA PS PSs PI PG PIfs PGs PO in
theorem ok_NoRow_init{CT:Addr}{cs:Nat->Addr}{ob:Nat->Addr}{f:Addr}{fd:FuncData}(Z:Zs mg)(T:Tx K mg CT cs ob)(F:Fun K "__init__" "NoRow.__init__" s_NoRow_init f fd):FnOk P w K mg base CX0 1 f fd ["self","key"] (sp_X (cs 2) ["key"]):=by
 refine F.ok sc_NoRow_init (fun vs H Q E h=>?_) (fun cdv A outer s H vs Q E hr h=>?_)
 ·obtain⟨e,ws,rfl,hl,_⟩:=h;obtain⟨_,rfl⟩:=List.length_eq_one_iff.mp hl;rfl
 obtain⟨e,ws,rfl,hl,he,q⟩:=h
 obtain⟨w0,rfl⟩:=List.length_eq_one_iff.mp hl
 refine⟨_,(@pss_cons _ _ _ _ _ (ps_expr (pe_binit T.top rfl (pa_c (pv 0) (pa_c (pv 1) pa_nil))))
  (pss_one (ps_xf0 CT rfl (pv 0) (pv 1) rfl))),?_⟩
 refine rd_start (σ:=[some (.ref e),some w0]) rfl ?_
 walk_at "rd"
 simp only[tBI,sXF0,sXF1]
 walk_at "rd"
 exact⟨e,cs 2,[w0],⟨rfl,rfl⟩,by show 1<=1000;decide,he,T.cl 2 (by decide),cs 2,he,T.cl 2 (by decide),(T.no 2 (by decide) _ (by decide)),fun d hd hne=>q d hd hne⟩
seal PE PT PW PA PS PSs PI PG PIfs PGs PO in
theorem ok_Unfit_init{CT:Addr}{cs:Nat->Addr}{ob:Nat->Addr}{f:Addr}{fd:FuncData}(Z:Zs mg)(T:Tx K mg CT cs ob)(F:Fun K "__init__" "Unfit.__init__" s_Unfit_init f fd):FnOk P w K mg base CX0 1 f fd ["self","key"] (sp_X (cs 3) ["key"]):=by
 refine F.ok sc_Unfit_init (fun vs H Q E h=>?_) (fun cdv A outer s H vs Q E hr h=>?_)
 ·obtain⟨e,ws,rfl,hl,_⟩:=h;obtain⟨_,rfl⟩:=List.length_eq_one_iff.mp hl;rfl
 obtain⟨e,ws,rfl,hl,he,q⟩:=h
 obtain⟨w0,rfl⟩:=List.length_eq_one_iff.mp hl
 refine⟨_,(@pss_cons _ _ _ _ _ (ps_expr (pe_binit T.top rfl (pa_c (pv 0) (pa_c (pv 1) pa_nil))))
  (pss_one (ps_xf0 CT rfl (pv 0) (pv 1) rfl))),?_⟩
 refine rd_start (σ:=[some (.ref e),some w0]) rfl ?_
 walk_at "rd"
 simp only[tBI,sXF0,sXF1]
 walk_at "rd"
 exact⟨e,cs 3,[w0],⟨rfl,rfl⟩,by show 1<=1000;decide,he,T.cl 3 (by decide),cs 3,he,T.cl 3 (by decide),(T.no 3 (by decide) _ (by decide)),fun d hd hne=>q d hd hne⟩
section
variable{K:PySem.W.Frag}
end
theorem one_sz(v:V):[v].length<=sizeLine:=show 1<=sizeLine by decide
theorem small_le{n:Nat}(h:n<=1000):n<=sizeLine:=Nat.le_of_lt (small1000 h)
theorem at0(x:V)(r:List V):atI (x::r) 0=some x:=atI_nat (j:=0) rfl
theorem at1(x y:V)(r:List V):atI (x::y::r) 1=some y:=atI_nat (j:=1) rfl
namespace M11
def p:Int:=2147483647
theorem fold_range(cs:List Int):∀ (a:Int),0<=a->a < 2147483647->0<=cs.foldl (fun m c=>(m * 131+c) % 2147483647) a/\cs.foldl (fun m c=>(m * 131+c) % 2147483647) a < 2147483647:=by
 induction cs with
 | nil=>intro a h1 h2;exact⟨h1,h2⟩
 | cons c cs ih =>
  intro a h1 h2
  simp only[List.foldl_cons]
  apply ih <;> omega
def lev:Nat->Int->Nat
 | 0,_=>0
 | n+1,m=>if m % 4=0 then lev n (m / 4)+1 else 0
theorem lev_step(n:Nat)(m:Int):lev (n+1) m=if m % 4=0 then lev n (m / 4)+1 else 0:=rfl
theorem lev_le:∀ (n:Nat) (m:Int),lev n m<=n
 | 0,_=>Nat.le_refl _
 | n+1,m=>by
  unfold lev
  split
  ·have:=lev_le n (m / 4);omega
  ·omega
theorem lev_turn{n:Nat}{m:Int}{r:Int}{l:Nat}(h:l+lev (n - l) r=lev n m)(hl:l < n)(e:r % 4=0):(l+1)+lev (n - (l+1)) (r / 4)=lev n m:=by
 have e1:n - l=(n - (l+1))+1:=by omega
 rw[e1,lev_step,if_pos e]at h
 omega
theorem lev_end{n:Nat}{m:Int}{r:Int}{l:Nat}(h:l+lev (n - l) r=lev n m)(hl:¬ (l < n/\r % 4=0))(hn:l<=n):l=lev n m:=by
 by_cases h1:l < n
 ·have h2:r % 4≠0:=fun e=>hl ⟨h1,e⟩
  have e1:n - l=(n - (l+1))+1:=by omega
  rw[e1,lev_step,if_neg h2]at h
  omega
 ·have e:n - l=0:=by omega
  rw[e]at h
  simp only[lev]at h
  omega
end M11
def keyV:V->Prop
 | .int n => -(10 ^ 30) < n/\n < 10 ^ 30
 | .str z=>z.length<=40
 | _=>False
def ordsOf(z:Str):List Int:=z.cps.toList.map fun(c:Nat)=>(c:Int)
def mixV:V->Int
 | .int n=>(n * 48271+11) % 2147483647
 | .str z=>(ordsOf z).foldl (fun m c=>(m * 131+c) % 2147483647) 7
 | _=>0
def mixedV(v:V):Int:=Builtin.bitXor (mixV v) (mixV v / 32768)
def levV(v:V):Nat:=M11.lev 6 (mixedV v)
theorem take_fold{α β:Type}{l:List α}{i:Nat}{c:α}{f:β->α->β}{a:β}(h:l[i]?=some c):(l.take (i+1)).foldl f a=f ((l.take i).foldl f a) c:=by
 rw[List.take_add_one,h]
 simp
theorem ords_at{z:Str}{i c:Nat}(h:z.cps.toList[i]?=some c):(ordsOf z)[i]?=some (c:Int):=by
 unfold ordsOf
 rw[List.getElem?_map,h]
 rfl
theorem ords_len(z:Str):(ordsOf z).length=z.length:=by
 unfold ordsOf
 rw[List.length_map]
 simp[Str.length]
def sp_mixed_first(_:PySem.W.Frag):Sp:=fun vs H Q _=>∃ v,vs=[v]/\keyV v/\Q (.int (mixV v)) H
def sp_mixed(_:PySem.W.Frag):Sp:=fun vs H Q _=>∃ v,vs=[v]/\keyV v/\Q (.int (mixedV v)) H
def sp_level_of(_:PySem.W.Frag):Sp:=fun vs H Q _=>∃ v,vs=[v]/\keyV v/\Q (.int (levV v)) H
theorem kit_int_str{K:PySem.W.Frag}:PySem.W.kitOne K (.type "int") (.type "str")=some false:=by rfl
theorem kit_str_str{K:PySem.W.Frag}:PySem.W.kitOne K (.type "str") (.type "str")=some true:=by rfl
seal PE PT PW PA PS PSs PI PG PIfs PGs PO in
theorem ok_mixed_first{CT:Addr}{cs:Nat->Addr}{ob:Nat->Addr}{f:Addr}{fd:FuncData}(Z:Zs mg)(T:Tx K mg CT cs ob)(F:Fun K "mixed_first" "mixed_first" s_mixed_first f fd):FnOk P w K mg base CX0 1 f fd ["key"] (sp_mixed_first K):=by
 refine F.ok sc_mixed_first (fun vs H Q E h=>?_) (fun cdv A outer s H vs Q E hr h=>?_)
 ·obtain⟨v,rfl,_⟩:=h;rfl
 obtain⟨v,rfl,hv,q⟩:=h
 refine⟨_,(@pss_cons _ _ _ _ _ (ps_if (pt_not (pt_val (pe_callB call_isinst rfl (Z.isinstance) bo_isinstance (pa_c (pv 0) (pa_c (pe_bltn rfl (Z.str) bo_str (v:=.ty "str") rfl) pa_nil))) (fun _=>rfl))) (pss_one (ps_ret (pe_op op_mod (pe_op op_add (pe_op op_mulB (pv 0) pe_int) pe_int) (pe_gint (Z.MODULUS) rfl)))) pss_nil)
  (@pss_cons _ _ _ _ _ (ps_set (i:=1) sc_mixed_first.nd rfl (Or.inl rfl) pe_int)
  (@pss_cons _ _ _ _ _ (ps_for PassesOwn.never rfl (pi_str (pv 0)) (pg_name (i:=2) sc_mixed_first.nd rfl (Or.inl rfl)) (pss_one (ps_set (i:=1) sc_mixed_first.nd rfl (Or.inl rfl) (pe_op op_mod (pe_op op_add (pe_op op_mulB (pv 1) pe_int) (pe_callB call_ord rfl (Z.ord) bo_ord (pa_c (pv 2) pa_nil))) (pe_gint (Z.MODULUS) rfl)))))
  (pss_one (ps_ret (pv 1)))))),?_⟩
 refine rd_start (σ:=[some v,none,none]) rfl ?_
 walk_at "rd"
 cases v with
 | int n =>
  refine isI_of (.int n) kit_int_str ⟨_,rfl,?_⟩
  walk_at "rd"
  walk_at "go"
  exact q
 | str z =>
  refine isI_of (.str z) kit_str_str ⟨_,rfl,?_⟩
  walk_at "rd"
  refine foR_str (z:=z) (fun i σ' H'=>H'=H/\∃ x,σ'=[some (.str z),some (.int (((ordsOf z).take i).foldl (fun m c=>(m * 131+c) % 2147483647) 7)),x]) ⟨rfl,_,rfl⟩ ?_ ?_
  ·rintro i c σ' H' hc ⟨rfl,x,rfl⟩
   walk_at "rd"
   have hr:=M11.fold_range ((ordsOf z).take i) 7 (by decide) (by decide)
   refine⟨by refine CMul.ok ?_;unfold CMul;omega,rfl,?_,_,rfl⟩
   rw[take_fold (ords_at hc)]
   rfl
  ·rintro σ' H' ⟨rfl,x,rfl⟩
   walk_at "rd"
   rw[List.take_of_length_le (by rw[ords_len];exact Nat.le_refl _)]
   exact q
 | _=>exact hv.elim
seal PE PT PW PA PS PSs PI PG PIfs PGs PO in
theorem ok_mixed{CT:Addr}{cs:Nat->Addr}{ob:Nat->Addr}{f:Addr}{fd:FuncData}(Z:Zs mg)(T:Tx K mg CT cs ob)(G_mixed_first:Cal P w K mg base 1 "mixed_first" ["key"] (sp_mixed_first K))(F:Fun K "mixed" "mixed" s_mixed f fd):FnOk P w K mg base CX0 2 f fd ["key"] (sp_mixed K):=by
 refine F.ok sc_mixed (fun vs H Q E h=>?_) (fun cdv A outer s H vs Q E hr h=>?_)
 ·obtain⟨v,rfl,_⟩:=h;rfl
 obtain⟨v,rfl,hv,q⟩:=h
 refine⟨_,(@pss_cons _ _ _ _ _ (ps_set (i:=1) sc_mixed.nd rfl (Or.inl rfl) (pe_cal G_mixed_first (k:=1) hr (by decide) rfl (pa_c (pv 0) pa_nil)))
  (pss_one (ps_ret (pe_op op_xor (pv 1) (pe_op op_shr (pv 1) pe_int))))),?_⟩
 refine rd_start (σ:=[some v,none]) rfl ?_
 walk_at "rd"
 refine⟨v,rfl,hv,?_⟩
 walk_at "rd"
 walk_at "go"
 exact q
seal PE PT PW PA PS PSs PI PG PIfs PGs PO in
theorem ok_level_of{CT:Addr}{cs:Nat->Addr}{ob:Nat->Addr}{f:Addr}{fd:FuncData}(Z:Zs mg)(T:Tx K mg CT cs ob)(G_mixed:Cal P w K mg base 2 "mixed" ["key"] (sp_mixed K))(F:Fun K "level_of" "level_of" s_level_of f fd):FnOk P w K mg base CX0 3 f fd ["key"] (sp_level_of K):=by
 refine F.ok sc_level_of (fun vs H Q E h=>?_) (fun cdv A outer s H vs Q E hr h=>?_)
 ·obtain⟨a,rfl,_⟩:=h;rfl
 obtain⟨v,rfl,hv,q⟩:=h
 refine⟨_,(@pss_cons _ _ _ _ _ (ps_set (i:=1) sc_level_of.nd rfl (Or.inl rfl) (pe_cal G_mixed (k:=2) hr (by decide) rfl (pa_c (pv 0) pa_nil)))
  (@pss_cons _ _ _ _ _ (ps_set (i:=2) sc_level_of.nd rfl (Or.inl rfl) pe_int)
  (@pss_cons _ _ _ _ _ (ps_while PassesOwn.never (PW.pt (pw_and (pt_cmpR op_lt (pv 2) (pe_gint (Z.TOP_LEVEL) rfl) (nomark _)) (pw_and1 (pt_cmpR op_eq (pe_op op_mod (pv 1) pe_int) pe_int (nomark _))))) (@pss_cons _ _ _ _ _ (ps_set (i:=1) sc_level_of.nd rfl (Or.inl rfl) (pe_op op_shr (pv 1) pe_int))
  (pss_one (ps_set (i:=2) sc_level_of.nd rfl (Or.inl rfl) (pe_op op_add (pv 2) pe_int)))))
  (pss_one (ps_ret (pv 2)))))),?_⟩
 refine rd_start (σ:=[some v,none,none]) rfl ?_
 walk_at "rd"
 refine⟨v,rfl,hv,?_⟩
 walk_at "rd"
 refine⟨fun m σ' H'=>H'=H/\∃ (r:Int) (l:Nat),σ'=[some v,some (.int r),some (.int l)]/\l<=6/\m=6 - l/\l+M11.lev (6 - l) r=levV v,⟨6,rfl,mixedV v,0,rfl,by decide,rfl,by show 0+M11.lev 6 (mixedV v)=levV v;rw[Nat.zero_add];rfl⟩,?_⟩
 rintro m σ' H' ⟨rfl,r,l,rfl,hl,rfl,e⟩
 walk_at "rd"
 by_cases h1:l < 6
 ·rw[if_pos (by omega)]
  walk_at "go"
  by_cases h2:r % 4=0
  ·rw[if_pos h2]
   refine⟨fun σ2 H2=>H2=H'/\σ2=[some v,some (.int (r / 4)),some (.int ((l+1:Nat):Int))],fun σ2 H2 ⟨a,b⟩=>⟨6 - (l+1),by omega,a,r / 4,l+1,b,by omega,rfl,M11.lev_turn e h1 h2⟩,?_⟩
   walk_at "rd"
   exact⟨rfl,by omega⟩
  ·rw[if_neg h2]
   have:=M11.lev_end e (fun z=>h2 z.2) hl
   rw[this]
   exact q
 ·rw[if_neg (by omega)]
  have:=M11.lev_end e (fun z=>h1 z.1) hl
  rw[this]
  exact q
def pgF(tw:Bool)(l:Int)(t:Addr):List (Str×V):=putF (if tw=true then "heads" else "rows") (.ref t) (putF "entries" (.ref t) (putF "level" (.int l) []))
theorem ob12{tw:Bool}:(if tw=true then 2 else 1) < 8:=by cases tw <;> decide
def PgD(ob:Nat->Addr)(H:Hp)(a:Addr)(l:Int)(es:List Dt):Prop :=
 ∃ tw dx t,tw=decide (l≠0)/\H a=some (.ins (ob (if tw=true then 2 else 1)) dx (pgF tw l t))/\TD H 7 (.t es) (.ref t)
theorem PgD.same{ob:Nat->Addr}{H H':Hp}{a:Addr}{l:Int}{es:List Dt}(h:PgD ob H a l es)(s:Same H H'):PgD ob H' a l es:=by
 obtain⟨tw,dx,t,e,h1,h2⟩:=h
 exact⟨tw,dx,t,e,s _ _ h1,h2.same s⟩
section
variable{K:PySem.W.Frag}{mg:Str->Option Value}{CT:Addr}{cs ob:Nat->Addr}{a t dx:Addr}{tw:Bool}{l:Int}{i:Nat}{σ:St}{H:Hp}{Q:VK}
theorem rd_level(T:Tx K mg CT cs ob)(hs:σ[i]?=some (some (.ref a)))(ha:H a=some (.ins (ob (if tw=true then 2 else 1)) dx (pgF tw l t)))(q:Q (.int l) H):tFld K (tVar i) "level" σ H Q :=
 rd_fld (T.ob_ _ ob12) (by decide) hs ha (by cases tw <;> rfl) q
theorem rd_entries(T:Tx K mg CT cs ob)(hs:σ[i]?=some (some (.ref a)))(ha:H a=some (.ins (ob (if tw=true then 2 else 1)) dx (pgF tw l t)))(q:Q (.ref t) H):tFld K (tVar i) "entries" σ H Q :=
 rd_fld (T.ob_ _ ob12) (by decide) hs ha (by cases tw <;> rfl) q
end
theorem at0'{x:V}{xs:List V}(h:xs[0]?=some x):atI xs 0=some x:=atI_nat (j:=0) h
def sp_Page_told(_:PySem.W.Frag)(ob:Nat->Addr):Sp:=fun vs H Q _=>∃ a l es,vs=[.ref a]/\PgD ob H a l es/\∀ r H',Same H H'->H r=none->TD H' 8 (tdOf l es) (.ref r)->Q (.ref r) H'
seal PE PT PW PA PS PSs PI PG PIfs PGs PO in
theorem ok_Page_told{CT:Addr}{cs:Nat->Addr}{ob:Nat->Addr}{f:Addr}{fd:FuncData}(Z:Zs mg)(T:Tx K mg CT cs ob)(F:Fun K "told" "Page.told" s_Page_told f fd):FnOk P w K mg base (CX1 P w) 1 f fd ["self"] (sp_Page_told K ob):=by
 refine F.ok1 sc_Page_told (fun vs H Q E h=>?_) (fun cdv A outer s H vs Q E hr h=>?_)
 ·obtain⟨a,l,es,rfl,_⟩:=h;rfl
 obtain⟨a,l,es,rfl,hP,q⟩:=h
 refine⟨_,(pss_one (ps_ret (pe_tup (pa_c (pe_fld (pv 0) rfl) (pa_c (pe_fld (pv 0) rfl) pa_nil))))),?_⟩
 refine rd_start (σ:=[some (.ref a)]) rfl ?_
 walk_at "rd"
 obtain⟨tw,dx,t,_,ha,ht⟩:=hP
 exact rd_level T rfl ha (rd_entries T rfl ha ⟨two_ok,fun p hp=>q p _ (same_upd hp _) hp (TD.pair upd_same (.ofV rfl) (ht.same (same_upd hp _)))⟩)
def sp_Page_first(_:PySem.W.Frag)(ob:Nat->Addr):Sp:=fun vs H Q _=>∃ a l k r es,vs=[.ref a]/\PgD ob H a l (.t (.v k::r)::es)/\Q k H
seal PE PT PW PA PS PSs PI PG PIfs PGs PO in
theorem ok_Page_first{CT:Addr}{cs:Nat->Addr}{ob:Nat->Addr}{f:Addr}{fd:FuncData}(Z:Zs mg)(T:Tx K mg CT cs ob)(F:Fun K "first" "Page.first" s_Page_first f fd):FnOk P w K mg base (CX1 P w) 1 f fd ["self"] (sp_Page_first K ob):=by
 refine F.ok1 sc_Page_first (fun vs H Q E h=>?_) (fun cdv A outer s H vs Q E hr h=>?_)
 ·obtain⟨a,l,k,r,es,rfl,_⟩:=h;rfl
 obtain⟨a,l,k,r,es,rfl,hP,q⟩:=h
 refine⟨_,(pss_one (ps_ret (pe_ix ix_tup (pe_ix ix_tup (pe_fld (pv 0) rfl) pe_int (fun _ _=>rfl)) pe_int (fun _ _=>rfl)))),?_⟩
 refine rd_start (σ:=[some (.ref a)]) rfl ?_
 walk_at "rd"
 obtain⟨tw,dx,t,_,ha,ht⟩:=hP
 obtain⟨_,_,xs,_,e,ht',rt⟩:=ht.tup
 cases e
 cases rt with
 | cons r1 _ =>
  obtain⟨_,b,ys,_,rfl,hb,rb⟩:=r1.tup
  cases rb with
  | cons r2 _ =>
   obtain⟨_,rfl⟩:=r2.flat
   exact rd_entries T rfl ha ⟨t,rfl,_,SqT.of ht',_,at0' rfl,b,rfl,_,SqT.of hb,_,at0' rfl,q⟩
def sp_Page_init(K:PySem.W.Frag)(ob:Nat->Addr):Sp:=fun vs H Q _=>∃ a tw dx l e b xs,vs=[.ref a,.int l,.ref e]/\H a=some (.ins (ob (if tw=true then 2 else 1)) dx [])/\HE b H e xs/\xs.length<=900 /\
 ∀ t H',H' a=some (.ins (ob (if tw=true then 2 else 1)) dx (putF "entries" (.ref t) (putF "level" (.int l) [])))->H' t=some (.tup xs)->(∀ fs,Same (upd H a (.ins (ob (if tw=true then 2 else 1)) dx fs)) (upd H' a (.ins (ob (if tw=true then 2 else 1)) dx fs)))->Q .non H'
seal PE PT PW PA PS PSs PI PG PIfs PGs PO in
theorem ok_Page_init{CT:Addr}{cs:Nat->Addr}{ob:Nat->Addr}{f:Addr}{fd:FuncData}(Z:Zs mg)(T:Tx K mg CT cs ob)(F:Fun K "__init__" "Page.__init__" s_Page_init f fd):FnOk P w K mg base CX0 1 f fd ["self","level","entries"] (sp_Page_init K ob):=by
 refine F.ok sc_Page_init (fun vs H Q E h=>?_) (fun cdv A outer s H vs Q E hr h=>?_)
 ·obtain⟨a,tw,dx,l,e,b,xs,rfl,_⟩:=h;rfl
 obtain⟨a,tw,dx,l,e,b,xs,rfl,ha,he,lx,q⟩:=h
 refine⟨_,(@pss_cons _ _ _ _ _ (ps_fld (pv 0) (pv 1) rfl)
  (pss_one (ps_fld (pv 0) (pe_callTy call_tuple_of rfl (Z.tuple) bo_tuple (pa_c (pv 2) pa_nil)) rfl))),?_⟩
 refine rd_start (σ:=[some (.ref a),some (.int l),some (.ref e)]) rfl ?_
 walk_at "rd"
 have c:=T.ob_ _ (ob12 (tw:=tw))
 generalize ob (if tw=true then 2 else 1)=C at *
 refine rd_set c (by decide) rfl (y:=.int l) (H1:=H) (fun Q q=>⟨_,rfl,q⟩) ha (by decide) ?_
 have he1:HE b _ e xs:=HE.upd_ins (o:=.ins C dx (putF "level" (.int l) [])) he ha
 have last:∀ (t:Addr) (H1:Hp),H1 a=some (.ins C dx (putF "level" (.int l) []))->H1 t=some (.tup xs)->(∀ fs,Same (upd H a (.ins C dx fs)) (upd H1 a (.ins C dx fs)))->Q .non (upd H1 a (.ins C dx (putF "entries" (.ref t) (putF "level" (.int l) [])))):=by
  intro t H1 h1 ht hsame
  have ta:t≠a:=fun z=>by rw[z,h1]at ht;cases ht
  exact q t _ upd_same (by rw[upd_ne ta];exact ht) fun fs=>by rw[upd_upd];exact hsame fs
 cases b with
 | false =>
  refine⟨_,rfl,e,rfl,xs,.inl ⟨SqL.of he1,fun t ht=>⟨_,rfl,a,C,dx,_,rfl,same_upd ht _ _ _ upd_same,c.cl,c.no _ (by decide),show 1 < 1000 by decide,?_⟩⟩⟩
  have ta:t≠a:=fun z=>by rw[z,upd_same]at ht;cases ht
  refine last t _ (same_upd ht _ _ _ upd_same) upd_same fun fs=>?_
  rw[upd_swap (Ne.symm ta),upd_upd,<- upd_swap (Ne.symm ta)]
  exact same_upd (by rw[upd_ne ta]at ht ⊢;exact ht) _
 | true =>
  refine⟨_,rfl,e,rfl,xs,.inr ⟨SqT.of he1,⟨_,rfl,a,C,dx,_,rfl,upd_same,c.cl,c.no _ (by decide),show 1 < 1000 by decide,?_⟩⟩⟩
  exact last e _ upd_same he1 fun fs=>by rw[upd_upd];exact Same.refl _
theorem sameT_ins{H H':Hp}{a C dx C' dx':Addr}{fs fs':List (Str×V)}(ha:H a=some (.ins C dx fs))(s:Same (upd H a (.ins C' dx' fs')) H'):SameT H H':=fun b xs e=>s _ _ (by rw[upd_ne (ne_of e ha (by intro z;cases z))];exact e)
def sp_Leaf_init(K:PySem.W.Frag)(ob:Nat->Addr):Sp:=fun vs H Q _=>∃ a dx e b xs es,vs=[.ref a,.ref e]/\H a=some (.ins (ob 1) dx [])/\HE b H e xs/\Paired (fun d v=>TD H 6 d v) es xs/\xs.length<=900/\∀ dx fs H',Same (upd H a (.ins (ob 1) dx fs)) H'->PgD ob H' a 0 es->Q .non H'
seal PE PT PW PA PS PSs PI PG PIfs PGs PO in
theorem ok_Leaf_init{CT:Addr}{cs:Nat->Addr}{ob:Nat->Addr}{f:Addr}{fd:FuncData}(Z:Zs mg)(T:Tx K mg CT cs ob)(B_Page:BaI P w K mg base 1 "Page" (sp_Page_init K ob))(F:Fun K "__init__" "Leaf.__init__" s_Leaf_init f fd):FnOk P w K mg base CX0 2 f fd ["self","rows"] (sp_Leaf_init K ob):=by
 refine F.ok sc_Leaf_init (fun vs H Q E h=>?_) (fun cdv A outer s H vs Q E hr h=>?_)
 ·obtain⟨a,dx,e,b,xs,es,rfl,_⟩:=h;rfl
 obtain⟨a,dx,e,b,xs,es,rfl,ha,he,re,lx,q⟩:=h
 refine⟨_,(@pss_cons _ _ _ _ _ (ps_expr (pe_bainit B_Page (k:=1) hr (by decide) rfl (pa_c (pv 0) (pa_c pe_int (pa_c (pv 1) pa_nil)))))
  (pss_one (ps_fld (pv 0) (pe_fld (pv 0) rfl) rfl))),?_⟩
 refine rd_start (σ:=[some (.ref a),some (.ref e)]) rfl ?_
 walk_at "rd"
 have c:=T.ob_ 1 (by decide)
 refine⟨a,false,dx,0,e,b,xs,rfl,ha,he,lx,fun t H1 h1 ht hs=>?_⟩
 have ta:t≠a:=fun z=>by rw[z,h1]at ht;cases ht
 refine rd_set c (by decide) rfl (y:=.ref t) (H1:=H1) (fun Q q=>rd_fld c (by decide) rfl h1 rfl q) h1 (show 2 < 1000 by decide) ?_
 exact q dx _ _ (hs _) ⟨false,dx,t,rfl,upd_same,TD.ofT (by rw[upd_ne ta];exact ht) (TDs.sameT re (sameT_ins ha (hs _)))⟩
def sp_Twig_init(K:PySem.W.Frag)(ob:Nat->Addr):Sp:=fun vs H Q _=>∃ a dx l e b xs es,vs=[.ref a,.int l,.ref e]/\l≠0/\H a=some (.ins (ob 2) dx [])/\HE b H e xs/\Paired (fun d v=>TD H 6 d v) es xs/\xs.length<=900/\∀ dx fs H',Same (upd H a (.ins (ob 2) dx fs)) H'->PgD ob H' a l es->Q .non H'
seal PE PT PW PA PS PSs PI PG PIfs PGs PO in
theorem ok_Twig_init{CT:Addr}{cs:Nat->Addr}{ob:Nat->Addr}{f:Addr}{fd:FuncData}(Z:Zs mg)(T:Tx K mg CT cs ob)(B_Page:BaI P w K mg base 1 "Page" (sp_Page_init K ob))(F:Fun K "__init__" "Twig.__init__" s_Twig_init f fd):FnOk P w K mg base CX0 2 f fd ["self","level","heads"] (sp_Twig_init K ob):=by
 refine F.ok sc_Twig_init (fun vs H Q E h=>?_) (fun cdv A outer s H vs Q E hr h=>?_)
 ·obtain⟨a,dx,l,e,b,xs,es,rfl,_⟩:=h;rfl
 obtain⟨a,dx,l,e,b,xs,es,rfl,hl,ha,he,re,lx,q⟩:=h
 refine⟨_,(@pss_cons _ _ _ _ _ (ps_expr (pe_bainit B_Page (k:=1) hr (by decide) rfl (pa_c (pv 0) (pa_c (pv 1) (pa_c (pv 2) pa_nil)))))
  (pss_one (ps_fld (pv 0) (pe_fld (pv 0) rfl) rfl))),?_⟩
 refine rd_start (σ:=[some (.ref a),some (.int l),some (.ref e)]) rfl ?_
 walk_at "rd"
 have c:=T.ob_ 2 (by decide)
 refine⟨a,true,dx,l,e,b,xs,rfl,ha,he,lx,fun t H1 h1 ht hs=>?_⟩
 have ta:t≠a:=fun z=>by rw[z,h1]at ht;cases ht
 refine rd_set c (by decide) rfl (y:=.ref t) (H1:=H1) (fun Q q=>rd_fld c (by decide) rfl h1 rfl q) h1 (show 2 < 1000 by decide) ?_
 exact q dx _ _ (hs _) ⟨true,dx,t,(decide_eq_true hl).symm,upd_same,TD.ofT (by rw[upd_ne ta];exact ht) (TDs.sameT re (sameT_ins ha (hs _)))⟩
def sp_page_of(_:PySem.W.Frag)(ob:Nat->Addr):Sp:=fun vs H Q _=>∃ l e b xs es,vs=[.int l,.ref e]/\HE b H e xs/\Paired (fun d v=>TD H 6 d v) es xs/\xs.length<=900/\∀ a H',Same H H'->H a=none->PgD ob H' a l es->Q (.ref a) H'
seal PE PT PW PA PS PSs PI PG PIfs PGs PO in
theorem ok_page_of{CT:Addr}{cs:Nat->Addr}{ob:Nat->Addr}{f:Addr}{fd:FuncData}(Z:Zs mg)(T:Tx K mg CT cs ob)(K_Twig:MkV P w K mg base 2 "Twig" (ob 2) (sp_Twig_init K ob))(K_Leaf:MkV P w K mg base 2 "Leaf" (ob 1) (sp_Leaf_init K ob))(F:Fun K "page_of" "page_of" s_page_of f fd):FnOk P w K mg base CX0 4 f fd ["level","entries"] (sp_page_of K ob):=by
 refine F.ok sc_page_of (fun vs H Q E h=>?_) (fun cdv A outer s H vs Q E hr h=>?_)
 ·obtain⟨l,e,b,xs,es,rfl,_⟩:=h;rfl
 obtain⟨l,e,b,xs,es,rfl,he,re,lx,q⟩:=h
 refine⟨_,(@pss_cons _ _ _ _ _ (ps_if (pt_cmpR op_eq (pv 0) pe_int (nomark _)) (pss_one (ps_ret (pe_mk K_Leaf (k:=3) hr (by decide) rfl (pa_c (pv 1) pa_nil)))) pss_nil)
  (pss_one (ps_ret (pe_mk K_Twig (k:=3) hr (by decide) rfl (pa_c (pv 0) (pa_c (pv 1) pa_nil)))))),?_⟩
 refine rd_start (σ:=[some (.int l),some (.ref e)]) rfl ?_
 walk_at "rd"
 have sH:∀ (x dx:Addr) (o u:HO),H x=none->H dx=none->Same H (upd (upd H dx u) x o):=fun x dx o u h1 h2=>same_mk h1 h2 (Same.refl _)
 refine ite2 (fun h=>?_) fun h=>?_
 ·refine⟨_,rfl,fun x dx hx hdx hne=>⟨x,dx,e,b,xs,es,rfl,upd_same,he.same (sH _ _ _ _ hx hdx),TDs.sameT re (sH _ _ _ _ hx hdx).t,lx,fun dx' fs H' s' pg=>⟨rfl,q x H' ?_ hx ?_⟩⟩⟩
  ·rw[upd_upd]at s';exact same_mk hx hdx s'
  ·subst h;exact pg
 ·refine⟨_,rfl,_,rfl,fun x dx hx hdx hne=>⟨x,dx,l,e,b,xs,es,rfl,h,upd_same,he.same (sH _ _ _ _ hx hdx),TDs.sameT re (sH _ _ _ _ hx hdx).t,lx,fun dx' fs H' s' pg=>⟨rfl,q x H' ?_ hx pg⟩⟩⟩
  rw[upd_upd]at s';exact same_mk hx hdx s'
abbrev StL:=List (Int×Dt×Addr)
def stF(d1 d2:Addr)(c:Int):List (Str×V):=putF "count" (.int c) (putF "number_by_told" (.ref d2) (putF "told_by_number" (.ref d1) []))
def numOf(x:Int×Dt×Addr):Key×V:=(.inl x.1,.ref x.2.2)
def tolOf(x:Int×Dt×Addr):Dt×Addr×V:=(x.2.1,x.2.2,.int x.1)
def PgSh(d:Dt):Prop:=∃ l k r,∃ es:List Dt,d=tdOf l (.t (.v k::r)::es)/\hV k=true/\es.length < 900
structure StAt(P:Program)(w:World)(ob:Nat->Addr)(H:Hp)(p d1 d2:Addr)(st:StL)(c:Int):Prop where
 obj:∃ dx,H p=some (.ins (ob 3) dx (stF d1 d2 c))
 num:H d1=some (.dK (st.map numOf))
 tol:H d2=some (dN P w d2 (st.map tolOf))
 td:∀ x∈st,TD H 8 x.2.1 (.ref x.2.2)
 sh:∀ x∈st,PgSh x.2.1
 lt:∀ x∈st,x.1 < c
 nn:(st.map (·.1)).Nodup
 nd:(st.map (·.2.1)).Nodup
 few:st.length<=1000000
section
variable{P:Program}{w:World}{K:PySem.W.Frag}{ob:Nat->Addr}{H H':Hp}{p d1 d2:Addr}{st:StL}{c:Int}
theorem StAt.pd1(h:StAt P w ob H p d1 d2 st c):p≠d1:=by
 obtain⟨dx,e⟩:=h.obj
 exact ne_of e h.num (by intro z;cases z)
theorem StAt.pd2(h:StAt P w ob H p d1 d2 st c):p≠d2:=by
 obtain⟨dx,e⟩:=h.obj
 exact ne_of e h.tol (by intro z;cases z)
theorem StAt.d12(h:StAt P w ob H p d1 d2 st c):d1≠d2:=ne_of h.num h.tol (by intro z;cases z)
theorem StAt.keep(h:StAt P w ob H p d1 d2 st c)(s:SameT H H')(hp:H' p=H p)(h1:H' d1=H d1)(h2:H' d2=H d2):StAt P w ob H' p d1 d2 st c :=
 ⟨by rw[hp];exact h.obj,by rw[h1];exact h.num,by rw[h2];exact h.tol,fun x hx=>TD.sameT s 8 (h.td x hx),h.sh,h.lt,h.nn,h.nd,h.few⟩
theorem StAt.same(h:StAt P w ob H p d1 d2 st c)(s:Same H H'):StAt P w ob H' p d1 d2 st c:=by
 obtain⟨dx,e⟩:=h.obj
 exact h.keep s.t (by rw[s _ _ e,e]) (by rw[s _ _ h.num,h.num]) (by rw[s _ _ h.tol,h.tol])
theorem StAt.dn(h:StAt P w ob H p d1 d2 st c):DnAt P w K H d2 (st.map tolOf):=⟨h.tol,fun x hx=>by
 obtain⟨y,hy,rfl⟩:=List.mem_map.mp hx
 exact⟨(h.td y hy).rep,(h.td y hy).h⟩⟩
theorem StAt.get(h:StAt P w ob H p d1 d2 st c){x:Int×Dt×Addr}(hx:x∈st):valV (st.map numOf) (.inl x.1)=some (.ref x.2.2):=by
 rw[valV_mapF]
 have:(fun y:Int×Dt×Addr=>decide ((numOf y).1=(Sum.inl x.1:Key)))=fun y=>decide (y.1=x.1):=by
  funext y
  exact decide_eq_decide.mpr ⟨fun e=>by injection e,fun e=>by show Sum.inl _=_;rw[e]⟩
 rw[this,find_key (fun y:Int×Dt×Addr=>y.1) h.nn hx];rfl
theorem StAt.getN(h:StAt P w ob H p d1 d2 st c){x:Int×Dt×Addr}(hx:x∈st):valN (st.map tolOf) x.2.1=some (.int x.1):=by
 rw[valN_map]
 have:=find_key (fun y:Int×Dt×Addr=>y.2.1) h.nd hx
 rw[show(fun y:Int×Dt×Addr=>decide ((tolOf y).1=x.2.1))=fun y=>decide (y.2.1=x.2.1) from rfl,this];rfl
theorem StAt.fun_(h:StAt P w ob H p d1 d2 st c){n:Int}{d d':Dt}{t t':Addr}(h1:(n,d,t)∈st)(h2:(n,d',t')∈st):d=d'/\t=t':=by
 have e1:=find_key (fun y:Int×Dt×Addr=>y.1) h.nn h1
 have e2:=find_key (fun y:Int×Dt×Addr=>y.1) h.nn h2
 have e:=e1.symm.trans e2
 injection e with e
 injection e with _ e
 injection e with a b
 exact⟨a,b⟩
theorem St_no{st:StL}{n:Int}(h:∀ x∈st,x.1≠n):valV (st.map numOf) (.inl n)=none:=by
 rw[valV_mapF]
 have:(fun y:Int×Dt×Addr=>decide ((numOf y).1=(Sum.inl n:Key)))=fun y=>decide (y.1=n):=by
  funext y
  exact decide_eq_decide.mpr ⟨fun e=>by injection e,fun e=>by show Sum.inl _=_;rw[e]⟩
 rw[this,find_no (fun y:Int×Dt×Addr=>y.1) h];rfl
theorem St_noN{st:StL}{d:Dt}(h:∀ x∈st,x.2.1≠d):valN (st.map tolOf) d=none:=by
 rw[valN_map]
 have:=find_no (fun y:Int×Dt×Addr=>y.2.1) h
 rw[show(fun y:Int×Dt×Addr=>decide ((tolOf y).1=d))=fun y=>decide (y.2.1=d) from rfl,this];rfl
theorem sameT_st(h:StAt P w ob H p d1 d2 st c)(s:SameX [p,d1,d2] H H'):SameT H H':=fun b xs e=>s b _ (fun z=>by
 obtain⟨dx,eo⟩:=h.obj
 rcases List.mem_cons.mp z with z | z
 ·rw[z,eo]at e;cases e
 rcases List.mem_cons.mp z with z | z
 ·rw[z,h.num]at e;cases e
 ·rw[List.mem_singleton.mp z,h.tol]at e;cases e) e
end
def sp_Pages_init(P:Program)(w:World)(ob:Nat->Addr):Sp:=fun vs H Q _=>∃ p dx,vs=[.ref p]/\H p=some (.ins (ob 3) dx [])/\∀ d1 d2 H' dx fs,H d1=none->H d2=none->Same (upd H p (.ins (ob 3) dx fs)) H'->StAt P w ob H' p d1 d2 [] 0->Q .non H'
seal PE PT PW PA PS PSs PI PG PIfs PGs PO in
theorem ok_Pages_init{CT:Addr}{cs:Nat->Addr}{ob:Nat->Addr}{f:Addr}{fd:FuncData}(Z:Zs mg)(T:Tx K mg CT cs ob)(F:Fun K "__init__" "Pages.__init__" s_Pages_init f fd):FnOk P w K mg base CX0 1 f fd ["self"] (sp_Pages_init P w ob):=by
 refine F.ok sc_Pages_init (fun vs H Q E h=>?_) (fun cdv A outer s H vs Q E hr h=>?_)
 ·obtain⟨a,dx,rfl,_⟩:=h;rfl
 obtain⟨a,dx,rfl,ha,q⟩:=h
 refine⟨_,(@pss_cons _ _ _ _ _ (ps_fld (pv 0) pe_dnewK rfl)
  (@pss_cons _ _ _ _ _ (ps_fld (pv 0) pe_dnewN rfl)
  (pss_one (ps_fld (pv 0) pe_int rfl)))),?_⟩
 refine rd_start (σ:=[some (.ref a)]) rfl ?_
 walk_at "rd"
 have c:=T.ob_ 3 (by decide)
 intro p hp
 have pa:a≠p:=fun z=>by rw[<- z,ha]at hp;cases hp
 refine⟨_,rfl,a,ob 3,dx,_,rfl,by rw[upd_ne pa];exact ha,c.cl,c.no _ (by decide),by decide,?_⟩
 intro p2 hp2
 have pa2:a≠p2:=fun z=>by rw[<- z,upd_same]at hp2;cases hp2
 have hp2':upd H p (.dK []) p2=none:=by rw[upd_ne (Ne.symm pa2)]at hp2;exact hp2
 have pp:p2≠p:=fun z=>by rw[z,upd_same]at hp2';cases hp2'
 have hp2'':H p2=none:=by rw[upd_ne pp]at hp2';exact hp2'
 refine⟨_,rfl,a,ob 3,dx,putF "told_by_number" (.ref p) [],rfl,by rw[upd_ne pa2];exact upd_same,c.cl,c.no _ (by decide),(show 1 < 1000 by decide),?_⟩
 refine⟨_,rfl,a,ob 3,dx,putF "number_by_told" (.ref p2) (putF "told_by_number" (.ref p) []),rfl,upd_same,c.cl,c.no _ (by decide),(show 2 < 1000 by decide),?_⟩
 show Q V.non _
 rw[upd_upd]
 refine q p p2 _ dx (stF p p2 0) hp hp2'' (fun b o hb=>?_) ⟨⟨dx,upd_same⟩,?_,?_,(fun x hx=>nomatch hx),(fun x hx=>nomatch hx),(fun x hx=>nomatch hx),List.nodup_nil,List.nodup_nil,Nat.zero_le _⟩
 ·by_cases e:b=a
  ·rw[e,upd_same]at hb ⊢;exact hb
  ·rw[upd_ne e]at hb ⊢
   rw[upd_ne (ne_of_none hb hp2''),upd_ne e,upd_ne (ne_of_none hb hp)];exact hb
 ·rw[upd_ne (Ne.symm pa),upd_ne (Ne.symm pp),upd_ne (Ne.symm pa)];exact upd_same
 ·rw[upd_ne (Ne.symm pa2)];exact upd_same
def sp_Pages_told_at(P:Program)(w:World)(cs ob:Nat->Addr):Sp:=fun vs H Q E=>∃ p d1 d2 st c n,vs=[.ref p,.int n]/\StAt P w ob H p d1 d2 st c /\
 (∀ d t,(n,d,t)∈st->Q (.ref t) H) /\
 ((∀ x∈st,x.1≠n)->∀ d,H d=none->E (.ref (cs 0)) (some d) (upd H d (xD d [("number",.int n)])))
seal PE PT PW PA PS PSs PI PG PIfs PGs PO in
theorem ok_Pages_told_at{CT:Addr}{cs:Nat->Addr}{ob:Nat->Addr}{f:Addr}{fd:FuncData}(Z:Zs mg)(T:Tx K mg CT cs ob)(K_NoPage:MkX P w K mg base 1 "NoPage" (cs 0) CT ["number"])(F:Fun K "told_at" "Pages.told_at" s_Pages_told_at f fd):FnOk P w K mg base (CX1 P w) 3 f fd ["self","number"] (sp_Pages_told_at P w cs ob):=by
 refine F.ok1 sc_Pages_told_at (fun vs H Q E h=>?_) (fun cdv A outer s H vs Q E hr h=>?_)
 ·obtain⟨p,d1,d2,st,c,n,rfl,_⟩:=h;rfl
 obtain⟨p,d1,d2,st,c,n,rfl,hS,q1,q2⟩:=h
 refine⟨_,(@pss_cons _ _ _ _ _ (ps_if (pt_cmp (pc_dnotin hr.u1 (pv 1) (pe_fld (pv 0) rfl))) (pss_one (ps_raiseX throws0 rfl rfl rfl K_NoPage (k:=2) hr (by decide) (pa_c (pv 1) pa_nil))) pss_nil)
  (pss_one (ps_ret (pe_dget hr.u1 (pe_fld (pv 0) rfl) (pv 1) (fun _ _=>rfl))))),?_⟩
 refine rd_start (σ:=[some (.ref p),some (.int n)]) rfl ?_
 walk_at "rd"
 obtain⟨dx,ho⟩:=hS.obj
 have cc:=T.ob_ 3 (by decide)
 refine rd_fld cc (by decide) rfl ho rfl ⟨d1,rfl,_,DGet.k (k:=.inl n) hS.num,?_⟩
 by_cases hx:∃ x∈st,x.1=n
 ·obtain⟨⟨n',d,t⟩,hm,rfl⟩:=hx
  rw[hS.get hm]
  rw[if_neg (by simp)]
  exact rd_fld cc (by decide) rfl ho rfl ⟨d1,rfl,.ref t,by rw[<- hS.get hm];exact DGet.k (k:=.inl _) hS.num,q1 d t hm⟩
 ·have hx':∀ x∈st,x.1≠n:=fun x h e=>hx ⟨x,h,e⟩
  rw[St_no hx',if_pos (by decide)]
  exact⟨_,rfl,rfl,show 1<=1000 by decide,fun d hd=>q2 hx' d hd⟩
def sp_Pages_page(P:Program)(w:World)(cs ob:Nat->Addr):Sp:=fun vs H Q E=>∃ p d1 d2 st c n,vs=[.ref p,.int n]/\StAt P w ob H p d1 d2 st c /\
 (∀ l es t,(n,tdOf l es,t)∈st->∀ a H',Same H H'->H a=none->PgD ob H' a l es->Q (.ref a) H') /\
 ((∀ x∈st,x.1≠n)->∀ d,H d=none->E (.ref (cs 0)) (some d) (upd H d (xD d [("number",.int n)])))
seal PE PT PW PA PS PSs PI PG PIfs PGs PO in
theorem ok_Pages_page{CT:Addr}{cs:Nat->Addr}{ob:Nat->Addr}{f:Addr}{fd:FuncData}(Z:Zs mg)(T:Tx K mg CT cs ob)(G_page_of:Cal P w K mg base 4 "page_of" ["level","entries"] (sp_page_of K ob))(M_Pages_told_at:MeV P w K mg base 3 (ob 3) "told_at" (sp_Pages_told_at P w cs ob))(F:Fun K "page" "Pages.page" s_Pages_page f fd):FnOk P w K mg base (CX1 P w) 5 f fd ["self","number"] (sp_Pages_page P w cs ob):=by
 refine F.ok1 sc_Pages_page (fun vs H Q E h=>?_) (fun cdv A outer s H vs Q E hr h=>?_)
 ·obtain⟨p,d1,d2,st,c,n,rfl,_⟩:=h;rfl
 obtain⟨p,d1,d2,st,c,n,rfl,hS,q1,q2⟩:=h
 refine⟨_,(@pss_cons _ _ _ _ _ (ps_set (i:=2) sc_Pages_page.nd rfl (Or.inl rfl) (PE1.pe (pe1_methV (k:=4) (pv 0) hr rfl (pa_c (pv 1) pa_nil)) throws0))
  (pss_one (ps_ret (pe_cal G_page_of (k:=4) hr (by decide) rfl (pa_c (pe_ix ix_tup (pv 2) pe_int (fun _ _=>rfl)) (pa_c (pe_ix ix_tup (pv 2) pe_int (fun _ _=>rfl)) pa_nil)))))),?_⟩
 refine rd_start (σ:=[some (.ref p),some (.int n),none]) rfl ?_
 walk_at "rd"
 obtain⟨dx,ho⟩:=hS.obj
 have cc:=T.ob_ 3 (by decide)
 refine rd_methV rfl ho rfl cc.cl (M_Pages_told_at.mono (by decide)) ⟨_,rfl,⟨p,d1,d2,st,c,n,rfl,hS,fun d t hm=>?_,fun hx d hd=>q2 hx d hd⟩⟩
 obtain⟨l,k,r,es,ed,hk,le⟩:=hS.sh _ hm
 have td:=hS.td _ hm
 dsimp only at ed td
 subst ed
 obtain⟨_,x,z,e,ht,t1,t2⟩:=td.pair_of
 cases e
 obtain⟨_,rfl⟩:=t1.flat
 obtain⟨m,e',xs,em,rfl,he,re⟩:=t2.tup
 obtain rfl:m=6:=by omega
 refine⟨t,rfl,_,SqT.of ht,.int l,rfl,⟨t,rfl,_,SqT.of ht,.ref e',rfl,?_⟩⟩
 exact⟨l,e',true,xs,_,rfl,he,re,by have:=Paired.length re;simp at this;omega,fun a H' s ha pg=>q1 l _ t hm a H' s ha pg⟩
def sp_Pages_kept(P:Program)(w:World)(ob:Nat->Addr):Sp:=fun vs H Q E=>∃ p d1 d2 st c a l es,vs=[.ref p,.ref a]/\StAt P w ob H p d1 d2 st c/\PgD ob H a l es/\PgSh (tdOf l es)/\st.length < 1000000 /\
 (∀ n t,(n,tdOf l es,t)∈st->∀ H',Same H H'->Q (.int n) H') /\
 ((∀ x∈st,x.2.1≠tdOf l es)->∀ t H',SameX [p,d1,d2] H H'->StAt P w ob H' p d1 d2 (st++[(c,tdOf l es,t)]) (c+1)->Q (.int c) H')
seal PE PT PW PA PS PSs PI PG PIfs PGs PO in
theorem ok_Pages_kept{CT:Addr}{cs:Nat->Addr}{ob:Nat->Addr}{f:Addr}{fd:FuncData}(Z:Zs mg)(T:Tx K mg CT cs ob)(M_Page_told:MeV P w K mg base 1 (ob 0) "told" (sp_Page_told K ob))(M_Leaf_told:MeV P w K mg base 1 (ob 1) "told" (sp_Page_told K ob))(M_Twig_told:MeV P w K mg base 1 (ob 2) "told" (sp_Page_told K ob))(F:Fun K "kept" "Pages.kept" s_Pages_kept f fd):FnOk P w K mg base (CX1 P w) 2 f fd ["self","page"] (sp_Pages_kept P w ob):=by
 refine F.ok1 sc_Pages_kept (fun vs H Q E h=>?_) (fun cdv A outer s H vs Q E hr h=>?_)
 ·obtain⟨p,d1,d2,st,c,a,l,es,rfl,_⟩:=h;rfl
 obtain⟨p,d1,d2,st,c,a,l,es,rfl,hS,hP,hsh,few,q1,q2⟩:=h
 refine⟨_,(@pss_cons _ _ _ _ _ (ps_set (i:=2) sc_Pages_kept.nd rfl (Or.inl rfl) (PE1.pe (pe1_methV0 (k:=1) (pv 1) hr rfl) throws0))
  (@pss_cons _ _ _ _ _ (ps_if (pt_cmp (pc_nin hr.u9 (pv 2) (pe_fld (pv 0) rfl))) (pss_one (ps_ret (pe_nget hr.u9 (pe_fld (pv 0) rfl) (pv 2) (fun _ _=>rfl)))) pss_nil)
  (@pss_cons _ _ _ _ _ (ps_set (i:=3) sc_Pages_kept.nd rfl (Or.inl rfl) (pe_fld (pv 0) rfl))
  (@pss_cons _ _ _ _ _ (ps_dput hr.u1 (pe_fld (pv 0) rfl) (pv 3) (pv 2) rfl)
  (@pss_cons _ _ _ _ _ (ps_nput hr.u9 (pe_fld (pv 0) rfl) (pv 2) (pv 3) rfl)
  (@pss_cons _ _ _ _ _ (ps_fld (pv 0) (pe_op op_add (pv 3) pe_int) rfl)
  (pss_one (ps_ret (pv 3))))))))),?_⟩
 refine rd_start (σ:=[some (.ref p),some (.ref a),none,none]) rfl ?_
 walk_at "rd"
 obtain⟨dx,ho⟩:=hS.obj
 have cc:=T.ob_ 3 (by decide)
 obtain⟨tw,dxa,t0,etw,ha,ht⟩:=id hP
 have Mt:MeV P w K mg base 1 (ob (if tw=true then 2 else 1)) "told" (sp_Page_told K ob):=by cases tw with | true=>exact M_Twig_told | false=>exact M_Leaf_told
 refine rd_methV0 rfl ha (by cases tw <;> rfl) (T.ob_ _ ob12).cl Mt ⟨a,l,es,rfl,hP,fun r H1 s1 hr1 t1=>?_⟩
 have hS1:=hS.same s1
 have ho1:=s1 _ _ ho
 refine rd_fld cc (by decide) rfl ho1 rfl ⟨d2,rfl,r,rfl,_,hS1.dn,tdOf l es,t1.rep,t1.h,?_⟩
 by_cases hx:∃ x∈st,x.2.1=tdOf l es
 ·obtain⟨⟨n,d,t⟩,hm,e⟩:=hx
  dsimp only at e
  subst e
  have g:=hS1.getN hm
  dsimp only at g
  rw[g,if_pos (show(some (V.int n)).isSome=true from rfl)]
  exact rd_fld cc (by decide) rfl ho1 rfl ⟨d2,rfl,r,rfl,_,hS1.dn,tdOf l es,t1.rep,t1.h,_,g,q1 n t hm _ s1⟩
 ·have hx':∀ x∈st,x.2.1≠tdOf l es:=fun x h e=>hx ⟨x,h,e⟩
  have hc:∀ x∈st,x.1≠c:=fun x h e=>by have:=hS.lt x h;omega
  rw[St_noN hx',if_neg (by decide)]
  refine rd_fld cc (by decide) rfl ho1 rfl ?_
  refine rd_fld cc (by decide) rfl ho1 rfl ⟨d1,rfl,_,DPut.k (k:=.inl c) hS1.num (by rw[List.length_map,sizeLine_eq];omega),?_⟩
  rw[putK_new _ (St_no hc)]
  have sx2:SameX [p,d1,d2] H1 (upd H1 d1 (.dK (st.map numOf++[(.inl c,.ref r)]))):=(SameX.refl _ _).upd (by simp)
  have st2:=sameT_st hS1 sx2
  refine rd_fld cc (by decide) rfl (by rw[upd_ne hS.pd1];exact ho1) rfl ⟨d2,rfl,r,rfl,st.map tolOf,⟨by rw[upd_ne (Ne.symm hS.d12)];exact hS1.tol,fun x hx=>?_⟩,tdOf l es,(TD.sameT st2 8 t1).rep,t1.h,St_noN hx',by rw[List.length_map,sizeLine_eq];omega,?_⟩
  ·obtain⟨y,hy,rfl⟩:=List.mem_map.mp hx
   exact⟨(TD.sameT st2 8 (hS1.td y hy)).rep,(hS1.td y hy).h⟩
  generalize e2:upd H1 d1 (.dK (st.map numOf++[(.inl c,.ref r)]))=H2 at sx2 st2
  have sx3:SameX [p,d1,d2] H1 (upd H2 d2 (dN P w d2 (st.map tolOf++[(tdOf l es,r,.int c)]))):=sx2.upd (by simp)
  have p3:upd H2 d2 (dN P w d2 (st.map tolOf++[(tdOf l es,r,.int c)])) p=some (.ins (ob 3) dx (stF d1 d2 c)):=by rw[upd_ne hS.pd2,<- e2,upd_ne hS.pd1];exact ho1
  refine rd_set (fs:=stF d1 d2 c) cc (by decide) rfl (y:=.int (c+1)) (H1:=upd H2 d2 (dN P w d2 (st.map tolOf++[(tdOf l es,r,.int c)]))) (fun Q q=>by
   simp only[tOp,tVar,tC,rI0]
   exact⟨_,rfl,c,1,rfl,rfl,q⟩) p3 (show 3 < 1000 by decide) ?_
  have sx4:SameX [p,d1,d2] H1 (upd (upd H2 d2 (dN P w d2 (st.map tolOf++[(tdOf l es,r,.int c)]))) p (.ins (ob 3) dx (stF d1 d2 (c+1)))):=sx3.upd (by simp)
  have st4:=sameT_st hS1 sx4
  refine⟨_,rfl,q2 hx' r _ ((s1.x _).trans sx4) ⟨⟨dx,upd_same⟩,?_,?_,fun x hx=>?_,fun x hx=>?_,fun x hx=>?_,?_,?_,?_⟩⟩
  ·rw[upd_ne (Ne.symm hS.pd1),upd_ne hS.d12,<- e2,upd_same,List.map_append];rfl
  ·rw[upd_ne (Ne.symm hS.pd2),upd_same,List.map_append];rfl
  ·rcases List.mem_append.mp hx with h | h
   ·exact TD.sameT st4 8 (hS1.td x h)
   ·rw[List.mem_singleton.mp h];exact TD.sameT st4 8 t1
  ·rcases List.mem_append.mp hx with h | h
   ·exact hS.sh x h
   ·rw[List.mem_singleton.mp h];exact hsh
  ·rcases List.mem_append.mp hx with h | h
   ·have:=hS.lt x h;omega
   ·rw[List.mem_singleton.mp h];show c < c+1;omega
  ·rw[List.map_append,List.nodup_append]
   refine⟨hS.nn,by simp,fun a ha b hb e=>?_⟩
   obtain⟨y,hy,rfl⟩:=List.mem_map.mp ha
   simp at hb
   exact hc y hy (by rw[e,hb])
  ·rw[List.map_append,List.nodup_append]
   refine⟨hS.nd,by simp,fun a ha b hb e=>?_⟩
   obtain⟨y,hy,rfl⟩:=List.mem_map.mp ha
   simp at hb
   exact hx' y hy (by rw[e,hb])
  ·rw[List.length_append];show _+1<=1000000;omega
def sp_Pages_card(P:Program)(w:World)(cs ob:Nat->Addr):Sp:=fun vs H Q E=>∃ p d1 d2 st c n,vs=[.ref p,.int n]/\StAt P w ob H p d1 d2 st c /\
 (∀ l k r es t,(n,tdOf l (.t (.v k::r)::es),t)∈st->∀ a H',Same H H'->H a=none->TD H' 1 (.t [.v (.int l),.v k]) (.ref a)->Q (.ref a) H') /\
 ((∀ x∈st,x.1≠n)->∀ d,H d=none->E (.ref (cs 0)) (some d) (upd H d (xD d [("number",.int n)])))
seal PE PT PW PA PS PSs PI PG PIfs PGs PO in
theorem ok_Pages_card{CT:Addr}{cs:Nat->Addr}{ob:Nat->Addr}{f:Addr}{fd:FuncData}(Z:Zs mg)(T:Tx K mg CT cs ob)(M_Pages_told_at:MeV P w K mg base 3 (ob 3) "told_at" (sp_Pages_told_at P w cs ob))(F:Fun K "card" "Pages.card" s_Pages_card f fd):FnOk P w K mg base (CX1 P w) 4 f fd ["self","number"] (sp_Pages_card P w cs ob):=by
 refine F.ok1 sc_Pages_card (fun vs H Q E h=>?_) (fun cdv A outer s H vs Q E hr h=>?_)
 ·obtain⟨p,d1,d2,st,c,n,rfl,_⟩:=h;rfl
 obtain⟨p,d1,d2,st,c,n,rfl,hS,q1,q2⟩:=h
 refine⟨_,(@pss_cons _ _ _ _ _ (ps_set (i:=2) sc_Pages_card.nd rfl (Or.inl rfl) (PE1.pe (pe1_methV (k:=3) (pv 0) hr rfl (pa_c (pv 1) pa_nil)) throws0))
  (pss_one (ps_ret (pe_tup (pa_c (pe_ix ix_tup (pv 2) pe_int (fun _ _=>rfl)) (pa_c (pe_ix ix_tup (pe_ix ix_tup (pe_ix ix_tup (pv 2) pe_int (fun _ _=>rfl)) pe_int (fun _ _=>rfl)) pe_int (fun _ _=>rfl)) pa_nil)))))),?_⟩
 refine rd_start (σ:=[some (.ref p),some (.int n),none]) rfl ?_
 walk_at "rd"
 obtain⟨dx,ho⟩:=hS.obj
 have cc:=T.ob_ 3 (by decide)
 refine rd_methV rfl ho rfl cc.cl (M_Pages_told_at.mono (by decide)) ⟨_,rfl,⟨p,d1,d2,st,c,n,rfl,hS,fun d t hm=>?_,fun hx d hd=>q2 hx d hd⟩⟩
 obtain⟨l,k,r,es,ed,hk,le⟩:=hS.sh _ hm
 have td:=hS.td _ hm
 dsimp only at ed td
 subst ed
 obtain⟨_,x,z,e,ht,t1,t2⟩:=td.pair_of
 cases e
 obtain⟨_,rfl⟩:=t1.flat
 obtain⟨m,e',xs,em,rfl,he,re⟩:=t2.tup
 cases re with
 | cons r1 _ =>
  obtain⟨_,b,ys,_,rfl,hb,rb⟩:=r1.tup
  cases rb with
  | cons r2 _ =>
   obtain⟨_,rfl⟩:=r2.flat
   exact⟨t,rfl,_,SqT.of ht,.int l,rfl,t,rfl,_,SqT.of ht,.ref e',rfl,e',rfl,_,SqT.of he,.ref b,at0' rfl,b,rfl,_,SqT.of hb,_,at0' rfl,two_ok,fun a ha=>q1 l _ _ _ t hm a _ (same_upd ha _) ha (TD.pair upd_same (.ofV rfl) (.ofV hk))⟩
def sp_rank_of(_:PySem.W.Frag):Sp:=fun vs H Q _=>∃ v,vs=[v]/\plainV v/\∀ p,H p=none->Q (.ref p) (upd H p (.tup (rk v)))
seal PE PT PW PA PS PSs PI PG PIfs PGs PO in
theorem ok_rank_of{CT:Addr}{cs:Nat->Addr}{ob:Nat->Addr}{f:Addr}{fd:FuncData}(Z:Zs mg)(T:Tx K mg CT cs ob)(F:Fun K "rank_of" "rank_of" s_rank_of f fd):FnOk P w K mg base CX0 1 f fd ["value"] (sp_rank_of K):=by
 refine F.ok sc_rank_of (fun vs H Q E h=>?_) (fun cdv A outer s H vs Q E hr h=>?_)
 ·obtain⟨v,rfl,_⟩:=h;rfl
 obtain⟨v,rfl,hv,q⟩:=h
 refine⟨_,(@pss_cons _ _ _ _ _ (ps_if (pt_cmpR op_isN (pv 0) pe_non (nomark _)) (pss_one (ps_ret (pe_tup (pa_c pe_int (pa_c pe_int pa_nil))))) pss_nil)
  (@pss_cons _ _ _ _ _ (ps_if (pt_val (pe_callB call_isinst rfl (Z.isinstance) bo_isinstance (pa_c (pv 0) (pa_c (pe_bltn rfl (Z.str) bo_str (v:=.ty "str") rfl) pa_nil))) (fun _=>rfl)) (pss_one (ps_ret (pe_tup (pa_c pe_int (pa_c (pv 0) pa_nil))))) pss_nil)
  (pss_one (ps_ret (pe_tup (pa_c pe_int (pa_c (pv 0) pa_nil))))))),?_⟩
 refine rd_start (σ:=[some v]) rfl ?_
 walk_at "rd"
 cases v with
 | non=>walk_at "rd";exact⟨by decide,q⟩
 | int n =>
  walk_at "rd"
  refine isI_of (.int n) kit_int_str ⟨_,rfl,?_⟩
  walk_at "rd"
  exact⟨by show 2<=sizeLine;decide,q⟩
 | str z =>
  walk_at "rd"
  refine isI_of (.str z) kit_str_str ⟨_,rfl,?_⟩
  walk_at "rd"
  exact⟨by show 2<=sizeLine;decide,q⟩
 | _=>exact hv.elim
def sp_before(_:PySem.W.Frag):Sp:=fun vs H Q _=>∃ a b,vs=[a,b]/\plainV a/\plainV b/\∀ H',Same H H'->Q (.bl (ltV a b)) H'
seal PE PT PW PA PS PSs PI PG PIfs PGs PO in
theorem ok_before{CT:Addr}{cs:Nat->Addr}{ob:Nat->Addr}{f:Addr}{fd:FuncData}(Z:Zs mg)(T:Tx K mg CT cs ob)(G_rank_of:Cal P w K mg base 1 "rank_of" ["value"] (sp_rank_of K))(F:Fun K "before" "before" s_before f fd):FnOk P w K mg base CX0 2 f fd ["one","other"] (sp_before K):=by
 refine F.ok sc_before (fun vs H Q E h=>?_) (fun cdv A outer s H vs Q E hr h=>?_)
 ·obtain⟨a,b,rfl,_⟩:=h;rfl
 obtain⟨a,b,rfl,ha,hb,q⟩:=h
 refine⟨_,(pss_one (ps_ret (pe_cmpR (op_ltV (hr.units0)) (pe_cal G_rank_of (k:=1) hr (by decide) rfl (pa_c (pv 0) pa_nil)) (pe_cal G_rank_of (k:=1) hr (by decide) rfl (pa_c (pv 1) pa_nil)) (nomark _)))),?_⟩
 refine rd_start (σ:=[some a,some b]) rfl ?_
 walk_at "rd"
 refine⟨a,rfl,ha,fun p hp=>?_⟩
 walk_at "rd"
 refine⟨b,rfl,hb,fun p2 hp2=>?_⟩
 walk_at "rd"
 exact⟨rk a,SqT.of (by rw[upd_ne (ne_of_none upd_same hp2)];exact upd_same),rk b,SqT.of upd_same,ltV a b,lex_rk ha hb,q _ ((same_upd hp _).trans (same_upd hp2 _))⟩
def EntD(d:Dt):Prop:=∃ k r,d=.t (.v k::r)/\keyV k
theorem key_h{k:V}(h:keyV k):hV k=true:=by
 cases k with
 | int n=>rfl
 | str z=>rfl
 | _=>exact h.elim
theorem key_pl{k:V}(h:keyV k):Pl.plainV k:=by
 cases k with
 | int n=>exact h
 | str z=>exact h
 | _=>exact h.elim
theorem lev6(k:V):levV k<=6:=M11.lev_le 6 _
theorem same_updA{H H':Hp}{d:Addr}{o:HO}(s:Same H H')(n:H d=none):Same H (upd H' d o):=fun b u hb=>by
 rw[upd_ne (ne_of_none hb n)];exact s b u hb
structure PartsAt(H:Hp)(p:Addr)(ps:List Addr)(parts:List (List V)):Prop where
 at_:H p=some (.lst (ps.map V.ref))
 len:ps.length=parts.length
 part:∀ (i:Nat) q l,ps[i]?=some q->parts[i]?=some l->H q=some (.lst l)
 nd:(p::ps).Nodup
section
variable{H:Hp}{p:Addr}{ps:List Addr}{parts:List (List V)}
theorem PartsAt.more{q:Addr}{l:List V}(pa:PartsAt H p ps parts)(hq:H q=none):PartsAt (upd (upd H q (.lst l)) p (.lst ((ps++[q]).map V.ref))) p (ps++[q]) (parts++[l]):=by
 have qp:q≠p:=fun z=>by rw[z,pa.at_]at hq;cases hq
 have nps:q∉ps:=fun z=>by
  obtain⟨i,hi,e⟩:=List.mem_iff_getElem.mp z
  have:=pa.part i q (parts[i]'(by rw[<- pa.len];exact hi)) (by rw[List.getElem?_eq_getElem hi,e]) (List.getElem?_eq_getElem _)
  rw[hq]at this;cases this
 have npp:p∉ps:=(List.nodup_cons.mp pa.nd).1
 refine⟨upd_same,by simp[pa.len],fun i r m e1 e2=>?_,?_⟩
 ·have rp:r≠p:=fun z=>by
   have hm:=List.mem_of_getElem? e1
   rw[z]at hm
   rcases List.mem_append.mp hm with w | w
   ·exact npp w
   ·exact qp (by simpa using w:p=q).symm
  rw[upd_ne rp]
  by_cases hl:i < ps.length
  ·rw[List.getElem?_append_left hl]at e1
   rw[List.getElem?_append_left (by rw[<- pa.len];exact hl)]at e2
   have rq:r≠q:=fun z=>nps (by rw[<- z];exact List.mem_of_getElem? e1)
   rw[upd_ne rq]
   exact pa.part i r m e1 e2
  ·rw[List.getElem?_append_right (by omega)]at e1
   rw[List.getElem?_append_right (by rw[<- pa.len];omega),<- pa.len]at e2
   have h0:i - ps.length=0:=by
    cases w:i - ps.length with
    | zero=>rfl
    | succ m=>rw[w]at e1;simp at e1
   rw[h0]at e1 e2
   simp at e1 e2
   subst e1 e2
   exact upd_same
 ·have:=pa.nd
  simp only[List.nodup_cons,List.nodup_append,List.mem_append,List.mem_singleton]at this ⊢
  refine⟨fun z=>z.elim npp fun z=>qp z.symm,this.2,by simp,fun a ha b hb=>?_⟩
  intro z;subst hb;subst z;exact nps ha
theorem PartsAt.on{ini:List Addr}{q:Addr}{li:List (List V)}{last new:List V}(pa:PartsAt H p (ini++[q]) (li++[last])):PartsAt (upd H q (.lst new)) p (ini++[q]) (li++[new]):=by
 have nd:=pa.nd
 have qp:p≠q:=fun z=>(List.nodup_cons.mp nd).1 (by rw[z];simp)
 have nq:q∉ini:=fun z=>by
  have:=(List.nodup_cons.mp nd).2
  rw[List.nodup_append]at this
  exact this.2.2 q z q (by simp) rfl
 have len:ini.length=li.length:=by have:=pa.len;simp at this;exact this
 refine⟨by rw[upd_ne qp];exact pa.at_,by simp[len],fun i r m e1 e2=>?_,nd⟩
 by_cases hl:i < ini.length
 ·rw[List.getElem?_append_left hl]at e1
  rw[List.getElem?_append_left (by omega)]at e2
  have rq:r≠q:=fun z=>nq (by rw[<- z];exact List.mem_of_getElem? e1)
  rw[upd_ne rq]
  exact pa.part i r m (by rw[List.getElem?_append_left hl];exact e1) (by rw[List.getElem?_append_left (by omega)];exact e2)
 ·rw[List.getElem?_append_right (by omega)]at e1
  rw[List.getElem?_append_right (by omega),<- len]at e2
  have h0:i - ini.length=0:=by
   cases w:i - ini.length with
   | zero=>rfl
   | succ m=>rw[w]at e1;simp at e1
  rw[h0]at e1 e2
  simp at e1 e2
  subst e1 e2
  exact upd_same
end
abbrev PP(H:Hp):List (List Dt)->List (List V)->Prop:=Paired fun ds vs=>Paired (fun d v=>TD H 6 d v) ds vs
theorem paired_snoc2{α β:Type}{F:α->β->Prop}:∀ {xs:List α} {us:List β} {u:β},Paired F xs (us++[u])->∃ ys y,xs=ys++[y]/\Paired F ys us/\F y u
 | [],us,u,h=>by have:=Paired.length h;simp at this
 | x::xs,[],u,h=>by
  cases h with
  | cons r t=>cases t;exact⟨[],x,rfl,.nil,r⟩
 | x::xs,v::us,u,h=>by
  cases h with
  | cons r t =>
   obtain⟨ys,y,rfl,t',f⟩:=paired_snoc2 t
   exact⟨x::ys,y,rfl,.cons r t',f⟩
structure CutSt(H H':Hp)(l:Int)(es:List Dt)(i:Nat)(p:Addr)(ps:List Addr)(parts:List (List V)):Prop where
 same:Same H H'
 fresh:∀ q∈p::ps,H q=none
 pa:PartsAt H' p ps parts
 pp:PP H (cutF levV l (es.take i)) parts
 lp:parts.length<=i
 lq:∀ part∈parts,part.length<=i
section
variable{H H':Hp}{l:Int}{es rr:List Dt}{i:Nat}{p p1 q1 e:Addr}{ps ini:List Addr}{parts li:List (List V)}{last:List V}{k:V}
theorem CutSt.start(hp:H p=none):CutSt H (upd H p (.lst [])) l es 0 p [] [] where
 same:=same_upd hp _
 fresh:=fun r hr=>by
  have:r=p:=by simpa using hr
  rw[this];exact hp
 pa:=⟨upd_same,rfl,fun i r m e=>by simp at e,by simp⟩
 pp:=.nil
 lp:=Nat.zero_le _
 lq:=fun x hx=>nomatch hx
theorem cut_tk(hd:es[i]?=some (.t (.v k::rr))):cutF levV l (es.take (i+1))=Tr.step levV l (cutF levV l (es.take i)) (.t (.v k::rr)):=by rw[List.take_add_one,hd];exact cutF_snoc _ _
theorem CutSt.at1(c:CutSt H H' l es i p ps parts)(hp1:H' p1=none):upd (upd H' p1 (.lst [])) p (.lst (ps.map V.ref++[V.ref p1])) p1=some (.lst []):=by
 have p1p:p1≠p:=fun z=>by rw[z,c.pa.at_]at hp1;cases hp1
 rw[upd_ne p1p];exact upd_same
theorem CutSt.atp(c:CutSt H H' l es i p ps parts)(hp1:H' p1=none):upd H' p1 (.lst []) p=some (.lst (ps.map V.ref)):=by
 have p1p:p1≠p:=fun z=>by rw[z,c.pa.at_]at hp1;cases hp1
 rw[upd_ne (Ne.symm p1p)];exact c.pa.at_
theorem CutSt.more(c:CutSt H H' l es i p ps parts)(hd:es[i]?=some (.t (.v k::rr)))(tx:TD H 6 (.t (.v k::rr)) (.ref e))(hp1:H' p1=none)(hc:cutF levV l (es.take i)=[]\/l < (levV k:Int)) :
 CutSt H (upd (upd (upd H' p1 (.lst [])) p (.lst (ps.map V.ref++[V.ref p1]))) p1 (.lst ([]++[V.ref e]))) l es (i+1) p (ps++[p1]) (parts++[[.ref e]]):=by
 have np:=c.fresh p List.mem_cons_self
 have np1:H p1=none:=by
  cases e:H p1 with
  | none=>rfl
  | some o=>rw[c.same _ _ e]at hp1;cases hp1
 have em:ps.map V.ref++[V.ref p1]=(ps++[p1]).map V.ref:=by simp
 refine⟨same_updA (same_updA (same_updA c.same np1) np) np1,fun r hr=>?_,?_,?_,?_,?_⟩
 ·rcases List.mem_cons.mp hr with z | z
  ·rw[z];exact np
  ·rcases List.mem_append.mp z with z | z
   ·exact c.fresh r (List.mem_cons_of_mem _ z)
   ·have:r=p1:=by simpa using z
    rw[this];exact np1
 ·rw[em];exact(c.pa.more (l:=[]) hp1).on (new:=[]++[.ref e])
 ·rw[cut_tk hd]
  unfold Tr.step
  rw[if_pos (show _\/l < (levV (keyD (Dt.t (Dt.v k::rr))):Int) from hc)]
  exact Paired.snoc c.pp (.cons tx .nil)
 ·have:=c.lp;simp;omega
 ·intro part hp
  rcases List.mem_append.mp hp with z | z
  ·have:=c.lq part z;omega
  ·rw[List.mem_singleton.mp z];simp
theorem CutSt.on(c:CutSt H H' l es i p (ini++[q1]) (li++[last]))(hd:es[i]?=some (.t (.v k::rr)))(tx:TD H 6 (.t (.v k::rr)) (.ref e))(hc:¬ l < (levV k:Int)) :
 CutSt H (upd H' q1 (.lst (last++[.ref e]))) l es (i+1) p (ini++[q1]) (li++[last++[.ref e]]):=by
 obtain⟨iniD,lastD,ec,co1,co2⟩:=paired_snoc2 c.pp
 refine⟨same_updA c.same (c.fresh q1 (by simp)),c.fresh,c.pa.on,?_,?_,?_⟩
 ·rw[cut_tk hd,ec]
  unfold Tr.step
  rw[if_neg (fun z=>z.elim (fun z=>by simp at z) fun z=>hc z)]
  simp only[List.dropLast_concat,List.getLast?_append,List.getLast?_singleton,Option.some_or,Option.getD_some]
  exact Paired.snoc co1 (Paired.snoc co2 tx)
 ·have:=c.lp;simp at this ⊢;omega
 ·intro part hp
  rcases List.mem_append.mp hp with z | z
  ·have:=c.lq part (List.mem_append_left _ z);omega
  ·rw[List.mem_singleton.mp z]
   have:=c.lq last (by simp)
   simp;omega
theorem CutSt.end_(c:CutSt H H' l es i p ps parts)(h:ps≠[]):∃ ini q1 li last,ps=ini++[q1]/\parts=li++[last]/\H' q1=some (.lst last)/\last.length<=i:=by
 obtain⟨ini,q1,rfl⟩:=snoc_of h
 obtain⟨li,last,rfl⟩:=snoc_of (xs:=parts) (fun z=>by have:=c.pa.len;rw[z]at this;simp at this)
 have len:ini.length=li.length:=by have:=c.pa.len;simp at this;exact this
 exact⟨ini,q1,li,last,rfl,rfl,c.pa.part ini.length q1 last (by simp) (by rw[len];simp),c.lq last (by simp)⟩
theorem CutSt.none_(c:CutSt H H' l es i p ps parts)(h:ps=[]):cutF levV l (es.take i)=[]:=List.eq_nil_of_length_eq_zero (by rw[Paired.length c.pp,<- c.pa.len,h];rfl)
end
def sp_cut(K:PySem.W.Frag):Sp:=fun vs H Q _=>∃ (a:Addr) (b:Bool) (l:Int) (xs:List V) (es:List Dt),vs=[.ref a,.int l]/\SqE b K H a xs/\xs.length<=900/\Paired (fun d v=>TD H 6 d v) es xs/\(∀ d∈es,EntD d) /\
 ∀ p ps parts H',Same H H'->(∀ q∈p::ps,H q=none)->PartsAt H' p ps parts->PP H (cutF levV l es) parts->Q (.ref p) H'
seal PE PT PW PA PS PSs PI PG PIfs PGs PO in
theorem ok_cut{CT:Addr}{cs:Nat->Addr}{ob:Nat->Addr}{f:Addr}{fd:FuncData}(Z:Zs mg)(T:Tx K mg CT cs ob)(G_level_of:Cal P w K mg base 3 "level_of" ["key"] (sp_level_of K))(F:Fun K "cut" "cut" s_cut f fd):FnOk P w K mg base CX0 4 f fd ["entries","level"] (sp_cut K):=by
 refine F.ok sc_cut (fun vs H Q E h=>?_) (fun cdv A outer s H vs Q E hr h=>?_)
 ·obtain⟨a,b,l,xs,es,rfl,_⟩:=h;rfl
 obtain⟨a,b,l,xs,es,rfl,hS,h900,re,hent,q⟩:=h
 refine⟨_,(@pss_cons _ _ _ _ _ (ps_set (i:=2) sc_cut.nd rfl (Or.inl rfl) (pe_lst pa_nil))
  (@pss_cons _ _ _ _ _ (ps_for PassesOwn.never rfl (pi_seq (pv 0)) (pg_name (i:=3) sc_cut.nd rfl (Or.inl rfl)) (@pss_cons _ _ _ _ _ (ps_if (PW.pt (pw_or (pt_not (pt_truth (pv 2) (fun _=>rfl))) (pw_or1 (pt_cmpR op_gt (pe_cal G_level_of (k:=3) hr (by decide) rfl (pa_c (pe_ix ix_tup (pv 3) pe_int (fun _ _=>rfl)) pa_nil)) (pv 1) (nomark _))))) (pss_one (ps_expr (pe_bm PySem.F.plainAttrs_list PySem.F.slot_list_append PySem.F.type_list_append mt_append (pv 2) (pa_c (pe_lst pa_nil) pa_nil)))) pss_nil)
  (pss_one (ps_expr (pe_bm PySem.F.plainAttrs_list PySem.F.slot_list_append PySem.F.type_list_append mt_append (pe_ix ix_list (pv 2) (pe_un un_neg pe_int) (fun _ _=>rfl)) (pa_c (pv 3) pa_nil))))))
  (pss_one (ps_ret (pv 2))))),?_⟩
 refine rd_start (σ:=[some (.ref a),some (.int l),none,none]) rfl ?_
 walk_at "rd"
 refine⟨by decide,fun p hp=>?_⟩
 refine⟨b,⟨_,hS.same (same_upd hp _)⟩,?_⟩
 have le:=Paired.length re
 refine foR_seq xs (fun i σ' H'=>∃ (ps:List Addr) (parts:List (List V)) (x3:Option V),σ'=[some (.ref a),some (.int l),some (.ref p),x3]/\CutSt H H' l es i p ps parts) ⟨[],[],_,rfl,.start hp⟩ ?_ ?_ ?_
 ·rintro i σ' H' _ ⟨_,_,_,_,c⟩
  exact hS.same c.same
 ·rintro i x σ' H' hx ⟨ps,parts,x3,rfl,c⟩
  have hi:=(List.getElem?_eq_some_iff.mp hx).1
  have hd:es[i]?=some (es[i]'(by omega)):=List.getElem?_eq_getElem _
  have tx:=paired_get re hd hx
  obtain⟨k,rr,ed,hk⟩:=hent _ (List.mem_of_getElem? hd)
  generalize es[i]'(by omega)=d at hd tx ed
  subst ed
  obtain⟨m,e,ws,_,rfl,he,rw_⟩:=id tx.tup
  have lp:=c.lp
  walk_at "rd"
  refine⟨_,.inl ⟨_,SqL.of c.pa.at_,rfl⟩,ite2 (fun h=>?_) fun h=>?_⟩
  ·have hps:ps=[]:=by simpa using h
   refine⟨.inl ⟨rfl,_,SqL.of c.pa.at_⟩,by decide,fun p1 hp1=>?_⟩
   exact⟨_,c.atp hp1,small1000 (by rw[List.length_map,c.pa.len];omega),_,SqL.of upd_same,.ref p1,atI_last _ _,.inl ⟨rfl,_,SqL.of (c.at1 hp1)⟩,p1,rfl,[],c.at1 hp1,by decide,_,_,c.more hd tx hp1 (.inl (c.none_ hps))⟩
  ·have hne:ps≠[]:=fun z=>h (by rw[z];rfl)
   cases rw_ with
   | @cons _ k' _ ws' r1 rw' =>
   obtain⟨_,rfl⟩:=r1.flat
   refine⟨_,SqT.of (c.same _ _ he),_,at0 _ _,_,rfl,hk,_,rfl,ite2 (fun h2=>?_) fun h2=>?_⟩
   ·refine⟨.inl ⟨rfl,_,SqL.of c.pa.at_⟩,by decide,fun p1 hp1=>?_⟩
    exact⟨_,c.atp hp1,small1000 (by rw[List.length_map,c.pa.len];omega),_,SqL.of upd_same,.ref p1,atI_last _ _,.inl ⟨rfl,_,SqL.of (c.at1 hp1)⟩,p1,rfl,[],c.at1 hp1,by decide,_,_,c.more hd tx hp1 (.inr h2)⟩
   ·obtain⟨ini,q1,li,last,rfl,rfl,hq1,ll⟩:=c.end_ hne
    exact⟨_,SqL.of c.pa.at_,.ref q1,by rw[List.map_append];exact atI_last _ _,.inl ⟨rfl,_,SqL.of hq1⟩,q1,rfl,last,hq1,small1000 (by omega),_,_,c.on hd tx h2⟩
 ·rintro σ' H' ⟨ps,parts,x3,rfl,c⟩
  walk_at "rd"
  have co:=c.pp
  rw[List.take_of_length_le (by omega)]at co
  exact q p ps parts H' c.same c.fresh c.pa co
def tblOf(st:StL):List (Int×Dt):=st.map fun x=>(x.1,x.2.1)
theorem StAt.fn{P:Program}{w:World}{ob:Nat->Addr}{H:Hp}{p d1 d2:Addr}{st:StL}{c:Int}(h:StAt P w ob H p d1 d2 st c):Fn (tblOf st) where
 num:=fun n d d' h1 h2=>by
  obtain⟨⟨a,b,t⟩,m1,e1⟩:=List.mem_map.mp h1
  obtain⟨⟨a',b',t'⟩,m2,e2⟩:=List.mem_map.mp h2
  injection e1 with x1 y1
  injection e2 with x2 y2
  dsimp only at x1 y1 x2 y2
  subst x1 y1 x2 y2
  exact(h.fun_ m1 m2).1
 dat:=fun n n' d h1 h2=>by
  obtain⟨⟨a,b,t⟩,m1,e1⟩:=List.mem_map.mp h1
  obtain⟨⟨a',b',t'⟩,m2,e2⟩:=List.mem_map.mp h2
  injection e1 with x1 y1
  injection e2 with x2 y2
  dsimp only at x1 y1 x2 y2
  subst x1 y1 x2 y2
  have q1:=h.getN m1
  have q2:=h.getN m2
  dsimp only at q1 q2
  rw[q1]at q2
  injection q2 with q2
  injection q2
def HdD(d:Dt):Prop:=∃ k n,d=hdOf k n/\keyV k
theorem HdD.ent{d:Dt}(h:HdD d):EntD d:=by
 obtain⟨k,n,rfl,hk⟩:=h
 exact⟨k,_,rfl,hk⟩
section
variable{P:Program}{w:World}{ob:Nat->Addr}{H H':Hp}{p d1 d2 a:Addr}{st:StL}{c l:Int}{es:List Dt}{Q:VK}{E:XK}
theorem kept_mk(hS:StAt P w ob H p d1 d2 st c)(hP:PgD ob H a l es)(hsh:PgSh (tdOf l es))(few:st.length < 1000000)
 (q:∀ n H3 st3 c3,SameX [p,d1,d2] H H3->StAt P w ob H3 p d1 d2 st3 c3->(n,tdOf l es)∈tblOf st3->(∀ x∈tblOf st,x∈tblOf st3)->st3.length<=st.length+1->Q (.int n) H3):sp_Pages_kept P w ob [.ref p,.ref a] H Q E :=
 ⟨p,d1,d2,st,c,a,l,es,rfl,hS,hP,hsh,few,fun n t hm H' s=>q n H' st c (s.x _) (hS.same s) (List.mem_map.mpr ⟨_,hm,rfl⟩) (fun x h=>h) (by omega),
  fun _ t H' s hS'=>q c H' _ _ s hS' (List.mem_map.mpr ⟨_,List.mem_append_right _ (List.mem_singleton.mpr rfl),rfl⟩) (fun x hx=>by
   obtain⟨y,hy,ey⟩:=List.mem_map.mp hx
   exact List.mem_map.mpr ⟨y,List.mem_append_left _ hy,ey⟩) (by rw[List.length_append];exact Nat.le_refl _)⟩
end
structure HdSt(P:Program)(w:World)(ob:Nat->Addr)(H1 H':Hp)(p d1 d2 hh:Addr)(st:StL)(l:Int)(parts:List (List Dt))(i:Nat)(st':StL)(c':Int)(hs:List Dt)(ys:List V):Prop where
 sx:SameX [p,d1,d2,hh] H1 H'
 tt:SameT H1 H'
 at_:H' hh=some (.lst ys)
 tys:Paired (fun d v=>TD H' 6 d v) hs ys
 ehs:∀ d∈hs,HdD d
 hds:Heads (tblOf st') l (parts.take i) hs
 stA:StAt P w ob H' p d1 d2 st' c'
 sub:∀ x∈tblOf st,x∈tblOf st'
 len:st'.length<=st.length+i
section
variable{P:Program}{w:World}{ob:Nat->Addr}{H1 H' H2 H3:Hp}{p d1 d2 hh u:Addr}{st st' st3:StL}{l c' c3 n:Int}{parts:List (List Dt)}{i:Nat}{hs rr rest:List Dt}{ys:List V}{k:V}
theorem HdSt.nhh(h:HdSt P w ob H1 H' p d1 d2 hh st l parts i st' c' hs ys):hh∉[p,d1,d2]:=fun z=>by
 obtain⟨dx,ho⟩:=h.stA.obj
 simp only[List.mem_cons,List.not_mem_nil,or_false]at z
 rcases z with z | z | z
 ·exact ne_of h.at_ ho (by intro z;cases z) z
 ·exact ne_of h.at_ h.stA.num (by intro z;cases z) z
 ·exact ne_of h.at_ h.stA.tol (by intro z;cases z) z
theorem HdSt.next(h:HdSt P w ob H1 H' p d1 d2 hh st l parts i st' c' hs ys)(hpd:parts[i]?=some (.t (.v k::rr)::rest))(hk:keyV k)(s2:Same H' H2)(s3:SameX [p,d1,d2] H2 H3)(hS3:StAt P w ob H3 p d1 d2 st3 c3)
 (hm:(n,tdOf l (.t (.v k::rr)::rest))∈tblOf st3) (sub3:∀ x∈tblOf st',x∈tblOf st3) (l3:st3.length<=st'.length+1) (hu:H3 u=none) :
 upd H3 u (.tup [k,.int n]) hh=some (.lst ys)/\HdSt P w ob H1 (upd (upd H3 u (.tup [k,.int n])) hh (.lst (ys++[.ref u]))) p d1 d2 hh st l parts (i+1) st3 c3 (hs++[hdOf k n]) (ys++[.ref u]):=by
 have hS2:=h.stA.same s2
 have hh3:=s3 _ _ h.nhh (s2 _ _ h.at_)
 have hh4:upd H3 u (.tup [k,.int n]) hh=some (.lst ys):=same_upd hu _ _ _ hh3
 have uh:u≠hh:=fun z=>by rw[z,hh3]at hu;cases hu
 have t35:SameT H3 (upd (upd H3 u (.tup [k,.int n])) hh (.lst (ys++[.ref u]))):=(same_upd hu _).t.trans (sameT_lst hh4)
 have t25:=(sameT_st hS2 s3).trans t35
 have len:=h.len
 refine⟨hh4,h.sx.trans ((s2.x _).trans ((s3.mono (by simp)).trans (((same_upd hu _).x _).upd (by simp)))),h.tt.trans (s2.t.trans t25),upd_same,Paired.snoc (TDs.sameT h.tys (s2.t.trans t25)) (TD.pair (by rw[upd_ne uh];exact upd_same) (.ofV (key_h hk)) (.ofV rfl)),fun d hd=>?_,?_,?_,fun x hx=>sub3 x (h.sub x hx),by omega⟩
 ·rcases List.mem_append.mp hd with z | z
  ·exact h.ehs d z
  ·rw[List.mem_singleton.mp z];exact⟨k,_,rfl,hk⟩
 ·rw[List.take_add_one,hpd]
  exact(h.hds.mono sub3).snoc hm
 ·obtain⟨dx3,ho3⟩:=hS3.obj
  exact hS3.keep t35 (by rw[upd_ne (ne_of ho3 hh3 (by intro z;cases z)),upd_ne (ne_of_none ho3 hu)]) (by rw[upd_ne (ne_of hS3.num hh3 (by intro z;cases z)),upd_ne (ne_of_none hS3.num hu)]) (by rw[upd_ne (ne_of hS3.tol hh3 (by intro z;cases z)),upd_ne (ne_of_none hS3.tol hu)])
theorem HdSt.few(h:HdSt P w ob H1 H' p d1 d2 hh st l parts i st' c' hs ys):ys.length<=i:=by
 have h1:=Paired.length h.tys
 have h2:=h.hds.length
 rw[List.length_take]at h2
 omega
end
theorem parts_len{lv:V->Nat}{l:Int}{es:List Dt}:(cutF lv l es).length<=es.length:=by
 have h1:∀ (ls:List (List Dt)),(∀ x∈ls,x≠[])->ls.length<=ls.flatten.length:=by
  intro ls
  induction ls with
  | nil=>intro _;exact Nat.le_refl _
  | cons y ys ih =>
   intro h
   have:=ih fun x hx=>h x (List.mem_cons_of_mem _ hx)
   have:0 < y.length:=List.length_pos_iff.mpr (h y List.mem_cons_self)
   simp only[List.length_cons,List.flatten_cons,List.length_append];omega
 have c:=cutF_ok (lv:=lv) l es
 have:=h1 _ c.full
 rw[c.flat]at this
 exact this
theorem part_at{H1:Hp}{a:Addr}{ps:List Addr}{parts:List (List V)}{l:Int}{es:List Dt}{H0:Hp}(pa:PartsAt H1 a ps parts)(pp:PP H0 (cutF levV l es) parts)(hent:∀ d∈es,EntD d){i:Nat}{qa:Addr}(hqa:ps[i]?=some qa) :
 ∃ k rr rest part,(cutF levV l es)[i]?=some (.t (.v k::rr)::rest)/\keyV k/\H1 qa=some (.lst part)/\Paired (fun d v=>TD H0 6 d v) (.t (.v k::rr)::rest) part/\part.length<=es.length/\rest.length < es.length:=by
 have hi:=(List.getElem?_eq_some_iff.mp hqa).1
 have li:i < parts.length:=by rw[<- pa.len];exact hi
 have lpp:=Paired.length pp
 have cok:=cutF_ok (lv:=levV) l es
 have hpt:parts[i]?=some parts[i]:=List.getElem?_eq_getElem li
 have hpd:(cutF levV l es)[i]?=some ((cutF levV l es)[i]'(by omega)):=List.getElem?_eq_getElem _
 have tp:=paired_get pp hpd hpt
 have full:=cok.full _ (List.mem_of_getElem? hpd)
 have mem:∀ d∈(cutF levV l es)[i]'(by omega),d∈es:=fun d hd=>by rw[<- cok.flat];exact List.mem_flatten.mpr ⟨_,List.mem_of_getElem? hpd,hd⟩
 have h1:=(List.sublist_flatten_of_mem (List.mem_of_getElem? hpd)).length_le
 rw[cok.flat]at h1
 generalize (cutF levV l es)[i]'(by omega)=partD at hpd tp full mem h1
 match partD,full,hpd,tp,mem,h1 with
 | d0::rest,_,hpd,tp,mem,h1 =>
  obtain⟨k,rr,ed,hk⟩:=hent d0 (mem d0 List.mem_cons_self)
  subst ed
  have h2:=Paired.length tp
  exact⟨k,rr,rest,_,hpd,hk,pa.part i qa _ hqa hpt,tp,by omega,by simp at h1;omega⟩
def sp_heads_of(P:Program)(w:World)(ob:Nat->Addr):Sp:=fun vs H Q _=>∃ p d1 d2 st c l e b xs es,vs=[.ref p,.int l,.ref e]/\StAt P w ob H p d1 d2 st c/\HE b H e xs/\Paired (fun d v=>TD H 6 d v) es xs/\(∀ d∈es,EntD d)/\xs.length<=900/\st.length+xs.length<=1000000 /\
 ∀ r H' st' c' hs ys,SameX [p,d1,d2] H H'->H r=none->H' r=some (.lst ys)->Paired (fun d v=>TD H' 6 d v) hs ys->(∀ d∈hs,HdD d)->Heads (tblOf st') l (cutF levV l es) hs->StAt P w ob H' p d1 d2 st' c'->(∀ x∈tblOf st,x∈tblOf st')->st'.length<=st.length+xs.length->Q (.ref r) H'
seal PE PT PW PA PS PSs PI PG PIfs PGs PO in
theorem ok_heads_of{CT:Addr}{cs:Nat->Addr}{ob:Nat->Addr}{f:Addr}{fd:FuncData}(Z:Zs mg)(T:Tx K mg CT cs ob)(G_cut:Cal P w K mg base 4 "cut" ["entries","level"] (sp_cut K))(G_page_of:Cal P w K mg base 4 "page_of" ["level","entries"] (sp_page_of K ob))(M_Page_first:MeV P w K mg base 1 (ob 0) "first" (sp_Page_first K ob))(M_Leaf_first:MeV P w K mg base 1 (ob 1) "first" (sp_Page_first K ob))(M_Twig_first:MeV P w K mg base 1 (ob 2) "first" (sp_Page_first K ob))(M_Pages_kept:MeV P w K mg base 2 (ob 3) "kept" (sp_Pages_kept P w ob))(F:Fun K "heads_of" "heads_of" s_heads_of f fd):FnOk P w K mg base CX0 5 f fd ["pages","level","entries"] (sp_heads_of P w ob):=by
 refine F.ok sc_heads_of (fun vs H Q E h=>?_) (fun cdv A outer s H vs Q E hr h=>?_)
 ·obtain⟨p,d1,d2,st,c,l,e,b,xs,es,rfl,_⟩:=h;rfl
 obtain⟨p,d1,d2,st,c,l,e,b,xs,es,rfl,hS,he,re,hent,lx,few,q⟩:=h
 refine⟨_,(@pss_cons _ _ _ _ _ (ps_set (i:=3) sc_heads_of.nd rfl (Or.inl rfl) (pe_lst pa_nil))
  (@pss_cons _ _ _ _ _ (ps_for PassesOwn.never rfl (pi_list (pe_cal G_cut (k:=4) hr (by decide) rfl (pa_c (pv 2) (pa_c (pv 1) pa_nil)))) (pg_name (i:=4) sc_heads_of.nd rfl (Or.inl rfl)) (@pss_cons _ _ _ _ _ (ps_set (i:=5) sc_heads_of.nd rfl (Or.inl rfl) (pe_cal G_page_of (k:=4) hr (by decide) rfl (pa_c (pv 1) (pa_c (pv 4) pa_nil))))
  (pss_one (ps_expr (pe_bm PySem.F.plainAttrs_list PySem.F.slot_list_append PySem.F.type_list_append mt_append (pv 3) (pa_c (pe_tup (pa_c (PE1.pe (pe1_methV0 (k:=4) (pv 5) hr rfl) throwsN) (pa_c (PE1.pe (pe1_methV (k:=4) (pv 0) hr rfl (pa_c (pv 5) pa_nil)) throwsN) pa_nil))) pa_nil))))))
  (pss_one (ps_ret (pv 3))))),?_⟩
 refine rd_start (σ:=[some (.ref p),some (.int l),some (.ref e),none,none,none]) rfl ?_
 walk_at "rd"
 have cc:=T.ob_ 3 (by decide)
 have lre:=Paired.length re
 refine⟨by decide,fun hh hhh=>?_⟩
 have s0:=same_upd hhh (.lst [])
 have c_hh:upd H hh (.lst []) hh=some (.lst []):=upd_same
 generalize upd H hh (.lst [])=H0 at s0 c_hh ⊢
 have hsq:SqE b K H0 e xs:=by
  have he0:=s0 _ _ he
  cases b with
  | true=>exact SqT.of he0
  | false=>exact SqL.of he0
 refine⟨e,b,l,xs,es,rfl,hsq,lx,TDs.sameT re s0.t,hent,fun a ps parts H1 s1 fr pa pp=>⟨a,rfl,⟨_,SqL.of pa.at_⟩,?_⟩⟩
 have s01:=s0.trans s1
 have hS1:=hS.same s01
 obtain⟨dx1,ho1⟩:=hS1.obj
 have hh1:=s1 _ _ c_hh
 have nin:∀ q∈a::ps,∀ o,H1 q=some (.lst o)->q∉[p,d1,d2,hh]:=fun q hq o hqo z=>by
  simp only[List.mem_cons,List.not_mem_nil,or_false]at z
  rcases z with z | z | z | z
  ·exact ne_of hqo ho1 (by intro z;cases z) z
  ·exact ne_of hqo hS1.num (by intro z;cases z) z
  ·exact ne_of hqo hS1.tol (by intro z;cases z) z
  ·exact ne_of_none c_hh (fr q hq) z.symm
 have lpp:=Paired.length pp
 have lpl:(cutF levV l es).length<=es.length:=parts_len
 refine foR_list (ps.map V.ref) (fun i σ' H'=>∃ st' c' hs ys x4 x5,σ'=[some (.ref p),some (.int l),some (.ref e),some (.ref hh),x4,x5]/\HdSt P w ob H1 H' p d1 d2 hh st l (cutF levV l es) i st' c' hs ys)
  ⟨st,c,[],[],_,_,rfl,SameX.refl _ _,SameT.refl _,hh1,.nil,(fun d h=>nomatch h),.nil,hS1,(fun x h=>h),by omega⟩ (fun i σ' H' _ ⟨_,_,_,_,_,_,_,h⟩=>SqL.of (h.sx _ _ (nin a List.mem_cons_self _ pa.at_) pa.at_)) ?_ ?_
 ·rintro i x σ' H' hx ⟨st',c',hs,ys,x4,x5,rfl,hd⟩
  rw[List.getElem?_map]at hx
  obtain⟨qa,hqa,rfl⟩:=Option.map_eq_some_iff.mp hx
  have hi:=(List.getElem?_eq_some_iff.mp hqa).1
  have hlen:=hd.len
  have hfew:=hd.few
  have hpl:=pa.len
  obtain⟨k,rr,rest,part,hpd,hk,hq1,tp,lpart,lrest⟩:=part_at pa pp hent hqa
  have hqA:=hd.sx _ _ (nin qa (List.mem_cons_of_mem _ (List.mem_of_getElem? hqa)) _ hq1) hq1
  walk_at "rd"
  refine⟨l,qa,false,part,_,rfl,hqA,TDs.sameT tp (s1.t.trans hd.tt),by omega,fun pg H2 s2 hpg pgd=>?_⟩
  have hS2:=hd.stA.same s2
  obtain⟨dx2,ho2⟩:=hS2.obj
  obtain⟨tw,dxa,t0,etw,hpa,ht⟩:=id pgd
  have Mf:MeV P w K mg base 1 (ob (if tw=true then 2 else 1)) "first" (sp_Page_first K ob):=by cases tw with | true=>exact M_Twig_first | false=>exact M_Leaf_first
  refine⟨.inl ⟨rfl,_,SqL.of (s2 _ _ hd.at_)⟩,?_⟩
  refine rd_methV0 rfl hpa (by cases tw <;> rfl) (T.ob_ _ ob12).cl (Mf.mono (by decide)) ⟨pg,l,k,rr,rest,rfl,pgd,?_⟩
  refine rd_methV rfl ho2 rfl cc.cl (M_Pages_kept.mono (by decide)) ⟨_,rfl,?_⟩
  simp only[tNil]
  refine kept_mk hS2 pgd ⟨l,k,rr,rest,rfl,key_h hk,by omega⟩ (by omega) fun n H3 st3 c3 s3 hS3 hm sub3 l3=>?_
  show _/\_
  refine⟨two_ok,fun u hu=>?_⟩
  obtain⟨hh4,hd'⟩:=hd.next hpd hk s2 s3 hS3 hm sub3 l3 hu
  exact⟨ys,hh4,small1000 (by omega),st3,c3,_,_,_,_,⟨rfl,rfl⟩,hd'⟩
 ·rintro σ' H' ⟨st',c',hs,ys,x4,x5,rfl,hd⟩
  walk_at "rd"
  have hds:=hd.hds
  have l':=hd.len
  rw[List.length_map,List.take_of_length_le (by rw[lpp,<- pa.len];exact Nat.le_refl _)]at hds
  rw[List.length_map,pa.len]at l'
  exact q hh H' st' c' hs ys (fun b o nb hb=>hd.sx b o (fun z=>by
   simp only[List.mem_cons,List.not_mem_nil,or_false]at z nb
   rcases z with z | z | z | z
   ·exact nb (.inl z)
   ·exact nb (.inr (.inl z))
   ·exact nb (.inr (.inr z))
   ·rw[z,hhh]at hb;cases hb) (s01 _ _ hb)) hhh hd.at_ hd.tys hd.ehs hds hd.stA hd.sub (by omega)
inductive Ups(lv:V->Nat)(tbl:List (Int×Dt))(j0:Nat)(hs0:List Dt):Nat->List Dt->Prop
 | refl:Ups lv tbl j0 hs0 j0 hs0
 | snoc {j:Nat} {hs hs':List Dt} (u:Ups lv tbl j0 hs0 j hs) (h1:1 < hs.length) (h2:Heads tbl ((j+1:Nat):Int) (cutF lv ((j+1:Nat):Int) hs) hs'):Ups lv tbl j0 hs0 (j+1) hs'
theorem Ups.mono{lv:V->Nat}{tbl tbl':List (Int×Dt)}{j0 j:Nat}{hs0 hs:List Dt}(u:Ups lv tbl j0 hs0 j hs)(s:∀ x∈tbl,x∈tbl'):Ups lv tbl' j0 hs0 j hs:=by
 induction u with
 | refl=>exact .refl
 | snoc _ h1 h2 ih=>exact .snoc ih h1 (h2.mono s)
theorem Ups.part{lv:V->Nat}{tbl:List (Int×Dt)}{rows hs0:List Dt}(h0:Heads tbl 0 (cutF lv 0 rows) hs0){j:Nat}{hs:List Dt}(u:Ups lv tbl 0 hs0 j hs):∃ L,Part lv tbl rows (j+1) L/\L (j+1)=hs:=by
 induction u with
 | refl=>exact⟨_,Part.start h0,rfl⟩
 | @snoc j hs hs' u h1 h2 ih =>
  obtain⟨L,p,e⟩:=ih
  subst e
  exact⟨_,p.next (fun x h=>h) (by omega) h1 h2,by show(if j+1+1=j+1+1 then hs' else _)=hs';rw[if_pos rfl]⟩
def sp_crowned(P:Program)(w:World)(ob:Nat->Addr):Sp:=fun vs H Q _=>∃ p d1 d2 st c e hs ys,∃ j:Nat,vs=[.ref p,.int j,.ref e]/\j<=6/\StAt P w ob H p d1 d2 st c/\H e=some (.lst ys)/\Paired (fun d v=>TD H 6 d v) hs ys/\(∀ d∈hs,HdD d)/\ys.length<=900/\st.length+7 * ys.length<=1000000 /\
 ∀ H' st' c' m above v,SameX [p,d1,d2] H H'->StAt P w ob H' p d1 d2 st' c'->(∀ x∈tblOf st,x∈tblOf st')->st'.length<=st.length+7 * ys.length->Ups levV (tblOf st') j hs m above->m<=7->((hs=[]/\v=.non)\/(hs≠[]/\∃ k n,above=[hdOf k n]/\v=.int n))->Q v H'
seal PE PT PW PA PS PSs PI PG PIfs PGs PO in
theorem ok_crowned{CT:Addr}{cs:Nat->Addr}{ob:Nat->Addr}{f:Addr}{fd:FuncData}(Z:Zs mg)(T:Tx K mg CT cs ob)(G_heads_of:Cal P w K mg base 5 "heads_of" ["pages","level","entries"] (sp_heads_of P w ob))(F:Fun K "crowned" "crowned" s_crowned f fd):FnOk P w K mg base CX0 6 f fd ["pages","level","heads"] (sp_crowned P w ob):=by
 refine F.ok sc_crowned (fun vs H Q E h=>?_) (fun cdv A outer s H vs Q E hr h=>?_)
 ·obtain⟨p,d1,d2,st,c,e,hs,ys,j,rfl,_⟩:=h;rfl
 obtain⟨p,d1,d2,st,c,e,hs,ys,j,rfl,hj,hS,he,re,hhd,ly,few,q⟩:=h
 refine⟨_,(@pss_cons _ _ _ _ _ (ps_set (i:=3) sc_crowned.nd rfl (Or.inl rfl) (pv 1))
  (@pss_cons _ _ _ _ _ (ps_set (i:=4) sc_crowned.nd rfl (Or.inl rfl) (pv 2))
  (@pss_cons _ _ _ _ _ (ps_while PassesOwn.never (pt_cmpR op_gt (pe_callB call_len_seq rfl (Z.len) bo_len (pa_c (pv 4) pa_nil)) pe_int (nomark _)) (@pss_cons _ _ _ _ _ (ps_set (i:=3) sc_crowned.nd rfl (Or.inl rfl) (pe_op op_add (pv 3) pe_int))
  (pss_one (ps_set (i:=4) sc_crowned.nd rfl (Or.inl rfl) (pe_cal G_heads_of (k:=5) hr (by decide) rfl (pa_c (pv 0) (pa_c (pv 3) (pa_c (pv 4) pa_nil))))))))
  (pss_one (ps_ret (pe_ifExp (pt_truth (pv 4) (fun _=>rfl)) (pe_ix ix_tup (pe_ix ix_list (pv 4) pe_int (fun _ _=>rfl)) pe_int (fun _ _=>rfl)) pe_non)))))),?_⟩
 refine rd_start (σ:=[some (.ref p),some (.int j),some (.ref e),none,none]) rfl ?_
 walk_at "rd"
 refine⟨fun m σ' H'=>∃ (t:Nat) (st':StL) (c':Int) (b:Addr) (above:List Dt) (zs:List V),σ'=[some (.ref p),some (.int j),some (.ref e),some (.int t),some (.ref b)]/\m=7 - t/\t<=7/\(t=7->above.length<=1)/\j<=t/\SameX [p,d1,d2] H H'/\H' b=some (.lst zs)/\Paired (fun d v=>TD H' 6 d v) above zs/\(∀ d∈above,HdD d)/\zs.length<=ys.length/\StAt P w ob H' p d1 d2 st' c'/\(∀ x∈tblOf st,x∈tblOf st')/\st'.length<=st.length+(t - j) * ys.length/\Ups levV (tblOf st') j hs t above/\(hs=[]↔above=[]),
  ⟨_,j,st,c,e,hs,ys,rfl,rfl,by omega,fun z=>by omega,Nat.le_refl _,SameX.refl _ _,he,re,hhd,Nat.le_refl _,hS,fun x h=>h,by omega,.refl,Iff.rfl⟩,?_⟩
 rintro m σ' H' ⟨t,st',c',b,above,zs,rfl,rfl,ht,h7,hjt,sx,hb,tz,hd,lz,hS',sub,l',ups,emp⟩
 have laz:=Paired.length tz
 have e1:((t+1:Nat):Int)=(t:Int)+1:=by omega
 walk_at "rd"
 refine⟨zs,.inl (SqL.of hb),ite2 (fun h1=>?_) fun h1=>?_⟩
 ·have ht6:t<=6:=by
   rcases Nat.lt_or_ge t 7 with z | z
   ·omega
   ·have:=h7 (by omega);omega
  have hb1:(t - j) * ys.length<=6 * ys.length:=Nat.mul_le_mul_right _ (by omega)
  refine⟨fun σ2 H2=>∃ (t2:Nat) (st':StL) (c':Int) (b:Addr) (above:List Dt) (zs:List V),t2=t+1/\σ2=[some (.ref p),some (.int j),some (.ref e),some (.int t2),some (.ref b)]/\t2<=7/\(t2=7->above.length<=1)/\j<=t2/\SameX [p,d1,d2] H H2/\H2 b=some (.lst zs)/\Paired (fun d v=>TD H2 6 d v) above zs/\(∀ d∈above,HdD d)/\zs.length<=ys.length/\StAt P w ob H2 p d1 d2 st' c'/\(∀ x∈tblOf st,x∈tblOf st')/\st'.length<=st.length+(t2 - j) * ys.length/\Ups levV (tblOf st') j hs t2 above/\(hs=[]↔above=[]),
   fun σ2 H2 ⟨t2,a1,a2,a3,a4,a5,a6,a7,b1,b2,b3,b4,b5⟩=>⟨7 - t2,by omega,t2,a1,a2,a3,a7,rfl,b1,a4,b2,b3,b4,a5,b5⟩,?_⟩
  walk_at "rd"
  refine⟨p,d1,d2,st',c',(t:Int)+1,b,false,zs,above,rfl,hS',hb,tz,fun d h=>(hd d h).ent,by omega,by omega,fun r H2 st2 c2 hs2 ys2 sx2 hr hr2 tys2 hd2 heads2 hS2 sub2 l2=>?_⟩
  have ls2:=heads2.length
  have lt2:=Paired.length tys2
  have lc:=parts_len (lv:=levV) (l:=(t:Int)+1) (es:=above)
  have ane:above≠[]:=fun z=>by rw[z]at laz;simp at laz;omega
  refine⟨st2,c2,r,⟨by omega,rfl⟩,by omega,hs2,fun z=>?_,by omega,sx.trans sx2,ys2,hr2,tys2,hd2,by omega,hS2,fun x hx=>sub2 x (sub x hx),?_,.snoc (ups.mono sub2) (by omega) (by rw[e1];exact heads2),?_⟩
  ·obtain rfl:t=6:=by omega
   rw[ls2,cutF_one ane (fun d _=>by have:=lev6 (keyD d);omega)]
   exact Nat.le_refl _
  ·have:t+1 - j=(t - j)+1:=by omega
   rw[this,Nat.succ_mul]
   omega
  ·constructor
   ·intro z;exact absurd (emp.mp z) ane
   ·intro z
    rw[z]at ls2
    exact absurd (List.length_eq_zero_iff.mp ls2.symm) (cutF_ne ane)
 ·have hb1:(t - j) * ys.length<=7 * ys.length:=Nat.mul_le_mul_right _ (by omega)
  match above,zs,tz,hd,emp,ups,laz,h1,hb with
  | [],_,.nil,_,emp,ups,_,_,hb =>
   refine⟨false,.inl ⟨_,SqL.of hb,rfl⟩,?_⟩
   rw[if_neg (by decide)]
   exact q H' st' c' t [] .non sx hS' sub (by omega) ups ht (.inl ⟨emp.mpr rfl,rfl⟩)
  | [d],_,.cons (b:=z) tz .nil,hd,emp,ups,_,_,hb =>
   obtain⟨k,n,rfl,hk⟩:=hd d List.mem_cons_self
   obtain⟨u,x1,x2,rfl,hu,u1,u2⟩:=TD.pair_of tz
   obtain⟨_,rfl⟩:=u1.flat
   obtain⟨_,rfl⟩:=u2.flat
   refine⟨true,.inl ⟨_,SqL.of hb,rfl⟩,?_⟩
   rw[if_pos rfl]
   exact⟨_,SqL.of hb,.ref u,rfl,u,rfl,_,SqT.of hu,.int n,rfl,q H' st' c' t [hdOf x1 n] (.int n) sx hS' sub (by omega) ups ht (.inr ⟨(fun z=>by have:=emp.mp z;cases this),x1,n,rfl,rfl⟩)⟩
  | d1::d2::r,_,.cons _ (.cons _ _),_,_,_,laz,h1,_=>simp at h1;omega
def WrongAt(ks:List V)(i:Nat)(k:V):Prop:=ks[i+1]?=some k/\(∀ j,j < i->∀ a b,ks[j]?=some a->ks[j+1]?=some b->Pl.ltV a b=true)/\∀ a,ks[i]?=some a->Pl.ltV a k=false
theorem up_not_wrong{ks:List V}(up:ks.Pairwise fun a b=>Pl.ltV a b=true){i:Nat}{k:V}(h:WrongAt ks i k):False:=by
 obtain⟨a1,b1⟩:=List.getElem?_eq_some_iff.mp h.1
 have:=List.pairwise_iff_getElem.mp up i (i+1) (by omega) a1 (by omega)
 rw[b1,h.2.2 _ (List.getElem?_eq_getElem (show i < ks.length by omega))]at this
 cases this
def sp_built(P:Program)(w:World)(cs ob:Nat->Addr):Sp:=fun vs H Q E=>∃ p d1 d2 st c e xs es,vs=[.ref p,.ref e]/\StAt P w ob H p d1 d2 st c/\H e=some (.lst xs)/\Paired (fun d v=>TD H 6 d v) es xs/\(∀ d∈es,EntD d)/\xs.length<=900/\st.length+8 * xs.length<=1000000 /\
 (((es.map keyD).Pairwise (fun a b=>Pl.ltV a b=true)/\∀ H' st' c' v,SameX [p,d1,d2] H H'->StAt P w ob H' p d1 d2 st' c'->(∀ x∈tblOf st,x∈tblOf st')->st'.length<=st.length+8 * xs.length->((es=[]/\v=.non)\/(es≠[]/\∃ top L k n,top<=6/\Chain levV (tblOf st') es top L/\L (top+1)=[hdOf k n]/\v=.int n))->Q v H') \/
  ∃ i k,WrongAt (es.map keyD) i k/\∀ H' d,Same H H'->H' d=none->E (.ref (cs 1)) (some d) (upd H' d (xD d [("key",k)])))
seal PE PT PW PA PS PSs PI PG PIfs PGs PO in
theorem ok_built{CT:Addr}{cs:Nat->Addr}{ob:Nat->Addr}{f:Addr}{fd:FuncData}(Z:Zs mg)(T:Tx K mg CT cs ob)(G_crowned:Cal P w K mg base 6 "crowned" ["pages","level","heads"] (sp_crowned P w ob))(G_heads_of:Cal P w K mg base 5 "heads_of" ["pages","level","entries"] (sp_heads_of P w ob))(G_before:Cal P w K mg base 2 "before" ["one","other"] (sp_before K))(K_NotRising:MkX P w K mg base 1 "NotRising" (cs 1) CT ["key"])(F:Fun K "built" "built" s_built f fd):FnOk P w K mg base (CX1 P w) 7 f fd ["pages","rows"] (sp_built P w cs ob):=by
 refine F.ok1 sc_built (fun vs H Q E h=>?_) (fun cdv A outer s H vs Q E hr h=>?_)
 ·obtain⟨p,d1,d2,st,c,e,xs,es,rfl,_⟩:=h;rfl
 obtain⟨p,d1,d2,st,c,e,xs,es,rfl,hS,he,re,hent,lx,few,hq⟩:=h
 refine⟨_,(@pss_cons _ _ _ _ _ (ps_for own1 rfl (pi_range2 rfl (Z.range) (pa_c pe_int (pa_c (pe_callB call_len_seq rfl (Z.len) bo_len (pa_c (pv 1) pa_nil)) pa_nil))) (pg_name (i:=2) sc_built.nd rfl (Or.inl rfl)) (pss_one (ps_if (pt_not (pt_val (pe_cal G_before (k:=6) hr (by decide) rfl (pa_c (pe_ix ix_tup (pe_ix ix_list (pv 1) (pe_op op_sub (pv 2) pe_int) (fun _ _=>rfl)) pe_int (fun _ _=>rfl)) (pa_c (pe_ix ix_tup (pe_ix ix_list (pv 1) (pv 2) (fun _ _=>rfl)) pe_int (fun _ _=>rfl)) pa_nil))) (fun _=>rfl))) (pss_one (ps_raiseX throws0 rfl rfl rfl K_NotRising (k:=6) hr (by decide) (pa_c (pe_ix ix_tup (pe_ix ix_list (pv 1) (pv 2) (fun _ _=>rfl)) pe_int (fun _ _=>rfl)) pa_nil))) pss_nil)))
  (pss_one (ps_ret (pe_cal G_crowned (k:=6) hr (by decide) rfl (pa_c (pv 0) (pa_c pe_int (pa_c (pe_cal G_heads_of (k:=6) hr (by decide) rfl (pa_c (pv 0) (pa_c pe_int (pa_c (pv 1) pa_nil)))) pa_nil))))))),?_⟩
 refine rd_start (σ:=[some (.ref p),some (.ref e),none]) rfl ?_
 walk_at "rd"
 have le:=Paired.length re
 refine⟨xs,.inl (SqL.of he),1,_,⟨rfl,rfl⟩,⟨by decide,by decide,by omega,by omega⟩,?_⟩
 refine foR_range (fun i σ' H'=>∃ x2,σ'=[some (.ref p),some (.ref e),x2]/\Same H H'/\∀ i' k',WrongAt (es.map keyD) i' k'->i<=i') ⟨_,rfl,Same.refl _,fun _ _ _=>Nat.zero_le _⟩ ?_ ?_
 ·rintro i σ' H' hi ⟨x2,rfl,s1,nw⟩
  have hi':i+1 < xs.length:=by omega
  have row:∀ n,n < xs.length->∃ u k r,xs[n]?=some (.ref u)/\H' u=some (.tup (k::r))/\keyV k/\(es.map keyD)[n]?=some k:=fun n hn=>by
   have hx:xs[n]?=some xs[n]:=List.getElem?_eq_getElem hn
   have hd:es[n]?=some (es[n]'(by omega)):=List.getElem?_eq_getElem _
   have tx:=paired_get re hd hx
   obtain⟨k,rr,ed,hk⟩:=hent _ (List.mem_of_getElem? hd)
   rw[ed]at tx
   obtain⟨m,u,ws,_,eu,hu,rw_⟩:=tx.tup
   cases rw_ with
   | @cons _ k' _ ws' r1 rw' =>
   obtain⟨_,rfl⟩:=r1.flat
   exact⟨u,_,ws',by rw[hx,eu],s1 _ _ hu,hk,by rw[List.getElem?_map,hd,ed];rfl⟩
  obtain⟨u0,k0,r0,g0,t0,hk0,m0⟩:=row i (by omega)
  obtain⟨u1,k1,r1,g1,t1,hk1,m1⟩:=row (i+1) hi'
  walk_at "rd"
  refine⟨_,SqL.of (s1 _ _ he),.ref u0,by rw[show(1:Int)+(i:Int) - 1=((i:Nat):Int) by omega];exact atI_nat g0,u0,rfl,_,SqT.of t0,k0,at0 _ _,_,SqL.of (s1 _ _ he),.ref u1,by rw[show(1:Int)+(i:Int)=((i+1:Nat):Int) by omega];exact atI_nat g1,u1,rfl,_,SqT.of t1,k1,at0 _ _,k0,k1,rfl,key_pl hk0,key_pl hk1,fun H2 s2=>⟨_,rfl,?_⟩⟩
  rcases hq with ⟨up,q⟩ | ⟨iw,kw,⟨w1,w2,w3⟩,qe⟩
  ·have lt:Pl.ltV k0 k1=true:=by
    obtain⟨a0,b0⟩:=List.getElem?_eq_some_iff.mp m0
    obtain⟨a1,b1⟩:=List.getElem?_eq_some_iff.mp m1
    have:=List.pairwise_iff_getElem.mp up i (i+1) a0 a1 (by omega)
    rw[b0,b1]at this
    exact this
   rw[lt,if_neg (by decide)]
   exact⟨s1.trans s2,fun i' k' h=>(up_not_wrong up h).elim⟩
  ·have wk:i<=iw:=nw iw kw ⟨w1,w2,w3⟩
   have nxt:Pl.ltV k0 k1=true->∀ i' k',WrongAt (es.map keyD) i' k'->i+1<=i':=fun lt i' k' h=>by
    rcases Nat.lt_or_ge i i' with z | z
    ·omega
    ·have e:i'=i:=by have:=nw i' k' h;omega
     subst e
     have h1:=h.1
     rw[m1]at h1
     cases h1
     rw[h.2.2 _ m0]at lt
     cases lt
   by_cases e:i=iw
   ·subst e
    rw[m1]at w1
    cases w1
    rw[w3 _ m0,if_pos rfl]
    exact⟨_,rfl,_,rfl,e,xs,_,.ref u1,rfl,rfl,SqL.of ((s1.trans s2) _ _ he),by rw[show(1:Int)+(i:Int)=((i+1:Nat):Int) by omega];exact atI_nat g1,u1,_,_,k1,rfl,rfl,SqT.of (s2 _ _ t1),at0 _ _,rfl,show 1<=1000 by decide,fun d hd=>qe _ d (s1.trans s2) hd⟩
   ·have lt:=w2 i (by omega) _ _ m0 m1
    rw[lt,if_neg (by decide)]
    exact⟨s1.trans s2,nxt lt⟩
 ·rintro σ' H' ⟨x2,rfl,s1,nw⟩
  rcases hq with ⟨up,q⟩ | ⟨iw,kw,hw,qe⟩
  case inr =>
   have h1:=nw iw kw hw
   have h2:=(List.getElem?_eq_some_iff.mp hw.1).1
   rw[List.length_map]at h2
   omega
  walk_at "rd"
  refine⟨p,d1,d2,st,c,0,e,false,xs,es,rfl,hS.same s1,s1 _ _ he,TDs.sameT re s1.t,hent,lx,by omega,fun r H2 st2 c2 hs ys sx hr hr2 tys hd heads hS2 sub l2=>?_⟩
  have lh:=heads.length
  have lt:=Paired.length tys
  have lc:=parts_len (lv:=levV) (l:=0) (es:=es)
  refine⟨p,d1,d2,st2,c2,r,hs,ys,0,rfl,by decide,hS2,hr2,tys,hd,by omega,by omega,fun H3 st3 c3 m above v sx3 hS3 sub3 l3 ups hm hv=>?_⟩
  refine q H3 st3 c3 v ((s1.x _).trans (sx.trans sx3)) hS3 (fun x hx=>sub3 x (sub x hx)) (by omega) ?_
  have emp:es=[]↔hs=[]:=by
   constructor
   ·intro z;exact List.length_eq_zero_iff.mp (by rw[lh,z];rfl)
   ·intro z
    rw[z]at lh
    cases hes:es with
    | nil=>rfl
    | cons y ys'=>exact absurd (List.length_eq_zero_iff.mp lh.symm) (cutF_ne (by rw[hes];simp))
  rcases hv with ⟨h1,h2⟩ | ⟨h1,k,n,ea,ev⟩
  ·exact .inl ⟨emp.mpr h1,h2⟩
  ·have hes:es≠[]:=fun z=>h1 (emp.mp z)
   obtain⟨L,pt,eL⟩:=ups.part (heads.mono sub3)
   have h1L:(L (m+1)).length=1:=by rw[eL,ea];rfl
   have m6:m<=6:=by
    rcases Nat.lt_or_ge m 7 with z | z
    ·omega
    ·have a:=pt.top lev6 hes (by omega)
     have b:=pt.two 7 (by omega) (by omega)
     omega
   exact .inr ⟨hes,m,L,k,n,m6,pt.chain h1L,by rw[eL,ea],ev⟩
theorem fn_never1{P:Program}{w:World}{K:PySem.W.Frag}{mg:Str->Option Value}{base:Heap}{CX:CXT}{k:Nat}{f:Addr}{fd:FuncData}{ps:List Str}:FnOk P w K mg base CX k f fd ps (fun _ _ _ _=>False) :=
 ⟨fun _ _ _ _ h=>h.elim,fun _ _ _ _ _ _ _ _ _ _ _ _ _ h=>h.elim⟩
def sp_Twig_under(_:PySem.W.Frag)(ob:Nat->Addr):Sp:=fun vs H Q _=>∃ a l es,vs=[.ref a]/\PgD ob H a l es/\l≠0/\es.length<=900/\(∀ d∈es,∃ k n,d=hdOf k n)/\∀ r H',Same H H'->H r=none->H' r=some (.lst ((es.map numD).map V.int))->Q (.ref r) H'
seal PE PT PW PA PS PSs PI PG PIfs PGs PO in
theorem ok_Twig_under{CT:Addr}{cs:Nat->Addr}{ob:Nat->Addr}{f:Addr}{fd:FuncData}(Z:Zs mg)(T:Tx K mg CT cs ob)(F:Fun K "under" "Twig.under" s_Twig_under f fd):FnOk P w K mg base (CX1 P w) 1 f fd ["self"] (sp_Twig_under K ob):=by
 refine F.ok1 sc_Twig_under (fun vs H Q E h=>?_) (fun cdv A outer s H vs Q E hr h=>?_)
 ·obtain⟨a,l,es,rfl,_⟩:=h;rfl
 obtain⟨a,l,es,rfl,hP,hl,lx,hh,q⟩:=h
 refine⟨_,(pss_one (ps_ret (pe_lcomp ["self"] rfl (blkOk (N:=["self"]) (dsc:=defScope s_Twig_under) rfl rfl (by decide +kernel)) (pi_tup (pe_fld (pv 0) rfl)) (fun _ _ _ _ _=>pif_nil) (fun _ _ _ _ _=>(pe_ix (r:=rIxT K) ix_tup (pv 0) pe_int (fun _ _=>rfl)))))),?_⟩
 refine rd_start (σ:=[some (.ref a)]) rfl ?_
 walk_at "rd"
 obtain⟨tw,dx,t,etw,ha,ht⟩:=hP
 obtain rfl:tw=true:=by rw[etw];exact decide_eq_true hl
 obtain⟨m,t',xs,em,e,ht',rt⟩:=ht.tup
 cases e
 have le:=Paired.length rt
 have hx:∀ (i:Nat) x,xs[i]?=some x->∃ b k n,x=.ref b/\H b=some (.tup [k,.int n])/\(es.map numD)[i]?=some n:=fun i x hi=>by
  have h2:=(List.getElem?_eq_some_iff.mp hi).1
  have hd:es[i]?=some (es[i]'(by omega)):=List.getElem?_eq_getElem _
  have tx:=paired_get rt hd hi
  obtain⟨k,n,ed⟩:=hh _ (List.mem_of_getElem? hd)
  rw[ed]at tx
  obtain rfl:m=6:=by omega
  obtain⟨b,x1,x2,eb,hb,w1,w2⟩:=TD.pair_of tx
  obtain⟨_,rfl⟩:=w2.flat
  exact⟨b,x1,n,eb,hb,by rw[List.getElem?_map,hd,ed];rfl⟩
 have hmap:xs.map (sndOf H)=(es.map numD).map V.int:=by
  refine List.ext_getElem (by simp[le]) fun i g1 g2=>?_
  have b1:i < xs.length:=by simpa using g1
  obtain⟨b,k,n,ex,hb,hn⟩:=hx i _ (List.getElem?_eq_getElem b1)
  simp only[List.getElem_map]
  rw[ex,sndOf_at hb]
  obtain⟨_,e⟩:=List.getElem?_eq_some_iff.mp hn
  simp only[List.getElem_map]at e
  rw[e]
 refine rd_fld (T.ob_ 2 (by decide)) (by decide) rfl ha rfl ⟨t,rfl,⟨_,SqT.of ht'⟩,lcM_tup xs (fun _=>true) (sndOf H) (SqT.of ht') (small_le (by omega)) (fun i x H2 R _ _ r=>r) (fun i x H2 R hi _ s r=>?_) fun D H2 hD s2 hd=>?_⟩
 ·obtain⟨b,k,n,rfl,hb,_⟩:=hx i x hi
  walk_at "rd"
  exact⟨_,SqT.of (s _ _ hb),_,rfl,by rw[sndOf_at hb]at r;exact r⟩
 ·exact q D H2 s2 hD (by rw[hd,List.filter_eq_self.mpr (fun _ _=>rfl),hmap])
def sp_Page_under(_:PySem.W.Frag)(ob:Nat->Addr):Sp:=fun vs H Q _=>∃ a,vs=[.ref a]/\∀ r H',Same H H'->H r=none->H' r=some (.lst [])->Q (.ref r) H'
seal PE PT PW PA PS PSs PI PG PIfs PGs PO in
theorem ok_Page_under{CT:Addr}{cs:Nat->Addr}{ob:Nat->Addr}{f:Addr}{fd:FuncData}(Z:Zs mg)(T:Tx K mg CT cs ob)(F:Fun K "under" "Page.under" s_Page_under f fd):FnOk P w K mg base (CX1 P w) 1 f fd ["self"] (sp_Page_under K ob):=by
 refine F.ok1 sc_Page_under (fun vs H Q E h=>?_) (fun cdv A outer s H vs Q E hr h=>?_)
 ·obtain⟨a,rfl,_⟩:=h;rfl
 obtain⟨a,rfl,q⟩:=h
 refine⟨_,(pss_one (ps_ret (pe_lst pa_nil))),?_⟩
 refine rd_start (σ:=[some (.ref a)]) rfl ?_
 walk_at "rd"
 exact⟨by decide,fun p hp=>q p _ (same_upd hp _) hp upd_same⟩
def sp_Leaf_spread(_:Program)(_:World)(ob:Nat->Addr):Sp:=fun vs H Q _=>∃ a o es,vs=[.ref a,o]/\PgD ob H a 0 es/\∀ r H' xs,Same H H'->H r=none->H' r=some (.lst xs)->Paired (fun d v=>TD H' 6 d v) es xs->Q (.ref r) H'
seal PE PT PW PA PS PSs PI PG PIfs PGs PO in
theorem ok_Leaf_spread{CT:Addr}{cs:Nat->Addr}{ob:Nat->Addr}{f:Addr}{fd:FuncData}(Z:Zs mg)(T:Tx K mg CT cs ob)(F:Fun K "spread" "Leaf.spread" s_Leaf_spread f fd):FnOk P w K mg base (CX1 P w) 1 f fd ["self","pages"] (sp_Leaf_spread P w ob):=by
 refine F.ok1 sc_Leaf_spread (fun vs H Q E h=>?_) (fun cdv A outer s H vs Q E hr h=>?_)
 ·obtain⟨a,o,es,rfl,_⟩:=h;rfl
 obtain⟨a,o,es,rfl,hP,q⟩:=h
 refine⟨_,(pss_one (ps_ret (pe_callTy call_list_of rfl (Z.list) bo_list (pa_c (pe_fld (pv 0) rfl) pa_nil)))),?_⟩
 refine rd_start (σ:=[some (.ref a),some o]) rfl ?_
 walk_at "rd"
 obtain⟨tw,dx,t,etw,ha,ht⟩:=hP
 obtain rfl:tw=false:=by rw[etw];rfl
 obtain⟨m,t',xs,em,e,ht',rt⟩:=ht.tup
 cases e
 obtain rfl:m=6:=by omega
 exact rd_fld (T.ob_ 1 (by decide)) (by decide) rfl ha rfl ⟨t,rfl,xs,.inr (SqT.of ht'),fun p hp=>q p _ xs (same_upd hp _) hp upd_same (TDs.sameT rt (same_upd hp _).t)⟩
theorem subs0{tbl:List (Int×Dt)}:∀ {part:List Dt} {ess:List (List Dt)},Paired (SubR tbl 0) part ess->ess.flatten=part
 | [],_,.nil=>rfl
 | d::part,_,.cons (b:=x) r t=>by
  have r:x=[d]:=r
  rw[List.flatten_cons,subs0 t,r];rfl
theorem paired_append{α β:Type}{F:α->β->Prop}:∀ {xs ys:List α} {us vs:List β},Paired F xs us->Paired F ys vs->Paired F (xs++ys) (us++vs)
 | _,_,_,_,.nil,h=>h
 | _,_,_,_,.cons r t,h=>.cons r (paired_append t h)
def sp_Page_spread(P:Program)(w:World)(cs ob:Nat->Addr):Nat->Sp
 | 0=>fun _ _ _ _=>False
 | n+1=>fun vs H Q _=>∃ a p d1 d2 st c,∃ l:Nat,∃ part es,vs=[.ref a,.ref p]/\StAt P w ob H p d1 d2 st c/\PgD ob H a ((l+1:Nat):Int) part/\l<=n/\SubsR (tblOf st) (l+1) part es/\es.length<=900/\part.length<=900 /\
  ∀ r H' xs,Same H H'->H r=none->H' r=some (.lst xs)->Paired (fun d v=>TD H' 6 d v) es xs->Q (.ref r) H'
seal PE PT PW PA PS PSs PI PG PIfs PGs PO in
theorem ok_Page_spread{CT:Addr}{cs:Nat->Addr}{ob:Nat->Addr}{f:Addr}{fd:FuncData}(Z:Zs mg)(T:Tx K mg CT cs ob)(M_Page_under:MeV P w K mg base 1 (ob 0) "under" (sp_Page_under K ob))(M_Leaf_under:MeV P w K mg base 1 (ob 1) "under" (sp_Page_under K ob))(M_Twig_under:MeV P w K mg base 1 (ob 2) "under" (sp_Twig_under K ob))(M_Leaf_spread:MeV P w K mg base 1 (ob 1) "spread" (sp_Leaf_spread P w ob))(M_Pages_page:MeV P w K mg base 5 (ob 3) "page" (sp_Pages_page P w cs ob)){n:Nat}(IH:MeV P w K mg base (5+n) (ob 2) "spread" (sp_Page_spread P w cs ob n))(F:Fun K "spread" "Page.spread" s_Page_spread f fd):FnOk P w K mg base (CX1 P w) (5+n+1) f fd ["self","pages"] (sp_Page_spread P w cs ob (n+1)):=by
 refine F.ok1 sc_Page_spread (fun vs H Q E h=>?_) (fun cdv A outer s H vs Q E hr h=>?_)
 ·obtain⟨a,p,d1,d2,st,c,l,part,es,rfl,_⟩:=h;rfl
 obtain⟨a,p,d1,d2,st,c,l,part,es,rfl,hS,hP,hl,hsub,lx,lp,q⟩:=h
 refine⟨_,(@pss_cons _ _ _ _ _ (ps_set (i:=2) sc_Page_spread.nd rfl (Or.inl rfl) (pe_lst pa_nil))
  (@pss_cons _ _ _ _ _ (ps_for own1 rfl (pi_list (PE1.pe (pe1_methV0 (k:=(5+n)) (pv 0) hr rfl) throws0)) (pg_name (i:=3) sc_Page_spread.nd rfl (Or.inl rfl)) (pss_one (ps_expr (pe_bm PySem.F.plainAttrs_list PySem.F.slot_list_extend PySem.F.type_list_extend mt_extendE (pv 2) (pa_c (PE1.pe (pe1_methE (k:=(5+n)) (pe1_methV (k:=(5+n)) (pv 1) hr rfl (pa_c (pv 3) pa_nil)) hr rfl (pa_c (pv 1) pa_nil)) throws0) pa_nil)))))
  (pss_one (ps_ret (pv 2))))),?_⟩
 refine rd_start (σ:=[some (.ref a),some (.ref p),none,none]) rfl ?_
 walk_at "rd"
 refine⟨by decide,fun rp hrp=>?_⟩
 have s0:=same_upd hrp (.lst [])
 have c_r:upd H rp (.lst []) rp=some (.lst []):=upd_same
 generalize upd H rp (.lst [])=H0 at s0 c_r ⊢
 have hP0:=hP.same s0
 obtain⟨tw,dx,t,etw,ha,ht⟩:=id hP0
 obtain rfl:tw=true:=by rw[etw];exact decide_eq_true (by omega)
 obtain⟨ess,pr,ees⟩:=hsub
 have lpr:=Paired.length pr
 have hds:∀ d∈part,∃ k n,d=hdOf k n:=fun d hd=>by
  obtain⟨i,hi⟩:=List.mem_iff_getElem?.mp hd
  have hl:=(List.getElem?_eq_some_iff.mp hi).1
  obtain⟨k,n,_,_,e,_⟩:=paired_get pr hi (List.getElem?_eq_getElem (show i < ess.length by omega))
  exact⟨k,n,e⟩
 refine rd_methV0 rfl ha rfl (T.ob_ 2 (by decide)).cl (M_Twig_under.mono (by omega)) ⟨a,_,part,rfl,hP0,by omega,lp,hds,fun u H1 s1 hu hu1=>?_⟩
 refine⟨u,rfl,⟨_,SqL.of hu1⟩,?_⟩
 have s01:=s0.trans s1
 have hS1:=hS.same s01
 have ru:u≠rp:=fun z=>by rw[z,c_r]at hu;cases hu
 refine foR_list ((part.map numD).map V.int) (fun i σ' H'=>∃ zs x3,σ'=[some (.ref a),some (.ref p),some (.ref rp),x3]/\Same H H'/\H' u=some (.lst ((part.map numD).map V.int))/\H' rp=some (.lst zs)/\Paired (fun d v=>TD H' 6 d v) (ess.take i).flatten zs) ⟨[],_,rfl,s01,hu1,s1 _ _ c_r,.nil⟩ (fun i σ' H' _ ⟨_,_,_,_,h,_⟩=>SqL.of h) ?_ ?_
 ·rintro i x σ' H' hx ⟨zs,x3,rfl,s',hu',hr',tz⟩
  rw[List.getElem?_map,List.getElem?_map]at hx
  obtain⟨m,hm,rfl⟩:=Option.map_eq_some_iff.mp hx
  obtain⟨d,hd,rfl⟩:=Option.map_eq_some_iff.mp hm
  have hi:=(List.getElem?_eq_some_iff.mp hd).1
  have he:ess[i]?=some (ess[i]'(by omega)):=List.getElem?_eq_getElem _
  obtain⟨k,nn,part',ess',rfl,hmem,pr',ee⟩:=paired_get pr hd he
  generalize ess[i]'(by omega)=es' at he ee
  have les:es'.length<=es.length:=by
   rw[ees]
   exact(List.sublist_flatten_of_mem (List.mem_of_getElem? he)).length_le
  have lz:zs.length<=es.length:=by
   rw[<- Paired.length tz,ees]
   have:=congrArg (fun l=>(List.flatten l).length) (List.take_append_drop i ess)
   simp only[List.flatten_append,List.length_append]at this
   omega
  obtain⟨⟨n',pd',t'⟩,hmm,en⟩:=List.mem_map.mp hmem
  injection en with en1 en2
  dsimp only at en1 en2
  subst en1 en2
  have hS':=hS.same s'
  obtain⟨dx',ho'⟩:=hS'.obj
  have fin:∀ (w:Addr) (H2:Hp) (xs:List V),Same H' H2->H2 w=some (.lst xs)->Paired (fun d v=>TD H2 6 d v) es' xs->H2 rp=some (.lst zs)/\(Same H (upd H2 rp (.lst (zs++xs)))/\upd H2 rp (.lst (zs++xs)) u=some (.lst ((part.map numD).map V.int))/\Paired (fun d v=>TD (upd H2 rp (.lst (zs++xs))) 6 d v) (ess.take (i+1)).flatten (zs++xs)):=by
   intro w H2 xs s2 hw px
   have hr2:=s2 _ _ hr'
   have t5:SameT H2 (upd H2 rp (.lst (zs++xs))):=sameT_lst hr2
   refine⟨hr2,same_updN (s'.trans s2) hrp,by rw[upd_ne ru];exact s2 _ _ hu',?_⟩
   rw[List.take_add_one,he]
   simp only[List.flatten_append,Option.toList_some,List.flatten_cons,List.flatten_nil,List.append_nil]
   exact paired_append (TDs.sameT tz (s2.t.trans t5)) (TDs.sameT px t5)
  walk_at "rd"
  refine⟨.inl ⟨rfl,_,SqL.of hr'⟩,rd_methV rfl ho' rfl (T.ob_ 3 (by decide)).cl (M_Pages_page.mono (by omega)) ⟨_,rfl,p,d1,d2,st,c,n',rfl,hS',fun l2 es2 t2 hm2 pg H2 s2 hpg pgd=>?_,fun z=>(z _ hmm rfl).elim⟩⟩
  obtain⟨el,ee2⟩:=tdOf_inj (hS.fun_ hmm hm2).1
  subst el ee2
  have lp':part'.length<=900:=by
   obtain⟨l3,k3,r3,es3,e3,_,h3⟩:=hS.sh _ hmm
   rw[(tdOf_inj e3).2]
   simp;omega
  cases l with
  | zero =>
   obtain⟨tw2,dx2,t0,etw2,hpa,ht0⟩:=id pgd
   obtain rfl:tw2=false:=by rw[etw2];rfl
   have e':es'=part':=by rw[ee];exact subs0 pr'
   refine⟨pg,rfl,_,dx2,_,hpa,rfl,(T.ob_ 1 (by decide)).cl,_,M_Leaf_spread.mono (by omega),⟨pg,.ref p,part',rfl,pgd,fun w H3 xs s3 hw hw3 px=>?_⟩⟩
   rw[<- e']at px
   obtain⟨g1,g2,g3,g4⟩:=fin w H3 xs (s2.trans s3) hw3 px
   have lxs:=Paired.length px
   exact⟨w,rfl,zs,g1,xs,.inl (SqL.of hw3),Nat.le_trans (show zs.length+xs.length<=5000 by omega) (by rw[sizeLine_eq];decide),g2,g3,_,upd_same,g4⟩
  | succ l =>
   obtain⟨tw2,dx2,t0,etw2,hpa,ht0⟩:=id pgd
   obtain rfl:tw2=true:=by rw[etw2];exact decide_eq_true (by omega)
   obtain⟨n0,rfl⟩:∃ n0,n=n0+1:=⟨n - 1,by omega⟩
   refine⟨pg,rfl,_,dx2,_,hpa,rfl,(T.ob_ 2 (by decide)).cl,_,IH,⟨pg,p,d1,d2,st,c,l,part',es',rfl,hS'.same s2,pgd,by omega,⟨ess',pr',ee⟩,by omega,lp',fun w H3 xs s3 hw hw3 px=>?_⟩⟩
   obtain⟨g1,g2,g3,g4⟩:=fin w H3 xs (s2.trans s3) hw3 px
   have lxs:=Paired.length px
   exact⟨w,rfl,zs,g1,xs,.inl (SqL.of hw3),Nat.le_trans (show zs.length+xs.length<=5000 by omega) (by rw[sizeLine_eq];decide),g2,g3,_,upd_same,g4⟩
 ·rintro σ' H' ⟨zs,x3,rfl,s',hu',hr',tz⟩
  walk_at "rd"
  rw[List.take_of_length_le (by rw[List.length_map,List.length_map];omega),<- ees]at tz
  exact q rp H' zs s' hrp hr' tz
def TreeOf(st:StL)(es:List Dt)(v:V):Prop:=(es=[]/\v=.non)\/(es≠[]/\∃ top L k n,top<=6/\Chain levV (tblOf st) es top L/\L (top+1)=[hdOf k n]/\v=.int n)
def sp_rows_of(P:Program)(w:World)(cs ob:Nat->Addr):Sp:=fun vs H Q _=>∃ p d1 d2 st c v es,vs=[.ref p,v]/\StAt P w ob H p d1 d2 st c/\TreeOf st es v/\es.length<=900/\∀ r H' xs,Same H H'->H r=none->H' r=some (.lst xs)->Paired (fun d v=>TD H' 6 d v) es xs->Q (.ref r) H'
seal PE PT PW PA PS PSs PI PG PIfs PGs PO in
theorem ok_rows_of{CT:Addr}{cs:Nat->Addr}{ob:Nat->Addr}{f:Addr}{fd:FuncData}(Z:Zs mg)(T:Tx K mg CT cs ob)(M_Twig_spread:∀ n,MeV P w K mg base (5+n) (ob 2) "spread" (sp_Page_spread P w cs ob n))(M_Leaf_spread:MeV P w K mg base 1 (ob 1) "spread" (sp_Leaf_spread P w ob))(M_Pages_page:MeV P w K mg base 5 (ob 3) "page" (sp_Pages_page P w cs ob))(F:Fun K "rows_of" "rows_of" s_rows_of f fd):FnOk P w K mg base CX0 14 f fd ["pages","root"] (sp_rows_of P w cs ob):=by
 refine F.ok sc_rows_of (fun vs H Q E h=>?_) (fun cdv A outer s H vs Q E hr h=>?_)
 ·obtain⟨p,d1,d2,st,c,v,es,rfl,_⟩:=h;rfl
 obtain⟨p,d1,d2,st,c,v,es,rfl,hS,hT,lx,q⟩:=h
 refine⟨_,(@pss_cons _ _ _ _ _ (ps_if (pt_cmpR op_isN (pv 1) pe_non (nomark _)) (pss_one (ps_ret (pe_lst pa_nil))) pss_nil)
  (pss_one (ps_ret (PE1.pe (pe1_methE (k:=13) (pe1_methV (k:=13) (pv 0) hr rfl (pa_c (pv 1) pa_nil)) hr rfl (pa_c (pv 0) pa_nil)) throwsN)))),?_⟩
 refine rd_start (σ:=[some (.ref p),some v]) rfl ?_
 walk_at "rd"
 rcases hT with ⟨rfl,rfl⟩ | ⟨hne,top,L,k,n,h6,ch,eL,rfl⟩
 ·rw[if_pos rfl]
  exact⟨by decide,fun r hr=>q r _ [] (same_upd hr _) hr upd_same .nil⟩
 rw[if_neg (show ¬ V.int n=V.non from fun z=>nomatch z)]
 obtain⟨part,hmem,hsub⟩:=ch.spread eL
 obtain⟨⟨n',pd',t'⟩,hmm,en⟩:=List.mem_map.mp hmem
 injection en with en1 en2
 dsimp only at en1 en2
 subst en1 en2
 obtain⟨dx,ho⟩:=hS.obj
 refine rd_methV rfl ho rfl (T.ob_ 3 (by decide)).cl (M_Pages_page.mono (by decide)) ⟨_,rfl,p,d1,d2,st,c,n',rfl,hS,fun l2 es2 t2 hm2 pg H2 s2 hpg pgd=>?_,fun z=>(z _ hmm rfl).elim⟩
 obtain⟨el,ee2⟩:=tdOf_inj (hS.fun_ hmm hm2).1
 subst el ee2
 have lp:part.length<=900:=by
  obtain⟨l3,k3,r3,es3,e3,_,h3⟩:=hS.sh _ hmm
  rw[(tdOf_inj e3).2]
  simp;omega
 cases top with
 | zero =>
  obtain⟨tw2,dx2,t0,etw2,hpa,ht0⟩:=id pgd
  obtain rfl:tw2=false:=by rw[etw2];rfl
  obtain⟨ess,pr,ee⟩:=hsub
  rw[subs0 pr]at ee
  subst ee
  exact⟨pg,rfl,_,dx2,_,hpa,rfl,(T.ob_ 1 (by decide)).cl,_,M_Leaf_spread.mono (by decide),⟨pg,.ref p,_,rfl,pgd,fun w H3 xs s3 hw hw3 px=>q w H3 xs (s2.trans s3) (by
   cases e:H w with
   | none=>rfl
   | some o=>rw[s2 _ _ e]at hw;cases hw) hw3 px⟩⟩
 | succ l =>
  obtain⟨tw2,dx2,t0,etw2,hpa,ht0⟩:=id pgd
  obtain rfl:tw2=true:=by rw[etw2];exact decide_eq_true (by omega)
  exact⟨pg,rfl,_,dx2,_,hpa,rfl,(T.ob_ 2 (by decide)).cl,_,(M_Twig_spread 7).mono (by decide),⟨pg,p,d1,d2,st,c,l,part,es,rfl,hS.same s2,pgd,show l<=6 by omega,hsub,lx,lp,fun w H3 xs s3 hw hw3 px=>q w H3 xs (s2.trans s3) (by
   cases e:H w with
   | none=>rfl
   | some o=>rw[s2 _ _ e]at hw;cases hw) hw3 px⟩⟩
section
variable{P:Program}{w:World}{K:PySem.W.Frag}{ob:Nat->Addr}{H H':Hp}{p d1 d2:Addr}{st:StL}{c:Int}
theorem StAt.off(h:StAt P w ob H p d1 d2 st c){b:Addr}{o:HO}(hb:H b=some o)(h1:∀ C dx fs,o≠.ins C dx fs)(h2:∀ kvs,o≠.dK kvs)(h3:∀ φ,o≠.ext φ):b∉[p,d1,d2]:=fun z=>by
 obtain⟨dx,eo⟩:=h.obj
 simp only[List.mem_cons,List.not_mem_nil,or_false]at z
 rcases z with z | z | z
 ·rw[z,eo]at hb;injection hb with hb;exact h1 _ _ _ hb.symm
 ·rw[z,h.num]at hb;injection hb with hb;exact h2 _ hb.symm
 ·rw[z,h.tol]at hb;injection hb with hb;exact h3 _ hb.symm
theorem StAt.lst(h:StAt P w ob H p d1 d2 st c)(s:SameX [p,d1,d2] H H'){b:Addr}{xs:List V}(hb:H b=some (.lst xs)):H' b=some (.lst xs):=s _ _ (h.off hb (by intros;intro z;cases z) (by intros;intro z;cases z) (by intros;intro z;cases z)) hb
theorem StAt.seq(h:StAt P w ob H p d1 d2 st c)(s:SameX [p,d1,d2] H H'){b:Addr}{xs:List V}(hb:SqL K H b xs):SqL K H' b xs:=by
 rcases hb with hb | hb
 ·rcases hb with hb | ⟨o,hb⟩
  ·exact .inl (.inl (h.lst s hb))
  ·exact .inl (.inr ⟨o,s _ _ (h.off hb (by intros;intro z;cases z) (by intros;intro z;cases z) (by intros;intro z;cases z)) hb⟩)
 ·exact .inr hb
end
theorem rep_list{K:PySem.W.Frag}{H:Hp}{b:Addr}{xs:List V}{es:List Dt}(hb:H b=some (.lst xs))(re:Paired (fun d v=>TD H 6 d v) es xs):Rep K H 7 (.l es) (.ref b):=.l (SqL.of hb) (Paired.length re) fun i d x h1 h2=>(paired_get re h1 h2).rep
theorem sq_upd{K:PySem.W.Frag}{H3 H6:Hp}{a l:Addr}{o:HO}{xs:List V}(h3:SqL K H3 a xs)(hl:H3 l=none)(h6:SqL K H6 a xs):SqL K (upd H6 l o) a xs:=by
 rcases h3 with h3 | h3
 ·have ne:a≠l:=by
   rcases h3 with h3 | ⟨o,h3⟩
   ·exact ne_of_none h3 hl
   ·exact ne_of_none h3 hl
  rcases h6 with h6 | h6
  ·rcases h6 with h6 | ⟨o,h6⟩
   ·exact .inl (.inl (by rw[upd_ne ne];exact h6))
   ·exact .inl (.inr ⟨o,by rw[upd_ne ne];exact h6⟩)
  ·exact .inr h6
 ·exact .inr h3
theorem sc_pair{v v':V}(h:v=.non\/∃ n,v=.int n)(h':v'=.non\/∃ n,v'=.int n):scal v v'=true:=by
 rcases h with rfl | ⟨n,rfl⟩ <;> rcases h' with rfl | ⟨n',rfl⟩ <;> rfl
theorem cutA(xs:List V)(k:Nat):cutV xs none (some (k:Int))=xs.take k:=by
 have e1:=HT.sIx_nat xs.length xs.length k
 have e2:HT.sIx xs.length 0 none=0:=rfl
 unfold cutV
 rw[e1,e2,List.drop_zero,Nat.sub_zero]
 rcases Nat.le_total k xs.length with h | h
 ·rw[Nat.min_eq_left h]
 ·rw[Nat.min_eq_right h,List.take_of_length_le (Nat.le_refl _),List.take_of_length_le h]
theorem cutB(xs:List V)(k:Nat):cutV xs (some (k:Int)) none=xs.drop k:=by
 have e1:=HT.sIx_nat xs.length 0 k
 have e2:HT.sIx xs.length xs.length none=xs.length:=rfl
 unfold cutV
 rw[e1,e2]
 rcases Nat.le_total k xs.length with h | h
 ·rw[Nat.min_eq_left h,List.take_of_length_le (by rw[List.length_drop];exact Nat.le_refl _)]
 ·rw[Nat.min_eq_right h,List.drop_of_length_le (Nat.le_refl _),List.drop_of_length_le h];simp
theorem paired_take{α β:Type}{F:α->β->Prop}:∀ {xs:List α} {us:List β} (n:Nat),Paired F xs us->Paired F (xs.take n) (us.take n)
 | _,_,0,_=>.nil
 | _,_,_+1,.nil=>.nil
 | _,_,n+1,.cons r t=>.cons r (paired_take n t)
theorem paired_drop{α β:Type}{F:α->β->Prop}:∀ {xs:List α} {us:List β} (n:Nat),Paired F xs us->Paired F (xs.drop n) (us.drop n)
 | _,_,0,r=>r
 | _,_,_+1,.nil=>.nil
 | _,_,n+1,.cons _ t=>paired_drop n t
def ltK(a b:V):Prop:=keyV a/\keyV b/\Pl.ltV a b=true
theorem ltK.irr(a:V):¬ ltK a a:=fun h=>by
 have h2:=h.2.2
 rw[Pl.irr (key_pl h.1)]at h2
 exact Bool.false_ne_true h2
theorem ltK.tr{a b c:V}(h:ltK a b)(h':ltK b c):ltK a c:=⟨h.1,h'.2.1,Pl.tr (key_pl h.1) (key_pl h.2.1) (key_pl h'.2.1) h.2.2 h'.2.2⟩
theorem ltK.tri{a b:V}(ha:keyV a)(hb:keyV b):ltK a b\/a=b\/ltK b a:=by
 cases h1:Pl.ltV a b with
 | true=>exact .inl ⟨ha,hb,h1⟩
 | false =>
  cases h2:Pl.ltV b a with
  | true=>exact .inr (.inr ⟨hb,ha,h2⟩)
  | false=>exact .inr (.inl (Pl.tri (key_pl ha) (key_pl hb) h1 h2))
theorem key_sc{a b:V}(ha:keyV a)(hb:keyV b):scal a b=true:=by
 cases a with
 | int n=>cases b with
  | int m=>rfl
  | str z=>rfl
  | _=>exact hb.elim
 | str z=>cases b with
  | int m=>rfl
  | str z=>rfl
  | _=>exact hb.elim
 | _=>exact ha.elim
structure Keys(H:Hp)(a:Addr)(xs:List V):Prop where
 at_:H a=some (.lst xs)
 pl:∀ v∈xs,Pl.plainV v
 up:xs.Pairwise fun a b=>Pl.ltV a b=true
 len:xs.length < 1000
def sp_place_of(_:PySem.W.Frag):Sp:=fun vs H Q _=>∃ (a:Addr) (xs:List V) (v:V),vs=[.ref a,v]/\Keys H a xs/\Pl.plainV v/\∀ H' (lo:Nat),Same H H'->lo<=xs.length->(∀ (i:Nat) x,i < lo->xs[i]?=some x->Pl.ltV x v=true)->(∀ (i:Nat) x,lo<=i->xs[i]?=some x->Pl.ltV x v=false)->Q (.int lo) H'
seal PE PT PW PA PS PSs PI PG PIfs PGs PO in
theorem ok_place_of{CT:Addr}{cs:Nat->Addr}{ob:Nat->Addr}{f:Addr}{fd:FuncData}(Z:Zs mg)(T:Tx K mg CT cs ob)(G_before:Cal P w K mg base 2 "before" ["one","other"] (sp_before K))(F:Fun K "place_of" "place_of" s_place_of f fd):FnOk P w K mg base CX0 3 f fd ["keys","key"] (sp_place_of K):=by
 refine F.ok sc_place_of (fun vs H Q E h=>?_) (fun cdv A outer s H vs Q E hr h=>?_)
 ·obtain⟨a,xs,v,rfl,_⟩:=h;rfl
 obtain⟨a,xs,v,rfl,hk,pvv,q⟩:=h
 refine⟨_,(@pss_cons _ _ _ _ _ (ps_set (i:=2) sc_place_of.nd rfl (Or.inl rfl) pe_int)
  (@pss_cons _ _ _ _ _ (ps_set (i:=3) sc_place_of.nd rfl (Or.inl rfl) (pe_callB call_len_seq rfl (Z.len) bo_len (pa_c (pv 0) pa_nil)))
  (@pss_cons _ _ _ _ _ (ps_while PassesOwn.never (pt_cmpR op_lt (pv 2) (pv 3) (nomark _)) (@pss_cons _ _ _ _ _ (ps_set (i:=4) sc_place_of.nd rfl (Or.inl rfl) (pe_op op_fdiv (pe_op op_add (pv 2) (pv 3)) pe_int))
  (pss_one (ps_if (pt_val (pe_cal G_before (k:=2) hr (by decide) rfl (pa_c (pe_ix ix_list (pv 0) (pv 4) (fun _ _=>rfl)) (pa_c (pv 1) pa_nil))) (fun _=>rfl)) (pss_one (ps_set (i:=2) sc_place_of.nd rfl (Or.inl rfl) (pe_op op_add (pv 4) pe_int))) (pss_one (ps_set (i:=3) sc_place_of.nd rfl (Or.inl rfl) (pv 4)))))))
  (pss_one (ps_ret (pv 2)))))),?_⟩
 refine rd_start (σ:=[some (.ref a),some v,none,none,none]) rfl ?_
 walk_at "rd"
 refine⟨xs,.inl (SqL.of hk.at_),fun m σ' H'=>∃ (lo hi:Nat) (x4:Option V),σ'=[some (.ref a),some v,some (.int lo),some (.int hi),x4]/\m=hi - lo/\lo<=hi/\hi<=xs.length/\Same H H'/\(∀ (i:Nat) x,i < lo->xs[i]?=some x->Pl.ltV x v=true)/\∀ (i:Nat) x,hi<=i->xs[i]?=some x->Pl.ltV x v=false,
  ⟨_,0,xs.length,none,rfl,rfl,Nat.zero_le _,Nat.le_refl _,Same.refl _,fun i x h=>absurd h (by omega),fun i x h e=>absurd (List.getElem?_eq_some_iff.mp e).1 (by omega)⟩,?_⟩
 rintro m σ' H' ⟨lo,hi,x4,rfl,rfl,h1,h2,sm,ha,hb⟩
 walk_at "rd"
 by_cases hlt:(lo:Int) < (hi:Int)
 ·rw[if_pos hlt]
  have em:((lo:Int)+hi) / 2=(((lo+hi) / 2:Nat):Int):=by omega
  have hm:(lo+hi) / 2 < xs.length:=by omega
  obtain⟨y,hy⟩:∃ y,xs[(lo+hi) / 2]?=some y:=⟨_,List.getElem?_eq_getElem hm⟩
  have py:Pl.plainV y:=hk.pl y (List.mem_of_getElem? hy)
  have upx:∀ (i j:Nat) x z,i < j->xs[i]?=some x->xs[j]?=some z->Pl.ltV x z=true:=fun i j x z hij hx hz=>by
   obtain⟨hi',ex⟩:=List.getElem?_eq_some_iff.mp hx
   obtain⟨hj',ez⟩:=List.getElem?_eq_some_iff.mp hz
   rw[<- ex,<- ez]
   exact List.pairwise_iff_getElem.mp hk.up i j hi' hj' hij
  refine⟨fun σ' H'=>∃ (lo' hi':Nat) (x4:Option V),σ'=[some (.ref a),some v,some (.int lo'),some (.int hi'),x4]/\hi' - lo' < hi - lo/\lo'<=hi'/\hi'<=xs.length/\Same H H'/\(∀ (i:Nat) x,i < lo'->xs[i]?=some x->Pl.ltV x v=true)/\∀ (i:Nat) x,hi'<=i->xs[i]?=some x->Pl.ltV x v=false,
   fun σ' H2 ⟨lo',hi',x4',e,e1,e2,e3,e4,e5,e6⟩=>⟨_,e1,lo',hi',x4',e,rfl,e2,e3,e4,e5,e6⟩,by unfold CDiv;decide,xs,SqL.of (sm _ _ hk.at_),y,by rw[em];exact atI_nat hy,y,v,rfl,py,pvv,fun H2 s2=>⟨_,rfl,?_⟩⟩
  rw[em]
  cases hl:Pl.ltV y v with
  | true =>
   rw[if_pos rfl]
   refine⟨(lo+hi) / 2+1,hi,_,rfl,by omega,by omega,h2,sm.trans s2,fun i x hi' hx=>?_,hb⟩
   by_cases e:i=(lo+hi) / 2
   ·rw[e,hy]at hx;cases hx;exact hl
   ·have px:Pl.plainV x:=hk.pl x (List.mem_of_getElem? hx)
    exact Pl.tr px py pvv (upx i _ x y (by omega) hx hy) hl
  | false =>
   rw[if_neg Bool.false_ne_true]
   refine⟨lo,(lo+hi) / 2,_,rfl,by omega,by omega,by omega,sm.trans s2,ha,fun i x hi' hx=>?_⟩
   by_cases e:i=(lo+hi) / 2
   ·rw[e,hy]at hx;cases hx;exact hl
   ·have px:Pl.plainV x:=hk.pl x (List.mem_of_getElem? hx)
    cases q:Pl.ltV x v with
    | false=>rfl
    | true=>rw[Pl.tr py px pvv (upx _ i y x (by omega) hy hx) q]at hl;cases hl
 ·rw[if_neg hlt]
  have e:lo=hi:=by omega
  subst e
  exact q _ lo sm h2 ha hb
def UpTo(es:List Dt)(k:V)(at':Int):Prop:=∃ a b,es=a++b/\at'=(a.length:Int) - 1/\(∀ x∈a,ltK (keyD x) k\/keyD x=k)/\∀ x∈b,ltK k (keyD x)
theorem EntD.key{d:Dt}(h:EntD d):keyV (keyD d):=by
 obtain⟨k,r,rfl,hk⟩:=h;exact hk
theorem upTo_of{es:List Dt}{k:V}{lo:Nat}(hent:∀ d∈es,EntD d)(hk:keyV k)(up:UpR ltK es)(hl:lo<=es.length)(h1:∀ (i:Nat) x,i < lo->(es.map keyD)[i]?=some x->Pl.ltV x k=true)(h2:∀ (i:Nat) x,lo<=i->(es.map keyD)[i]?=some x->Pl.ltV x k=false) :
 (∀ d,es[lo]?=some d->keyD d=k->UpTo es k lo)/\((∀ d,es[lo]?=some d->keyD d≠k)->UpTo es k ((lo:Int) - 1)):=by
 have lo1:∀ x∈es.take lo,ltK (keyD x) k:=fun x hx=>by
  obtain⟨i,hi,e⟩:=List.mem_iff_getElem.mp hx
  rw[List.length_take]at hi
  rw[List.getElem_take]at e
  refine⟨(hent x (List.mem_of_mem_take hx)).key,hk,h1 i _ (by omega) ?_⟩
  rw[List.getElem?_map,List.getElem?_eq_getElem (by omega),e];rfl
 have hi1:∀ (i:Nat) d,lo<=i->es[i]?=some d->¬ ltK (keyD d) k:=fun i d hi hd z=>by
  have:=h2 i (keyD d) hi (by rw[List.getElem?_map,hd];rfl)
  rw[z.2.2]at this;cases this
 constructor
 ·intro d hd e
  obtain⟨hlt,ed⟩:=List.getElem?_eq_some_iff.mp hd
  have es1:es=es.take lo++d::es.drop (lo+1):=by rw[<- ed,List.getElem_cons_drop,List.take_append_drop]
  refine⟨es.take lo++[d],es.drop (lo+1),by rw[List.append_assoc];exact es1,by simp;omega,fun x hx=>?_,fun x hx=>?_⟩
  ·rcases List.mem_append.mp hx with z | z
   ·exact .inl (lo1 x z)
   ·rw[List.mem_singleton.mp z];exact .inr e
  ·rw[es1]at up
   rw[<- e]
   exact(List.pairwise_cons.mp up.right).1 x hx
 ·intro hn
  refine⟨es.take lo,es.drop lo,(List.take_append_drop _ _).symm,by simp;omega,fun x hx=>.inl (lo1 x hx),?_⟩
  cases hd:es[lo]? with
  | none =>
   intro x hx
   rw[List.drop_of_length_le (List.getElem?_eq_none_iff.mp hd)]at hx
   cases hx
  | some d =>
   obtain⟨hlt,ed⟩:=List.getElem?_eq_some_iff.mp hd
   have es2:es.drop lo=d::es.drop (lo+1):=by rw[<- ed,List.getElem_cons_drop]
   have kd:ltK k (keyD d):=by
    rcases ltK.tri hk (hent d (List.mem_of_getElem? hd)).key with z | z | z
    ·exact z
    ·exact absurd z.symm (hn d hd)
    ·exact absurd z (hi1 lo d (Nat.le_refl _) hd)
   have up2:UpR ltK (es.drop lo):=up.sublist (List.drop_sublist _ _)
   rw[es2]at up2 ⊢
   intro x hx
   rcases List.mem_cons.mp hx with z | z
   ·rw[z];exact kd
   ·exact ltK.tr kd ((List.pairwise_cons.mp up2).1 x z)
def fstOf(H:Hp):V->V
 | .ref a=>match H a with
  | some (.tup (x::_))=>x
  | _=>.non
 | _=>.non
theorem fstOf_at{H:Hp}{a:Addr}{k:V}{r:List V}(h:H a=some (.tup (k::r))):fstOf H (.ref a)=k:=by
 simp only[fstOf,h]
theorem ent_at{H:Hp}{es:List Dt}{xs:List V}(re:Paired (fun d v=>TD H 6 d v) es xs)(hent:∀ d∈es,EntD d){i:Nat}{x:V}(hx:xs[i]?=some x):∃ d b r,es[i]?=some d/\x=.ref b/\H b=some (.tup (keyD d::r))/\keyV (keyD d)/\TD H 6 d x:=by
 have hi:=(List.getElem?_eq_some_iff.mp hx).1
 have le:=Paired.length re
 have hd:es[i]?=some (es[i]'(by omega)):=List.getElem?_eq_getElem _
 have tx:=paired_get re hd hx
 obtain⟨k,rr,ed,hk⟩:=hent _ (List.mem_of_getElem? hd)
 generalize es[i]'(by omega)=d at hd tx ed
 subst ed
 obtain⟨m,b,ws,_,eb,hb,rw_⟩:=id tx.tup
 cases rw_ with
 | cons r1 _ =>
  obtain⟨_,rfl⟩:=r1.flat
  exact⟨_,b,_,hd,eb,hb,hk,tx⟩
def sp_last_up_to(_:PySem.W.Frag):Sp:=fun vs H Q _=>∃ t xs es k,vs=[.ref t,k]/\H t=some (.tup xs)/\Paired (fun d v=>TD H 6 d v) es xs/\(∀ d∈es,EntD d)/\UpR ltK es/\keyV k/\xs.length<=900/\∀ H' at',Same H H'->UpTo es k at'->Q (.int at') H'
seal PE PT PW PA PS PSs PI PG PIfs PGs PO in
theorem ok_last_up_to{CT:Addr}{cs:Nat->Addr}{ob:Nat->Addr}{f:Addr}{fd:FuncData}(Z:Zs mg)(T:Tx K mg CT cs ob)(G_place_of:Cal P w K mg base 3 "place_of" ["keys","key"] (sp_place_of K))(F:Fun K "last_up_to" "last_up_to" s_last_up_to f fd):FnOk P w K mg base CX0 4 f fd ["entries","key"] (sp_last_up_to K):=by
 refine F.ok sc_last_up_to (fun vs H Q E h=>?_) (fun cdv A outer s H vs Q E hr h=>?_)
 ·obtain⟨t,xs,es,k,rfl,_⟩:=h;rfl
 obtain⟨t,xs,es,k,rfl,ht,re,hent,up,hk,lx,q⟩:=h
 refine⟨_,(@pss_cons _ _ _ _ _ (ps_set (i:=2) sc_last_up_to.nd rfl (Or.inl rfl) (pe_cal G_place_of (k:=3) hr (by decide) rfl (pa_c (pe_lcomp ["entries","key","place"] rfl (blkOk (N:=["entries","key","place"]) (dsc:=defScope s_last_up_to) rfl rfl (by decide +kernel)) (pi_tup (pv 0)) (fun _ _ _ _ _=>pif_nil) (fun _ _ _ _ _=>(pe_ix (r:=rIxT K) ix_tup (pv 0) pe_int (fun _ _=>rfl)))) (pa_c (pv 1) pa_nil))))
  (@pss_cons _ _ _ _ _ (ps_if (PW.pt (pw_and (pt_cmpR op_lt (pv 2) (pe_callB call_len_seq rfl (Z.len) bo_len (pa_c (pv 0) pa_nil)) (nomark _)) (pw_and1 (pt_cmpR op_eq (pe_ix ix_tup (pe_ix ix_tup (pv 0) (pv 2) (fun _ _=>rfl)) pe_int (fun _ _=>rfl)) (pv 1) (nomark _))))) (pss_one (ps_ret (pv 2))) pss_nil)
  (pss_one (ps_ret (pe_op op_sub (pv 2) pe_int))))),?_⟩
 refine rd_start (σ:=[some (.ref t),some k,none]) rfl ?_
 walk_at "rd"
 have le:=Paired.length re
 have hmap:xs.map (fstOf H)=es.map keyD:=by
  refine List.ext_getElem (by simp[le]) fun i g1 g2=>?_
  have b1:i < xs.length:=by simpa using g1
  obtain⟨d,b,r,hd,ex,hb,_⟩:=ent_at re hent (List.getElem?_eq_getElem b1)
  simp only[List.getElem_map]
  rw[ex,fstOf_at hb]
  obtain⟨_,e⟩:=List.getElem?_eq_some_iff.mp hd
  rw[e]
 refine⟨⟨_,SqT.of ht⟩,lcM_tup xs (fun _=>true) (fstOf H) (SqT.of ht) (small_le (by omega)) (fun i x H2 R _ _ r=>r) (fun i x H2 R hi _ s r=>?_) fun D H2 hD s2 hd=>?_⟩
 ·obtain⟨d,b,r',_,rfl,hb,_⟩:=ent_at re hent hi
  walk_at "rd"
  exact⟨_,SqT.of (s _ _ hb),_,at0 _ _,by rw[fstOf_at hb]at r;exact r⟩
 rw[List.filter_eq_self.mpr (fun _ _=>rfl),hmap]at hd
 refine⟨D,es.map keyD,k,rfl,⟨hd,fun v hv=>?_,?_,by rw[List.length_map];omega⟩,key_pl hk,fun H3 lo s3 hl h1 h2=>?_⟩
 ·obtain⟨d,hd,rfl⟩:=List.mem_map.mp hv
  exact key_pl (hent d hd).key
 ·rw[List.pairwise_map]
  exact List.Pairwise.imp (fun {a b} h=>h.2.2) up
 rw[List.length_map]at hl
 obtain⟨u1,u2⟩:=upTo_of hent hk up hl h1 h2
 have s:=s2.trans s3
 walk_at "rd"
 refine⟨_,.inr (SqT.of (s _ _ ht)),ite2 (fun h=>?_) fun h=>?_⟩
 ·obtain⟨d,b,r,hd,ex,hb,hkd,_⟩:=ent_at re hent (List.getElem?_eq_getElem (show lo < xs.length by omega))
  refine⟨_,SqT.of (s _ _ ht),.ref b,by rw[<- ex];exact atI_nat (List.getElem?_eq_getElem (by omega)),b,rfl,_,SqT.of (s _ _ hb),_,at0 _ _,key_sc hkd hk,ite2 (fun e=>?_) fun e=>?_⟩
  ·exact q _ _ s (u1 d hd e)
  ·exact q _ _ s (u2 fun d' hd' e'=>e (by rw[hd]at hd';cases hd';exact e'))
 ·exact q _ _ s (u2 fun d hd=>by have:=(List.getElem?_eq_some_iff.mp hd).1;omega)
def RowD(d:Dt):Prop:=∃ k c,d=.t [.v k,.t c]/\keyV k
theorem RowD.ent{d:Dt}(h:RowD d):EntD d:=by obtain⟨k,c,rfl,hk⟩:=h;exact⟨k,_,rfl,hk⟩
def sp_cells_at(_:PySem.W.Frag):Sp:=fun vs H Q _=>∃ t xs,∃ at':Int,∃ k,vs=[.ref t,.int at',k]/\H t=some (.tup xs)/\keyV k/\((at' < 0/\Q .non H)\/∃ (i:Nat) (b:Addr) (k' cv:V),at'=(i:Int)/\xs[i]?=some (.ref b)/\H b=some (.tup [k',cv])/\keyV k'/\Q (if k'=k then cv else .non) H)
seal PE PT PW PA PS PSs PI PG PIfs PGs PO in
theorem ok_cells_at{CT:Addr}{cs:Nat->Addr}{ob:Nat->Addr}{f:Addr}{fd:FuncData}(Z:Zs mg)(T:Tx K mg CT cs ob)(F:Fun K "cells_at" "cells_at" s_cells_at f fd):FnOk P w K mg base CX0 1 f fd ["rows","at","key"] (sp_cells_at K):=by
 refine F.ok sc_cells_at (fun vs H Q E h=>?_) (fun cdv A outer s H vs Q E hr h=>?_)
 ·obtain⟨t,xs,at',k,rfl,_⟩:=h;rfl
 obtain⟨t,xs,at',k,rfl,ht,hk,hq⟩:=h
 refine⟨_,(@pss_cons _ _ _ _ _ (ps_if (PW.pt (pw_or (pt_cmpR op_lt (pv 1) pe_int (nomark _)) (pw_or1 (pt_cmpR op_ne (pe_ix ix_tup (pe_ix ix_tup (pv 0) (pv 1) (fun _ _=>rfl)) pe_int (fun _ _=>rfl)) (pv 2) (nomark _))))) (pss_one (ps_ret pe_non)) pss_nil)
  (pss_one (ps_ret (pe_ix ix_tup (pe_ix ix_tup (pv 0) (pv 1) (fun _ _=>rfl)) pe_int (fun _ _=>rfl))))),?_⟩
 refine rd_start (σ:=[some (.ref t),some (.int at'),some k]) rfl ?_
 walk_at "rd"
 rcases hq with ⟨h,q⟩ | ⟨i,b,k',cv,rfl,hx,hb,hk',q⟩
 ·rw[if_pos h];exact q
 ·rw[if_neg (by omega)]
  refine⟨_,SqT.of ht,.ref b,atI_nat hx,b,rfl,_,SqT.of hb,_,at0 _ _,key_sc hk' hk,ite2 (fun e=>?_) fun e=>?_⟩
  ·rw[if_neg (by simpa using e)]at q;exact q
  ·rw[if_pos (by simpa using e)]at q
   exact⟨_,SqT.of ht,.ref b,atI_nat hx,b,rfl,_,SqT.of hb,_,at1 _ _ _,q⟩
def Found(H:Hp)(es:List Dt)(k cv:V):Prop:=(∃ c,Dt.t [.v k,.t c]∈es/\TD H 5 (.t c) cv)\/((∀ d∈es,keyD d≠k)/\cv=.non)
def WayOf(st:StL)(k v:V)(ws:List Int):Prop:=(v=.non/\ws=[])\/∃ n,v=.int n/\Way ltK (tblOf st) k n ws
structure Rows(es:List Dt):Prop where
 row:∀ d∈es,RowD d
 up:UpR ltK es
 len:es.length<=900
theorem tow_keys{tbl:List (Int×Dt)}:∀ {l:Nat} {M part:List Dt},Tow levV tbl l M part->(∀ d∈M,RowD d)->UpR ltK M->(∀ d∈part,EntD d)/\UpR ltK part/\part.length<=M.length/\(1<=l->∀ d∈part,HdD d)
 | 0,M,part,t,h1,h2=>by
  rw[show part=M from t]
  exact⟨fun d hd=>(h1 d hd).ent,h2,Nat.le_refl _,fun z=>by omega⟩
 | l+1,M,part,t,h1,h2=>by
  cases M with
  | nil =>
   have:=t.fst.1.mp rfl
   subst this
   exact⟨(fun d hd=>nomatch hd),List.Pairwise.nil,Nat.le_refl _,fun _ d hd=>nomatch hd⟩
  | cons e r =>
   have ks:=t.keys
   have hd:∀ d∈part,HdD d:=fun d hd=>by
    obtain⟨gs,a,b⟩:=t
    obtain⟨p,hp,n,ed,_⟩:=b.mem hd
    refine⟨_,n,ed,?_⟩
    have hk:keyD d∈keyD e::(r.map keyD).filter (fun k=>decide (l < levV k)):=by rw[<- ks];exact List.mem_map_of_mem hd
    rw[ed,keyD_hd]at hk
    rcases List.mem_cons.mp hk with z | z
    ·rw[z];exact(h1 e (by simp)).ent.key
    ·obtain⟨x,hx,ex⟩:=List.mem_map.mp (List.mem_filter.mp z).1
     rw[<- ex];exact(h1 x (List.mem_cons_of_mem _ hx)).ent.key
   refine⟨fun d h=>(hd d h).ent,?_,t.len0,fun _=>hd⟩
   have sub:(part.map keyD).Sublist ((e::r).map keyD):=by
    rw[ks,List.map_cons]
    exact List.Sublist.cons₂ _ List.filter_sublist
   have up:((e::r).map keyD).Pairwise ltK:=by rw[List.pairwise_map];exact h2
   have:=up.sublist sub
   rw[List.pairwise_map]at this
   exact this
theorem StAt.find{P:Program}{w:World}{ob:Nat->Addr}{H:Hp}{p d1 d2:Addr}{st:StL}{c n:Int}{d:Dt}(h:StAt P w ob H p d1 d2 st c)(hm:(n,d)∈tblOf st):∃ t,(n,d,t)∈st:=by
 obtain⟨⟨a,b,t⟩,m1,e1⟩:=List.mem_map.mp hm
 injection e1 with x1 y1
 dsimp only at x1 y1
 subst x1 y1
 exact⟨t,m1⟩
theorem page_mk{P:Program}{w:World}{cs ob:Nat->Addr}{H:Hp}{p d1 d2:Addr}{st:StL}{c n l:Int}{es:List Dt}{Q:VK}{E:XK}(hS:StAt P w ob H p d1 d2 st c)(hm:(n,tdOf l es)∈tblOf st)(q:∀ a H',Same H H'->H a=none->PgD ob H' a l es->Q (.ref a) H'):sp_Pages_page P w cs ob [.ref p,.int n] H Q E:=by
 obtain⟨t,ht⟩:=hS.find hm
 refine⟨p,d1,d2,st,c,n,rfl,hS,fun l2 es2 t2 hm2 a H' s ha pg=>?_,fun z=>(z _ ht rfl).elim⟩
 obtain⟨el,ee⟩:=tdOf_inj (hS.fun_ ht hm2).1
 subst el ee
 exact q a H' s ha pg
theorem rd_page{P:Program}{w:World}{K:PySem.W.Frag}{mg:Str->Option Value}{base:Heap}{CT:Addr}{cs ob:Nat->Addr}{kk mm i j:Nat}{σ:St}{H:Hp}{p d1 d2:Addr}{st:StL}{c n l:Int}{es:List Dt}{Q:VK}{E:XK}(T:Tx K mg CT cs ob)(M:MeV P w K mg base mm (ob 3) "page" (sp_Pages_page P w cs ob))(hk:mm<=kk)
 (hi:σ[i]?=some (some (.ref p))) (hj:σ[j]?=some (some (.int n))) (hS:StAt P w ob H p d1 d2 st c) (hm:(n,tdOf l es)∈tblOf st) (q:∀ a H',Same H H'->H a=none->PgD ob H' a l es->Q (.ref a) H'):tMethV P w K mg base kk "page" (tVar i) (tCons (tVar j) tNil) σ H Q E:=by
 obtain⟨dx,ho⟩:=hS.obj
 refine rd_methV hi ho rfl (T.ob_ 3 (by decide)).cl (M.mono hk) ⟨_,hj,?_⟩
 simp only[tNil]
 exact page_mk hS hm q
theorem StAt.off_pg{P:Program}{w:World}{ob:Nat->Addr}{H:Hp}{p d1 d2 a C dx t:Addr}{st:StL}{c l:Int}{tw:Bool}(h:StAt P w ob H p d1 d2 st c)(ha:H a=some (.ins C dx (pgF tw l t))):a∉[p,d1,d2]:=fun z=>by
 obtain⟨dx',ho⟩:=h.obj
 simp only[List.mem_cons,List.not_mem_nil,or_false]at z
 rcases z with z | z | z
 ·rw[z,ho]at ha
  injection ha with ha
  injection ha with _ _ hf
  have:=congrArg (List.lookup ("level":Str)) hf
  have e1:(stF d1 d2 c).lookup ("level":Str)=none:=rfl
  have e2:(pgF tw l t).lookup ("level":Str)=some (.int l):=by cases tw <;> rfl
  rw[e1,e2]at this
  cases this
 ·rw[z,h.num]at ha;cases ha
 ·rw[z,h.tol]at ha;cases ha
theorem StAt.none_x{P:Program}{w:World}{ob:Nat->Addr}{H H':Hp}{p d1 d2 b:Addr}{st st':StL}{c c':Int}(_:StAt P w ob H p d1 d2 st c)(s:SameX [p,d1,d2] H H')(h':StAt P w ob H' p d1 d2 st' c')(hb:H' b=none):H b=none:=by
 cases e:H b with
 | none=>rfl
 | some o =>
  have hn:b∉[p,d1,d2]:=fun z=>by
   obtain⟨dx',ho⟩:=h'.obj
   simp only[List.mem_cons,List.not_mem_nil,or_false]at z
   rcases z with z | z | z
   ·rw[z,ho]at hb;cases hb
   ·rw[z,h'.num]at hb;cases hb
   ·rw[z,h'.tol]at hb;cases hb
  rw[s _ _ hn e]at hb;cases hb
theorem PgD.few{P:Program}{w:World}{ob:Nat->Addr}{H:Hp}{p d1 d2:Addr}{st:StL}{c n l:Int}{es:List Dt}(hS:StAt P w ob H p d1 d2 st c)(hm:(n,tdOf l es)∈tblOf st):es.length<=900:=by
 obtain⟨t,ht⟩:=hS.find hm
 obtain⟨l3,k3,r3,es3,e3,_,h3⟩:=hS.sh _ ht
 rw[(tdOf_inj e3).2]
 simp;omega
structure Mid(R M:List Dt)(k:V):Prop where
 ex:∃ A B,R=A++(M++B)/\(∀ a∈A,ltK (keyD a) k)/\∀ b∈B,ltK k (keyD b)
theorem Mid.refl(R:List Dt)(k:V):Mid R R k:=⟨[],[],by simp,(fun a h=>nomatch h),fun b h=>nomatch h⟩
theorem Mid.trans{R M N:List Dt}{k:V}(h:Mid R M k)(h':Mid M N k):Mid R N k:=by
 obtain⟨A,B,e,h1,h2⟩:=h.ex
 obtain⟨C,D,e',h3,h4⟩:=h'.ex
 exact⟨A++C,D++B,by rw[e,e'];simp,fun a ha=>(List.mem_append.mp ha).elim (h1 a) (h3 a),fun b hb=>(List.mem_append.mp hb).elim (h4 b) (h2 b)⟩
theorem Mid.none_{R M:List Dt}{k:V}(h:Mid R M k)(n:∀ d∈M,keyD d≠k):∀ d∈R,keyD d≠k:=by
 obtain⟨A,B,e,h1,h2⟩:=h.ex
 intro d hd z
 rw[e]at hd
 rcases List.mem_append.mp hd with y | y
 ·have:=h1 d y;rw[z]at this;exact ltK.irr _ this
 ·rcases List.mem_append.mp y with y | y
  ·exact n d y z
  ·have:=h2 d y;rw[z]at this;exact ltK.irr _ this
theorem Mid.mem{R M:List Dt}{k:V}(h:Mid R M k){d:Dt}(hd:d∈M):d∈R:=by
 obtain⟨A,B,e,h1,h2⟩:=h.ex
 rw[e];simp[hd]
theorem none_of{H0 H1:Hp}{b:Addr}(s:Same H0 H1)(h:H1 b=none):H0 b=none:=by
 cases e:H0 b with
 | none=>rfl
 | some o=>rw[s _ _ e]at h;cases h
theorem Rows.mid{R M:List Dt}{k:V}(h:Rows R)(m:Mid R M k):(∀ d∈M,RowD d)/\UpR ltK M/\M.length<=900:=by
 obtain⟨A,B,e,_,_⟩:=m.ex
 have up:=h.up
 have l:=h.len
 rw[e]at up l
 simp only[List.length_append]at l
 exact⟨fun d hd=>h.row d (m.mem hd),up.right.left,by omega⟩
theorem tow_step{tbl:List (Int×Dt)}{l:Nat}{M a b:List Dt}{h:Dt}{k:V}(t:Tow levV tbl (l+1) M (a++h::b))(up:UpR ltK M)(le:ltK (keyD h) k\/keyD h=k)(hb:∀ x∈b,ltK k (keyD x)) :
 ∃ A N B n part,M=A++(N++B)/\Tow levV tbl (l+1) A a/\Tow levV tbl (l+1) B b/\h=hdOf (fstK N) n/\(n,tdOf (l:Int) part)∈tbl/\Tow levV tbl l N part/\N≠[]/\(A=[]\/l+1<=levV (fstK N))/\(B=[]\/l+1<=levV (fstK B))/\(∀ a∈A,ltK (keyD a) k)/\∀ b∈B,ltK k (keyD b):=by
 obtain⟨A,N,B,n,part,e,tA,tN,tB,eh,hm,tp,hN,h1,h2⟩:=t.at_
 rw[eh,keyD_hd]at le
 rw[e]at up
 refine⟨A,N,B,n,part,e,tA,tB,eh,hm,tp,hN,h1,h2,?_,?_⟩
 ·have u1:UpR ltK (A++N):=by rw[<- List.append_assoc]at up;exact up.left
  exact u1.ahead hN ltK.tr le
 ·refine up.right.behind ltK.tr ?_
  by_cases eB:B=[]
  ·exact .inl eB
  ·have hb0:=tB.ne eB
   cases b with
   | nil=>exact absurd rfl hb0
   | cons x r =>
    refine .inr ?_
    rw[<- tB.fst.2]
    exact hb x (by simp)
def sp_seek(P:Program)(w:World)(cs ob:Nat->Addr):Sp:=fun vs H Q _=>∃ p d1 d2 st c v k es,vs=[.ref p,v,k]/\StAt P w ob H p d1 d2 st c/\TreeOf st es v/\Rows es/\keyV k/\∀ r y H' cv ws,Same H H'->H r=none->H' r=some (.tup [cv,.ref y])->H' y=some (.lst (ws.map V.int))->H y=none->Found H' es k cv->WayOf st k v ws->Q (.ref r) H'
seal PE PT PW PA PS PSs PI PG PIfs PGs PO in
theorem ok_seek{CT:Addr}{cs:Nat->Addr}{ob:Nat->Addr}{f:Addr}{fd:FuncData}(Z:Zs mg)(T:Tx K mg CT cs ob)(G_last_up_to:Cal P w K mg base 4 "last_up_to" ["entries","key"] (sp_last_up_to K))(G_cells_at:Cal P w K mg base 1 "cells_at" ["rows","at","key"] (sp_cells_at K))(M_Pages_page:MeV P w K mg base 5 (ob 3) "page" (sp_Pages_page P w cs ob))(F:Fun K "seek" "seek" s_seek f fd):FnOk P w K mg base CX0 6 f fd ["pages","root","key"] (sp_seek P w cs ob):=by
 refine F.ok sc_seek (fun vs H Q E h=>?_) (fun cdv A outer s H vs Q E hr h=>?_)
 ·obtain⟨p,d1,d2,st,c,v,k,es,rfl,_⟩:=h;rfl
 obtain⟨p,d1,d2,st,c,v,k,es,rfl,hS,hT,hR,hk,q⟩:=h
 refine⟨_,(@pss_cons _ _ _ _ _ (ps_set (i:=3) sc_seek.nd rfl (Or.inl rfl) (pe_lst pa_nil))
  (@pss_cons _ _ _ _ _ (ps_set (i:=4) sc_seek.nd rfl (Or.inl rfl) (pv 1))
  (@pss_cons _ _ _ _ _ (ps_while PassesOwn.never (pt_cmpR op_notN (pv 4) pe_non (nomark _)) (@pss_cons _ _ _ _ _ (ps_expr (pe_bm PySem.F.plainAttrs_list PySem.F.slot_list_append PySem.F.type_list_append mt_append (pv 3) (pa_c (pv 4) pa_nil)))
  (@pss_cons _ _ _ _ _ (ps_set (i:=5) sc_seek.nd rfl (Or.inl rfl) (PE1.pe (pe1_methV (k:=5) (pv 0) hr rfl (pa_c (pv 4) pa_nil)) throwsN))
  (@pss_cons _ _ _ _ _ (ps_set (i:=6) sc_seek.nd rfl (Or.inl rfl) (pe_cal G_last_up_to (k:=5) hr (by decide) rfl (pa_c (pe_fld (pv 5) rfl) (pa_c (pv 2) pa_nil))))
  (@pss_cons _ _ _ _ _ (ps_if (pt_cmpR op_eq (pe_fld (pv 5) rfl) pe_int (nomark _)) (pss_one (ps_ret (pe_tup (pa_c (pe_cal G_cells_at (k:=5) hr (by decide) rfl (pa_c (pe_fld (pv 5) rfl) (pa_c (pv 6) (pa_c (pv 2) pa_nil)))) (pa_c (pv 3) pa_nil))))) pss_nil)
  (pss_one (ps_set (i:=4) sc_seek.nd rfl (Or.inl rfl) (pe_ifExp (pt_cmpR op_ge (pv 6) pe_int (nomark _)) (pe_ix ix_tup (pe_ix ix_tup (pe_fld (pv 5) rfl) (pv 6) (fun _ _=>rfl)) pe_int (fun _ _=>rfl)) pe_non))))))))
  (pss_one (ps_ret (pe_tup (pa_c pe_non (pa_c (pv 3) pa_nil)))))))),?_⟩
 refine rd_start (σ:=[some (.ref p),some v,some k,none,none,none,none]) rfl ?_
 walk_at "rd"
 refine⟨by decide,fun y hy=>?_⟩
 refine⟨fun m σ' H'=>∃ (nv:V) (ws:List Int) (x5 x6:Option V),σ'=[some (.ref p),some v,some k,some (.ref y),some nv,x5,x6]/\Same H H'/\H' y=some (.lst (ws.map V.int))/\ws.length+m<=8 /\
  ((nv=.non/\(∀ d∈es,keyD d≠k)/\WayOf st k v ws)\/∃ n l M part,nv=.int n/\m=l+1/\(n,tdOf ((l:Nat):Int) part)∈tblOf st/\Tow levV (tblOf st) l M part/\M≠[]/\Mid es M k/\∀ w',Way ltK (tblOf st) k n w'->WayOf st k v (ws++w')),?_,?_⟩
 ·rcases hT with ⟨rfl,rfl⟩ | ⟨hne,top,L,kk,n,h6,ch,eL,rfl⟩
  ·exact⟨0,.non,[],none,none,rfl,same_upd hy _,upd_same,by simp,.inl ⟨rfl,(fun d hd=>nomatch hd),.inl ⟨rfl,rfl⟩⟩⟩
  ·obtain⟨part,hm,tp,_,_⟩:=(ch.toRoot hS.fn eL).page
   exact⟨top+1,.int n,[],none,none,rfl,same_upd hy _,upd_same,by simp;omega,.inr ⟨n,top,es,part,rfl,rfl,hm,tp,hne,Mid.refl _ _,fun w' hw=>.inr ⟨n,rfl,hw⟩⟩⟩
 rintro m σ' H' ⟨nv,ws,x5,x6,rfl,s1,hy1,lw,hcase⟩
 walk_at "rd"
 rcases hcase with ⟨rfl,hno,hw⟩ | ⟨n,l,M,part,rfl,rfl,hm,tp,hM,hmid,hway⟩
 ·rw[if_neg (not_not_intro rfl)]
  exact⟨two_ok,fun r hr=>q r y _ .non ws (s1.trans (same_upd hr _)) (none_of s1 hr) upd_same (same_upd hr _ _ _ hy1) hy (.inr ⟨hno,rfl⟩) hw⟩
 rw[if_pos (fun z=>nomatch z)]
 refine⟨_,fun σ' H' h=>h,.inl ⟨rfl,_,SqL.of hy1⟩,_,hy1,small1000 (by rw[List.length_map];omega),?_⟩
 have s2:Same H (upd H' y (.lst (ws.map V.int++[.int n]))):=same_updN s1 hy
 have g2:upd H' y (.lst (ws.map V.int++[.int n])) y=some (.lst ((ws++[n]).map V.int)):=by rw[upd_same,List.map_append];rfl
 generalize upd H' y (.lst (ws.map V.int++[.int n]))=H2 at s2 g2 ⊢
 have hS2:=hS.same s2
 obtain⟨dx,ho⟩:=hS2.obj
 obtain⟨rowM,upM,lenM⟩:=hR.mid hmid
 obtain⟨hent,up',lp,hhd⟩:=tow_keys tp rowM upM
 refine rd_page T M_Pages_page (by decide) rfl rfl hS2 hm fun pg H3 s3 hpg pgd=>?_
 obtain⟨tw,dxp,t,etw,hpa,ht⟩:=id pgd
 obtain⟨mm,t',xs,em,e,ht',rt⟩:=ht.tup
 cases e
 obtain rfl:mm=6:=by omega
 have lxs:=Paired.length rt
 refine rd_entries T rfl hpa ⟨t,xs,part,k,rfl,ht',rt,hent,up',hk,by omega,fun H4 at' s4 hu=>?_⟩
 have hpa4:=s4 _ _ hpa
 have s24:=s2.trans (s3.trans s4)
 have y4:=s4 _ _ (s3 _ _ g2)
 have rt4:=TDs.sameT rt s4.t
 obtain⟨a,b,ep,ea,h1,h2⟩:=hu
 refine rd_level T rfl hpa4 ⟨rfl,ite2 (fun h0=>?_) fun h0=>?_⟩
 ·injection h0 with h0
  obtain rfl:l=0:=by omega
  obtain rfl:tw=false:=by rw[etw];rfl
  rw[show part=M from tp]at hm ep rt4 lxs
  refine rd_fld (T.ob_ 1 (by decide)) (by decide) rfl hpa4 rfl ?_
  have fin:∀ cv,Found H4 M k cv->[cv,V.ref y].length<=sizeLine/\∀ p:Addr,H4 p=none->Q (.ref p) (upd H4 p (.tup [cv,.ref y])):=fun cv hf=>by
   refine⟨two_ok,fun r hr=>q r y _ cv (ws++[n]) (s24.trans (same_upd hr _)) (none_of s24 hr) upd_same (same_upd hr _ _ _ y4) hy ?_ (hway [n] (.leaf hm))⟩
   rcases hf with ⟨c,hc,tc⟩ | ⟨hn,e⟩
   ·exact .inl ⟨c,hmid.mem hc,tc.same (same_upd hr _)⟩
   ·exact .inr ⟨hmid.none_ hn,e⟩
  by_cases ea0:a=[]
  ·subst ea0
   refine⟨t,xs,at',k,rfl,s4 _ _ ht',hk,.inl ⟨by rw[ea];decide,fin _ (.inr ⟨fun d hd z=>?_,rfl⟩)⟩⟩
   rw[ep]at hd
   have:=h2 d hd
   rw[z]at this
   exact ltK.irr _ this
  ·obtain⟨ini,x,rfl⟩:=snoc_of ea0
   have hx:M[ini.length]?=some x:=by rw[ep,List.append_assoc];simp
   have li:ini.length < xs.length:=by have:=(List.getElem?_eq_some_iff.mp hx).1;omega
   have tx:=paired_get rt4 hx (List.getElem?_eq_getElem li)
   obtain⟨kx,cx,rfl,hkx⟩:=rowM x (List.mem_of_getElem? hx)
   obtain⟨bb,v1,v2,eb,hb,w1,w2⟩:=TD.pair_of tx
   obtain⟨_,rfl⟩:=w1.flat
   refine⟨t,xs,at',k,rfl,s4 _ _ ht',hk,.inr ⟨ini.length,bb,v1,v2,by rw[ea];simp,by rw[List.getElem?_eq_getElem li,eb],hb,hkx,?_⟩⟩
   by_cases ek:v1=k
   ·rw[if_pos ek]
    subst ek
    exact fin _ (.inl ⟨cx,List.mem_of_getElem? hx,w2⟩)
   ·rw[if_neg ek]
    refine fin _ (.inr ⟨fun d hd z=>?_,rfl⟩)
    rw[ep]at hd
    rcases List.mem_append.mp hd with w | w
    ·rcases List.mem_append.mp w with w | w
     ·have u:ltK (keyD d) v1:=by
       have:=upM
       rw[ep]at this
       exact this.left.across w (List.mem_singleton.mpr rfl)
      rw[z]at u
      rcases h1 _ (List.mem_append_right _ (List.mem_singleton.mpr rfl)) with c | c
      ·exact ltK.irr _ (ltK.tr u c)
      ·exact ek c
     ·rw[List.mem_singleton.mp w]at z;exact ek z
    ·have:=h2 d w
     rw[z]at this
     exact ltK.irr _ this
 ·have hl0:l≠0:=fun z=>h0 (by rw[z];rfl)
  obtain⟨l',rfl⟩:∃ l',l=l'+1:=⟨l - 1,by omega⟩
  obtain rfl:tw=true:=by rw[etw];exact decide_eq_true (by omega)
  refine⟨at',rfl,ite2 (fun hi=>?_) fun hi=>?_⟩
  ·have ea0:a≠[]:=fun z=>by rw[z]at ea;simp at ea;omega
   obtain⟨ini,x,rfl⟩:=snoc_of ea0
   have hx:part[ini.length]?=some x:=by rw[ep,List.append_assoc];simp
   have li:ini.length < xs.length:=by have:=(List.getElem?_eq_some_iff.mp hx).1;omega
   have tx:=paired_get rt4 hx (List.getElem?_eq_getElem li)
   have hle:=h1 x (List.mem_append_right _ (List.mem_singleton.mpr rfl))
   rw[List.append_assoc]at ep
   rw[ep]at tp hm
   obtain⟨A,N,B,n',part',eM,tA,tB,ex,hm',tp',hN,_,_,hA,hB⟩:=tow_step tp upM hle h2
   subst ex
   obtain⟨bb,v1,v2,eb,hb,w1,w2⟩:=TD.pair_of tx
   obtain⟨_,rfl⟩:=w2.flat
   rw[keyD_hd]at hle
   refine rd_fld (T.ob_ 2 (by decide)) (by decide) rfl hpa4 rfl ⟨t,rfl,_,at',rfl,SqT.of (s4 _ _ ht'),.ref bb,by rw[ea,<- eb];simp;exact atI_nat (List.getElem?_eq_getElem li),bb,rfl,_,SqT.of hb,_,at1 _ _ _,l'+1,by omega,.int n',ws++[n],_,_,rfl,s24,y4,by simp;omega,.inr ⟨n',rfl,l',rfl,N,part',hm',tp',hN,hmid.trans ⟨A,B,eM,hA,hB⟩,fun w' hw=>?_⟩⟩
   have:=hway (n::w') (.go hm (fun z=>by rcases hle with c | c;exact ltK.irr _ (ltK.tr z c);rw[c]at z;exact ltK.irr _ z) h2 hw)
   rw[List.append_assoc]
   exact this
  ·have ea0:a=[]:=by
    cases a with
    | nil=>rfl
    | cons x r=>simp at ea;omega
   subst ea0
   rw[List.nil_append]at ep
   subst ep
   refine⟨0,by omega,.non,ws++[n],_,_,rfl,s24,y4,by simp;omega,.inl ⟨rfl,hmid.none_ fun d hd z=>?_,hway [n] (.stop hm h2)⟩⟩
   have kf:ltK k (fstK M):=by
    rw[<- tp.fst.2]
    have hne:=tp.ne hM
    cases part with
    | nil=>exact absurd rfl hne
    | cons x r=>exact h2 x (by simp)
   have:=UpR.behind (M:=[]) (B:=M) upM ltK.tr (.inr kf) d hd
   rw[z]at this
   exact ltK.irr _ this
structure HdsAt(P:Program)(w:World)(ob:Nat->Addr)(H H':Hp)(p d1 d2:Addr)(st st':StL)(c':Int)(r:Addr)(l:Nat)(M hs:List Dt)(ys:List V):Prop where
 sx:SameX [p,d1,d2] H H'
 fr:H r=none
 at_:H' r=some (.lst ys)
 ty:Paired (fun d v=>TD H' 6 d v) hs ys
 hd:∀ d∈hs,HdD d
 tow:Tow levV (tblOf st') (l+1) M hs
 sA:StAt P w ob H' p d1 d2 st' c'
 sub:∀ x∈tblOf st,x∈tblOf st'
section
variable{P:Program}{w:World}{ob:Nat->Addr}{H H0 H1:Hp}{p d1 d2 e:Addr}{st st1:StL}{c1:Int}{b:Bool}{xs:List V}{es M:List Dt}{l:Nat}{Q:VK}{E:XK}
theorem heads_mk(hS:StAt P w ob H1 p d1 d2 st1 c1)(he:HE b H1 e xs)(re:Paired (fun d v=>TD H1 6 d v) es xs)(hent:∀ d∈es,EntD d)(lx:xs.length<=900)(few:st1.length+xs.length<=1000000)(t:Tow levV (tblOf st1) l M es)(sx:SameX [p,d1,d2] H H1)(sub:∀ x∈tblOf st,x∈tblOf st1)
 (q:∀ r H' st' c' hs ys,HdsAt P w ob H H' p d1 d2 st st' c' r l M hs ys->st'.length<=st1.length+xs.length->Q (.ref r) H') (fr:∀ r,H1 r=none->H r=none):sp_heads_of P w ob [.ref p,.int l,.ref e] H1 Q E :=
 ⟨p,d1,d2,st1,c1,l,e,b,xs,es,rfl,hS,he,re,hent,lx,few,fun r H' st' c' hs ys sx2 hr hr2 tys hd heads hS2 sub2 l2=>q r H' st' c' hs ys ⟨sx.trans sx2,fr r hr,hr2,tys,hd,(t.mono sub2).up heads,hS2,fun x hx=>sub2 x (sub x hx)⟩ l2⟩
end
theorem big_le{n:Nat}(h:n<=9000):n<=sizeLine:=Nat.le_trans h (by rw[sizeLine_eq];decide)
section
variable{K:PySem.W.Frag}{H:Hp}{l l2 b:Addr}{xs zs bs:List V}{i j:Int}{v:V}{R:Addr->Hp->Prop}
theorem rd_mid(R:Addr->Hp->Prop)(hl:H l=some (.lst xs))(hb:H b=some (.lst bs))(hl2:H l2=some (.lst zs))(lx:xs.length<=1000)(lz:zs.length<=1000)(lb:bs.length<=1000)(q:∀ r H',Same H H'->H r=none->H' r=some (.lst (cutV xs none (some i)++bs++cutV zs (some j) none))->R r H') :
 ∃ x,SqL K H l x/\∀ p,H p=none->∃ x4,upd H p (.lst (cutV x none (some i))) p=some (.lst x4)/\∃ x5,upd H p (.lst (cutV x none (some i))) b=some (.lst x5)/\x4.length+x5.length<=sizeLine/\∀ p2,upd H p (.lst (cutV x none (some i))) p2=none ->
  ∃ x6,SqL K (upd (upd H p (.lst (cutV x none (some i)))) p2 (.lst (x4++x5))) l2 x6/\∀ p3,upd (upd H p (.lst (cutV x none (some i)))) p2 (.lst (x4++x5)) p3=none ->
   ∃ x7,upd (upd (upd H p (.lst (cutV x none (some i)))) p2 (.lst (x4++x5))) p3 (.lst (cutV x6 (some j) none)) p2=some (.lst x7)/\∃ x8,upd (upd (upd H p (.lst (cutV x none (some i)))) p2 (.lst (x4++x5))) p3 (.lst (cutV x6 (some j) none)) p3=some (.lst x8)/\x7.length+x8.length<=sizeLine /\
    ∀ p4,upd (upd (upd H p (.lst (cutV x none (some i)))) p2 (.lst (x4++x5))) p3 (.lst (cutV x6 (some j) none)) p4=none->R p4 (upd (upd (upd (upd H p (.lst (cutV x none (some i)))) p2 (.lst (x4++x5))) p3 (.lst (cutV x6 (some j) none))) p4 (.lst (x7++x8))):=by
 have c1:=cutV_length xs none (some i)
 have c2:=cutV_length zs (some j) none
 refine⟨xs,SqL.of hl,fun p hp=>⟨_,upd_same,bs,same_upd hp _ _ _ hb,big_le (by omega),fun p2 hp2=>?_⟩⟩
 have s2:=(same_upd hp (.lst (cutV xs none (some i)))).trans (same_upd hp2 (.lst (cutV xs none (some i)++bs)))
 refine⟨zs,SqL.of (s2 _ _ hl2),fun p3 hp3=>⟨_,same_upd hp3 _ _ _ upd_same,_,upd_same,big_le (by rw[List.length_append];omega),fun p4 hp4=>?_⟩⟩
 have s3:=s2.trans (same_upd hp3 (.lst (cutV zs (some j) none)))
 exact q p4 _ (s3.trans (same_upd hp4 _)) (none_of s3 hp4) upd_same
theorem rd_mid1(R:Addr->Hp->Prop)(hl:H l=some (.lst xs))(lx:xs.length<=1000)(q:∀ r H',Same H H'->H r=none->H' r=some (.lst (cutV xs none (some i)++[v]++cutV xs (some j) none))->R r H') :
 ∃ x,SqL K H l x/\∀ p,H p=none->[v].length<=sizeLine/\∀ p1,upd H p (.lst (cutV x none (some i))) p1=none->∃ x4,upd (upd H p (.lst (cutV x none (some i)))) p1 (.lst [v]) p=some (.lst x4)/\∃ x5,upd (upd H p (.lst (cutV x none (some i)))) p1 (.lst [v]) p1=some (.lst x5)/\x4.length+x5.length<=sizeLine/\∀ p2,upd (upd H p (.lst (cutV x none (some i)))) p1 (.lst [v]) p2=none ->
  ∃ x6,SqL K (upd (upd (upd H p (.lst (cutV x none (some i)))) p1 (.lst [v])) p2 (.lst (x4++x5))) l x6/\∀ p3,upd (upd (upd H p (.lst (cutV x none (some i)))) p1 (.lst [v])) p2 (.lst (x4++x5)) p3=none ->
   ∃ x7,upd (upd (upd (upd H p (.lst (cutV x none (some i)))) p1 (.lst [v])) p2 (.lst (x4++x5))) p3 (.lst (cutV x6 (some j) none)) p2=some (.lst x7)/\∃ x8,upd (upd (upd (upd H p (.lst (cutV x none (some i)))) p1 (.lst [v])) p2 (.lst (x4++x5))) p3 (.lst (cutV x6 (some j) none)) p3=some (.lst x8)/\x7.length+x8.length<=sizeLine /\
    ∀ p4,upd (upd (upd (upd H p (.lst (cutV x none (some i)))) p1 (.lst [v])) p2 (.lst (x4++x5))) p3 (.lst (cutV x6 (some j) none)) p4=none->R p4 (upd (upd (upd (upd (upd H p (.lst (cutV x none (some i)))) p1 (.lst [v])) p2 (.lst (x4++x5))) p3 (.lst (cutV x6 (some j) none))) p4 (.lst (x7++x8))):=by
 have c1:=cutV_length xs none (some i)
 have c2:=cutV_length xs (some j) none
 have l1:[v].length=1:=rfl
 refine⟨xs,SqL.of hl,fun p hp=>⟨one_sz _,fun p1 hp1=>⟨_,same_upd hp1 _ _ _ upd_same,_,upd_same,big_le (by omega),fun p2 hp2=>?_⟩⟩⟩
 have s2:=(same_upd hp (.lst (cutV xs none (some i)))).trans ((same_upd hp1 (.lst [v])).trans (same_upd hp2 (.lst (cutV xs none (some i)++[v]))))
 refine⟨xs,SqL.of (s2 _ _ hl),fun p3 hp3=>⟨_,same_upd hp3 _ _ _ upd_same,_,upd_same,big_le (by rw[List.length_append];omega),fun p4 hp4=>?_⟩⟩
 have s3:=s2.trans (same_upd hp3 (.lst (cutV xs (some j) none)))
 exact q p4 _ (s3.trans (same_upd hp4 _)) (none_of s3 hp4) upd_same
theorem rd_two(R:Addr->Hp->Prop)(hl:H l=some (.lst xs))(lx:xs.length<=1000)(q:∀ r H',Same H H'->H r=none->H' r=some (.lst (cutV xs none (some i)++cutV xs (some j) none))->R r H') :
 ∃ x,SqL K H l x/\∀ p,H p=none->∃ x6,SqL K (upd H p (.lst (cutV x none (some i)))) l x6/\∀ p3,upd H p (.lst (cutV x none (some i))) p3=none ->
  ∃ x7,upd (upd H p (.lst (cutV x none (some i)))) p3 (.lst (cutV x6 (some j) none)) p=some (.lst x7)/\∃ x8,upd (upd H p (.lst (cutV x none (some i)))) p3 (.lst (cutV x6 (some j) none)) p3=some (.lst x8)/\x7.length+x8.length<=sizeLine /\
   ∀ p4,upd (upd H p (.lst (cutV x none (some i)))) p3 (.lst (cutV x6 (some j) none)) p4=none->R p4 (upd (upd (upd H p (.lst (cutV x none (some i)))) p3 (.lst (cutV x6 (some j) none))) p4 (.lst (x7++x8))):=by
 have c1:=cutV_length xs none (some i)
 have c2:=cutV_length xs (some j) none
 refine⟨xs,SqL.of hl,fun p hp=>⟨xs,SqL.of (same_upd hp _ _ _ hl),fun p3 hp3=>⟨_,same_upd hp3 _ _ _ upd_same,_,upd_same,big_le (by omega),fun p4 hp4=>?_⟩⟩⟩
 have s3:=(same_upd hp (.lst (cutV xs none (some i)))).trans (same_upd hp3 (.lst (cutV xs (some j) none)))
 exact q p4 _ (s3.trans (same_upd hp4 _)) (none_of s3 hp4) upd_same
end
theorem upTo_put{es:List Dt}{k:V}{row:Dt}{at':Int}(up:UpR ltK es)(h:UpTo es k at') :
 (∀ (i:Nat) d,at'=(i:Int)->es[i]?=some d->keyD d=k->PutR ltK k row es (es.take i++row::es.drop (i+1)))/\((∀ (i:Nat) d,at'=(i:Int)->es[i]?=some d->keyD d≠k)->∃ j:Nat,at'+1=(j:Int)/\j<=es.length/\PutR ltK k row es (es.take j++row::es.drop j)):=by
 obtain⟨a,b,rfl,rfl,h1,h2⟩:=h
 constructor
 ·intro i d hi hd e
  have la:i < a.length:=by omega
  rw[List.getElem?_append_left la]at hd
  have ea:a=a.take i++[d]:=by
   have:a.drop i=[d]:=by
    rw[<- List.getElem_cons_drop la,List.drop_of_length_le (by omega)]
    rw[List.getElem?_eq_getElem la]at hd
    injection hd with hd
    rw[hd]
   rw[<- this,List.take_append_drop]
  have t1:(a++b).take i=a.take i:=by rw[List.take_append_of_le_length (by omega)]
  have t2:(a++b).drop (i+1)=b:=by rw[show i+1=a.length by omega,List.drop_left]
  rw[t1,t2]
  refine⟨a.take i,b,rfl,.inr ⟨d,?_,e⟩,fun x hx=>?_,h2⟩
  ·conv=>lhs;rw[ea]
   simp
  ·rw[ea,List.append_assoc]at up
   rw[<- e]
   exact up.across hx (by simp)
 ·intro hn
  refine⟨a.length,by omega,by simp,a,b,by simp,.inl rfl,fun x hx=>?_,h2⟩
  rcases h1 x hx with z | z
  ·exact z
  ·exfalso
   obtain⟨ini,last,rfl⟩:=snoc_of (xs:=a) (fun y=>by rw[y]at hx;cases hx)
   have hl:=hn ini.length last (by simp) (by rw[List.getElem?_append_left (by simp)];simp)
   rcases List.mem_append.mp hx with y | y
   ·have u:=up.left.across y (List.mem_singleton.mpr rfl)
    rw[z]at u
    rcases h1 last (by simp) with v | v
    ·exact ltK.irr _ (ltK.tr u v)
    ·exact hl v
   ·rw[List.mem_singleton.mp y]at z;exact hl z
theorem PutR.len{k:V}{row:Dt}{R R':List Dt}(h:PutR ltK k row R R'):R'.length<=R.length+1:=by
 obtain⟨A,C,e,e2,_⟩:=h
 rcases e2 with e2 | ⟨o,e2,_⟩ <;> rw[e,e2] <;> simp <;> omega
theorem way_step{tbl:List (Int×Dt)}{l:Nat}{M part:List Dt}{k:V}{at':Int}(t:Tow levV tbl (l+1) M part)(hM:M≠[])(up:UpR ltK M)(hu:UpTo part k at') :
 ∃ ini h bs A N B n' part',part=ini++h::bs/\(if (0:Int) > at' then (0:Int) else at')=(ini.length:Int)/\M=A++(N++B)/\Tow levV tbl (l+1) A ini/\Tow levV tbl (l+1) B bs/\h=hdOf (fstK N) n'/\(n',tdOf (l:Int) part')∈tbl/\Tow levV tbl l N part'/\N≠[]/\(B=[]\/l+1<=levV (fstK B))/\(∀ a∈A,ltK (keyD a) k)/\(∀ b∈B,ltK k (keyD b))/\(A=[]\/(l+1<=levV (fstK N)/\(ltK (fstK N) k\/fstK N=k))):=by
 obtain⟨a,b,rfl,rfl,h1,h2⟩:=hu
 by_cases ea:a=[]
 ·subst ea
  cases b with
  | nil=>exact absurd rfl (t.ne hM)
  | cons h bs =>
   obtain⟨A,N,B,n,part',e,tA,tN,tB,eh,hm,tp,hN,c1,c2⟩:=(show Tow levV tbl (l+1) M ([]++h::bs) from t).at_
   have eA:A=[]:=tA.fst.1.mpr rfl
   subst eA
   rw[List.nil_append]at e
   have kN:ltK k (fstK N):=by have:=h2 h (by simp);rw[eh]at this;exact this
   refine⟨[],h,bs,[],N,B,n,part',rfl,rfl,by rw[e];rfl,tA,tB,eh,hm,tp,hN,c2,(fun a ha=>nomatch ha),fun b hb=>?_,.inl rfl⟩
   rw[e]at up
   obtain⟨x,hx,ex⟩:=fstK_mem hN
   have:=up.across hx hb
   rw[ex]at this
   exact ltK.tr kN this
 ·obtain⟨ini,h,rfl⟩:=snoc_of ea
  rw[List.append_assoc]at t
  have le:=h1 h (List.mem_append_right _ (List.mem_singleton.mpr rfl))
  obtain⟨A,N,B,n,part',e,tA,tB,eh,hm,tp,hN,c1,c2,hA,hB⟩:=tow_step t up le h2
  refine⟨ini,h,b,A,N,B,n,part',by rw[List.append_assoc];rfl,?_,e,tA,tB,eh,hm,tp,hN,c2,hA,hB,?_⟩
  ·rw[List.length_append,List.length_singleton,if_neg (by omega)];omega
  ·rw[eh,keyD_hd]at le
   exact c1.imp_right fun z=>⟨z,le⟩
def sp_rows_with(_:PySem.W.Frag):Sp:=fun vs H Q _=>∃ l xs es,∃ at':Int,∃ rb row k,vs=[.ref l,.int at',.ref rb]/\H l=some (.lst xs)/\Paired (fun d v=>TD H 6 d v) es xs/\(∀ d∈es,RowD d)/\UpR ltK es/\TD H 6 row (.ref rb)/\RowD row/\keyD row=k/\UpTo es k at'/\xs.length<=800 /\
 ∀ r H' ys es',Same H H'->H r=none->H' r=some (.lst ys)->Paired (fun d v=>TD H' 6 d v) es' ys->PutR ltK k row es es'->ys.length<=xs.length+1->Q (.ref r) H'
seal PE PT PW PA PS PSs PI PG PIfs PGs PO in
theorem ok_rows_with{CT:Addr}{cs:Nat->Addr}{ob:Nat->Addr}{f:Addr}{fd:FuncData}(Z:Zs mg)(T:Tx K mg CT cs ob)(F:Fun K "rows_with" "rows_with" s_rows_with f fd):FnOk P w K mg base CX0 1 f fd ["rows","at","row"] (sp_rows_with K):=by
 refine F.ok sc_rows_with (fun vs H Q E h=>?_) (fun cdv A outer s H vs Q E hr h=>?_)
 ·obtain⟨l,xs,es,at',rb,row,k,rfl,_⟩:=h;rfl
 obtain⟨l,xs,es,at',rb,row,k,rfl,hl,re,hrow,up,tr,hr0,ek,hu,lx,q⟩:=h
 refine⟨_,(@pss_cons _ _ _ _ _ (ps_if (PW.pt (pw_and (pt_cmpR op_ge (pv 1) pe_int (nomark _)) (pw_and1 (pt_cmpR op_eq (pe_ix ix_tup (pe_ix ix_list (pv 0) (pv 1) (fun _ _=>rfl)) pe_int (fun _ _=>rfl)) (pe_ix ix_tup (pv 2) pe_int (fun _ _=>rfl)) (nomark _))))) (pss_one (ps_ret (pe_op op_cat (pe_op op_cat (pe_slice sl_list (pv 0) po_none (po_some (pv 1))) (pe_lst (pa_c (pv 2) pa_nil))) (pe_slice sl_list (pv 0) (po_some (pe_op op_add (pv 1) pe_int)) po_none)))) pss_nil)
  (pss_one (ps_ret (pe_op op_cat (pe_op op_cat (pe_slice sl_list (pv 0) po_none (po_some (pe_op op_add (pv 1) pe_int))) (pe_lst (pa_c (pv 2) pa_nil))) (pe_slice sl_list (pv 0) (po_some (pe_op op_add (pv 1) pe_int)) po_none))))),?_⟩
 refine rd_start (σ:=[some (.ref l),some (.int at'),some (.ref rb)]) rfl ?_
 walk_at "rd"
 have le:=Paired.length re
 obtain⟨u1,u2⟩:=upTo_put (row:=row) up hu
 obtain⟨kr,cr,erow,hkr⟩:=hr0
 obtain⟨rb',v1,v2,e1,hrb,w1,w2⟩:=TD.pair_of (erow ▸ tr)
 cases e1
 obtain⟨_,ev1⟩:=w1.flat
 have ek1:v1=k:=by rw[ev1,<- ek,erow];rfl
 have skip:(∀ (i:Nat) d,at'=(i:Int)->es[i]?=some d->keyD d≠k)->∀ r H',Same H H'->H r=none->H' r=some (.lst (cutV xs none (some (at'+1))++[.ref rb]++cutV xs (some (at'+1)) none))->Q (.ref r) H':=fun hn r H' s hr g=>by
  obtain⟨j,ej,lj,pj⟩:=u2 hn
  rw[ej,cutA,cutB,List.append_assoc]at g
  refine q r H' _ _ s hr g (paired_append (paired_take j (TDs.sameT re s.t)) (.cons (tr.same s) (paired_drop j (TDs.sameT re s.t)))) pj (by simp;omega)
 refine ite2 (fun h0=>?_) fun h0=>?_
 ·obtain⟨i,ei⟩:∃ i:Nat,at'=(i:Int):=⟨at'.toNat,by omega⟩
  have hi:i < xs.length:=by
   obtain⟨a,b,e,ea,_⟩:=hu
   have:es.length=a.length+b.length:=by rw[e,List.length_append]
   omega
  obtain⟨d,bb,r',hd,ex,hb,hkd,_⟩:=ent_at re (fun d hd=>(hrow d hd).ent) (List.getElem?_eq_getElem hi)
  refine⟨xs,SqL.of hl,.ref bb,by rw[ei,<- ex];exact atI_nat (List.getElem?_eq_getElem hi),bb,rfl,_,SqT.of hb,_,at0 _ _,_,SqT.of hrb,_,at0 _ _,key_sc hkd (by rw[ev1];exact hkr),ite2 (fun e=>?_) fun e=>?_⟩
  ·refine rd_mid1 (fun r H'=>Q (.ref r) H') hl (by omega) fun r H' s hr g=>?_
   rw[ei,show(i:Int)+1=((i+1:Nat):Int) by omega,cutA,cutB,List.append_assoc]at g
   exact q r H' _ _ s hr g (paired_append (paired_take i (TDs.sameT re s.t)) (.cons (tr.same s) (paired_drop (i+1) (TDs.sameT re s.t)))) (u1 i d ei hd (by rw[e,ek1])) (by simp;omega)
  ·exact rd_mid1 (fun r H'=>Q (.ref r) H') hl (by omega) (skip fun i' d' ei' hd' z=>e (by
    obtain rfl:i'=i:=by omega
    rw[hd]at hd';cases hd'
    rw[ek1];exact z))
 ·exact rd_mid1 (fun r H'=>Q (.ref r) H') hl (by omega) (skip fun i' d' ei' hd' z=>h0 (by omega))
def sp_heads_with(P:Program)(w:World)(_cs ob:Nat->Addr):Nat->Sp
 | 0=>fun _ _ _ _=>False
 | n+1=>fun vs H Q _=>∃ p d1 d2 st c,∃ m:Int,∃ l:Nat,∃ part M rb row k,vs=[.ref p,.int m,.ref rb]/\StAt P w ob H p d1 d2 st c/\(m,tdOf (l:Int) part)∈tblOf st/\Tow levV (tblOf st) l M part/\M≠[]/\(∀ d∈M,RowD d)/\UpR ltK M/\M.length<=800/\l<=n/\TD H 6 row (.ref rb)/\RowD row/\keyD row=k/\st.length+(l+1) * (M.length+1)<=1000000 /\
  ∀ r H' st' c' M' hs ys,HdsAt P w ob H H' p d1 d2 st st' c' r l M' hs ys->PutR ltK k row M M'->st'.length<=st.length+(l+1) * (M.length+1)->Q (.ref r) H'
seal PE PT PW PA PS PSs PI PG PIfs PGs PO in
theorem ok_heads_with{CT:Addr}{cs:Nat->Addr}{ob:Nat->Addr}{f:Addr}{fd:FuncData}(Z:Zs mg)(T:Tx K mg CT cs ob)(G_last_up_to:Cal P w K mg base 4 "last_up_to" ["entries","key"] (sp_last_up_to K))(G_heads_of:Cal P w K mg base 5 "heads_of" ["pages","level","entries"] (sp_heads_of P w ob))(G_rows_with:Cal P w K mg base 1 "rows_with" ["rows","at","row"] (sp_rows_with K))(M_Pages_page:MeV P w K mg base 5 (ob 3) "page" (sp_Pages_page P w cs ob)){n:Nat}(IH:Cal P w K mg base (6+n) "heads_with" ["pages","number","row"] (sp_heads_with P w cs ob n))(F:Fun K "heads_with" "heads_with" s_heads_with f fd):FnOk P w K mg base CX0 (6+n+1) f fd ["pages","number","row"] (sp_heads_with P w cs ob (n+1)):=by
 refine F.ok sc_heads_with (fun vs H Q E h=>?_) (fun cdv A outer s H vs Q E hr h=>?_)
 ·obtain⟨p,d1,d2,st,c,m,l,part,M,rb,row,k,rfl,_⟩:=h;rfl
 obtain⟨p,d1,d2,st,c,m,l,part,M,rb,row,k,rfl,hS,hm,tw,hM,hrow,up,lM,hl,trow,hr0,ek,few,q⟩:=h
 refine⟨_,(@pss_cons _ _ _ _ _ (ps_set (i:=3) sc_heads_with.nd rfl (Or.inl rfl) (PE1.pe (pe1_methV (k:=(6+n)) (pv 0) hr rfl (pa_c (pv 1) pa_nil)) throwsN))
  (@pss_cons _ _ _ _ _ (ps_set (i:=4) sc_heads_with.nd rfl (Or.inl rfl) (pe_cal G_last_up_to (k:=(6+n)) hr (by omega) rfl (pa_c (pe_fld (pv 3) rfl) (pa_c (pe_ix ix_tup (pv 2) pe_int (fun _ _=>rfl)) pa_nil))))
  (@pss_cons _ _ _ _ _ (ps_if (pt_cmpR op_eq (pe_fld (pv 3) rfl) pe_int (nomark _)) (pss_one (ps_ret (pe_cal G_heads_of (k:=(6+n)) hr (by omega) rfl (pa_c (pv 0) (pa_c pe_int (pa_c (pe_cal G_rows_with (k:=(6+n)) hr (by omega) rfl (pa_c (pe_callTy call_list_of rfl (Z.list) bo_list (pa_c (pe_fld (pv 3) rfl) pa_nil)) (pa_c (pv 4) (pa_c (pv 2) pa_nil)))) pa_nil)))))) pss_nil)
  (@pss_cons _ _ _ _ _ (ps_set (i:=5) sc_heads_with.nd rfl (Or.inl rfl) (pe_callB (call_max2 rfl) rfl (Z.max) bo_max (pa_c (pv 4) (pa_c pe_int pa_nil))))
  (@pss_cons _ _ _ _ _ (ps_set (i:=6) sc_heads_with.nd rfl (Or.inl rfl) (pe_callTy call_list_of rfl (Z.list) bo_list (pa_c (pe_fld (pv 3) rfl) pa_nil)))
  (@pss_cons _ _ _ _ _ (ps_set (i:=7) sc_heads_with.nd rfl (Or.inl rfl) (pe_cal IH (k:=(6+n)) hr (by omega) rfl (pa_c (pv 0) (pa_c (pe_ix ix_tup (pe_ix ix_list (pv 6) (pv 5) (fun _ _=>rfl)) pe_int (fun _ _=>rfl)) (pa_c (pv 2) pa_nil)))))
  (pss_one (ps_ret (pe_cal G_heads_of (k:=(6+n)) hr (by omega) rfl (pa_c (pv 0) (pa_c (pe_fld (pv 3) rfl) (pa_c (pe_op op_cat (pe_op op_cat (pe_slice sl_list (pv 6) po_none (po_some (pv 5))) (pv 7)) (pe_slice sl_list (pv 6) (po_some (pe_op op_add (pv 5) pe_int)) po_none)) pa_nil)))))))))))),?_⟩
 refine rd_start (σ:=[some (.ref p),some (.int m),some (.ref rb),none,none,none,none,none]) rfl ?_
 walk_at "rd"
 obtain⟨kr,cr,erow,hkr⟩:=id hr0
 obtain⟨rb',v1,v2,e1,hrb,w1,w2⟩:=TD.pair_of (erow ▸ trow)
 cases e1
 obtain⟨_,ev1⟩:=w1.flat
 have ek1:v1=k:=by rw[ev1,<- ek,erow];rfl
 have hk:keyV k:=by rw[<- ek1,ev1];exact hkr
 rw[ek1]at hrb
 obtain⟨hent,up',lp,hhd⟩:=tow_keys tw hrow up
 refine rd_page T M_Pages_page (by omega) rfl rfl hS hm fun pg H1 s1 hpg pgd=>?_
 obtain⟨twg,dxp,t,etw,hpa,ht⟩:=id pgd
 obtain⟨mm,t',xs,em,e,ht',rt⟩:=ht.tup
 cases e
 obtain rfl:mm=6:=by omega
 have lxs:=Paired.length rt
 refine rd_entries T rfl hpa ⟨_,SqT.of (s1 _ _ hrb),k,at0 _ _,t,xs,part,k,rfl,ht',rt,hent,up',hk,by omega,fun H2 at' s2 hu=>?_⟩
 have hpa2:=s2 _ _ hpa
 have s12:=s1.trans s2
 have rt2:=TDs.sameT rt s2.t
 have hS2:=hS.same s12
 refine rd_level T rfl hpa2 ⟨rfl,ite2 (fun h0=>?_) fun h0=>?_⟩
 ·injection h0 with h0
  obtain rfl:l=0:=by omega
  obtain rfl:twg=false:=by rw[etw];rfl
  have ep:part=M:=tw
  subst ep
  refine rd_fld (T.ob_ 1 (by decide)) (by decide) rfl hpa2 rfl ⟨t,rfl,xs,.inr (SqT.of (s2 _ _ ht')),fun l1 hl1=>?_⟩
  have s3:=same_upd hl1 (.lst xs)
  have g3:upd H2 l1 (.lst xs) l1=some (.lst xs):=upd_same
  generalize upd H2 l1 (.lst xs)=H3 at s3 g3 ⊢
  have s13:=s12.trans s3
  refine⟨l1,xs,part,at',rb,row,k,rfl,g3,TDs.sameT rt2 s3.t,hrow,up,trow.same s13,hr0,ek,hu,by omega,fun r H4 ys es' s4 hr4 g4 re4 hput lys=>?_⟩
  have s14:=s13.trans s4
  refine heads_mk (l:=0) (b:=false) (hS.same s14) g4 re4 (fun d hd=>?_) (by omega) (by omega) (show Tow levV (tblOf st) 0 es' es' from rfl) (s14.x _) (fun x h=>h) (fun r5 H5 st5 c5 hs5 ys5 h5 l5=>q r5 H5 st5 c5 es' hs5 ys5 h5 hput (by simp;omega)) fun r hr=>none_of s14 hr
  rcases(hput.mem ltK.irr d).mp hd with z | z
  ·rw[z];exact hr0.ent
  ·exact hent d z.1
 ·have hl0:l≠0:=fun z=>h0 (by rw[z];rfl)
  obtain⟨l',rfl⟩:∃ l',l=l'+1:=⟨l - 1,by omega⟩
  obtain rfl:twg=true:=by rw[etw];exact decide_eq_true (by omega)
  obtain⟨ini,h,bs,A,N,B,n',part',ep,ew,eM,tA,tB,eh,hm',tp',hN,cB,hA,hB,cA⟩:=way_step tw hM up hu
  subst eh
  have hx:part[ini.length]?=some (hdOf (fstK N) n'):=by rw[ep];simp
  have li:ini.length < xs.length:=by have:=(List.getElem?_eq_some_iff.mp hx).1;omega
  have lM:M.length=A.length+(N.length+B.length):=by rw[eM];simp
  have lpt:part.length=ini.length+(bs.length+1):=by rw[ep];simp
  have lA:=tA.len0
  have lB:=tB.len0
  refine⟨at',0,⟨rfl,rfl⟩,?_⟩
  rw[ew]
  refine rd_fld (T.ob_ 2 (by decide)) (by decide) rfl hpa2 rfl ⟨t,rfl,xs,.inr (SqT.of (s2 _ _ ht')),fun l1 hl1=>?_⟩
  have s3:=same_upd hl1 (.lst xs)
  have g3:upd H2 l1 (.lst xs) l1=some (.lst xs):=upd_same
  generalize upd H2 l1 (.lst xs)=H3 at s3 g3 ⊢
  have s13:=s12.trans s3
  have rt3:=TDs.sameT rt2 s3.t
  have tx:=paired_get rt3 hx (List.getElem?_eq_getElem li)
  obtain⟨bb,u1,u2,eb,hb,x1,x2⟩:=TD.pair_of tx
  obtain⟨_,rfl⟩:=x2.flat
  have bnd:(l'+1) * (N.length+1)<=(l'+1) * (M.length+1):=Nat.mul_le_mul_left _ (by omega)
  have bnd2:(l'+1+1) * (M.length+1)=(l'+1) * (M.length+1)+(M.length+1):=Nat.succ_mul _ _
  obtain⟨n0,rfl⟩:∃ n0,n=n0+1:=⟨n - 1,by omega⟩
  have rowN:∀ d∈N,RowD d:=fun d hd=>hrow d (by rw[eM];simp[hd])
  have upN:UpR ltK N:=by rw[eM]at up;exact up.right.left
  refine⟨xs,SqL.of g3,.ref bb,by rw[<- eb];exact atI_nat (List.getElem?_eq_getElem li),bb,rfl,_,SqT.of hb,_,at1 _ _ _,p,d1,d2,st,c,n',l',part',N,rb,row,k,rfl,hS.same s13,hm',tp',hN,rowN,upN,by omega,by omega,trow.same s13,hr0,ek,by omega,fun r7 H7 st7 c7 N' hs7 ys7 h7 hput l7=>?_⟩
  have sx7:SameX [p,d1,d2] H H7:=(s13.x _).trans h7.sx
  have hS3:=hS.same s13
  have t37:=sameT_st hS3 h7.sx
  have hpa7:=h7.sx _ _ (hS3.off_pg (s3 _ _ hpa2)) (s3 _ _ hpa2)
  have g7:=hS3.lst h7.sx g3
  have rt7:=TDs.sameT rt3 t37
  refine rd_fld (T.ob_ 2 (by decide)) (by decide) rfl hpa7 rfl ?_
  walk_at "rd"
  have ly7:ys7.length<=N.length+1:=by
   have h1:=Paired.length h7.ty
   have h2:=h7.tow.len0
   have h3:=PutR.len hput
   omega
  refine rd_mid (fun r H'=>sp_heads_of P w ob [V.ref p,V.int ((l'+1:Nat):Int),V.ref r] H' Q E0) g7 h7.at_ g7 (by omega) (by omega) (by omega) fun r8 H8 s8 hr8 g8=>?_
  rw[show(ini.length:Int)+1=((ini.length+1:Nat):Int) by omega,cutA,cutB]at g8
  have rt8:=TDs.sameT rt7 s8.t
  have ei:part.take ini.length=ini:=by rw[ep];simp
  have eb8:part.drop (ini.length+1)=bs:=by rw[ep];simp
  have ri:=paired_take ini.length rt8
  have rb8:=paired_drop (ini.length+1) rt8
  rw[ei]at ri
  rw[eb8]at rb8
  have re8:=paired_append (paired_append ri (TDs.sameT h7.ty s8.t)) rb8
  have lr:=Paired.length re8
  simp only[List.length_append]at lr
  have tow8:Tow levV (tblOf st7) (l'+1) (A++(N'++B)) (ini++hs7++bs):=by
   rw[List.append_assoc]
   refine(tA.mono h7.sub).mid h7.tow (tB.mono h7.sub) ?_ cB
   rcases cA with z | ⟨z1,z2⟩
   ·exact .inl z
   ·refine .inr (.inr ?_)
    rw[hput.fst ltK.irr ltK.tr ek hN z2]
    exact z1
  refine heads_mk (b:=false) (h7.sA.same s8) g8 re8 (fun d hd=>?_) (by rw[<- Paired.length re8];simp only[List.length_append];have:=Paired.length h7.ty;omega) (by rw[<- Paired.length re8];simp only[List.length_append];have:=Paired.length h7.ty;omega) tow8 (sx7.trans (s8.x _)) h7.sub (fun r9 H9 st9 c9 hs9 ys9 h9 l9=>?_) fun r hr=>?_
  ·rcases List.mem_append.mp hd with z | z
   ·rcases List.mem_append.mp z with z | z
    ·exact hent d (by rw[ep];simp[z])
    ·exact(h7.hd d z).ent
   ·exact hent d (by rw[ep];simp[z])
  ·refine q r9 H9 st9 c9 (A++(N'++B)) hs9 ys9 h9 (by rw[eM];exact hput.mid hA hB) ?_
   rw[<- Paired.length re8]at l9
   simp only[List.length_append]at l9
   have:=Paired.length h7.ty
   omega
  ·exact hS.none_x sx7 h7.sA (none_of s8 hr)
theorem root_top{tbl:List (Int×Dt)}{R:List Dt}{top:Nat}{n:Int}(r:Root levV tbl R top n):top<=6:=by
 rcases Nat.lt_or_ge 6 top with h | h
 ·exfalso
  obtain⟨k,t⟩:=r.one
  obtain⟨L,h0,h1,h2⟩:=t.levels
  have t7:=levels_tow h0 h2 7 (by omega)
  have l7:=r.two 7 _ (by omega) (by omega) t7
  rw[t7.many (t.ne' (by simp))]at l7
  have:((R.map keyD).tail.filter fun k=>decide (6 < levV k))=[]:=List.filter_eq_nil_iff.mpr fun k _ z=>by
   have:=lev6 k
   have:=of_decide_eq_true z
   omega
  rw[this]at l7
  simp at l7
 ·omega
theorem TreeOf.root{P:Program}{w:World}{ob:Nat->Addr}{H:Hp}{p d1 d2:Addr}{st:StL}{c n:Int}{es:List Dt}(hS:StAt P w ob H p d1 d2 st c)(h:TreeOf st es (.int n)):∃ top,top<=6/\Root levV (tblOf st) es top n:=by
 rcases h with ⟨_,e⟩ | ⟨hne,top,L,k,n',h6,ch,eL,e⟩
 ·cases e
 ·cases e;exact⟨top,h6,ch.toRoot hS.fn eL⟩
theorem root_tree{st:StL}{es:List Dt}{top:Nat}{n:Int}(r:Root levV (tblOf st) es top n):TreeOf st es (.int n):=by
 obtain⟨L,k,ch,e⟩:=r.chain
 obtain⟨part,_,_,_,hne⟩:=r.page
 exact .inr ⟨hne,top,L,k,n,root_top r,ch,e,rfl⟩
theorem Ups.root{tbl:List (Int×Dt)}{R hs:List Dt}{j m:Nat}{k:V}{n:Int}(f:Fn tbl)(t:Tow levV tbl (j+1) R hs)(two:∀ i gs,1<=i->i<=j->Tow levV tbl i R gs->1 < gs.length)(u:Ups levV tbl j hs m [hdOf k n]):Root levV tbl R m n:=by
 have key:∀ {m above},Ups levV tbl j hs m above->Tow levV tbl (m+1) R above/\∀ i gs,1<=i->i<=m->Tow levV tbl i R gs->1 < gs.length:=by
  intro m above u
  induction u with
  | refl=>exact⟨t,two⟩
  | @snoc m' hs1 hs2 u h1 h2 ih =>
   refine⟨⟨hs1,ih.1,h2⟩,fun i gs i1 i2 ti=>?_⟩
   by_cases e:i=m'+1
   ·subst e;rw[ti.det f ih.1];exact h1
   ·exact ih.2 i gs i1 (by omega) ti
 exact⟨⟨k,(key u).1⟩,(key u).2⟩
def sp_put(P:Program)(w:World)(_cs ob:Nat->Addr):Sp:=fun vs H Q _=>∃ p d1 d2 st c v k cv cd es,vs=[.ref p,v,k,cv]/\StAt P w ob H p d1 d2 st c/\TreeOf st es v/\Rows es/\es.length<=700/\keyV k/\TD H 5 (.t cd) cv/\st.length+16 * (es.length+2)<=1000000 /\
 ∀ H' st' c' v' es',SameX [p,d1,d2] H H'->StAt P w ob H' p d1 d2 st' c'->(∀ x∈tblOf st,x∈tblOf st')->st'.length<=st.length+16 * (es.length+2)->PutR ltK k (.t [.v k,.t cd]) es es'->TreeOf st' es' v'->Q v' H'
seal PE PT PW PA PS PSs PI PG PIfs PGs PO in
theorem ok_put{CT:Addr}{cs:Nat->Addr}{ob:Nat->Addr}{f:Addr}{fd:FuncData}(Z:Zs mg)(T:Tx K mg CT cs ob)(G_crowned:Cal P w K mg base 6 "crowned" ["pages","level","heads"] (sp_crowned P w ob))(G_built:Cal1 P w K mg base 7 "built" ["pages","rows"] (sp_built P w cs ob))(G_heads_with:∀ n,Cal P w K mg base (6+n) "heads_with" ["pages","number","row"] (sp_heads_with P w cs ob n))(M_Pages_card:MeV P w K mg base 4 (ob 3) "card" (sp_Pages_card P w cs ob))(F:Fun K "put" "put" s_put f fd):FnOk P w K mg base (CX1 P w) 15 f fd ["pages","root","key","cells"] (sp_put P w cs ob):=by
 refine F.ok1 sc_put (fun vs H Q E h=>?_) (fun cdv A outer s H vs Q E hr h=>?_)
 ·obtain⟨p,d1,d2,st,c,v,k,cv,cd,es,rfl,_⟩:=h;rfl
 obtain⟨p,d1,d2,st,c,v,k,cv,cd,es,rfl,hS,hT,hR,l7,hk,tc,few,q⟩:=h
 refine⟨_,(@pss_cons _ _ _ _ _ (ps_set (i:=4) sc_put.nd rfl (Or.inl rfl) (pe_tup (pa_c (pv 2) (pa_c (pv 3) pa_nil))))
  (@pss_cons _ _ _ _ _ (ps_if (pt_cmpR op_isN (pv 1) pe_non (nomark _)) (pss_one (ps_ret (PE1.pe (pe1_cal G_built (k:=14) hr (by decide) rfl rfl (pa_c (pv 0) (pa_c (pe_lst (pa_c (pv 4) pa_nil)) pa_nil))) throws0))) pss_nil)
  (@pss_cons _ _ _ _ _ (ps_set (i:=5) sc_put.nd rfl (Or.inl rfl) (pe_ix ix_tup (PE1.pe (pe1_methV (k:=14) (pv 0) hr rfl (pa_c (pv 1) pa_nil)) throws0) pe_int (fun _ _=>rfl)))
  (pss_one (ps_ret (pe_cal G_crowned (k:=14) hr (by decide) rfl (pa_c (pv 0) (pa_c (pv 5) (pa_c (pe_cal (G_heads_with 8) (k:=14) hr (by decide) rfl (pa_c (pv 0) (pa_c (pv 1) (pa_c (pv 4) pa_nil)))) pa_nil))))))))),?_⟩
 refine rd_start (σ:=[some (.ref p),some v,some k,some cv,none,none]) rfl ?_
 walk_at "rd"
 refine⟨two_ok,fun rb hrb=>?_⟩
 have s1:=same_upd hrb (.tup [k,cv])
 have g1:upd H rb (.tup [k,cv]) rb=some (.tup [k,cv]):=upd_same
 generalize upd H rb (.tup [k,cv])=H1 at s1 g1 ⊢
 have trow:TD H1 6 (.t [.v k,.t cd]) (.ref rb):=TD.pair g1 (.ofV (key_h hk)) (tc.same s1)
 have hrow:RowD (.t [.v k,.t cd]):=⟨k,cd,rfl,hk⟩
 have hS1:=hS.same s1
 refine ite2 (fun hv=>?_) fun hv=>?_
 ·subst hv
  obtain rfl:es=[]:=by
   rcases hT with ⟨e,_⟩ | ⟨_,_,_,_,_,_,_,_,e⟩
   ·exact e
   ·cases e
  refine⟨one_sz _,fun l1 hl1=>?_⟩
  have s2:=same_upd hl1 (.lst [.ref rb])
  have g2:upd H1 l1 (.lst [.ref rb]) l1=some (.lst [.ref rb]):=upd_same
  generalize upd H1 l1 (.lst [.ref rb])=H2 at s2 g2 ⊢
  simp only[List.length_nil]at few
  refine⟨p,d1,d2,st,c,l1,_,[.t [.v k,.t cd]],rfl,hS.same (s1.trans s2),g2,.cons (trow.same s2) .nil,(fun d hd=>by rw[List.mem_singleton.mp hd];exact hrow.ent),by simp,by simp;omega,.inl ⟨List.pairwise_singleton _ _,fun H3 st3 c3 v3 sx3 hS3 sub3 l3 ht3=>?_⟩⟩
  exact q H3 st3 c3 v3 [.t [.v k,.t cd]] (((s1.trans s2).x _).trans sx3) hS3 sub3 (by simp at l3 ⊢;omega) ⟨[],[],rfl,.inl rfl,(fun a ha=>nomatch ha),fun a ha=>nomatch ha⟩ ht3
 ·obtain⟨n,rfl⟩:∃ n,v=.int n:=by
   rcases hT with ⟨_,e⟩ | ⟨_,_,_,_,n,_,_,_,e⟩
   ·exact absurd e hv
   ·exact⟨n,e⟩
  obtain⟨top,h6,rt⟩:=hT.root hS
  obtain⟨part,hm,tp,_,hne⟩:=rt.page
  obtain⟨dx,ho⟩:=hS1.obj
  obtain⟨t0,ht0⟩:=hS.find hm
  refine rd_methV rfl ho rfl (T.ob_ 3 (by decide)).cl (M_Pages_card.mono (by decide)) ⟨_,rfl,p,d1,d2,st,c,n,rfl,hS1,fun l2 k2 r2 es2 t2 hm2 a H2 s2 ha td2=>?_,fun z=>(z _ ht0 rfl).elim⟩
  obtain⟨el,_⟩:=tdOf_inj (hS.fun_ ht0 hm2).1
  subst el
  obtain⟨a',u1,u2,ea,hat,x1,x2⟩:=TD.pair_of td2
  cases ea
  obtain⟨_,rfl⟩:=x1.flat
  have s12:=s1.trans s2
  have b1:(top+1) * (es.length+1)<=7 * (es.length+1):=Nat.mul_le_mul_right _ (by omega)
  refine⟨a,rfl,_,SqT.of hat,_,at0 _ _,p,d1,d2,st,c,n,top,part,es,rb,_,k,rfl,hS.same s12,hm,tp,hne,hR.row,hR.up,by omega,(show top<=7 by omega),trow.same s2,hrow,rfl,by omega,fun r3 H3 st3 c3 es' hs3 ys3 h3 hput l3=>?_⟩
  have le':=PutR.len hput
  have l0:=h3.tow.len0
  have ly:=Paired.length h3.ty
  have hne':es'≠[]:=fun z=>by
   have:=(hput.mem ltK.irr (.t [.v k,.t cd])).mpr (.inl rfl)
   rw[z]at this;cases this
  have hsne:=h3.tow.ne hne'
  refine⟨p,d1,d2,st3,c3,r3,hs3,ys3,top,rfl,h6,h3.sA,h3.at_,h3.ty,h3.hd,by omega,by omega,fun H4 st4 c4 m above v4 sx4 hS4 sub4 l4 ups hm7 hv4=>?_⟩
  rcases hv4 with ⟨z,_⟩ | ⟨_,k4,n4,rfl,rfl⟩
  ·exact absurd z hsne
  refine q H4 st4 c4 (.int n4) es' ((s12.x _).trans (h3.sx.trans sx4)) hS4 (fun x hx=>sub4 x (h3.sub x hx)) (by omega) hput (root_tree (Ups.root hS4.fn (h3.tow.mono sub4) (fun i gs i1 i2 ti=>?_) ups))
  obtain⟨k0,t0'⟩:=rt.one
  obtain⟨L,q0,q1,q2⟩:=t0'.levels
  have ti0:=levels_tow q0 q2 i (by omega)
  have two:=rt.two i _ i1 i2 ti0
  obtain⟨i',rfl⟩:∃ i',i=i'+1:=⟨i - 1,by omega⟩
  have:=ti0.more ti hne (hput.sub rfl)
  omega
theorem paired_snocL{α β:Type}{F:α->β->Prop}:∀ {xs:List α} {x:α} {us:List β},Paired F (xs++[x]) us->∃ ys y,us=ys++[y]/\Paired F xs ys/\F x y
 | [],x,_,.cons r .nil=>⟨[],_,rfl,.nil,r⟩
 | z::xs,x,_,.cons r t=>by
  obtain⟨ys,y,e,a,b⟩:=paired_snocL t
  exact⟨_::ys,y,by rw[e];rfl,.cons r a,b⟩
theorem paired_consL{α β:Type}{F:α->β->Prop}{xs:List α}{x:α}{us:List β}(h:Paired F (x::xs) us):∃ y ys,us=y::ys/\F x y/\Paired F xs ys:=by
 cases h with
 | cons r t=>exact⟨_,_,rfl,r,t⟩
theorem cutM(xs:List V)(v:V):cutV (xs++[v]) none (some (-1))=xs:=by
 have e2:HT.sIx (xs++[v]).length 0 none=0:=rfl
 have e1:HT.sIx (xs++[v]).length (xs++[v]).length (some (-1))=xs.length:=by
  show(if (-1:Int) < 0 then ((-1:Int)+((xs++[v]).length:Int)).toNat else min (-1:Int).toNat (xs++[v]).length)=_
  rw[if_pos (by decide),List.length_append,List.length_singleton];omega
 unfold cutV
 rw[e1,e2,List.drop_zero,Nat.sub_zero];simp
def sp_joined(P:Program)(w:World)(_cs ob:Nat->Addr):Nat->Sp
 | 0=>fun _ _ _ _=>False
 | n+1=>fun vs H Q _=>∃ p d1 d2 st c,∃ m1 m2:Int,∃ l:Nat,∃ pa pb M N,vs=[.ref p,.int m1,.int m2]/\StAt P w ob H p d1 d2 st c/\(m1,tdOf (l:Int) pa)∈tblOf st/\(m2,tdOf (l:Int) pb)∈tblOf st/\Tow levV (tblOf st) l M pa/\Tow levV (tblOf st) l N pb/\M≠[]/\N≠[]/\(∀ d∈M,RowD d)/\(∀ d∈N,RowD d)/\UpR ltK M/\UpR ltK N/\M.length+N.length<=800/\l<=n/\st.length+(l+1) * (M.length+N.length)<=1000000 /\
  ∀ r H' st' c' hs ys,HdsAt P w ob H H' p d1 d2 st st' c' r l (M++N.tail) hs ys->st'.length<=st.length+(l+1) * (M.length+N.length)->Q (.ref r) H'
seal PE PT PW PA PS PSs PI PG PIfs PGs PO in
theorem ok_joined{CT:Addr}{cs:Nat->Addr}{ob:Nat->Addr}{f:Addr}{fd:FuncData}(Z:Zs mg)(T:Tx K mg CT cs ob)(G_heads_of:Cal P w K mg base 5 "heads_of" ["pages","level","entries"] (sp_heads_of P w ob))(M_Pages_page:MeV P w K mg base 5 (ob 3) "page" (sp_Pages_page P w cs ob)){n:Nat}(IH:Cal P w K mg base (6+n) "joined" ["pages","left","right"] (sp_joined P w cs ob n))(F:Fun K "joined" "joined" s_joined f fd):FnOk P w K mg base CX0 (6+n+1) f fd ["pages","left","right"] (sp_joined P w cs ob (n+1)):=by
 refine F.ok sc_joined (fun vs H Q E h=>?_) (fun cdv A outer s H vs Q E hr h=>?_)
 ·obtain⟨p,d1,d2,st,c,m1,m2,l,pa,pb,M,N,rfl,_⟩:=h;rfl
 obtain⟨p,d1,d2,st,c,m1,m2,l,pa,pb,M,N,rfl,hS,hm1,hm2,tM,tN,hM,hN,rM,rN,uM,uN,lMN,hl,few,q⟩:=h
 refine⟨_,(@pss_cons _ _ _ _ _ (ps_set (i:=3) sc_joined.nd rfl (Or.inl rfl) (PE1.pe (pe1_methV (k:=(6+n)) (pv 0) hr rfl (pa_c (pv 1) pa_nil)) throwsN))
  (@pss_cons _ _ _ _ _ (ps_set (i:=4) sc_joined.nd rfl (Or.inl rfl) (pe_callTy call_list_of rfl (Z.list) bo_list (pa_c (pe_fld (pv 3) rfl) pa_nil)))
  (@pss_cons _ _ _ _ _ (ps_set (i:=5) sc_joined.nd rfl (Or.inl rfl) (pe_callTy call_list_of rfl (Z.list) bo_list (pa_c (pe_fld (PE1.pe (pe1_methV (k:=(6+n)) (pv 0) hr rfl (pa_c (pv 2) pa_nil)) throwsN) rfl) pa_nil)))
  (@pss_cons _ _ _ _ _ (ps_if (pt_cmpR op_eq (pe_fld (pv 3) rfl) pe_int (nomark _)) (pss_one (ps_ret (pe_cal G_heads_of (k:=(6+n)) hr (by omega) rfl (pa_c (pv 0) (pa_c pe_int (pa_c (pe_op op_cat (pv 4) (pe_slice sl_list (pv 5) (po_some pe_int) po_none)) pa_nil)))))) pss_nil)
  (@pss_cons _ _ _ _ _ (ps_set (i:=6) sc_joined.nd rfl (Or.inl rfl) (pe_cal IH (k:=(6+n)) hr (by omega) rfl (pa_c (pv 0) (pa_c (pe_ix ix_tup (pe_ix ix_list (pv 4) (pe_un un_neg pe_int) (fun _ _=>rfl)) pe_int (fun _ _=>rfl)) (pa_c (pe_ix ix_tup (pe_ix ix_list (pv 5) pe_int (fun _ _=>rfl)) pe_int (fun _ _=>rfl)) pa_nil)))))
  (pss_one (ps_ret (pe_cal G_heads_of (k:=(6+n)) hr (by omega) rfl (pa_c (pv 0) (pa_c (pe_fld (pv 3) rfl) (pa_c (pe_op op_cat (pe_op op_cat (pe_slice sl_list (pv 4) po_none (po_some (pe_un un_neg pe_int))) (pv 6)) (pe_slice sl_list (pv 5) (po_some pe_int) po_none)) pa_nil))))))))))),?_⟩
 refine rd_start (σ:=[some (.ref p),some (.int m1),some (.int m2),none,none,none,none]) rfl ?_
 walk_at "rd"
 obtain⟨entA,upA,lpA,hdA⟩:=tow_keys tM rM uM
 obtain⟨entB,upB,lpB,hdB⟩:=tow_keys tN rN uN
 refine rd_page T M_Pages_page (by omega) rfl rfl hS hm1 fun pg H1 s1 hpg pgd=>?_
 obtain⟨twg,dxp,t,etw,hpa,ht⟩:=id pgd
 obtain⟨mm,t',xs,em,e,ht',rt⟩:=ht.tup
 cases e
 obtain rfl:mm=6:=by omega
 have lxs:=Paired.length rt
 refine rd_entries T rfl hpa ⟨t,rfl,xs,.inr (SqT.of ht'),fun la hla=>?_⟩
 have s2:=same_upd hla (.lst xs)
 have g2:upd H1 la (.lst xs) la=some (.lst xs):=upd_same
 generalize upd H1 la (.lst xs)=H2 at s2 g2 ⊢
 have s12:=s1.trans s2
 have hS2:=hS.same s12
 refine rd_page T M_Pages_page (by omega) rfl rfl hS2 hm2 fun pg2 H3 s3 hpg2 pgd2=>?_
 obtain⟨twg2,dx2,t2,etw2,hpa2,ht2⟩:=id pgd2
 obtain⟨mm,t2',zs,em,e,ht2',rz⟩:=ht2.tup
 cases e
 obtain rfl:mm=6:=by omega
 have lzs:=Paired.length rz
 refine⟨pg2,_,dx2,_,.ref t2,rfl,hpa2,(T.ob_ _ ob12).cl,(T.ob_ _ ob12).no _ (by decide),by cases twg2 <;> rfl,t2,rfl,zs,.inr (SqT.of ht2'),fun lb hlb=>?_⟩
 have s4:=same_upd hlb (.lst zs)
 have g4:upd H3 lb (.lst zs) lb=some (.lst zs):=upd_same
 generalize upd H3 lb (.lst zs)=H4 at s4 g4 ⊢
 have s34:=s3.trans s4
 have s14:=s12.trans s34
 have ga4:=s34 _ _ g2
 have rt4:=TDs.sameT rt (s2.trans s34).t
 have rz4:=TDs.sameT rz s4.t
 have hS4:=hS.same s14
 have hpa4:=(s2.trans s34) _ _ hpa
 refine rd_level T rfl hpa4 ⟨rfl,ite2 (fun h0=>?_) fun h0=>?_⟩
 ·injection h0 with h0
  obtain rfl:l=0:=by omega
  have ep:pa=M:=tM
  have ep2:pb=N:=tN
  subst ep ep2
  refine⟨zs,SqL.of g4,fun p3 hp3=>⟨xs,same_upd hp3 _ _ _ ga4,_,upd_same,big_le (by have:=cutV_length zs (some 1) none;omega),fun p4 hp4=>?_⟩⟩
  have ec:cutV zs (some 1) none=zs.drop 1:=cutB zs 1
  rw[ec]at hp4 ⊢
  have s6:=s14.trans ((same_upd hp3 (.lst (zs.drop 1))).trans (same_upd hp4 (.lst (xs++zs.drop 1))))
  have s46:=(same_upd hp3 (.lst (zs.drop 1))).trans (same_upd hp4 (.lst (xs++zs.drop 1)))
  have g6:upd (upd H4 p3 (.lst (zs.drop 1))) p4 (.lst (xs++zs.drop 1)) p4=some (.lst (xs++zs.drop 1)):=upd_same
  generalize upd (upd H4 p3 (.lst (zs.drop 1))) p4 (.lst (xs++zs.drop 1))=H6 at s6 s46 g6 ⊢
  have re6:=paired_append (TDs.sameT rt4 s46.t) (paired_drop 1 (TDs.sameT rz4 s46.t))
  rw[List.drop_one]at re6
  have le6:=Paired.length re6
  rw[List.drop_one]at le6
  simp only[List.length_append,List.length_tail]at le6
  refine heads_mk (l:=0) (b:=false) (hS.same s6) g6 (by rw[List.drop_one];rw[List.drop_one]at re6;exact re6) (fun d hd=>?_) (by simp;omega) (by simp;omega) (show Tow levV (tblOf st) 0 (pa++pb.tail) (pa++pb.tail) from rfl) (s6.x _) (fun x h=>h) (fun r5 H5 st5 c5 hs5 ys5 h5 l5=>q r5 H5 st5 c5 hs5 ys5 h5 (by simp at l5;omega)) fun r hr=>none_of s6 hr
  rcases List.mem_append.mp hd with z | z
  ·exact entA d z
  ·exact entB d (List.mem_of_mem_tail z)
 ·have hl0:l≠0:=fun z=>h0 (by rw[z];rfl)
  obtain⟨l',rfl⟩:∃ l',l=l'+1:=⟨l - 1,by omega⟩
  obtain rfl:twg=true:=by rw[etw];exact decide_eq_true (by omega)
  obtain⟨ini,h,rfl⟩:=snoc_of (tM.ne hM)
  obtain⟨h',bs,rfl⟩:∃ h' bs,pb=h'::bs:=by
   cases pb with
   | nil=>exact absurd rfl (tN.ne hN)
   | cons x r=>exact⟨x,r,rfl⟩
  obtain⟨A,M1,B0,n1,part1,eM,tA,_,tB0,eh,hm1',tp1,hM1,cA,_⟩:=tM.at_
  obtain rfl:B0=[]:=tB0.fst.1.mpr rfl
  rw[List.append_nil]at eM
  obtain⟨A0,N1,B,n2,part2,eN,tA0,_,tB,eh',hm2',tp2,hN1,_,cB⟩:=(show Tow levV (tblOf st) (l'+1) N ([]++h'::bs) from tN).at_
  obtain rfl:A0=[]:=tA0.fst.1.mpr rfl
  rw[List.nil_append]at eN
  subst eh eh'
  obtain⟨xi,xl,rfl,ri,rl⟩:=paired_snocL rt4
  obtain⟨zl,zr,rfl,rzl,rzr⟩:=paired_consL rz4
  obtain⟨b1,u1,u2,eb1,hb1,x1,x2⟩:=TD.pair_of rl
  obtain⟨_,rfl⟩:=x2.flat
  obtain⟨b2,v1,v2,eb2,hb2,y1,y2⟩:=TD.pair_of rzl
  obtain⟨_,rfl⟩:=y2.flat
  subst eb1 eb2
  have lM:M.length=A.length+M1.length:=by rw[eM,List.length_append]
  have lN:N.length=N1.length+B.length:=by rw[eN,List.length_append]
  have bnd:(l'+1) * (M1.length+N1.length)<=(l'+1) * (M.length+N.length):=Nat.mul_le_mul_left _ (by omega)
  have bnd2:(l'+1+1) * (M.length+N.length)=(l'+1) * (M.length+N.length)+(M.length+N.length):=Nat.succ_mul _ _
  obtain⟨n0,rfl⟩:∃ n0,n=n0+1:=⟨n - 1,by omega⟩
  refine⟨_,SqL.of ga4,.ref b1,atI_last _ _,b1,rfl,_,SqT.of hb1,_,at1 _ _ _,_,SqL.of g4,.ref b2,at0 _ _,b2,rfl,_,SqT.of hb2,_,at1 _ _ _,p,d1,d2,st,c,n1,n2,l',part1,part2,M1,N1,rfl,hS4,hm1',hm2',tp1,tp2,hM1,hN1,(fun d hd=>rM d (by rw[eM];simp[hd])),(fun d hd=>rN d (by rw[eN];simp[hd])),by rw[eM]at uM;exact uM.right,by rw[eN]at uN;exact uN.left,by omega,by omega,by omega,fun r7 H7 st7 c7 hs7 ys7 h7 l7=>?_⟩
  have sx7:SameX [p,d1,d2] H H7:=(s14.x _).trans h7.sx
  have t47:=sameT_st hS4 h7.sx
  have hpa7:=h7.sx _ _ (hS4.off_pg hpa4) hpa4
  have ga7:=hS4.lst h7.sx ga4
  have gb7:=hS4.lst h7.sx g4
  have hne1:M1++N1.tail≠[]:=fun z=>hM1 (List.append_eq_nil_iff.mp z).1
  have lt7:=h7.tow.len0
  have ly7:=Paired.length h7.ty
  have lri:=Paired.length ri
  have lrz:=Paired.length rzr
  have lA:=tA.len0
  have lB:=tB.len0
  have hN1p:0 < N1.length:=List.length_pos_iff.mpr hN1
  simp only[List.length_append,List.length_tail]at lt7
  refine rd_fld (T.ob_ 2 (by decide)) (by decide) rfl hpa7 rfl ?_
  walk_at "rd"
  refine rd_mid (fun r H'=>sp_heads_of P w ob [V.ref p,V.int ((l'+1:Nat):Int),V.ref r] H' Q E0) ga7 h7.at_ gb7 (by rw[List.length_append,List.length_singleton];omega) (by rw[List.length_cons];omega) (by omega) fun r8 H8 s8 hr8 g8=>?_
  have ec:cutV (V.ref b2::zr) (some 1) none=zr:=cutB (V.ref b2::zr) 1
  rw[cutM,ec]at g8
  have re8:=paired_append (paired_append (TDs.sameT ri (t47.trans s8.t)) (TDs.sameT h7.ty s8.t)) (TDs.sameT rzr (t47.trans s8.t))
  have eT:M++N.tail=A++((M1++N1.tail)++B):=by
   rw[eM,eN]
   cases N1 with
   | nil=>exact absurd rfl hN1
   | cons x r=>simp
  have tow8:Tow levV (tblOf st7) (l'+1) (M++N.tail) (ini++hs7++bs):=by
   rw[eT,List.append_assoc ini]
   refine(tA.mono h7.sub).mid h7.tow (tB.mono h7.sub) ?_ cB
   rcases cA with z | z
   ·exact .inl z
   ·refine .inr (.inr ?_)
    cases M1 with
    | nil=>exact absurd rfl hM1
    | cons x r=>exact z
  refine heads_mk (b:=false) (h7.sA.same s8) g8 re8 (fun d hd=>?_) (by simp only[List.length_append];omega) (by simp only[List.length_append];omega) tow8 (sx7.trans (s8.x _)) h7.sub (fun r9 H9 st9 c9 hs9 ys9 h9 l9=>?_) fun r hr=>?_
  ·rcases List.mem_append.mp hd with z | z
   ·rcases List.mem_append.mp z with z | z
    ·exact entA d (by simp[z])
    ·exact(h7.hd d z).ent
   ·exact entB d (by simp[z])
  ·refine q r9 H9 st9 c9 hs9 ys9 h9 ?_
   simp only[List.length_append]at l9
   omega
  ·exact hS.none_x sx7 h7.sA (none_of s8 hr)
def sp_heads_without(P:Program)(w:World)(_cs ob:Nat->Addr):Nat->Sp
 | 0=>fun _ _ _ _=>False
 | n+1=>fun vs H Q _=>∃ p d1 d2 st c,∃ m:Int,∃ l:Nat,∃ part M k,vs=[.ref p,.int m,k]/\StAt P w ob H p d1 d2 st c/\(m,tdOf (l:Int) part)∈tblOf st/\Tow levV (tblOf st) l M part/\(∃ o∈M,keyD o=k)/\(∀ d∈M,RowD d)/\UpR ltK M/\M.length<=700/\l<=n/\l<=7/\keyV k/\st.length+(l+1) * M.length<=1000000 /\
  ∀ r H' st' c' M' hs ys,HdsAt P w ob H H' p d1 d2 st st' c' r l M' hs ys->DelR k M M'->st'.length<=st.length+(l+1) * M.length->Q (.ref r) H'
seal PE PT PW PA PS PSs PI PG PIfs PGs PO in
theorem ok_heads_without{CT:Addr}{cs:Nat->Addr}{ob:Nat->Addr}{f:Addr}{fd:FuncData}(Z:Zs mg)(T:Tx K mg CT cs ob)(G_last_up_to:Cal P w K mg base 4 "last_up_to" ["entries","key"] (sp_last_up_to K))(G_heads_of:Cal P w K mg base 5 "heads_of" ["pages","level","entries"] (sp_heads_of P w ob))(G_joined:∀ n,Cal P w K mg base (6+n) "joined" ["pages","left","right"] (sp_joined P w cs ob n))(M_Pages_page:MeV P w K mg base 5 (ob 3) "page" (sp_Pages_page P w cs ob)){n:Nat}(IH:Cal P w K mg base (15+n) "heads_without" ["pages","number","key"] (sp_heads_without P w cs ob n))(F:Fun K "heads_without" "heads_without" s_heads_without f fd):FnOk P w K mg base CX0 (15+n+1) f fd ["pages","number","key"] (sp_heads_without P w cs ob (n+1)):=by
 refine F.ok sc_heads_without (fun vs H Q E h=>?_) (fun cdv A outer s H vs Q E hr h=>?_)
 ·obtain⟨p,d1,d2,st,c,m,l,part,M,k,rfl,_⟩:=h;rfl
 obtain⟨p,d1,d2,st,c,m,l,part,M,k,rfl,hS,hm,tw,hin,hrow,up,lM,hl,hl7,hk,few,q⟩:=h
 refine⟨_,(@pss_cons _ _ _ _ _ (ps_set (i:=3) sc_heads_without.nd rfl (Or.inl rfl) (PE1.pe (pe1_methV (k:=(15+n)) (pv 0) hr rfl (pa_c (pv 1) pa_nil)) throwsN))
  (@pss_cons _ _ _ _ _ (ps_set (i:=4) sc_heads_without.nd rfl (Or.inl rfl) (pe_cal G_last_up_to (k:=(15+n)) hr (by omega) rfl (pa_c (pe_fld (pv 3) rfl) (pa_c (pv 2) pa_nil))))
  (@pss_cons _ _ _ _ _ (ps_set (i:=5) sc_heads_without.nd rfl (Or.inl rfl) (pe_callTy call_list_of rfl (Z.list) bo_list (pa_c (pe_fld (pv 3) rfl) pa_nil)))
  (@pss_cons _ _ _ _ _ (ps_if (pt_cmpR op_eq (pe_fld (pv 3) rfl) pe_int (nomark _)) (pss_one (ps_ret (pe_cal G_heads_of (k:=(15+n)) hr (by omega) rfl (pa_c (pv 0) (pa_c pe_int (pa_c (pe_op op_cat (pe_slice sl_list (pv 5) po_none (po_some (pv 4))) (pe_slice sl_list (pv 5) (po_some (pe_op op_add (pv 4) pe_int)) po_none)) pa_nil)))))) pss_nil)
  (@pss_cons _ _ _ _ _ (ps_if (PW.pt (pw_and (pt_cmpR op_gt (pv 4) pe_int (nomark _)) (pw_and1 (pt_cmpR op_eq (pe_ix ix_tup (pe_ix ix_list (pv 5) (pv 4) (fun _ _=>rfl)) pe_int (fun _ _=>rfl)) (pv 2) (nomark _))))) (@pss_cons _ _ _ _ _ (ps_set (i:=6) sc_heads_without.nd rfl (Or.inl rfl) (pe_cal (G_joined 8) (k:=(15+n)) hr (by omega) rfl (pa_c (pv 0) (pa_c (pe_ix ix_tup (pe_ix ix_list (pv 5) (pe_op op_sub (pv 4) pe_int) (fun _ _=>rfl)) pe_int (fun _ _=>rfl)) (pa_c (pe_ix ix_tup (pe_ix ix_list (pv 5) (pv 4) (fun _ _=>rfl)) pe_int (fun _ _=>rfl)) pa_nil)))))
  (pss_one (ps_ret (pe_cal G_heads_of (k:=(15+n)) hr (by omega) rfl (pa_c (pv 0) (pa_c (pe_fld (pv 3) rfl) (pa_c (pe_op op_cat (pe_op op_cat (pe_slice sl_list (pv 5) po_none (po_some (pe_op op_sub (pv 4) pe_int))) (pv 6)) (pe_slice sl_list (pv 5) (po_some (pe_op op_add (pv 4) pe_int)) po_none)) pa_nil))))))) pss_nil)
  (@pss_cons _ _ _ _ _ (ps_set (i:=6) sc_heads_without.nd rfl (Or.inl rfl) (pe_cal IH (k:=(15+n)) hr (by omega) rfl (pa_c (pv 0) (pa_c (pe_ix ix_tup (pe_ix ix_list (pv 5) (pv 4) (fun _ _=>rfl)) pe_int (fun _ _=>rfl)) (pa_c (pv 2) pa_nil)))))
  (pss_one (ps_ret (pe_cal G_heads_of (k:=(15+n)) hr (by omega) rfl (pa_c (pv 0) (pa_c (pe_fld (pv 3) rfl) (pa_c (pe_op op_cat (pe_op op_cat (pe_slice sl_list (pv 5) po_none (po_some (pv 4))) (pv 6)) (pe_slice sl_list (pv 5) (po_some (pe_op op_add (pv 4) pe_int)) po_none)) pa_nil)))))))))))),?_⟩
 refine rd_start (σ:=[some (.ref p),some (.int m),some k,none,none,none,none]) rfl ?_
 refine rd_gen5 fun R hR=>?_
 walk_at "rd"
 have hM:M≠[]:=fun z=>by obtain⟨o,ho,_⟩:=hin;rw[z]at ho;cases ho
 obtain⟨hent,up',lp,hhd⟩:=tow_keys tw hrow up
 refine rd_page T M_Pages_page (by omega) rfl rfl hS hm fun pg H1 s1 hpg pgd=>?_
 obtain⟨twg,dxp,t,etw,hpa,ht⟩:=id pgd
 obtain⟨mm,t',xs,em,e,ht',rt⟩:=ht.tup
 cases e
 obtain rfl:mm=6:=by omega
 have lxs:=Paired.length rt
 refine rd_entries T rfl hpa ⟨t,xs,part,k,rfl,ht',rt,hent,up',hk,by omega,fun H2 at' s2 hu=>?_⟩
 have hpa2:=s2 _ _ hpa
 have s12:=s1.trans s2
 have rt2:=TDs.sameT rt s2.t
 refine rd_entries T rfl hpa2 ⟨t,rfl,xs,.inr (SqT.of (s2 _ _ ht')),fun l1 hl1=>?_⟩
 have s3:=same_upd hl1 (.lst xs)
 have g3:upd H2 l1 (.lst xs) l1=some (.lst xs):=upd_same
 generalize upd H2 l1 (.lst xs)=H3 at s3 g3 ⊢
 have s13:=s12.trans s3
 have rt3:=TDs.sameT rt2 s3.t
 have hS3:=hS.same s13
 have hpa3:=s3 _ _ hpa2
 obtain⟨a,b,ep,ea,h1,h2⟩:=hu
 have ea0:a≠[]:=fun z=>by
  subst z
  rw[List.nil_append]at ep
  subst ep
  obtain⟨o,ho,eo⟩:=hin
  have kf:ltK k (fstK M):=by
   rw[<- tw.fst.2]
   have hne:=tw.ne hM
   cases part with
   | nil=>exact absurd rfl hne
   | cons x r=>exact h2 x (by simp)
  have:=UpR.behind (M:=[]) (B:=M) up ltK.tr (.inr kf) o ho
  rw[eo]at this
  exact ltK.irr _ this
 obtain⟨ini,x,rfl⟩:=snoc_of ea0
 rw[List.length_append,List.length_singleton]at ea
 obtain rfl:at'=(ini.length:Int):=by omega
 rw[List.append_assoc,List.singleton_append]at ep
 have hle:=h1 x (List.mem_append_right _ (List.mem_singleton.mpr rfl))
 have hx:part[ini.length]?=some x:=by rw[ep];simp
 have li:ini.length < xs.length:=by have:=(List.getElem?_eq_some_iff.mp hx).1;omega
 have ei:part.take ini.length=ini:=by rw[ep];simp
 have eb:part.drop (ini.length+1)=b:=by rw[ep];simp
 walk_at "rd"
 refine rd_level T rfl hpa3 ⟨rfl,ite2 (fun h0=>?_) fun h0=>?_⟩
 ·injection h0 with h0
  obtain rfl:l=0:=by omega
  obtain rfl:part=M:=tw
  have ex:keyD x=k:=by
   obtain⟨o,ho,eo⟩:=hin
   rw[ep]at ho up
   rcases List.mem_append.mp ho with z | z
   ·have u:=up.across z (List.mem_cons_self (a:=x) (l:=b))
    rw[eo]at u
    rcases hle with c | c
    ·exact absurd (ltK.tr u c) (ltK.irr _)
    ·exact c
   ·rcases List.mem_cons.mp z with z | z
    ·rw[<- z];exact eo
    ·have:=h2 o z
     rw[eo]at this
     exact absurd this (ltK.irr _)
  refine rd_two (fun r H'=>sp_heads_of P w ob [V.ref p,V.int 0,V.ref r] H' Q E0) g3 (by omega) fun r4 H4 s4 hr4 g4=>?_
  rw[show(ini.length:Int)+1=((ini.length+1:Nat):Int) by omega,cutA,cutB]at g4
  have rt4:=TDs.sameT rt3 s4.t
  have re4:=paired_append (paired_take ini.length rt4) (paired_drop (ini.length+1) rt4)
  rw[ei,eb]at re4
  have lpt:part.length=ini.length+(b.length+1):=by rw[ep];simp
  have s14:=s13.trans s4
  have le4:=Paired.length re4
  simp only[List.length_append]at le4
  refine heads_mk (l:=0) (b:=false) (hS.same s14) g4 re4 (fun d hd=>?_) (by simp only[List.length_append];omega) (by simp only[List.length_append];omega) (show Tow levV (tblOf st) 0 (ini++b) (ini++b) from rfl) (s14.x _) (fun x h=>h) (fun r5 H5 st5 c5 hs5 ys5 h5 l5=>q r5 H5 st5 c5 (ini++b) hs5 ys5 h5 ⟨ini,x,b,ep,rfl,ex⟩ (by simp only[List.length_append]at l5;omega)) fun r hr=>none_of s14 hr
  refine hent d ?_
  rw[ep]
  rcases List.mem_append.mp hd with z | z <;> simp[z]
 ·have hl0:l≠0:=fun z=>h0 (by rw[z];rfl)
  obtain⟨l',rfl⟩:∃ l',l=l'+1:=⟨l - 1,by omega⟩
  obtain rfl:twg=true:=by rw[etw];exact decide_eq_true (by omega)
  have tw':=tw
  rw[ep]at tw'
  obtain⟨A,N,B,n',part',eM,tA,tB,ex,hm',tp',hN,cA,cB,hA,hB⟩:=tow_step tw' up hle h2
  subst ex
  have tx:=paired_get rt3 hx (List.getElem?_eq_getElem li)
  obtain⟨bb,u1,u2,ebb,hb,x1,x2⟩:=TD.pair_of tx
  obtain⟨_,ex1⟩:=x1.flat
  obtain⟨_,rfl⟩:=x2.flat
  subst ex1
  have kN:keyV (fstK N):=by
   obtain⟨o,ho,eo⟩:=fstK_mem hN
   rw[<- eo];exact(hrow o (by rw[eM];simp[ho])).ent.key
  have rowN:∀ d∈N,RowD d:=fun d hd=>hrow d (by rw[eM];simp[hd])
  have upN:UpR ltK N:=by rw[eM]at up;exact up.right.left
  have lM':M.length=A.length+(N.length+B.length):=by rw[eM];simp
  have lpt:part.length=ini.length+(b.length+1):=by rw[ep];simp
  have lA:=tA.len0
  have lB:=tB.len0
  have bnd2:(l'+1+1) * M.length=(l'+1) * M.length+M.length:=Nat.succ_mul _ _
  have atx:atI xs (ini.length:Int)=some (.ref bb):=by rw[<- ebb];exact atI_nat (List.getElem?_eq_getElem li)
  have tail:(A=[]\/fstK N≠k)->R [some (.ref p),some (.int m),some k,some (.ref pg),some (.int (ini.length:Int)),some (.ref l1),none] H3:=fun hc=>by
   refine hR _ _ ?_
   clear hR
   walk_at "rd"
   have hinN:∃ o∈N,keyD o=k:=by
    obtain⟨o,ho,eo⟩:=hin
    rw[eM]at ho
    rcases List.mem_append.mp ho with z | z
    ·have:=hA o z;rw[eo]at this;exact absurd this (ltK.irr _)
    ·rcases List.mem_append.mp z with z | z
     ·exact⟨o,z,eo⟩
     ·have:=hB o z;rw[eo]at this;exact absurd this (ltK.irr _)
   have bnd:(l'+1) * N.length<=(l'+1) * M.length:=Nat.mul_le_mul_left _ (by omega)
   obtain⟨n0,rfl⟩:∃ n0,n=n0+1:=⟨n - 1,by omega⟩
   refine⟨xs,SqL.of g3,.ref bb,atx,bb,rfl,_,SqT.of hb,_,at1 _ _ _,p,d1,d2,st,c,n',l',part',N,k,rfl,hS3,hm',tp',hinN,rowN,upN,by omega,by omega,by omega,hk,by omega,fun r7 H7 st7 c7 N' hs7 ys7 h7 hdel l7=>?_⟩
   have sx7:SameX [p,d1,d2] H H7:=(s13.x _).trans h7.sx
   have t37:=sameT_st hS3 h7.sx
   have hpa7:=h7.sx _ _ (hS3.off_pg hpa3) hpa3
   have g7:=hS3.lst h7.sx g3
   have rt7:=TDs.sameT rt3 t37
   have lN':N'.length<=N.length:=by have:=hdel.sub.length_le;simpa using this
   have lt7:=h7.tow.len0
   have ly7:=Paired.length h7.ty
   refine rd_fld (T.ob_ 2 (by decide)) (by decide) rfl hpa7 rfl ?_
   walk_at "rd"
   refine rd_mid (fun r H'=>sp_heads_of P w ob [V.ref p,V.int ((l'+1:Nat):Int),V.ref r] H' Q E0) g7 h7.at_ g7 (by omega) (by omega) (by omega) fun r8 H8 s8 hr8 g8=>?_
   rw[show(ini.length:Int)+1=((ini.length+1:Nat):Int) by omega,cutA,cutB]at g8
   have rt8:=TDs.sameT rt7 s8.t
   have ri:=paired_take ini.length rt8
   have rb8:=paired_drop (ini.length+1) rt8
   rw[ei]at ri
   rw[eb]at rb8
   have re8:=paired_append (paired_append ri (TDs.sameT h7.ty s8.t)) rb8
   have lr:=Paired.length re8
   have tow8:Tow levV (tblOf st7) (l'+1) (A++(N'++B)) (ini++hs7++b):=by
    rw[List.append_assoc ini]
    refine(tA.mono h7.sub).mid h7.tow (tB.mono h7.sub) ?_ cB
    rcases hc with z | z
    ·exact .inl z
    ·rcases cA with y | y
     ·exact .inl y
     ·exact .inr (.inr (by rw[(hdel.fst z).1];exact y))
   refine heads_mk (b:=false) (h7.sA.same s8) g8 re8 (fun d hd=>?_) (by rw[<- lr];simp only[List.length_append];omega) (by rw[<- lr];simp only[List.length_append];omega) tow8 (sx7.trans (s8.x _)) h7.sub (fun r9 H9 st9 c9 hs9 ys9 h9 l9=>?_) fun r hr=>?_
   ·rcases List.mem_append.mp hd with z | z
    ·rcases List.mem_append.mp z with z | z
     ·exact hent d (by rw[ep];simp[z])
     ·exact(h7.hd d z).ent
    ·exact hent d (by rw[ep];simp[z])
   ·refine q r9 H9 st9 c9 (A++(N'++B)) hs9 ys9 h9 (by rw[eM];exact hdel.mid) ?_
    rw[<- lr]at l9
    simp only[List.length_append]at l9
    omega
   ·exact hS.none_x sx7 h7.sA (none_of s8 hr)
  refine ite2 (fun hi=>?_) fun hi=>?_
  ·refine⟨xs,SqL.of g3,.ref bb,atx,bb,rfl,_,SqT.of hb,_,at0 _ _,key_sc kN hk,ite2 (fun e=>?_) fun e=>tail (.inr e)⟩
   have hi0:ini≠[]:=fun z=>by rw[z]at hi;simp at hi
   obtain⟨ini2,y,rfl⟩:=snoc_of hi0
   obtain⟨A2,N0,B0,n0,part0,eA,tA2,_,tB0,ey,hm0,tp0,hN0,cA2,_⟩:=tA.at_
   obtain rfl:B0=[]:=tB0.fst.1.mpr rfl
   rw[List.append_nil]at eA
   subst ey
   have hy:part[ini2.length]?=some (hdOf (fstK N0) n0):=by rw[ep];simp
   have li2:ini2.length < xs.length:=by have:=(List.getElem?_eq_some_iff.mp hy).1;omega
   have ty:=paired_get rt3 hy (List.getElem?_eq_getElem li2)
   obtain⟨b0,z1,z2,eb0,hb0,y1,y2⟩:=TD.pair_of ty
   obtain⟨_,rfl⟩:=y2.flat
   have eL:((ini2++[hdOf (fstK N0) n0]).length:Int) - 1=(ini2.length:Int):=by simp
   have lA2:A.length=A2.length+N0.length:=by rw[eA,List.length_append]
   have rowN0:∀ d∈N0,RowD d:=fun d hd=>hrow d (by rw[eM,eA];simp[hd])
   have upN0:UpR ltK N0:=by rw[eM]at up;have:=up.left;rw[eA]at this;exact this.right
   have bnd:(l'+1) * (N0.length+N.length)<=(l'+1) * M.length:=Nat.mul_le_mul_left _ (by omega)
   rw[eL]
   refine⟨xs,SqL.of g3,.ref b0,by rw[<- eb0];exact atI_nat (List.getElem?_eq_getElem li2),b0,rfl,_,SqT.of hb0,_,at1 _ _ _,xs,SqL.of g3,.ref bb,atx,bb,rfl,_,SqT.of hb,_,at1 _ _ _,p,d1,d2,st,c,n0,n',l',part0,part',N0,N,rfl,hS3,hm0,hm',tp0,tp',hN0,hN,rowN0,rowN,upN0,upN,by omega,(show l'<=7 by omega),by omega,fun r7 H7 st7 c7 hs7 ys7 h7 l7=>?_⟩
   have sx7:SameX [p,d1,d2] H H7:=(s13.x _).trans h7.sx
   have t37:=sameT_st hS3 h7.sx
   have hpa7:=h7.sx _ _ (hS3.off_pg hpa3) hpa3
   have g7:=hS3.lst h7.sx g3
   have rt7:=TDs.sameT rt3 t37
   have lt7:=h7.tow.len0
   have ly7:=Paired.length h7.ty
   have hNp:0 < N.length:=List.length_pos_iff.mpr hN
   simp only[List.length_append,List.length_tail]at lt7
   refine rd_fld (T.ob_ 2 (by decide)) (by decide) rfl hpa7 rfl ?_
   walk_at "rd"
   refine rd_mid (fun r H'=>sp_heads_of P w ob [V.ref p,V.int ((l'+1:Nat):Int),V.ref r] H' Q E0) g7 h7.at_ g7 (by omega) (by omega) (by omega) fun r8 H8 s8 hr8 g8=>?_
   rw[show((ini2++[hdOf (fstK N0) n0]).length:Int)+1=(((ini2++[hdOf (fstK N0) n0]).length+1:Nat):Int) by omega,cutA,cutB]at g8
   have rt8:=TDs.sameT rt7 s8.t
   have ri:=paired_take ini2.length rt8
   have rb8:=paired_drop ((ini2++[hdOf (fstK N0) n0]).length+1) rt8
   rw[show part.take ini2.length=ini2 by rw[ep];simp]at ri
   rw[eb]at rb8
   have re8:=paired_append (paired_append ri (TDs.sameT h7.ty s8.t)) rb8
   have lr:=Paired.length re8
   have lA2':=tA2.len0
   have tow8:Tow levV (tblOf st7) (l'+1) (A2++((N0++N.tail)++B)) (ini2++hs7++b):=by
    rw[List.append_assoc ini2]
    refine(tA2.mono h7.sub).mid h7.tow (tB.mono h7.sub) ?_ cB
    rcases cA2 with z | z
    ·exact .inl z
    ·refine .inr (.inr ?_)
     cases N0 with
     | nil=>exact absurd rfl hN0
     | cons x r=>exact z
   refine heads_mk (b:=false) (h7.sA.same s8) g8 re8 (fun d hd=>?_) (by rw[<- lr];simp only[List.length_append];omega) (by rw[<- lr];simp only[List.length_append];omega) tow8 (sx7.trans (s8.x _)) h7.sub (fun r9 H9 st9 c9 hs9 ys9 h9 l9=>?_) fun r hr=>?_
   ·rcases List.mem_append.mp hd with z | z
    ·rcases List.mem_append.mp z with z | z
     ·exact hent d (by rw[ep];simp[z])
     ·exact(h7.hd d z).ent
    ·exact hent d (by rw[ep];simp[z])
   ·refine q r9 H9 st9 c9 _ hs9 ys9 h9 ?_ ?_
    ·cases N with
     | nil=>exact absurd rfl hN
     | cons o r=>exact⟨A2++N0,o,r++B,by rw[eM,eA];simp,by simp,e⟩
    ·rw[<- lr]at l9
     simp only[List.length_append]at l9
     omega
   ·exact hS.none_x sx7 h7.sA (none_of s8 hr)
  ·refine tail (.inl (tA.fst.1.mpr ?_))
   cases ini with
   | nil=>rfl
   | cons y r=>simp at hi
def sp_lowered(P:Program)(w:World)(_cs ob:Nat->Addr):Sp:=fun vs H Q _=>∃ p d1 d2 st c hb ys hs,∃ l:Nat,∃ M,vs=[.ref p,.ref hb]/\StAt P w ob H p d1 d2 st c/\H hb=some (.lst ys)/\Paired (fun d v=>TD H 6 d v) hs ys/\Tow levV (tblOf st) (l+1) M hs/\hs.length<=1/\(∀ d∈M,RowD d)/\UpR ltK M/\M.length<=900 /\
 ∀ H' v,Same H H'->TreeOf st M v->Q v H'
seal PE PT PW PA PS PSs PI PG PIfs PGs PO in
theorem ok_lowered{CT:Addr}{cs:Nat->Addr}{ob:Nat->Addr}{f:Addr}{fd:FuncData}(Z:Zs mg)(T:Tx K mg CT cs ob)(M_Page_under:MeV P w K mg base 1 (ob 0) "under" (sp_Page_under K ob))(M_Leaf_under:MeV P w K mg base 1 (ob 1) "under" (sp_Page_under K ob))(M_Twig_under:MeV P w K mg base 1 (ob 2) "under" (sp_Twig_under K ob))(M_Pages_page:MeV P w K mg base 5 (ob 3) "page" (sp_Pages_page P w cs ob))(F:Fun K "lowered" "lowered" s_lowered f fd):FnOk P w K mg base CX0 6 f fd ["pages","heads"] (sp_lowered P w cs ob):=by
 refine F.ok sc_lowered (fun vs H Q E h=>?_) (fun cdv A outer s H vs Q E hr h=>?_)
 ·obtain⟨p,d1,d2,st,c,hb,ys,hs,l,M,rfl,_⟩:=h;rfl
 obtain⟨p,d1,d2,st,c,hb,ys,hs,l,M,rfl,hS,hH,ty,tw,l1,rM,uM,lM,q⟩:=h
 refine⟨_,(@pss_cons _ _ _ _ _ (ps_if (pt_not (pt_truth (pv 1) (fun _=>rfl))) (pss_one (ps_ret pe_non)) pss_nil)
  (@pss_cons _ _ _ _ _ (ps_set (i:=2) sc_lowered.nd rfl (Or.inl rfl) (pe_ix ix_tup (pe_ix ix_list (pv 1) pe_int (fun _ _=>rfl)) pe_int (fun _ _=>rfl)))
  (@pss_cons _ _ _ _ _ (ps_set (i:=3) sc_lowered.nd rfl (Or.inl rfl) (PE1.pe (pe1_methE0 (k:=5) (pe1_methV (k:=5) (pv 0) hr rfl (pa_c (pv 2) pa_nil)) hr rfl) throwsN))
  (@pss_cons _ _ _ _ _ (ps_while PassesOwn.never (pt_cmpR op_eq (pe_callB call_len_seq rfl (Z.len) bo_len (pa_c (pv 3) pa_nil)) pe_int (nomark _)) (@pss_cons _ _ _ _ _ (ps_set (i:=2) sc_lowered.nd rfl (Or.inl rfl) (pe_ix ix_list (pv 3) pe_int (fun _ _=>rfl)))
  (pss_one (ps_set (i:=3) sc_lowered.nd rfl (Or.inl rfl) (PE1.pe (pe1_methE0 (k:=5) (pe1_methV (k:=5) (pv 0) hr rfl (pa_c (pv 2) pa_nil)) hr rfl) throwsN)))))
  (pss_one (ps_ret (pv 2))))))),?_⟩
 refine rd_start (σ:=[some (.ref p),some (.ref hb),none,none]) rfl ?_
 walk_at "rd"
 have und:∀ {n:Int} {j:Nat} {part:List Dt} {pg:Addr} {H2:Hp} {Qc:VK},(n,tdOf (j:Int) part)∈tblOf st->Tow levV (tblOf st) j M part->PgD ob H2 pg (j:Int) part->(∀ r H3,Same H2 H3->H2 r=none->H3 r=some (.lst (if j=0 then [] else (part.map numD).map V.int))->Qc (.ref r) H3) ->
  ∃ a,V.ref pg=.ref a/\∃ C dx fs,H2 a=some (.ins C dx fs)/\fs.lookup ("under":Str)=none/\Cls K C/\∃ sp,MeV P w K mg base 5 C "under" sp/\sp [.ref pg] H2 Qc E0:=by
  intro n j part pg H2 Qc hm tp pgd qc
  obtain⟨_,_,lp,hhd⟩:=tow_keys tp rM uM
  obtain⟨tw2,dx2,t0,etw2,hpa,ht0⟩:=id pgd
  cases j with
  | zero =>
   obtain rfl:tw2=false:=by rw[etw2];rfl
   exact⟨pg,rfl,_,dx2,_,hpa,rfl,(T.ob_ 1 (by decide)).cl,_,M_Leaf_under.mono (by decide),pg,rfl,fun r H3 s3 h3 g3=>qc r H3 s3 h3 (by rw[if_pos rfl];exact g3)⟩
  | succ j' =>
   obtain rfl:tw2=true:=by rw[etw2];exact decide_eq_true (by omega)
   exact⟨pg,rfl,_,dx2,_,hpa,rfl,(T.ob_ 2 (by decide)).cl,_,M_Twig_under.mono (by decide),pg,_,part,rfl,pgd,by omega,by omega,(fun d hd=>let ⟨k,n,e,_⟩:=hhd (by omega) d hd;⟨k,n,e⟩),fun r H3 s3 h3 g3=>qc r H3 s3 h3 (by rw[if_neg (by omega)];exact g3)⟩
 have lty:=Paired.length ty
 match hs,ys,ty,tw,l1,hH with
 | [],_,.nil,tw,_,hH =>
  refine⟨false,.inl ⟨_,SqL.of hH,rfl⟩,?_⟩
  rw[if_pos rfl]
  exact q H .non (Same.refl _) (.inl ⟨tw.fst.1.mpr rfl,rfl⟩)
 | [d],_,.cons (b:=x) tx .nil,tw,_,hH =>
  obtain⟨n,part,ed,hm,tp,_⟩:=tw.one
  subst ed
  obtain⟨b1,u1,u2,eb,hb1,w1,w2⟩:=TD.pair_of tx
  obtain⟨_,rfl⟩:=w2.flat
  subst eb
  refine⟨true,.inl ⟨_,SqL.of hH,rfl⟩,?_⟩
  rw[if_neg (by decide)]
  refine⟨_,SqL.of hH,.ref b1,at0 _ _,b1,rfl,_,SqT.of hb1,_,at1 _ _ _,?_⟩
  refine rd_page T M_Pages_page (by decide) rfl rfl hS hm fun pg H1 s1 hpg pgd=>?_
  refine und hm tp pgd fun r H2 s2 hr2 g2=>?_
  refine⟨fun m σ' H'=>∃ n part r k,σ'=[some (.ref p),some (.ref hb),some (.int n),some (.ref r)]/\Same H H'/\Tow levV (tblOf st) (m+1) M [hdOf k n]/\(n,tdOf (m:Int) part)∈tblOf st/\Tow levV (tblOf st) m M part/\H' r=some (.lst (if m=0 then [] else (part.map numD).map V.int)),⟨l,n,part,r,_,rfl,s1.trans s2,tw,hm,tp,g2⟩,?_⟩
  clear g2 hr2 s2 pgd hpg s1 tx tp hm tw
  rintro m σ' H' ⟨n,part,r,k,rfl,s1,tw,hm,tp,g2⟩
  walk_at "rd"
  refine⟨_,.inl (SqL.of g2),ite2 (fun h1=>?_) fun h1=>?_⟩
  ·have hm0:m≠0:=fun z=>by rw[if_pos z]at h1;simp at h1
   rw[if_neg hm0]at h1 g2
   obtain⟨m',rfl⟩:∃ m',m=m'+1:=⟨m - 1,by omega⟩
   have l1:part.length=1:=by simp at h1;omega
   obtain⟨d,rfl⟩:=List.length_eq_one_iff.mp l1
   obtain⟨n',part',ed,hm',tp',_⟩:=tp.one
   subst ed
   refine⟨_,fun σ' H' h=>h,_,SqL.of g2,.int n',at0 _ _,?_⟩
   refine rd_page T M_Pages_page (by decide) rfl rfl (hS.same s1) hm' fun pg H2 s2 hpg pgd=>?_
   exact und hm' tp' pgd fun r H3 s3 hr3 g3=>⟨m',by omega,n',part',r,rfl,s1.trans (s2.trans s3),_,tp,hm',tp',g3⟩
  ·refine q H' (.int n) s1 (root_tree (Root.of_two hS.fn tw tp ?_))
   by_cases hm0:m=0
   ·exact .inl hm0
   ·right
    rw[if_neg hm0]at h1
    have hM:M≠[]:=tw.ne' (by simp)
    have:=List.length_pos_iff.mpr (tp.ne hM)
    simp at h1
    omega
 | d::d'::hs,_,_,_,l1,_=>simp at l1
def sp_take(P:Program)(w:World)(cs ob:Nat->Addr):Sp:=fun vs H Q E=>∃ p d1 d2 st c v k es,vs=[.ref p,v,k]/\StAt P w ob H p d1 d2 st c/\TreeOf st es v/\Rows es/\es.length<=700/\keyV k/\st.length+8 * es.length<=1000000 /\
 ((∃ d∈es,keyD d=k)->∀ H' st' c' v' es',SameX [p,d1,d2] H H'->StAt P w ob H' p d1 d2 st' c'->(∀ x∈tblOf st,x∈tblOf st')->st'.length<=st.length+8 * es.length->DelR k es es'->TreeOf st' es' v'->Q v' H') /\
 ((∀ d∈es,keyD d≠k)->∀ H' d,Same H H'->H' d=none->E (.ref (cs 2)) (some d) (upd H' d (xD d [("key",k)])))
seal PE PT PW PA PS PSs PI PG PIfs PGs PO in
theorem ok_take{CT:Addr}{cs:Nat->Addr}{ob:Nat->Addr}{f:Addr}{fd:FuncData}(Z:Zs mg)(T:Tx K mg CT cs ob)(G_lowered:Cal P w K mg base 6 "lowered" ["pages","heads"] (sp_lowered P w cs ob))(G_heads_without:∀ n,Cal P w K mg base (15+n) "heads_without" ["pages","number","key"] (sp_heads_without P w cs ob n))(G_seek:Cal P w K mg base 6 "seek" ["pages","root","key"] (sp_seek P w cs ob))(K_NoRow:MkX P w K mg base 1 "NoRow" (cs 2) CT ["key"])(F:Fun K "take" "take" s_take f fd):FnOk P w K mg base (CX1 P w) 24 f fd ["pages","root","key"] (sp_take P w cs ob):=by
 refine F.ok1 sc_take (fun vs H Q E h=>?_) (fun cdv A outer s H vs Q E hr h=>?_)
 ·obtain⟨p,d1,d2,st,c,v,k,es,rfl,_⟩:=h;rfl
 obtain⟨p,d1,d2,st,c,v,k,es,rfl,hS,hT,hR,l7,hk,few,q1,q3⟩:=h
 refine⟨_,(@pss_cons _ _ _ _ _ (ps_if (pt_cmpR op_isN (pe_ix ix_tup (pe_cal G_seek (k:=23) hr (by decide) rfl (pa_c (pv 0) (pa_c (pv 1) (pa_c (pv 2) pa_nil)))) pe_int (fun _ _=>rfl)) pe_non (nomark _)) (pss_one (ps_raiseX throws0 rfl rfl rfl K_NoRow (k:=23) hr (by decide) (pa_c (pv 2) pa_nil))) pss_nil)
  (pss_one (ps_ret (pe_cal G_lowered (k:=23) hr (by decide) rfl (pa_c (pv 0) (pa_c (pe_cal (G_heads_without 8) (k:=23) hr (by decide) rfl (pa_c (pv 0) (pa_c (pv 1) (pa_c (pv 2) pa_nil)))) pa_nil)))))),?_⟩
 refine rd_start (σ:=[some (.ref p),some v,some k]) rfl ?_
 walk_at "rd"
 refine⟨p,d1,d2,st,c,v,k,es,rfl,hS,hT,hR,hk,fun r y H1 cv ws s1 hr1 g1 gy hy hf _=>⟨r,rfl,_,SqT.of g1,_,at0 _ _,?_⟩⟩
 rcases hf with ⟨c0,hc,tc⟩ | ⟨hno,rfl⟩
 ·obtain⟨_,a0,_,_,rfl,_,_⟩:=tc.tup
  rw[if_neg (fun z=>nomatch z)]
  have hin:∃ d∈es,keyD d=k:=⟨_,hc,rfl⟩
  obtain⟨n,rfl⟩:∃ n,v=.int n:=by
   rcases hT with ⟨e,_⟩ | ⟨_,_,_,_,n,_,_,_,e⟩
   ·rw[e]at hc;cases hc
   ·exact⟨n,e⟩
  obtain⟨top,h6,rt⟩:=hT.root hS
  obtain⟨part,hm,tp,_,hne⟩:=rt.page
  have b1:(top+1) * es.length<=8 * es.length:=Nat.mul_le_mul_right _ (by omega)
  refine⟨p,d1,d2,st,c,n,top,part,es,k,rfl,hS.same s1,hm,tp,hin,hR.row,hR.up,l7,(show top<=7 by omega),by omega,hk,by omega,fun r2 H2 st2 c2 es' hs2 ys2 h2 hdel l2=>?_⟩
  have hle:hs2.length<=1:=by
   by_cases e:es'=[]
   ·rw[h2.tow.fst.1.mp e];exact Nat.zero_le _
   ·obtain⟨k0,t0⟩:=rt.one
    obtain⟨k',n',e'⟩:=t0.single h2.tow rfl e hdel.sub
    rw[e'];exact Nat.le_refl _
  have lN':es'.length<=es.length:=by have:=hdel.sub.length_le;simpa using this
  exact⟨p,d1,d2,st2,c2,r2,ys2,hs2,top,es',rfl,h2.sA,h2.at_,h2.ty,h2.tow,hle,(fun d hd=>hR.row d ((hdel.mem hR.up ltK.irr d).mp hd).1),hdel.up hR.up,by omega,fun H3 v3 s3 ht3=>q1 hin H3 st2 c2 v3 es' ((s1.x _).trans (h2.sx.trans (s3.x _))) (h2.sA.same s3) h2.sub (by omega) hdel ht3⟩
 ·rw[if_pos rfl]
  exact⟨_,rfl,rfl,show 1<=1000 by decide,fun d hd=>q3 hno H1 d s1 hd⟩
def chF(k o n:V):List (Str×V):=putF "new" n (putF "old" o (putF "key" k []))
def ciOf:V->V->Nat
 | .non,_=>5
 | _,.non=>6
 | _,_=>7
theorem ci2{o:V}(h:o≠.non):ciOf o .non=6:=by unfold ciOf;split <;> first | exact(h rfl).elim | rfl | (rename_i z;exact(z rfl).elim)
theorem ci3{o n:V}(h:o≠.non)(h':n≠.non):ciOf o n=7:=by unfold ciOf;split <;> first | exact(h rfl).elim | exact(h' rfl).elim | rfl
theorem ciOf_lt(o n:V):ciOf o n < 8:=by unfold ciOf;split <;> decide
def ChAt(ob:Nat->Addr)(H:Hp)(a:Addr)(k o n:V):Prop:=∃ dx,H a=some (.ins (ob (ciOf o n)) dx (chF k o n))
theorem ChAt.same{ob:Nat->Addr}{H H':Hp}{a:Addr}{k o n:V}(h:ChAt ob H a k o n)(s:Same H H'):ChAt ob H' a k o n:=by
 obtain⟨dx,e⟩:=h;exact⟨dx,s _ _ e⟩
def sp_Change_init(K:PySem.W.Frag)(ob:Nat->Addr):Sp:=fun vs H Q _=>∃ a i dx k o n,vs=[.ref a,k,o,n]/\i < 8/\H a=some (.ins (ob i) dx [])/\Q .non (upd H a (.ins (ob i) dx (chF k o n)))
seal PE PT PW PA PS PSs PI PG PIfs PGs PO in
theorem ok_Change_init{CT:Addr}{cs:Nat->Addr}{ob:Nat->Addr}{f:Addr}{fd:FuncData}(Z:Zs mg)(T:Tx K mg CT cs ob)(F:Fun K "__init__" "Change.__init__" s_Change_init f fd):FnOk P w K mg base CX0 1 f fd ["self","key","old","new"] (sp_Change_init K ob):=by
 refine F.ok sc_Change_init (fun vs H Q E h=>?_) (fun cdv A outer s H vs Q E hr h=>?_)
 ·obtain⟨a,i,dx,k,o,n,rfl,_⟩:=h;rfl
 obtain⟨a,i,dx,k,o,n,rfl,hi,ha,q⟩:=h
 refine⟨_,(@pss_cons _ _ _ _ _ (ps_fld (pv 0) (pv 1) rfl)
  (@pss_cons _ _ _ _ _ (ps_fld (pv 0) (pv 2) rfl)
  (pss_one (ps_fld (pv 0) (pv 3) rfl)))),?_⟩
 refine rd_start (σ:=[some (.ref a),some k,some o,some n]) rfl ?_
 walk_at "rd"
 have c:=T.ob_ _ hi
 refine rd_set c (by decide) rfl (y:=k) (H1:=H) (fun Q q=>⟨_,rfl,q⟩) ha (by decide) ?_
 refine⟨_,rfl,_,rfl,a,ob i,dx,_,rfl,upd_same,c.cl,c.no _ (by decide),show 1 < 1000 by decide,?_⟩
 refine⟨_,rfl,_,rfl,a,ob i,dx,_,rfl,upd_same,c.cl,c.no _ (by decide),show 2 < 1000 by decide,?_⟩
 rw[upd_upd,upd_upd]
 exact q
def sp_Turned_init(K:PySem.W.Frag)(ob:Nat->Addr):Sp:=fun vs H Q _=>∃ a dx k o n,vs=[.ref a,k,o,n]/\H a=some (.ins (ob 7) dx [])/\Q .non (upd H a (.ins (ob 7) dx (chF k o n)))
seal PE PT PW PA PS PSs PI PG PIfs PGs PO in
theorem ok_Turned_init{CT:Addr}{cs:Nat->Addr}{ob:Nat->Addr}{f:Addr}{fd:FuncData}(Z:Zs mg)(T:Tx K mg CT cs ob)(F:Fun K "__init__" "Change.__init__" s_Turned_init f fd):FnOk P w K mg base CX0 1 f fd ["self","key","old","new"] (sp_Turned_init K ob):=by
 refine F.ok sc_Turned_init (fun vs H Q E h=>?_) (fun cdv A outer s H vs Q E hr h=>?_)
 ·obtain⟨a,dx,k,o,n,rfl,_⟩:=h;rfl
 obtain⟨a,dx,k,o,n,rfl,ha,q⟩:=h
 refine⟨_,(@pss_cons _ _ _ _ _ (ps_fld (pv 0) (pv 1) rfl)
  (@pss_cons _ _ _ _ _ (ps_fld (pv 0) (pv 2) rfl)
  (pss_one (ps_fld (pv 0) (pv 3) rfl)))),?_⟩
 refine rd_start (σ:=[some (.ref a),some k,some o,some n]) rfl ?_
 walk_at "rd"
 have c:=T.ob_ 7 (by decide)
 refine rd_set c (by decide) rfl (y:=k) (H1:=H) (fun Q q=>⟨_,rfl,q⟩) ha (by decide) ?_
 refine⟨_,rfl,_,rfl,a,ob 7,dx,_,rfl,upd_same,c.cl,c.no _ (by decide),show 1 < 1000 by decide,?_⟩
 refine⟨_,rfl,_,rfl,a,ob 7,dx,_,rfl,upd_same,c.cl,c.no _ (by decide),show 2 < 1000 by decide,?_⟩
 rw[upd_upd,upd_upd]
 exact q
def sp_PutIn_init(K:PySem.W.Frag)(ob:Nat->Addr):Sp:=fun vs H Q _=>∃ a dx k n,vs=[.ref a,k,n]/\H a=some (.ins (ob 5) dx [])/\Q .non (upd H a (.ins (ob 5) dx (chF k .non n)))
seal PE PT PW PA PS PSs PI PG PIfs PGs PO in
theorem ok_PutIn_init{CT:Addr}{cs:Nat->Addr}{ob:Nat->Addr}{f:Addr}{fd:FuncData}(Z:Zs mg)(T:Tx K mg CT cs ob)(B_Change:BaI P w K mg base 1 "Change" (sp_Change_init K ob))(F:Fun K "__init__" "PutIn.__init__" s_PutIn_init f fd):FnOk P w K mg base CX0 2 f fd ["self","key","new"] (sp_PutIn_init K ob):=by
 refine F.ok sc_PutIn_init (fun vs H Q E h=>?_) (fun cdv A outer s H vs Q E hr h=>?_)
 ·obtain⟨a,dx,k,n,rfl,_⟩:=h;rfl
 obtain⟨a,dx,k,n,rfl,ha,q⟩:=h
 refine⟨_,(pss_one (ps_expr (pe_bainit B_Change (k:=1) hr (by decide) rfl (pa_c (pv 0) (pa_c (pv 1) (pa_c pe_non (pa_c (pv 2) pa_nil))))))),?_⟩
 refine rd_start (σ:=[some (.ref a),some k,some n]) rfl ?_
 walk_at "rd"
 exact⟨a,5,dx,k,.non,n,rfl,by decide,ha,q⟩
def sp_TakenOut_init(K:PySem.W.Frag)(ob:Nat->Addr):Sp:=fun vs H Q _=>∃ a dx k o,vs=[.ref a,k,o]/\H a=some (.ins (ob 6) dx [])/\Q .non (upd H a (.ins (ob 6) dx (chF k o .non)))
seal PE PT PW PA PS PSs PI PG PIfs PGs PO in
theorem ok_TakenOut_init{CT:Addr}{cs:Nat->Addr}{ob:Nat->Addr}{f:Addr}{fd:FuncData}(Z:Zs mg)(T:Tx K mg CT cs ob)(B_Change:BaI P w K mg base 1 "Change" (sp_Change_init K ob))(F:Fun K "__init__" "TakenOut.__init__" s_TakenOut_init f fd):FnOk P w K mg base CX0 2 f fd ["self","key","old"] (sp_TakenOut_init K ob):=by
 refine F.ok sc_TakenOut_init (fun vs H Q E h=>?_) (fun cdv A outer s H vs Q E hr h=>?_)
 ·obtain⟨a,dx,k,o,rfl,_⟩:=h;rfl
 obtain⟨a,dx,k,o,rfl,ha,q⟩:=h
 refine⟨_,(pss_one (ps_expr (pe_bainit B_Change (k:=1) hr (by decide) rfl (pa_c (pv 0) (pa_c (pv 1) (pa_c (pv 2) (pa_c pe_non pa_nil))))))),?_⟩
 refine rd_start (σ:=[some (.ref a),some k,some o]) rfl ?_
 walk_at "rd"
 exact⟨a,6,dx,k,o,.non,rfl,by decide,ha,q⟩
theorem ci_cases(o n:V):(ciOf o n=5/\o=.non)\/(ciOf o n=6/\o≠.non/\n=.non)\/(ciOf o n=7/\o≠.non/\n≠.non):=by
 by_cases ho:o=.non
 ·subst ho;exact .inl ⟨rfl,rfl⟩
 by_cases hn:n=.non
 ·subst hn;exact .inr (.inl ⟨ci2 ho,ho,rfl⟩)
 ·exact .inr (.inr ⟨ci3 ho hn,ho,hn⟩)
def oD:Option (List Dt)->Dt
 | none=>.v .non
 | some c=>.t c
theorem oD_inj{a b:Option (List Dt)}(h:oD a=oD b):a=b:=by
 cases a <;> cases b <;> first | rfl | (injection h with h;rw[h]) | (injection h)
def GetR(es:List Dt)(k:V):Option (List Dt)->Prop
 | none=>∀ d∈es,keyD d≠k
 | some c=>Dt.t [.v k,.t c]∈es
theorem up_key{es:List Dt}(up:UpR ltK es){a b:Dt}(ha:a∈es)(hb:b∈es)(e:keyD a=keyD b):a=b:=by
 obtain⟨i,hi,ea⟩:=List.mem_iff_getElem.mp ha
 obtain⟨j,hj,eb⟩:=List.mem_iff_getElem.mp hb
 rcases Nat.lt_trichotomy i j with h | h | h
 ·have:=List.pairwise_iff_getElem.mp up i j hi hj h
  rw[ea,eb,e]at this;exact absurd this (ltK.irr _)
 ·subst h;rw[<- ea,<- eb]
 ·have:=List.pairwise_iff_getElem.mp up j i hj hi h
  rw[ea,eb,e]at this;exact absurd this (ltK.irr _)
theorem GetR.det{es:List Dt}{k:V}(up:UpR ltK es){a b:Option (List Dt)}(h:GetR es k a)(h':GetR es k b):a=b:=by
 cases a with
 | none=>cases b with
  | none=>rfl
  | some c=>exact absurd rfl (h _ h')
 | some c=>cases b with
  | none=>exact absurd rfl (h' _ h)
  | some c' =>
   have:=up_key up h h' rfl
   injection this with this
   injection this with _ this
   injection this with this
   injection this with this
   rw[this]
theorem GetR.ex(es:List Dt)(k:V)(h:∀ d∈es,RowD d):∃ o,GetR es k o:=by
 by_cases e:∃ d∈es,keyD d=k
 ·obtain⟨d,hd,ed⟩:=e
  obtain⟨k',c,rfl,_⟩:=h d hd
  have:k'=k:=ed
  subst this
  exact⟨some c,hd⟩
 ·exact⟨none,fun d hd z=>e ⟨d,hd,z⟩⟩
theorem Found.get{H:Hp}{es:List Dt}{k cv:V}(h:Found H es k cv):∃ o,GetR es k o/\TD H 5 (oD o) cv:=by
 rcases h with ⟨c,hc,tc⟩ | ⟨hn,rfl⟩
 ·exact⟨some c,hc,tc⟩
 ·exact⟨none,hn,.ofV rfl⟩
def ChgR(k:V)(n:Option (List Dt))(es es':List Dt):Prop:=match n with
 | none=>DelR k es es'
 | some c=>PutR ltK k (.t [.v k,.t c]) es es'
def ChD(ob:Nat->Addr)(H:Hp)(a:Addr)(k:V)(o n:Option (List Dt)):Prop:=∃ ov nv,ChAt ob H a k ov nv/\TD H 5 (oD o) ov/\TD H 5 (oD n) nv
theorem ChD.same{ob:Nat->Addr}{H H':Hp}{a:Addr}{k:V}{o n:Option (List Dt)}(h:ChD ob H a k o n)(s:Same H H'):ChD ob H' a k o n:=by
 obtain⟨ov,nv,h1,h2,h3⟩:=h
 exact⟨ov,nv,h1.same s,h2.same s,h3.same s⟩
theorem chF_no{k o n:V}{d1 d2:Addr}{c:Int}:stF d1 d2 c≠chF k o n:=fun hf=>by
 have:=congrArg (List.lookup ("key":Str)) hf
 have e1:(stF d1 d2 c).lookup ("key":Str)=none:=rfl
 have e2:(chF k o n).lookup ("key":Str)=some k:=rfl
 rw[e1,e2]at this
 cases this
theorem ChD.x{P:Program}{w:World}{ob:Nat->Addr}{H H':Hp}{p d1 d2 a:Addr}{st:StL}{c:Int}{k:V}{o n:Option (List Dt)}(h:ChD ob H a k o n)(hS:StAt P w ob H p d1 d2 st c)(s:SameX [p,d1,d2] H H'):ChD ob H' a k o n:=by
 obtain⟨ov,nv,⟨dx,h1⟩,h2,h3⟩:=h
 have t:=sameT_st hS s
 refine⟨ov,nv,⟨dx,s _ _ (fun z=>?_) h1⟩,TD.sameT t 5 h2,TD.sameT t 5 h3⟩
 obtain⟨dx',ho⟩:=hS.obj
 simp only[List.mem_cons,List.not_mem_nil,or_false]at z
 rcases z with z | z | z
 ·rw[z,ho]at h1
  injection h1 with h1
  injection h1 with _ _ hf
  exact chF_no hf
 ·rw[z,hS.num]at h1;cases h1
 ·rw[z,hS.tol]at h1;cases h1
theorem Rows.put{es es':List Dt}{k:V}{n:Option (List Dt)}(h:Rows es)(hk:keyV k)(hc:ChgR k n es es'):(∀ d∈es',RowD d)/\UpR ltK es'/\es'.length<=es.length+1:=by
 cases n with
 | none =>
  have hc:DelR k es es':=hc
  refine⟨fun d hd=>h.row d ((hc.mem h.up ltK.irr d).mp hd).1,hc.up h.up,?_⟩
  have:=hc.sub.length_le
  simp at this;omega
 | some c =>
  have hc:PutR ltK k (.t [.v k,.t c]) es es':=hc
  refine⟨fun d hd=>?_,hc.up h.up rfl ltK.tr,PutR.len hc⟩
  rcases(hc.mem ltK.irr d).mp hd with z | z
  ·rw[z];exact⟨k,c,rfl,hk⟩
  ·exact h.row d z.1
def sp_Change_onto(P:Program)(w:World)(cs ob:Nat->Addr):Sp:=fun vs H Q E=>∃ a k o n p d1 d2 st c v es,vs=[.ref a,.ref p,v]/\ChD ob H a k o n/\keyV k/\(o=none->n≠none)/\StAt P w ob H p d1 d2 st c/\TreeOf st es v/\Rows es/\es.length<=700/\st.length+16 * (es.length+2)<=1000000 /\
 (GetR es k o->∀ H' st' c' v' es',SameX [p,d1,d2] H H'->StAt P w ob H' p d1 d2 st' c'->(∀ x∈tblOf st,x∈tblOf st')->st'.length<=st.length+16 * (es.length+2)->ChgR k n es es'->TreeOf st' es' v'->Q v' H') /\
 (¬ GetR es k o->∀ H' d,Same H H'->H' d=none->E (.ref (cs 3)) (some d) (upd H' d (xD d [("key",k)])))
seal PE PT PW PA PS PSs PI PG PIfs PGs PO in
theorem ok_Change_onto{CT:Addr}{cs:Nat->Addr}{ob:Nat->Addr}{f:Addr}{fd:FuncData}(Z:Zs mg)(T:Tx K mg CT cs ob)(G_put:Cal1 P w K mg base 15 "put" ["pages","root","key","cells"] (sp_put P w cs ob))(G_take:Cal1 P w K mg base 24 "take" ["pages","root","key"] (sp_take P w cs ob))(G_seek:Cal P w K mg base 6 "seek" ["pages","root","key"] (sp_seek P w cs ob))(K_Unfit:MkX P w K mg base 1 "Unfit" (cs 3) CT ["key"])(F:Fun K "onto" "Change.onto" s_Change_onto f fd):FnOk P w K mg base (CX1 P w) 25 f fd ["self","pages","root"] (sp_Change_onto P w cs ob):=by
 refine F.ok1 sc_Change_onto (fun vs H Q E h=>?_) (fun cdv A outer s H vs Q E hr h=>?_)
 ·obtain⟨a,k,o,n,p,d1,d2,st,c,v,es,rfl,_⟩:=h;rfl
 obtain⟨a,k,o,n,p,d1,d2,st,c,v,es,rfl,hC,hk,hon,hS,hT,hR,l7,few,q1,q2⟩:=h
 refine⟨_,(@pss_cons _ _ _ _ _ (ps_if (pt_cmpR (op_neD (hr.units)) (pe_ix ix_tup (pe_cal G_seek (k:=24) hr (by decide) rfl (pa_c (pv 1) (pa_c (pv 2) (pa_c (pe_fld (pv 0) rfl) pa_nil)))) pe_int (fun _ _=>rfl)) (pe_fld (pv 0) rfl) (nomark _)) (pss_one (ps_raiseX throws0 rfl rfl rfl K_Unfit (k:=24) hr (by decide) (pa_c (pe_fld (pv 0) rfl) pa_nil))) pss_nil)
  (@pss_cons _ _ _ _ _ (ps_if (pt_cmpR op_isN (pe_fld (pv 0) rfl) pe_non (nomark _)) (pss_one (ps_ret (PE1.pe (pe1_cal G_take (k:=24) hr (by decide) rfl rfl (pa_c (pv 1) (pa_c (pv 2) (pa_c (pe_fld (pv 0) rfl) pa_nil)))) throws0))) pss_nil)
  (pss_one (ps_ret (PE1.pe (pe1_cal G_put (k:=24) hr (by decide) rfl rfl (pa_c (pv 1) (pa_c (pv 2) (pa_c (pe_fld (pv 0) rfl) (pa_c (pe_fld (pv 0) rfl) pa_nil))))) throws0))))),?_⟩
 refine rd_start (σ:=[some (.ref a),some (.ref p),some v]) rfl ?_
 walk_at "rd"
 obtain⟨ov,nv,⟨dx,ha⟩,to,tn⟩:=id hC
 have cc:=T.ob_ _ (ciOf_lt ov nv)
 refine rd_fld cc (by decide) rfl ha rfl ?_
 refine⟨p,d1,d2,st,c,v,k,es,rfl,hS,hT,hR,hk,fun r y H1 cv ws s1 hr1 g1 gy hy hf _=>⟨r,rfl,_,SqT.of g1,_,at0 _ _,?_⟩⟩
 have ha1:=s1 _ _ ha
 have hS1:=hS.same s1
 obtain⟨o',ho',tc⟩:=Found.get hf
 refine rd_fld cc (by decide) rfl ha1 rfl ?_
 refine rD_tdN (n:=5) (by decide) tc (to.same s1) ⟨_,rfl,?_⟩
 by_cases e:oD o'=oD o
 ·have eo:=oD_inj e
  subst eo
  rw[if_neg (by simp)]
  refine rd_fld cc (by decide) rfl ha1 rfl (ite2 (fun hn=>?_) fun hn=>?_)
  ·have en:n=none:=by
    cases n with
    | none=>rfl
    | some c' =>
     obtain⟨_,_,_,_,e1,_⟩:=TD.tup tn
     rw[e1]at hn;cases hn
   subst en
   have hso:∃ c',o'=some c':=by
    cases o' with
    | none=>exact absurd rfl (hon rfl)
    | some c'=>exact⟨c',rfl⟩
   obtain⟨c',rfl⟩:=hso
   refine rd_fld cc (by decide) rfl ha1 rfl ⟨p,d1,d2,st,c,v,k,es,rfl,hS1,hT,hR,l7,hk,by omega,fun _ H' st' c' v' es' sx hS' sub l' hd ht=>q1 ho' H' st' c' v' es' ((s1.x _).trans sx) hS' sub (by omega) hd ht,fun hno=>absurd rfl (hno _ ho')⟩
  ·obtain⟨c',rfl⟩:∃ c',n=some c':=by
    cases n with
    | none =>
     obtain⟨_,e1⟩:=TD.flat tn
     exact absurd e1 hn
    | some c'=>exact⟨c',rfl⟩
   refine rd_fld cc (by decide) rfl ha1 rfl (rd_fld cc (by decide) rfl ha1 rfl ⟨p,d1,d2,st,c,v,k,_,c',es,rfl,hS1,hT,hR,l7,hk,tn.same s1,few,fun H' st' c' v' es' sx hS' sub l' hd ht=>q1 ho' H' st' c' v' es' ((s1.x _).trans sx) hS' sub l' hd ht⟩)
 ·rw[if_pos (by simp[e])]
  refine rd_fld cc (by decide) rfl ha1 rfl ⟨rfl,show 1<=1000 by decide,fun d hd=>q2 (fun z=>e ?_) H1 d s1 hd⟩
  rw[GetR.det hR.up ho' z]
inductive Moves:List (V×Option (List Dt)×Option (List Dt))->List Dt->List Dt->Prop
 | nil {es:List Dt}:Moves [] es es
 | cons {k:V} {o n:Option (List Dt)} {r:List (V×Option (List Dt)×Option (List Dt))} {es es1 es':List Dt} (g:GetR es k o) (c:ChgR k n es es1) (m:Moves r es1 es'):Moves ((k,o,n)::r) es es'
theorem Moves.snoc{l:List (V×Option (List Dt)×Option (List Dt))}{k:V}{o n:Option (List Dt)}{es es1 es':List Dt}(h:Moves l es es1)(g:GetR es1 k o)(c:ChgR k n es1 es'):Moves (l++[(k,o,n)]) es es':=by
 induction h with
 | nil=>exact .cons g c .nil
 | cons g' c' _ ih=>exact .cons g' c' (ih g c)
theorem ChgR.det{k:V}{n:Option (List Dt)}{es a b:List Dt}(h:Rows es)(x:ChgR k n es a)(y:ChgR k n es b):a=b:=by
 cases n with
 | none =>
  have x:DelR k es a:=x
  have y:DelR k es b:=y
  exact UpR.ext ltK.irr ltK.tr (x.up h.up) (y.up h.up) fun d=>by rw[x.mem h.up ltK.irr,y.mem h.up ltK.irr]
 | some c =>
  have x:PutR ltK k (.t [.v k,.t c]) es a:=x
  have y:PutR ltK k (.t [.v k,.t c]) es b:=y
  exact UpR.ext ltK.irr ltK.tr (x.up h.up rfl ltK.tr) (y.up h.up rfl ltK.tr) fun d=>by rw[x.mem ltK.irr,y.mem ltK.irr]
def Wrong(chs:List (V×Option (List Dt)×Option (List Dt)))(es:List Dt)(k:V):Prop:=∃ pre o n post es1,chs=pre++(k,o,n)::post/\Moves pre es es1/\¬ GetR es1 k o
def ChsAt(ob:Nat->Addr)(H:Hp)(chs:List (V×Option (List Dt)×Option (List Dt)))(as:List Addr):Prop:=Paired (fun c a=>ChD ob H a c.1 c.2.1 c.2.2) chs as
def ChOk(c:V×Option (List Dt)×Option (List Dt)):Prop:=keyV c.1/\(c.2.1=none->c.2.2≠none)
def sp_moved(P:Program)(w:World)(cs ob:Nat->Addr):Sp:=fun vs H Q E=>∃ p d1 d2 st c v es l as chs,vs=[.ref p,v,.ref l]/\H l=some (.lst (as.map V.ref))/\ChsAt ob H chs as/\(∀ x∈chs,ChOk x)/\StAt P w ob H p d1 d2 st c/\TreeOf st es v/\Rows es/\es.length+chs.length<=600/\st.length+chs.length * (16 * (es.length+chs.length+2))<=1000000 /\
 (∀ H' st' c' v' es',Moves chs es es'->SameX [p,d1,d2] H H'->StAt P w ob H' p d1 d2 st' c'->(∀ x∈tblOf st,x∈tblOf st')->st'.length<=st.length+chs.length * (16 * (es.length+chs.length+2))->TreeOf st' es' v'->Q v' H') /\
 (∀ k,Wrong chs es k->∀ H' st' c' d,SameX [p,d1,d2] H H'->StAt P w ob H' p d1 d2 st' c'->(∀ x∈tblOf st,x∈tblOf st')->st'.length<=st.length+chs.length * (16 * (es.length+chs.length+2))->H' d=none->E (.ref (cs 3)) (some d) (upd H' d (xD d [("key",k)])))
seal PE PT PW PA PS PSs PI PG PIfs PGs PO in
theorem ok_moved{CT:Addr}{cs:Nat->Addr}{ob:Nat->Addr}{f:Addr}{fd:FuncData}(Z:Zs mg)(T:Tx K mg CT cs ob)(M_Change_onto:MeV P w K mg base 25 (ob 4) "onto" (sp_Change_onto P w cs ob))(M_PutIn_onto:MeV P w K mg base 25 (ob 5) "onto" (sp_Change_onto P w cs ob))(M_TakenOut_onto:MeV P w K mg base 25 (ob 6) "onto" (sp_Change_onto P w cs ob))(M_Turned_onto:MeV P w K mg base 25 (ob 7) "onto" (sp_Change_onto P w cs ob))(F:Fun K "moved" "moved" s_moved f fd):FnOk P w K mg base (CX1 P w) 26 f fd ["pages","root","changes"] (sp_moved P w cs ob):=by
 refine F.ok1 sc_moved (fun vs H Q E h=>?_) (fun cdv A outer s H vs Q E hr h=>?_)
 ·obtain⟨p,d1,d2,st,c,v,es,l,as,chs,rfl,_⟩:=h;rfl
 obtain⟨p,d1,d2,st,c,v,es,l,as,chs,rfl,hl,hC,hok,hS,hT,hR,lel,few,q1,q2⟩:=h
 refine⟨_,(@pss_cons _ _ _ _ _ (ps_for own1 rfl (pi_list (pv 2)) (pg_name (i:=3) sc_moved.nd rfl (Or.inl rfl)) (pss_one (ps_set (i:=1) sc_moved.nd rfl (Or.inl rfl) (PE1.pe (pe1_methV (k:=25) (pv 3) hr rfl (pa_c (pv 0) (pa_c (pv 1) pa_nil))) throws0))))
  (pss_one (ps_ret (pv 1)))),?_⟩
 refine rd_start (σ:=[some (.ref p),some v,some (.ref l),none]) rfl ?_
 walk_at "rd"
 have lc:=Paired.length hC
 generalize eB:16 * (es.length+chs.length+2)=B at few q1 q2
 refine⟨⟨_,SqL.of hl⟩,foR_list (as.map V.ref) (fun i σ' H'=>∃ v' es' st' c' x3,σ'=[some (.ref p),some v',some (.ref l),x3]/\Moves (chs.take i) es es'/\SameX [p,d1,d2] H H'/\StAt P w ob H' p d1 d2 st' c'/\(∀ x∈tblOf st,x∈tblOf st')/\st'.length<=st.length+i * B/\TreeOf st' es' v'/\(∀ d∈es',RowD d)/\UpR ltK es'/\es'.length<=es.length+i) ⟨v,es,st,c,_,rfl,.nil,SameX.refl _ _,hS,fun x h=>h,by omega,hT,hR.row,hR.up,by omega⟩ ?_ ?_ ?_⟩
 ·rintro i σ' H' _ ⟨v',es',st',c',x3,rfl,_,sx,_⟩
  exact SqL.of (hS.lst sx hl)
 ·rintro i x σ' H' hx ⟨v',es',st',c',x3,rfl,mv,sx,hS',sub,l',hT',r',u',le'⟩
  rw[List.getElem?_map,Option.map_eq_some_iff]at hx
  obtain⟨a,ha,rfl⟩:=hx
  have hi:=(List.getElem?_eq_some_iff.mp ha).1
  have hch:chs[i]?=some (chs[i]'(by omega)):=List.getElem?_eq_getElem _
  obtain⟨⟨k,o,n⟩,ech⟩:∃ x,chs[i]'(by omega)=x:=⟨_,rfl⟩
  rw[ech]at hch
  have hD:ChD ob H' a k o n:=(paired_get hC hch ha).x hS sx
  obtain⟨hk,hon⟩:=hok _ (List.mem_of_getElem? hch)
  obtain⟨ov,nv,⟨dx,hao⟩,to,tn⟩:=id hD
  have Mo:MeV P w K mg base 25 (ob (ciOf ov nv)) "onto" (sp_Change_onto P w cs ob):=by
   rcases ci_cases ov nv with ⟨e,_⟩ | ⟨e,_⟩ | ⟨e,_⟩ <;> rw[e] <;> assumption
  have bi:i * B<=chs.length * B:=Nat.mul_le_mul_right _ (by omega)
  have bi1:(i+1) * B=i * B+B:=Nat.succ_mul _ _
  have bi2:(i+1) * B<=chs.length * B:=Nat.mul_le_mul_right _ (by omega)
  have tk:chs.take (i+1)=chs.take i++[(k,o,n)]:=by rw[List.take_add_one,hch];rfl
  walk_at "rd"
  refine rd_methV rfl hao rfl (T.ob_ _ (ciOf_lt ov nv)).cl (Mo.mono (by decide)) ⟨_,rfl,_,rfl,a,k,o,n,p,d1,d2,st',c',v',es',rfl,hD,hk,hon,hS',hT',⟨r',u',by omega⟩,by omega,by omega,fun hg H2 st2 c2 v2 es2 sx2 hS2 sub2 l2 hc ht2=>?_,fun hg H2 d s2 hd=>?_⟩
  ·obtain⟨r2,u2,l2'⟩:=Rows.put ⟨r',u',by omega⟩ hk hc
   exact⟨v2,es2,st2,c2,_,⟨rfl,rfl⟩,by rw[tk];exact mv.snoc hg hc,sx.trans sx2,hS2,fun x hx=>sub2 x (sub x hx),by omega,ht2,r2,u2,by omega⟩
  ·refine q2 k ⟨chs.take i,o,n,chs.drop (i+1),es',?_,mv,hg⟩ H2 st' c' d (sx.trans (s2.x _)) (hS'.same s2) sub (by omega) hd
   have:=List.take_append_drop (i+1) chs
   rw[tk,List.append_assoc]at this
   exact this.symm
 ·rintro σ' H' ⟨v',es',st',c',x3,rfl,mv,sx,hS',sub,l',hT',_⟩
  rw[List.length_map,<- lc]at mv l'
  rw[List.take_length]at mv
  walk_at "rd"
  exact q1 H' st' c' v' es' mv sx hS' sub l' hT'
def sp__law_cell(K:PySem.W.Frag):Sp:=fun vs H Q _=>∃ (a:Addr) (ns:List Int) (k:Nat),vs=[.ref a,.int k]/\SqL K H a (ns.map V.int)/\∀ c,Q (.int c) H
seal PE PT PW PA PS PSs PI PG PIfs PGs PO in
theorem ok__law_cell{CT:Addr}{cs:Nat->Addr}{ob:Nat->Addr}{f:Addr}{fd:FuncData}(Z:Zs mg)(T:Tx K mg CT cs ob)(F:Fun K "_law_cell" "_law_cell" s__law_cell f fd):FnOk P w K mg base CX0 1 f fd ["_law_script","_law_k"] (sp__law_cell K):=by
 refine F.ok sc__law_cell (fun vs H Q E h=>?_) (fun cdv A outer s H vs Q E hr h=>?_)
 ·obtain⟨a,ns,k,rfl,_⟩:=h;rfl
 obtain⟨a,ns,k,rfl,hS,q⟩:=h
 refine⟨_,(@pss_cons _ _ _ _ _ (ps_if (pt_cmpR op_lt (pv 1) (pe_callB call_len_seq rfl (Z.len) bo_len (pa_c (pv 0) pa_nil)) (nomark _)) (pss_one (ps_ret (pe_ix ix_list (pv 0) (pv 1) (fun _ _=>rfl)))) pss_nil)
  (pss_one (ps_ret pe_int))),?_⟩
 refine rd_start (σ:=[some (.ref a),some (.int k)]) rfl ?_
 walk_at "rd"
 refine⟨_,.inl hS,ite2 (fun h=>?_) fun _=>q 0⟩
 rw[List.length_map]at h
 have hk:k < ns.length:=by omega
 exact⟨_,hS,.int ns[k],atI_nat (j:=k) (by simp[hk]),q _⟩
def sp__law_key(_:PySem.W.Frag):Sp:=fun vs H Q _=>∃ c:Int,vs=[.int c]/\∀ k,keyV k->Q k H
seal PE PT PW PA PS PSs PI PG PIfs PGs PO in
theorem ok__law_key{CT:Addr}{cs:Nat->Addr}{ob:Nat->Addr}{f:Addr}{fd:FuncData}(Z:Zs mg)(T:Tx K mg CT cs ob)(F:Fun K "_law_key" "_law_key" s__law_key f fd):FnOk P w K mg base CX0 1 f fd ["_law_cell_here"] (sp__law_key K):=by
 refine F.ok sc__law_key (fun vs H Q E h=>?_) (fun cdv A outer s H vs Q E hr h=>?_)
 ·obtain⟨c,rfl,_⟩:=h;rfl
 obtain⟨c,rfl,q⟩:=h
 refine⟨_,(@pss_cons _ _ _ _ _ (ps_set (i:=1) sc__law_key.nd rfl (Or.inl rfl) (pe_op op_mod (pe_op op_fdiv (pv 0) pe_int) (pe_op op_pow pe_int pe_int)))
  (@pss_cons _ _ _ _ _ (ps_if (pt_cmpR op_lt (pe_op op_mod (pv 0) pe_int) pe_int (nomark _)) (pss_one (ps_ret (pe_op op_add (pv 1) (pe_op op_mod (pv 0) pe_int)))) pss_nil)
  (pss_one (ps_ret (pe_op op_add_str pe_str (pe_op op_repN pe_str (pe_op op_sub (pe_op op_mod (pv 0) pe_int) pe_int))))))),?_⟩
 refine rd_start (σ:=[some (.int c),none]) rfl ?_
 walk_at "rd"
 refine⟨by unfold CDiv;decide,by unfold CPow;decide,by decide,ite2 (fun h=>q _ (show _/\_ by omega)) fun h=>?_⟩
 refine⟨_,_,rfl,rfl,by omega,by omega,by decide,fun r hr=>⟨r,rfl,?_⟩⟩
 have e1:(Str.ofString "key").length=3:=rfl
 have e2:(Str.ofString "n").cps.toList.length=1:=by decide
 have lr:r.length<=5:=by
  have:=congrArg List.length hr
  rw[List.length_flatten]at this
  rw[List.map_replicate,e2,List.sum_replicate_nat]at this
  show r.cps.size<=5
  rw[<- Array.length_toList,this]
  omega
 exact⟨small_le (by omega),q _ (show(Str.ofString "key"++r).length<=40 by rw[Str.length_append];omega)⟩
def sp__law_cells(_:PySem.W.Frag):Sp:=fun vs H Q _=>∃ c:Int,vs=[.int c]/\∀ a ds H',Same H H'->TD H' 4 (.t ds) (.ref a)->Q (.ref a) H'
seal PE PT PW PA PS PSs PI PG PIfs PGs PO in
theorem ok__law_cells{CT:Addr}{cs:Nat->Addr}{ob:Nat->Addr}{f:Addr}{fd:FuncData}(Z:Zs mg)(T:Tx K mg CT cs ob)(F:Fun K "_law_cells" "_law_cells" s__law_cells f fd):FnOk P w K mg base CX0 1 f fd ["_law_cell_here"] (sp__law_cells K):=by
 refine F.ok sc__law_cells (fun vs H Q E h=>?_) (fun cdv A outer s H vs Q E hr h=>?_)
 ·obtain⟨c,rfl,_⟩:=h;rfl
 obtain⟨c,rfl,q⟩:=h
 refine⟨_,(pss_one (ps_ret (pe_ix ix_list (pe_lst (pa_c (pe_tup pa_nil) (pa_c (pe_tup (pa_c (pe_tup (pa_c pe_str (pa_c (pe_op op_mod (pe_op op_fdiv (pv 0) pe_int) pe_int) pa_nil))) pa_nil)) (pa_c (pe_tup (pa_c (pe_tup (pa_c pe_str (pa_c pe_str pa_nil))) pa_nil)) (pa_c (pe_tup (pa_c (pe_tup (pa_c pe_str (pa_c pe_int pa_nil))) (pa_c (pe_tup (pa_c pe_str (pa_c (pe_op op_mod (pe_op op_fdiv (pv 0) pe_int) pe_int) pa_nil))) pa_nil))) (pa_c (pe_tup (pa_c (pe_tup (pa_c pe_str (pa_c pe_str pa_nil))) pa_nil)) pa_nil)))))) (pe_op op_mod (pv 0) pe_int) (fun _ _=>rfl)))),?_⟩
 refine rd_start (σ:=[some (.int c)]) rfl ?_
 walk_at "rd"
 have str2:∀ (H:Hp) (b:Addr) (x y:V),hV x=true->hV y=true->H b=some (.tup [x,y])->TD H 3 (.t [.v x,.v y]) (.ref b):=fun H b x y h1 h2 hb=>TD.pair hb (.ofV h1) (.ofV h2)
 refine⟨by decide,fun p hp=>⟨by unfold CDiv;decide,two_ok,?_⟩⟩
 have s0:=same_upd hp (.tup [])
 have g0:upd H p (.tup []) p=some (.tup []):=upd_same
 generalize upd H p (.tup [])=H0 at s0 g0 ⊢
 intro p1 hp1
 have s1:=same_upd hp1 (.tup [.str (Str.ofString "a"),.int (c / 5 % 7)])
 have g1:upd H0 p1 (.tup [.str (Str.ofString "a"),.int (c / 5 % 7)]) p1=_:=upd_same
 generalize upd H0 p1 (.tup [.str (Str.ofString "a"),.int (c / 5 % 7)])=H1 at s1 g1 ⊢
 refine⟨one_sz _,fun p2 hp2=>⟨two_ok,?_⟩⟩
 have s2:=same_upd hp2 (.tup [.ref p1])
 have g2:upd H1 p2 (.tup [.ref p1]) p2=_:=upd_same
 generalize upd H1 p2 (.tup [.ref p1])=H2 at s2 g2 ⊢
 intro p3 hp3
 have s3:=same_upd hp3 (.tup [.str (Str.ofString "a"),.str (Str.ofString "x")])
 have g3:upd H2 p3 (.tup [.str (Str.ofString "a"),.str (Str.ofString "x")]) p3=_:=upd_same
 generalize upd H2 p3 (.tup [.str (Str.ofString "a"),.str (Str.ofString "x")])=H3 at s3 g3 ⊢
 refine⟨one_sz _,fun p4 hp4=>⟨two_ok,?_⟩⟩
 have s4:=same_upd hp4 (.tup [.ref p3])
 have g4:upd H3 p4 (.tup [.ref p3]) p4=_:=upd_same
 generalize upd H3 p4 (.tup [.ref p3])=H4 at s4 g4 ⊢
 intro p5 hp5
 have s5:=same_upd hp5 (.tup [.str (Str.ofString "a"),.int 1])
 have g5:upd H4 p5 (.tup [.str (Str.ofString "a"),.int 1]) p5=_:=upd_same
 generalize upd H4 p5 (.tup [.str (Str.ofString "a"),.int 1])=H5 at s5 g5 ⊢
 refine⟨by unfold CDiv;decide,two_ok,fun p6 hp6=>⟨two_ok,?_⟩⟩
 have s6:=same_upd hp6 (.tup [.str (Str.ofString "b"),.int (c / 5 % 3)])
 have g6:upd H5 p6 (.tup [.str (Str.ofString "b"),.int (c / 5 % 3)]) p6=_:=upd_same
 generalize upd H5 p6 (.tup [.str (Str.ofString "b"),.int (c / 5 % 3)])=H6 at s6 g6 ⊢
 intro p7 hp7
 have s7:=same_upd hp7 (.tup [.ref p5,.ref p6])
 have g7:upd H6 p7 (.tup [.ref p5,.ref p6]) p7=_:=upd_same
 generalize upd H6 p7 (.tup [.ref p5,.ref p6])=H7 at s7 g7 ⊢
 refine⟨two_ok,fun p8 hp8=>⟨one_sz _,?_⟩⟩
 have s8:=same_upd hp8 (.tup [.str (Str.ofString "b"),.str (Str.ofString "yy")])
 have g8:upd H7 p8 (.tup [.str (Str.ofString "b"),.str (Str.ofString "yy")]) p8=_:=upd_same
 generalize upd H7 p8 (.tup [.str (Str.ofString "b"),.str (Str.ofString "yy")])=H8 at s8 g8 ⊢
 intro p9 hp9
 have s9:=same_upd hp9 (.tup [.ref p8])
 have g9:upd H8 p9 (.tup [.ref p8]) p9=_:=upd_same
 generalize upd H8 p9 (.tup [.ref p8])=H9 at s9 g9 ⊢
 refine⟨show 5<=sizeLine by decide,fun pl hpl=>⟨_,SqL.of upd_same,?_⟩⟩
 have sl:=same_upd hpl (.lst [.ref p,.ref p2,.ref p4,.ref p7,.ref p9])
 generalize upd H9 pl (.lst [.ref p,.ref p2,.ref p4,.ref p7,.ref p9])=HL at sl ⊢
 have s9L:=s9.trans sl
 have s8L:=s8.trans s9L
 have s7L:=s7.trans s8L
 have s6L:=s6.trans s7L
 have s5L:=s5.trans s6L
 have s4L:=s4.trans s5L
 have s3L:=s3.trans s4L
 have s2L:=s2.trans s3L
 have s1L:=s1.trans s2L
 have all:=s0.trans s1L
 have h0:=Int.emod_nonneg c (show(5:Int)≠0 by decide)
 have h1:=Int.emod_lt_of_pos c (show(0:Int) < 5 by decide)
 obtain⟨j,hj⟩:∃ j:Nat,c % 5=(j:Int):=⟨(c % 5).toNat,by omega⟩
 rw[hj]
 have hj5:j < 5:=by omega
 match j,hj5 with
 | 0,_=>exact⟨_,atI_nat (j:=0) rfl,q p [] HL all (TD.ofT (s1L _ _ g0) .nil)⟩
 | 1,_=>exact⟨_,atI_nat (j:=1) rfl,q p2 _ HL all (TD.ofT (s3L _ _ g2) (.cons (str2 _ _ _ _ rfl rfl (s2L _ _ g1)) .nil))⟩
 | 2,_=>exact⟨_,atI_nat (j:=2) rfl,q p4 _ HL all (TD.ofT (s5L _ _ g4) (.cons (str2 _ _ _ _ rfl rfl (s4L _ _ g3)) .nil))⟩
 | 3,_=>exact⟨_,atI_nat (j:=3) rfl,q p7 _ HL all (TD.ofT (s8L _ _ g7) (.cons (str2 _ _ _ _ rfl rfl (s6L _ _ g5)) (.cons (str2 _ _ _ _ rfl rfl (s7L _ _ g6)) .nil)))⟩
 | 4,_=>exact⟨_,atI_nat (j:=4) rfl,q p9 _ HL all (TD.ofT (sl _ _ g9) (.cons (str2 _ _ _ _ rfl rfl (s9L _ _ g8)) .nil))⟩
theorem key_of{v:V}(h:keyV v):∃ k:Key,v=kV k:=by
 cases v with
 | int n=>exact⟨.inl n,rfl⟩
 | str z=>exact⟨.inr z,rfl⟩
 | _=>exact h.elim
theorem key_plain{v:V}(h:keyV v):Pl.plainV v:=by
 cases v with
 | int n=>exact h
 | str z=>exact h
 | _=>exact h.elim
theorem putK_mem{kvs:List (Key×V)}{k:Key}{v:V}{p:Key×V}(h:p∈putK kvs k v):p=(k,v)\/p∈kvs:=by
 unfold putK at h
 split at h
 ·obtain⟨q,hq,e⟩:=List.mem_map.mp h
  split at e
  ·rename_i ek
   subst e
   exact .inl (by rw[ek])
  ·subst e
   exact .inr hq
 ·rcases List.mem_append.mp h with h | h
  ·exact .inr h
  ·exact .inl (by simpa using h)
theorem putK_nodup{kvs:List (Key×V)}{k:Key}{v:V}(h:(kvs.map Prod.fst).Nodup):((putK kvs k v).map Prod.fst).Nodup:=by
 unfold putK
 split
 ·rw[List.map_map]
  have e:kvs.map (Prod.fst ∘ fun q=>if q.1=k then (q.1,v) else q)=kvs.map Prod.fst:=List.map_congr_left fun q _=>by
   show(if q.1=k then (q.1,v) else q).1=q.1
   split <;> rfl
  rw[e];exact h
 ·rename_i hn
  rw[List.map_append,List.nodup_append]
  refine⟨h,by simp,fun a ha b hb=>?_⟩
  have hb:b=k:=by simpa using hb
  subst hb
  intro z
  subst z
  obtain⟨q,hq,e⟩:=List.mem_map.mp ha
  exact hn (List.any_eq_true.mpr ⟨q,hq,decide_eq_true e⟩)
theorem kV_inj{a b:Key}(h:kV a=kV b):a=b:=by
 cases a <;> cases b <;> cases h <;> rfl
def isIntV:V->Bool | .int _=>true | _=>false
def isStrV:V->Bool | .str _=>true | _=>false
theorem parts_perm{l:List V}(h:∀ v∈l,keyV v):(l.filter isIntV++l.filter isStrV).Perm l:=by
 have e:l.filter isStrV=l.filter (fun v=>!isIntV v):=List.filter_congr fun v hv=>by
  have:=h v hv
  cases v <;> first | rfl | exact this.elim
 rw[e]
 exact List.filter_append_perm _ _
theorem kit_int_int{K:PySem.W.Frag}:PySem.W.kitOne K (.type "int") (.type "int")=some true:=by rfl
theorem kit_str_int{K:PySem.W.Frag}:PySem.W.kitOne K (.type "str") (.type "int")=some false:=by rfl
theorem isInt_key{K:PySem.W.Frag}{H:Hp}{k:Key}{Q:VK}(q:Q (.bl (isIntV (kV k))) H):rIsI K [kV k,.ty "int"] H Q:=by
 cases k with
 | inl n=>exact isI_of (.int n) kit_int_int q
 | inr z=>exact isI_of (.str z) kit_str_int q
theorem isStr_key{K:PySem.W.Frag}{H:Hp}{k:Key}{Q:VK}(q:Q (.bl (isStrV (kV k))) H):rIsI K [kV k,.ty "str"] H Q:=by
 cases k with
 | inl n=>exact isI_of (.int n) kit_int_str q
 | inr z=>exact isI_of (.str z) kit_str_str q
theorem same_thaw2{H1 H2:Hp}{d:Addr}{x y:HO}(n:H1 d=some y)(s2:Same (upd H1 d x) H2):Same H1 (upd H2 d y):=fun b o hb=>by
 by_cases z:b=d
 ·subst z;rw[n]at hb;rw[upd_same,hb]
 ·rw[upd_ne z];exact s2 b o (by rw[upd_ne z];exact hb)
theorem up_of{ys:List V}(hk:∀ v∈ys,keyV v)(ho:(∀ v∈ys,∃ n,v=.int n)\/∀ v∈ys,∃ z,v=.str z)(nd:ys.Nodup)(h:ys.Pairwise fun a b=>ltP b a=false):ys.Pairwise fun a b=>Pl.ltV a b=true:=by
 refine List.Pairwise.imp_of_mem (fun {a b} ha hb hab=>?_) (h.and nd)
 obtain⟨h1,h2⟩:=hab
 have e:Pl.ltV b a=false:=by
  rcases ho with ho | ho
  ·obtain⟨x,rfl⟩:=ho a ha
   obtain⟨y,rfl⟩:=ho b hb
   rw[Pl.lt_ii];exact h1
  ·obtain⟨x,rfl⟩:=ho a ha
   obtain⟨y,rfl⟩:=ho b hb
   rw[Pl.lt_ss];exact h1
 cases e2:Pl.ltV a b with
 | true=>rfl
 | false=>exact(h2 (Pl.tri (key_plain (hk a ha)) (key_plain (hk b hb)) e2 e)).elim
structure RowsAt(H:Hp)(kvs:List (Key×V))(ks xs:List V):Prop where
 len:xs.length=ks.length
 at_:∀ (i:Nat) x,xs[i]?=some x->∃ a k v,x=.ref a/\ks[i]?=some (kV k)/\H a=some (.tup [kV k,v])/\(k,v)∈kvs
 up:ks.Pairwise fun a b=>Pl.ltV a b=true
 perm:ks.Perm (kvs.map fun p=>kV p.1)
theorem valV_mem{kvs:List (Key×V)}{k:Key}{w':V}(h:(k,w')∈kvs):∃ w,valV kvs k=some w/\(k,w)∈kvs:=by
 unfold valV
 cases e:kvs.find? fun kv=>decide (kv.1=k) with
 | none =>
  have:=List.find?_eq_none.mp e _ h
  simp at this
 | some p =>
  have h1:=List.find?_some e
  have h2:=List.mem_of_find?_eq_some e
  have h1:p.1=k:=by simpa using h1
  exact⟨p.2,rfl,by rw[<- h1];exact h2⟩
def sp__law_risen(K:PySem.W.Frag):Sp:=fun vs H Q _=>∃ d kvs,vs=[.ref d]/\H d=some (.dK kvs)/\kvs.length<=60/\(∀ p∈kvs,keyV (kV p.1))/\(kvs.map Prod.fst).Nodup/\∀ r H' xs ks,Same H H'->H r=none->H' r=some (.lst xs)->RowsAt H' kvs ks xs->Q (.ref r) H'
seal PE PT PW PA PS PSs PI PG PIfs PGs PO in
theorem ok__law_risen{CT:Addr}{cs:Nat->Addr}{ob:Nat->Addr}{f:Addr}{fd:FuncData}(Z:Zs mg)(T:Tx K mg CT cs ob)(F:Fun K "_law_risen" "_law_risen" s__law_risen f fd):FnOk P w K mg base CX0 1 f fd ["_law_known"] (sp__law_risen K):=by
 refine F.ok sc__law_risen (fun vs H Q E h=>?_) (fun cdv A outer s H vs Q E hr h=>?_)
 ·obtain⟨d,kvs,rfl,_⟩:=h;rfl
 obtain⟨d,kvs,rfl,g1,l1,k1,nd1,q⟩:=h
 refine⟨_,(@pss_cons _ _ _ _ _ (ps_set (i:=1) sc__law_risen.nd rfl (Or.inl rfl) (pe_callB call_sorted1S rfl (Z.sorted) bo_sorted (pa_c (pe_thaw (pe_lcomp ["_law_known","_law_numbers","_law_texts"] rfl (blkOk (N:=["_law_known","_law_numbers","_law_texts"]) (dsc:=defScope s__law_risen) rfl rfl (by decide +kernel)) (pi_dict (pv 0)) (fun _ _ _ _ _=>(pif_one (pt_val (pe_callB (r:=rIsI K) call_isinst rfl (Z.isinstance) bo_isinstance (pa_c (pv 0) (pa_c (pe_bltn rfl (Z.int) bo_int (v:=.ty "int") rfl) pa_nil))) (fun _=>rfl)))) (fun _ _ _ _ _=>(pv 0)))) pa_nil)))
  (@pss_cons _ _ _ _ _ (ps_set (i:=2) sc__law_risen.nd rfl (Or.inl rfl) (pe_callB call_sorted1S rfl (Z.sorted) bo_sorted (pa_c (pe_thaw (pe_lcomp ["_law_known","_law_numbers","_law_texts"] rfl (blkOk (N:=["_law_known","_law_numbers","_law_texts"]) (dsc:=defScope s__law_risen) rfl rfl (by decide +kernel)) (pi_dict (pv 0)) (fun _ _ _ _ _=>(pif_one (pt_val (pe_callB (r:=rIsI K) call_isinst rfl (Z.isinstance) bo_isinstance (pa_c (pv 0) (pa_c (pe_bltn rfl (Z.str) bo_str (v:=.ty "str") rfl) pa_nil))) (fun _=>rfl)))) (fun _ _ _ _ _=>(pv 0)))) pa_nil)))
  (pss_one (ps_ret (pe_lcomp ["_law_known","_law_numbers","_law_texts"] rfl (blkOk (N:=["_law_known","_law_numbers","_law_texts"]) (dsc:=defScope s__law_risen) rfl rfl (by decide +kernel)) (pi_list (pe_op op_cat (pv 1) (pv 2))) (fun _ _ _ _ _=>pif_nil) (fun _ _ _ _ _=>(pe_tup (pa_c (pv 0) (pa_c (pe_dget hr.u1 (pv 1) (pv 0) (fun _ _=>rfl)) pa_nil))))))))),?_⟩
 refine rd_start (σ:=[some (.ref d),none,none]) rfl ?_
 walk_at "rd"
 have kl:∀ v∈kvs.map fun q=>kV q.1,keyV v:=fun v hv=>by
  obtain⟨r,hr,rfl⟩:=List.mem_map.mp hv
  exact k1 r hr
 have ndl:(kvs.map fun q=>kV q.1).Nodup:=by
  have:=List.Pairwise.map (S:=(·≠·)) kV (fun a b h e=>h (kV_inj e)) nd1
  rw[List.map_map]at this
  exact this
 refine⟨kvs,g1,fun ob nf=>lcR_keys isIntV (small_le (by omega)) upd_same (fun k v H3 R hm s3 hR=>?_) fun D H2 hD s2 hy=>?_⟩
 ·walk_at "rd"
  exact isInt_key ⟨_,rfl,hR _ (Same.refl _)⟩
 have dD:D≠d:=fun z=>by rw[z,upd_same]at hD;cases hD
 have lf:∀ p:V->Bool,((kvs.map fun q=>kV q.1).filter p).length<=60:=fun p=>Nat.le_trans (List.length_filter_le _ _) (by rw[List.length_map];omega)
 have kf:∀ p:V->Bool,∀ v∈(kvs.map fun q=>kV q.1).filter p,keyV v/\p v=true:=fun p v hv=>by
  obtain⟨h1,h2⟩:=List.mem_filter.mp hv
  exact⟨kl v h1,h2⟩
 have i1:∀ v∈(kvs.map fun q=>kV q.1).filter isIntV,∃ n,v=.int n:=fun v hv=>by
  have:=(kf _ v hv).2
  cases v <;> first | exact⟨_,rfl⟩ | cases this
 have i2:∀ v∈(kvs.map fun q=>kV q.1).filter isStrV,∃ n,v=.str n:=fun v hv=>by
  have:=(kf _ v hv).2
  cases v <;> first | exact⟨_,rfl⟩ | cases this
 have t2:Same H (upd H2 d (.dK kvs)):=same_thaw2 g1 s2
 refine⟨d,nf,ob,kvs,s2 _ _ upd_same,D,_,ltP,rfl,SqL.of (by rw[upd_ne dD];exact hy),by have:=lf isIntV;omega,one_ints i1,fun D2 H3 ys s3 hD2 hy2 pm so=>?_⟩
 have g3:H3 d=some (.dK kvs):=s3 _ _ upd_same
 have dD2:D2≠d:=fun z=>by rw[z,g3]at hy2;cases hy2
 refine⟨kvs,g3,fun ob2 nf2=>lcR_keys isStrV (small_le (by omega)) upd_same (fun k v H3 R hm s3 hR=>?_) fun E1 H4 hE s4 hy4=>?_⟩
 ·walk_at "rd"
  exact isStr_key ⟨_,rfl,hR _ (Same.refl _)⟩
 have dE:E1≠d:=fun z=>by rw[z,upd_same]at hE;cases hE
 have t4:Same H (upd H4 d (.dK kvs)):=(t2.trans s3).trans (same_thaw2 g3 s4)
 refine⟨d,nf2,ob2,kvs,s4 _ _ upd_same,E1,_,ltP,rfl,SqL.of (by rw[upd_ne dE];exact hy4),by have:=lf isStrV;omega,one_strs i2,fun D3 H5 zs s5 hD3 hy5 pm2 so2=>?_⟩
 have l2:ys.length<=kvs.length:=by rw[pm.length_eq];exact Nat.le_trans (List.length_filter_le _ _) (by rw[List.length_map];exact Nat.le_refl _)
 have l3:zs.length<=kvs.length:=by rw[pm2.length_eq];exact Nat.le_trans (List.length_filter_le _ _) (by rw[List.length_map];exact Nat.le_refl _)
 have g5:H5 d=some (.dK kvs):=s5 _ _ upd_same
 have t5:=t4.trans s5
 refine⟨D2,rfl,D3,rfl,ys,s5 _ _ (by rw[upd_ne dD2];exact s4 _ _ (by rw[upd_ne dD2];exact hy2)),zs,hy5,small_le (by omega),fun p hp=>?_⟩
 have ks_perm:(ys++zs).Perm (kvs.map fun p=>kV p.1):=(pm.append pm2).trans (parts_perm kl)
 have up:(ys++zs).Pairwise fun a b=>Pl.ltV a b=true:=by
  rw[List.pairwise_append]
  refine⟨up_of (fun v hv=>(kf _ v (pm.mem_iff.mp hv)).1) (.inl fun v hv=>i1 v (pm.mem_iff.mp hv)) (pm.nodup_iff.mpr (ndl.filter _)) so,up_of (fun v hv=>(kf _ v (pm2.mem_iff.mp hv)).1) (.inr fun v hv=>i2 v (pm2.mem_iff.mp hv)) (pm2.nodup_iff.mpr (ndl.filter _)) so2,fun a ha b hb=>?_⟩
  obtain⟨x,rfl⟩:=i1 a (pm.mem_iff.mp ha)
  obtain⟨y,rfl⟩:=i2 b (pm2.mem_iff.mp hb)
  exact Pl.lt_is _ _
 have lk:(ys++zs).length<=60:=by rw[ks_perm.length_eq,List.length_map];exact l1
 generalize ys++zs=ks at ks_perm up lk ⊢
 have s6:Same H5 (upd H5 p (.lst ks)):=same_upd hp _
 have g6:upd H5 p (.lst ks) p=some (.lst ks):=upd_same
 have np:H p=none:=by
  cases e:H p with
  | none=>rfl
  | some o=>rw[t5 _ _ e]at hp;cases hp
 generalize upd H5 p (.lst ks)=H6 at s6 g6 ⊢
 refine⟨⟨_,SqL.of g6⟩,lcR_listT ks (fun H' i v=>∃ a k w,v=.ref a/\ks[i]?=some (kV k)/\H' a=some (.tup [kV k,w])/\(k,w)∈kvs) (fun H H' i v st ⟨a,k,w,e1,e2,e3,e4⟩=>⟨a,k,w,e1,e2,st _ _ e3,e4⟩) (SqL.of g6) (small_le (by omega)) (fun i x H7 R hx s7 hR=>?_) fun r H7 xs hr0 s7 hr7 le pe=>?_⟩
 ·obtain⟨⟨k,w'⟩,hm,ek⟩:=List.mem_map.mp (ks_perm.mem_iff.mp (List.mem_of_getElem? hx))
  obtain⟨w,hw,hmw⟩:=valV_mem hm
  subst ek
  walk_at "rd"
  exact⟨w,hw ▸ DGet.k (k:=k) ((s6.trans s7) _ _ g5),two_ok,fun q1 hq1=>hR _ _ ⟨q1,k,w,rfl,hx,upd_same,hmw⟩ (same_upd hq1 _)⟩
 ·refine q r H7 xs ks (t5.trans (s6.trans s7)) ?_ hr7 ⟨le,pe,up,ks_perm⟩
  cases e:H r with
  | none=>rfl
  | some o=>rw[(t5.trans s6) _ _ e]at hr0;cases hr0
theorem sameT_dk{H:Hp}{d:Addr}{kvs:List (Key×V)}{o:HO}(h:H d=some (.dK kvs)):SameT H (upd H d o):=fun b xs hb=>by
 rw[upd_ne (ne_of hb h (by intro z;cases z))];exact hb
structure DkD(H:Hp)(kvs:List (Key×V))(es:List Dt):Prop where
 row:∀ d∈es,RowD d
 up:UpR ltK es
 nd:(kvs.map Prod.fst).Nodup
 to:∀ k w,(k,w)∈kvs->∃ c,TD H 4 (.t c) w/\Dt.t [.v (kV k),.t c]∈es
 of:∀ d∈es,∃ k w c,(k,w)∈kvs/\d=.t [.v (kV k),.t c]/\TD H 4 (.t c) w
theorem DkD.sameT{H H':Hp}{kvs:List (Key×V)}{es:List Dt}(h:DkD H kvs es)(s:SameT H H'):DkD H' kvs es :=
 ⟨h.row,h.up,h.nd,fun k w hm=>let ⟨c,t,m⟩:=h.to k w hm;⟨c,TD.sameT s 4 t,m⟩,fun d hd=>let ⟨k,w,c,a,b,t⟩:=h.of d hd;⟨k,w,c,a,b,TD.sameT s 4 t⟩⟩
theorem DkD.key{H:Hp}{kvs:List (Key×V)}{es:List Dt}(h:DkD H kvs es){k:Key}{w:V}(hm:(k,w)∈kvs):keyV (kV k):=by
 obtain⟨c,_,m⟩:=h.to k w hm
 exact(h.row _ m).ent.key
theorem mem_val{kvs:List (Key×V)}(nd:(kvs.map Prod.fst).Nodup){k:Key}{w:V}(h:(k,w)∈kvs):valV kvs k=some w:=by
 have:=find_key Prod.fst nd h
 unfold valV
 rw[this];rfl
theorem val_mem{kvs:List (Key×V)}{k:Key}{w:V}(h:valV kvs k=some w):(k,w)∈kvs:=by
 unfold valV at h
 rw[Option.map_eq_some_iff]at h
 obtain⟨⟨k',w'⟩,h1,h2⟩:=h
 have h3:=List.find?_some h1
 simp only[decide_eq_true_eq]at h3
 dsimp only at h2
 subst h2 h3
 exact List.mem_of_find?_eq_some h1
theorem DkD.get{H:Hp}{kvs:List (Key×V)}{es:List Dt}(h:DkD H kvs es)(k:Key):∃ o,GetR es (kV k) o/\TD H 4 (oD o) ((valV kvs k).getD .non):=by
 cases e:valV kvs k with
 | none =>
  refine⟨none,fun d hd z=>?_,.ofV rfl⟩
  obtain⟨k',w,c,hm,rfl,_⟩:=h.of d hd
  have:k'=k:=kV_inj z
  subst this
  rw[mem_val h.nd hm]at e
  cases e
 | some w =>
  obtain⟨c,t,m⟩:=h.to k w (val_mem e)
  exact⟨some c,m,t⟩
theorem DkD.uniq{H:Hp}{kvs:List (Key×V)}{es es':List Dt}(h:DkD H kvs es)(h':DkD H kvs es'):es=es':=by
 have go:∀ {a b:List Dt},DkD H kvs a->DkD H kvs b->∀ d∈a,d∈b:=fun {a b} ha hb d hd=>by
  obtain⟨k,w,c,hm,rfl,t⟩:=ha.of d hd
  obtain⟨c',t',m⟩:=hb.to k w hm
  have:=TD.det 4 t t'
  injection this with this
  rw[this];exact m
 exact UpR.ext ltK.irr ltK.tr h.up h'.up fun d=>⟨go h h' d,go h' h d⟩
theorem putR_ex{es:List Dt}{k:V}{row:Dt}(hrow:∀ d∈es,RowD d)(up:UpR ltK es)(hk:keyV k):∃ es',PutR ltK k row es es':=by
 induction es with
 | nil=>exact⟨[row],[],[],rfl,.inl rfl,(fun a h=>nomatch h),fun a h=>nomatch h⟩
 | cons x r ih =>
  have ur:=List.pairwise_cons.mp up
  rcases ltK.tri (hrow x (by simp)).ent.key hk with z | z | z
  ·obtain⟨es',A,C,e,e2,h1,h2⟩:=ih (fun d hd=>hrow d (List.mem_cons_of_mem _ hd)) ur.2
   refine⟨x::es',x::A,C,by rw[e];rfl,?_,fun a ha=>?_,h2⟩
   ·rcases e2 with e2 | ⟨o,e2,ho⟩
    ·exact .inl (by rw[e2];rfl)
    ·exact .inr ⟨o,by rw[e2];rfl,ho⟩
   ·rcases List.mem_cons.mp ha with y | y
    ·rw[y];exact z
    ·exact h1 a y
  ·exact⟨row::r,[],r,rfl,.inr ⟨x,rfl,z⟩,(fun a h=>nomatch h),fun c hc=>by rw[<- z];exact ur.1 c hc⟩
  ·refine⟨row::x::r,[],x::r,rfl,.inl rfl,(fun a h=>nomatch h),fun c hc=>?_⟩
   rcases List.mem_cons.mp hc with y | y
   ·rw[y];exact z
   ·exact ltK.tr z (ur.1 c y)
theorem DkD.put{H:Hp}{kvs:List (Key×V)}{es es':List Dt}{k:Key}{w:V}{c:List Dt}(h:DkD H kvs es)(hk:keyV (kV k))(t:TD H 4 (.t c) w)(p:PutR ltK (kV k) (.t [.v (kV k),.t c]) es es'):DkD H (putK kvs k w) es':=by
 have mem:∀ k' w',(k',w')∈putK kvs k w↔(k'=k/\w'=w)\/(k'≠k/\(k',w')∈kvs):=fun k' w'=>by
  unfold putK
  by_cases e:(kvs.any fun x=>decide (x.1=k))=true
  ·rw[if_pos e,List.mem_map]
   constructor
   ·rintro⟨⟨k2,w2⟩,hm,e2⟩
    dsimp only at e2
    split at e2
    ·rename_i z;injection e2 with a b;exact .inl ⟨by rw[<- a];exact z,b.symm⟩
    ·rename_i z;injection e2 with a b;subst a b;exact .inr ⟨z,hm⟩
   ·rintro(⟨rfl,rfl⟩ | ⟨hne,hm⟩)
    ·obtain⟨⟨k2,w2⟩,hm2,e2⟩:=List.any_eq_true.mp e
     have e2:k2=k':=by simpa using e2
     exact⟨(k2,w2),hm2,by dsimp only;rw[if_pos e2,e2]⟩
    ·exact⟨(k',w'),hm,by dsimp only;rw[if_neg hne]⟩
  ·rw[if_neg e,List.mem_append,List.mem_singleton]
   constructor
   ·rintro(hm | e2)
    ·refine .inr ⟨fun z=>e ?_,hm⟩
     exact List.any_eq_true.mpr ⟨(k',w'),hm,by simpa using z⟩
    ·injection e2 with a b;exact .inl ⟨a,b⟩
   ·rintro(⟨rfl,rfl⟩ | ⟨_,hm⟩)
    ·exact .inr rfl
    ·exact .inl hm
 refine⟨fun d hd=>?_,p.up h.up rfl ltK.tr,putK_nodup h.nd,fun k' w' hm=>?_,fun d hd=>?_⟩
 ·rcases(p.mem ltK.irr d).mp hd with z | z
  ·rw[z];exact⟨_,c,rfl,hk⟩
  ·exact h.row d z.1
 ·rcases(mem k' w').mp hm with ⟨rfl,rfl⟩ | ⟨hne,hm⟩
  ·exact⟨c,t,(p.mem ltK.irr _).mpr (.inl rfl)⟩
  ·obtain⟨c',t',m'⟩:=h.to k' w' hm
   exact⟨c',t',(p.mem ltK.irr _).mpr (.inr ⟨m',fun z=>hne (kV_inj z)⟩)⟩
 ·rcases(p.mem ltK.irr d).mp hd with z | ⟨z,hne⟩
  ·exact⟨k,w,c,(mem k w).mpr (.inl ⟨rfl,rfl⟩),z,t⟩
  ·obtain⟨k',w',c',hm,rfl,t'⟩:=h.of d z
   exact⟨k',w',c',(mem k' w').mpr (.inr ⟨fun y=>hne (by rw[y];rfl),hm⟩),rfl,t'⟩
theorem DkD.drop{H:Hp}{kvs:List (Key×V)}{es es':List Dt}{k:Key}(h:DkD H kvs es)(p:DelR (kV k) es es'):DkD H (dropK kvs k) es':=by
 have mem:∀ x,x∈dropK kvs k↔x∈kvs/\x.1≠k:=fun x=>by
  unfold dropK
  rw[List.mem_filter]
  simp
 refine⟨fun d hd=>h.row d ((p.mem h.up ltK.irr d).mp hd).1,p.up h.up,?_,fun k' w' hm=>?_,fun d hd=>?_⟩
 ·unfold dropK
  exact(List.filter_sublist.map _).nodup h.nd
 ·obtain⟨h1,h2⟩:=(mem _).mp hm
  obtain⟨c',t',m'⟩:=h.to k' w' h1
  exact⟨c',t',(p.mem h.up ltK.irr _).mpr ⟨m',fun z=>h2 (kV_inj z)⟩⟩
 ·obtain⟨h1,hne⟩:=(p.mem h.up ltK.irr d).mp hd
  obtain⟨k',w',c',hm,rfl,t'⟩:=h.of d h1
  exact⟨k',w',c',(mem _).mpr ⟨hm,fun y=>hne (by rw[<- y];rfl)⟩,rfl,t'⟩
theorem RowsAt.dk{H:Hp}{kvs:List (Key×V)}{ks xs:List V}(h:RowsAt H kvs ks xs)(nd:(kvs.map Prod.fst).Nodup)(hk:∀ p∈kvs,keyV (kV p.1))(hc:∀ p∈kvs,∃ c,TD H 4 (.t c) p.2):∃ es,DkD H kvs es/\Paired (fun d v=>TD H 6 d v) es xs:=by
 obtain⟨es,re,pd⟩:=TDs.of (H:=H) (n:=6) (Pd:=fun d=>∃ k w c,(k,w)∈kvs/\d=Dt.t [.v (kV k),.t c]/\TD H 4 (.t c) w) (xs:=xs) fun x hx=>by
  obtain⟨i,hi⟩:=List.mem_iff_getElem?.mp hx
  obtain⟨a,k,w,rfl,_,ha,hm⟩:=h.at_ i x hi
  obtain⟨c,t⟩:=hc _ hm
  exact⟨_,TD.mono 5 (by decide) (TD.pair ha (.ofV (key_h (hk _ hm))) t),k,w,c,hm,rfl,t⟩
 have le:=Paired.length re
 have keyAt:∀ (i:Nat) d,es[i]?=some d->ks[i]?=some (keyD d):=fun i d hd=>by
  have hi:=(List.getElem?_eq_some_iff.mp hd).1
  have hx:xs[i]?=some (xs[i]'(by omega)):=List.getElem?_eq_getElem _
  obtain⟨a,k,w,ex,hks,ha,hm⟩:=h.at_ i _ hx
  have tx:=paired_get re hd hx
  obtain⟨k',w',c,_,rfl,_⟩:=pd d (List.mem_of_getElem? hd)
  obtain⟨a',u1,u2,ea,ha',x1,_⟩:=TD.pair_of (n:=5) tx
  rw[ex]at ea
  cases ea
  rw[ha]at ha'
  cases ha'
  obtain⟨_,e⟩:=x1.flat
  rw[hks,e];rfl
 refine⟨es,⟨fun d hd=>?_,?_,nd,fun k w hm=>?_,pd⟩,re⟩
 ·obtain⟨k,w,c,hm,rfl,_⟩:=pd d hd
  exact⟨kV k,c,rfl,hk _ hm⟩
 ·refine List.pairwise_iff_getElem.mpr fun i j hi hj hij=>?_
  obtain⟨li,e1⟩:=List.getElem?_eq_some_iff.mp (keyAt i _ (List.getElem?_eq_getElem hi))
  obtain⟨lj,e2⟩:=List.getElem?_eq_some_iff.mp (keyAt j _ (List.getElem?_eq_getElem hj))
  have:=List.pairwise_iff_getElem.mp h.up i j li lj hij
  rw[e1,e2]at this
  have kk:∀ d∈es,keyV (keyD d):=fun d hd=>by obtain⟨k,w,c,hm,rfl,_⟩:=pd d hd;exact hk _ hm
  exact⟨kk _ (List.getElem_mem hi),kk _ (List.getElem_mem hj),this⟩
 ·have:kV k∈ks:=h.perm.mem_iff.mpr (List.mem_map.mpr ⟨(k,w),hm,rfl⟩)
  obtain⟨i,hi,e⟩:=List.mem_iff_getElem.mp this
  have lx:=h.len
  have hd:es[i]?=some (es[i]'(by omega)):=List.getElem?_eq_getElem _
  have hk':=keyAt i _ hd
  rw[List.getElem?_eq_getElem hi,e]at hk'
  obtain⟨k',w',c,hm',ed,t⟩:=pd _ (List.mem_of_getElem? hd)
  rw[ed]at hk'
  injection hk' with hk'
  have ek:k=k':=kV_inj hk'
  subst ek
  have ew:w=w':=by have a:=mem_val nd hm;rw[mem_val nd hm']at a;injection a with a;exact a.symm
  subst ew
  exact⟨c,t,by rw[<- ed];exact List.mem_of_getElem? hd⟩
def sp__law_change(K:PySem.W.Frag)(ob:Nat->Addr):Sp:=fun vs H Q _=>∃ d kvs,∃ k:Key,∃ c:Int,vs=[.ref d,kV k,.int c]/\H d=some (.dK kvs)/\(∀ p∈kvs,∃ cc,TD H 4 (.t cc) p.2) /\
 ∀ r a ov nv o n H',Same H H'->H' r=some (.tup [.ref a,kV k,ov,nv])->ChAt ob H' a (kV k) ov nv->TD H' 4 (oD o) ov->TD H' 4 (oD n) nv->(o=none->n≠none)->Q (.ref r) H'
seal PE PT PW PA PS PSs PI PG PIfs PGs PO in
theorem ok__law_change{CT:Addr}{cs:Nat->Addr}{ob:Nat->Addr}{f:Addr}{fd:FuncData}(Z:Zs mg)(T:Tx K mg CT cs ob)(G__law_cells:Cal P w K mg base 1 "_law_cells" ["_law_cell_here"] (sp__law_cells K))(K_Turned:MkV P w K mg base 1 "Turned" (ob 7) (sp_Turned_init K ob))(K_PutIn:MkV P w K mg base 2 "PutIn" (ob 5) (sp_PutIn_init K ob))(K_TakenOut:MkV P w K mg base 2 "TakenOut" (ob 6) (sp_TakenOut_init K ob))(F:Fun K "_law_change" "_law_change" s__law_change f fd):FnOk P w K mg base CX0 4 f fd ["_law_known","_law_key_here","_law_cell_here"] (sp__law_change K ob):=by
 refine F.ok sc__law_change (fun vs H Q E h=>?_) (fun cdv A outer s H vs Q E hr h=>?_)
 ·obtain⟨d,kvs,k,c,rfl,_⟩:=h;rfl
 obtain⟨d,kvs,k,c,rfl,hd,hc,q⟩:=h
 refine⟨_,(@pss_cons _ _ _ _ _ (ps_set (i:=3) sc__law_change.nd rfl (Or.inl rfl) (pe_cmpR op_gt (pe_op op_mod (pv 2) pe_int) pe_int (nomark _)))
  (@pss_cons _ _ _ _ _ (ps_set (i:=4) sc__law_change.nd rfl (Or.inl rfl) (pe_op op_mod (pe_op op_fdiv (pv 2) pe_int) pe_int))
  (@pss_cons _ _ _ _ _ (ps_set (i:=5) sc__law_change.nd rfl (Or.inl rfl) (pe_cal G__law_cells (k:=3) hr (by decide) rfl (pa_c (pe_op op_add (pe_op op_fdiv (pv 2) pe_int) pe_int) pa_nil)))
  (@pss_cons _ _ _ _ _ (ps_set (i:=6) sc__law_change.nd rfl (Or.inl rfl) (pe_cal G__law_cells (k:=3) hr (by decide) rfl (pa_c (pe_op op_fdiv (pv 2) pe_int) pa_nil)))
  (@pss_cons _ _ _ _ _ (ps_if (PW.pt (pw_and (pt_val (pv 3) (fun _=>rfl)) (pw_and1 (pt_cmp (pc_dnotin hr.u1 (pv 1) (pv 0)))))) (pss_one (ps_set (i:=4) sc__law_change.nd rfl (Or.inl rfl) pe_int)) pss_nil)
  (@pss_cons _ _ _ _ _ (ps_if (PW.pt (pw_and (pt_val (pv 3) (fun _=>rfl)) (pw_and1 (pt_cmp (pc_din hr.u1 (pv 1) (pv 0)))))) (@pss_cons _ _ _ _ _ (ps_set (i:=4) sc__law_change.nd rfl (Or.inl rfl) (pe_op op_add pe_int (pe_op op_mod (pe_op op_fdiv (pv 2) pe_int) pe_int)))
  (pss_one (ps_set (i:=5) sc__law_change.nd rfl (Or.inl rfl) (pe_dget hr.u1 (pv 0) (pv 1) (fun _ _=>rfl))))) pss_nil)
  (@pss_cons _ _ _ _ _ (ps_if (pt_cmpR op_eq (pv 4) pe_int (nomark _)) (pss_one (ps_ret (pe_tup (pa_c (pe_mk K_PutIn (k:=3) hr (by decide) rfl (pa_c (pv 1) (pa_c (pv 6) pa_nil))) (pa_c (pv 1) (pa_c pe_non (pa_c (pv 6) pa_nil))))))) pss_nil)
  (@pss_cons _ _ _ _ _ (ps_if (pt_cmpR op_eq (pv 4) pe_int (nomark _)) (pss_one (ps_ret (pe_tup (pa_c (pe_mk K_TakenOut (k:=3) hr (by decide) rfl (pa_c (pv 1) (pa_c (pv 5) pa_nil))) (pa_c (pv 1) (pa_c (pv 5) (pa_c pe_non pa_nil))))))) pss_nil)
  (pss_one (ps_ret (pe_tup (pa_c (pe_mk K_Turned (k:=3) hr (by decide) rfl (pa_c (pv 1) (pa_c (pv 5) (pa_c (pv 6) pa_nil)))) (pa_c (pv 1) (pa_c (pv 5) (pa_c (pv 6) pa_nil))))))))))))))),?_⟩
 refine rd_start (σ:=[some (.ref d),some (kV k),some (.int c),none,none,none,none]) rfl ?_
 refine rd_gen5 fun R hR=>?_
 have fin:∀ (fb:V) (kk:Int) (ov nv:V) (oc nc:List Dt) (H1:Hp),Same H H1->TD H1 4 (.t oc) ov->TD H1 4 (.t nc) nv->R [some (.ref d),some (kV k),some (.int c),some (.bl (decide (0 < c % 9))),some (.int kk),some ov,some nv] H1:=by
  intro fb kk ov nv oc nc H1 s1 to tn
  refine hR _ _ (rd_gen1 fun R2 hR2=>?_)
  clear hR
  have end_:∀ (kk:Int) (ov:V) (oc:List Dt),TD H1 4 (.t oc) ov->R2 [some (.ref d),some (kV k),some (.int c),some (.bl (decide (0 < c % 9))),some (.int kk),some ov,some nv] H1:=by
   intro kk ov oc to
   refine hR2 _ _ ?_
   clear hR2
   walk_at "rd"
   have nn:nv≠.non:=fun z=>by obtain⟨_,_,_,_,e,_⟩:=tn.tup;rw[e]at z;cases z
   have on:ov≠.non:=fun z=>by obtain⟨_,_,_,_,e,_⟩:=to.tup;rw[e]at z;cases z
   have td:∀ {x dx r:Addr} {o u o2:HO} {e:Dt} {v:V},H1 x=none->H1 dx=none->upd (upd H1 dx u) x o r=none->TD H1 4 e v->TD (upd (upd (upd H1 dx u) x o) r o2) 4 e v:=fun {x dx r o u o2 e v} hx hdx hr t=>(t.same (same_mk hx hdx (Same.refl _))).same (same_upd hr _)
   refine ite2 (fun _=>?_) fun _=>ite2 (fun _=>?_) fun _=>?_
   ·refine⟨_,rfl,_,rfl,fun x dx hx hdx hne=>⟨x,dx,kV k,nv,rfl,upd_same,rfl,show 4<=sizeLine by decide,fun r hr=>?_⟩⟩
    rw[upd_upd]at hr ⊢
    exact q r x .non nv none (some nc) _ (s1.trans ((same_mk hx hdx (Same.refl _)).trans (same_upd hr _))) upd_same ⟨dx,same_upd hr _ _ _ upd_same⟩ (.ofV rfl) (td hx hdx hr tn) (fun _ z=>nomatch z)
   ·refine⟨_,rfl,_,rfl,fun x dx hx hdx hne=>⟨x,dx,kV k,ov,rfl,upd_same,rfl,show 4<=sizeLine by decide,fun r hr=>?_⟩⟩
    rw[upd_upd]at hr ⊢
    exact q r x ov .non (some oc) none _ (s1.trans ((same_mk hx hdx (Same.refl _)).trans (same_upd hr _))) upd_same ⟨dx,by rw[ci2 on];exact same_upd hr _ _ _ upd_same⟩ (td hx hdx hr to) (.ofV rfl) (fun z=>nomatch z)
   ·refine⟨_,rfl,_,rfl,_,rfl,fun x dx hx hdx hne=>⟨x,dx,kV k,ov,nv,rfl,upd_same,rfl,show 4<=sizeLine by decide,fun r hr=>?_⟩⟩
    rw[upd_upd]at hr ⊢
    exact q r x ov nv (some oc) (some nc) _ (s1.trans ((same_mk hx hdx (Same.refl _)).trans (same_upd hr _))) upd_same ⟨dx,by rw[ci3 on nn];exact same_upd hr _ _ _ upd_same⟩ (td hx hdx hr to) (td hx hdx hr tn) (fun z=>nomatch z)
  clear hR2
  walk_at "rd"
  refine ite2 (fun _=>?_) fun _=>end_ kk ov oc to
  refine⟨_,DGet.k (k:=k) (s1 _ _ hd),ite2 (fun h=>?_) fun _=>end_ kk ov oc to⟩
  obtain⟨w,ew⟩:=Option.isSome_iff_exists.mp h
  obtain⟨cc,tc⟩:=hc _ (val_mem ew)
  exact⟨by unfold CDiv;decide,w,by rw[<- ew];exact DGet.k (k:=k) (s1 _ _ hd),end_ _ w cc (tc.same s1)⟩
 clear hR
 walk_at "rd"
 refine⟨by unfold CDiv;decide,by unfold CDiv;decide,_,rfl,fun a1 oc H1 s1 to=>⟨by unfold CDiv;decide,_,rfl,fun a2 nc H2 s2 tn=>?_⟩⟩
 have s12:=s1.trans s2
 refine ite2 (fun _=>⟨_,DGet.k (k:=k) (s12 _ _ hd),ite2 (fun _=>?_) fun _=>?_⟩) fun _=>?_
 ·exact fin .non _ _ _ oc nc H2 s12 (to.same s2) tn
 ·exact fin .non _ _ _ oc nc H2 s12 (to.same s2) tn
 ·exact fin .non _ _ _ oc nc H2 s12 (to.same s2) tn
theorem key_kV{k:V}(h:keyV k):∃ kk:Key,k=kV kk:=by
 cases k with
 | int n=>exact⟨.inl n,rfl⟩
 | str z=>exact⟨.inr z,rfl⟩
 | _=>exact h.elim
theorem cut_ints(ns:List Int):∃ ms:List Int,cutV (ns.map V.int) (some 2) (some 42)=ms.map V.int/\ms.length<=40:=by
 refine⟨_,by unfold cutV;rw[<- List.map_drop,<- List.map_take],?_⟩
 have e1:HT.sIx (ns.map V.int).length 0 (some 2)=min 2 (ns.map V.int).length:=HT.sIx_nat _ _ 2
 have e2:HT.sIx (ns.map V.int).length (ns.map V.int).length (some 42)=min 42 (ns.map V.int).length:=HT.sIx_nat _ _ 42
 rw[List.length_take,e1,e2]
 omega
theorem ChD.updO{ob:Nat->Addr}{H:Hp}{a p:Addr}{k:V}{o n:Option (List Dt)}{u v:HO}(h:ChD ob H a k o n)(hp:H p=some u)(h1:∀ C dx fs,u≠.ins C dx fs)(t:SameT H (upd H p v)):ChD ob (upd H p v) a k o n:=by
 obtain⟨ov,nv,⟨dx,ha⟩,to,tn⟩:=h
 refine⟨ov,nv,⟨dx,?_⟩,TD.sameT t 5 to,TD.sameT t 5 tn⟩
 rw[upd_ne fun z=>by rw[z,hp]at ha;injection ha with ha;exact h1 _ _ _ ha]
 exact ha
structure Dr(ob:Nat->Addr)(H H':Hp)(es:List Dt)(p ld:Addr)(i:Nat)(wv:V)(many:Nat)(as:List Addr)(chs:List (V×Option (List Dt)×Option (List Dt)))(kvs':List (Key×V))(es':List Dt):Prop where
 s:Same H H'
 at_:H' p=some (.lst (as.map V.ref))
 ch:ChsAt ob H' chs as
 ok:∀ x∈chs,ChOk x
 len:chs.length=i
 ld:H' ld=some (.dK kvs')
 dk:DkD H' kvs' es'
 l1:kvs'.length<=9+i
 l2:es'.length<=9+i
 m:many<=i
 mv:Moves (chs.take many) es es'
 w:(wv=.non/\many=i)\/(keyV wv/\∃ o n post,chs=chs.take many++(wv,o,n)::post/\¬ GetR es' wv o)
def sp__law_drawn(K:PySem.W.Frag)(ob:Nat->Addr):Sp:=fun vs H Q _=>∃ (a:Addr) (ns:List Int) (b:Int) (d:Addr),∃ kvs es,vs=[.ref a,.int b,.ref d]/\0<=b/\b < 10 ^ 9/\SqL K H a (ns.map V.int)/\ns.length<=63/\H d=some (.dK kvs)/\kvs.length<=9/\DkD H kvs es/\es.length<=9 /\
 ∀ r lc wv (many:Nat) ld as chs kvs' es' H',Same H H'->H' r=some (.tup [.ref lc,wv,.int many,.ref ld])->H' lc=some (.lst (as.map V.ref))->ChsAt ob H' chs as->(∀ x∈chs,ChOk x)->chs.length<=40->H' ld=some (.dK kvs')->DkD H' kvs' es'->kvs'.length<=49->es'.length<=49->many<=chs.length->Moves (chs.take many) es es' ->
  ((wv=.non/\many=chs.length)\/(keyV wv/\∃ o n post,chs=chs.take many++(wv,o,n)::post/\¬ GetR es' wv o))->Q (.ref r) H'
seal PE PT PW PA PS PSs PI PG PIfs PGs PO in
theorem ok__law_drawn{CT:Addr}{cs:Nat->Addr}{ob:Nat->Addr}{f:Addr}{fd:FuncData}(Z:Zs mg)(T:Tx K mg CT cs ob)(G__law_change:Cal P w K mg base 4 "_law_change" ["_law_known","_law_key_here","_law_cell_here"] (sp__law_change K ob))(G__law_key:Cal P w K mg base 1 "_law_key" ["_law_cell_here"] (sp__law_key K))(F:Fun K "_law_drawn" "_law_drawn" s__law_drawn f fd):FnOk P w K mg base CX0 5 f fd ["_law_script","_law_base","_law_known"] (sp__law_drawn K ob):=by
 refine F.ok sc__law_drawn (fun vs H Q E h=>?_) (fun cdv A outer s H vs Q E hr h=>?_)
 ·obtain⟨a,ns,b,d,kvs,es,rfl,_⟩:=h;rfl
 obtain⟨a,ns,b,d,kvs,es,rfl,hb0,hb9,hS,h63,hd,lk,hD,le,q⟩:=h
 refine⟨_,(@pss_cons _ _ _ _ _ (ps_set (i:=3) sc__law_drawn.nd rfl (Or.inl rfl) (pe_lst pa_nil))
  (@pss_cons _ _ _ _ _ (ps_set (i:=4) sc__law_drawn.nd rfl (Or.inl rfl) pe_non)
  (@pss_cons _ _ _ _ _ (ps_set (i:=5) sc__law_drawn.nd rfl (Or.inl rfl) pe_int)
  (@pss_cons _ _ _ _ _ (ps_set (i:=6) sc__law_drawn.nd rfl (Or.inl rfl) (pe_callTy call_dictD rfl (Z.dict) bo_dict (pa_c (pv 2) pa_nil)))
  (@pss_cons _ _ _ _ _ (ps_for PassesOwn.never rfl (pi_list (pe_slice sl_list (pv 0) (po_some pe_int) (po_some pe_int))) (pg_name (i:=7) sc__law_drawn.nd rfl (Or.inl rfl)) (@pss_cons _ _ _ _ _ (ps_asg (pe_cal G__law_change (k:=4) hr (by decide) rfl (pa_c (pv 6) (pa_c (pe_cal G__law_key (k:=4) hr (by decide) rfl (pa_c (pe_op op_add (pe_op op_mulB pe_int (pv 1)) (pe_op op_mod (pv 7) pe_int)) pa_nil)) (pa_c (pe_op op_fdiv (pv 7) pe_int) pa_nil)))) (pg_tup (n:=4) rfl (pgs_cons (pg_name (i:=8) sc__law_drawn.nd rfl (Or.inl rfl)) (pgs_cons (pg_name (i:=9) sc__law_drawn.nd rfl (Or.inl rfl)) (pgs_cons (pg_name (i:=10) sc__law_drawn.nd rfl (Or.inl rfl)) (pgs_cons (pg_name (i:=11) sc__law_drawn.nd rfl (Or.inl rfl)) pgs_nil))))))
  (@pss_cons _ _ _ _ _ (ps_expr (pe_bm PySem.F.plainAttrs_list PySem.F.slot_list_append PySem.F.type_list_append mt_append (pv 3) (pa_c (pv 8) pa_nil)))
  (@pss_cons _ _ _ _ _ (ps_if (PW.pt (pw_and (pt_cmpR op_isN (pv 4) pe_non (nomark _)) (pw_and1 (pt_cmpR (op_neD (hr.units)) (pe_dget1 hr.u1 (pv 6) (pv 9) ⟨rfl,rfl,rfl,rfl⟩) (pv 10) (nomark _))))) (pss_one (ps_set (i:=4) sc__law_drawn.nd rfl (Or.inl rfl) (pv 9))) pss_nil)
  (pss_one (ps_if (pt_cmpR op_isN (pv 4) pe_non (nomark _)) (@pss_cons _ _ _ _ _ (ps_set (i:=5) sc__law_drawn.nd rfl (Or.inl rfl) (pe_op op_add (pv 5) pe_int))
  (pss_one (ps_if (pt_cmpR op_isN (pv 11) pe_non (nomark _)) (pss_one (ps_expr (pe_dpop1 (pv 6) (pv 9) ⟨rfl,rfl,rfl,rfl⟩))) (pss_one (ps_dput hr.u1 (pv 6) (pv 9) (pv 11) rfl))))) pss_nil))))))
  (pss_one (ps_ret (pe_tup (pa_c (pv 3) (pa_c (pv 4) (pa_c (pv 5) (pa_c (pv 6) pa_nil)))))))))))),?_⟩
 refine rd_start (σ:=[some (.ref a),some (.int b),some (.ref d),none,none,none,none,none,none,none,none,none]) rfl ?_
 refine rd_gen5 fun R hR=>?_
 walk_at "rd"
 refine⟨by decide,fun p hp=>?_⟩
 have s1:=same_upd hp (.lst [])
 have g1:upd H p (.lst []) p=some (.lst []):=upd_same
 generalize upd H p (.lst [])=H1 at s1 g1 ⊢
 refine⟨d,kvs,rfl,s1 _ _ hd,by omega,fun ld hld=>?_⟩
 have s2:=same_upd hld (.dK kvs)
 have g2:upd H1 ld (.dK kvs) ld=some (.dK kvs):=upd_same
 generalize upd H1 ld (.dK kvs)=H2 at s2 g2 ⊢
 have s12:=s1.trans s2
 refine⟨_,s12.seq hS,fun p1 hp1=>?_⟩
 obtain⟨ms,ems,lms⟩:=cut_ints ns
 rw[ems]
 have s3:=same_upd hp1 (.lst (ms.map V.int))
 have g3:upd H2 p1 (.lst (ms.map V.int)) p1=some (.lst (ms.map V.int)):=upd_same
 generalize upd H2 p1 (.lst (ms.map V.int))=H3 at s3 g3 ⊢
 have s13:=s12.trans s3
 have np:ld≠p:=fun z=>by rw[z,g1]at hld;cases hld
 have n1p:p1≠p:=fun z=>by rw[z,s2 _ _ g1]at hp1;cases hp1
 have n1d:p1≠ld:=fun z=>by rw[z,g2]at hp1;cases hp1
 have fld:H ld=none:=none_of s1 hld
 refine⟨⟨_,SqL.of g3⟩,foR_list (ms.map V.int) (fun i σ' H'=>∃ wv many as chs kvs' es' x7 x8 x9 x10 x11,σ'=[some (.ref a),some (.int b),some (.ref d),some (.ref p),some wv,some (.int ((many:Nat):Int)),some (.ref ld),x7,x8,x9,x10,x11]/\H' p1=some (.lst (ms.map V.int))/\Dr ob H H' es p ld i wv many as chs kvs' es') ⟨.non,0,[],[],kvs,es,_,_,_,_,_,rfl,g3,s13,s3 _ _ (s2 _ _ g1),.nil,(fun x hx=>nomatch hx),rfl,s3 _ _ g2,hD.sameT s13.t,by omega,by omega,Nat.le_refl _,.nil,.inl ⟨rfl,rfl⟩⟩ (fun i σ' H' _ ⟨_,_,_,_,_,_,_,_,_,_,_,_,h,_⟩=>SqL.of h) ?_ ?_⟩
 ·rintro i x σ' H' hx ⟨wv,many,as,chs,kvs',es',x7,x8,x9,x10,x11,rfl,g4,dr⟩
  have hi:=(List.getElem?_eq_some_iff.mp hx).1
  rw[List.length_map]at hi
  rw[List.getElem?_map,Option.map_eq_some_iff]at hx
  obtain⟨m,hm,rfl⟩:=hx
  walk_at "rd"
  refine⟨by walk_at "side",_,rfl,fun k0 hk0=>?_⟩
  obtain⟨k,rfl⟩:=key_kV hk0
  refine⟨by unfold CDiv;decide,ld,kvs',k,_,rfl,dr.ld,fun x hx=>let ⟨c,t,_⟩:=dr.dk.to x.1 x.2 hx;⟨c,t⟩,fun r ca ov nv o n H5 s5 hr5 hch to tn hon=>?_⟩
  have lm:=dr.len
  have lma:=Paired.length dr.ch
  have l1:=dr.l1
  have l2:=dr.l2
  have lmm:=dr.m
  refine⟨r,rfl,_,SqT.of hr5,rfl,_,_,rfl,_,_,rfl,_,_,rfl,_,_,rfl,rfl,.inl ⟨rfl,_,SqL.of (s5 _ _ dr.at_)⟩,_,s5 _ _ dr.at_,small1000 (by rw[List.length_map];omega),?_⟩
  have p5:=s5 _ _ dr.at_
  have t56:SameT H5 (upd H5 p (.lst (as.map V.ref++[.ref ca]))):=sameT_lst p5
  have ss6:Same H (upd H5 p (.lst (as.map V.ref++[.ref ca]))):=same_updN (dr.s.trans s5) hp
  have p6:upd H5 p (.lst (as.map V.ref++[.ref ca])) p=some (.lst ((as++[ca]).map V.ref)):=by rw[upd_same,List.map_append];rfl
  have ld6:upd H5 p (.lst (as.map V.ref++[.ref ca])) ld=some (.dK kvs'):=by rw[upd_ne np];exact s5 _ _ dr.ld
  have p16:upd H5 p (.lst (as.map V.ref++[.ref ca])) p1=some (.lst (ms.map V.int)):=by rw[upd_ne n1p];exact s5 _ _ g4
  have up4:∀ {c:Option (List Dt)} {v:V},TD H5 4 (oD c) v->TD H5 5 (oD c) v:=fun t=>TD.mono 4 (by decide) t
  have ch6:ChsAt ob (upd H5 p (.lst (as.map V.ref++[.ref ca]))) (chs++[(kV k,o,n)]) (as++[ca]):=Paired.snoc (Paired.mapP dr.ch fun _ _ z=>(z.same s5).updO p5 (by intros;intro z;cases z) t56) (ChD.updO ⟨ov,nv,hch,up4 to,up4 tn⟩ p5 (by intros;intro z;cases z) t56)
  have dk6:=dr.dk.sameT (s5.t.trans t56)
  have to6:=TD.sameT t56 4 to
  have tn6:=TD.sameT t56 4 tn
  generalize upd H5 p (.lst (as.map V.ref++[.ref ca]))=H6 at t56 ss6 p6 ld6 p16 ch6 dk6 to6 tn6 ⊢
  have ok6:∀ x∈chs++[(kV k,o,n)],ChOk x:=fun x hx=>by
   rcases List.mem_append.mp hx with z | z
   ·exact dr.ok x z
   ·rw[List.mem_singleton.mp z];exact⟨hk0,hon⟩
  have knn:kV k≠.non:=fun z=>by rw[z]at hk0;exact hk0
  have tk:∀ j,j<=i->(chs++[(kV k,o,n)]).take j=chs.take j:=fun j hj=>List.take_append_of_le_length (by omega)
  rcases dr.w with ⟨hw,hmi⟩ | ⟨hkw,o',n',post,ech,hng⟩
  ·subst hw
   rw[if_pos rfl]
   obtain⟨og,hg,tg⟩:=dk6.get k
   refine⟨.inl ⟨_,Rd.of ld6⟩,_,DGet.k (k:=k) ld6,rD_tdN (n:=4) (by decide) tg to6 ⟨_,rfl,?_⟩⟩
   by_cases e:oD og=oD o
   ·have eo:=oD_inj e
    subst eo
    rw[if_neg (by simp),if_pos rfl]
    have mv1:∀ {es2:List Dt},ChgR (kV k) n es' es2->Moves ((chs++[(kV k,og,n)]).take (many+1)) es es2:=fun hc=>by
     rw[List.take_of_length_le (by rw[List.length_append,List.length_singleton];omega)]
     have:=dr.mv
     rw[List.take_of_length_le (by omega)]at this
     exact this.snoc hg hc
    refine ite2 (fun hn=>?_) fun hn=>?_
    ·have en:n=none:=by
      cases n with
      | none=>rfl
      | some c'=>obtain⟨_,_,_,_,e1,_⟩:=TD.tup tn;rw[e1]at hn;cases hn
     subst en
     obtain⟨c',rfl⟩:∃ c',og=some c':=by
      cases og with
      | none=>exact absurd rfl (hon rfl)
      | some c'=>exact⟨c',rfl⟩
     obtain⟨A,C,eAC⟩:=List.append_of_mem (show Dt.t [.v (kV k),.t c']∈es' from hg)
     have del:DelR (kV k) es' (A++C):=⟨A,_,C,eAC,rfl,rfl⟩
     obtain⟨w0,ew⟩:∃ w0,valV kvs' k=some w0:=by
      cases ev:valV kvs' k with
      | none =>
       rw[ev]at tg
       obtain⟨_,_,_,_,e1,_⟩:=TD.tup tg
       cases e1
      | some w0=>exact⟨w0,rfl⟩
     have t67:SameT H6 (upd H6 ld (.dK (dropK kvs' k))):=sameT_dk ld6
     refine⟨.inl ⟨_,Rd.of ld6⟩,kvs',ld6,k,rfl,w0,ew,.non,many+1,as++[ca],chs++[(kV k,some c',none)],dropK kvs' k,A++C,_,_,_,_,_,⟨rfl,by omega,rfl,rfl,rfl,rfl,rfl⟩,by rw[upd_ne n1d];exact p16,⟨same_updN ss6 fld,by rw[upd_ne (Ne.symm np)];exact p6,Paired.mapP ch6 fun _ _ z=>z.updO ld6 (by intros;intro z;cases z) t67,ok6,by simp;omega,upd_same,(dk6.drop del).sameT t67,?_,?_,by omega,mv1 del,.inl ⟨rfl,by omega⟩⟩⟩
     ·have:(dropK kvs' k).length<=kvs'.length:=List.length_filter_le _ _
      omega
     ·have:es'.length=A.length+(C.length+1):=by rw[eAC];simp
      rw[List.length_append];omega
    ·obtain⟨c',rfl⟩:∃ c',n=some c':=by
      cases n with
      | none=>obtain⟨_,e1⟩:=TD.flat tn;exact absurd e1 hn
      | some c'=>exact⟨c',rfl⟩
     obtain⟨es2,put⟩:=putR_ex (k:=kV k) (row:=.t [.v (kV k),.t c']) dk6.row dk6.up hk0
     have t67:SameT H6 (upd H6 ld (.dK (putK kvs' k nv))):=sameT_dk ld6
     have lp:(putK kvs' k nv).length<=kvs'.length+1:=length_putK _ _ _
     refine⟨_,DPut.k (k:=k) ld6 (small1000 (by omega)),.non,many+1,as++[ca],chs++[(kV k,og,some c')],putK kvs' k nv,es2,_,_,_,_,_,⟨rfl,by omega,rfl,rfl,rfl,rfl,rfl⟩,by rw[upd_ne n1d];exact p16,⟨same_updN ss6 fld,by rw[upd_ne (Ne.symm np)];exact p6,Paired.mapP ch6 fun _ _ z=>z.updO ld6 (by intros;intro z;cases z) t67,ok6,by simp;omega,upd_same,(dk6.put hk0 tn6 put).sameT t67,by omega,by have:=PutR.len put;omega,by omega,mv1 put,.inl ⟨rfl,by omega⟩⟩⟩
   ·rw[if_pos (by simp[e]),if_neg knn]
    refine⟨kV k,many,as++[ca],chs++[(kV k,o,n)],kvs',es',_,_,_,_,_,⟨rfl,rfl,rfl,rfl,rfl,rfl,rfl⟩,p16,⟨ss6,p6,ch6,ok6,by simp;omega,ld6,dk6,by omega,by omega,by omega,by rw[tk _ lmm];exact dr.mv,.inr ⟨hk0,o,n,[],?_,fun z=>e (by rw[GetR.det dk6.up hg z])⟩⟩⟩
    rw[tk _ lmm,List.take_of_length_le (by omega)]
  ·have wn:wv≠.non:=fun z=>by rw[z]at hkw;exact hkw
   rw[if_neg wn,if_neg wn]
   refine⟨wv,many,as++[ca],chs++[(kV k,o,n)],kvs',es',_,_,_,_,_,⟨rfl,rfl,rfl,rfl,rfl,rfl,rfl⟩,p16,⟨ss6,p6,ch6,ok6,by simp;omega,ld6,dk6,by omega,by omega,by omega,by rw[tk _ lmm];exact dr.mv,.inr ⟨hkw,o',n',post++[(kV k,o,n)],?_,hng⟩⟩⟩
   rw[tk _ lmm]
   conv=>lhs;rw[ech]
   simp
 ·rintro σ' H' ⟨wv,many,as,chs,kvs',es',x7,x8,x9,x10,x11,rfl,g4,dr⟩
  refine hR _ _ ?_
  walk_at "rd"
  refine⟨show 4<=sizeLine by decide,fun r hr=>?_⟩
  have ss:=same_upd hr (.tup [.ref p,wv,.int ((many:Nat):Int),.ref ld])
  have l1:=dr.l1
  have l2:=dr.l2
  have lm:=dr.m
  have len:=dr.len
  rw[List.length_map]at len l1 l2 lm
  have w':=dr.w
  rw[List.length_map]at w'
  refine q r p wv many ld as chs kvs' es' _ (dr.s.trans ss) upd_same (ss _ _ dr.at_) (Paired.mapP dr.ch fun _ _ z=>z.same ss) dr.ok (by omega) (ss _ _ dr.ld) (dr.dk.sameT ss.t) (by omega) (by omega) (by omega) dr.mv ?_
  rcases w' with ⟨h1,h2⟩ | h
  ·exact .inl ⟨h1,by omega⟩
  ·exact .inr h
theorem TreeOf.sc{st:StL}{es:List Dt}{v:V}(h:TreeOf st es v):v=.non\/∃ n,v=.int n:=by
 rcases h with ⟨_,h⟩ | ⟨_,_,_,_,n,_,_,_,h⟩
 ·exact .inl h
 ·exact .inr ⟨n,h⟩
theorem TreeOf.det{st:StL}{es:List Dt}{v v':V}(f:Fn (tblOf st))(h:TreeOf st es v)(h':TreeOf st es v'):v=v':=by
 rcases h with ⟨a,b⟩ | ⟨a,top,L,k,n,_,c,e,b⟩
 ·rcases h' with ⟨_,b'⟩ | ⟨a',_⟩
  ·rw[b,b']
  ·exact absurd a a'
 ·rcases h' with ⟨a',_⟩ | ⟨_,top',L',k',n',_,c',e',b'⟩
  ·exact absurd a' a
  ·obtain⟨et,eL⟩:=c.det f c'
   subst et
   have:=eL (top+1) (Nat.le_refl _)
   rw[e,e']at this
   injection this with this
   rw[b,b',(hdOf_inj this).2]
theorem TreeOf.mono{st st':StL}{es:List Dt}{v:V}(h:TreeOf st es v)(s:∀ x∈tblOf st,x∈tblOf st'):TreeOf st' es v:=by
 rcases h with h | ⟨a,top,L,k,n,b,c,d⟩
 ·exact .inl h
 ·exact .inr ⟨a,top,L,k,n,b,c.mono s,d⟩
theorem rep_flat{K:PySem.W.Frag}{H:Hp}{a:Addr}{xs:List V}(h:H a=some (.tup xs))(f:∀ x∈xs,flatV x=true):Rep K H 1 (.t (xs.map Dt.v)) (.ref a):=.t (SqT.of h) (by simp) fun i d x h1 h2=>by
 rw[List.getElem?_map,h2]at h1
 cases h1
 exact .v (f x (List.mem_of_getElem? h2))
theorem Moves.rows{chs:List (V×Option (List Dt)×Option (List Dt))}{es es':List Dt}(h:Moves chs es es')(hok:∀ x∈chs,ChOk x)(hR:(∀ d∈es,RowD d)/\UpR ltK es):(∀ d∈es',RowD d)/\UpR ltK es':=by
 induction h with
 | nil=>exact hR
 | @cons k o n r es es1 es' g c _ ih =>
  refine ih (fun x hx=>hok x (List.mem_cons_of_mem _ hx)) ?_
  cases n with
  | none =>
   have c:DelR k es es1:=c
   exact⟨fun d hd=>hR.1 d ((c.mem hR.2 ltK.irr d).mp hd).1,c.up hR.2⟩
  | some cc =>
   have c:PutR ltK k (.t [.v k,.t cc]) es es1:=c
   refine⟨fun d hd=>?_,c.up hR.2 rfl ltK.tr⟩
   rcases(c.mem ltK.irr d).mp hd with z | z
   ·rw[z];exact⟨k,cc,rfl,(hok _ List.mem_cons_self).1⟩
   ·exact hR.1 d z.1
theorem ChgR.det'{k:V}{n:Option (List Dt)}{es a b:List Dt}(up:UpR ltK es)(x:ChgR k n es a)(y:ChgR k n es b):a=b:=by
 cases n with
 | none =>
  have x:DelR k es a:=x
  have y:DelR k es b:=y
  exact UpR.ext ltK.irr ltK.tr (x.up up) (y.up up) fun d=>by rw[x.mem up ltK.irr,y.mem up ltK.irr]
 | some c =>
  have x:PutR ltK k (.t [.v k,.t c]) es a:=x
  have y:PutR ltK k (.t [.v k,.t c]) es b:=y
  exact UpR.ext ltK.irr ltK.tr (x.up up rfl ltK.tr) (y.up up rfl ltK.tr) fun d=>by rw[x.mem ltK.irr,y.mem ltK.irr]
theorem Moves.det:∀ {pre post post':List (V×Option (List Dt)×Option (List Dt))} {es a b:List Dt} {k k':V} {o n o' n':Option (List Dt)} {pre':List (V×Option (List Dt)×Option (List Dt))},(∀ x∈pre++(k,o,n)::post,ChOk x)->(∀ d∈es,RowD d)/\UpR ltK es->pre++(k,o,n)::post=pre'++(k',o',n')::post'->Moves pre es a->Moves pre' es b->¬ GetR a k o->¬ GetR b k' o'->k=k'
 | [],post,post',es,a,b,k,k',o,n,o',n',[],hok,hR,e,m,m',h,h'=>by
  injection e with e;injection e
 | [],post,post',es,a,b,k,k',o,n,o',n',x::r,hok,hR,e,m,m',h,h'=>by
  injection e with e1 e2
  subst e1
  cases m with
  | nil=>cases m' with
   | cons g c _=>exact absurd g h
 | x::r,post,post',es,a,b,k,k',o,n,o',n',[],hok,hR,e,m,m',h,h'=>by
  injection e with e1 e2
  subst e1
  cases m' with
  | nil=>cases m with
   | cons g c _=>exact absurd g h'
 | x::r,post,post',es,a,b,k,k',o,n,o',n',y::r',hok,hR,e,m,m',h,h'=>by
  injection e with e1 e2
  subst e1
  cases m with
  | @cons k1 o1 n1 _ _ es1 _ g c m =>
   cases m' with
   | @cons _ _ _ _ _ es2 _ g2 c2 m' =>
    have:=ChgR.det' hR.2 c c2
    subst this
    refine Moves.det (fun x hx=>hok x (List.mem_cons_of_mem _ hx)) (Moves.rows (.cons g c .nil) (fun x hx=>?_) hR) e2 m m' h h'
    rw[List.mem_singleton.mp hx]
    exact hok _ List.mem_cons_self
theorem Moves.stop:∀ {pre post:List (V×Option (List Dt)×Option (List Dt))} {es a b:List Dt} {k:V} {o n:Option (List Dt)},(∀ x∈pre,ChOk x)->(∀ d∈es,RowD d)/\UpR ltK es->Moves pre es a->Moves (pre++(k,o,n)::post) es b->¬ GetR a k o->False
 | [],post,es,a,b,k,o,n,hok,hR,m,m',h=>by
  cases m with
  | nil=>cases m' with
   | cons g c _=>exact h g
 | x::r,post,es,a,b,k,o,n,hok,hR,m,m',h=>by
  cases m with
  | @cons k1 o1 n1 _ _ es1 _ g c m =>
   cases m' with
   | @cons _ _ _ _ _ es2 _ g2 c2 m' =>
    have:=ChgR.det' hR.2 c c2
    subst this
    refine Moves.stop (fun x hx=>hok x (List.mem_cons_of_mem _ hx)) (Moves.rows (.cons g c .nil) (fun x hx=>?_) hR) m m' h
    rw[List.mem_singleton.mp hx]
    exact hok _ List.mem_cons_self
theorem Moves.fn{chs:List (V×Option (List Dt)×Option (List Dt))}{es a:List Dt}(h:Moves chs es a):∀ {b:List Dt},(∀ x∈chs,ChOk x)->(∀ d∈es,RowD d)/\UpR ltK es->Moves chs es b->a=b:=by
 induction h with
 | nil=>intro b _ _ m;cases m;rfl
 | @cons k o n r es es1 es' g c m ih =>
  intro b hok hR m'
  cases m' with
  | @cons _ _ _ _ _ es2 _ g2 c2 m' =>
   have:=ChgR.det' hR.2 c c2
   subst this
   refine ih (fun x hx=>hok x (List.mem_cons_of_mem _ hx)) (Moves.rows (.cons g c .nil) (fun x hx=>?_) hR) m'
   rw[List.mem_singleton.mp hx]
   exact hok _ List.mem_cons_self
theorem Wrong.uniq{chs:List (V×Option (List Dt)×Option (List Dt))}{es:List Dt}{k k':V}(hok:∀ x∈chs,ChOk x)(hR:Rows es)(h:Wrong chs es k)(h':Wrong chs es k'):k=k':=by
 obtain⟨pre,o,n,post,es1,e,m,g⟩:=h
 obtain⟨pre',o',n',post',es1',e',m',g'⟩:=h'
 exact Moves.det (by rw[<- e];exact hok) ⟨hR.row,hR.up⟩ (by rw[<- e,<- e']) m m' g g'
theorem Wrong.not_moves{chs:List (V×Option (List Dt)×Option (List Dt))}{es es':List Dt}{k:V}(hok:∀ x∈chs,ChOk x)(hR:Rows es)(h:Wrong chs es k)(m':Moves chs es es'):False:=by
 obtain⟨pre,o,n,post,es1,e,m,g⟩:=h
 rw[e]at m' hok
 exact Moves.stop (fun x hx=>hok x (List.mem_append_left _ hx)) ⟨hR.row,hR.up⟩ m m' g
def sp__law_refused(P:Program)(w:World)(cs ob:Nat->Addr):Sp:=fun vs H Q _=>∃ p d1 d2 st c v es l as chs k,vs=[.ref p,v,.ref l,k]/\H l=some (.lst (as.map V.ref))/\ChsAt ob H chs as/\(∀ x∈chs,ChOk x)/\StAt P w ob H p d1 d2 st c/\TreeOf st es v/\Rows es/\es.length+chs.length<=600/\st.length+chs.length * (16 * (es.length+chs.length+2))<=1000000/\Wrong chs es k/\keyV k /\
 ∀ H' st' c',SameX [p,d1,d2] H H'->StAt P w ob H' p d1 d2 st' c'->(∀ x∈tblOf st,x∈tblOf st')->st'.length<=st.length+chs.length * (16 * (es.length+chs.length+2))->Q (.bl true) H'
seal PE PT PW PA PS PSs PI PG PIfs PGs PO in
theorem ok__law_refused{CT:Addr}{cs:Nat->Addr}{ob:Nat->Addr}{f:Addr}{fd:FuncData}(Z:Zs mg)(T:Tx K mg CT cs ob)(G_moved:Cal1 P w K mg base 26 "moved" ["pages","root","changes"] (sp_moved P w cs ob))(F:Fun K "_law_refused" "_law_refused" s__law_refused f fd):FnOk P w K mg base CX0 27 f fd ["_law_pages","_law_root","_law_changes","_law_wrong"] (sp__law_refused P w cs ob):=by
 refine F.ok sc__law_refused (fun vs H Q E h=>?_) (fun cdv A outer s H vs Q E hr h=>?_)
 ·obtain⟨p,d1,d2,st,c,v,es,l,as,chs,k,rfl,_⟩:=h;rfl
 obtain⟨p,d1,d2,st,c,v,es,l,as,chs,k,rfl,hl,hC,hok,hS,hT,hR,lel,few,hW,hk,q⟩:=h
 refine⟨_,(@pss_cons _ _ _ _ _ (ps_set (i:=4) sc__law_refused.nd rfl (Or.inl rfl) pe_non)
  (@pss_cons _ _ _ _ _ (ps_tryX (i:=5) (ps1_expr (pe1_cal G_moved (k:=26) hr (by decide) rfl rfl (pa_c (pv 0) (pa_c (pv 1) (pa_c (pv 2) pa_nil))))) rfl rfl rfl rfl T.mg_Unfit (T.cl 3 (by decide)) sc__law_refused.nd rfl rfl (fun ea ok=>(pss_one (ps_set (i:=4) sc__law_refused.nd rfl (Or.inl rfl) (pe_tup (pa_c (pe_xfldH CT (pv 5) rfl) (pa_c (pe_callB (call_isXH CT) rfl (Z.isinstance) bo_isinstance (pa_c (pv 5) (pa_c (pe_gfn T.top.mg_ rfl) pa_nil))) (pa_c (pe_callB (call_isXH CT) rfl (Z.isinstance) bo_isinstance (pa_c (pv 5) (pa_c (pe_bltn rfl (Z.ValueError) bo_ValueError (v:=.ty "ValueError") rfl) pa_nil))) (pa_c (pe_callB (call_isXH CT) rfl (Z.isinstance) bo_isinstance (pa_c (pv 5) (pa_c (pe_gfn T.mg_NoRow rfl) pa_nil))) pa_nil)))))))))
  (pss_one (ps_ret (pe_cmpR (op_eqD (hr.units)) (pv 4) (pe_tup (pa_c (pv 3) (pa_c pe_bl (pa_c pe_bl (pa_c pe_bl pa_nil))))) (nomark _)))))),?_⟩
 refine rd_start (σ:=[some (.ref p),some v,some (.ref l),some k,none,none]) rfl ?_
 walk_at "rd"
 refine⟨p,d1,d2,st,c,v,es,l,as,chs,rfl,hl,hC,hok,hS,hT,hR,lel,few,fun H1 st1 c1 v1 es1 mv sx1 hS1 sub1 l1 ht1=>(hW.not_moves hok hR mv).elim,fun k' hW' H1 st1 c1 d sx1 hS1 sub1 l1 hd=>⟨rfl,fun ea hea=>?_⟩⟩
 obtain rfl:k'=k:=hW'.uniq hok hR hW
 have hne:d≠ea:=fun z=>by rw[<- z,upd_same]at hea;cases hea
 have xa:XAt (upd (upd H1 d (xD d [("key",k')])) ea (xC ea (cs 3) (some d))) ea (cs 3) [("key",k')]:=.inr ⟨d,upd_same,by rw[upd_ne hne];exact upd_same⟩
 have s3:=(same_upd hd (xD d [("key",k')])).trans (same_upd hea (xC ea (cs 3) (some d)))
 generalize upd (upd H1 d (xD d [("key",k')])) ea (xC ea (cs 3) (some d))=H3 at xa s3 ⊢
 have xc:=T.cl 3 (by decide)
 refine⟨_,rfl,ea,cs 3,_,_,rfl,xa,xc,T.no 3 (by decide) _ (by decide),rfl,ea,cs 3,_,.ref CT,.ref CT,_,rfl,rfl,xa,xc,kit_up xc T.top.cl,ea,cs 3,_,.ty "ValueError",.type "ValueError",_,rfl,rfl,xa,xc,T.tv 3 (by decide),ea,cs 3,_,.ref (cs 2),.ref (cs 2),_,rfl,rfl,xa,xc,T.tab 3 2 (by decide) (by decide),show 4<=sizeLine by decide,fun p1 hp1=>?_⟩
 simp only[Ends.gone]
 walk_at "rd"
 refine⟨show 4<=sizeLine by decide,fun p2 hp2=>?_⟩
 have s4:=s3.trans ((same_upd hp1 (.tup [k',.bl true,.bl true,.bl (decide (3=2))])).trans (same_upd hp2 (.tup [k',.bl true,.bl true,.bl false])))
 have fl:∀ x∈[k',V.bl true,V.bl true,V.bl false],flatV x=true:=fun x hx=>by
  simp only[List.mem_cons,List.not_mem_nil,or_false]at hx
  rcases hx with rfl | rfl | rfl | rfl
  ·cases x with
   | int n=>rfl
   | str z=>rfl
   | _=>exact hk.elim
  ·rfl
  ·rfl
  ·rfl
 exact rD_same (n:=1) (by decide) (rep_flat (same_upd hp2 _ _ _ upd_same) fl) (rep_flat upd_same fl) (q _ st1 c1 (sx1.trans (s4.x _)) (hS1.same s4) sub1 l1)
structure Gd(P:Program)(w:World)(ob:Nat->Addr)(H:Hp)(x0 d1 d2 lc lh r:Addr)(st0 st:StL)(c:Int)(as:List Addr)(chs:List (V×Option (List Dt)×Option (List Dt)))(xs:List V)(es:List Dt):Prop where
 sA:StAt P w ob H x0 d1 d2 st c
 sub:∀ x∈tblOf st0,x∈tblOf st
 lc:H lc=some (.lst (as.map V.ref))
 lh:H lh=some (.lst (as.map V.ref))
 r:H r=some (.lst xs)
 re:Paired (fun d v=>TD H 6 d v) es xs
 ch:ChsAt ob H chs as
section
variable{P:Program}{w:World}{ob:Nat->Addr}{H H':Hp}{x0 d1 d2 lc lh r:Addr}{st0 st st':StL}{c c':Int}{as:List Addr}{chs:List (V×Option (List Dt)×Option (List Dt))}{xs:List V}{es:List Dt}
theorem Gd.x(h:Gd P w ob H x0 d1 d2 lc lh r st0 st c as chs xs es)(s:SameX [x0,d1,d2] H H')(hS:StAt P w ob H' x0 d1 d2 st' c')(sub:∀ x∈tblOf st,x∈tblOf st'):Gd P w ob H' x0 d1 d2 lc lh r st0 st' c' as chs xs es :=
 ⟨hS,fun x hx=>sub x (h.sub x hx),h.sA.lst s h.lc,h.sA.lst s h.lh,h.sA.lst s h.r,TDs.sameT h.re (sameT_st h.sA s),Paired.mapP h.ch fun _ _ z=>z.x h.sA s⟩
theorem Gd.same(h:Gd P w ob H x0 d1 d2 lc lh r st0 st c as chs xs es)(s:Same H H'):Gd P w ob H' x0 d1 d2 lc lh r st0 st c as chs xs es :=
 ⟨h.sA.same s,h.sub,s _ _ h.lc,s _ _ h.lh,s _ _ h.r,TDs.sameT h.re s.t,Paired.mapP h.ch fun _ _ z=>z.same s⟩
end
def sp_law(K:PySem.W.Frag):Sp:=fun vs H Q _=>∃ (a:Addr) (ns:List Int),vs=[.ref a]/\SqL K H a (ns.map V.int)/\ns.length<=63/\∀ H',Q (.bl true) H'
seal PE PT PW PA PS PSs PI PG PIfs PGs PO in
theorem ok_law{CT:Addr}{cs:Nat->Addr}{ob:Nat->Addr}{f:Addr}{fd:FuncData}(Z:Zs mg)(T:Tx K mg CT cs ob)(G__law_risen:Cal P w K mg base 1 "_law_risen" ["_law_known"] (sp__law_risen K))(G_built:Cal1 P w K mg base 7 "built" ["pages","rows"] (sp_built P w cs ob))(G__law_drawn:Cal P w K mg base 5 "_law_drawn" ["_law_script","_law_base","_law_known"] (sp__law_drawn K ob))(G__law_cell:Cal P w K mg base 1 "_law_cell" ["_law_script","_law_k"] (sp__law_cell K))(G__law_cells:Cal P w K mg base 1 "_law_cells" ["_law_cell_here"] (sp__law_cells K))(G_moved:Cal1 P w K mg base 26 "moved" ["pages","root","changes"] (sp_moved P w cs ob))(G__law_key:Cal P w K mg base 1 "_law_key" ["_law_cell_here"] (sp__law_key K))(G__law_refused:Cal P w K mg base 27 "_law_refused" ["_law_pages","_law_root","_law_changes","_law_wrong"] (sp__law_refused P w cs ob))(G_rows_of:Cal P w K mg base 14 "rows_of" ["pages","root"] (sp_rows_of P w cs ob))(K_Pages:MkV P w K mg base 1 "Pages" (ob 3) (sp_Pages_init P w ob))(F:Fun K "law" "law" s_law f fd):FnOk P w K mg base CX0 28 f fd ["_law_script"] (sp_law K):=by
 refine F.ok sc_law (fun vs H Q E h=>?_) (fun cdv A outer s H vs Q E hr h=>?_)
 ·obtain⟨a,ns,rfl,_⟩:=h;rfl
 obtain⟨a,ns,rfl,hS,hl_,q⟩:=h
 refine⟨_,(@pss_cons _ _ _ _ _ (ps_set (i:=1) sc_law.nd rfl (Or.inl rfl) (pe_mk0 K_Pages (k:=27) hr (by decide) rfl))
  (@pss_cons _ _ _ _ _ (ps_set (i:=2) sc_law.nd rfl (Or.inl rfl) (pe_op op_mod (pe_cal G__law_cell (k:=27) hr (by decide) rfl (pa_c (pv 0) (pa_c pe_int pa_nil))) (pe_op op_pow pe_int pe_int)))
  (@pss_cons _ _ _ _ _ (ps_set (i:=3) sc_law.nd rfl (Or.inl rfl) pe_dnewK)
  (@pss_cons _ _ _ _ _ (ps_for PassesOwn.never rfl (pi_range1 rfl (Z.range) (pa_c (pe_op op_mod (pe_cal G__law_cell (k:=27) hr (by decide) rfl (pa_c (pv 0) (pa_c pe_int pa_nil))) pe_int) pa_nil)) (pg_name (i:=4) sc_law.nd rfl (Or.inl rfl)) (pss_one (ps_dput hr.u1 (pv 3) (pe_cal G__law_key (k:=27) hr (by decide) rfl (pa_c (pe_op op_add (pe_op op_mulB pe_int (pv 2)) (pe_op op_mod (pe_op op_add (pe_op op_mulB (pv 4) pe_int) (pe_cal G__law_cell (k:=27) hr (by decide) rfl (pa_c (pv 0) (pa_c pe_int pa_nil)))) pe_int)) pa_nil)) (pe_cal G__law_cells (k:=27) hr (by decide) rfl (pa_c (pe_op op_add (pv 4) (pe_op op_fdiv (pe_cal G__law_cell (k:=27) hr (by decide) rfl (pa_c (pv 0) (pa_c pe_int pa_nil))) pe_int)) pa_nil)) rfl)))
  (@pss_cons _ _ _ _ _ (ps_set (i:=5) sc_law.nd rfl (Or.inl rfl) (pe_cal G__law_risen (k:=27) hr (by decide) rfl (pa_c (pv 3) pa_nil)))
  (@pss_cons _ _ _ _ _ (ps_set (i:=6) sc_law.nd rfl (Or.inl rfl) (PE1.pe (pe1_cal G_built (k:=27) hr (by decide) rfl rfl (pa_c (pv 1) (pa_c (pe_callTy call_list_of rfl (Z.list) bo_list (pa_c (pv 5) pa_nil)) pa_nil))) throwsN))
  (@pss_cons _ _ _ _ _ (ps_asg (pe_cal G__law_drawn (k:=27) hr (by decide) rfl (pa_c (pv 0) (pa_c (pv 2) (pa_c (pv 3) pa_nil)))) (pg_tup (n:=4) rfl (pgs_cons (pg_name (i:=7) sc_law.nd rfl (Or.inl rfl)) (pgs_cons (pg_name (i:=8) sc_law.nd rfl (Or.inl rfl)) (pgs_cons (pg_name (i:=9) sc_law.nd rfl (Or.inl rfl)) (pgs_cons (pg_name (i:=10) sc_law.nd rfl (Or.inl rfl)) pgs_nil))))))
  (@pss_cons _ _ _ _ _ (ps_set (i:=11) sc_law.nd rfl (Or.inl rfl) (pe_callTy call_list_of rfl (Z.list) bo_list (pa_c (pv 7) pa_nil)))
  (@pss_cons _ _ _ _ _ (ps_set (i:=12) sc_law.nd rfl (Or.inl rfl) (PE1.pe (pe1_cal G_built (k:=27) hr (by decide) rfl rfl (pa_c (pv 1) (pa_c (pe_cal G__law_risen (k:=27) hr (by decide) rfl (pa_c (pv 10) pa_nil)) pa_nil))) throwsN))
  (@pss_cons _ _ _ _ _ (ps_if (pt_cmpR op_ne (PE1.pe (pe1_cal G_moved (k:=27) hr (by decide) rfl rfl (pa_c (pv 1) (pa_c (pv 6) (pa_c (pe_slice sl_list (pv 7) po_none (po_some (pv 9))) pa_nil)))) throwsN) (pv 12) (nomark _)) (pss_one (ps_ret pe_bl)) pss_nil)
  (@pss_cons _ _ _ _ _ (ps_if (PW.pt (pw_and (pt_cmpR op_isN (pv 8) pe_non (nomark _)) (pw_and1 (pt_cmpR op_ne (PE1.pe (pe1_cal G_moved (k:=27) hr (by decide) rfl rfl (pa_c (pv 1) (pa_c (pv 6) (pa_c (pv 11) pa_nil)))) throwsN) (pv 12) (nomark _))))) (pss_one (ps_ret pe_bl)) pss_nil)
  (@pss_cons _ _ _ _ _ (ps_if (PW.pt (pw_and (pt_cmpR op_notN (pv 8) pe_non (nomark _)) (pw_and1 (pt_not (pt_val (pe_cal G__law_refused (k:=27) hr (by decide) rfl (pa_c (pv 1) (pa_c (pv 6) (pa_c (pv 11) (pa_c (pv 8) pa_nil))))) (fun _=>rfl)))))) (pss_one (ps_ret pe_bl)) pss_nil)
  (pss_one (ps_ret (pe_and (pe_cmpR (op_eqR (hr.units0)) (pv 11) (pv 7) (nomark _)) (pe_and (pe_cmpR (op_eqD (hr.units)) (pe_cal G_rows_of (k:=27) hr (by decide) rfl (pa_c (pv 1) (pa_c (pv 6) pa_nil))) (pv 5) (nomark _)) (pe_one (pe_cmpR op_eq (PE1.pe (pe1_cal G_moved (k:=27) hr (by decide) rfl rfl (pa_c (pv 1) (pa_c (pv 6) (pa_c (pe_slice sl_list (pv 7) po_none (po_some (pv 9))) pa_nil)))) throwsN) (pv 12) (nomark _))))))))))))))))))),?_⟩
 refine rd_start (σ:=[some (.ref a),none,none,none,none,none,none,none,none,none,none,none,none]) rfl ?_
 refine rd_gen4 fun R hR=>?_
 have go:∀ x0 d1 d2 (b:Int) p kvs x4 H1,SqL K H1 a (ns.map V.int)->StAt P w ob H1 x0 d1 d2 [] 0->0<=b->b < 10 ^ 9->H1 p=some (.dK kvs)->p∉[x0,d1,d2]->(kvs.map Prod.fst).Nodup->(∀ q∈kvs,keyV (kV q.1))->(∀ q∈kvs,∃ c,TD H1 4 (.t c) q.2)->kvs.length<=9 ->
  R [some (.ref a),some (.ref x0),some (.int b),some (.ref p),x4,none,none,none,none,none,none,none,none] H1:=by
  intro x0 d1 d2 b p kvs x4 H1 hS1 hA b0 b9 hp hpn nd hk hc l9
  refine hR _ _ (rd_gen5 fun R2 hR2=>?_)
  clear hR
  walk_at "rd"
  refine⟨p,kvs,rfl,hp,by omega,hk,nd,fun r H2 xs ks s2 hr2 g2 ra=>?_⟩
  obtain⟨es,dk,re⟩:=ra.dk nd hk fun q hq=>let ⟨c,t⟩:=hc q hq;⟨c,t.same s2⟩
  have le:=Paired.length re
  have lks:ks.length=kvs.length:=by rw[ra.perm.length_eq,List.length_map]
  have lxs:=ra.len
  refine⟨r,rfl,xs,.inl (SqL.of g2),fun l hl=>?_⟩
  have s3:=same_upd hl (.lst xs)
  have g3:upd H2 l (.lst xs) l=some (.lst xs):=upd_same
  generalize upd H2 l (.lst xs)=H3 at s3 g3 ⊢
  have s13:=s2.trans s3
  have hA3:=hA.same s13
  have upk:(es.map keyD).Pairwise fun a b=>Pl.ltV a b=true:=by rw[List.pairwise_map];exact List.Pairwise.imp (fun {a b} h=>h.2.2) dk.up
  refine⟨x0,d1,d2,[],0,l,xs,es,rfl,hA3,g3,TDs.sameT re s3.t,(fun d hd=>(dk.row d hd).ent),by omega,by simp;omega,.inl ⟨upk,fun H4 st4 c4 v4 sx4 hS4 sub4 l4 ht4=>?_⟩⟩
  have t34:=sameT_st hA3 sx4
  have t24:SameT H2 H4:=s3.t.trans t34
  have dk4:=dk.sameT t24
  have re4:=TDs.sameT re t24
  have p4:=sx4 _ _ hpn (s13 _ _ hp)
  have r4:=hA3.lst sx4 (s3 _ _ g2)
  have q4:=hA3.seq sx4 (s13.seq hS1)
  refine⟨a,ns,b,p,kvs,es,rfl,b0,b9,q4,hl_,p4,l9,dk4,by omega,fun r7 lc wv many ld as chs kvs' es' H7 s7 hr7 hlc hch hok lch hld dk' lk' le' hm mv hw=>?_⟩
  refine⟨r7,rfl,_,SqT.of hr7,rfl,_,_,rfl,_,_,rfl,_,_,rfl,_,_,rfl,rfl,lc,rfl,_,.inl (SqL.of hlc),fun lh hlh=>?_⟩
  have s8:=same_upd hlh (.lst (as.map V.ref))
  have g8:upd H7 lh (.lst (as.map V.ref)) lh=some (.lst (as.map V.ref)):=upd_same
  generalize upd H7 lh (.lst (as.map V.ref))=H8 at s8 g8 ⊢
  refine⟨ld,kvs',rfl,s8 _ _ hld,by omega,(fun q hq=>dk'.key (w:=q.2) hq),dk'.nd,fun r9 H9 xs9 ks9 s9 hr9 g9 ra9=>?_⟩
  have s79:=s8.trans s9
  obtain⟨es9,dk9,re9⟩:=ra9.dk dk'.nd (fun q hq=>dk'.key (w:=q.2) hq) fun q hq=>let ⟨c,t,_⟩:=dk'.to q.1 q.2 hq;⟨c,t.same s79⟩
  have e9:es9=es':=dk9.uniq (dk'.sameT s79.t)
  subst e9
  have le9:=Paired.length re9
  have hS9:=hS4.same (s7.trans s79)
  have upk9:(es9.map keyD).Pairwise fun a b=>Pl.ltV a b=true:=by rw[List.pairwise_map];exact List.Pairwise.imp (fun {a b} h=>h.2.2) dk9.up
  rw[List.length_nil]at l4
  refine⟨x0,d1,d2,st4,c4,r9,xs9,es9,rfl,hS9,g9,re9,(fun d hd=>(dk9.row d hd).ent),by omega,by omega,.inl ⟨upk9,fun H10 st10 c10 v10 sx10 hS10 sub10 l10 ht10=>?_⟩⟩
  have ht10:TreeOf st10 es9 v10:=ht10
  have ht4:TreeOf st4 es v4:=ht4
  have t910:=sameT_st hS9 sx10
  have lc10:=hS9.lst sx10 (s79 _ _ hlc)
  have lh10:=hS9.lst sx10 (s9 _ _ g8)
  have r10:=hS9.lst sx10 ((s7.trans s79) _ _ r4)
  have re10:=TDs.sameT re4 ((s7.trans s79).t.trans t910)
  have ch10:ChsAt ob H10 chs as:=Paired.mapP hch fun _ _ z=>(z.same s79).x hS9 sx10
  have rows:Rows es:=⟨dk.row,dk.up,by omega⟩
  have lch':=Paired.length hch
  have tr10:=ht4.mono sub10
  have mvd:∀ (H5:Hp) (st5:StL) (c5:Int) (l5:Addr) (as5:List Addr) (chs5:List (V×Option (List Dt)×Option (List Dt))) (Qc:VK),StAt P w ob H5 x0 d1 d2 st5 c5->TreeOf st5 es v4->H5 l5=some (.lst (as5.map V.ref))->ChsAt ob H5 chs5 as5->(∀ x∈chs5,ChOk x)->chs5.length<=40->st5.length<=400000->Moves chs5 es es9 ->
   (∀ H6 st6 c6 v6,SameX [x0,d1,d2] H5 H6->StAt P w ob H6 x0 d1 d2 st6 c6->(∀ x∈tblOf st5,x∈tblOf st6)->st6.length<=st5.length+40000->TreeOf st6 es9 v6->Qc v6 H6)->sp_moved P w cs ob [.ref x0,v4,.ref l5] H5 Qc E0:=by
   intro H5 st5 c5 l5 as5 chs5 Qc hS5 tr5 hl5 hch5 hok5 lch5 lst5 mv5 qc
   have bnd:chs5.length * (16 * (es.length+chs5.length+2))<=40 * (16 * 60):=Nat.mul_le_mul lch5 (Nat.mul_le_mul_left _ (by omega))
   refine⟨x0,d1,d2,st5,c5,v4,es,l5,as5,chs5,rfl,hl5,hch5,hok5,hS5,tr5,rows,by omega,by omega,fun H6 st6 c6 v6 es6 m6 sx6 hS6 sub6 l6 ht6=>?_,fun k hW=>(hW.not_moves hok5 rows mv5).elim⟩
   rw[m6.fn hok5 ⟨dk.row,dk.up⟩ mv5]at ht6
   exact qc H6 st6 c6 v6 sx6 hS6 sub6 (by omega) ht6
  have okT:∀ x∈chs.take many,ChOk x:=fun x hx=>hok x (List.mem_of_mem_take hx)
  have ec:cutV (as.map V.ref) none (some ((many:Nat):Int))=(as.take many).map V.ref:=by rw[cutA,List.map_take]
  have gd10:Gd P w ob H10 x0 d1 d2 lc lh r st10 st10 c10 as chs xs es:=⟨hS10,fun x h=>h,lc10,lh10,r10,re10,ch10⟩
  refine hR2 _ _ (rd_gen3 fun R3 hR3=>?_)
  clear hR2
  have same10:∀ {st6:StL} {H6:Hp} {c6:Int} {v6:V},StAt P w ob H6 x0 d1 d2 st6 c6->(∀ x∈tblOf st10,x∈tblOf st6)->TreeOf st6 es9 v6->v6=v10:=fun hS6 sub6 ht6=>TreeOf.det hS6.fn ht6 (ht10.mono sub6)
  have cut_mv:∀ {H5:Hp} {st5:StL} {c5:Int} {p5:Addr} {Qc:VK},Gd P w ob H5 x0 d1 d2 lc lh r st10 st5 c5 as chs xs es->st5.length<=400000->H5 p5=none->(∀ H6 st6 c6,Gd P w ob H6 x0 d1 d2 lc lh r st10 st6 c6 as chs xs es->st6.length<=st5.length+40000->Qc v10 H6)->sp_moved P w cs ob [.ref x0,v4,.ref p5] (upd H5 p5 (.lst (cutV (as.map V.ref) none (some ((many:Nat):Int))))) Qc E0:=by
   intro H5 st5 c5 p5 Qc gd lst5 hp5 qc
   rw[ec]
   have ss:=same_upd hp5 (.lst ((as.take many).map V.ref))
   have gd':=gd.same ss
   refine mvd _ st5 c5 p5 (as.take many) (chs.take many) Qc gd'.sA (ht4.mono fun x hx=>gd.sub x (sub10 x hx)) upd_same (paired_take many gd'.ch) okT (by rw[List.length_take];omega) lst5 mv fun H6 st6 c6 v6 sx6 hS6 sub6 l6 ht6=>?_
   have gd6:=gd'.x sx6 hS6 sub6
   rw[same10 hS6 gd6.sub ht6]
   exact qc H6 st6 c6 gd6 l6
  have ret:∀ (H5:Hp) (st5:StL) (c5:Int),Gd P w ob H5 x0 d1 d2 lc lh r st10 st5 c5 as chs xs es->st5.length<=300000->R3 [some (.ref a),some (.ref x0),some (.int b),some (.ref p),x4,some (.ref r),some v4,some (.ref lc),some wv,some (.int ((many:Nat):Int)),some (.ref ld),some (.ref lh),some v10] H5:=by
   intro H5 st5 c5 gd lst5
   refine hR3 _ _ ?_
   clear hR3
   walk_at "rd"
   refine⟨lh,lc,as,rfl,rfl,SqL.of gd.lh,SqL.of gd.lc,_,rfl,?_⟩
   rw[if_pos rfl]
   refine⟨x0,d1,d2,st5,c5,v4,es,rfl,gd.sA,ht4.mono fun x hx=>gd.sub x (sub10 x hx),by omega,fun rr H6 ys s6 hrr hrr6 py=>?_⟩
   refine rD_same (n:=7) (by decide) (rep_list hrr6 py) (rep_list (s6 _ _ gd.r) (TDs.sameT gd.re s6.t)) ⟨_,rfl,?_⟩
   rw[if_pos (by decide)]
   refine⟨_,SqL.of (s6 _ _ gd.lc),fun p6 hp6=>cut_mv (gd.same s6) (by omega) hp6 fun H8 st8 c8 gd8 l8=>⟨sc_pair ht10.sc ht10.sc,?_⟩⟩
   rw[decide_eq_true rfl]
   exact q H8
  clear hR3
  walk_at "rd"
  refine⟨_,SqL.of lc10,fun p11 hp11=>cut_mv gd10 (by omega) hp11 fun H12 st12 c12 gd12 l12=>⟨sc_pair ht10.sc ht10.sc,?_⟩⟩
  rw[if_neg (not_not_intro rfl)]
  rcases hw with ⟨rfl,hmany⟩ | ⟨hkw,o,n,post,ech,hng⟩
  ·rw[if_pos rfl]
   rw[List.take_of_length_le (by omega)]at mv
   refine mvd H12 st12 c12 lh as chs _ gd12.sA (ht4.mono fun x hx=>gd12.sub x (sub10 x hx)) gd12.lh gd12.ch hok lch (by omega) mv fun H14 st14 c14 v14 sx14 hS14 sub14 l14 ht14=>?_
   have gd14:=gd12.x sx14 hS14 sub14
   rw[same10 hS14 gd14.sub ht14]
   refine⟨sc_pair ht10.sc ht10.sc,?_⟩
   rw[if_neg (not_not_intro rfl),if_neg (not_not_intro rfl)]
   exact ret H14 st14 c14 gd14 (by omega)
  ·have wn:wv≠.non:=fun z=>by rw[z]at hkw;exact hkw
   have bnd:chs.length * (16 * (es.length+chs.length+2))<=40 * (16 * 60):=Nat.mul_le_mul lch (Nat.mul_le_mul_left _ (by omega))
   rw[if_neg wn,if_pos wn]
   refine⟨x0,d1,d2,st12,c12,v4,es,lh,as,chs,wv,rfl,gd12.lh,gd12.ch,hok,gd12.sA,ht4.mono fun x hx=>gd12.sub x (sub10 x hx),rows,by omega,by omega,⟨chs.take many,o,n,post,es9,ech,mv,hng⟩,hkw,fun H14 st14 c14 sx14 hS14 sub14 l14=>⟨_,rfl,?_⟩⟩
   rw[if_neg (by decide)]
   exact ret H14 st14 c14 (gd12.x sx14 hS14 sub14) (by omega)
 clear hR
 walk_at "rd"
 intro x0 dx0 hx0 hdx0 hne0
 refine⟨x0,dx0,rfl,upd_same,fun d1 d2 H1 dx fs f1 f2 s1 st1=>⟨rfl,?_⟩⟩
 have S1:Same H H1:=by rw[upd_upd]at s1;exact same_mk hx0 hdx0 s1
 refine⟨a,ns,0,rfl,S1.seq hS,fun c0=>⟨by unfold CPow;decide,c0,rfl,by decide,fun p hp=>?_⟩⟩
 have s2:=same_upd hp (.dK [])
 have g2:upd H1 p (.dK []) p=some (.dK []):=upd_same
 have pn:p∉[x0,d1,d2]:=fun z=>by
  obtain⟨dx',ho⟩:=st1.obj
  simp only[List.mem_cons,List.not_mem_nil,or_false]at z
  rcases z with z | z | z
  ·rw[z,ho]at hp;cases hp
  ·rw[z,st1.num]at hp;cases hp
  ·rw[z,st1.tol]at hp;cases hp
 have hS1:=S1.seq hS
 generalize upd H1 p (.dK [])=H2 at s2 g2 ⊢
 refine⟨a,ns,1,rfl,(S1.trans s2).seq hS,fun c1=>⟨c1,rfl,by omega,by omega,?_⟩⟩
 refine foR_range (fun i σ' H'=>∃ kvs x4,σ'=[some (.ref a),some (.ref x0),some (.int (c0 % 10 ^ 9)),some (.ref p),x4,none,none,none,none,none,none,none,none]/\SqL K H' a (ns.map V.int)/\StAt P w ob H' x0 d1 d2 [] 0/\H' p=some (.dK kvs)/\(kvs.map Prod.fst).Nodup/\(∀ q∈kvs,keyV (kV q.1))/\(∀ q∈kvs,∃ c,TD H' 4 (.t c) q.2)/\kvs.length<=i) ⟨[],_,rfl,(S1.trans s2).seq hS,st1.same s2,g2,List.nodup_nil,(fun q hq=>nomatch hq),(fun q hq=>nomatch hq),Nat.le_refl _⟩ ?_ ?_
 ·rintro i σ' H' hi ⟨kvs,x4,rfl,hS',st',g',nd,hk,hc,lk⟩
  have h0:=Int.emod_nonneg c1 (show(9:Int)≠0 by decide)
  have h1:=Int.emod_lt_of_pos c1 (show(0:Int) < 9 by decide)
  have e0:=Int.emod_nonneg c0 (show(10 ^ 9:Int)≠0 by decide)
  have e1:=Int.emod_lt_of_pos c0 (show(0:Int) < 10 ^ 9 by decide)
  walk_at "rd"
  refine⟨a,ns,0,rfl,hS',fun c=>⟨c,rfl,by unfold CDiv;decide,_,rfl,fun ca ds H3 s3 tc=>⟨by walk_at "side",by walk_at "side",a,ns,1,rfl,s3.seq hS',fun c2=>⟨c2,rfl,_,rfl,fun k0 hk0=>?_⟩⟩⟩⟩
  obtain⟨k,rfl⟩:=key_kV hk0
  have g3:=s3 _ _ g'
  have t3:SameT H3 (upd H3 p (.dK (putK kvs k (.ref ca)))):=sameT_dk g3
  have ne:∀ {x:Addr},x∈[x0,d1,d2]->upd H3 p (.dK (putK kvs k (.ref ca))) x=H3 x:=fun {x} hx=>upd_ne fun z=>pn (by rw[<- z];exact hx)
  refine⟨_,DPut.k (k:=k) g3 (small1000 (by omega)),sq_upd hS1 hp (s3.seq hS'),(st'.same s3).keep t3 (ne (by simp)) (ne (by simp)) (ne (by simp)),_,upd_same,putK_nodup nd,fun q hq=>?_,fun q hq=>?_,Nat.le_trans (length_putK _ _ _) (by omega)⟩
  ·rcases putK_mem hq with e | hq
   ·rw[e];exact hk0
   ·exact hk q hq
  ·rcases putK_mem hq with e | hq
   ·rw[e];exact⟨ds,TD.sameT t3 4 tc⟩
   ·obtain⟨c',t'⟩:=hc q hq;exact⟨c',TD.sameT (s3.t.trans t3) 4 t'⟩
 ·rintro σ' H' ⟨kvs,x4,rfl,hS',st',g',nd,hk,hc,lk⟩
  have h0:=Int.emod_nonneg c1 (show(9:Int)≠0 by decide)
  have h1:=Int.emod_lt_of_pos c1 (show(0:Int) < 9 by decide)
  exact go x0 d1 d2 _ p kvs x4 H' hS' st' (Int.emod_nonneg _ (by decide)) (Int.emod_lt_of_pos _ (by decide)) g' pn nd hk hc (by omega)
theorem law_sp{K:PySem.W.Frag}{H:Hp}{a:Addr}{ns:List Int}(hl:ns.length<=63)(_:∀ i∈ns,Builtin.Int.intBits i<=2 ^ 20)(hS:SqL K H a (ns.map V.int)):sp_law K [.ref a] H (fun v _=>v=.bl true) fun _ _ _=>False :=
 ⟨a,ns,rfl,hS,hl,fun _=>rfl⟩
theorem lenU1{α:Type}{C:List α->Prop}(h:∀ a,C [a]):∀ us:List α,us.length=1->C us:=fun us hl=>by
 match us,hl with
 | [_],_=>exact h _
theorem lenU2{α:Type}{C:List α->Prop}(h:∀ a b,C [a,b]):∀ us:List α,us.length=2->C us:=fun us hl=>by
 match us,hl with
 | [_,_],_=>exact h _ _
theorem lenU3{α:Type}{C:List α->Prop}(h:∀ a b c,C [a,b,c]):∀ us:List α,us.length=3->C us:=fun us hl=>by
 match us,hl with
 | [_,_,_],_=>exact h _ _ _
theorem lenU4{α:Type}{C:List α->Prop}(h:∀ a b c d,C [a,b,c,d]):∀ us:List α,us.length=4->C us:=fun us hl=>by
 match us,hl with
 | [_,_,_,_],_=>exact h _ _ _ _
theorem all_mk{l:PySem.W.OpenLaw}{w:World}{K:PySem.W.Frag}{h:Heap}{mg:Str->Option Value}{fa:Addr}(X:K.In h)(G:h.Ns mainGlobals mg)(hfa:mg "law"=some (.ref fa))
 (ta:PySem.W.specialIn K (.builtin "object.__class__") "__get__"=some (some (.builtin "getset_descriptor.__get__"))) (tb:PySem.W.takesIn K (.builtin "object.__class__")=some true)
 {O0:Addr} (oa0:PySem.W.nsIn K mainGlobals "Page"=some (some (.ref O0))) (of0:PySem.W.clsFacts K O0 ["level","rows","heads","entries","told_by_number","number_by_told","count","key","old","new"]=true)
 {O1:Addr} (oa1:PySem.W.nsIn K mainGlobals "Leaf"=some (some (.ref O1))) (of1:PySem.W.clsFacts K O1 ["level","rows","heads","entries","told_by_number","number_by_told","count","key","old","new"]=true)
 (om1:PySem.W.makesIn K O1=true) (ok1:PySem.W.keepIn K (.ref O1)=true)
 {O2:Addr} (oa2:PySem.W.nsIn K mainGlobals "Twig"=some (some (.ref O2))) (of2:PySem.W.clsFacts K O2 ["level","rows","heads","entries","told_by_number","number_by_told","count","key","old","new"]=true)
 (om2:PySem.W.makesIn K O2=true) (ok2:PySem.W.keepIn K (.ref O2)=true)
 {O3:Addr} (oa3:PySem.W.nsIn K mainGlobals "Pages"=some (some (.ref O3))) (of3:PySem.W.clsFacts K O3 ["level","rows","heads","entries","told_by_number","number_by_told","count","key","old","new"]=true)
 (om3:PySem.W.makesIn K O3=true) (ok3:PySem.W.keepIn K (.ref O3)=true)
 {O4:Addr} (oa4:PySem.W.nsIn K mainGlobals "Change"=some (some (.ref O4))) (of4:PySem.W.clsFacts K O4 ["level","rows","heads","entries","told_by_number","number_by_told","count","key","old","new"]=true)
 {O5:Addr} (oa5:PySem.W.nsIn K mainGlobals "PutIn"=some (some (.ref O5))) (of5:PySem.W.clsFacts K O5 ["level","rows","heads","entries","told_by_number","number_by_told","count","key","old","new"]=true)
 (om5:PySem.W.makesIn K O5=true) (ok5:PySem.W.keepIn K (.ref O5)=true)
 {O6:Addr} (oa6:PySem.W.nsIn K mainGlobals "TakenOut"=some (some (.ref O6))) (of6:PySem.W.clsFacts K O6 ["level","rows","heads","entries","told_by_number","number_by_told","count","key","old","new"]=true)
 (om6:PySem.W.makesIn K O6=true) (ok6:PySem.W.keepIn K (.ref O6)=true)
 {O7:Addr} (oa7:PySem.W.nsIn K mainGlobals "Turned"=some (some (.ref O7))) (of7:PySem.W.clsFacts K O7 ["level","rows","heads","entries","told_by_number","number_by_told","count","key","old","new"]=true)
 (om7:PySem.W.makesIn K O7=true) (ok7:PySem.W.keepIn K (.ref O7)=true)
 (oo:PySem.W.mtxOk K [O0,O1,O2,O3,O4,O5,O6,O7] isaM=true)
 {CT:Addr} {thd:Bool} {ynm yq:Str} {yN:Addr} {ybs:List Value} {ysn:List Str} {ysub:List Value} {yab:Bool} {ycol:Option Bool} {ydd:Option Addr} {yk0 yk1 yk2 yk3 yk5:Option Value}
 (t1:PySem.W.nsIn K mainGlobals "TableError"=some (some (.ref CT))) (t2:K.lookup CT=some (excClassObj ynm yq CT yN ybs PySem.W.bmV thd ysn ysub yab ycol ydd yk0 yk1 yk2 yk3 yk5 "ValueError.__new__")) (t3:PySem.W.nsOkIn K yN=true) (t4:PySem.W.nsIn K yN "__init__"=some none) (t5:PySem.W.tailIn K PySem.W.bmV PySem.W.bmV=true)
 (t6:PySem.W.specialIn K (.ref CT) "__getattribute__"=some (some (.builtin "type.__getattribute__"))) (t7:PySem.W.readsIn K CT (.type "type")=true) (t8:PySem.W.findCls K (.ref CT) (.type "type") "__init__"=some (.val (.builtin "ValueError.__init__")))
 (t9:PySem.W.tailIn K PySem.W.bmV (.ref CT::PySem.W.bmV)=true)
 {C0:Addr} {v0nm v0q:Str} {v0N:Addr} {v0bs:List Value} {v0sn:List Str} {v0sub:List Value} {v0ab:Bool} {v0col:Option Bool} {v0dd:Option Addr} {v0k0 v0k1 v0k2 v0k3 v0k5:Option Value}
 (p0:PySem.W.nsIn K mainGlobals "NoPage"=some (some (.ref C0))) (q0:K.lookup C0=some (excClassObj v0nm v0q C0 v0N v0bs (.ref CT::PySem.W.bmV) true v0sn v0sub v0ab v0col v0dd v0k0 v0k1 v0k2 v0k3 v0k5 "ValueError.__new__")) (r0:PySem.W.nsOkIn K v0N=true) (u0:PySem.W.xFacts K C0 ["number","key"]=true)
 (o0:PySem.W.keepIn K (.ref C0)=true)
 {C1:Addr} {v1nm v1q:Str} {v1N:Addr} {v1bs:List Value} {v1sn:List Str} {v1sub:List Value} {v1ab:Bool} {v1col:Option Bool} {v1dd:Option Addr} {v1k0 v1k1 v1k2 v1k3 v1k5:Option Value}
 (p1:PySem.W.nsIn K mainGlobals "NotRising"=some (some (.ref C1))) (q1:K.lookup C1=some (excClassObj v1nm v1q C1 v1N v1bs (.ref CT::PySem.W.bmV) true v1sn v1sub v1ab v1col v1dd v1k0 v1k1 v1k2 v1k3 v1k5 "ValueError.__new__")) (r1:PySem.W.nsOkIn K v1N=true) (u1:PySem.W.xFacts K C1 ["number","key"]=true)
 (o1:PySem.W.keepIn K (.ref C1)=true)
 {C2:Addr} {v2nm v2q:Str} {v2N:Addr} {v2bs:List Value} {v2sn:List Str} {v2sub:List Value} {v2ab:Bool} {v2col:Option Bool} {v2dd:Option Addr} {v2k0 v2k1 v2k2 v2k3 v2k5:Option Value}
 (p2:PySem.W.nsIn K mainGlobals "NoRow"=some (some (.ref C2))) (q2:K.lookup C2=some (excClassObj v2nm v2q C2 v2N v2bs (.ref CT::PySem.W.bmV) true v2sn v2sub v2ab v2col v2dd v2k0 v2k1 v2k2 v2k3 v2k5 "ValueError.__new__")) (r2:PySem.W.nsOkIn K v2N=true) (u2:PySem.W.xFacts K C2 ["number","key"]=true)
 (o2:PySem.W.keepIn K (.ref C2)=true)
 {C3:Addr} {v3nm v3q:Str} {v3N:Addr} {v3bs:List Value} {v3sn:List Str} {v3sub:List Value} {v3ab:Bool} {v3col:Option Bool} {v3dd:Option Addr} {v3k0 v3k1 v3k2 v3k3 v3k5:Option Value}
 (p3:PySem.W.nsIn K mainGlobals "Unfit"=some (some (.ref C3))) (q3:K.lookup C3=some (excClassObj v3nm v3q C3 v3N v3bs (.ref CT::PySem.W.bmV) true v3sn v3sub v3ab v3col v3dd v3k0 v3k1 v3k2 v3k3 v3k5 "ValueError.__new__")) (r3:PySem.W.nsOkIn K v3N=true) (u3:PySem.W.xFacts K C3 ["number","key"]=true)
 (o3:PySem.W.keepIn K (.ref C3)=true)
 (tt:PySem.W.tabOk K [C0,C1,C2,C3]=true) (tu:PySem.W.tvOk K [C0,C1,C2,C3]=true)
 {f1:Addr} {d1:FuncData}
 (a1:PySem.W.findIn K (.ref C1) "__init__"=some (some (.ref f1))) (j1:PySem.W.isFn K (.ref f1)=true)
 (F1:Fun K "__init__" "NotRising.__init__" s_NotRising_init f1 d1)
 {f2:Addr} {d2:FuncData}
 (a2:PySem.W.findIn K (.ref C2) "__init__"=some (some (.ref f2))) (j2:PySem.W.isFn K (.ref f2)=true)
 (F2:Fun K "__init__" "NoRow.__init__" s_NoRow_init f2 d2)
 {f3:Addr} {d3:FuncData}
 (a3:PySem.W.findIn K (.ref C3) "__init__"=some (some (.ref f3))) (j3:PySem.W.isFn K (.ref f3)=true)
 (F3:Fun K "__init__" "Unfit.__init__" s_Unfit_init f3 d3)
 {f4:Addr} {d4:FuncData}
 (a4:PySem.W.findIn K (.ref C0) "__init__"=some (some (.ref f4))) (j4:PySem.W.isFn K (.ref f4)=true)
 (F4:Fun K "__init__" "NoPage.__init__" s_NoPage_init f4 d4)
 {f5:Addr} {d5:FuncData}
 (a5:PySem.W.nsIn K mainGlobals "rank_of"=some (some (.ref f5)))
 (F5:Fun K "rank_of" "rank_of" s_rank_of f5 d5)
 {f6:Addr} {d6:FuncData}
 (a6:PySem.W.nsIn K mainGlobals "cells_at"=some (some (.ref f6)))
 (F6:Fun K "cells_at" "cells_at" s_cells_at f6 d6)
 {f7:Addr} {d7:FuncData}
 (a7:PySem.W.nsIn K mainGlobals "mixed_first"=some (some (.ref f7)))
 (F7:Fun K "mixed_first" "mixed_first" s_mixed_first f7 d7)
 {f8:Addr} {d8:FuncData}
 (a8_0:PySem.W.findIn K (.ref O0) "__init__"=some (some (.ref f8)))
 (j8:PySem.W.isFn K (.ref f8)=true)
 (F8:Fun K "__init__" "Page.__init__" s_Page_init f8 d8)
 (e8:PySem.W.clI K O0 f8=true)
 {f9:Addr} {d9:FuncData}
 (a9_0:PySem.W.findIn K (.ref O0) "told"=some (some (.ref f9)))
 (a9_1:PySem.W.findIn K (.ref O1) "told"=some (some (.ref f9)))
 (a9_2:PySem.W.findIn K (.ref O2) "told"=some (some (.ref f9)))
 (j9:PySem.W.isFn K (.ref f9)=true)
 (F9:Fun K "told" "Page.told" s_Page_told f9 d9)
 {f10:Addr} {d10:FuncData}
 (a10_0:PySem.W.findIn K (.ref O0) "first"=some (some (.ref f10)))
 (a10_1:PySem.W.findIn K (.ref O1) "first"=some (some (.ref f10)))
 (a10_2:PySem.W.findIn K (.ref O2) "first"=some (some (.ref f10)))
 (j10:PySem.W.isFn K (.ref f10)=true)
 (F10:Fun K "first" "Page.first" s_Page_first f10 d10)
 {f11:Addr} {d11:FuncData}
 (a11_0:PySem.W.findIn K (.ref O0) "under"=some (some (.ref f11)))
 (a11_1:PySem.W.findIn K (.ref O1) "under"=some (some (.ref f11)))
 (j11:PySem.W.isFn K (.ref f11)=true)
 (F11:Fun K "under" "Page.under" s_Page_under f11 d11)
 {f12:Addr} {d12:FuncData}
 (a12_1:PySem.W.findIn K (.ref O1) "spread"=some (some (.ref f12)))
 (j12:PySem.W.isFn K (.ref f12)=true)
 (F12:Fun K "spread" "Leaf.spread" s_Leaf_spread f12 d12)
 {f13:Addr} {d13:FuncData}
 (a13_2:PySem.W.findIn K (.ref O2) "under"=some (some (.ref f13)))
 (j13:PySem.W.isFn K (.ref f13)=true)
 (F13:Fun K "under" "Twig.under" s_Twig_under f13 d13)
 {f14:Addr} {d14:FuncData}
 (a14_3:PySem.W.findIn K (.ref O3) "__init__"=some (some (.ref f14)))
 (j14:PySem.W.isFn K (.ref f14)=true)
 (F14:Fun K "__init__" "Pages.__init__" s_Pages_init f14 d14)
 {f15:Addr} {d15:FuncData}
 (a15:PySem.W.nsIn K mainGlobals "rows_with"=some (some (.ref f15)))
 (F15:Fun K "rows_with" "rows_with" s_rows_with f15 d15)
 {f16:Addr} {d16:FuncData}
 (a16_4:PySem.W.findIn K (.ref O4) "__init__"=some (some (.ref f16)))
 (j16:PySem.W.isFn K (.ref f16)=true)
 (F16:Fun K "__init__" "Change.__init__" s_Change_init f16 d16)
 (e16:PySem.W.clI K O4 f16=true)
 {f17:Addr} {d17:FuncData}
 (a17_7:PySem.W.findIn K (.ref O7) "__init__"=some (some (.ref f17)))
 (j17:PySem.W.isFn K (.ref f17)=true)
 (F17:Fun K "__init__" "Change.__init__" s_Turned_init f17 d17)
 {f18:Addr} {d18:FuncData}
 (a18:PySem.W.nsIn K mainGlobals "_law_cell"=some (some (.ref f18)))
 (F18:Fun K "_law_cell" "_law_cell" s__law_cell f18 d18)
 {f19:Addr} {d19:FuncData}
 (a19:PySem.W.nsIn K mainGlobals "_law_key"=some (some (.ref f19)))
 (F19:Fun K "_law_key" "_law_key" s__law_key f19 d19)
 {f20:Addr} {d20:FuncData}
 (a20:PySem.W.nsIn K mainGlobals "_law_cells"=some (some (.ref f20)))
 (F20:Fun K "_law_cells" "_law_cells" s__law_cells f20 d20)
 {f21:Addr} {d21:FuncData}
 (a21:PySem.W.nsIn K mainGlobals "_law_risen"=some (some (.ref f21)))
 (F21:Fun K "_law_risen" "_law_risen" s__law_risen f21 d21)
 {f22:Addr} {d22:FuncData}
 (a22:PySem.W.nsIn K mainGlobals "before"=some (some (.ref f22)))
 (F22:Fun K "before" "before" s_before f22 d22)
 {f23:Addr} {d23:FuncData}
 (a23:PySem.W.nsIn K mainGlobals "mixed"=some (some (.ref f23)))
 (F23:Fun K "mixed" "mixed" s_mixed f23 d23)
 {f24:Addr} {d24:FuncData}
 (a24_1:PySem.W.findIn K (.ref O1) "__init__"=some (some (.ref f24)))
 (j24:PySem.W.isFn K (.ref f24)=true)
 (F24:Fun K "__init__" "Leaf.__init__" s_Leaf_init f24 d24)
 {f25:Addr} {d25:FuncData}
 (a25_2:PySem.W.findIn K (.ref O2) "__init__"=some (some (.ref f25)))
 (j25:PySem.W.isFn K (.ref f25)=true)
 (F25:Fun K "__init__" "Twig.__init__" s_Twig_init f25 d25)
 {f26:Addr} {d26:FuncData}
 (a26_3:PySem.W.findIn K (.ref O3) "kept"=some (some (.ref f26)))
 (j26:PySem.W.isFn K (.ref f26)=true)
 (F26:Fun K "kept" "Pages.kept" s_Pages_kept f26 d26)
 {f27:Addr} {d27:FuncData}
 (a27_5:PySem.W.findIn K (.ref O5) "__init__"=some (some (.ref f27)))
 (j27:PySem.W.isFn K (.ref f27)=true)
 (F27:Fun K "__init__" "PutIn.__init__" s_PutIn_init f27 d27)
 {f28:Addr} {d28:FuncData}
 (a28_6:PySem.W.findIn K (.ref O6) "__init__"=some (some (.ref f28)))
 (j28:PySem.W.isFn K (.ref f28)=true)
 (F28:Fun K "__init__" "TakenOut.__init__" s_TakenOut_init f28 d28)
 {f29:Addr} {d29:FuncData}
 (a29:PySem.W.nsIn K mainGlobals "place_of"=some (some (.ref f29)))
 (F29:Fun K "place_of" "place_of" s_place_of f29 d29)
 {f30:Addr} {d30:FuncData}
 (a30:PySem.W.nsIn K mainGlobals "level_of"=some (some (.ref f30)))
 (F30:Fun K "level_of" "level_of" s_level_of f30 d30)
 {f31:Addr} {d31:FuncData}
 (a31_3:PySem.W.findIn K (.ref O3) "told_at"=some (some (.ref f31)))
 (j31:PySem.W.isFn K (.ref f31)=true)
 (F31:Fun K "told_at" "Pages.told_at" s_Pages_told_at f31 d31)
 {f32:Addr} {d32:FuncData}
 (a32:PySem.W.nsIn K mainGlobals "last_up_to"=some (some (.ref f32)))
 (F32:Fun K "last_up_to" "last_up_to" s_last_up_to f32 d32)
 {f33:Addr} {d33:FuncData}
 (a33:PySem.W.nsIn K mainGlobals "page_of"=some (some (.ref f33)))
 (F33:Fun K "page_of" "page_of" s_page_of f33 d33)
 {f34:Addr} {d34:FuncData}
 (a34_3:PySem.W.findIn K (.ref O3) "card"=some (some (.ref f34)))
 (j34:PySem.W.isFn K (.ref f34)=true)
 (F34:Fun K "card" "Pages.card" s_Pages_card f34 d34)
 {f35:Addr} {d35:FuncData}
 (a35:PySem.W.nsIn K mainGlobals "cut"=some (some (.ref f35)))
 (F35:Fun K "cut" "cut" s_cut f35 d35)
 {f36:Addr} {d36:FuncData}
 (a36:PySem.W.nsIn K mainGlobals "_law_change"=some (some (.ref f36)))
 (F36:Fun K "_law_change" "_law_change" s__law_change f36 d36)
 {f37:Addr} {d37:FuncData}
 (a37_3:PySem.W.findIn K (.ref O3) "page"=some (some (.ref f37)))
 (j37:PySem.W.isFn K (.ref f37)=true)
 (F37:Fun K "page" "Pages.page" s_Pages_page f37 d37)
 {f38:Addr} {d38:FuncData}
 (a38:PySem.W.nsIn K mainGlobals "heads_of"=some (some (.ref f38)))
 (F38:Fun K "heads_of" "heads_of" s_heads_of f38 d38)
 {f39:Addr} {d39:FuncData}
 (a39:PySem.W.nsIn K mainGlobals "_law_drawn"=some (some (.ref f39)))
 (F39:Fun K "_law_drawn" "_law_drawn" s__law_drawn f39 d39)
 {f40:Addr} {d40:FuncData}
 (a40:PySem.W.nsIn K mainGlobals "seek"=some (some (.ref f40)))
 (F40:Fun K "seek" "seek" s_seek f40 d40)
 {f41:Addr} {d41:FuncData}
 (a41:PySem.W.nsIn K mainGlobals "crowned"=some (some (.ref f41)))
 (F41:Fun K "crowned" "crowned" s_crowned f41 d41)
 {f42:Addr} {d42:FuncData}
 (a42:PySem.W.nsIn K mainGlobals "lowered"=some (some (.ref f42)))
 (F42:Fun K "lowered" "lowered" s_lowered f42 d42)
 {f43:Addr} {d43:FuncData}
 (a43:PySem.W.nsIn K mainGlobals "built"=some (some (.ref f43)))
 (F43:Fun K "built" "built" s_built f43 d43)
 {f44:Addr} {d44:FuncData}
 (a44_0:PySem.W.findIn K (.ref O0) "spread"=some (some (.ref f44)))
 (a44_2:PySem.W.findIn K (.ref O2) "spread"=some (some (.ref f44)))
 (j44:PySem.W.isFn K (.ref f44)=true)
 (F44:Fun K "spread" "Page.spread" s_Page_spread f44 d44)
 {f45:Addr} {d45:FuncData}
 (a45:PySem.W.nsIn K mainGlobals "rows_of"=some (some (.ref f45)))
 (F45:Fun K "rows_of" "rows_of" s_rows_of f45 d45)
 {f46:Addr} {d46:FuncData}
 (a46:PySem.W.nsIn K mainGlobals "heads_with"=some (some (.ref f46)))
 (F46:Fun K "heads_with" "heads_with" s_heads_with f46 d46)
 {f47:Addr} {d47:FuncData}
 (a47:PySem.W.nsIn K mainGlobals "joined"=some (some (.ref f47)))
 (F47:Fun K "joined" "joined" s_joined f47 d47)
 {f48:Addr} {d48:FuncData}
 (a48:PySem.W.nsIn K mainGlobals "put"=some (some (.ref f48)))
 (F48:Fun K "put" "put" s_put f48 d48)
 {f49:Addr} {d49:FuncData}
 (a49:PySem.W.nsIn K mainGlobals "heads_without"=some (some (.ref f49)))
 (F49:Fun K "heads_without" "heads_without" s_heads_without f49 d49)
 {f50:Addr} {d50:FuncData}
 (a50:PySem.W.nsIn K mainGlobals "take"=some (some (.ref f50)))
 (F50:Fun K "take" "take" s_take f50 d50)
 {f51:Addr} {d51:FuncData}
 (a51_4:PySem.W.findIn K (.ref O4) "onto"=some (some (.ref f51)))
 (a51_5:PySem.W.findIn K (.ref O5) "onto"=some (some (.ref f51)))
 (a51_6:PySem.W.findIn K (.ref O6) "onto"=some (some (.ref f51)))
 (a51_7:PySem.W.findIn K (.ref O7) "onto"=some (some (.ref f51)))
 (j51:PySem.W.isFn K (.ref f51)=true)
 (F51:Fun K "onto" "Change.onto" s_Change_onto f51 d51)
 {f52:Addr} {d52:FuncData}
 (a52:PySem.W.nsIn K mainGlobals "moved"=some (some (.ref f52)))
 (F52:Fun K "moved" "moved" s_moved f52 d52)
 {f53:Addr} {d53:FuncData}
 (a53:PySem.W.nsIn K mainGlobals "_law_refused"=some (some (.ref f53)))
 (F53:Fun K "_law_refused" "_law_refused" s__law_refused f53 d53)
 {f54:Addr} {d54:FuncData}
 (a54:PySem.W.nsIn K mainGlobals "law"=some (some (.ref f54)))
 (F54:Fun K "law" "law" s_law f54 d54)
 (z1:PySem.W.nsIn K mainGlobals "ValueError"=some none)
 (z2:PySem.W.nsIn K mainGlobals "dict"=some none)
 (z3:PySem.W.nsIn K mainGlobals "int"=some none)
 (z4:PySem.W.nsIn K mainGlobals "isinstance"=some none)
 (z5:PySem.W.nsIn K mainGlobals "len"=some none)
 (z6:PySem.W.nsIn K mainGlobals "list"=some none)
 (z7:PySem.W.nsIn K mainGlobals "max"=some none)
 (z8:PySem.W.nsIn K mainGlobals "ord"=some none)
 (z9:PySem.W.nsIn K mainGlobals "range"=some none)
 (z10:PySem.W.nsIn K mainGlobals "sorted"=some none)
 (z11:PySem.W.nsIn K mainGlobals "str"=some none)
 (z12:PySem.W.nsIn K mainGlobals "tuple"=some none)
 {tk1:Tok} (g1:PySem.W.nsIn K mainGlobals "MODULUS"=some (some (.int (2147483647) tk1)))
 {tk2:Tok} (g2:PySem.W.nsIn K mainGlobals "TOP_LEVEL"=some (some (.int (6) tk2)))
 : ∃ fd:FuncData,(∀ (s:Shared) (v:Value),BindsTo s fd ⟨[v],[]⟩ [("_law_script",v)])/\∀ base:Heap,K.In base->base.Ns mainGlobals mg->FnOk l.prog w K mg base CX0 28 fa fd ["_law_script"] (sp_law K):=by
 have e:=hfa.symm.trans (PySem.W.mg_of X G a54)
 cases e
 have k1:=F1.kp
 have b1:=F1.binds (ps:=["self","key"]) fun _ _ _ _ _ _=>lenU2 fun _ _=>rfl
 have k2:=F2.kp
 have b2:=F2.binds (ps:=["self","key"]) fun _ _ _ _ _ _=>lenU2 fun _ _=>rfl
 have k3:=F3.kp
 have b3:=F3.binds (ps:=["self","key"]) fun _ _ _ _ _ _=>lenU2 fun _ _=>rfl
 have k4:=F4.kp
 have b4:=F4.binds (ps:=["self","number"]) fun _ _ _ _ _ _=>lenU2 fun _ _=>rfl
 have k5:=F5.kp
 have b5:=F5.binds (ps:=["value"]) fun _ _ _ _ _ _=>lenU1 fun _=>rfl
 have k6:=F6.kp
 have b6:=F6.binds (ps:=["rows","at","key"]) fun _ _ _ _ _ _=>lenU3 fun _ _ _=>rfl
 have k7:=F7.kp
 have b7:=F7.binds (ps:=["key"]) fun _ _ _ _ _ _=>lenU1 fun _=>rfl
 have k8:=F8.kp
 have b8:=F8.binds (ps:=["self","level","entries"]) fun _ _ _ _ _ _=>lenU3 fun _ _ _=>rfl
 have k9:=F9.kp
 have b9:=F9.binds (ps:=["self"]) fun _ _ _ _ _ _=>lenU1 fun _=>rfl
 have k10:=F10.kp
 have b10:=F10.binds (ps:=["self"]) fun _ _ _ _ _ _=>lenU1 fun _=>rfl
 have k11:=F11.kp
 have b11:=F11.binds (ps:=["self"]) fun _ _ _ _ _ _=>lenU1 fun _=>rfl
 have k12:=F12.kp
 have b12:=F12.binds (ps:=["self","pages"]) fun _ _ _ _ _ _=>lenU2 fun _ _=>rfl
 have k13:=F13.kp
 have b13:=F13.binds (ps:=["self"]) fun _ _ _ _ _ _=>lenU1 fun _=>rfl
 have k14:=F14.kp
 have b14:=F14.binds (ps:=["self"]) fun _ _ _ _ _ _=>lenU1 fun _=>rfl
 have k15:=F15.kp
 have b15:=F15.binds (ps:=["rows","at","row"]) fun _ _ _ _ _ _=>lenU3 fun _ _ _=>rfl
 have k16:=F16.kp
 have b16:=F16.binds (ps:=["self","key","old","new"]) fun _ _ _ _ _ _=>lenU4 fun _ _ _ _=>rfl
 have k17:=F17.kp
 have b17:=F17.binds (ps:=["self","key","old","new"]) fun _ _ _ _ _ _=>lenU4 fun _ _ _ _=>rfl
 have k18:=F18.kp
 have b18:=F18.binds (ps:=["_law_script","_law_k"]) fun _ _ _ _ _ _=>lenU2 fun _ _=>rfl
 have k19:=F19.kp
 have b19:=F19.binds (ps:=["_law_cell_here"]) fun _ _ _ _ _ _=>lenU1 fun _=>rfl
 have k20:=F20.kp
 have b20:=F20.binds (ps:=["_law_cell_here"]) fun _ _ _ _ _ _=>lenU1 fun _=>rfl
 have k21:=F21.kp
 have b21:=F21.binds (ps:=["_law_known"]) fun _ _ _ _ _ _=>lenU1 fun _=>rfl
 have k22:=F22.kp
 have b22:=F22.binds (ps:=["one","other"]) fun _ _ _ _ _ _=>lenU2 fun _ _=>rfl
 have k23:=F23.kp
 have b23:=F23.binds (ps:=["key"]) fun _ _ _ _ _ _=>lenU1 fun _=>rfl
 have k24:=F24.kp
 have b24:=F24.binds (ps:=["self","rows"]) fun _ _ _ _ _ _=>lenU2 fun _ _=>rfl
 have k25:=F25.kp
 have b25:=F25.binds (ps:=["self","level","heads"]) fun _ _ _ _ _ _=>lenU3 fun _ _ _=>rfl
 have k26:=F26.kp
 have b26:=F26.binds (ps:=["self","page"]) fun _ _ _ _ _ _=>lenU2 fun _ _=>rfl
 have k27:=F27.kp
 have b27:=F27.binds (ps:=["self","key","new"]) fun _ _ _ _ _ _=>lenU3 fun _ _ _=>rfl
 have k28:=F28.kp
 have b28:=F28.binds (ps:=["self","key","old"]) fun _ _ _ _ _ _=>lenU3 fun _ _ _=>rfl
 have k29:=F29.kp
 have b29:=F29.binds (ps:=["keys","key"]) fun _ _ _ _ _ _=>lenU2 fun _ _=>rfl
 have k30:=F30.kp
 have b30:=F30.binds (ps:=["key"]) fun _ _ _ _ _ _=>lenU1 fun _=>rfl
 have k31:=F31.kp
 have b31:=F31.binds (ps:=["self","number"]) fun _ _ _ _ _ _=>lenU2 fun _ _=>rfl
 have k32:=F32.kp
 have b32:=F32.binds (ps:=["entries","key"]) fun _ _ _ _ _ _=>lenU2 fun _ _=>rfl
 have k33:=F33.kp
 have b33:=F33.binds (ps:=["level","entries"]) fun _ _ _ _ _ _=>lenU2 fun _ _=>rfl
 have k34:=F34.kp
 have b34:=F34.binds (ps:=["self","number"]) fun _ _ _ _ _ _=>lenU2 fun _ _=>rfl
 have k35:=F35.kp
 have b35:=F35.binds (ps:=["entries","level"]) fun _ _ _ _ _ _=>lenU2 fun _ _=>rfl
 have k36:=F36.kp
 have b36:=F36.binds (ps:=["_law_known","_law_key_here","_law_cell_here"]) fun _ _ _ _ _ _=>lenU3 fun _ _ _=>rfl
 have k37:=F37.kp
 have b37:=F37.binds (ps:=["self","number"]) fun _ _ _ _ _ _=>lenU2 fun _ _=>rfl
 have k38:=F38.kp
 have b38:=F38.binds (ps:=["pages","level","entries"]) fun _ _ _ _ _ _=>lenU3 fun _ _ _=>rfl
 have k39:=F39.kp
 have b39:=F39.binds (ps:=["_law_script","_law_base","_law_known"]) fun _ _ _ _ _ _=>lenU3 fun _ _ _=>rfl
 have k40:=F40.kp
 have b40:=F40.binds (ps:=["pages","root","key"]) fun _ _ _ _ _ _=>lenU3 fun _ _ _=>rfl
 have k41:=F41.kp
 have b41:=F41.binds (ps:=["pages","level","heads"]) fun _ _ _ _ _ _=>lenU3 fun _ _ _=>rfl
 have k42:=F42.kp
 have b42:=F42.binds (ps:=["pages","heads"]) fun _ _ _ _ _ _=>lenU2 fun _ _=>rfl
 have k43:=F43.kp
 have b43:=F43.binds (ps:=["pages","rows"]) fun _ _ _ _ _ _=>lenU2 fun _ _=>rfl
 have k44:=F44.kp
 have b44:=F44.binds (ps:=["self","pages"]) fun _ _ _ _ _ _=>lenU2 fun _ _=>rfl
 have k45:=F45.kp
 have b45:=F45.binds (ps:=["pages","root"]) fun _ _ _ _ _ _=>lenU2 fun _ _=>rfl
 have k46:=F46.kp
 have b46:=F46.binds (ps:=["pages","number","row"]) fun _ _ _ _ _ _=>lenU3 fun _ _ _=>rfl
 have k47:=F47.kp
 have b47:=F47.binds (ps:=["pages","left","right"]) fun _ _ _ _ _ _=>lenU3 fun _ _ _=>rfl
 have k48:=F48.kp
 have b48:=F48.binds (ps:=["pages","root","key","cells"]) fun _ _ _ _ _ _=>lenU4 fun _ _ _ _=>rfl
 have k49:=F49.kp
 have b49:=F49.binds (ps:=["pages","number","key"]) fun _ _ _ _ _ _=>lenU3 fun _ _ _=>rfl
 have k50:=F50.kp
 have b50:=F50.binds (ps:=["pages","root","key"]) fun _ _ _ _ _ _=>lenU3 fun _ _ _=>rfl
 have k51:=F51.kp
 have b51:=F51.binds (ps:=["self","pages","root"]) fun _ _ _ _ _ _=>lenU3 fun _ _ _=>rfl
 have k52:=F52.kp
 have b52:=F52.binds (ps:=["pages","root","changes"]) fun _ _ _ _ _ _=>lenU3 fun _ _ _=>rfl
 have k53:=F53.kp
 have b53:=F53.binds (ps:=["_law_pages","_law_root","_law_changes","_law_wrong"]) fun _ _ _ _ _ _=>lenU4 fun _ _ _ _=>rfl
 have k54:=F54.kp
 have b54:=F54.binds (ps:=["_law_script"]) fun _ _ _ _ _ _=>lenU1 fun _=>rfl
 have Z:Zs mg:=⟨PySem.W.mg_none_of X G z1,PySem.W.mg_none_of X G z2,PySem.W.mg_none_of X G z3,PySem.W.mg_none_of X G z4,PySem.W.mg_none_of X G z5,PySem.W.mg_none_of X G z6,PySem.W.mg_none_of X G z7,PySem.W.mg_none_of X G z8,PySem.W.mg_none_of X G z9,PySem.W.mg_none_of X G z10,PySem.W.mg_none_of X G z11,PySem.W.mg_none_of X G z12,⟨_,PySem.W.mg_of X G g1⟩,⟨_,PySem.W.mg_of X G g2⟩⟩
 have X0:PySem.W.XCl K C0 CT:=PySem.W.XCl.of ⟨v0nm,v0q,v0N,v0bs,v0sn,v0sub,v0ab,v0col,v0dd,v0k0,v0k1,v0k2,v0k3,v0k5,q0,r0⟩ t9 u0 ta tb
 have X1:PySem.W.XCl K C1 CT:=PySem.W.XCl.of ⟨v1nm,v1q,v1N,v1bs,v1sn,v1sub,v1ab,v1col,v1dd,v1k0,v1k1,v1k2,v1k3,v1k5,q1,r1⟩ t9 u1 ta tb
 have X2:PySem.W.XCl K C2 CT:=PySem.W.XCl.of ⟨v2nm,v2q,v2N,v2bs,v2sn,v2sub,v2ab,v2col,v2dd,v2k0,v2k1,v2k2,v2k3,v2k5,q2,r2⟩ t9 u2 ta tb
 have X3:PySem.W.XCl K C3 CT:=PySem.W.XCl.of ⟨v3nm,v3q,v3N,v3bs,v3sn,v3sub,v3ab,v3col,v3dd,v3k0,v3k1,v3k2,v3k3,v3k5,q3,r3⟩ t9 u3 ta tb
 have T:Tx K mg CT (fun i=>[C0,C1,C2,C3].getD i 0) (fun i=>[O0,O1,O2,O3,O4,O5,O6,O7].getD i 0):=⟨PySem.W.mg_of X G oa0,
  PySem.W.mg_of X G oa1,
  PySem.W.mg_of X G oa2,
  PySem.W.mg_of X G oa3,
  PySem.W.mg_of X G oa4,
  PySem.W.mg_of X G oa5,
  PySem.W.mg_of X G oa6,
  PySem.W.mg_of X G oa7,
  fun i hi=>match i,hi with | 0,_=>ObC.of of0 ta tb | 1,_=>ObC.of of1 ta tb | 2,_=>ObC.of of2 ta tb | 3,_=>ObC.of of3 ta tb | 4,_=>ObC.of of4 ta tb | 5,_=>ObC.of of5 ta tb | 6,_=>ObC.of of6 ta tb | 7,_=>ObC.of of7 ta tb | m+8,h=>absurd h (by omega),
  PySem.W.mtx_of oo,
  ⟨PySem.W.mg_of X G t1,⟨⟨ynm,yq,yN,ybs,thd,ysn,ysub,yab,ycol,ydd,yk0,yk1,yk2,yk3,yk5,t2,t3,t4⟩,t5⟩,t6,t7,t8⟩,
  PySem.W.mg_of X G p0,
  PySem.W.mg_of X G p1,
  PySem.W.mg_of X G p2,
  PySem.W.mg_of X G p3,
  fun i hi=>match i,hi with | 0,_=>X0 | 1,_=>X1 | 2,_=>X2 | 3,_=>X3 | m+4,h=>absurd h (by omega),
  fun i hi=>match i,hi with | 0,_=>fun f hf=>PySem.W.xFacts_no u0 hf | 1,_=>fun f hf=>PySem.W.xFacts_no u1 hf | 2,_=>fun f hf=>PySem.W.xFacts_no u2 hf | 3,_=>fun f hf=>PySem.W.xFacts_no u3 hf | m+4,h=>absurd h (by omega),
  PySem.W.xtab_of tt,
  PySem.W.xtv_of tu⟩
 have FL:=F54
 obtain⟨_,_,kV,dc,pm,an,cdv,ct,_,rfl,_,_⟩:=FL.ex
 refine⟨PySem.W.fnOf "law" "law" (defArgs s_law) (defBody s_law) (defScope s_law) .none kV dc pm an cdv ct,fun s v=>.of_eq rfl,fun base _ _=>?_⟩
 have K_NotRising:MkX l.prog w K mg base 1 "NotRising" C1 CT ["key"]:=⟨_,_,_,ok_NotRising_init Z T F1,b1,X1,a1,j1,o1,PySem.W.mg_of X G p1⟩
 have K_NoRow:MkX l.prog w K mg base 1 "NoRow" C2 CT ["key"]:=⟨_,_,_,ok_NoRow_init Z T F2,b2,X2,a2,j2,o2,PySem.W.mg_of X G p2⟩
 have K_Unfit:MkX l.prog w K mg base 1 "Unfit" C3 CT ["key"]:=⟨_,_,_,ok_Unfit_init Z T F3,b3,X3,a3,j3,o3,PySem.W.mg_of X G p3⟩
 have K_NoPage:MkX l.prog w K mg base 1 "NoPage" C0 CT ["number"]:=⟨_,_,_,ok_NoPage_init Z T F4,b4,X0,a4,j4,o0,PySem.W.mg_of X G p0⟩
 have C_rank_of:Cal l.prog w K mg base 1 "rank_of" ["value"] (sp_rank_of K):=⟨_,_,ok_rank_of Z T  F5,b5,k5,PySem.W.mg_of X G a5⟩
 have C_cells_at:Cal l.prog w K mg base 1 "cells_at" ["rows","at","key"] (sp_cells_at K):=⟨_,_,ok_cells_at Z T  F6,b6,k6,PySem.W.mg_of X G a6⟩
 have C_mixed_first:Cal l.prog w K mg base 1 "mixed_first" ["key"] (sp_mixed_first K):=⟨_,_,ok_mixed_first Z T  F7,b7,k7,PySem.W.mg_of X G a7⟩
 have B_Page:BaI l.prog w K mg base 1 "Page" (sp_Page_init K (fun i=>[O0,O1,O2,O3,O4,O5,O6,O7].getD i 0)):=⟨O0,_,_,_,PySem.W.mg_of X G oa0,ClI.of e8,k8,ok_Page_init Z T  F8,b8⟩
 have M_Page_told:MeV l.prog w K mg base 1 O0 "told" (sp_Page_told K (fun i=>[O0,O1,O2,O3,O4,O5,O6,O7].getD i 0)):=⟨_,_,_,⟨a9_0,j9,k9⟩,ok_Page_told Z T  F9,b9⟩
 have M_Leaf_told:MeV l.prog w K mg base 1 O1 "told" (sp_Page_told K (fun i=>[O0,O1,O2,O3,O4,O5,O6,O7].getD i 0)):=⟨_,_,_,⟨a9_1,j9,k9⟩,ok_Page_told Z T  F9,b9⟩
 have M_Twig_told:MeV l.prog w K mg base 1 O2 "told" (sp_Page_told K (fun i=>[O0,O1,O2,O3,O4,O5,O6,O7].getD i 0)):=⟨_,_,_,⟨a9_2,j9,k9⟩,ok_Page_told Z T  F9,b9⟩
 have M_Page_first:MeV l.prog w K mg base 1 O0 "first" (sp_Page_first K (fun i=>[O0,O1,O2,O3,O4,O5,O6,O7].getD i 0)):=⟨_,_,_,⟨a10_0,j10,k10⟩,ok_Page_first Z T  F10,b10⟩
 have M_Leaf_first:MeV l.prog w K mg base 1 O1 "first" (sp_Page_first K (fun i=>[O0,O1,O2,O3,O4,O5,O6,O7].getD i 0)):=⟨_,_,_,⟨a10_1,j10,k10⟩,ok_Page_first Z T  F10,b10⟩
 have M_Twig_first:MeV l.prog w K mg base 1 O2 "first" (sp_Page_first K (fun i=>[O0,O1,O2,O3,O4,O5,O6,O7].getD i 0)):=⟨_,_,_,⟨a10_2,j10,k10⟩,ok_Page_first Z T  F10,b10⟩
 have M_Page_under:MeV l.prog w K mg base 1 O0 "under" (sp_Page_under K (fun i=>[O0,O1,O2,O3,O4,O5,O6,O7].getD i 0)):=⟨_,_,_,⟨a11_0,j11,k11⟩,ok_Page_under Z T  F11,b11⟩
 have M_Leaf_under:MeV l.prog w K mg base 1 O1 "under" (sp_Page_under K (fun i=>[O0,O1,O2,O3,O4,O5,O6,O7].getD i 0)):=⟨_,_,_,⟨a11_1,j11,k11⟩,ok_Page_under Z T  F11,b11⟩
 have M_Leaf_spread:MeV l.prog w K mg base 1 O1 "spread" (sp_Leaf_spread l.prog w (fun i=>[O0,O1,O2,O3,O4,O5,O6,O7].getD i 0)):=⟨_,_,_,⟨a12_1,j12,k12⟩,ok_Leaf_spread Z T  F12,b12⟩
 have M_Twig_under:MeV l.prog w K mg base 1 O2 "under" (sp_Twig_under K (fun i=>[O0,O1,O2,O3,O4,O5,O6,O7].getD i 0)):=⟨_,_,_,⟨a13_2,j13,k13⟩,ok_Twig_under Z T  F13,b13⟩
 have K_Pages:MkV l.prog w K mg base 1 "Pages" O3 (sp_Pages_init l.prog w (fun i=>[O0,O1,O2,O3,O4,O5,O6,O7].getD i 0)):=⟨_,_,_,⟨om3,a14_3,j14,ok3⟩,ok_Pages_init Z T  F14,b14,PySem.W.mg_of X G oa3⟩
 have C_rows_with:Cal l.prog w K mg base 1 "rows_with" ["rows","at","row"] (sp_rows_with K):=⟨_,_,ok_rows_with Z T  F15,b15,k15,PySem.W.mg_of X G a15⟩
 have B_Change:BaI l.prog w K mg base 1 "Change" (sp_Change_init K (fun i=>[O0,O1,O2,O3,O4,O5,O6,O7].getD i 0)):=⟨O4,_,_,_,PySem.W.mg_of X G oa4,ClI.of e16,k16,ok_Change_init Z T  F16,b16⟩
 have K_Turned:MkV l.prog w K mg base 1 "Turned" O7 (sp_Turned_init K (fun i=>[O0,O1,O2,O3,O4,O5,O6,O7].getD i 0)):=⟨_,_,_,⟨om7,a17_7,j17,ok7⟩,ok_Turned_init Z T  F17,b17,PySem.W.mg_of X G oa7⟩
 have C__law_cell:Cal l.prog w K mg base 1 "_law_cell" ["_law_script","_law_k"] (sp__law_cell K):=⟨_,_,ok__law_cell Z T  F18,b18,k18,PySem.W.mg_of X G a18⟩
 have C__law_key:Cal l.prog w K mg base 1 "_law_key" ["_law_cell_here"] (sp__law_key K):=⟨_,_,ok__law_key Z T  F19,b19,k19,PySem.W.mg_of X G a19⟩
 have C__law_cells:Cal l.prog w K mg base 1 "_law_cells" ["_law_cell_here"] (sp__law_cells K):=⟨_,_,ok__law_cells Z T  F20,b20,k20,PySem.W.mg_of X G a20⟩
 have C__law_risen:Cal l.prog w K mg base 1 "_law_risen" ["_law_known"] (sp__law_risen K):=⟨_,_,ok__law_risen Z T  F21,b21,k21,PySem.W.mg_of X G a21⟩
 have C_before:Cal l.prog w K mg base 2 "before" ["one","other"] (sp_before K):=⟨_,_,ok_before Z T C_rank_of F22,b22,k22,PySem.W.mg_of X G a22⟩
 have C_mixed:Cal l.prog w K mg base 2 "mixed" ["key"] (sp_mixed K):=⟨_,_,ok_mixed Z T C_mixed_first F23,b23,k23,PySem.W.mg_of X G a23⟩
 have K_Leaf:MkV l.prog w K mg base 2 "Leaf" O1 (sp_Leaf_init K (fun i=>[O0,O1,O2,O3,O4,O5,O6,O7].getD i 0)):=⟨_,_,_,⟨om1,a24_1,j24,ok1⟩,ok_Leaf_init Z T B_Page F24,b24,PySem.W.mg_of X G oa1⟩
 have K_Twig:MkV l.prog w K mg base 2 "Twig" O2 (sp_Twig_init K (fun i=>[O0,O1,O2,O3,O4,O5,O6,O7].getD i 0)):=⟨_,_,_,⟨om2,a25_2,j25,ok2⟩,ok_Twig_init Z T B_Page F25,b25,PySem.W.mg_of X G oa2⟩
 have M_Pages_kept:MeV l.prog w K mg base 2 O3 "kept" (sp_Pages_kept l.prog w (fun i=>[O0,O1,O2,O3,O4,O5,O6,O7].getD i 0)):=⟨_,_,_,⟨a26_3,j26,k26⟩,ok_Pages_kept Z T M_Page_told M_Leaf_told M_Twig_told F26,b26⟩
 have K_PutIn:MkV l.prog w K mg base 2 "PutIn" O5 (sp_PutIn_init K (fun i=>[O0,O1,O2,O3,O4,O5,O6,O7].getD i 0)):=⟨_,_,_,⟨om5,a27_5,j27,ok5⟩,ok_PutIn_init Z T B_Change F27,b27,PySem.W.mg_of X G oa5⟩
 have K_TakenOut:MkV l.prog w K mg base 2 "TakenOut" O6 (sp_TakenOut_init K (fun i=>[O0,O1,O2,O3,O4,O5,O6,O7].getD i 0)):=⟨_,_,_,⟨om6,a28_6,j28,ok6⟩,ok_TakenOut_init Z T B_Change F28,b28,PySem.W.mg_of X G oa6⟩
 have C_place_of:Cal l.prog w K mg base 3 "place_of" ["keys","key"] (sp_place_of K):=⟨_,_,ok_place_of Z T C_before F29,b29,k29,PySem.W.mg_of X G a29⟩
 have C_level_of:Cal l.prog w K mg base 3 "level_of" ["key"] (sp_level_of K):=⟨_,_,ok_level_of Z T C_mixed F30,b30,k30,PySem.W.mg_of X G a30⟩
 have M_Pages_told_at:MeV l.prog w K mg base 3 O3 "told_at" (sp_Pages_told_at l.prog w (fun i=>[C0,C1,C2,C3].getD i 0) (fun i=>[O0,O1,O2,O3,O4,O5,O6,O7].getD i 0)):=⟨_,_,_,⟨a31_3,j31,k31⟩,ok_Pages_told_at Z T K_NoPage F31,b31⟩
 have C_last_up_to:Cal l.prog w K mg base 4 "last_up_to" ["entries","key"] (sp_last_up_to K):=⟨_,_,ok_last_up_to Z T C_place_of F32,b32,k32,PySem.W.mg_of X G a32⟩
 have C_page_of:Cal l.prog w K mg base 4 "page_of" ["level","entries"] (sp_page_of K (fun i=>[O0,O1,O2,O3,O4,O5,O6,O7].getD i 0)):=⟨_,_,ok_page_of Z T K_Twig K_Leaf F33,b33,k33,PySem.W.mg_of X G a33⟩
 have M_Pages_card:MeV l.prog w K mg base 4 O3 "card" (sp_Pages_card l.prog w (fun i=>[C0,C1,C2,C3].getD i 0) (fun i=>[O0,O1,O2,O3,O4,O5,O6,O7].getD i 0)):=⟨_,_,_,⟨a34_3,j34,k34⟩,ok_Pages_card Z T M_Pages_told_at F34,b34⟩
 have C_cut:Cal l.prog w K mg base 4 "cut" ["entries","level"] (sp_cut K):=⟨_,_,ok_cut Z T C_level_of F35,b35,k35,PySem.W.mg_of X G a35⟩
 have C__law_change:Cal l.prog w K mg base 4 "_law_change" ["_law_known","_law_key_here","_law_cell_here"] (sp__law_change K (fun i=>[O0,O1,O2,O3,O4,O5,O6,O7].getD i 0)):=⟨_,_,ok__law_change Z T C__law_cells K_Turned K_PutIn K_TakenOut F36,b36,k36,PySem.W.mg_of X G a36⟩
 have M_Pages_page:MeV l.prog w K mg base 5 O3 "page" (sp_Pages_page l.prog w (fun i=>[C0,C1,C2,C3].getD i 0) (fun i=>[O0,O1,O2,O3,O4,O5,O6,O7].getD i 0)):=⟨_,_,_,⟨a37_3,j37,k37⟩,ok_Pages_page Z T C_page_of M_Pages_told_at F37,b37⟩
 have C_heads_of:Cal l.prog w K mg base 5 "heads_of" ["pages","level","entries"] (sp_heads_of l.prog w (fun i=>[O0,O1,O2,O3,O4,O5,O6,O7].getD i 0)):=⟨_,_,ok_heads_of Z T C_cut C_page_of M_Page_first M_Leaf_first M_Twig_first M_Pages_kept F38,b38,k38,PySem.W.mg_of X G a38⟩
 have C__law_drawn:Cal l.prog w K mg base 5 "_law_drawn" ["_law_script","_law_base","_law_known"] (sp__law_drawn K (fun i=>[O0,O1,O2,O3,O4,O5,O6,O7].getD i 0)):=⟨_,_,ok__law_drawn Z T C__law_change C__law_key F39,b39,k39,PySem.W.mg_of X G a39⟩
 have C_seek:Cal l.prog w K mg base 6 "seek" ["pages","root","key"] (sp_seek l.prog w (fun i=>[C0,C1,C2,C3].getD i 0) (fun i=>[O0,O1,O2,O3,O4,O5,O6,O7].getD i 0)):=⟨_,_,ok_seek Z T C_last_up_to C_cells_at M_Pages_page F40,b40,k40,PySem.W.mg_of X G a40⟩
 have C_crowned:Cal l.prog w K mg base 6 "crowned" ["pages","level","heads"] (sp_crowned l.prog w (fun i=>[O0,O1,O2,O3,O4,O5,O6,O7].getD i 0)):=⟨_,_,ok_crowned Z T C_heads_of F41,b41,k41,PySem.W.mg_of X G a41⟩
 have C_lowered:Cal l.prog w K mg base 6 "lowered" ["pages","heads"] (sp_lowered l.prog w (fun i=>[C0,C1,C2,C3].getD i 0) (fun i=>[O0,O1,O2,O3,O4,O5,O6,O7].getD i 0)):=⟨_,_,ok_lowered Z T M_Page_under M_Leaf_under M_Twig_under M_Pages_page F42,b42,k42,PySem.W.mg_of X G a42⟩
 have C_built:Cal1 l.prog w K mg base 7 "built" ["pages","rows"] (sp_built l.prog w (fun i=>[C0,C1,C2,C3].getD i 0) (fun i=>[O0,O1,O2,O3,O4,O5,O6,O7].getD i 0)):=⟨_,_,ok_built Z T C_crowned C_heads_of C_before K_NotRising F43,b43,k43,PySem.W.mg_of X G a43⟩
 have M_Twig_spread:∀ n,MeV l.prog w K mg base (5+n) O2 "spread" (sp_Page_spread l.prog w (fun i=>[C0,C1,C2,C3].getD i 0) (fun i=>[O0,O1,O2,O3,O4,O5,O6,O7].getD i 0) n):=fun n=>by
  induction n with
  | zero=>exact⟨_,_,_,⟨a44_2,j44,k44⟩,fn_never1,b44⟩
  | succ n ih=>exact⟨_,_,_,⟨a44_2,j44,k44⟩,ok_Page_spread Z T M_Page_under M_Leaf_under M_Twig_under M_Leaf_spread M_Pages_page ih F44,b44⟩
 have C_rows_of:Cal l.prog w K mg base 14 "rows_of" ["pages","root"] (sp_rows_of l.prog w (fun i=>[C0,C1,C2,C3].getD i 0) (fun i=>[O0,O1,O2,O3,O4,O5,O6,O7].getD i 0)):=⟨_,_,ok_rows_of Z T M_Twig_spread M_Leaf_spread M_Pages_page F45,b45,k45,PySem.W.mg_of X G a45⟩
 have C_heads_with:∀ n,Cal l.prog w K mg base (6+n) "heads_with" ["pages","number","row"] (sp_heads_with l.prog w (fun i=>[C0,C1,C2,C3].getD i 0) (fun i=>[O0,O1,O2,O3,O4,O5,O6,O7].getD i 0) n):=fun n=>by
  induction n with
  | zero=>exact⟨_,_,fn_never1,b46,k46,PySem.W.mg_of X G a46⟩
  | succ n ih=>exact⟨_,_,ok_heads_with Z T C_last_up_to C_heads_of C_rows_with M_Pages_page ih F46,b46,k46,PySem.W.mg_of X G a46⟩
 have C_joined:∀ n,Cal l.prog w K mg base (6+n) "joined" ["pages","left","right"] (sp_joined l.prog w (fun i=>[C0,C1,C2,C3].getD i 0) (fun i=>[O0,O1,O2,O3,O4,O5,O6,O7].getD i 0) n):=fun n=>by
  induction n with
  | zero=>exact⟨_,_,fn_never1,b47,k47,PySem.W.mg_of X G a47⟩
  | succ n ih=>exact⟨_,_,ok_joined Z T C_heads_of M_Pages_page ih F47,b47,k47,PySem.W.mg_of X G a47⟩
 have C_put:Cal1 l.prog w K mg base 15 "put" ["pages","root","key","cells"] (sp_put l.prog w (fun i=>[C0,C1,C2,C3].getD i 0) (fun i=>[O0,O1,O2,O3,O4,O5,O6,O7].getD i 0)):=⟨_,_,ok_put Z T C_crowned C_built C_heads_with M_Pages_card F48,b48,k48,PySem.W.mg_of X G a48⟩
 have C_heads_without:∀ n,Cal l.prog w K mg base (15+n) "heads_without" ["pages","number","key"] (sp_heads_without l.prog w (fun i=>[C0,C1,C2,C3].getD i 0) (fun i=>[O0,O1,O2,O3,O4,O5,O6,O7].getD i 0) n):=fun n=>by
  induction n with
  | zero=>exact⟨_,_,fn_never1,b49,k49,PySem.W.mg_of X G a49⟩
  | succ n ih=>exact⟨_,_,ok_heads_without Z T C_last_up_to C_heads_of C_joined M_Pages_page ih F49,b49,k49,PySem.W.mg_of X G a49⟩
 have C_take:Cal1 l.prog w K mg base 24 "take" ["pages","root","key"] (sp_take l.prog w (fun i=>[C0,C1,C2,C3].getD i 0) (fun i=>[O0,O1,O2,O3,O4,O5,O6,O7].getD i 0)):=⟨_,_,ok_take Z T C_lowered C_heads_without C_seek K_NoRow F50,b50,k50,PySem.W.mg_of X G a50⟩
 have M_Change_onto:MeV l.prog w K mg base 25 O4 "onto" (sp_Change_onto l.prog w (fun i=>[C0,C1,C2,C3].getD i 0) (fun i=>[O0,O1,O2,O3,O4,O5,O6,O7].getD i 0)):=⟨_,_,_,⟨a51_4,j51,k51⟩,ok_Change_onto Z T C_put C_take C_seek K_Unfit F51,b51⟩
 have M_PutIn_onto:MeV l.prog w K mg base 25 O5 "onto" (sp_Change_onto l.prog w (fun i=>[C0,C1,C2,C3].getD i 0) (fun i=>[O0,O1,O2,O3,O4,O5,O6,O7].getD i 0)):=⟨_,_,_,⟨a51_5,j51,k51⟩,ok_Change_onto Z T C_put C_take C_seek K_Unfit F51,b51⟩
 have M_TakenOut_onto:MeV l.prog w K mg base 25 O6 "onto" (sp_Change_onto l.prog w (fun i=>[C0,C1,C2,C3].getD i 0) (fun i=>[O0,O1,O2,O3,O4,O5,O6,O7].getD i 0)):=⟨_,_,_,⟨a51_6,j51,k51⟩,ok_Change_onto Z T C_put C_take C_seek K_Unfit F51,b51⟩
 have M_Turned_onto:MeV l.prog w K mg base 25 O7 "onto" (sp_Change_onto l.prog w (fun i=>[C0,C1,C2,C3].getD i 0) (fun i=>[O0,O1,O2,O3,O4,O5,O6,O7].getD i 0)):=⟨_,_,_,⟨a51_7,j51,k51⟩,ok_Change_onto Z T C_put C_take C_seek K_Unfit F51,b51⟩
 have C_moved:Cal1 l.prog w K mg base 26 "moved" ["pages","root","changes"] (sp_moved l.prog w (fun i=>[C0,C1,C2,C3].getD i 0) (fun i=>[O0,O1,O2,O3,O4,O5,O6,O7].getD i 0)):=⟨_,_,ok_moved Z T M_Change_onto M_PutIn_onto M_TakenOut_onto M_Turned_onto F52,b52,k52,PySem.W.mg_of X G a52⟩
 have C__law_refused:Cal l.prog w K mg base 27 "_law_refused" ["_law_pages","_law_root","_law_changes","_law_wrong"] (sp__law_refused l.prog w (fun i=>[C0,C1,C2,C3].getD i 0) (fun i=>[O0,O1,O2,O3,O4,O5,O6,O7].getD i 0)):=⟨_,_,ok__law_refused Z T C_moved F53,b53,k53,PySem.W.mg_of X G a53⟩
 exact ok_law Z T C__law_risen C_built C__law_drawn C__law_cell C__law_cells C_moved C__law_key C__law_refused C_rows_of K_Pages F54
end My
def PySem.W.Fast.tw16511018250502430503:Nat:=0
def PySem.W.Fast.tw15479048924663688498:Nat:=0
def PySem.W.Fast.tw10791396442111529417:Nat:=0
def PySem.W.Fast.tw8208582384598783961:Nat:=0
def PySem.W.Fast.tw15990535938460601097:Nat:=0
def PySem.W.Fast.tw8151013908174653027:Nat:=0
def PySem.W.Fast.tw13595887729216621109:Nat:=0
def PySem.W.Fast.tw17399970518778452055:Nat:=0
def PySem.W.Fast.tw13422806140308256210:Nat:=0
def PySem.W.Fast.tw16596007134761080971:Nat:=0
def PySem.W.Fast.tw64829719173873506:Nat:=0
def PySem.W.Fast.tw18029294893692393014:Nat:=0
def PySem.W.Fast.tw16196549552547123800:Nat:=0
def PySem.W.Fast.tw6379893594354844698:Nat:=0
def PySem.W.Fast.tw16010626756256833594:Nat:=0
def PySem.W.Fast.tw7822897687463156692:Nat:=0
def PySem.W.Fast.tw11094512340326504467:Nat:=0
def PySem.W.Fast.tw8221392904526636375:Nat:=0
def PySem.W.Fast.tw2665794164103226703:Nat:=0
def PySem.W.Fast.tw18242095441042978387:Nat:=0
def PySem.W.Fast.tw7067380527590485663:Nat:=0
def PySem.W.Fast.tw17093822375907812586:Nat:=0
def PySem.W.Fast.tw9717143821894878877:Nat:=0
def PySem.W.Fast.tw15685700108442268570:Nat:=0
def PySem.W.Fast.tw18377109477814187215:Nat:=0
def PySem.W.Fast.tw2936464032586627780:Nat:=0
def PySem.W.Fast.tw11614315986464370207:Nat:=0
def PySem.W.Fast.tw16442912403776163603:Nat:=0
def PySem.W.Fast.tw11368637066301630763:Nat:=0
def PySem.W.Fast.tw13580805921623550890:Nat:=0
def PySem.W.Fast.tw2978320589439583130:Nat:=0
def PySem.W.Fast.tw11008832693156393739:Nat:=0
def PySem.W.Fast.tw4649867549794903883:Nat:=0
def PySem.W.Fast.tw10210864805086558817:Nat:=0
def PySem.W.Fast.tw16676163903106339893:Nat:=0
def PySem.W.Fast.tw9622488010620159780:Nat:=0
def PySem.W.Fast.tw15332324721513832712:Nat:=0
def PySem.W.Fast.tw7384233489383690001:Nat:=0
def PySem.W.Fast.tw10242659462194928982:Nat:=0
def PySem.W.Fast.tw17010542662649417173:Nat:=0
def PySem.W.Fast.tw11779274313677392088:Nat:=0
def PySem.W.Fast.tw18355908590547940278:Nat:=0
def PySem.W.Fast.tw2415987157386229260:Nat:=0
def PySem.W.Fast.tw14875789770337988391:Nat:=0
def PySem.W.Fast.tw10604878355950900612:Nat:=0
def PySem.W.Fast.tw8361672469992349318:Nat:=0
def PySem.W.Fast.tw4197250938002039231:Nat:=0
def PySem.W.Fast.tw16041354149050554084:Nat:=0
def PySem.W.Fast.tw3695066244592052330:Nat:=0
def PySem.W.Fast.tw18236342690831081657:Nat:=0
def PySem.W.Fast.tw1798828813889877004:Nat:=0
def PySem.W.Fast.tw6217475129133987394:Nat:=0
def PySem.W.Fast.tw6362732323490037551:Nat:=0
def PySem.W.Fast.tw4449942255037460208:Nat:=0
def PySem.W.Fast.tw6825659646674497048:Nat:=0
def PySem.W.Fast.tw2946323018610583022:Nat:=0
def PySem.W.Fast.tw2512356562736724771:Nat:=0
def PySem.W.Fast.tw17167443566491448528:Nat:=0
def PySem.W.Fast.tw1728833845906382141:Nat:=0
def PySem.W.Fast.tw12536992944211178931:Nat:=0
def PySem.W.Fast.tw9692194424865705211:Nat:=0
def PySem.W.Fast.tw1784686899433713960:Nat:=0
def PySem.W.Fast.tw5087934560087758661:Nat:=0
def PySem.W.Fast.tw17488402716804931320:Nat:=0
def PySem.W.Fast.tw4241399313304255935:Nat:=0
def PySem.W.Fast.tw9922514910341629664:Nat:=0
def PySem.W.Fast.tw14872455361838223137:Nat:=0
def PySem.W.Fast.tw2146652032033762495:Nat:=0
def PySem.W.Fast.tw9609393083917160361:Nat:=0
def PySem.W.Fast.tw13402787040362632126:Nat:=0
def PySem.W.Fast.tw1673502816123173828:Nat:=0
def PySem.W.Fast.tw5308230829182588960:Nat:=0
def PySem.W.Fast.tw8414525664457179402:Nat:=0
def PySem.W.Fast.tw15665527055788746659:Nat:=0
def PySem.W.Fast.tw7293171097994542563:Nat:=0
def PySem.W.Fast.tw17367030155200035641:Nat:=0
def PySem.W.Fast.tw5335489810855830714:Nat:=0
def PySem.W.Fast.tw13432693275649584666:Nat:=0
def PySem.W.Fast.tw12130106332441897849:Nat:=0
def PySem.W.Fast.tw11133735668961423492:Nat:=0
def PySem.W.Fast.tw4137464982139183603:Nat:=0
def PySem.W.Fast.tw12902824236153624234:Nat:=0
def PySem.W.Fast.tw4825403624791216581:Nat:=0
def PySem.W.Fast.tw3474513514160594703:Nat:=0
def PySem.W.Fast.tw6085582411490145144:Nat:=0
def PySem.W.Fast.tw9565524364134469073:Nat:=0
def PySem.W.Fast.tw10937705298678652892:Nat:=0
def PySem.W.Fast.tw16100657916506444334:Nat:=0
def PySem.W.Fast.tw5888055688475522967:Nat:=0
def PySem.W.Fast.tw5305982530365053286:Nat:=0
def PySem.W.Fast.tw11748856664028105121:Nat:=0
def PySem.W.Fast.tw8630351594266593999:Nat:=0
def PySem.W.Fast.tw17084439015371885524:Nat:=0
def PySem.W.Fast.tw329014972082766510:Nat:=0
def PySem.W.Fast.tw17205125844741903156:Nat:=0
def PySem.W.Fast.tw6988635319711936584:Nat:=0
def PySem.W.Fast.tw8482840115522639004:Nat:=0
def PySem.W.Fast.tw11677247303582746626:Nat:=0
def PySem.W.Fast.tw2006499999707664227:Nat:=0
def PySem.W.Fast.tw12750756235870452490:Nat:=0
def PySem.W.Fast.tw14479405972989045528:Nat:=0
def PySem.W.Fast.tw13086340165112062697:Nat:=0
def PySem.W.Fast.tw4326631599625495814:Nat:=0
def PySem.W.Fast.tw867126877994166638:Nat:=0
def PySem.W.Fast.tw3588728011866955950:Nat:=0
def PySem.W.Fast.tw3732228998588051674:Nat:=0
def PySem.W.Fast.tw4243244876710466236:Nat:=0
def PySem.W.Fast.tw2303187328613996420:Nat:=0
def PySem.W.Fast.tw1028226483215145923:Nat:=0
def PySem.W.Fast.tw9598842493882254694:Nat:=0
def PySem.W.Fast.tw13958854848316628590:Nat:=0
def PySem.W.Fast.tw3208472748826120953:Nat:=0
def PySem.W.Fast.tw13564046508361364097:Nat:=0
def PySem.W.Fast.tw8103239910008861220:Nat:=0
def PySem.W.Fast.tw17023194672100336990:Nat:=0
def PySem.W.Fast.tw4419130764990562983:Nat:=0
def PySem.W.Fast.tw7102961528596170319:Nat:=0
def PySem.W.Fast.tw15220514877860759251:Nat:=0
def PySem.W.Fast.tw7881366048014813795:Nat:=0
def PySem.W.Fast.tw10657001864171559289:Nat:=0
def PySem.W.Fast.tw2668911608541160577:Nat:=0
def PySem.W.Fast.tw2762963008084835539:Nat:=0
def PySem.W.Fast.tw4991148114934197617:Nat:=0
def PySem.W.Fast.tw10458230499548130781:Nat:=0
def PySem.W.Fast.tw11713694661501353987:Nat:=0
def PySem.W.Fast.tw14760094612570626525:Nat:=0
def PySem.W.Fast.tw5930504184414661658:Nat:=0
def PySem.W.Fast.tw12083712339074241632:Nat:=0
def PySem.W.Fast.tw16607380265020366831:Nat:=0
def PySem.W.Fast.tw3433297090834771015:Nat:=0
def PySem.W.Fast.tw14908877149949209015:Nat:=0
def PySem.W.Fast.tw11710418786286335229:Nat:=0
def PySem.W.Fast.tw806720689806489962:Nat:=0
def PySem.W.Fast.tw7907209112732714925:Nat:=0
def PySem.W.Fast.tw13740670088204428401:Nat:=0
def PySem.W.Fast.tw18362079551730364746:Nat:=0
def PySem.W.Fast.tw440105062412256498:Nat:=0
def PySem.W.Fast.tw15192116333611267527:Nat:=0
def PySem.W.Fast.tw15707878380444153487:Nat:=0
def PySem.W.Fast.tw2875848709872662679:Nat:=0
def PySem.W.Fast.tw9722759636870993199:Nat:=0
def PySem.W.Fast.tw11229978807852739299:Nat:=0
def PySem.W.Fast.tw4128284816629545968:Nat:=0
def PySem.W.Fast.tw16669766481641078581:Nat:=0
def PySem.W.Fast.tw14431927208094288767:Nat:=0
def PySem.W.Fast.tw11023663211951180044:Nat:=0
def PySem.W.Fast.tw17859547986487608538:Nat:=0
def PySem.W.Fast.tw10714802271370555481:Nat:=0
def PySem.W.Fast.tw18184497836240401489:Nat:=0
def PySem.W.Fast.tw4524423613816798239:Nat:=0
def PySem.W.Fast.tw11191265941977113467:Nat:=0
def PySem.W.Fast.tw14669046603396125012:Nat:=0
def PySem.W.Fast.tw11760299609273395977:Nat:=0
def PySem.W.Fast.tw12699327809297126611:Nat:=0
def PySem.W.Fast.tw4096017932844869935:Nat:=0
def PySem.W.Fast.tw4280223983574792231:Nat:=0
def PySem.W.Fast.tw15515448952551072264:Nat:=0
def PySem.W.Fast.tw12585455619082794670:Nat:=0
def PySem.W.Fast.tw10259441225930011167:Nat:=0
def PySem.W.Fast.tw10621147757502433690:Nat:=0
def PySem.W.Fast.tw11270780897600437254:Nat:=0
def PySem.W.Fast.tw14751813780117412772:Nat:=0
def PySem.W.Fast.tw16706957922840829621:Nat:=0
def PySem.W.Fast.tw16667465240737315399:Nat:=0
def PySem.W.Fast.tw3536030298210033453:Nat:=0
def PySem.W.Fast.tw13946293506653655507:Nat:=0
def PySem.W.Fast.tw1140801602291902292:Nat:=0
def PySem.W.Fast.tw2959118394528358804:Nat:=0
def PySem.W.Fast.tw1494500400018260045:Nat:=0
def PySem.W.Fast.tw3650241912455670754:Nat:=0
def PySem.W.Fast.tw9172635871337541358:Nat:=0
def PySem.W.Fast.tw15291445825598320502:Nat:=0
def PySem.W.Fast.tw14802250891818034694:Nat:=0
def PySem.W.Fast.tw8228393978114744956:Nat:=0
def PySem.W.Fast.tw3018085625084071584:Nat:=0
def PySem.W.Fast.tw16492568789956548669:Nat:=0
def PySem.W.Fast.tw14374661033117079843:Nat:=0
def PySem.W.Fast.tw1866048533980552143:Nat:=0
def PySem.W.Fast.tw7313010822411162874:Nat:=0
def PySem.W.Fast.tw11761610820664303743:Nat:=0
def PySem.W.Fast.tw1079573244674695865:Nat:=0
def PySem.W.Fast.tw5750858662190880869:Nat:=0
def PySem.W.Fast.tw12666772442819862961:Nat:=0
def PySem.W.Fast.tw16171699563916422395:Nat:=0
def PySem.W.Fast.tw17865285555900235140:Nat:=0
def PySem.W.Fast.tw18133593814386791721:Nat:=0
def PySem.W.Fast.tw10058369288640875339:Nat:=0
def PySem.W.Fast.tw4066986365096968972:Nat:=0
def PySem.W.Fast.tw14483655394598974948:Nat:=0
def PySem.W.Fast.tw6105590395350029885:Nat:=0
def PySem.W.Fast.tw13979623253536674056:Nat:=0
def PySem.W.Fast.tw3524261787199908069:Nat:=0
def PySem.W.Fast.tw10249680642441097717:Nat:=0
def PySem.W.Fast.tw2534688230418591929:Nat:=0
def PySem.W.Fast.tw18239873031109971978:Nat:=0
def PySem.W.Fast.tw12944505448472838910:Nat:=0
def PySem.W.Fast.tw14965776352726172508:Nat:=0
def PySem.W.Fast.tw15844031623857465625:Nat:=0
def PySem.W.Fast.tw1759551519032518304:Nat:=0
def PySem.W.Fast.tw2500731271983891447:Nat:=0
def PySem.W.Fast.tw6212679073270413135:Nat:=0
def PySem.W.Fast.tw10564803810737907480:Nat:=0
def PySem.W.Fast.tw11130831858793299948:Nat:=0
def PySem.W.Fast.tw14658547497144666254:Nat:=0
def PySem.W.Fast.tw16916365674425627561:Nat:=0
def PySem.W.Fast.tw5496462737185855685:Nat:=0
def PySem.W.Fast.tw10216231745338801846:Nat:=0
def PySem.W.Fast.tw9060767715482407288:Nat:=0
def PySem.W.Fast.tw4931598575572725358:Nat:=0
def PySem.W.Fast.tw8334366014558034098:Nat:=0
def PySem.W.Fast.tw12714700916431730631:Nat:=0
def PySem.W.Fast.tw8939490408769179043:Nat:=0
def PySem.W.Fast.tw4364628872533545207:Nat:=0
def PySem.W.Fast.tw8074032012321669345:Nat:=0
def PySem.W.Fast.tw17668785381516211147:Nat:=0
def PySem.W.Fast.tw11374890216640889993:Nat:=0
def PySem.W.Fast.tw8556488359259759992:Nat:=0
def PySem.W.Fast.tw13738250414720317329:Nat:=0
def PySem.W.Fast.tw16110921893545551207:Nat:=0
def PySem.W.Fast.tw18434306884840672803:Nat:=0
def PySem.W.Fast.tw4181388160942986446:Nat:=0
def PySem.W.Fast.tw6333252948223479506:Nat:=0
def PySem.W.Fast.tw829007769542017771:Nat:=0
def PySem.W.Fast.tw6330032160558166982:Nat:=0
def PySem.W.Fast.tw2789232529404501808:Nat:=0
def PySem.W.Fast.tw16577887635002407919:Nat:=0
def PySem.W.Fast.tw462149987440436982:Nat:=0
def PySem.W.Fast.tw16525124680965506529:Nat:=0
def PySem.W.Fast.tw4342455092328533000:Nat:=0
def PySem.W.Fast.tw9875628803772256519:Nat:=0
def PySem.W.Fast.tw5300482156844584216:Nat:=0
def PySem.W.Fast.tw9418000565595961637:Nat:=0
def PySem.W.Fast.tw16832154640485322842:Nat:=0
def PySem.W.Fast.tw7304460359618315563:Nat:=0
def PySem.W.Fast.tw8063571240402401994:Nat:=0
def PySem.W.Fast.tw1029424539792212143:Nat:=0
def PySem.W.Fast.tw5369622693334233375:Nat:=0
def PySem.W.Fast.tw13001076664191022684:Nat:=0
def PySem.W.Fast.tw15224935174944097408:Nat:=0
def PySem.W.Fast.tw14431063567995044382:Nat:=0
def PySem.W.Fast.tw3129371774499835273:Nat:=0
def PySem.W.Fast.tw13283552787552890050:Nat:=0
def PySem.W.Fast.tw6506101728427063683:Nat:=0
def PySem.W.Fast.tw16950141629482122740:Nat:=0
def PySem.W.Fast.tw10604408478759529933:Nat:=0
def PySem.W.Fast.tw15352325387044078377:Nat:=0
def PySem.W.Fast.tw13912863717761738084:Nat:=0
def PySem.W.Fast.tw17840141756560851363:Nat:=0
def PySem.W.Fast.tw6222575064160008508:Nat:=0
def PySem.W.Fast.tw15837863564237035232:Nat:=0
def PySem.W.Fast.tw8446425191011299779:Nat:=0
def PySem.W.Fast.tw10840501418651740372:Nat:=0
def PySem.W.Fast.tw1095626201199827788:Nat:=0
def PySem.W.Fast.tw10148419153230686238:Nat:=0
def PySem.W.Fast.tw14876364126850626784:Nat:=0
def PySem.W.Fast.tw10544913029978985368:Nat:=0
def PySem.W.Fast.tw6298010373593173002:Nat:=0
def PySem.W.Fast.tw8111218022338437071:Nat:=0
def PySem.W.Fast.tw16781661668307989040:Nat:=0
def PySem.W.Fast.tw12390025387396482493:Nat:=0
def PySem.W.Fast.tw14572802069252809276:Nat:=0
def PySem.W.Fast.tw1374832362285640459:Nat:=0
def PySem.W.Fast.tw13113914743278913943:Nat:=0
def PySem.W.Fast.tw4677152670714124166:Nat:=0
def PySem.W.Fast.tw7652744737628435102:Nat:=0
def PySem.W.Fast.tw8469192942520011349:Nat:=0
def PySem.W.Fast.tw2007172193747722920:Nat:=0
def PySem.W.Fast.tw9487458817185977969:Nat:=0
def PySem.W.Fast.tw16737603988604561017:Nat:=0
def PySem.W.Fast.tw3471237022450005852:Nat:=0
def PySem.W.Fast.tw13182849226569355129:Nat:=0
def PySem.W.Fast.tw7308440759524950770:Nat:=0
def PySem.W.Fast.tw17716648392696852563:Nat:=0
def PySem.W.Fast.tw11511832735699985322:Nat:=0
def PySem.W.Fast.tw15395660748300286189:Nat:=0
def PySem.W.Fast.tw12224965156841296704:Nat:=0
def PySem.W.Fast.tw12808621323971489090:Nat:=0
def PySem.W.Fast.tw1058284926258210675:Nat:=0
def PySem.W.Fast.tw1786343175141152343:Nat:=0
def PySem.W.Fast.tw12787729258289609628:Nat:=0
def PySem.W.Fast.tw11121685440275345951:Nat:=0
def PySem.W.Fast.tw4861669603892846527:Nat:=0
def PySem.W.Fast.tw1524210067401388452:Nat:=0
def PySem.W.Fast.tw52372878970112512:Nat:=0
def PySem.W.Fast.tw8268270909306588602:Nat:=0
def PySem.W.Fast.tw15674398433217909277:Nat:=0
def PySem.W.Fast.tw1894123584670888041:Nat:=0
def PySem.W.Fast.tw242429094857858907:Nat:=0
def PySem.W.Fast.tw7450871008805505903:Nat:=0
def PySem.W.Fast.tw12648055353060642447:Nat:=0
def PySem.W.Fast.tw11178634381448030788:Nat:=0
def PySem.W.Fast.tw1536364130067501069:Nat:=0
def PySem.W.Fast.tw8368464685685521396:Nat:=0
def PySem.W.Fast.tw12784364167157933597:Nat:=0
def PySem.W.Fast.tw4629530453961960202:Nat:=0
def PySem.W.Fast.tw6598062519898226836:Nat:=0
def PySem.W.Fast.tw9966043470388596321:Nat:=0
def PySem.W.Fast.tw1391191493113176800:Nat:=0
def PySem.W.Fast.tw3679381233649662850:Nat:=0
def PySem.W.Fast.tw15498494601020022597:Nat:=0
def PySem.W.Fast.tw13106000432923592894:Nat:=0
def PySem.W.Fast.tw16620307352585663692:Nat:=0
def PySem.W.Fast.tw14943727942957679408:Nat:=0
def PySem.W.Fast.tw843643696149032281:Nat:=0
def PySem.W.Fast.tw5502370221786582085:Nat:=0
def PySem.W.Fast.tw18442932743209061297:Nat:=0
def PySem.W.Fast.tw17269546369923034058:Nat:=0
def PySem.W.Fast.tw16176689714692711054:Nat:=0
def PySem.W.Fast.tw10573873585070194602:Nat:=0
def PySem.W.Fast.tw17185827304413589626:Nat:=0
def PySem.W.Fast.tw5097209785944436288:Nat:=0
def PySem.W.Fast.tw11700755013903046930:Nat:=0
def PySem.W.Fast.tw7342701625737262190:Nat:=0
def PySem.W.Fast.tw12719941026627549973:Nat:=0
def PySem.W.Fast.tw4007828286019239994:Nat:=0
def PySem.W.Fast.tw1239938890140963683:Nat:=0
def PySem.W.Fast.tw12529565570309196199:Nat:=0
def PySem.W.Fast.tw17784050060093611094:Nat:=0
def PySem.W.Fast.tw16115285526483575970:Nat:=0
def PySem.W.Fast.tw9898176791437293504:Nat:=0
def PySem.W.Fast.tw13992615457557337873:Nat:=0
def PySem.W.Fast.tw2726222334551967381:Nat:=0
def PySem.W.Fast.tw8573132517369637587:Nat:=0
def PySem.W.Fast.tw5396559933696544192:Nat:=0
def PySem.W.Fast.tw8381094807225897998:Nat:=0
def PySem.W.Fast.tw17916858487846231301:Nat:=0
def PySem.W.Fast.tw1989018719846694718:Nat:=0
def PySem.W.Fast.tw1780433679355546529:Nat:=0
def PySem.W.Fast.tw18429556933639789977:Nat:=0
def PySem.W.Fast.tw6860220607138578688:Nat:=0
def PySem.W.Fast.tw6460981486743191042:Nat:=0
def PySem.W.Fast.tw2803312117223308098:Nat:=0
def PySem.W.Fast.tw14948557917790612562:Nat:=0
def PySem.W.Fast.tw13793874726949625734:Nat:=0
def PySem.W.Fast.tw8621024121760885656:Nat:=0
def PySem.W.Fast.tw18334859349799284826:Nat:=0
def PySem.W.Fast.tw13972888697300030874:Nat:=0
def PySem.W.Fast.tw7497878966336145212:Nat:=0
def PySem.W.Fast.tw5451337454682231213:Nat:=0
def PySem.W.Fast.tw7136624143292659065:Nat:=0
def PySem.W.Fast.tw17627651461384290471:Nat:=0
def PySem.W.Fast.tw13974877447110256334:Nat:=0
def PySem.W.Fast.tw5303386981485562114:Nat:=0
def PySem.W.Fast.tw12313706888489336871:Nat:=0
def PySem.W.Fast.tw17461789502467424489:Nat:=0
def PySem.W.Fast.tw3392179888057924438:Nat:=0
def PySem.W.Fast.tw8805314291666084470:Nat:=0
def PySem.W.Fast.tw13309136276341773186:Nat:=0
def PySem.W.Fast.tw13775449341105649174:Nat:=0
def PySem.W.Fast.tw14962212527995201746:Nat:=0
def PySem.W.Fast.tw6991357394414539588:Nat:=0
def PySem.W.Fast.tw8777943285881512512:Nat:=0
def PySem.W.Fast.tw1140155764828627450:Nat:=0
def PySem.W.Fast.tw13147824894458137065:Nat:=0
def PySem.W.Fast.tw10364947477423816861:Nat:=0
def PySem.W.Fast.tw4762604004210566922:Nat:=0
def PySem.W.Fast.tw7438781027114022148:Nat:=0
def PySem.W.Fast.tw13124319675115251482:Nat:=0
def PySem.W.Fast.tw5746582895205245508:Nat:=0
def PySem.W.Fast.tw5678830477679320926:Nat:=0
def PySem.W.Fast.tw15202715168448025174:Nat:=0
def PySem.W.Fast.tw16233729316331692911:Nat:=0
def PySem.W.Fast.tw17485850504974980400:Nat:=0
def PySem.W.Fast.tw9814566758168328588:Nat:=0
def PySem.W.Fast.tw10599369735415748049:Nat:=0
def PySem.W.Fast.tw3488447654854887291:Nat:=0
def PySem.W.Fast.tw13141616980207897588:Nat:=0
def PySem.W.Fast.tw8876924553394645559:Nat:=0
def PySem.W.Fast.tw5236417903620389929:Nat:=0
def PySem.W.Fast.tw13523167125796624343:Nat:=0
def PySem.W.Fast.tw16206041535471456770:Nat:=0
def PySem.W.Fast.tw6572898206336351802:Nat:=0
def PySem.W.Fast.tw7091951199412177904:Nat:=0
def PySem.W.Fast.tw4147169448275353376:Nat:=0
def PySem.W.Fast.tw7488983769670840184:Nat:=0
open PySem PySem.W PyProof.Rows
local macro_rules | `(tactic| walk_at "fn") => `(tactic| exact L2.fun_mk (by k_is) (by k_is) (by k_is))
set_option maxRecDepth 100000 in
set_option maxHeartbeats 0 in
theorem PySem.Challenge.cw_twigtable_k37_changes_in_a_row_holds : PySem.Challenge.rw_twigtable_k37_changes_in_a_row.Holds := by
 w_on;o_law;k_head;(case hw=>w_witness2)
 k_fill
 refine L2.walk_ofB (l:=PySem.Challenge.rw_twigtable_k37_changes_in_a_row) (n:=63) (k:=28) (x:="_law_script") (CX:=fun _=>L2.CX0) (sp:=My.sp_law) rfl (by decide) rfl ⟨rfl,by decide,by decide⟩ (fun w h Y=>PySem.W.kIn_of Y) ?F ?S ?C
 case F =>
  intro w mg fa h KX G hmg
  refine' My.all_mk KX G hmg ?ta ?tb ?oa0 ?of0 ?oa1 ?of1 ?om1 ?ok1 ?oa2 ?of2 ?om2 ?ok2 ?oa3 ?of3 ?om3 ?ok3 ?oa4 ?of4 ?oa5 ?of5 ?om5 ?ok5 ?oa6 ?of6 ?om6 ?ok6 ?oa7 ?of7 ?om7 ?ok7 ?oo ?t1 ?t2 ?t3 ?t4 ?t5 ?t6 ?t7 ?t8 ?t9 ?p0 ?q0 ?r0 ?u0 ?o0 ?p1 ?q1 ?r1 ?u1 ?o1 ?p2 ?q2 ?r2 ?u2 ?o2 ?p3 ?q3 ?r3 ?u3 ?o3 ?tt ?tu ?a1 ?j1 ?F1 ?a2 ?j2 ?F2 ?a3 ?j3 ?F3 ?a4 ?j4 ?F4 ?a5 ?F5 ?a6 ?F6 ?a7 ?F7 ?a8_0 ?j8 ?F8 ?e8 ?a9_0 ?a9_1 ?a9_2 ?j9 ?F9 ?a10_0 ?a10_1 ?a10_2 ?j10 ?F10 ?a11_0 ?a11_1 ?j11 ?F11 ?a12_1 ?j12 ?F12 ?a13_2 ?j13 ?F13 ?a14_3 ?j14 ?F14 ?a15 ?F15 ?a16_4 ?j16 ?F16 ?e16 ?a17_7 ?j17 ?F17 ?a18 ?F18 ?a19 ?F19 ?a20 ?F20 ?a21 ?F21 ?a22 ?F22 ?a23 ?F23 ?a24_1 ?j24 ?F24 ?a25_2 ?j25 ?F25 ?a26_3 ?j26 ?F26 ?a27_5 ?j27 ?F27 ?a28_6 ?j28 ?F28 ?a29 ?F29 ?a30 ?F30 ?a31_3 ?j31 ?F31 ?a32 ?F32 ?a33 ?F33 ?a34_3 ?j34 ?F34 ?a35 ?F35 ?a36 ?F36 ?a37_3 ?j37 ?F37 ?a38 ?F38 ?a39 ?F39 ?a40 ?F40 ?a41 ?F41 ?a42 ?F42 ?a43 ?F43 ?a44_0 ?a44_2 ?j44 ?F44 ?a45 ?F45 ?a46 ?F46 ?a47 ?F47 ?a48 ?F48 ?a49 ?F49 ?a50 ?F50 ?a51_4 ?a51_5 ?a51_6 ?a51_7 ?j51 ?F51 ?a52 ?F52 ?a53 ?F53 ?a54 ?F54 ?z1 ?z2 ?z3 ?z4 ?z5 ?z6 ?z7 ?z8 ?z9 ?z10 ?z11 ?z12 ?g1 ?g2
  (case ta=>(first | rfl | kernel_rfl | decide +kernel))
  (case tb=>(first | rfl | kernel_rfl | decide +kernel))
  (case oa0=>k_is)
  (case of0=>(first | rfl | kernel_rfl | decide +kernel))
  (case oa1=>k_is)
  (case of1=>(first | rfl | kernel_rfl | decide +kernel))
  (case om1=>k_is)
  (case ok1=>k_is)
  (case oa2=>k_is)
  (case of2=>(first | rfl | kernel_rfl | decide +kernel))
  (case om2=>k_is)
  (case ok2=>k_is)
  (case oa3=>k_is)
  (case of3=>(first | rfl | kernel_rfl | decide +kernel))
  (case om3=>k_is)
  (case ok3=>k_is)
  (case oa4=>k_is)
  (case of4=>(first | rfl | kernel_rfl | decide +kernel))
  (case oa5=>k_is)
  (case of5=>(first | rfl | kernel_rfl | decide +kernel))
  (case om5=>k_is)
  (case ok5=>k_is)
  (case oa6=>k_is)
  (case of6=>(first | rfl | kernel_rfl | decide +kernel))
  (case om6=>k_is)
  (case ok6=>k_is)
  (case oa7=>k_is)
  (case of7=>(first | rfl | kernel_rfl | decide +kernel))
  (case om7=>k_is)
  (case ok7=>k_is)
  (case oo=>(first | rfl | kernel_rfl | decide +kernel))
  (case t1=>k_is)
  (case t2=>k_is)
  (case t3=>(first | rfl | kernel_rfl | decide +kernel))
  (case t4=>(first | rfl | kernel_rfl | decide +kernel))
  (case t5=>(first | rfl | kernel_rfl | decide +kernel))
  (case t6=>(first | rfl | kernel_rfl | decide +kernel))
  (case t7=>(first | rfl | kernel_rfl | decide +kernel))
  (case t8=>(first | rfl | kernel_rfl | decide +kernel))
  (case t9=>(first | rfl | kernel_rfl | decide +kernel))
  (case p0=>k_is)
  (case q0=>k_is)
  (case r0=>(first | rfl | kernel_rfl | decide +kernel))
  (case u0=>(first | rfl | kernel_rfl | decide +kernel))
  (case o0=>k_is)
  (case p1=>k_is)
  (case q1=>k_is)
  (case r1=>(first | rfl | kernel_rfl | decide +kernel))
  (case u1=>(first | rfl | kernel_rfl | decide +kernel))
  (case o1=>k_is)
  (case p2=>k_is)
  (case q2=>k_is)
  (case r2=>(first | rfl | kernel_rfl | decide +kernel))
  (case u2=>(first | rfl | kernel_rfl | decide +kernel))
  (case o2=>k_is)
  (case p3=>k_is)
  (case q3=>k_is)
  (case r3=>(first | rfl | kernel_rfl | decide +kernel))
  (case u3=>(first | rfl | kernel_rfl | decide +kernel))
  (case o3=>k_is)
  (case tt=>(first | rfl | kernel_rfl | decide +kernel))
  (case tu=>(first | rfl | kernel_rfl | decide +kernel))
  (case a1=>k_is)
  (case j1=>k_is)
  (case F1=>walk_at "fn")
  (case a2=>k_is)
  (case j2=>k_is)
  (case F2=>walk_at "fn")
  (case a3=>k_is)
  (case j3=>k_is)
  (case F3=>walk_at "fn")
  (case a4=>k_is)
  (case j4=>k_is)
  (case F4=>walk_at "fn")
  (case a5=>k_is)
  (case F5=>walk_at "fn")
  (case a6=>k_is)
  (case F6=>walk_at "fn")
  (case a7=>k_is)
  (case F7=>walk_at "fn")
  (case a8_0=>k_is)
  (case j8=>k_is)
  (case F8=>walk_at "fn")
  (case e8=>(first | rfl | kernel_rfl | decide +kernel))
  (case a9_0=>k_is)
  (case a9_1=>k_is)
  (case a9_2=>k_is)
  (case j9=>k_is)
  (case F9=>walk_at "fn")
  (case a10_0=>k_is)
  (case a10_1=>k_is)
  (case a10_2=>k_is)
  (case j10=>k_is)
  (case F10=>walk_at "fn")
  (case a11_0=>k_is)
  (case a11_1=>k_is)
  (case j11=>k_is)
  (case F11=>walk_at "fn")
  (case a12_1=>k_is)
  (case j12=>k_is)
  (case F12=>walk_at "fn")
  (case a13_2=>k_is)
  (case j13=>k_is)
  (case F13=>walk_at "fn")
  (case a14_3=>k_is)
  (case j14=>k_is)
  (case F14=>walk_at "fn")
  (case a15=>k_is)
  (case F15=>walk_at "fn")
  (case a16_4=>k_is)
  (case j16=>k_is)
  (case F16=>walk_at "fn")
  (case e16=>(first | rfl | kernel_rfl | decide +kernel))
  (case a17_7=>k_is)
  (case j17=>k_is)
  (case F17=>walk_at "fn")
  (case a18=>k_is)
  (case F18=>walk_at "fn")
  (case a19=>k_is)
  (case F19=>walk_at "fn")
  (case a20=>k_is)
  (case F20=>walk_at "fn")
  (case a21=>k_is)
  (case F21=>walk_at "fn")
  (case a22=>k_is)
  (case F22=>walk_at "fn")
  (case a23=>k_is)
  (case F23=>walk_at "fn")
  (case a24_1=>k_is)
  (case j24=>k_is)
  (case F24=>walk_at "fn")
  (case a25_2=>k_is)
  (case j25=>k_is)
  (case F25=>walk_at "fn")
  (case a26_3=>k_is)
  (case j26=>k_is)
  (case F26=>walk_at "fn")
  (case a27_5=>k_is)
  (case j27=>k_is)
  (case F27=>walk_at "fn")
  (case a28_6=>k_is)
  (case j28=>k_is)
  (case F28=>walk_at "fn")
  (case a29=>k_is)
  (case F29=>walk_at "fn")
  (case a30=>k_is)
  (case F30=>walk_at "fn")
  (case a31_3=>k_is)
  (case j31=>k_is)
  (case F31=>walk_at "fn")
  (case a32=>k_is)
  (case F32=>walk_at "fn")
  (case a33=>k_is)
  (case F33=>walk_at "fn")
  (case a34_3=>k_is)
  (case j34=>k_is)
  (case F34=>walk_at "fn")
  (case a35=>k_is)
  (case F35=>walk_at "fn")
  (case a36=>k_is)
  (case F36=>walk_at "fn")
  (case a37_3=>k_is)
  (case j37=>k_is)
  (case F37=>walk_at "fn")
  (case a38=>k_is)
  (case F38=>walk_at "fn")
  (case a39=>k_is)
  (case F39=>walk_at "fn")
  (case a40=>k_is)
  (case F40=>walk_at "fn")
  (case a41=>k_is)
  (case F41=>walk_at "fn")
  (case a42=>k_is)
  (case F42=>walk_at "fn")
  (case a43=>k_is)
  (case F43=>walk_at "fn")
  (case a44_0=>k_is)
  (case a44_2=>k_is)
  (case j44=>k_is)
  (case F44=>walk_at "fn")
  (case a45=>k_is)
  (case F45=>walk_at "fn")
  (case a46=>k_is)
  (case F46=>walk_at "fn")
  (case a47=>k_is)
  (case F47=>walk_at "fn")
  (case a48=>k_is)
  (case F48=>walk_at "fn")
  (case a49=>k_is)
  (case F49=>walk_at "fn")
  (case a50=>k_is)
  (case F50=>walk_at "fn")
  (case a51_4=>k_is)
  (case a51_5=>k_is)
  (case a51_6=>k_is)
  (case a51_7=>k_is)
  (case j51=>k_is)
  (case F51=>walk_at "fn")
  (case a52=>k_is)
  (case F52=>walk_at "fn")
  (case a53=>k_is)
  (case F53=>walk_at "fn")
  (case a54=>k_is)
  (case F54=>walk_at "fn")
  (case z1=>k_is)
  (case z2=>k_is)
  (case z3=>k_is)
  (case z4=>k_is)
  (case z5=>k_is)
  (case z6=>k_is)
  (case z7=>k_is)
  (case z8=>k_is)
  (case z9=>k_is)
  (case z10=>k_is)
  (case z11=>k_is)
  (case z12=>k_is)
  (case g1=>k_is)
  (case g2=>k_is)
 case S=>exact fun w H a ns hl hb hO hS=>My.law_sp hl hb hS
 case C=>exact fun _ _ _ _ _ z=>z
end
