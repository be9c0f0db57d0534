import PyProof.Rows.All
import Wide.All
import OpenK.AllK
import Wide.FinOn
import Lean
import PyProof.EqAt
import PyProof.EqKinds
import PyProof.TupleCall
import PyProof.NeKinds
import PyProof.StrOps2
import PySem.Challenge.RW_twigtable_k25_few_new_pages
local macro_rules | `(tactic| omega) => `(tactic| lia)
abbrev YQ_:=PySem.Value->PySem.Shared->Prop
abbrev YP_:=List (PySem.Addr×PySem.Obj)
open List
section
open PySem
abbrev Va:=@wpAny_bind
abbrev Vb:=@List.getElem?_eq_getElem
abbrev Vc:=@List.getElem?_eq_some_iff
abbrev Vd:=@Heap.get?_push_of_some
abbrev Ve:=@Nat.le_refl
abbrev Vf:=@Bool.false_ne_true
abbrev Vg:=@wpAny_pure
abbrev Vh:=@Heap.lt_size
abbrev Vi:=@Heap.get?_push_size
abbrev Vj:=@Nat.le_trans
abbrev Vk:=@Nat.zero_le
abbrev Vl:=@List.mem_append
abbrev Vm:=@List.mem_of_getElem?
abbrev Vn:=@List.size_toArray
abbrev Vo:=@List.mem_cons_of_mem
abbrev Vp:=@List.mem_append_right
abbrev Vq:=@List.append_assoc
abbrev Vr:=@List.length_map
abbrev Vs:=@List.length_append
abbrev Vt:=@Nat.lt_of_lt_of_le
abbrev Vu:=@Nat.lt_irrefl
abbrev Vv:=@Nat.le_of_lt
end
set_option Elab.async false
set_option linter.all false
set_option maxRecDepth 100000
set_option maxHeartbeats 4000000
section
namespace L2
open PySem PySem.Spec PyProof.Rows
abbrev Key:=Sum Int Str
def QGa:Key->Value->Bool
 | .inl k,v=>Value.isInt k v
 | .inr x,v=>Value.isStrOf x v
def Qld(w:World):Key->Int
 | .inl k=>hashInt k
 | .inr x=>hashStr w x
theorem Zd:∀ {k:Key} {v:Value},QGa k v=true->(∃ i t,k=Sum.inl i/\v=Value.int i t)\/(∃ x t,k=Sum.inr x/\v=Value.str x t)
 | .inl i,v,h=>by
  obtain⟨t,e⟩:=Value.isInt_shape (k:=i) (v:=v) h;exact .inl ⟨i,t,rfl,e⟩
 | .inr x,v,h=>by
  obtain⟨t,e⟩:=Value.isStrOf_shape (x:=x) (v:=v) h;exact .inr ⟨x,t,rfl,e⟩
theorem YZb(i:Int)(t:Tok):QGa (.inl i) (.int i t)=true:=by simp[QGa,Value.isInt]
theorem Y0b(x:Str)(t:Tok):QGa (.inr x) (.str x t)=true:=by simp[QGa,Value.isStrOf]
theorem Yrc(a b:Int):decide ((Sum.inl a:Key)=Sum.inl b)=(a == b):=by
 by_cases e:a=b
 ·subst e;simp
 ·have h:¬ (Sum.inl a:Key)=Sum.inl b:=fun q=>e (Sum.inl.inj q)
  rw[decide_eq_false h];exact(beq_eq_false_iff_ne.mpr e).symm
theorem Ysc(a b:Str):decide ((Sum.inr a:Key)=Sum.inr b)=decide (a=b):=by
 by_cases e:a=b
 ·subst e;simp
 ·have h:¬ (Sum.inr a:Key)=Sum.inr b:=fun q=>e (Sum.inr.inj q)
  rw[decide_eq_false h,decide_eq_false e]
theorem Ytc(a:Int)(b:Str):decide ((Sum.inl a:Key)=Sum.inr b)=false:=decide_eq_false (fun q=>nomatch q)
theorem Yuc(a:Str)(b:Int):decide ((Sum.inr a:Key)=Sum.inl b)=false:=decide_eq_false (fun q=>nomatch q)
def QM(prog:Program)(w:World):PySem.KeyKind prog w Key where
 is:=QGa
 hash:=Qld w
 inj:=fun v a b ha hb=>by
  rcases Zd ha with ⟨i,t,rfl,rfl⟩ | ⟨x,t,rfl,rfl⟩
  ·rcases Zd hb with ⟨j,u,rfl,e⟩ | ⟨y,u,rfl,e⟩
   ·injection e with e1 _;rw[e1]
   ·exact nomatch e
  ·rcases Zd hb with ⟨j,u,rfl,e⟩ | ⟨y,u,rfl,e⟩
   ·exact nomatch e
   ·injection e with e1 _;rw[e1]
 byValue:=fun k v h=>by
  rcases Zd h with ⟨i,t,rfl,rfl⟩ | ⟨x,t,rfl,rfl⟩ <;> rfl
 pyHash:=fun hv h=>by
  rcases Zd hv with ⟨i,t,rfl,rfl⟩ | ⟨x,t,rfl,rfl⟩
  ·exact wpAny_pyHash_int h
  ·exact wpAny_pyHash_str h
 eqBool:=fun hu hv h=>by
  rcases Zd hu with ⟨i,t,rfl,rfl⟩ | ⟨x,t,rfl,rfl⟩
  ·rcases Zd hv with ⟨j,u,rfl,rfl⟩ | ⟨y,u,rfl,rfl⟩
   ·rw[Yrc]at h;exact wpAny_eqBool_int h
   ·rw[Ytc]at h;exact SeqAt.EqAt.int_str i t y u _ _ _ _ h
  ·rcases Zd hv with ⟨j,u,rfl,rfl⟩ | ⟨y,u,rfl,rfl⟩
   ·rw[Yuc]at h;exact SeqAt.EqAt.str_int x t j u _ _ _ _ h
   ·rw[Ysc]at h;exact wpAny_eqBool_str h
 «strs»:=fun k x t v h=>by
  rcases Zd h with ⟨i,u,rfl,e⟩ | ⟨y,u,rfl,e⟩
  ·exact nomatch e
  ·injection e with e1 _
   subst e1;cases v <;> rfl
theorem QTb(prog:Program)(w:World)(i:Int)(t:Tok):(QM prog w).is (.inl i) (.int i t)=true:=YZb i t
theorem QUb(prog:Program)(w:World)(x:Str)(t:Tok):(QM prog w).is (.inr x) (.str x t)=true:=Y0b x t
inductive V where
 | non | bl (b:Bool) | int (i:Int) | str (x:Str) | byt (b:Array UInt8) | flt (b:UInt64) | ref (a:Addr) | ty (n:String)
 deriving DecidableEq
def QB:V->Value->Prop
 | .non,u=>u=Value.none
 | .bl b,u=>u=Value.bool b
 | .int i,u=>∃ t,u=Value.int i t
 | .str x,u=>∃ t,u=Value.str x t
 | .byt b,u=>∃ t,u=Value.bytes b t
 | .flt b,u=>∃ t,u=Value.float b t
 | .ref a,u=>u=Value.ref a
 | .ty n,u=>u=Value.type n
abbrev QE:List V->List Value->Prop:=Paired QB
theorem QE.length{xs:List V}{us:List Value}(r:QE xs us):xs.length=us.length:=Paired.length r
theorem QE.get:∀ {xs:List V} {us:List Value} {i:Nat} {x:V},QE xs us->xs[i]?=some x->∃ u,us[i]?=some u/\QB x u
 | _,_,_,_,.nil,e=>by simp at e
 | _,_,0,_,.cons r _,e=>by simp at e;subst e;exact⟨_,rfl,r⟩
 | _,_,i+1,x,.cons _ t,e=>by
  obtain⟨u,h1,h2⟩:=QE.get (i:=i) (x:=x) t (by simpa using e)
  exact⟨u,by simpa using h1,h2⟩
theorem QE.set{x:V}{u:Value}(r:QB x u):∀ {xs:List V} {us:List Value} (i:Nat),QE xs us->QE (xs.set i x) (us.set i u)
 | _,_,_,.nil=>.nil
 | _,_,0,.cons _ t=>.cons r t
 | _,_,i+1,.cons q t=>.cons q (QE.set r i t)
theorem QE.append:∀ {xs ys:List V} {us ws:List Value},QE xs us->QE ys ws->QE (xs++ys) (us++ws)
 | _,_,_,_,.nil,s=>s
 | _,_,_,_,.cons r t,s=>.cons r (QE.append t s)
theorem QE.take:∀ {xs:List V} {us:List Value} (n:Nat),QE xs us->QE (xs.take n) (us.take n)
 | _,_,0,_=>.nil
 | _,_,_+1,.nil=>.nil
 | _,_,n+1,.cons r t=>.cons r (QE.take n t)
theorem QE.drop:∀ {xs:List V} {us:List Value} (n:Nat),QE xs us->QE (xs.drop n) (us.drop n)
 | _,_,0,r=>r
 | _,_,_+1,.nil=>.nil
 | _,_,n+1,.cons _ t=>QE.drop n t
theorem QE.none_of:∀ {xs:List V} {us:List Value} {i:Nat},QE xs us->xs[i]?=none->us[i]?=none:=fun {xs us i} r e=>by
 have h1:=r.length;have h2:xs.length<=i:=List.getElem?_eq_none_iff.mp e
 exact List.getElem?_eq_none_iff.mpr (by omega)
def Yq:Option V->Option Value->Prop
 | some v,some u=>QB v u
 | none,none=>True
 | _,_=>False
def KV{κ:Type}:List (κ×V)->List (κ×Value)->Prop:=Paired fun(p:κ×V) (q:κ×Value)=>p.1=q.1/\QB p.2 q.2
def kV:Key->V
 | .inl i=>.int i
 | .inr x=>.str x
inductive HO where
 | lst (xs:List V)
 | tup (xs:List V)
 | dK (kvs:List (Key×V)) | dT (kvs:List (List Key×V))
 | set (S:Int->Bool) (n:Nat)
 | ins (C dx:Addr) (fs:List (Str×V))
 | own (x:Addr)
 | xd (fs:List (Str×V))
 | met (f x:Addr)
 | rng (lo hi:Int)
 | frz (o:Obj) (u:HO)
 | tbl (ps:Array Value)
 | ext (φ:Heap->Prop)
abbrev Hp:=Addr->Option HO
def upd(H:Hp)(a:Addr)(o:HO):Hp:=fun b=>if b=a then some o else H b
theorem Qd{H:Hp}{a:Addr}{o:HO}:upd H a o a=some o:=by unfold upd;rw[if_pos rfl]
theorem Qi{H:Hp}{a b:Addr}{o:HO}(h:b≠a):upd H a o b=H b:=by unfold upd;rw[if_neg h]
theorem Y9{H:Hp}{a:Addr}{o u:HO}:upd (upd H a o) a u=upd H a u:=by
 funext b;unfold upd;split <;> rfl
theorem Jf{H:Hp}{a b:Addr}{o u:HO}(h:H a=some o)(h':H b=some u)(d:o≠u):a≠b:=by
 intro e;subst e;rw[h]at h';exact d (Option.some.inj h')
theorem Qy{H:Hp}{a b:Addr}{o:HO}(h:H a=some o)(h':H b=none):a≠b:=by
 intro e;subst e;rw[h]at h';cases h'
section
variable(P:Program)(w:World)
def QL(H:Hp)(h:Heap)(a:Addr):HO->Prop
 | .lst xs=>xs.length<=sizeLine/\∃ (its:List Value) (n:Nat),QE xs its/\h.get? a=some { cls:=.type "list",data:=.seq its.toArray n }
 | .tup xs=>(xs.length<=sizeLine/\∃ o,h.get? a=some o/\o.dict=none)/\∃ its:List Value,QE xs its/\IsTup h a its.toArray
 | .dK kvs=>kvs.length<=sizeLine/\(a == sysModules)=false/\∃ vs,KV kvs vs/\h.DictOf (QM P w) a vs
 | .dT kvs=>kvs.length<=sizeLine/\(a == sysModules)=false/\∃ xs:List (List Key×Addr×Value),
  Paired (fun(p:List Key×V) (q:List Key×Addr×Value)=>p.1=q.1/\H q.2.1=some (.tup (p.1.map kV))/\QB p.2 q.2.2) kvs xs /\
  ∃ o es ep,h.get? a=some o/\o.ExactDict/\o.data=.dict es ep/\es.toList=xs.map (entryOfKey (tupleKind (QM P w)))/\(xs.map (·.1)).Nodup
 | .set S n=>h.SetOf (intKind P w) a S n
 | .ins C dx fs=>H dx=some (.own a)/\fs.length<=1000/\dx≠a/\h.get? a=some (W.instObj C dx) /\
  ∃ mA,h.Ns1 dx mA/\(∀ f,Yq (fs.lookup f) (mA f))/\PySem.Within mA (fs.map (·.1))
 | .own _=>∃ o,h.get? a=some o
 | .xd fs=>∃ mA,h.Ns1 a mA/\∀ f,Yq (fs.lookup f) (mA f)
 | .rng lo hi=>∃ t u v,h.get? a=some { cls:=.type "range",data:=.fields #[.int lo t,.int hi u,.int 1 v] }
 | .frz o u=>h.get? a=some o/\QL H h a u
 | .tbl ps=>h.get? a=some { cls:=.none,data:=.fields ps }
 | .met f x=>h.get? a=some (W.methodObj (.ref f) (.ref x))
 | .ext φ=>φ h/\(∃ o,h.get? a=some o)/\∀ h1 h2:Heap,φ h1->(∀ o,h1.get? a=some o->h2.get? a=some o)->φ h2
def HOk(H:Hp)(h:Heap):Prop:=∀ a o,H a=some o->QL P w H h a o
end
section
variable{P:Program}{w:World}{H H':Hp}{h h':Heap}{a:Addr}{o:HO}
theorem QL.lt(x:QL P w H h a o):a < h.objs.size:=by
 cases o with
 | lst xs=>obtain⟨_,_,_,_,e⟩:=x;exact Vh e
 | tup xs=>obtain⟨_,_,_,p⟩:=x;exact p.lt
 | dK kvs=>obtain⟨_,_,_,_,o,_,_,e,_⟩:=x;exact Vh e
 | dT kvs=>obtain⟨_,_,_,_,o,_,_,e,_⟩:=x;exact Vh e
 | set S n=>obtain⟨o,_,_,_,e,_⟩:=x;exact Vh e
 | ins C dx fs=>obtain⟨_,_,_,e,_⟩:=x;exact Vh e
 | own y=>obtain⟨_,e⟩:=x;exact Vh e
 | xd fs=>obtain⟨_,⟨_,_,_,e,_⟩,_⟩:=x;exact Vh e
 | rng lo hi=>obtain⟨_,_,_,e⟩:=x;exact Vh e
 | frz ob u=>obtain⟨e,_⟩:=x;exact Vh e
 | tbl ps=>exact Vh (show h.get? a=some _ from x)
 | met f y=>exact Vh (show h.get? a=some _ from x)
 | ext φ=>obtain⟨_,⟨_,e⟩,_⟩:=x;exact Vh e
theorem Paired.mapP{α β:Type}{F G:α->β->Prop}:∀ {l₁:List α} {l₂:List β},Paired F l₁ l₂->(∀ a b,F a b->G a b)->Paired G l₁ l₂
 | _,_,.nil,_=>.nil
 | _,_,.cons r t,f=>.cons (f _ _ r) (Paired.mapP t f)
theorem QL.stay(x:QL P w H h a o)(k:∀ b u,(b=a\/H b=some (.own a))->h.get? b=some u->h'.get? b=some u)
 (ho:∀ b,H b=some (.own a)->H' b=some (.own a)) (ht:∀ b xs,H b=some (.tup xs)->H' b=some (.tup xs)):QL P w H' h' a o:=by
 induction o with
 | lst xs=>obtain⟨z,its,n,r,e⟩:=x;exact⟨z,its,n,r,k _ _ (.inl rfl) e⟩
 | tup xs=>obtain⟨⟨z,o1,e1,d1⟩,its,r,ob,e,c⟩:=x;exact⟨⟨z,o1,k _ _ (.inl rfl) e1,d1⟩,its,r,ob,k _ _ (.inl rfl) e,c⟩
 | dK kvs=>obtain⟨z,y,vs,r,ob,es,ep,e,c⟩:=x;exact⟨z,y,vs,r,ob,es,ep,k _ _ (.inl rfl) e,c⟩
 | dT kvs =>
  obtain⟨z,y,xs,r,ob,es,ep,e,c⟩:=x;exact⟨z,y,xs,Paired.mapP r fun p q z=>⟨z.1,ht _ _ z.2.1,z.2.2⟩,ob,es,ep,k _ _ (.inl rfl) e,c⟩
 | set S n=>obtain⟨ob,es,ep,t,e,c⟩:=x;exact⟨ob,es,ep,t,k _ _ (.inl rfl) e,c⟩
 | ins C dx fs =>
  obtain⟨d,z,ne,e,mA,⟨od,es,ep,e2,c⟩,r⟩:=x;exact⟨ho _ d,z,ne,k _ _ (.inl rfl) e,mA,⟨od,es,ep,k _ _ (.inr d) e2,c⟩,r⟩
 | own y=>obtain⟨ob,e⟩:=x;exact⟨ob,k _ _ (.inl rfl) e⟩
 | xd fs=>obtain⟨mA,⟨od,es,ep,e,c⟩,r⟩:=x;exact⟨mA,⟨od,es,ep,k _ _ (.inl rfl) e,c⟩,r⟩
 | rng lo hi=>obtain⟨t,u,v,e⟩:=x;exact⟨t,u,v,k _ _ (.inl rfl) e⟩
 | frz ob u ih=>obtain⟨e,q⟩:=x;exact⟨k _ _ (.inl rfl) e,ih q⟩
 | tbl ps =>
  have e:h.get? a=some { cls:=.none,data:=.fields ps }:=x;show h'.get? a=some { cls:=.none,data:=.fields ps };exact k a _ (.inl rfl) e
 | met f y =>
  have e:h.get? a=some (W.methodObj (.ref f) (.ref y)):=x;show h'.get? a=some (W.methodObj (.ref f) (.ref y));exact k a _ (.inl rfl) e
 | ext φ=>obtain⟨p,⟨o,e⟩,st⟩:=x;exact⟨st _ _ p fun o q=>k _ _ (.inl rfl) q,⟨o,k _ _ (.inl rfl) e⟩,st⟩
theorem HOk.lt(x:HOk P w H h)(e:H a=some o):a < h.objs.size:=(x a o e).lt
theorem HOk.fresh(x:HOk P w H h)(e:h.objs.size<=a):H a=none:=by
 cases q:H a with
 | none=>rfl
 | some u=>exact absurd (Vt (x.lt q) e) (Vu _)
theorem HOk.kept(x:HOk P w H h)(k:∀ b u,h.get? b=some u->h'.get? b=some u):HOk P w H h':=fun a o e =>
 (x a o e).stay (fun b u _ q=>k b u q) (fun _ q=>q) fun _ _ q=>q
theorem HOk.laid(x:HOk P w H h)(k:∀ b u,h.get? b=some u->h'.get? b=some u)(hp:h.objs.size<=a)(new:QL P w (upd H a o) h' a o):HOk P w (upd H a o) h':=fun b u e=>by
 have hn:=x.fresh hp
 by_cases hb:b=a
 ·subst hb;rw[Qd]at e;cases e;exact new
 ·rw[Qi hb]at e
  exact(x b u e).stay (fun c v _ q=>k c v q) (fun c q=>by rw[Qi (Qy q hn)];exact q) fun c xs q=>by rw[Qi (Qy q hn)];exact q
end
def Rd(H:Hp)(a:Addr)(u:HO):Prop:=H a=some u\/∃ o,H a=some (.frz o u)
theorem Rd.ok{P:Program}{w:World}{H:Hp}{h:Heap}{a:Addr}{u:HO}(r:Rd H a u)(x:HOk P w H h):QL P w H h a u:=by
 rcases r with r | ⟨o,r⟩
 ·exact x a u r
 ·obtain⟨_,q⟩:=x a _ r
  exact q
def Mut:Option HO->Prop
 | some (.lst _)=>True
 | some (.dK _)=>True
 | some (.dT _)=>True
 | some (.set _ _)=>True
 | some (.ins _ _ _)=>True
 | some (.ext _)=>True
 | _=>False
section
variable{P:Program}{w:World}{H:Hp}{h h':Heap}{x e:Addr}{o':HO}
theorem HOk.write(ok:HOk P w H h)(mu:Mut (H x))(he:e=x\/H e=some (.own x))(k:∀ b u,b≠e->h.get? b=some u->h'.get? b=some u)(heo:∃ u,h'.get? e=some u)
 (new:QL P w (upd H x o') h' x o'):HOk P w (upd H x o') h':=fun b u q=>by
 have nown:∀ c y,H c=some (.own y)->c≠x:=fun c y r z=>by subst z;rw[r]at mu;exact mu
 have ntup:∀ c xs,H c=some (.tup xs)->c≠x:=fun c xs r z=>by subst z;rw[r]at mu;exact mu
 by_cases hb:b=x
 ·subst hb;rw[Qd]at q;cases q;exact new
 ·rw[Qi hb]at q
  by_cases hbe:b=e
  ·have q':H b=some (.own x):=by
    rcases he with z | z
    ·exact absurd (hbe.trans z) hb
    ·rw[hbe];exact z
   rw[q]at q';cases q';obtain⟨v,hv⟩:=heo;exact⟨v,by rw[hbe];exact hv⟩
  ·refine(ok b u q).stay (fun c v hc r=>k c v ?_ r) (fun c r=>by rw[Qi (nown c b r)];exact r) fun c xs r=>by rw[Qi (ntup c xs r)];exact r
   rcases hc with rfl | hc
   ·exact hbe
   ·rintro rfl
    rcases he with z | z
    ·exact nown c b hc z
    ·rw[hc]at z;cases z;exact hb rfl
end
structure Un(fs ex:List Addr)(H H':Hp)(h h':Heap):Prop where
 keep:∀ b o,h.get? b=some o->H b=none->b∉fs->b∉ex->h'.get? b=some o
 slot:∀ b o,h.get? b=some o->H b=none->b∈fs->b∉ex->∃ sl,h'.get? b=some { o with slots:=sl }
 free:∀ b o,h.get? b=some o->H b=none->b∉ex->H' b=none
 there:∀ b o,h.get? b=some o->b∉ex->∃ o',h'.get? b=some o'
 tups:∀ b xs,H b=some (.tup xs)->H' b=some (.tup xs)
 frzs:∀ b o u,H b=some (.frz o u)->H' b=some (.frz o u)
 tbls:∀ b ps,H b=some (.tbl ps)->∃ more,H' b=some (.tbl (ps++more))
section
variable{fs fs' ex ex':List Addr}{H H1 H2:Hp}{h h1 h2 h':Heap}{a x e:Addr}{o:HO}
theorem Un.any(u:Un fs ex H H1 h h1){b:Addr}{ob:Obj}(q:h.get? b=some ob)(n:H b=none)(hx:b∉ex):∃ sl,h1.get? b=some { ob with slots:=sl }:=by
 by_cases hb:b∈fs
 ·exact u.slot b ob q n hb hx
 ·exact⟨ob.slots,u.keep b ob q n hb hx⟩
theorem Un.kept(k:∀ b u,h.get? b=some u->h'.get? b=some u):Un fs ex H H h h' :=
 ⟨fun b ob q _ _ _=>k b ob q,fun b ob q _ _ _=>⟨ob.slots,k b ob q⟩,fun _ _ _ n _=>n,fun b ob q _=>⟨ob,k b ob q⟩,fun _ _ q=>q,fun _ _ _ q=>q,fun _ ps q=>⟨#[],by rw[q];simp⟩⟩
theorem Un.refl:Un fs ex H H h h:=Un.kept fun _ _ q=>q
theorem Un.laid(k:∀ b u,h.get? b=some u->h'.get? b=some u)(hp:h.objs.size<=a)(hn:H a=none):Un fs ex H (upd H a o) h h' where
 keep:=fun b u q _ _ _=>k b u q
 slot:=fun b u q _ _ _=>⟨u.slots,k b u q⟩
 free:=fun b u q n _=>by rw[Qi (Nat.ne_of_lt (Vt (Vh q) hp))];exact n
 there:=fun b u q _=>⟨u,k b u q⟩
 tups:=fun b xs q=>by rw[Qi (Qy q hn)];exact q
 frzs:=fun b u xs q=>by rw[Qi (Qy q hn)];exact q
 tbls:=fun b ps q=>⟨#[],by rw[Qi (Qy q hn),q];simp⟩
theorem Un.write(mu:Mut (H x))(he:e=x\/H e=some (.own x))(k:∀ b u,b≠e->h.get? b=some u->h'.get? b=some u)(heo:∃ u,h'.get? e=some u):Un fs ex H (upd H x o) h h':=by
 have hx:∀ b,H b=none->b≠x:=fun b n z=>by subst z;rw[n]at mu;exact mu
 have hb:∀ b,H b=none->b≠e:=fun b n z=>by
  subst z
  rcases he with r | r
  ·exact hx b n r
  ·rw[n]at r;cases r
 have hm:∀ b u,H b=some u->¬ Mut (some u)->b≠x:=fun b u q nm z=>by subst z;rw[q]at mu;exact nm mu
 refine⟨fun b u q n _ _=>k b u (hb b n) q,fun b u q n _ _=>⟨u.slots,k b u (hb b n) q⟩,fun b u q n _=>by rw[Qi (hx b n)];exact n,fun b u q _=>?_,
  fun b xs q=>by rw[Qi (hm b _ q fun z=>z)];exact q,fun b u xs q=>by rw[Qi (hm b _ q fun z=>z)];exact q,fun b ps q=>⟨#[],by rw[Qi (hm b _ q fun z=>z),q];simp⟩⟩
 by_cases hbe:b=e
 ·subst hbe;exact heo
 ·exact⟨u,k b u hbe q⟩
end
def trk(h:Heap)(H:Hp):List Addr:=(List.range h.objs.size).filter fun a=>(H a).isSome
def XMa(h:Heap)(H:Hp):Heap:=W.hideAll h (trk h H)
theorem Y1b(h:Heap)(H:Hp):(XMa h H).objs.size=h.objs.size:=W.hideAll_size _ _
theorem XSb{h:Heap}{H:Hp}{b:Addr}{o:Obj}(e:h.get? b=some o)(n:H b=none):(XMa h H).get? b=some o :=
 W.hideAll_get _ e fun hm=>by
  have q:(H b).isSome=true:=(mem_filter.mp hm).2;rw[n]at q;simp at q
theorem ZDc{h:Heap}{H:Hp}{b:Addr}{o:Obj}(e:(XMa h H).get? b=some o):h.get? b=some o/\H b=none:=by
 have e':h.get? b=some o:=W.of_hideAll (trk h H) e;refine⟨e',?_⟩
 cases q:H b with
 | none=>rfl
 | some x =>
  have hm:b∈trk h H:=mem_filter.mpr ⟨mem_range.mpr (Vh e'),by simp[q]⟩
  have z:(XMa h H).get? b=none:=W.hideAll_none (trk h H) hm;rw[z]at e;cases e
def ZEc(g h:Heap)(L:Addr):YP_:=(List.range h.objs.size).filterMap fun a=>if a=L\/(g.get? a).isSome=true then none else (h.get? a).map fun o=>(a,o)
def rest(g h:Heap)(L d:Addr):YP_:=(ZEc g h L).filter fun p=>decide (p.1≠d)
structure Mod(K:W.Frag)(mg:Str->Option Value)(base:Heap):Prop where
 kin:K.In base
 glob:base.Ns mainGlobals mg
 blt:∃ mb,base.Ns builtinsNs mb/\∀ x:Str,x≠"__name__"->mb x=bootBuiltins x
 nolimit:base.NoLimit
structure Cx where
 prog:Program
 w:World
 K:W.Frag
 mg:Str->Option Value
 base:Heap
 A:Around
 N:List Str
 s₀:Shared
 H₀:Hp
 env:Env
 outer:List Env
 stack:List Env
 ex:List Addr
 fn:Str->Bool
 calm:Bool
 pn:YP_
 xe:YQ_
def frs(l:List Env):List Addr:=l.filterMap (·.frame)
abbrev Cx.fs(X:Cx):List Addr:=frs X.outer
def Vis(sc:Scope)(x:Str):Prop:=sc.names.lookup x=some .local\/sc.names.lookup x=some .cell\/sc.names.lookup x=some .free
def Loc(sc:Scope)(x:Str):Prop:=sc.names.lookup x=some .local\/sc.names.lookup x=some .cell
def Qmd(env:Env)(h:Heap)(m:Str->Option Value)(x:Str)(u:Value):Prop :=
 (env.kindOf x=some .local/\m x=some u)\/((env.kindOf x=some .cell\/env.kindOf x=some .free)/\∃ c,env.cells.lookup x=some c/\h.IsCell c (some u))
structure Cx.Ok(X:Cx):Prop where
 mod:Mod X.K X.mg X.base
 kind:X.env.scope.kind=.function
 glob:X.env.globals=mainGlobals
 blt:X.env.builtins=builtinsNs
 above:X.s₀.heap.objs.size<=X.env.locals
 inj:∀ x y c,X.env.cells.lookup x=some c->X.env.cells.lookup y=some c->x=y
 has:∀ x,(X.env.kindOf x=some .cell\/X.env.kindOf x=some .free)->∃ c,X.env.cells.lookup x=some c
 cab:∀ x c,X.fn x=true->X.env.cells.lookup x=some c->X.s₀.heap.objs.size<=c
 hd:X.calm=true->X.A.handled=none
 frames:X.A.frames=some X.stack
 stk:X.stack=X.outer\/(X.stack=X.env::X.outer/\X.env.frame=some X.env.locals)
 exf:∀ b∈X.ex,b≠X.env.locals/\∀ x c,X.env.cells.lookup x=some c->c≠b
 bs:∀ b o,X.base.get? b=some o->X.s₀.heap.get? b=some o/\X.H₀ b=none
 bsz:X.base.objs.size<=X.s₀.heap.objs.size
 noex:∀ b o,X.base.get? b=some o->b∉X.ex
 exfs:∀ b∈X.ex,b∉X.fs
 funs:X.s₀.heap.FunFrames X.base X.outer
 frf:∀ b∈X.fs,X.H₀ b=none
structure Inv(X:Cx)(pins:YP_)(σ:List (Option V))(H:Hp)(s:Shared):Prop where
 ok:X.Ok
 os:s.os=X.s₀.os
 bare:AllBare s.gens
 base:Un X.fs X.ex X.H₀ H X.s₀.heap s.heap
 loc:∃ m,s.heap.Ns X.env.locals m/\∀ (i:Nat) (x:Str) (v:V),X.N[i]?=some x->σ[i]?=some (some v)->Vis X.env.scope x->∃ u,QB v u/\Qmd X.env s.heap m x u
 cell:∀ x c,X.env.cells.lookup x=some c->∃ v,s.heap.IsCell c v
 free:H X.env.locals=none
 freeC:∀ x c,X.env.cells.lookup x=some c->H c=none
 pin:∀ p∈X.pn++pins,s.heap.get? p.1=some p.2/\H p.1=none/\p.1≠X.env.locals/\p.1∉X.fs/\∀ v,p.2.data≠.cell v
 hok:HOk X.prog X.w H s.heap
 len:σ.length=X.N.length
section
variable{X:Cx}{pins:YP_}{σ:List (Option V)}{H H':Hp}{s:Shared}{h':Heap}
theorem Cx.Ok.nofr(ok:X.Ok){b:Addr}{o:Obj}(e:X.base.get? b=some o):b∉X.fs:=fun hb=>by
 have:=(ok.funs.mem hb).1;rw[e]at this;cases this
theorem Inv.bs(I:Inv X pins σ H s):∀ b o,X.base.get? b=some o->s.heap.get? b=some o/\H b=none:=fun b o e =>
 ⟨I.base.keep b o (I.ok.bs b o e).1 (I.ok.bs b o e).2 (I.ok.nofr e) (I.ok.noex b o e),I.base.free b o (I.ok.bs b o e).1 (I.ok.bs b o e).2 (I.ok.noex b o e)⟩
theorem Inv.bk(I:Inv X pins σ H s):∀ b o,X.base.get? b=some o->s.heap.get? b=some o:=fun b o e=>(I.bs b o e).1
theorem Inv.mod(I:Inv X pins σ H s):Mod X.K X.mg X.base:=I.ok.mod
theorem Inv.kIn(I:Inv X pins σ H s):X.K.In s.heap:=I.ok.mod.kin.keeps I.bk
theorem Inv.lt(I:Inv X pins σ H s):X.env.locals < s.heap.objs.size:=let ⟨_,hn,_⟩:=I.loc;hn.lt
theorem Inv.sz(I:Inv X pins σ H s):X.s₀.heap.objs.size<=s.heap.objs.size:=Vj I.ok.above (Vv I.lt)
theorem Inv.nofs(I:Inv X pins σ H s){a:Addr}(h:s.heap.objs.size<=a):a∉X.fs:=fun hb=>by
 obtain⟨_,o,ho,_⟩:=I.ok.funs.mem hb;exact absurd (Vt (Vh ho) (Vj I.sz h)) (Vu _)
theorem Inv.cne(I:Inv X pins σ H s):∀ x c,X.env.cells.lookup x=some c->c≠X.env.locals:=fun x c e z=>by
 obtain⟨v,o,ho,hd⟩:=I.cell x c e;obtain⟨m,⟨o',es,ep,ho',hd',_⟩,_⟩:=I.loc;rw[z,ho']at ho;cases ho;rw[hd']at hd;cases hd
theorem Inv.funs(I:Inv X pins σ H s):s.heap.FunFrames X.base X.outer:=by
 have all:∀ (l:List Env),(∀ b∈frs l,b∈X.fs)->X.s₀.heap.FunFrames X.base l->s.heap.FunFrames X.base l:=by
  intro l
  induction l with
  | nil=>intro _ _;trivial
  | cons env r ih =>
   intro hs hl;obtain⟨hk,⟨L,o,hf,hn,ho,hd⟩,hr⟩:=hl;have hL:L∈X.fs:=hs L (by unfold frs;rw[filterMap_cons,hf];exact mem_cons_self)
   obtain⟨sl,e⟩:=I.base.slot L o ho (I.ok.frf L hL) hL fun z=>I.ok.exfs L z hL
   exact⟨hk,⟨L,_,hf,hn,e,hd⟩,ih (fun b hb=>hs b (by unfold frs;rw[filterMap_cons,hf];exact Vo _ hb)) hr⟩
 exact all X.outer (fun _ hb=>hb) I.ok.funs
theorem Inv.stack(I:Inv X pins σ H s):s.heap.FunFrames X.base X.stack:=by
 rcases I.ok.stk with e | ⟨e,hf⟩
 ·rw[e];exact I.funs
 ·rw[e]
  obtain⟨m,hn,_⟩:=I.loc;refine .cons (by rw[I.ok.kind];decide) hf hn ?_ I.funs
  exact Heap.get?_none_of_le (Vj I.ok.bsz I.ok.above)
theorem Inv.stkSub(I:Inv X pins σ H s):∀ b∈frs X.stack,b∈X.env.locals::X.fs:=fun b hb=>by
 rcases I.ok.stk with e | ⟨e,hf⟩
 ·rw[e]at hb;exact Vo _ hb
 ·rw[e]at hb
  unfold frs at hb;rw[filterMap_cons,hf]at hb;exact hb
theorem Inv.stkFree(I:Inv X pins σ H s):∀ b∈frs X.stack,H b=none:=fun b hb=>by
 rcases mem_cons.mp (I.stkSub b hb) with e | hb
 ·rw[e];exact I.free
 ·obtain⟨_,o,ho,_⟩:=I.ok.funs.mem hb
  exact I.base.free b o ho (I.ok.frf b hb) fun z=>I.ok.exfs b z hb
theorem Inv.step{g':Array GenState}{t':Nat}{d':Drawn}{ch:List Addr}(I:Inv X pins σ H s)
 (hch:∀ b∈ch,(b∈X.ex\/X.s₀.heap.objs.size<=b)/\b≠X.env.locals/\(∀ x c,X.env.cells.lookup x=some c->c≠b)/\∀ p∈X.pn++pins,p.1≠b)
 (keep:∀ b o,b≠X.env.locals->b∉X.fs->b∉ch->s.heap.get? b=some o->H b=none->h'.get? b=some o)
 (slot:∀ b o,b≠X.env.locals->b∈X.fs->b∉ch->s.heap.get? b=some o->H b=none->∃ sl,h'.get? b=some { o with slots:=sl }) (free:∀ b o,b∉ch->s.heap.get? b=some o->H b=none->H' b=none)
 (there:∀ b o,b∉ch->s.heap.get? b=some o->∃ o',h'.get? b=some o')
 (tups:∀ b xs,H b=some (.tup xs)->H' b=some (.tup xs)) (frzs:∀ b o u,H b=some (.frz o u)->H' b=some (.frz o u)) (tbls:∀ b ps,H b=some (.tbl ps)->∃ more,H' b=some (.tbl (ps++more)))
 (ns:∀ m,s.heap.Ns X.env.locals m->h'.Ns X.env.locals m) (hok:HOk X.prog X.w H' h') (hg:AllBare g') :
 Inv X pins σ H' { s with heap:=h',gens:=g',drawn:=d',toks:=t' }:=by
 have neL:∀ b o,X.s₀.heap.get? b=some o->b≠X.env.locals:=fun b o e=>Nat.ne_of_lt (Vt (Vh e) I.ok.above)
 have neC:∀ b o,X.s₀.heap.get? b=some o->b∉X.ex->b∉ch:=fun b o e hx hb=>by
  rcases(hch b hb).1 with z | z
  ·exact hx z
  ·exact absurd (Vt (Vh e) z) (Vu _)
 have cellK:∀ x c,X.env.cells.lookup x=some c->∀ v,s.heap.IsCell c v->h'.IsCell c v:=fun x c e v ⟨o,ho,hd⟩=>by
  have nch:c∉ch:=fun z=>(hch c z).2.2.1 x c e rfl
  by_cases hc:c∈X.fs
  ·obtain⟨sl,q⟩:=slot c o (I.cne x c e) hc nch ho (I.freeC x c e)
   exact⟨_,q,hd⟩
  ·exact⟨o,keep c o (I.cne x c e) hc nch ho (I.freeC x c e),hd⟩
 refine⟨I.ok,I.os,hg,⟨fun b o e n hb hx=>?_,fun b o e n hb hx=>?_,fun b o e n hx=>?_,fun b o e hx=>?_,fun b xs e=>tups b xs (I.base.tups b xs e),fun b o xs e=>frzs b o xs (I.base.frzs b o xs e),fun b ps e=>?_⟩,?_,fun x c e=>?_,?_,fun x c e=>?_,fun p hp=>?_,hok,I.len⟩
 ·exact keep b o (neL b o e) hb (neC b o e hx) (I.base.keep b o e n hb hx) (I.base.free b o e n hx)
 ·obtain⟨sl,e1⟩:=I.base.slot b o e n hb hx
  obtain⟨sl',e2⟩:=slot b _ (neL b o e) hb (neC b o e hx) e1 (I.base.free b o e n hx);exact⟨sl',e2⟩
 ·obtain⟨o',e1⟩:=I.base.there b o e hx
  exact free b o' (neC b o e hx) e1 (I.base.free b o e n hx)
 ·obtain⟨o',e1⟩:=I.base.there b o e hx
  exact there b o' (neC b o e hx) e1
 ·obtain⟨m1,e1⟩:=I.base.tbls b ps e
  obtain⟨m2,e2⟩:=tbls b _ e1;exact⟨m1++m2,by rw[e2,Array.append_assoc]⟩
 ·obtain⟨m,hn,hl⟩:=I.loc
  refine⟨m,ns m hn,fun i x v e1 e2 e3=>?_⟩
  obtain⟨u,r,l⟩:=hl i x v e1 e2 e3;refine⟨u,r,?_⟩
  rcases l with l | ⟨k,c,e,z⟩
  ·exact .inl l
  ·exact .inr ⟨k,c,e,cellK x c e _ z⟩
 ·obtain⟨v,z⟩:=I.cell x c e
  exact⟨v,cellK x c e v z⟩
 ·obtain⟨m,⟨o,_,_,ho,_⟩,_⟩:=I.loc
  exact free _ o (fun z=>(hch _ z).2.1 rfl) ho I.free
 ·obtain⟨v,o,ho,hd⟩:=I.cell x c e
  exact free c o (fun z=>(hch c z).2.2.1 x c e rfl) ho (I.freeC x c e)
 ·obtain⟨e,n,ne,nf,d⟩:=I.pin p hp
  have nch:p.1∉ch:=fun z=>(hch p.1 z).2.2.2 p hp rfl
  exact⟨keep p.1 p.2 ne nf nch e n,free p.1 p.2 nch e n,ne,nf,d⟩
theorem Inv.un{t':Nat}(I:Inv X pins σ H s)(u:Un X.fs [] H H' s.heap h')(hok:HOk X.prog X.w H' h'):Inv X pins σ H' { s with heap:=h',toks:=t' }:=by
 obtain⟨m,⟨o,es,ep,ho,r⟩,_⟩:=id I.loc;obtain⟨sl,hL⟩:=u.any ho I.free (by simp)
 exact I.step (g':=s.gens) (d':=s.drawn) (ch:=[]) (fun _ z=>nomatch z) (fun b o _ hb _ e n=>u.keep b o e n hb (by simp)) (fun b o _ hb _ e n=>u.slot b o e n hb (by simp)) (fun b o _ e n=>u.free b o e n (by simp)) (fun b o _ e=>u.there b o e (by simp)) u.tups u.frzs u.tbls (fun m' hm=>by
  obtain⟨o',es',ep',ho',r'⟩:=hm;rw[ho]at ho';cases ho';exact⟨_,es',ep',hL,r'⟩) hok I.bare
theorem Inv.call{g':Array GenState}{t':Nat}{d':Drawn}{ch:List Addr}(I:Inv X pins σ H s)(u:Un (frs X.stack) ch H H' s.heap h')(hok:HOk X.prog X.w H' h')(hg:AllBare g')
 (hch:∀ b∈ch,(b∈X.ex\/X.s₀.heap.objs.size<=b)/\b≠X.env.locals/\(∀ x c,X.env.cells.lookup x=some c->c≠b)/\∀ p∈X.pn++pins,p.1≠b) :
 Inv X pins σ H' { s with heap:=h',gens:=g',drawn:=d',toks:=t' }:=by
 obtain⟨m,⟨o,es,ep,ho,r⟩,_⟩:=id I.loc;obtain⟨sl,hL⟩:=u.any ho I.free fun z=>(hch _ z).2.1 rfl
 exact I.step (ch:=ch) hch (fun b o hL hb hc e n=>u.keep b o e n (fun z=>(mem_cons.mp (I.stkSub b z)).elim hL hb) hc) (fun b o _ _ hc e n=>u.any e n hc) (fun b o hc e n=>u.free b o e n hc) (fun b o hc e=>u.there b o e hc) u.tups u.frzs u.tbls (fun m' hm=>by
  obtain⟨o',es',ep',ho',r'⟩:=hm;rw[ho]at ho';cases ho';exact⟨_,es',ep',hL,r'⟩) hok hg
theorem Inv.turned{t':Nat}{it:Addr}(I:Inv X pins σ H s)(k:∀ b o,b≠it->s.heap.get? b=some o->h'.get? b=some o)(hn:H it=none)(hL:it≠X.env.locals)
 (h1:it∈X.ex\/X.s₀.heap.objs.size<=it) (h2:∀ x c,X.env.cells.lookup x=some c->c≠it) (h3:∀ p∈X.pn++pins,p.1≠it):Inv X pins σ H { s with heap:=h',toks:=t' }:=by
 have nit:∀ b u,H b=some u->b≠it:=fun b u e z=>by rw[z,hn]at e;cases e
 refine I.step (g':=s.gens) (d':=s.drawn) (ch:=[it]) (fun b hb=>?_) (fun b o _ _ hc e _=>k b o (fun z=>hc (by simp[z])) e) (fun b o _ _ hc e _=>⟨o.slots,k b o (fun z=>hc (by simp[z])) e⟩) (fun _ _ _ _ n=>n)
  (fun b o hc e=>⟨o,k b o (fun z=>hc (by simp[z])) e⟩) (fun _ _ e=>e) (fun _ _ _ e=>e) (fun b ps e=>⟨#[],by rw[e];simp⟩) (fun m hm=>?_) (fun b u e=>?_) I.bare
 ·have e:b=it:=by simpa using hb
  subst e;exact⟨h1,hL,h2,h3⟩
 ·obtain⟨o,es,ep,ho,r⟩:=hm
  exact⟨o,es,ep,k _ o (Ne.symm hL) ho,r⟩
 ·refine(I.hok b u e).stay (fun c v hc q=>k c v ?_ q) (fun _ q=>q) fun _ _ q=>q
  rcases hc with z | z
  ·rw[z];exact nit b u e
  ·exact nit c _ z
theorem Inv.tok(I:Inv X pins σ H s)(t:Nat):Inv X pins σ H { s with toks:=t }:=I.un (h':=s.heap) (t':=t) Un.refl I.hok
theorem Inv.kept{t':Nat}(I:Inv X pins σ H s)(k:∀ b u,s.heap.get? b=some u->h'.get? b=some u):Inv X pins σ H { s with heap:=h',toks:=t' }:=I.un (Un.kept k) (I.hok.kept k)
theorem Inv.laid{a:Addr}{o:HO}{t':Nat}(I:Inv X pins σ H s)(k:∀ b u,s.heap.get? b=some u->h'.get? b=some u)(hp:s.heap.objs.size<=a)(new:QL X.prog X.w (upd H a o) h' a o) :
 Inv X pins σ (upd H a o) { s with heap:=h',toks:=t' }:=I.un (Un.laid k hp (I.hok.fresh hp)) (I.hok.laid k hp new)
theorem Inv.write{x e:Addr}{o:HO}{t':Nat}(I:Inv X pins σ H s)(mu:Mut (H x))(he:e=x\/H e=some (.own x))(k:∀ b u,b≠e->s.heap.get? b=some u->h'.get? b=some u)(heo:∃ u,h'.get? e=some u)
 (new:QL X.prog X.w (upd H x o) h' x o):Inv X pins σ (upd H x o) { s with heap:=h',toks:=t' }:=I.un (Un.write mu he k heo) (I.hok.write mu he k heo new)
theorem Inv.pins_of{pins':YP_}(I:Inv X pins σ H s)(h:∀ p∈pins',s.heap.get? p.1=some p.2/\H p.1=none/\p.1≠X.env.locals/\p.1∉X.fs/\∀ v,p.2.data≠.cell v):Inv X pins' σ H s :=
 ⟨I.ok,I.os,I.bare,I.base,I.loc,I.cell,I.free,I.freeC,fun p hp=>(Vl.mp hp).elim (fun z=>I.pin p (mem_append_left _ z)) (h p),I.hok,I.len⟩
theorem JMa{N:List Str}(hN:N.Nodup){i j:Nat}{x:Str}(a:N[i]?=some x)(b:N[j]?=some x):i=j:=by
 obtain⟨h1,e1⟩:=Vc.mp a
 obtain⟨h2,e2⟩:=Vc.mp b
 exact(getElem_inj hN).mp (e1.trans e2.symm)
theorem Xca{M:Model}{A:Around}{E:YQ_}{i:Nat}{x:Str}{v:V}{u:Value}{Q:Unit->Shared->Prop}(I:Inv X pins σ H s)(hN:X.N.Nodup)(hi:X.N[i]?=some x)(hx:Loc X.env.scope x)(r:QB v u)
 (h:∀ s',Inv X pins (σ.set i (some v)) H s'->(∃ a,Heap.SameBut a s.heap s'.heap/\(a=X.env.locals\/X.env.cells.lookup x=some a))->Q () s') (hf:X.fn x=true\/X.env.scope.names.lookup x=some .local:=by first | exact .inl rfl | exact .inr rfl | assumption):wpAny M A (storeName X.env x u) Q E s:=by
 obtain⟨m,hn,hl⟩:=id I.loc;have hcls:(X.env.scope.kind == .class || (X.env.scope.kind == .module && X.env.locals != X.env.globals))=false:=by rw[I.ok.kind];rfl
 have hiσ:i < σ.length:=by rw[I.len];exact(Vc.mp hi).1
 have cne:=I.cne;have tracked:∀ {a:Addr} {h':Heap},(∃ o,s.heap.get? a=some o/\H a=none)->Heap.SameBut a s.heap h'->HOk X.prog X.w H h':=fun {a h'} ha hs b ob e=>by
  obtain⟨_,_,hfree⟩:=ha;refine(I.hok b ob e).stay (fun c w' hc q=>(hs.2 c ?_).trans q) (fun _ q=>q) fun _ _ q=>q
  rintro rfl
  rcases hc with rfl | hc
  ·rw[hfree]at e;cases e
  ·rw[hfree]at hc;cases hc
 rcases hx with hk | hk
 ·refine wpAny_storeName_local hk hn (fun h' hn' hs=>?_) hcls
  obtain⟨oL,_,_,hoL,_⟩:=id hn;refine h _ ⟨I.ok,I.os,I.bare,⟨fun b o e n hb hx=>?_,fun b o e n hb hx=>?_,I.base.free,fun b o e hx=>?_,I.base.tups,I.base.frzs,I.base.tbls⟩,⟨_,hn',fun j y v' e1 e2 e3=>?_⟩,fun y c e=>?_,I.free,I.freeC,fun p hp=>?_,tracked ⟨oL,hoL,I.free⟩ hs,by simpa using I.len⟩ ⟨_,hs,.inl rfl⟩
  ·exact(hs.2 b (Nat.ne_of_lt (Vt (Vh e) I.ok.above))).trans (I.base.keep b o e n hb hx)
  ·obtain⟨sl,e1⟩:=I.base.slot b o e n hb hx
   exact⟨sl,(hs.2 b (Nat.ne_of_lt (Vt (Vh e) I.ok.above))).trans e1⟩
  ·obtain⟨o',e1⟩:=I.base.there b o e hx
   exact⟨o',(hs.2 b (Nat.ne_of_lt (Vt (Vh e) I.ok.above))).trans e1⟩
  ·by_cases hj:j=i
   ·subst hj
    rw[hi]at e1;cases e1;rw[getElem?_set_self hiσ]at e2
    cases e2;exact⟨u,r,.inl ⟨hk,by simp⟩⟩
   ·rw[getElem?_set_ne (Ne.symm hj)]at e2
    obtain⟨u',r',q⟩:=hl j y v' e1 e2 e3;refine⟨u',r',?_⟩
    rcases q with ⟨k,e⟩ | ⟨k,c,e,z⟩
    ·refine .inl ⟨k,?_⟩
     have:y≠x:=fun e=>hj (JMa hN e1 (e ▸ hi))
     simp[this,e]
    ·exact .inr ⟨k,c,e,z.sameBut hs (cne y c e)⟩
  ·obtain⟨w',z⟩:=I.cell y c e
   exact⟨w',z.sameBut hs (cne y c e)⟩
  ·obtain⟨e,n,ne,nf,d⟩:=I.pin p hp
   exact⟨(hs.2 p.1 ne).trans e,n,ne,nf,d⟩
 ·have hfn:X.fn x=true:=by
   rcases hf with z | z
   ·exact z
   ·rw[z]at hk;cases hk
  obtain⟨c,hc⟩:=I.ok.has x (.inl hk);obtain⟨w',z⟩:=I.cell x c hc;refine wpAny_storeName_cell I.ok.kind hk hc z (fun h' hc' hs=>?_)
  obtain⟨oc,hoc,hocd⟩:=id z;refine h { s with heap:=h' } ⟨I.ok,I.os,I.bare,⟨fun b o e n hb hx=>?_,fun b o e n hb hx=>?_,I.base.free,fun b o e hx=>?_,I.base.tups,I.base.frzs,I.base.tbls⟩,⟨m,hn.sameBut hs (Ne.symm (cne x c hc)),fun j y v' e1 e2 e3=>?_⟩,fun y c' e=>?_,I.free,I.freeC,fun p hp=>?_,tracked ⟨oc,hoc,I.freeC x c hc⟩ hs,by simpa using I.len⟩ ⟨c,hs,.inr hc⟩
  ·exact(hs.2 b (Nat.ne_of_lt (Vt (Vh e) (I.ok.cab x c hfn hc)))).trans (I.base.keep b o e n hb hx)
  ·obtain⟨sl,e1⟩:=I.base.slot b o e n hb hx
   exact⟨sl,(hs.2 b (Nat.ne_of_lt (Vt (Vh e) (I.ok.cab x c hfn hc)))).trans e1⟩
  ·obtain⟨o',e1⟩:=I.base.there b o e hx
   exact⟨o',(hs.2 b (Nat.ne_of_lt (Vt (Vh e) (I.ok.cab x c hfn hc)))).trans e1⟩
  ·by_cases hj:j=i
   ·subst hj
    rw[hi]at e1;cases e1;rw[getElem?_set_self hiσ]at e2
    cases e2;exact⟨u,r,.inr ⟨.inl hk,c,hc,hc'⟩⟩
   ·rw[getElem?_set_ne (Ne.symm hj)]at e2
    obtain⟨u',r',q⟩:=hl j y v' e1 e2 e3;refine⟨u',r',?_⟩
    rcases q with q | ⟨k,c',e,z'⟩
    ·exact .inl q
    ·refine .inr ⟨k,c',e,z'.sameBut hs ?_⟩
     rintro rfl;exact hj (JMa hN e1 (I.ok.inj _ _ _ e hc ▸ hi))
  ·by_cases hcc:c'=c
   ·subst hcc;exact⟨_,hc'⟩
   ·obtain⟨w2,z2⟩:=I.cell y c' e
    exact⟨w2,z2.sameBut hs hcc⟩
  ·obtain⟨e,n,ne,nf,d⟩:=I.pin p hp
   refine⟨(hs.2 p.1 ?_).trans e,n,ne,nf,d⟩
   intro q;rw[q,hoc]at e;have q':oc=p.2:=Option.some.inj e;exact d w' (by rw[<- q'];exact hocd)
theorem JNa{M:Model}{A:Around}{E:YQ_}{i:Nat}{x:Str}{v:V}{u:Value}{Q:Unit->Shared->Prop}(I:Inv X pins σ H s)(hN:X.N.Nodup)(hi:X.N[i]?=some x)(hx:Loc X.env.scope x)(r:QB v u)
 (h:∀ s',Inv X pins (σ.set i (some v)) H s'->Q () s') (hf:X.fn x=true\/X.env.scope.names.lookup x=some .local:=by first | exact .inl rfl | exact .inr rfl | assumption):wpAny M A (storeName X.env x u) Q E s :=
 Xca I hN hi hx r (fun s' I' _=>h s' I') hf
theorem Inv.call'{s':Shared}{ch:List Addr}(I:Inv X pins σ H s)(ho:s'.os=s.os)(u:Un (frs X.stack) ch H H' s.heap s'.heap)(hok:HOk X.prog X.w H' s'.heap)(hg:AllBare s'.gens)
 (hch:∀ b∈ch,(b∈X.ex\/X.s₀.heap.objs.size<=b)/\b≠X.env.locals/\(∀ x c,X.env.cells.lookup x=some c->c≠b)/\∀ p∈X.pn++pins,p.1≠b):Inv X pins σ H' s':=by
 obtain⟨h',g',d',t',o'⟩:=s';have e:o'=s.os:=ho;subst e;exact I.call (g':=g') (t':=t') (d':=d') u hok hg hch
end
abbrev XK:=Value->Option Addr->Hp->Prop
abbrev St:=List (Option V)
abbrev VK:=V->Hp->Prop
abbrev TE:=St->Hp->VK->Prop
abbrev TT:=St->Hp->(Bool->Hp->Prop)->Prop
abbrev TA:=St->Hp->(List V->Hp->Prop)->Prop
structure ZH where
 nx:St->Hp->Prop
 rt:VK
 bk:St->Hp->Prop:=fun _ _=>False
 ct:St->Hp->Prop:=fun _ _=>False
abbrev TS:=ZH->St->Hp->Prop
def EP(X:Cx)(pins:YP_)(σ:St)(Q:VK)(u:Value)(s':Shared):Prop:=∃ v H',Inv X pins σ H' s'/\QB v u/\Q v H'
def TP(X:Cx)(pins:YP_)(σ:St)(Q:Bool->Hp->Prop)(b:Bool)(s':Shared):Prop:=∃ H',Inv X pins σ H' s'/\Q b H'
def AP(X:Cx)(pins:YP_)(σ:St)(Q:List V->Hp->Prop)(us:List Value)(s':Shared):Prop:=∃ vs H',Inv X pins σ H' s'/\QE vs us/\Q vs H'
def SP(X:Cx)(pins:YP_)(D:ZH)(f:Flow)(s':Shared):Prop :=
 match f with
 | .next=>∃ σ' H',Inv X pins σ' H' s'/\D.nx σ' H'
 | .brk=>∃ σ' H',Inv X pins σ' H' s'/\D.bk σ' H'
 | .cont=>∃ σ' H',Inv X pins σ' H' s'/\D.ct σ' H'
 | .ret u=>∃ v σ' H',Inv X pins σ' H' s'/\QB v u/\D.rt v H'
def PE(X:Cx)(e:Expr)(t:TE):Prop :=
 ∀ (pins:YP_) (s:Shared) (σ:St) (H:Hp) (Q:VK),Inv X pins σ H s->t σ H Q->wpAny (model X.prog X.w) X.A (eval e X.env) (EP X pins σ Q) X.xe s
def PT(X:Cx)(e:Expr)(t:TT):Prop :=
 ∀ (pins:YP_) (s:Shared) (σ:St) (H:Hp) (Q:Bool->Hp->Prop),Inv X pins σ H s->t σ H Q->wpAny (model X.prog X.w) X.A (isTrue e X.env (eval e X.env)) (TP X pins σ Q) X.xe s
def PW(X:Cx)(e:Expr)(t:TT):Prop :=
 ∀ (whole:Sem Value) (pins:YP_) (s:Shared) (σ:St) (H:Hp) (Q:Bool->Hp->Prop),Inv X pins σ H s->t σ H Q->wpAny (model X.prog X.w) X.A (isTrue e X.env whole) (TP X pins σ Q) X.xe s
theorem PW.pt{X:Cx}{e:Expr}{t:TT}(h:PW X e t):PT X e t:=h _
def PA(X:Cx)(es:List Expr)(t:TA):Prop :=
 ∀ (pos:Pos) (pins:YP_) (s:Shared) (σ:St) (H:Hp) (Q:List V->Hp->Prop),Inv X pins σ H s->t σ H Q->wpAny (model X.prog X.w) X.A (spliced (backTo pos (starEach es X.env))) (AP X pins σ Q) X.xe s
def PS(X:Cx)(st:Stmt)(t:TS):Prop :=
 ∀ (pins:YP_) (s:Shared) (σ:St) (H:Hp) (D:ZH),Inv X pins σ H s->t D σ H->wpAny (model X.prog X.w) X.A (exec st X.env) (SP X pins D) X.xe s
def PSs(X:Cx)(st:List Stmt)(t:TS):Prop :=
 ∀ (pins:YP_) (s:Shared) (σ:St) (H:Hp) (D:ZH),Inv X pins σ H s->t D σ H->wpAny (model X.prog X.w) X.A (execs st X.env) (SP X pins D) X.xe s
theorem thn{α:Type}{t:Sem α}{Q Q':α->Shared->Prop}{M:Model}{A:Around}{E:YQ_}{s:Shared}(h:wpAny M A t Q E s)(hQ:∀ a s,Q a s->Q' a s):wpAny M A t Q' E s:=wpAny_mono h hQ fun _ _ x=>x
section
variable{X:Cx}
def Xa(i:Nat):TE:=fun σ H Q=>match σ[i]? with | some (some v)=>Q v H | _=>False
theorem ZFc{i:Nat}{σ:St}{H:Hp}{Q:VK}(h:Xa i σ H Q):∃ v,σ[i]?=some (some v)/\Q v H:=by
 unfold Xa at h
 split at h
 ·exact⟨_,‹_›,h⟩
 ·exact h.elim
theorem Zia{i:Nat}{σ:St}{H:Hp}{Q:VK}{v:V}(e:σ[i]?=some (some v))(q:Q v H):Xa i σ H Q:=by
 unfold Xa;rw[e];exact q
theorem Jcb{σ:St}{H:Hp}{Q:VK}{v:V}:Xa 0 (some v::σ) H Q=Q v H:=rfl
theorem Jdb{σ:St}{H:Hp}{Q:VK}{i:Nat}{x:Option V}:Xa (i+1) (x::σ) H Q=Xa i σ H Q:=rfl
def tC(v:V):TE:=fun _ H Q=>Q v H
theorem Yvc{i:Nat}{x:Str}{pos:Pos}(hN:X.N[i]?=some x)(hv:Vis X.env.scope x)(hd:(x == ("__debug__":Str))=false:=by decide)(hcd:(x == ("__classdict__":Str))=false:=by decide):PE X (.Name x pos) (Xa i):=by
 intro pins s σ H Q I h;obtain⟨v,e,h⟩:=ZFc h;obtain⟨m,hn,hl⟩:=I.loc;obtain⟨u,r,l⟩:=hl i x v hN e hv;have fin:EP X pins σ Q u s:=⟨v,H,I,r,h⟩
 rcases l with ⟨hk,hm⟩ | ⟨hk,c,hc,hcell⟩
 ·exact wpAny_Name (wpAny_loadName_local I.ok.kind hk hn hm fin) hd
 ·rcases hk with hk | hk
  ·exact wpAny_Name (wpAny_loadName_cell I.ok.kind hk hc hcell fin) hd
  ·exact wpAny_Name (wpAny_loadName_free I.ok.kind hk hc hcell fin hcd) hd
theorem Qb{i j pos}:PE X (.Constant (.int i) j pos) (tC (.int i)):=fun _ _ _ H _ I h=>wpAny_Constant_int ⟨.int i,H,I.tok _,⟨_,rfl⟩,h⟩
theorem XT{b j pos}:PE X (.Constant (.bool b) j pos) (tC (.bl b)):=fun _ _ _ H _ I h=>Constant_bool ⟨.bl b,H,I,rfl,h⟩
theorem JL{j pos}:PE X (.Constant .none j pos) (tC .non):=fun _ _ _ H _ I h=>Constant_none ⟨.non,H,I,rfl,h⟩
theorem Xb{x j pos}:PE X (.Constant (.str x) j pos) (tC (.str x)):=fun _ _ _ H _ I h=>Calls.Constant_str ⟨.str x,H,I.tok _,⟨_,rfl⟩,h⟩
def Gl(X:Cx)(x:Str):Prop:=X.env.kindOf x=some .globalImplicit
theorem JP{E:YQ_}{pins:YP_}{s:Shared}{σ:St}{H:Hp}{x:Str}{u:Value}{pos:Pos}{Q:YQ_}(I:Inv X pins σ H s)(hg:Gl X x)(hm:X.mg x=some u)(h:Q u s)
 (hd:(x == ("__debug__":Str))=false:=by decide):wpAny (model X.prog X.w) X.A (eval (.Name x pos) X.env) Q E s :=
 Calls.Name_function_global I.ok.kind hg (Calls.loadGlobal_global (by rw[I.ok.glob];exact I.mod.glob.keeps I.bk) hm h) hd
theorem ZSa{E:YQ_}{pins:YP_}{s:Shared}{σ:St}{H:Hp}{x:Str}{u:Value}{pos:Pos}{Q:YQ_}(I:Inv X pins σ H s)(hg:Gl X x)(hm:X.mg x=none)(hv:bootBuiltins x=some u)(h:Q u s)
 (hn:x≠"__name__":=by decide) (hd:(x == ("__debug__":Str))=false:=by decide):wpAny (model X.prog X.w) X.A (eval (.Name x pos) X.env) Q E s:=by
 obtain⟨mb,h1,h2⟩:=I.mod.blt;exact Calls.Name_function_global I.ok.kind hg (Calls.loadGlobal_builtin (by rw[I.ok.glob];exact I.mod.glob.keeps I.bk) hm (by rw[I.ok.blt];exact h1.keeps I.bk) ((h2 x hn).trans hv) h) hd
theorem ZGc{x:Str}{v:V}{u:Value}{pos:Pos}(hg:Gl X x)(hm:X.mg x=some u)(r:QB v u)(hd:(x == ("__debug__":Str))=false:=by decide):PE X (.Name x pos) (tC v) :=
 fun _ _ _ H _ I h=>JP I hg hm ⟨v,H,I,r,h⟩ hd
theorem Ju{x:Str}{v:V}{u:Value}{pos:Pos}(hg:Gl X x)(hm:X.mg x=none)(hv:bootBuiltins x=some u)(r:QB v u)(hn:x≠"__name__":=by decide)(hd:(x == ("__debug__":Str))=false:=by decide):PE X (.Name x pos) (tC v) :=
 fun _ _ _ H _ I h=>ZSa I hg hm hv ⟨v,H,I,r,h⟩ hn hd
variable{a b:Expr}{ta tb:TE}{pos:Pos}
def PC(X:Cx)(op:CmpOp)(a b:Expr)(t:TE):Prop :=
 ∀ (pins:YP_) (s:Shared) (σ:St) (H:Hp) (Q:VK),Inv X pins σ H s->t σ H Q ->
  wpAny (model X.prog X.w) X.A (eval a X.env) (fun v s₁=>wpAny (model X.prog X.w) X.A (eval b X.env) (fun u s₂=>wpAny (model X.prog X.w) X.A (compareOp op v u) (EP X pins σ Q) X.xe s₂) X.xe s₁) X.xe s
def tB(t:TE):TT:=fun σ H Q=>t σ H fun x H1=>∃ c,x=.bl c/\Q c H1
theorem XNa{op:CmpOp}{t:TE}(h:PC X op a b t)(h1:behindInMarks op b=false:=by first | exact nobehind _ (by decide) (by decide) | rfl):PT X (.Compare a [op] [b] pos) (tB t):=by
 intro pins s σ H Q I hw;refine wpAny_isTrue_Compare1 (thn (h pins s σ H _ I hw) fun v s1 h1=>thn h1 fun u s2 h2=>thn h2 fun c s3 hZ=>?_) h1
 obtain⟨x,H1,I1,r1,q1⟩:=hZ;obtain⟨d,rfl,q⟩:=q1;cases r1;exact wpAny_truthy_bool ⟨H1,I1,q⟩
theorem ZU{e:Expr}{t:TE}(h:PE X e t)(he:∀ whole,isTrue e X.env whole=(do let v <- whole;standAt e.pos;holding [v] (truthy v)):=by intro _;rfl):PT X e (tB t):=by
 intro pins s σ H Q I hw;refine isTrue_plain (thn (h pins s σ H _ I hw) fun v s1 hZ=>?_) (he _)
 obtain⟨x,H1,I1,r1,q1⟩:=hZ;obtain⟨d,rfl,q⟩:=q1;cases r1;exact wpAny_truthy_bool ⟨H1,I1,q⟩
variable{tA tB':TT}{rest:List Expr}
def Xzc(t u:TT):TT:=fun σ H Q=>t σ H fun c H1=>if c=true then u σ H1 Q else Q false H1
def tOr(t u:TT):TT:=fun σ H Q=>t σ H fun c H1=>if c=true then Q true H1 else u σ H1 Q
def XAc(t:TT):TT:=fun σ H Q=>t σ H fun c H1=>Q (!c) H1
theorem Jv(ha:PT X a tA):PW X (.BoolOp .And [a] pos) tA:=by
 intro wh pins s σ H Q I h;refine isTrue_and (thn (ha pins s σ H Q I h) fun c s1 e=>?_)
 cases c with
 | true=>exact isTrue_and_nil e
 | false=>exact e
theorem QUa(ha:PT X a tA):PW X (.BoolOp .Or [a] pos) tA:=by
 intro wh pins s σ H Q I h;refine isTrue_or (thn (ha pins s σ H Q I h) fun c s1 e=>?_)
 cases c with
 | false=>exact isTrue_or_nil e
 | true=>exact e
theorem YE(ha:PT X a tA)(hb:PW X (.BoolOp .And (b::rest) pos) tB'):PW X (.BoolOp .And (a::b::rest) pos) (Xzc tA tB'):=by
 intro wh pins s σ H Q I h;refine isTrue_and (thn (ha pins s σ H _ I h) fun c s1 hZ=>?_)
 obtain⟨H1,I1,q1⟩:=hZ;cases c with
 | true=>exact hb wh pins s1 σ H1 Q I1 q1
 | false=>exact⟨H1,I1,q1⟩
theorem JOa(ha:PT X a tA)(hb:PW X (.BoolOp .Or (b::rest) pos) tB'):PW X (.BoolOp .Or (a::b::rest) pos) (tOr tA tB'):=by
 intro wh pins s σ H Q I h;refine isTrue_or (thn (ha pins s σ H _ I h) fun c s1 hZ=>?_)
 obtain⟨H1,I1,q1⟩:=hZ;cases c with
 | true=>exact⟨H1,I1,q1⟩
 | false=>exact hb wh pins s1 σ H1 Q I1 q1
theorem Js(ha:PT X a tA):PT X (.UnaryOp .Not a pos) (XAc tA):=by
 intro pins s σ H Q I h;exact isTrue_not (ha pins s σ H (fun c H1=>Q (!c) H1) I h)
def JVc(ta tb:TE):TE:=fun σ H Q=>ta σ H fun x H1=>∃ c,x=.bl c/\if c=true then tb σ H1 Q else Q (.bl false) H1
theorem Ywc{op}{t:TE}(h:PE X a t):PE X (.BoolOp op [a] pos) t:=fun pins s σ H Q I hw=>BoolOp_one (h pins s σ H Q I hw)
theorem Yxc(ha:PE X a ta)(hb:PE X (.BoolOp .And (b::rest) pos) tb):PE X (.BoolOp .And (a::b::rest) pos) (JVc ta tb):=by
 intro pins s σ H Q I h;refine BoolOp_and (thn (ha pins s σ H _ I h) fun v s1 hZ=>?_)
 obtain⟨x,H1,I1,r1,q1⟩:=hZ;obtain⟨c,rfl,q1⟩:=q1;cases r1;refine wpAny_truthy_bool ?_
 cases c with
 | true=>exact hb pins s1 σ H1 Q I1 q1
 | false=>exact⟨.bl false,H1,I1,rfl,q1⟩
def tIf(t:TT)(ta tb:TE):TE:=fun σ H Q=>t σ H fun c H1=>if c=true then ta σ H1 Q else tb σ H1 Q
theorem QVb{c:Expr}(hc:PT X c tA)(ha:PE X a ta)(hb:PE X b tb):PE X (.IfExp c a b pos) (tIf tA ta tb):=by
 intro pins s σ H Q I h;refine wpAny_IfExp (thn (hc pins s σ H _ I h) fun d s1 hZ=>?_)
 obtain⟨H1,I1,q1⟩:=hZ;cases d with
 | true=>exact ha pins s1 σ H1 Q I1 q1
 | false=>exact hb pins s1 σ H1 Q I1 q1
end
def SqL(K:W.Frag)(H:Hp)(a:Addr)(xs:List V):Prop :=
 Rd H a (.lst xs) \/
  ∃ (o:Obj) (its:Array Value) (n:Nat),K.lookup a=some o/\o.cls=.type "list"/\o.dict=none/\o.data=.seq its n/\its.size<=sizeLine/\QE xs its.toList
def SqT(K:W.Frag)(H:Hp)(a:Addr)(xs:List V):Prop :=
 Rd H a (.tup xs) \/
  ∃ (o:Obj) (its:Array Value) (n:Nat),K.lookup a=some o/\o.cls=.type "tuple"/\o.data=.seq its n/\its.size<=sizeLine/\QE xs its.toList
def Qnd:Value->Option V
 | .none=>some .non
 | .bool b=>some (.bl b)
 | .int i _=>some (.int i)
 | .str x _=>some (.str x)
 | .bytes b _=>some (.byt b)
 | .float b _=>some (.flt b)
 | .ref a=>some (.ref a)
 | .type n=>some (.ty n)
 | _=>none
theorem QB.abs{x:V}{u:Value}(r:QB x u):Qnd u=some x:=by
 cases x with
 | non=>cases r;rfl
 | bl _=>cases r;rfl
 | int _=>obtain⟨t,rfl⟩:=r;rfl
 | str _=>obtain⟨t,rfl⟩:=r;rfl
 | byt _=>obtain⟨t,rfl⟩:=r;rfl
 | flt _=>obtain⟨t,rfl⟩:=r;rfl
 | ref _=>cases r;rfl
 | ty _=>cases r;rfl
theorem QB.inj{x y:V}{u:Value}(r:QB x u)(q:QB y u):x=y:=Option.some.inj (r.abs.symm.trans q.abs)
theorem QE.inj:∀ {xs ys:List V} {us:List Value},QE xs us->QE ys us->xs=ys
 | _,_,_,.nil,.nil=>rfl
 | _,_,_,.cons r t,.cons r' t'=>by rw[r.inj r',QE.inj t t']
section
variable{X:Cx}{pins:YP_}{σ:St}{H:Hp}{s:Shared}{a:Addr}{xs ys:List V}
theorem SqL.of{K:W.Frag}(h:H a=some (.lst xs)):SqL K H a xs:=.inl (.inl h)
theorem SqT.of{K:W.Frag}(h:H a=some (.tup xs)):SqT K H a xs:=.inl (.inl h)
theorem Inv.list(I:Inv X pins σ H s)(h:SqL X.K H a xs):∃ its:List Value,QE xs its/\PlainL s.heap a its.toArray/\xs.length<=sizeLine:=by
 rcases h with h | ⟨o,its,n,hk,hc,hd,hs,hz,r⟩
 ·obtain⟨z,its,n,r,e⟩:=h.ok I.hok
  exact⟨its,r,⟨_,n,e,rfl,rfl,rfl⟩,z⟩
 ·refine⟨its.toList,r,⟨o,n,I.kIn a o hk,hc,hd,by simpa using hs⟩,?_⟩
  have e:=r.length;simp only[Array.length_toList]at e
  omega
theorem Inv.tuple(I:Inv X pins σ H s)(h:SqT X.K H a xs):∃ its:List Value,QE xs its/\IsTup s.heap a its.toArray/\xs.length<=sizeLine:=by
 rcases h with h | ⟨o,its,n,hk,hc,hs,hz,r⟩
 ·obtain⟨⟨z,_⟩,its,r,p⟩:=h.ok I.hok
  exact⟨its,r,p,z⟩
 ·refine⟨its.toList,r,⟨o,I.kIn a o hk,hc,n,by simpa using hs⟩,?_⟩
  have e:=r.length;simp only[Array.length_toList]at e
  omega
theorem Inv.list_inj(I:Inv X pins σ H s)(h:SqL X.K H a xs)(h':SqL X.K H a ys):xs=ys:=by
 obtain⟨its,r,⟨o,n,e,_,_,d⟩,_⟩:=I.list h;obtain⟨its',r',⟨o',n',e',_,_,d'⟩,_⟩:=I.list h';rw[e]at e';cases e';rw[d]at d';injection d' with d1 _
 have:its=its':=by simpa using congrArg Array.toList d1
 subst this;exact r.inj r'
theorem Inv.tuple_inj(I:Inv X pins σ H s)(h:SqT X.K H a xs)(h':SqT X.K H a ys):xs=ys:=by
 obtain⟨its,r,⟨o,e,_,n,d⟩,_⟩:=I.tuple h;obtain⟨its',r',⟨o',e',_,n',d'⟩,_⟩:=I.tuple h';rw[e]at e';cases e';rw[d]at d';injection d' with d1 _
 have:its=its':=by simpa using congrArg Array.toList d1
 subst this;exact r.inj r'
end
abbrev Cx.wish(X:Cx)(E:YQ_):Cx:={ X with xe:=E }
abbrev Cx.nox(X:Cx):Cx:=X.wish fun _ _=>False
theorem Cx.Ok.wish{X:Cx}(ok:X.Ok)(E:YQ_):(X.wish E).Ok :=
 ⟨ok.mod,ok.kind,ok.glob,ok.blt,ok.above,ok.inj,ok.has,ok.cab,ok.hd,ok.frames,ok.stk,ok.exf,ok.bs,ok.bsz,ok.noex,ok.exfs,ok.funs,ok.frf⟩
theorem Cx.Ok.unwish{X:Cx}{E:YQ_}(ok:(X.wish E).Ok):X.Ok :=
 ⟨ok.mod,ok.kind,ok.glob,ok.blt,ok.above,ok.inj,ok.has,ok.cab,ok.hd,ok.frames,ok.stk,ok.exf,ok.bs,ok.bsz,ok.noex,ok.exfs,ok.funs,ok.frf⟩
section
variable{X:Cx}{pins:YP_}{σ:St}{H:Hp}{s:Shared}{E:YQ_}
theorem Inv.wish(I:Inv X pins σ H s)(E:YQ_):Inv (X.wish E) pins σ H s:=⟨I.ok.wish E,I.os,I.bare,I.base,I.loc,I.cell,I.free,I.freeC,I.pin,I.hok,I.len⟩
theorem Inv.unwish(I:Inv (X.wish E) pins σ H s):Inv X pins σ H s:=⟨I.ok.unwish,I.os,I.bare,I.base,I.loc,I.cell,I.free,I.freeC,I.pin,I.hok,I.len⟩
theorem SP.unwish{D:ZH}{f:Flow}{s':Shared}(h:SP (X.wish E) pins D f s'):SP X pins D f s':=by
 cases f with
 | next=>obtain⟨σ',H',I,q⟩:=h;exact⟨σ',H',I.unwish,q⟩
 | brk=>obtain⟨σ',H',I,q⟩:=h;exact⟨σ',H',I.unwish,q⟩
 | cont=>obtain⟨σ',H',I,q⟩:=h;exact⟨σ',H',I.unwish,q⟩
 | ret u=>obtain⟨v,σ',H',I,r,q⟩:=h;exact⟨v,σ',H',I.unwish,r,q⟩
theorem PSs.nox{st:List Stmt}{t:TS}(h:PSs X.nox st t):PSs X st t:=fun pins s σ H D I hw =>
 wpAny_mono (h pins s σ H D (I.wish _) hw) (fun _ _ q=>q.unwish) fun _ _ z=>False.elim z
end
section
variable{X:Cx}{st:Stmt}{rest:List Stmt}{t u:TS}{e:Expr}{te:TE}{pos:Pos}
def JWc:TS:=fun D σ H=>D.nx σ H
def Yr(t u:TS):TS:=fun D σ H=>t { D with nx:=u D } σ H
theorem Qu:PSs X [] JWc:=fun _ _ σ H _ I h=>wpAny_execs_nil ⟨σ,H,I,h⟩
theorem Qa(h1:PS X st t)(h2:PSs X rest u):PSs X (st::rest) (Yr t u):=by
 intro pins s σ H D I h;refine wpAny_execs_cons (thn (h1 pins s σ H { D with nx:=u D } I h) fun f s1 q=>?_)
 cases f with
 | next =>
  obtain⟨σ',H',I',q⟩:=q;exact h2 pins s1 σ' H' D I' q
 | ret v=>exact q
 | brk=>exact q
 | cont=>exact q
theorem Qg(h1:PS X st t):PSs X [st] t:=by
 intro pins s σ H D I h;refine wpAny_execs_cons (thn (h1 pins s σ H D I h) fun f s1 q=>?_)
 cases f with
 | next=>exact wpAny_execs_nil q
 | ret v=>exact q
 | brk=>exact q
 | cont=>exact q
theorem Inv.quiet{pins:YP_}{σ:St}{H:Hp}{s:Shared}(I:Inv X pins σ H s):interactive X.env=false:=by simp[interactive,I.ok.kind]
def JXc(te:TE):TS:=fun D σ H=>te σ H fun _ H1=>D.nx σ H1
theorem ZK(he:PE X e te)(hs:swapsWith e none pos.line X.env=pure false:=by rfl):PS X (.Expr e pos) (JXc te):=by
 intro pins s σ H D I h;exact wpAny_Expr_any (thn (he pins s σ H _ I h) fun v s1 ⟨x,H1,I1,r1,q1⟩=>⟨σ,H1,I1,q1⟩) I.quiet hs
def XBc(te:TE):TS:=fun D σ H=>te σ H D.rt
theorem Qm(he:PE X e te):PS X (.Return (some e) pos) (XBc te):=by
 intro pins s σ H D I h;exact wpAny_Return_some (thn (he pins s σ H _ I h) fun v s1 ⟨x,H1,I1,r1,q1⟩=>⟨x,σ,H1,I1,r1,q1⟩)
def XCc(c:TT)(t u:TS):TS:=fun D σ H=>c σ H fun b H1=>if b=true then t D σ H1 else u D σ H1
theorem QN{c:Expr}{a b:List Stmt}{tc:TT}(hc:PT X c tc)(ha:PSs X a t)(hb:PSs X b u):PS X (.If c a b pos) (XCc tc t u):=by
 intro pins s σ H D I h;refine wpAny_If (thn (hc pins s σ H _ I h) fun d s1 hZ=>?_)
 obtain⟨H1,I1,q1⟩:=hZ;cases d with
 | true=>exact ha pins s1 σ H1 D I1 q1
 | false=>exact hb pins s1 σ H1 D I1 q1
end
abbrev TG:=V->St->Hp->(St->Hp->Prop)->Prop
abbrev TGs:=List V->St->Hp->(St->Hp->Prop)->Prop
def PG(X:Cx)(target:Expr)(t:TG):Prop :=
 ∀ (pins:YP_) (s:Shared) (σ:St) (H:Hp) (v:V) (u:Value) (Q:St->Hp->Prop),Inv X pins σ H s->QB v u->t v σ H Q ->
  wpAny (model X.prog X.w) X.A (assign target X.env u) (fun _ s'=>∃ σ' H',Inv X pins σ' H' s'/\Q σ' H') X.xe s
def PGs(X:Cx)(ts:List Expr)(t:TGs):Prop :=
 ∀ (pins:YP_) (s:Shared) (σ:St) (H:Hp) (vs:List V) (us:List Value) (Q:St->Hp->Prop),Inv X pins σ H s->QE vs us->t vs σ H Q ->
  wpAny (model X.prog X.w) X.A (assignInOrder ((assignEach ts X.env).map (·.2)) us) (fun _ s'=>∃ σ' H',Inv X pins σ' H' s'/\Q σ' H') X.xe s
abbrev Yyc:=V->V->V->Hp->(Hp->Prop)->Prop
def XDc(X:Cx)(t:Yyc):Prop :=
 ∀ (pins:YP_) (s:Shared) (σ:St) (H:Hp) (o i v:V) (ov iv u:Value) (Q:Hp->Prop),Inv X pins σ H s->QB o ov->QB i iv->QB v u->t o i v H Q ->
  wpAny (model X.prog X.w) X.A (setItem ov iv u) (fun _ s'=>∃ H',Inv X pins σ H' s'/\Q H') X.xe s
section
variable{X:Cx}{pos:Pos}
def Yeb(i:Nat):TG:=fun v σ H Q=>Q (σ.set i (some v)) H
theorem Q7{i:Nat}{x:Str}(hN:X.N.Nodup)(hi:X.N[i]?=some x)(hx:Loc X.env.scope x)(hf:X.fn x=true\/X.env.scope.names.lookup x=some .local:=by first | exact .inl rfl | exact .inr rfl | assumption):PG X (.Name x pos) (Yeb i):=by
 intro pins s σ H v u Q I r h;exact wpAny_assign_Name (JNa I hN hi hx r (fun s' I'=>⟨_,H,I',h⟩) hf)
def XEc:TGs:=fun vs σ H Q=>vs=[]/\Q σ H
def JYc(t:TG)(u:TGs):TGs:=fun vs σ H Q=>∃ v r,vs=v::r/\t v σ H fun σ' H'=>u r σ' H' Q
theorem Zja:PGs X [] XEc:=by
 intro pins s σ H vs us Q I r h;obtain⟨e,h⟩:=h;subst e;cases r;exact assignInOrder_nil ⟨σ,H,I,h⟩
theorem ZY{e:Expr}{es:List Expr}{t:TG}{u:TGs}(h1:PG X e t)(h2:PGs X es u)
 (hs:(assignEach (e::es) X.env).map (·.2)=assign e X.env::(assignEach es X.env).map (·.2):=by rfl):PGs X (e::es) (JYc t u):=by
 intro pins s σ H vs us Q I r h;obtain⟨v,vr,e1,h⟩:=h;subst e1;cases r with
 | cons r rr =>
  rw[hs];refine assignInOrder_cons (thn (h1 pins s σ H _ _ _ I r h) fun _ s1 hZ=>?_)
  obtain⟨σ1,H1,I1,q1⟩:=hZ;exact h2 pins s1 σ1 H1 _ _ Q I1 rr q1
def XFc(K:W.Frag)(n:Nat)(t:TGs):TG:=fun v σ H Q=>∃ a xs,v=.ref a/\SqT K H a xs/\xs.length=n/\t xs σ H Q
theorem JPa{es:List Expr}{k:Nat}{t:TGs}{n:Nat}(hc:X.calm=true)(h:PGs X es t)
 (hn:(assignEach es X.env).length=n:=by rfl) (hst:(assignEach es X.env).findIdx? (·.1)=none:=by rfl):PG X (.Tuple es k pos) (XFc X.K n t):=by
 intro pins s σ H v u Q I r hw;obtain⟨a,xs,e1,hq,hl,hw⟩:=hw;subst e1;cases r;obtain⟨its,rv,ht,hz⟩:=I.tuple hq;refine assign_Tuple_tuple (I.ok.hd hc) ht (by simp[hn,<- hl,rv.length]) hst fun h' hx=>?_
 have I1:Inv X pins σ H { s with heap:=h' }:=I.kept (t':=s.toks) fun b o e=>hx b o (Nat.ne_of_lt (Vh e)) e
 exact h pins _ σ H xs _ Q I1 (by simpa using rv) hw
def Qod(to ti:TE)(t:Yyc):TG:=fun v σ H Q=>to σ H fun o H1=>ti σ H1 fun i H2=>t o i v H2 fun H3=>Q σ H3
theorem Yzc{o i:Expr}{to ti:TE}{t:Yyc}(ho:PE X o to)(hi:PE X i ti)(hs:XDc X t)
 (ha:∀ v,assign (.Subscript o i pos) X.env v=(do
  let ov <- holding [v] (eval o X.env)
  let iv <- holding [v,ov] (eval i X.env)
  standAt pos
  holding [v,ov,iv] (setItem ov iv v)
  release [v,ov,iv] []):=by intro _;rfl):PG X (.Subscript o i pos) (Qod to ti t):=by
 intro pins s σ H v u Q I r h;rw[ha];refine Va (wpAny_holding (thn (ho pins s σ H _ I h) fun ov s1 hZ=>?_))
 obtain⟨x,H1,I1,r1,q1⟩:=hZ;refine Va (wpAny_holding (thn (hi pins s1 σ H1 _ I1 q1) fun iv s2 hZ=>?_))
 obtain⟨y,H2,I2,r2,q2⟩:=hZ;refine Va (wpAny_standAt (Va (wpAny_holding (thn (hs pins s2 σ H2 x y v ov iv u _ I2 r1 r2 r q2) fun _ s3 hZ=>?_))))
 obtain⟨H3,I3,q3⟩:=hZ;exact wpAny_release ⟨σ,H3,I3,q3⟩
def YAc(te:TE)(g:TG):TS:=fun D σ H=>te σ H fun x H1=>g x σ H1 D.nx
theorem Jeb{tg e:Expr}{te:TE}{g:TG}(he:PE X e te)(hg:PG X tg g)(hs:swapsWithSole [tg] e pos.line X.env=pure false:=by rfl)(hw:swappedStores [tg] e X.env=pure none:=by rfl)
 (h1:(assignEach [tg] X.env).map (·.2)=[assign tg X.env]:=by rfl):PS X (.Assign [tg] e pos) (YAc te g):=by
 intro pins s σ H D I h;refine wpAny_Assign_stores (thn (he pins s σ H _ I h) fun v s1 hZ=>?_) hs hw
 obtain⟨x,H1,I1,r1,q1⟩:=hZ;rw[h1];exact thn (hg pins s1 σ H1 x v _ I1 r1 q1) fun _ s2 q=>q
theorem Ql{i:Nat}{x:Str}{e:Expr}{te:TE}{pos':Pos}(hN:X.N.Nodup)(hi:X.N[i]?=some x)(hx:Loc X.env.scope x)(he:PE X e te)(hs:swapsWith e (some (.Name x pos')) pos.line X.env=pure false:=by rfl)(hf:X.fn x=true\/X.env.scope.names.lookup x=some .local:=by first | exact .inl rfl | exact .inr rfl | assumption) :
 PS X (.Assign [.Name x pos'] e pos) (YAc te (Yeb i)):=by
 intro pins s σ H D I h;refine wpAny_Assign_Name (thn (he pins s σ H _ I h) fun v s1 hZ=>?_) hs
 obtain⟨y,H1,I1,r1,q1⟩:=hZ;exact JNa I1 hN hi hx r1 (fun s2 I2=>⟨_,H1,I2,q1⟩) hf
end
section
variable{X:Cx}{pos:Pos}
def YBc(c:TT)(tb:TS):TS:=fun D σ H=>∃ W:Nat->St->Hp->Prop,(∃ m,W m σ H)/\∀ m σ H,W m σ H ->
 c σ H fun b H1=>if b=true then ∃ N:St->Hp->Prop,(∀ σ' H',N σ' H'->∃ m',m' < m/\W m' σ' H')/\tb { D with nx:=N,ct:=N,bk:=D.nx } σ H1 else D.nx σ H1
theorem XV{c:Expr}{body:List Stmt}{tc:TT}{tb:TS}(hp:PassesOwn (model X.prog X.w) X.A X.env X.xe)(hc:PT X c tc)(hb:PSs X body tb):PS X (.While c body [] pos) (YBc tc tb):=by
 intro pins s σ H D I h;obtain⟨W,⟨m0,w0⟩,turn⟩:=h;refine wpAny_While (codeAny_whileLoop (fun n s'=>∃ σ' H',Inv X pins σ' H' s'/\W n σ' H') ?_ m0 ⟨σ,H,I,w0⟩)
 rintro n s1 ⟨σ1,H1,I1,w1⟩;refine wpAny_passesOwn hp (thn (hc pins s1 σ1 H1 _ I1 (turn n σ1 H1 w1)) fun b s2 hZ=>?_)
 obtain⟨H2,I2,q2⟩:=hZ;cases b with
 | true =>
  obtain⟨N,hN,q2⟩:=q2;rw[if_pos rfl];refine wpAny_passesOwn hp (thn (hb pins s2 σ1 H2 _ I2 q2) fun f s3 q3=>?_)
  cases f with
  | next =>
   obtain⟨σ3,H3,I3,n3⟩:=q3;obtain⟨m',hm,w3⟩:=hN σ3 H3 n3;exact⟨m',hm,σ3,H3,I3,w3⟩
  | cont =>
   obtain⟨σ3,H3,I3,n3⟩:=q3;obtain⟨m',hm,w3⟩:=hN σ3 H3 n3;exact⟨m',hm,σ3,H3,I3,w3⟩
  | brk=>exact q3
  | ret v=>exact q3
 | false =>
  rw[if_neg Vf];exact wpAny_execs_nil ⟨σ1,H2,I2,q2⟩
end
structure It where
 go:Nat->Hp->Prop
 yld:Nat->Hp->V->Hp->Prop
 stop:Nat->Hp->Prop
def QVa(X:Cx)(pins:YP_)(H:Hp)(b:Addr):Prop :=
 H b=none/\b≠X.env.locals/\b∉X.fs/\(b∈X.ex\/X.s₀.heap.objs.size<=b)/\(∀ x c,X.env.cells.lookup x=some c->c≠b)/\∀ p∈X.pn++pins,p.1≠b
theorem Inv.fpOk{X:Cx}{pins:YP_}{σ:St}{H H':Hp}{s:Shared}{b:Addr}(I:Inv X pins σ H s)(hb:s.heap.objs.size<=b)(hn:H' b=none):QVa X pins H' b:=by
 refine⟨hn,Nat.ne_of_gt (Vt I.lt hb),I.nofs hb,.inr (Vj I.sz hb),fun x c e z=>?_,fun p hp z=>?_⟩
 ·obtain⟨v,q⟩:=I.cell x c e
  exact absurd (Vt q.lt (by rw[z];exact hb)) (Vu _)
 ·exact absurd (Vt (Vh (I.pin p hp).1) (by rw[z];exact hb)) (Vu _)
structure QWb(P:Program)(w:World)(K:W.Frag)(tg:Expr)(J:It)(fp:List Addr)(it:Addr)(tn:Nat->Heap->Prop):Prop where
 mem:it∈fp
 obj:∀ i h,tn i h->∀ b∈fp,∃ o,h.get? b=some o/\∀ v,o.data≠.cell v
 keep:∀ i h h',tn i h->(∀ b∈fp,∀ o,h.get? b=some o->h'.get? b=some o)->tn i h'
 item:∀ (X:Cx),X.prog=P->X.w=w->X.K=K->X.calm=true->∀ (i:Nat) (pins:YP_) (s:Shared) (σ:St) (H:Hp) (E:YQ_),Inv X pins σ H s->(∀ b∈fp,QVa X pins H b)->tn i s.heap->J.go i H ->
  wpAny (model P w) X.A (pyNext (.ref it)) (fun r s1=>∃ u,r=some u /\
   wpAny (model P w) X.A (letOwnedTupleGo tg (.ref it) u) (fun _ s2=>∃ x H',Inv X pins σ H' s2/\QB x u/\J.yld i H x H'/\tn (i+1) s2.heap/\∀ b∈fp,H' b=none) E s1) E s
 done:∀ (X:Cx),X.prog=P->X.w=w->X.K=K->X.calm=true->∀ (i:Nat) (pins:YP_) (s:Shared) (σ:St) (H:Hp) (E:YQ_),Inv X pins σ H s->(∀ b∈fp,QVa X pins H b)->tn i s.heap->J.stop i H ->
  wpAny (model P w) X.A (pyNext (.ref it)) (fun r s1=>r=none/\Inv X pins σ H s1) E s
 self:∀ (A:Around) (i:Nat) (s:Shared) (Q:YQ_) (E:YQ_),tn i s.heap->Q (.ref it) s->wpAny (model P w) A (pyIter (.ref it)) Q E s
abbrev TI:=St->Hp->(It->Hp->Prop)->Prop
def PIE(X:Cx)(pins:YP_)(σ:St)(tg:Expr)(R:It->Hp->Prop)(itv:Value)(s2:Shared):Prop :=
 ∃ (it:Addr) (fp:List Addr) (tn:Nat->Heap->Prop) (J:It) (H':Hp),itv=.ref it/\Inv X pins σ H' s2/\QWb X.prog X.w X.K tg J fp it tn/\tn 0 s2.heap/\(∀ b∈fp,QVa X pins H' b)/\R J H'
def PI(X:Cx)(tg iter:Expr)(wi:TI):Prop :=
 ∀ (pins:YP_) (s:Shared) (σ:St) (H:Hp) (R:It->Hp->Prop),Inv X pins σ H s->wi σ H R ->
  wpAny (model X.prog X.w) X.A (eval iter X.env) (fun v s1=>wpAny (model X.prog X.w) X.A (pyIter v) (PIE X pins σ tg R) X.xe s1) X.xe s
theorem Xda{M:Model}{A:Around}{E:YQ_}{s:Shared}{tg:Expr}{it:Addr}{u:Value}{o:Obj}{n:String}{vs:Array Value}{Q:Unit->Shared->Prop}(ho:s.heap.get? it=some o)(hc:o.cls=.type n)(hd:o.data=.fields vs)
 (hn:["enumerate","zip","dict_itemiterator","dict_reverseitemiterator","odict_iterator","itertools.zip_longest","itertools.pairwise"].contains n=false) (hQ:Q () s):wpAny M A (letOwnedTupleGo tg (.ref it) u) Q E s:=by
 unfold letOwnedTupleGo;cases tg <;> first
  | exact Vg hQ
  | (cases u <;> first
   | exact Vg hQ
   | (refine Va (wpAny_load ho ?_)
      rw[hc,hd];show wpAny M A (if (["enumerate","zip","dict_itemiterator","dict_reverseitemiterator","odict_iterator","itertools.zip_longest","itertools.pairwise"].contains n && vs[0]? == some (rawInt _))=true then _ else _) Q E s
      rw[if_neg (by intro h;rw[hn,Bool.false_and]at h;cases h)]
      exact Vg hQ))
def Itl(K:W.Frag)(a:Addr):It :=
 ⟨fun i H=>∃ xs x,SqL K H a xs/\xs[i]?=some x,fun i H x H'=>H'=H/\∀ xs,SqL K H a xs->xs[i]?=some x,fun i H=>∃ xs,SqL K H a xs/\xs.length<=i⟩
def Itt(K:W.Frag)(a:Addr):It :=
 ⟨fun i H=>∃ xs x,SqT K H a xs/\xs[i]?=some x,fun i H x H'=>H'=H/\∀ xs,SqT K H a xs->xs[i]?=some x,fun i H=>∃ xs,SqT K H a xs/\xs.length<=i⟩
def Itr(lo:Int)(n:Nat):It:=⟨fun i _=>i < n,fun i H x H'=>H'=H/\x=.int (lo+i),fun i _=>n<=i⟩
theorem Xea{P:Program}{w:World}{K:W.Frag}{tg:Expr}(a it:Addr):QWb P w K tg (Itl K a) [it] it (fun i h=>h.IsListIter it a i) where
 mem:=by simp
 obj:=fun i h st b hb=>by
  have e:b=it:=by simpa using hb
  subst e;obtain⟨o,e,c,d⟩:=st;exact⟨o,e,fun v z=>by rw[d]at z;cases z⟩
 keep:=fun i h h' st k=>st.at fun o e=>k it (by simp) o e
 item:=by
  intro X hP hw hK hc i pins s σ H E I hf st hg;subst hP hw hK;obtain⟨xs,x,hq,hx⟩:=hg;obtain⟨its,rv,p,hz⟩:=I.list hq;obtain⟨u,hu,ru⟩:=rv.get hx;obtain⟨f0,f1,f2,f3,f4,f5⟩:=hf it (by simp)
  refine wpAny_pyNext_list_item st p.isList (x:=u) (by simpa using hu) fun h' st' sb=>?_
  have I1:Inv X pins σ H { s with heap:=h' }:=I.turned (t':=s.toks) (fun b o hb e=>(sb.2 b hb).trans e) f0 f1 f3 f4 f5
  obtain⟨o,e,c,d⟩:=id st';exact⟨u,rfl,Xda (s:={ s with heap:=h' }) e c d (by decide) ⟨x,H,I1,ru,⟨rfl,fun ys hy=>by rw[I.list_inj hy hq];exact hx⟩,st',fun b hb=>(hf b hb).1⟩⟩
 done:=by
  intro X hP hw hK hc i pins s σ H E I hf st hg;subst hP hw hK;obtain⟨xs,hq,hx⟩:=hg;obtain⟨its,rv,p,hz⟩:=I.list hq;obtain⟨f0,f1,f2,f3,f4,f5⟩:=hf it (by simp)
  have hl:=rv.length;exact wpAny_pyNext_list_end (I.ok.hd hc) st p.isList (by simp;omega) fun h' eb=>⟨rfl,I.turned (t':=s.toks) (fun b o hb e=>eb b o hb e) f0 f1 f3 f4 f5⟩
 self:=fun _ _ _ _ _ st h=>wpAny_pyIter_listiter st h
theorem JQa{P:Program}{w:World}{K:W.Frag}{tg:Expr}(a it:Addr):QWb P w K tg (Itt K a) [it] it (fun i h=>h.IsTupleIter it a i) where
 mem:=by simp
 obj:=fun i h st b hb=>by
  have e:b=it:=by simpa using hb
  subst e;obtain⟨o,e,c,d⟩:=st;exact⟨o,e,fun v z=>by rw[d]at z;cases z⟩
 keep:=fun i h h' st k=>st.at fun o e=>k it (by simp) o e
 item:=by
  intro X hP hw hK hc i pins s σ H E I hf st hg;subst hP hw hK;obtain⟨xs,x,hq,hx⟩:=hg;obtain⟨its,rv,p,hz⟩:=I.tuple hq;obtain⟨u,hu,ru⟩:=rv.get hx;obtain⟨f0,f1,f2,f3,f4,f5⟩:=hf it (by simp)
  refine wpAny_pyNext_tuple_item st (show s.heap.IsTuple a its.toArray from p) (x:=u) (by simpa using hu) fun h' st' sb=>?_
  have I1:Inv X pins σ H { s with heap:=h' }:=I.turned (t':=s.toks) (fun b o hb e=>(sb.2 b hb).trans e) f0 f1 f3 f4 f5
  obtain⟨o,e,c,d⟩:=id st';exact⟨u,rfl,Xda (s:={ s with heap:=h' }) e c d (by decide) ⟨x,H,I1,ru,⟨rfl,fun ys hy=>by rw[I.tuple_inj hy hq];exact hx⟩,st',fun b hb=>(hf b hb).1⟩⟩
 done:=by
  intro X hP hw hK hc i pins s σ H E I hf st hg;subst hP hw hK;obtain⟨xs,hq,hx⟩:=hg;obtain⟨its,rv,p,hz⟩:=I.tuple hq;obtain⟨f0,f1,f2,f3,f4,f5⟩:=hf it (by simp)
  have hl:=rv.length;exact wpAny_pyNext_tuple_end (I.ok.hd hc) st (show s.heap.IsTuple a its.toArray from p) (by simp;omega) fun h' eb=>⟨rfl,I.turned (t':=s.toks) (fun b o hb e=>eb b o hb e) f0 f1 f3 f4 f5⟩
 self:=fun _ _ _ _ _ st h=>wpAny_pyIter_tupleiter st h
theorem Jfb{P:Program}{w:World}{K:W.Frag}{tg:Expr}(it:Addr)(lo:Int)(n:Nat):QWb P w K tg (Itr lo n) [it] it (fun i h=>IsRangeIter h it (lo+(i:Nat) * 1) ((n:Int) - (i:Nat)) 1) where
 mem:=by simp
 obj:=fun i h st b hb=>by
  have e:b=it:=by simpa using hb
  subst e;exact⟨_,st,fun v z=>by
   have z':Data.fields _=Data.cell v:=z;cases z'⟩
 keep:=fun i h h' st k=>k it (by simp) _ st
 item:=by
  intro X hP hw hK hc i pins s σ H E I hf st hg;subst hP hw hK;obtain⟨f0,f1,f2,f3,f4,f5⟩:=hf it (by simp)
  have W:=Walks.range (prog:=X.prog) (w:=X.w) (I.ok.hd hc) it lo 1 n;refine W.item i s _ _ hg st fun v h' tk hv st' kk=>?_
  obtain⟨t,rfl⟩:=hv;have I1:Inv X pins σ H { s with heap:=h',toks:=tk }:=I.turned (fun b o hb e=>kk b o (by simpa using hb) e) f0 f1 f3 f4 f5
  refine⟨_,rfl,Xda (s:={ s with heap:=h',toks:=tk }) (n:="range_iterator") st' rfl rfl (by decide) ⟨.int (lo+i),H,I1,⟨t,?_⟩,⟨rfl,rfl⟩,st',fun b hb=>(hf b hb).1⟩⟩
  rw[Int.mul_one]
 done:=by
  intro X hP hw hK hc i pins s σ H E I hf st hg;subst hP hw hK;obtain⟨f0,f1,f2,f3,f4,f5⟩:=hf it (by simp)
  exact wpAny_pyNext_range_end (I.ok.hd hc) st (by have:n<=i:=hg;omega) fun h' eb=>⟨rfl,I.turned (t':=s.toks) (fun b o hb e=>eb b o hb e) f0 f1 f3 f4 f5⟩
 self:=fun _ _ _ _ _ st h=>wpAny_pyIter_rangeiter st h
section
variable{X:Cx}{tg:Expr}
def XTb(K:W.Frag)(tl:TE):TI:=fun σ H R=>tl σ H fun x H1=>∃ a,x=.ref a/\(∃ xs,SqL K H1 a xs)/\R (Itl K a) H1
def YCc(K:W.Frag)(tl:TE):TI:=fun σ H R=>tl σ H fun x H1=>∃ a,x=.ref a/\(∃ xs,SqT K H1 a xs)/\R (Itt K a) H1
theorem Jwa{l:Expr}{tl:TE}(hl:PE X l tl):PI X tg l (XTb X.K tl):=by
 intro pins s σ H R I h;refine thn (hl pins s σ H _ I h) fun v s1 hZ=>?_
 obtain⟨x,H1,I1,r1,q1⟩:=hZ;obtain⟨a,e,⟨xs,hq⟩,q⟩:=q1;subst e;cases r1;obtain⟨its,rv,p,hz⟩:=I1.list hq;refine wpAny_pyIter_list p.isList ?_
 refine⟨s1.heap.objs.size,[s1.heap.objs.size],_,_,H1,rfl,I1.kept (t':=s1.toks) fun b o e=>Vd _ e,Xea a _,⟨_,Vi _ rfl,rfl,rfl⟩,fun b hb=>?_,q⟩
 have e:b=s1.heap.objs.size:=by simpa using hb
 subst e;exact I1.fpOk (Ve _) (I1.hok.fresh (Ve _))
theorem Jgb{l:Expr}{tl:TE}(hl:PE X l tl):PI X tg l (YCc X.K tl):=by
 intro pins s σ H R I h;refine thn (hl pins s σ H _ I h) fun v s1 hZ=>?_
 obtain⟨x,H1,I1,r1,q1⟩:=hZ;obtain⟨a,e,⟨xs,hq⟩,q⟩:=q1;subst e;cases r1;obtain⟨its,rv,p,hz⟩:=I1.tuple hq;refine wpAny_pyIter_tuple (show s1.heap.IsTuple a its.toArray from p) ?_
 refine⟨s1.heap.objs.size,[s1.heap.objs.size],_,_,H1,rfl,I1.kept (t':=s1.toks) fun b o e=>Vd _ e,JQa a _,⟨_,Vi _ rfl,rfl,rfl⟩,fun b hb=>?_,q⟩
 have e:b=s1.heap.objs.size:=by simpa using hb
 subst e;exact I1.fpOk (Ve _) (I1.hok.fresh (Ve _))
theorem QXb{pins:YP_}{σ:St}{H:Hp}{s:Shared}{R:It->Hp->Prop}{E:YQ_}{lo hi:Int}{t u v:Tok}{tk:Nat}(I:Inv X pins σ H s)(h1 : -(2 ^ 62)<=lo)(h2:lo < 2 ^ 62)(h3 : -(2 ^ 62)<=hi)(h4:hi < 2 ^ 62)
 (q:R (Itr lo (hi - lo).toNat) H):wpAny (model X.prog X.w) X.A (pyIter (.ref s.heap.objs.size)) (PIE X pins σ tg R) E { s with heap:=s.heap.push { cls:=.type "range",data:=.fields #[.int lo t,.int hi u,.int 1 v] },toks:=tk }:=by
 refine wpAny_pyIter_range (IsRange.new ..) (small_one h1 h2 h3 h4) ?_
 have I1:Inv X pins σ H { s with heap:=s.heap.push { cls:=.type "range",data:=.fields #[.int lo t,.int hi u,.int 1 v] },toks:=tk }:=I.kept fun b o e=>Vd _ e
 refine⟨(s.heap.push { cls:=.type "range",data:=.fields #[.int lo t,.int hi u,.int 1 v] }).objs.size,[(s.heap.push { cls:=.type "range",data:=.fields #[.int lo t,.int hi u,.int 1 v] }).objs.size],_,_,H,rfl,
  I1.kept (t':=tk) fun b o e=>Vd _ e,Jfb _ lo (hi - lo).toNat,?_,fun b hb=>?_,q⟩
 ·have e1:lo+((0:Nat):Int) * 1=lo:=by simp
  have e2:(((hi - lo).toNat:Nat):Int) - ((0:Nat):Int)=Builtin.Range.rangeSize lo hi 1:=by rw[rangeSize_one];split <;> omega
  show IsRangeIter _ _ (lo+((0:Nat):Int) * 1) ((((hi - lo).toNat:Nat):Int) - ((0:Nat):Int)) 1;rw[e1,e2];exact Vi _ rfl
 ·have e:b=(s.heap.push { cls:=.type "range",data:=.fields #[.int lo t,.int hi u,.int 1 v] }).objs.size:=by simpa using hb
  subst e;exact I1.fpOk (Ve _) (I1.hok.fresh (Ve _))
def XUb(ta:TA):TI:=fun σ H R=>ta σ H fun vs H1=>∃ j:Int,vs=[.int j] /\ -(2 ^ 62)<=j/\j < 2 ^ 62/\R (Itr 0 j.toNat) H1
def XVb(ta:TA):TI:=fun σ H R=>ta σ H fun vs H1=>∃ i j:Int,vs=[.int i,.int j]/\(-(2 ^ 62)<=i/\i < 2 ^ 62 /\ -(2 ^ 62)<=j/\j < 2 ^ 62)/\R (Itr i (j - i).toNat) H1
theorem YU{a:Expr}{ta:TA}{p pos:Pos}(hg:Gl X "range")(hm:X.mg "range"=none)(ha:PA X [a] ta)(hs:starEach [a] X.env=[(false,eval a X.env)]:=by rfl):PI X tg (.Call (.Name "range" p) [a] [] pos) (XUb ta):=by
 intro pins s σ H R I h;refine Call_ (ZSa I hg hm boot_range (PyProof.Rows.callWith_type1 (thn (ha pos pins s σ H _ I h) fun us s1 hZ=>?_) hs rfl))
 obtain⟨vs,H1,I1,r1,q1⟩:=hZ;obtain⟨j,e,q1,q2,q⟩:=q1;subst e;cases r1 with
 | cons r rr =>
  cases rr;obtain⟨t,rfl⟩:=r;exact call_range_1 (QXb I1 (by omega) (by omega) q1 q2 (by simpa using q))
theorem Y2b{a b:Expr}{ta:TA}{p pos:Pos}(hg:Gl X "range")(hm:X.mg "range"=none)(ha:PA X [a,b] ta)(hs:starEach [a,b] X.env=[(false,eval a X.env),(false,eval b X.env)]:=by rfl)(hs2:starEach [b] X.env=[(false,eval b X.env)]:=by rfl) :
 PI X tg (.Call (.Name "range" p) [a,b] [] pos) (XVb ta):=by
 intro pins s σ H R I h;refine Call_ (ZSa I hg hm boot_range (PyProof.Rows.callWith_type1 (thn (ha pos pins s σ H _ I h) fun us s1 ⟨vs,H1,I1,r1,q1⟩=>?_) (by rw[hs,hs2]) (by rw[hs2];rfl)))
 obtain⟨i,j,e,⟨q1,q2,q3,q4⟩,q⟩:=q1;subst e;cases r1 with
 | cons r rr =>
  cases rr with
  | cons r' rr =>
   cases rr;obtain⟨t,rfl⟩:=r;obtain⟨t',rfl⟩:=r';exact call_range_2 (QXb I1 q1 q2 q3 q4 q)
def XOa(wi:TI)(g:TG)(tb:TS):TS:=fun D σ H=>wi σ H fun J H1=>∃ W:Nat->Nat->St->Hp->Prop,(∃ m,W 0 m σ H1)/\∀ i m σ H,W i m σ H ->
 (J.stop i H/\D.nx σ H)\/(J.go i H/\∃ N:St->Hp->Prop,(∀ σ' H',N σ' H'->∃ m',m' < m/\W (i+1) m' σ' H')/\∀ x H',J.yld i H x H'->g x σ H' fun σ2 H2=>tb { D with nx:=N,ct:=N,bk:=D.nx } σ2 H2)
def JRa(fp:List Addr)(h:Heap):YP_:=fp.filterMap fun b=>(h.get? b).map fun o=>(b,o)
theorem Xc{fp:List Addr}{h:Heap}{b:Addr}{o:Obj}(hb:b∈fp)(e:h.get? b=some o):(b,o)∈JRa fp h:=mem_filterMap.mpr ⟨b,hb,by rw[e];rfl⟩
theorem Y3b{fp:List Addr}{h:Heap}{p:Addr×Obj}(hp:p∈JRa fp h):p.1∈fp/\h.get? p.1=some p.2:=by
 obtain⟨b,hb,e⟩:=mem_filterMap.mp hp;cases q:h.get? b with
 | none=>rw[q]at e;cases e
 | some o =>
  rw[q]at e;have e':(b,o)=p:=Option.some.inj e;subst e';exact⟨hb,q⟩
theorem Inv.pinned{pins:YP_}{σ:St}{H:Hp}{s:Shared}{fp:List Addr}(I:Inv X pins σ H s)(hf:∀ b∈fp,QVa X pins H b)(ho:∀ b∈fp,∃ o,s.heap.get? b=some o/\∀ v,o.data≠.cell v):Inv X (pins++JRa fp s.heap) σ H s :=
 I.pins_of fun p hp=>(Vl.mp hp).elim (fun z=>I.pin p (Vp _ z)) fun z=>by
  obtain⟨hb,e⟩:=Y3b z;obtain⟨f0,f1,f2,_⟩:=hf p.1 hb;obtain⟨o,e',d⟩:=ho p.1 hb;rw[e]at e';cases e';exact⟨e,f0,f1,f2,d⟩
theorem Inv.unpinned{pins pl:YP_}{σ:St}{H:Hp}{s:Shared}(I:Inv X (pins++pl) σ H s):Inv X pins σ H s:=I.pins_of fun p hp=>I.pin p (Vp _ (mem_append_left _ hp))
theorem JM{iter:Expr}{body:List Stmt}{wi:TI}{g:TG}{tb:TS}{pos:Pos}(hp:PassesOwn (model X.prog X.w) X.A X.env X.xe)(hc:X.calm=true)(hi:PI X tg iter wi)(hg:PG X tg g)(hb:PSs X body tb)
 (hs:∀ x,foldedSetIterable iter X.env x=pure x:=by intro _;rfl):PS X (.For tg iter body [] pos) (XOa wi g tb):=by
 intro pins s σ H D I h;refine wpAny_For (thn (hi pins s σ H _ I h) fun v s1 h1=>thn h1 fun itv s2 h2=>?_) hs
 obtain⟨it,fp,tn,J,H2,e,I2,T,st2,f2,W,⟨m0,w0⟩,turn⟩:=h2;subst e;have stat:∀ {H':Hp},(∀ b∈fp,H' b=none)->∀ b∈fp,QVa X pins H' b:=fun hn b hb=>⟨hn b hb,(f2 b hb).2⟩
 refine codeAny_forLoop_any (fun n s'=>∃ i σ' H',Inv X pins σ' H' s'/\tn i s'.heap/\(∀ b∈fp,H' b=none)/\W i n σ' H') ?_ m0 ⟨0,σ,H2,I2,st2,fun b hb=>(f2 b hb).1,w0⟩
 rintro n s3 ⟨i,σ3,H3,I3,st3,fr3,w3⟩
 rcases turn i n σ3 H3 w3 with ⟨stop,qn⟩ | ⟨go,N,hN,step⟩
 ·refine wpAny_passesOwn hp (thn (T.done X rfl rfl rfl hc i pins s3 σ3 H3 X.xe I3 (stat fr3) st3 stop) fun r s4 hZ=>?_)
  obtain⟨hr,I4⟩:=hZ;subst hr;exact wpAny_execs_nil ⟨σ3,H3,I4,qn⟩
 ·refine wpAny_passesOwn hp (thn (T.item X rfl rfl rfl hc i pins s3 σ3 H3 X.xe I3 (stat fr3) st3 go) fun r s4 hZ=>?_)
  obtain⟨u,hr,h4⟩:=hZ;subst hr;refine wpAny_passesOwn hp (thn h4 fun _ s5 hZ=>?_)
  obtain⟨x,H5,I5,r5,y5,st5,fr5⟩:=hZ;have I5':=I5.pinned (stat fr5) (T.obj _ _ st5);refine wpAny_passesOwn hp (thn (hg _ s5 σ3 H5 x u _ I5' r5 (step x H5 y5)) fun _ s6 hZ=>?_)
  obtain⟨σ6,H6,I6,q6⟩:=hZ;refine wpAny_passesOwn hp (thn (hb _ s6 σ6 H6 _ I6 q6) fun f s7 q7=>?_)
  have again:∀ {σ7:St} {H7:Hp},Inv X (pins++JRa fp s5.heap) σ7 H7 s7->N σ7 H7->∃ m,m < n/\∃ i σ' H',Inv X pins σ' H' s7/\tn i s7.heap/\(∀ b∈fp,H' b=none)/\W i m σ' H':=fun {σ7 H7} I7 n7=>by
   obtain⟨m',hm,w7⟩:=hN σ7 H7 n7;refine⟨m',hm,i+1,σ7,H7,I7.unpinned,T.keep _ _ _ st5 fun b hb o e=>(I7.pin (b,o) (Vp _ (Vp _ (Xc hb e)))).1,fun b hb=>?_,w7⟩
   obtain⟨o,e,d⟩:=T.obj _ _ st5 b hb;exact(I7.pin (b,o) (Vp _ (Vp _ (Xc hb e)))).2.1
  cases f with
  | next=>obtain⟨σ7,H7,I7,n7⟩:=q7;exact again I7 n7
  | cont=>obtain⟨σ7,H7,I7,n7⟩:=q7;exact again I7 n7
  | brk=>obtain⟨σ7,H7,I7,q7⟩:=q7;exact⟨σ7,H7,I7.unpinned,q7⟩
  | ret v=>obtain⟨x7,σ7,H7,I7,r7,q7⟩:=q7;exact⟨x7,σ7,H7,I7.unpinned,r7,q7⟩
end
theorem XWb{K:W.Frag}{a:Addr}{xs:List V}{g:TG}{tb:TS}{D:ZH}{σ:St}{H:Hp}(Pv:Nat->St->Hp->Prop)(h0:Pv 0 σ H)(hl:∀ i σ H,i<=xs.length->Pv i σ H->SqL K H a xs)
 (hs:∀ i x σ H,xs[i]?=some x->Pv i σ H->g x σ H fun σ2 H2=>tb { D with nx:=Pv (i+1),ct:=Pv (i+1),bk:=D.nx } σ2 H2) (hd:∀ σ H,Pv xs.length σ H->D.nx σ H) :
 ∃ W:Nat->Nat->St->Hp->Prop,(∃ m,W 0 m σ H)/\∀ i m σ H,W i m σ H ->
  ((Itl K a).stop i H/\D.nx σ H)\/((Itl K a).go i H/\∃ N:St->Hp->Prop,(∀ σ' H',N σ' H'->∃ m',m' < m/\W (i+1) m' σ' H')/\∀ x H',(Itl K a).yld i H x H'->g x σ H' fun σ2 H2=>tb { D with nx:=N,ct:=N,bk:=D.nx } σ2 H2):=by
 refine⟨fun i m σ H=>m=xs.length - i/\i<=xs.length/\Pv i σ H,⟨xs.length,by simp,Vk _,h0⟩,?_⟩
 rintro i m σ H ⟨rfl,hi,p⟩;have q:=hl i σ H hi p
 by_cases hlt:i < xs.length
 ·refine .inr ⟨⟨xs,xs[i],q,by simp[hlt]⟩,Pv (i+1),fun σ' H' p'=>⟨xs.length - (i+1),by omega,rfl,hlt,p'⟩,fun x H' y=>?_⟩
  obtain⟨e,y⟩:=y;subst e;exact hs i x σ _ (y xs q) p
 ·have e:i=xs.length:=by omega
  subst e;exact .inl ⟨⟨xs,q,Ve _⟩,hd σ H p⟩
theorem ZHc{K:W.Frag}{a:Addr}{xs:List V}{g:TG}{tb:TS}{D:ZH}{σ:St}{H:Hp}(Pv:Nat->St->Hp->Prop)(h0:Pv 0 σ H)(hl:∀ i σ H,i<=xs.length->Pv i σ H->SqT K H a xs)
 (hs:∀ i x σ H,xs[i]?=some x->Pv i σ H->g x σ H fun σ2 H2=>tb { D with nx:=Pv (i+1),ct:=Pv (i+1),bk:=D.nx } σ2 H2) (hd:∀ σ H,Pv xs.length σ H->D.nx σ H) :
 ∃ W:Nat->Nat->St->Hp->Prop,(∃ m,W 0 m σ H)/\∀ i m σ H,W i m σ H ->
  ((Itt K a).stop i H/\D.nx σ H)\/((Itt K a).go i H/\∃ N:St->Hp->Prop,(∀ σ' H',N σ' H'->∃ m',m' < m/\W (i+1) m' σ' H')/\∀ x H',(Itt K a).yld i H x H'->g x σ H' fun σ2 H2=>tb { D with nx:=N,ct:=N,bk:=D.nx } σ2 H2):=by
 refine⟨fun i m σ H=>m=xs.length - i/\i<=xs.length/\Pv i σ H,⟨xs.length,by simp,Vk _,h0⟩,?_⟩
 rintro i m σ H ⟨rfl,hi,p⟩;have q:=hl i σ H hi p
 by_cases hlt:i < xs.length
 ·refine .inr ⟨⟨xs,xs[i],q,by simp[hlt]⟩,Pv (i+1),fun σ' H' p'=>⟨xs.length - (i+1),by omega,rfl,hlt,p'⟩,fun x H' y=>?_⟩
  obtain⟨e,y⟩:=y;subst e;exact hs i x σ _ (y xs q) p
 ·have e:i=xs.length:=by omega
  subst e;exact .inl ⟨⟨xs,q,Ve _⟩,hd σ H p⟩
theorem Y4b{lo:Int}{n:Nat}{g:TG}{tb:TS}{D:ZH}{σ:St}{H:Hp}(Pv:Nat->St->Hp->Prop)(h0:Pv 0 σ H)
 (hs:∀ i σ H,i < n->Pv i σ H->g (.int (lo+i)) σ H fun σ2 H2=>tb { D with nx:=Pv (i+1),ct:=Pv (i+1),bk:=D.nx } σ2 H2) (hd:∀ σ H,Pv n σ H->D.nx σ H) :
 ∃ W:Nat->Nat->St->Hp->Prop,(∃ m,W 0 m σ H)/\∀ i m σ H,W i m σ H ->
  ((Itr lo n).stop i H/\D.nx σ H)\/((Itr lo n).go i H/\∃ N:St->Hp->Prop,(∀ σ' H',N σ' H'->∃ m',m' < m/\W (i+1) m' σ' H')/\∀ x H',(Itr lo n).yld i H x H'->g x σ H' fun σ2 H2=>tb { D with nx:=N,ct:=N,bk:=D.nx } σ2 H2):=by
 refine⟨fun i m σ H=>m=n - i/\i<=n/\Pv i σ H,⟨n,by simp,Vk _,h0⟩,?_⟩
 rintro i m σ H ⟨rfl,hi,p⟩
 by_cases hlt:i < n
 ·refine .inr ⟨hlt,Pv (i+1),fun σ' H' p'=>⟨n - (i+1),by omega,rfl,hlt,p'⟩,fun x H' y=>?_⟩
  obtain⟨e,y⟩:=y;subst e y;exact hs i σ _ hlt p
 ·have e:i=n:=by omega
  subst e;exact .inl ⟨Ve _,hd σ H p⟩
abbrev R2:=V->V->Hp->VK->Prop
def OpR(X:Cx)(f:Value->Value->Sem Value)(r:R2):Prop :=
 ∀ (pins:YP_) (s:Shared) (σ:St) (H:Hp) (x y:V) (v u:Value) (Q:VK),Inv X pins σ H s->QB x v->QB y u->r x y H Q ->
  wpAny (model X.prog X.w) X.A (f v u) (EP X pins σ Q) X.xe s
def UnR(X:Cx)(f:Value->Sem Value)(r:V->Hp->VK->Prop):Prop :=
 ∀ (pins:YP_) (s:Shared) (σ:St) (H:Hp) (x:V) (v:Value) (Q:VK),Inv X pins σ H s->QB x v->r x H Q ->
  wpAny (model X.prog X.w) X.A (f v) (EP X pins σ Q) X.xe s
def YV(X:Cx)(f:Value)(r:List V->Hp->VK->Prop):Prop :=
 ∀ (pins:YP_) (s:Shared) (σ:St) (H:Hp) (xs:List V) (us:List Value) (Q:VK),Inv X pins σ H s->QE xs us->r xs H Q ->
  wpAny (model X.prog X.w) X.A (call f us) (EP X pins σ Q) X.xe s
def Qpd(X:Cx)(r:V->Hp->(Bool->Hp->Prop)->Prop):Prop :=
 ∀ (pins:YP_) (s:Shared) (σ:St) (H:Hp) (x:V) (v:Value) (Q:Bool->Hp->Prop),Inv X pins σ H s->QB x v->r x H Q ->
  wpAny (model X.prog X.w) X.A (truthy v) (TP X pins σ Q) X.xe s
def tOp(r:R2)(ta tb:TE):TE:=fun σ H Q=>ta σ H fun x H1=>tb σ H1 fun y H2=>r x y H2 Q
def tUn(r:V->Hp->VK->Prop)(ta:TE):TE:=fun σ H Q=>ta σ H fun x H1=>r x H1 Q
def rI(C:Int->Int->Prop)(g:Int->Int->V):R2:=fun x y H Q=>∃ i j,x=.int i/\y=.int j/\C i j/\Q (g i j) H
def rI0(g:Int->Int->V):R2:=fun x y H Q=>∃ i j,x=.int i/\y=.int j/\Q (g i j) H
def rU(g:Int->V):V->Hp->VK->Prop:=fun x H Q=>∃ i,x=.int i/\Q (g i) H
section
variable{X:Cx}{a b c:Expr}{ta tb tc:TE}{pos:Pos}
theorem YDc(ha:PE X a ta)(hb:PE X b tb){pins:YP_}{s:Shared}{σ:St}{H:Hp}{R:V->V->Hp->Prop}(I:Inv X pins σ H s)
 (h:ta σ H fun x H1=>tb σ H1 fun y H2=>R x y H2) {Q:YQ_} {f:Value->Value->Sem Value}
 (hf:∀ v u s2 x y H2,Inv X pins σ H2 s2->QB x v->QB y u->R x y H2->wpAny (model X.prog X.w) X.A (f v u) Q X.xe s2) :
 wpAny (model X.prog X.w) X.A (eval a X.env) (fun v s₁=>wpAny (model X.prog X.w) X.A (eval b X.env) (fun u s₂=>wpAny (model X.prog X.w) X.A (f v u) Q X.xe s₂) X.xe s₁) X.xe s:=by
 refine thn (ha pins s σ H _ I h) fun v s1 hZ=>?_
 obtain⟨x,H1,I1,r1,q1⟩:=hZ;refine thn (hb pins s1 σ H1 _ I1 q1) fun u s2 hZ=>?_
 obtain⟨y,H2,I2,r2,q2⟩:=hZ;exact hf v u s2 x y H2 I2 r1 r2 q2
theorem Qk{op:Operator}{r:R2}(ho:OpR X (binaryOp op) r)(ha:PE X a ta)(hb:PE X b tb):PE X (.BinOp a op b pos) (tOp r ta tb):=by
 intro pins s σ H Q I h;exact wpAny_BinOp (YDc ha hb I h fun v u s2 x y H2 I2 rx ry q=>ho pins s2 σ H2 x y v u Q I2 rx ry q)
theorem QYb{op:UnaryOp}{r:V->Hp->VK->Prop}(ho:UnR X (unaryOp op) r)(ha:PE X a ta):PE X (.UnaryOp op a pos) (tUn r ta):=by
 intro pins s σ H Q I h;exact UnaryOp_ (thn (ha pins s σ H _ I h) fun v s1 ⟨x,H1,I1,r1,q1⟩=>ho pins s1 σ H1 x v Q I1 r1 q1)
theorem opI{f:Value->Value->Sem Value}{C:Int->Int->Prop}{g:Int->Int->Int}
 (rule:∀ (i j:Int) (t u:Tok) (s:Shared) (Q:YQ_) (E:YQ_),C i j->Q (.int (g i j) s.toks) { s with toks:=s.toks+1 }->wpAny (model X.prog X.w) X.A (f (.int i t) (.int j u)) Q E s) :
 OpR X f (rI C fun i j=>.int (g i j)):=by
 intro pins s σ H x y v u Q I rx ry h;obtain⟨i,j,rfl,rfl,hc,q⟩:=h;obtain⟨t,rfl⟩:=rx;obtain⟨t',rfl⟩:=ry;exact rule i j t t' s _ _ hc ⟨.int (g i j),H,I.tok _,⟨_,rfl⟩,q⟩
theorem YEc{f:Value->Value->Sem Value}{g:Int->Int->Int}
 (rule:∀ (i j:Int) (t u:Tok) (s:Shared) (Q:YQ_) (E:YQ_),Q (.int (g i j) s.toks) { s with toks:=s.toks+1 }->wpAny (model X.prog X.w) X.A (f (.int i t) (.int j u)) Q E s) :
 OpR X f (rI0 fun i j=>.int (g i j)):=by
 intro pins s σ H x y v u Q I rx ry h;obtain⟨i,j,rfl,rfl,q⟩:=h;obtain⟨t,rfl⟩:=rx;obtain⟨t',rfl⟩:=ry;exact rule i j t t' s _ _ ⟨.int (g i j),H,I.tok _,⟨_,rfl⟩,q⟩
theorem YFc{f:Value->Value->Sem Value}{g:Int->Int->Bool}
 (rule:∀ (i j:Int) (t u:Tok) (s:Shared) (Q:YQ_) (E:YQ_),Q (.bool (g i j)) s->wpAny (model X.prog X.w) X.A (f (.int i t) (.int j u)) Q E s) :
 OpR X f (rI0 fun i j=>.bl (g i j)):=by
 intro pins s σ H x y v u Q I rx ry h;obtain⟨i,j,rfl,rfl,q⟩:=h;obtain⟨t,rfl⟩:=rx;obtain⟨t',rfl⟩:=ry;exact rule i j t t' s _ _ ⟨.bl (g i j),H,I,rfl,q⟩
def J7(i j:Int):Prop:=0 < j/\j < 1073741824
def QZb(i j:Int):Prop:=0<=j/\j<=1000000/\i.natAbs < 2 ^ 64
def Jhb(i j:Int):Prop:=(-(2 ^ 64) < i/\i < 2 ^ 64)\/(-(2 ^ 64) < j/\j < 2 ^ 64)
theorem Jhb.ok{i j:Int}(h:Jhb i j):IntMulOk i j:=by
 rcases h with ⟨h1,h2⟩ | ⟨h1,h2⟩
 ·exact .of_left (intBits_le_64 h1 h2)
 ·exact .of_right (intBits_le_64 h1 h2)
theorem Jib(k:Nat):(0:Int)<=2 ^ k:=by
 rw[two_pow_cast];exact Int.natCast_nonneg _
theorem Q9:OpR X (binaryOp .Add) (rI0 fun i j=>.int (i+j)):=YEc fun _ _ _ _ _ _ _ q=>add_int q
theorem Jg:OpR X (binaryOp .Sub) (rI0 fun i j=>.int (i - j)):=YEc fun _ _ _ _ _ _ _ q=>sub_int q
theorem Q8:OpR X (binaryOp .FloorDiv) (rI J7 fun i j=>.int (i / j)):=opI fun i j _ _ _ _ _ hc q=>by
 have h1:(0:Int) < j:=hc.1;have h2:j < 1073741824:=hc.2;exact floordiv_int (by omega) (by rw[Int.fdiv_eq_ediv_of_nonneg i (by omega)];exact q) (.inl (PyProof.noPylong_small (by omega)))
theorem QD:OpR X (binaryOp .Mod) (rI (fun _ j=>0 < j) fun i j=>.int (i % j)):=opI fun i j _ _ _ _ _ hc q=>by
 have h1:(0:Int) < j:=hc;exact mod_int' (by omega) (by rw[Int.fmod_eq_emod_of_nonneg i (by omega)];exact q)
theorem JSa:OpR X (binaryOp .Pow) (rI QZb fun i j=>.int (i ^ j.toNat)):=opI fun _ _ _ _ _ _ _ hc q=>pow_int_small hc.1 hc.2.1 hc.2.2 q
theorem XXb:OpR X (binaryOp .RShift) (rI (fun _ j=>0<=j) fun i j=>.int (i / 2 ^ j.toNat)):=opI fun i j _ _ _ _ _ hc q =>
 rshift_int hc (by rw[Int.fdiv_eq_ediv_of_nonneg i (Jib _)];exact q)
theorem XYb:OpR X (binaryOp .BitXor) (rI0 fun i j=>.int (Builtin.bitXor i j)):=YEc fun _ _ _ _ _ _ _ q=>xor_int q
theorem unI{f:Value->Sem Value}{g:Int->Int}
 (rule:∀ (i:Int) (t:Tok) (s:Shared) (Q:YQ_) (E:YQ_),Q (.int (g i) s.toks) { s with toks:=s.toks+1 }->wpAny (model X.prog X.w) X.A (f (.int i t)) Q E s) :
 UnR X f (rU fun i=>.int (g i)):=by
 intro pins s σ H x v Q I rx h;obtain⟨i,rfl,q⟩:=h;obtain⟨t,rfl⟩:=rx;exact rule i t s _ _ ⟨.int (g i),H,I.tok _,⟨_,rfl⟩,q⟩
theorem JTa:UnR X (unaryOp .USub) (rU fun i=>.int (-i)):=unI fun _ _ _ _ _ q=>neg_int q
end
def XW:V->V->Bool
 | .non,.non=>true | .non,.int _=>true | .int _,.non=>true | .non,.bl _=>true | .bl _,.non=>true | .non,.str _=>true | .str _,.non=>true
 | .int _,.int _=>true | .bl _,.bl _=>true | .str _,.str _=>true | .byt _,.byt _=>true
 | .int _,.str _=>true | .str _,.int _=>true | .bl _,.str _=>true | .str _,.bl _=>true
 | _,_=>false
theorem ZIc:XW .non .non=true:=rfl
theorem ZJc{b:Int}:XW .non (.int b)=true:=rfl
theorem ZKc{a:Int}:XW (.int a) .non=true:=rfl
theorem ZLc{b:Bool}:XW .non (.bl b)=true:=rfl
theorem ZMc{a:Bool}:XW (.bl a) .non=true:=rfl
theorem ZNc{b:Str}:XW .non (.str b)=true:=rfl
theorem ZOc{a:Str}:XW (.str a) .non=true:=rfl
theorem ZPc{a:Int}{b:Int}:XW (.int a) (.int b)=true:=rfl
theorem ZQc{a:Bool}{b:Bool}:XW (.bl a) (.bl b)=true:=rfl
theorem ZRc{a:Str}{b:Str}:XW (.str a) (.str b)=true:=rfl
theorem ZSc{a:Int}{b:Str}:XW (.int a) (.str b)=true:=rfl
theorem ZTc{a:Str}{b:Int}:XW (.str a) (.int b)=true:=rfl
theorem ZUc{a:Bool}{b:Str}:XW (.bl a) (.str b)=true:=rfl
theorem ZVc{a:Str}{b:Bool}:XW (.str a) (.bl b)=true:=rfl
def rEq:R2:=fun x y H Q=>XW x y=true/\Q (.bl (decide (x=y))) H
def rNe:R2:=fun x y H Q=>XW x y=true/\Q (.bl (!decide (x=y))) H
theorem Yfb{i j:Int}:decide (V.int i=V.int j)=(i == j):=by
 rw[Bool.eq_iff_iff];simp
theorem XZb{i j:Bool}:decide (V.bl i=V.bl j)=(i == j):=by
 rw[Bool.eq_iff_iff];simp
theorem Ygb{i j:Str}:decide (V.str i=V.str j)=(i == j):=by
 rw[Bool.eq_iff_iff];simp
theorem Yhb{i j:Array UInt8}:decide (V.byt i=V.byt j)=(i.toList == j.toList):=by
 rw[Bool.eq_iff_iff];cases i;cases j;simp
section
variable{X:Cx}{a b c:Expr}{ta tb tc:TE}{pos:Pos}
theorem QV{pins:YP_}{σ:St}{H:Hp}{s:Shared}{Q:VK}{k k':Bool}(I:Inv X pins σ H s)(q:Q (.bl k) H)(e:k=k'):EP X pins σ Q (.bool k') s:=by
 subst e;exact⟨.bl k,H,I,rfl,q⟩
theorem Zk:OpR X (compareOp .Eq) rEq:=by
 intro pins s σ H x y v u Q I rx ry h;obtain⟨hs,q⟩:=h;cases x with
 | non =>
  cases rx;cases y with
  | non=>cases ry;exact PySem.EqNone.eq_none_none (QV I q (by simp))
  | bl j=>cases ry;exact PySem.EqNone.eq_none_bool (QV I q (by simp))
  | int j=>obtain⟨t',rfl⟩:=ry;exact PySem.EqNone.eq_none_int (QV I q (by simp))
  | str j=>obtain⟨t',rfl⟩:=ry;exact PySem.EqNone.eq_none_str (QV I q (by simp))
  | _=>exact absurd (show false=true from hs) Vf
 | bl i =>
  cases rx;cases y with
  | non=>cases ry;exact PySem.EqNone.eq_bool_none (QV I q (by simp))
  | bl j=>cases ry;exact eq_bool (QV I q XZb)
  | str j=>obtain⟨t',rfl⟩:=ry;exact PySem.EqMixed.eq_bool_str (QV I q (by simp))
  | _=>exact absurd (show false=true from hs) Vf
 | int i =>
  obtain⟨t,rfl⟩:=rx;cases y with
  | non=>cases ry;exact PySem.EqNone.eq_int_none (QV I q (by simp))
  | int j=>obtain⟨t',rfl⟩:=ry;exact eq_int (QV I q Yfb)
  | str j=>obtain⟨t',rfl⟩:=ry;exact PySem.EqMixed.eq_int_str (QV I q (by simp))
  | _=>exact absurd (show false=true from hs) Vf
 | str i =>
  obtain⟨t,rfl⟩:=rx;cases y with
  | non=>cases ry;exact PySem.EqNone.eq_str_none (QV I q (by simp))
  | bl j=>cases ry;exact PySem.EqMixed.eq_str_bool (QV I q (by simp))
  | int j=>obtain⟨t',rfl⟩:=ry;exact PySem.EqMixed.eq_str_int (QV I q (by simp))
  | str j=>obtain⟨t',rfl⟩:=ry;exact eq_str (QV I q Ygb)
  | _=>exact absurd (show false=true from hs) Vf
 | byt i =>
  obtain⟨t,rfl⟩:=rx;cases y with
  | byt j=>obtain⟨t',rfl⟩:=ry;exact W.eq_bytes (QV I q Yhb)
  | _=>exact absurd (show false=true from hs) Vf
 | _=>cases y <;> exact absurd (show false=true from hs) Vf
theorem X0b:OpR X (compareOp .NotEq) rNe:=by
 intro pins s σ H x y v u Q I rx ry h;obtain⟨hs,q⟩:=h;cases x with
 | non =>
  cases rx;cases y with
  | non=>cases ry;exact PySem.EqNone.ne_none_none (QV I q (by simp))
  | bl j=>cases ry;exact PySem.EqNone.ne_none_bool (QV I q (by simp))
  | int j=>obtain⟨t',rfl⟩:=ry;exact PySem.EqNone.ne_none_int (QV I q (by simp))
  | str j=>obtain⟨t',rfl⟩:=ry;exact PySem.EqNone.ne_none_str (QV I q (by simp))
  | _=>exact absurd (show false=true from hs) Vf
 | bl i =>
  cases rx;cases y with
  | non=>cases ry;exact PySem.EqNone.ne_bool_none (QV I q (by simp))
  | bl j=>cases ry;exact ne_bool (QV I q (congrArg not XZb))
  | str j=>obtain⟨t',rfl⟩:=ry;exact PySem.EqMixed.ne_bool_str (QV I q (by simp))
  | _=>exact absurd (show false=true from hs) Vf
 | int i =>
  obtain⟨t,rfl⟩:=rx;cases y with
  | non=>cases ry;exact PySem.EqNone.ne_int_none (QV I q (by simp))
  | int j=>obtain⟨t',rfl⟩:=ry;exact ne_int (QV I q (congrArg not Yfb))
  | str j=>obtain⟨t',rfl⟩:=ry;exact PySem.EqMixed.ne_int_str (QV I q (by simp))
  | _=>exact absurd (show false=true from hs) Vf
 | str i =>
  obtain⟨t,rfl⟩:=rx;cases y with
  | non=>cases ry;exact PySem.EqNone.ne_str_none (QV I q (by simp))
  | bl j=>cases ry;exact PySem.EqMixed.ne_str_bool (QV I q (by simp))
  | int j=>obtain⟨t',rfl⟩:=ry;exact PySem.EqMixed.ne_str_int (QV I q (by simp))
  | str j=>obtain⟨t',rfl⟩:=ry;exact ne_str (QV I q (congrArg not Ygb))
  | _=>exact absurd (show false=true from hs) Vf
 | byt i =>
  obtain⟨t,rfl⟩:=rx;cases y with
  | byt j=>obtain⟨t',rfl⟩:=ry;exact W.ne_bytes (QV I q (congrArg not Yhb))
  | _=>exact absurd (show false=true from hs) Vf
 | _=>cases y <;> exact absurd (show false=true from hs) Vf
theorem JUa:OpR X (compareOp .Lt) (rI0 fun i j=>.bl (decide (i < j))):=YFc fun _ _ _ _ _ _ _ q=>lt_int q
theorem Jga:OpR X (compareOp .Gt) (rI0 fun i j=>.bl (decide (j < i))):=YFc fun _ _ _ _ _ _ _ q=>gt_int q
theorem JZc:OpR X (compareOp .GtE) (rI0 fun i j=>.bl (decide (j<=i))):=YFc fun _ _ _ _ _ _ _ q=>ge_int q
theorem XPa:OpR X (compareOp .Is) (fun x y H Q=>y=.non/\Q (.bl (decide (x=.non))) H):=by
 intro pins s σ H x y v u Q I rx ry h;obtain⟨rfl,q⟩:=h;cases ry;refine is_none_gen (QV I q ?_)
 cases x <;> first
  | (cases rx;rfl)
  | (obtain⟨t,rfl⟩:=rx;rfl)
theorem ZWc:OpR X (compareOp .IsNot) (fun x y H Q=>y=.non/\Q (.bl (!decide (x=.non))) H):=by
 intro pins s σ H x y v u Q I rx ry h;obtain⟨rfl,q⟩:=h;cases ry;refine isnot_none_gen (QV I q ?_)
 cases x <;> first
  | (cases rx;rfl)
  | (obtain⟨t,rfl⟩:=rx;rfl)
theorem Qw(b:Expr){op:CmpOp}(h:op≠.In:=by decide)(h2:op≠.NotIn:=by decide):behindInMarks op b=false:=by
 have e1:(op == CmpOp.In)=false:=by cases op <;> first | rfl | exact absurd rfl h
 have e2:(op == CmpOp.NotIn)=false:=by cases op <;> first | rfl | exact absurd rfl h2
 cases b <;> simp[behindInMarks,e1,e2]
theorem Jxa{op:CmpOp}{r:R2}(ho:OpR X (compareOp op) r)(ha:PE X a ta)(hb:PE X b tb)(hm:behindInMarks op b=false):PE X (.Compare a [op] [b] pos) (tOp r ta tb):=by
 intro pins s σ H Q I h;exact wpAny_Compare1 (YDc ha hb I h fun v u s2 x y H2 I2 rx ry q=>ho pins s2 σ H2 x y v u Q I2 rx ry q) hm
def J0c(t:TE):TT:=fun σ H Q=>t σ H fun x H'=>∃ k,x=.bl k/\Q k H'
theorem Qs{op:CmpOp}{r:R2}(ho:OpR X (compareOp op) r)(ha:PE X a ta)(hb:PE X b tb)(hm:behindInMarks op b=false):PT X (.Compare a [op] [b] pos) (J0c (tOp r ta tb)):=by
 intro pins s σ H Q I h;refine wpAny_isTrue_Compare1 (thn (ha pins s σ H _ I h) fun v s1 ⟨x,H1,I1,r1,q1⟩=>thn (hb pins s1 σ H1 _ I1 q1) fun u s2 ⟨y,H2,I2,r2,q2⟩ =>
  thn (ho pins s2 σ H2 x y v u _ I2 r1 r2 q2) fun c s3 ⟨z,H3,I3,r3,k,e,q3⟩=>?_) hm
 subst e;cases r3;exact wpAny_truthy_bool ⟨H3,I3,q3⟩
def XGc(K:W.Frag)(x:V)(H:Hp)(k:Bool):Prop :=
 match x with
 | .non=>k=false
 | .bl b=>k=b
 | .int i=>k=(i != 0)
 | .str y=>y.length<=sizeLine/\k=((y.length:Int) != 0)
 | .byt y=>y.size<=sizeLine/\k=((y.size:Int) != 0)
 | .ref p=>(∃ xs,SqL K H p xs/\k=!xs.isEmpty)\/(∃ xs,SqT K H p xs/\k=!xs.isEmpty)\/∃ kvs,H p=some (.dK kvs)/\k=!kvs.isEmpty
 | _=>False
theorem Jjb{κ:Type}{kvs:List (κ×V)}{vs:List (κ×Value)}(r:KV kvs vs):(!vs.isEmpty)=!kvs.isEmpty:=by
 cases r <;> rfl
theorem JVa{xs:List V}{its:List Value}(r:QE xs its):(!its.toArray.isEmpty)=!xs.isEmpty:=by
 cases r <;> simp
theorem QWa:(sizeLine:Nat) < 2 ^ 63:=by rw[sizeLine_eq];decide
theorem YGc:Qpd X (fun x H Q=>∃ k,XGc X.K x H k/\Q k H):=by
 intro pins s σ H x v Q I rx h;obtain⟨k,e,q⟩:=h;have hl:=QWa;have hs:sizeLine=16777216:=sizeLine_eq;cases x with
 | non =>
  cases rx;have e':k=false:=e;subst e';exact truthy_none ⟨H,I,q⟩
 | bl b =>
  cases rx;have e':k=b:=e;subst e';exact wpAny_truthy_bool ⟨H,I,q⟩
 | int i =>
  obtain⟨t,rfl⟩:=rx;have e':k=(i != 0):=e;subst e';exact PySem.P.truthy_int ⟨H,I,q⟩
 | str y =>
  obtain⟨t,rfl⟩:=rx;obtain⟨hy,e'⟩:y.length<=sizeLine/\k=((y.length:Int) != 0):=e;subst e';exact PySem.P.truthy_str (by omega) ⟨H,I.tok _,q⟩
 | byt y =>
  obtain⟨t,rfl⟩:=rx;obtain⟨hy,e'⟩:y.size<=sizeLine/\k=((y.size:Int) != 0):=e;subst e';exact W.truthy_bytes (by omega) ⟨H,I.tok _,q⟩
 | ref p =>
  cases rx;have e':(∃ xs,SqL X.K H p xs/\k=!xs.isEmpty)\/(∃ xs,SqT X.K H p xs/\k=!xs.isEmpty)\/∃ kvs,H p=some (.dK kvs)/\k=!kvs.isEmpty:=e
  rcases e' with ⟨xs,hx,e'⟩ | ⟨xs,hx,e'⟩ | ⟨kvs,hx,e'⟩
  ·subst e'
   obtain⟨its,r,pl,hz⟩:=I.list hx;have hlen:=r.length;exact wpAny_truthy_list pl.isList (by simp only[Vn];omega) ⟨H,I.tok _,by rw[JVa r];exact q⟩
  ·subst e'
   obtain⟨its,r,pl,hz⟩:=I.tuple hx;have hlen:=r.length;exact truthy_tuple pl (by simp only[Vn];omega) ⟨H,I.tok _,by rw[JVa r];exact q⟩
  ·subst e'
   obtain⟨hz,hS,vs,r,m⟩:kvs.length<=sizeLine/\(p == sysModules)=false/\∃ vs,KV kvs vs/\s.heap.DictOf (QM X.prog X.w) p vs:=I.hok p _ hx;have hlen:kvs.length=vs.length:=Paired.length r;exact wpAny_truthy_dict hS m (by omega) ⟨H,I.tok _,by rw[Jjb r];exact q⟩
 | _=>exact(show False from e).elim
theorem JWa(ha:PE X a ta)(he:∀ whole,isTrue a X.env whole=(do let v <- whole;standAt a.pos;holding [v] (truthy v))) :
 PT X a (fun σ H Q=>ta σ H fun x H'=>∃ k,XGc X.K x H' k/\Q k H'):=by
 intro pins s σ H Q I h;exact isTrue_plain (thn (ha pins s σ H _ I h) fun v s1 ⟨x,H1,I1,r1,q1⟩=>YGc pins s1 σ H1 x v Q I1 r1 q1) (he _)
theorem QXa:OpR X (binaryOp .Add) (fun x y H Q=>∃ i j,x=.str i/\y=.str j/\i.length+j.length<=sizeLine/\Q (.str (i++j)) H):=by
 intro pins s σ H x y v u Q I rx ry h;obtain⟨i,j,rfl,rfl,hz,q⟩:=h;obtain⟨t,rfl⟩:=rx;obtain⟨t',rfl⟩:=ry;exact add_str (fun t' tk=>⟨.str (i++j),H,I.tok _,⟨_,rfl⟩,q⟩) hz
theorem Zka{x:V}{us:List Value}(r:QE [x] us):∃ u,us=[u]/\QB x u:=by
 cases r with
 | cons r1 r2=>cases r2;exact⟨_,rfl,r1⟩
theorem X1b{x y:V}{us:List Value}(r:QE [x,y] us):∃ u w',us=[u,w']/\QB x u/\QB y w':=by
 cases r with
 | cons r1 r2 =>
  cases r2 with
  | cons r3 r4=>cases r4;exact⟨_,_,rfl,r1,r3⟩
theorem Xfa(hc:X.calm=true):YV X (.builtin "max") (fun xs H Q=>∃ i j,xs=[.int i,.int j]/\Q (.int (if j > i then j else i)) H):=by
 intro pins s σ H xs us Q I r h;obtain⟨i,j,rfl,q⟩:=h;obtain⟨u,w',rfl,⟨t,rfl⟩,⟨t',rfl⟩⟩:=X1b r;refine max_two_ints (I.ok.hd hc) fun h' tk k=>⟨_,H,I.kept k,?_,q⟩
 by_cases hj:j > i
 ·rw[if_pos hj,if_pos hj];exact⟨_,rfl⟩
 ·rw[if_neg hj,if_neg hj];exact⟨_,rfl⟩
theorem X2b:YV X (.builtin "ord") (fun xs H Q=>∃ x,xs=[.str x]/\x.length=1/\Q (.int (x.cps.getD 0 0:Nat)) H):=by
 intro pins s σ H xs us Q I r h;obtain⟨x,rfl,hz,q⟩:=h;obtain⟨u,rfl,t,rfl⟩:=Zka r;exact ord_of_one hz ⟨.int _,H,I.tok _,⟨_,rfl⟩,q⟩
end
structure Jkb(h:Heap)(x dx C:Addr)(mA:Str->Option Value):Prop where
 obj:h.get? x=some (W.instObj C dx)
 ns:h.Ns1 dx mA
 ne:dx≠x
theorem Xga{h:Heap}{dx:Addr}{mA:Str->Option Value}(n:h.Ns1 dx mA):∃ od,h.get? dx=some od/\∀ name,W.lookIn name od=some (mA name):=by
 obtain⟨o,es,ep,ho,hd,hk,_,hm⟩:=n;refine⟨o,ho,fun name=>?_⟩
 have e:=hm name;unfold nsFind findBy at e;rw[<- Array.find?_toList]at e
 unfold W.lookIn;rw[hd];dsimp only
 split
 ·rename_i y q
  rw[q]at e;exact congrArg some e
 ·rename_i q
  rw[q]at e;have a:es.toList.any (·.refKey)=false:=by
   rw[any_eq_false];intro y hy;obtain⟨z,t,hkey⟩:=hk y (Array.mem_toList_iff.mp hy);simp[DictEntry.refKey,hkey]
  have a':¬ es.toList.any (·.refKey)=true:=by rw[a];exact Vf
  rw[if_neg a'];exact congrArg some e
theorem Jkb.look{h:Heap}{x dx C:Addr}{mA:Str->Option Value}(I:Jkb h x dx C mA):∃ od,W.InstAt h x (W.instObj C dx) C (some od)/\∀ name,W.lookIn name od=some (mA name) :=
 let ⟨od,ho,hl⟩:=Xga I.ns
 ⟨od,⟨I.obj,rfl,rfl,ho⟩,hl⟩
section
variable{prog:Program}{w:World}{A:Around}{E:YQ_}{s:Shared}{K:W.Frag}{x dx C f:Addr}{mA:Str->Option Value}{name:Str}{v:Value}
theorem ZXc{expr:Bool}{Q:YQ_}(X:K.In s.heap)(I:Jkb s.heap x dx C mA)(hg:W.plainGet K C name=true)(hh:W.hasDictIn K C=true)
 (ha:W.findIn K (.ref C) name=some none) (hv:mA name=some v) (hv':W.handedIn v=true) (h:Q v { s with toks:=s.toks+1 }) :
 wpAny (model prog w) A (getAttr (.ref x) name expr) Q E s:=by
 obtain⟨od,J,hl⟩:=I.look;exact W.get_value X J (W.plainGet_of hg).1 (W.findObj_own hh ha rfl (by rw[hl,hv])) hv' h
theorem X3b{pl:Sem Bool}{Q:Value×List Value->Shared->Prop}(X:K.In s.heap)(I:Jkb s.heap x dx C mA)(hg:W.plainGet K C name=true)
 (hf:W.findIn K (.ref C) name=some (some (.ref f))) (ht:W.isFn K (.ref f)=true) (hv:mA name=none) (h:Q (.ref f,[.ref x]) s) :
 wpAny (model prog w) A (getMethod (.ref x) name pl) Q E s:=by
 obtain⟨od,J,hl⟩:=I.look;exact W.method_fn X J (W.plainGet_of hg).1 (W.plainGet_of hg).2 hf (beq_iff_eq.mp ht) (by show(W.lookIn name od).map (·.isSome)=some false;rw[hl,hv];rfl) h
theorem ZYc{ns:List Str}{Q:Unit->Shared->Prop}(X:K.In s.heap)(I:Jkb s.heap x dx C mA)
 (hs:W.findIn K (.ref C) "__setattr__"=some (some (.builtin "object.__setattr__"))) (hp:W.plainOver K C=true) (ht:W.takerIn K C name=some none) (hh:W.hasDictIn K C=true)
 (hw:PySem.Within mA ns) (hsz:ns.length<=sizeLine)
 (h:∀ h',Jkb h' x dx C (fun y=>if y=name then some v else mA y)->Heap.SameBut dx s.heap h'->Q () { s with heap:=h',toks:=s.toks+2 }) :
 wpAny (model prog w) A (setAttr (.ref x) name v) Q E s:=by
 obtain⟨od,J,hl⟩:=I.look;refine W.set_plain X J hs (W.osa_open (s:={ s with toks:=s.toks+1 }) (r:=none) X J hp ht fun b=>?_)
 obtain⟨cd,hc,hd'⟩:=W.any_some hh;have hx:s.heap.get? x=some ⟨.ref C,some dx,.plain,#[]⟩:=I.obj;refine Va (Vg (Va (Va (wpAny_loadPart hx (Va (W.Looks.here (s:={ s with toks:=s.toks+1 }) (W.looks_clsIn X hc) ?_))))))
 rw[hd'];refine Vg (a:=some dx) (Va (Vg (Va ?_)))
 refine wpAny_nsSet1 (s:={ s with toks:=s.toks+1 }) I.ns fun h' hn2 hs2=>?_
 obtain⟨oD,esD,epD,hoD,hdD,hcD⟩:=hn2.count (PySem.Within.cons name v hw);refine Va (wpAny_lookBehind hoD (by rw[hdD];exact pastItsLine_dict (Vj hcD (by rw[length_cons];omega))) ?_)
 exact Vg (h _ ⟨(hs2.2 _ (Ne.symm I.ne)).trans I.obj,hn2,I.ne⟩ hs2)
theorem X4b{R:Result->Shared->Prop}{vs:List Value}{kw:List (Str×Value)}(X:K.In s.heap)(hm:W.makesIn K C=true)
 (hi:W.findIn K (.ref C) "__init__"=some (some (.ref f))) (hf:W.typeIn K (.ref f)=some (.type "function"))
 (h:codeAny (model prog w) (A.under (.builtin "type.__call__" ⟨.ref C::vs,kw⟩)) (.call (.ref f) ⟨.ref (s.heap.objs.size+1)::vs,kw⟩) (W.InitBack (s.heap.objs.size+1) R)
  { s with heap:=(s.heap.push W.emptyDict).push (W.instObj C s.heap.objs.size) }) :
 codeAny (model prog w) A (.call (.ref C) ⟨vs,kw⟩) R s:=by
 obtain⟨hh,g,d,t,os⟩:=s;exact W.make_core (W.makes_of X hm) (W.looks_findIn X hi) (fun self=>W.bind_fn X self hf) (.inl rfl) h
end
def ZV(f:Str)(v:V):List (Str×V)->List (Str×V)
 | []=>[(f,v)]
 | (g,x)::r=>if g=f then (g,v)::r else (g,x)::ZV f v r
theorem Jha(f g:Str)(v:V):∀ fs:List (Str×V),(ZV f v fs).lookup g=if g=f then some v else fs.lookup g
 | []=>by
  show List.lookup g [(f,v)]=_
  by_cases h:g=f
  ·have hb:(g == f)=true:=beq_iff_eq.mpr h
   simp only[List.lookup,hb,if_pos h]
  ·have hb:(g == f)=false:=beq_eq_false_iff_ne.mpr h
   simp only[List.lookup,hb,if_neg h]
 | (k,x)::r=>by
  have ih:=Jha f g v r;rw[show ZV f v ((k,x)::r)=(if k=f then (k,v)::r else (k,x)::ZV f v r) from rfl]
  by_cases hk:k=f
  ·rw[if_pos hk]
   by_cases h:g=k
   ·have hb:(g == k)=true:=beq_iff_eq.mpr h
    simp only[List.lookup,hb,if_pos (h.trans hk)]
   ·have hb:(g == k)=false:=beq_eq_false_iff_ne.mpr h
    simp only[List.lookup,hb,if_neg (fun e:g=f=>h (e.trans hk.symm))]
  ·rw[if_neg hk]
   by_cases h:g=k
   ·have hb:(g == k)=true:=beq_iff_eq.mpr h
    simp only[List.lookup,hb,if_neg (fun e:g=f=>hk (h.symm.trans e))]
   ·have hb:(g == k)=false:=beq_eq_false_iff_ne.mpr h
    simp only[List.lookup,hb];exact ih
theorem ZTa(f:Str)(v:V):∀ fs:List (Str×V),f∈(ZV f v fs).map (·.1)/\∀ g,g∈fs.map (·.1)->g∈(ZV f v fs).map (·.1)
 | []=>⟨by simp[ZV],fun g h=>by simp at h⟩
 | (k,x)::r=>by
  obtain⟨i1,i2⟩:=ZTa f v r;rw[show ZV f v ((k,x)::r)=(if k=f then (k,v)::r else (k,x)::ZV f v r) from rfl]
  by_cases hk:k=f
  ·rw[if_pos hk]
   subst hk;exact⟨by simp,fun g h=>by simpa using h⟩
  ·rw[if_neg hk]
   refine⟨?_,fun g h=>?_⟩
   ·rw[map_cons]
    exact Vo _ i1
   ·rw[map_cons]at h ⊢
    rcases mem_cons.mp h with e | e
    ·exact mem_cons.mpr (.inl e)
    ·exact Vo _ (i2 g e)
theorem Jia(f:Str)(v:V):∀ fs:List (Str×V),(ZV f v fs).length<=fs.length+1
 | []=>by simp[ZV]
 | (k,x)::r=>by
  have ih:=Jia f v r;rw[show ZV f v ((k,x)::r)=(if k=f then (k,v)::r else (k,x)::ZV f v r) from rfl]
  by_cases hk:k=f
  ·rw[if_pos hk,length_cons,length_cons];omega
  ·rw[if_neg hk,length_cons,length_cons];omega
theorem Yq.some_of{v:V}{o:Option Value}(r:Yq (some v) o):∃ u,o=some u/\QB v u:=by
 cases o with
 | none=>exact(show False from r).elim
 | some u=>exact⟨u,rfl,r⟩
theorem Yq.none_of{o:Option Value}(r:Yq none o):o=none:=by
 cases o with
 | none=>rfl
 | some u=>exact(show False from r).elim
theorem Xha{v:V}{u:Value}(r:QB v u):W.handedIn u=true:=by
 cases v with
 | non=>cases (show u=Value.none from r);rfl
 | bl b=>cases (show u=Value.bool b from r);rfl
 | int i=>obtain⟨t,e⟩:=(show ∃ t,u=Value.int i t from r);cases e;rfl
 | str x=>obtain⟨t,e⟩:=(show ∃ t,u=Value.str x t from r);cases e;rfl
 | byt b=>obtain⟨t,e⟩:=(show ∃ t,u=Value.bytes b t from r);cases e;rfl
 | flt b=>obtain⟨t,e⟩:=(show ∃ t,u=Value.float b t from r);cases e;rfl
 | ref a=>cases (show u=Value.ref a from r);rfl
 | ty n=>cases (show u=Value.type n from r);rfl
section
variable{P:Program}{w:World}{H H':Hp}{h h':Heap}{a C dx:Addr}{fs fs':List (Str×V)}
theorem Jya(hok:HOk P w H h)(e:H a=some (.ins C dx fs)):∃ mA,Jkb h a dx C mA/\(∀ f,Yq (fs.lookup f) (mA f))/\PySem.Within mA (fs.map (·.1))/\fs.length<=1000/\H dx=some (.own a):=by
 obtain⟨d,z,ne,ob,mA,n,r,q⟩:=(show QL P w H h a (.ins C dx fs) from hok a _ e)
 exact⟨mA,⟨ob,n,ne⟩,r,q,z,d⟩
end
structure Cls(K:W.Frag)(C:Addr):Prop where
 pg:W.plainGet K C Str.empty=true
 hd:W.hasDictIn K C=true
 po:W.plainOver K C=true
 sa:W.findIn K (.ref C) "__setattr__"=some (some (.builtin "object.__setattr__"))
theorem Cls.get{K:W.Frag}{C:Addr}(c:Cls K C)(f:Str):W.plainGet K C f=true:=c.pg
def Jh(K:W.Frag)(C:Addr)(f:Str):Prop:=W.findIn K (.ref C) f=some none
theorem Jh.taker{K:W.Frag}{C:Addr}{f:Str}(n:Jh K C f):W.takerIn K C f=some none:=by
 unfold W.takerIn;rw[show W.findIn K (.ref C) f=some none from n]
 rfl
structure XHc(K:W.Frag)(C:Addr)(m:Str)(f:Addr):Prop where
 at_:W.findIn K (.ref C) m=some (some (.ref f))
 fn:W.isFn K (.ref f)=true
 kp:W.keepIn K (.ref f)=true
section
variable{X:Cx}{pins:YP_}{σ:St}{H:Hp}{s:Shared}{a C dx:Addr}{fs:List (Str×V)}{f:Str}{v:V}{A:Around}{E:YQ_}
theorem Jlb{b:Bool}{Q:YQ_}(I:Inv X pins σ H s)(e:H a=some (.ins C dx fs))(c:Cls X.K C)(n:Jh X.K C f)(l:fs.lookup f=some v)
 (h:∀ u s',Inv X pins σ H s'->QB v u->Q u s'):wpAny (model X.prog X.w) A (getAttr (.ref a) f b) Q E s:=by
 obtain⟨mA,O,r,_,_,_⟩:=Jya I.hok e;obtain⟨u,hu,ru⟩:=Yq.some_of (v:=v) (o:=mA f) (by rw[<- l];exact r f)
 exact ZXc I.kIn O (c.get f) c.hd n hu (Xha ru) (h u _ (I.tok _) ru)
theorem QYa{m:Str}{g:Addr}{pl:Sem Bool}{Q:Value×List Value->Shared->Prop}(I:Inv X pins σ H s)(e:H a=some (.ins C dx fs))(c:Cls X.K C)(k:XHc X.K C m g)(l:fs.lookup m=none)
 (h:Q (.ref g,[.ref a]) s):wpAny (model X.prog X.w) A (getMethod (.ref a) m pl) Q E s:=by
 obtain⟨mA,O,r,_,_,_⟩:=Jya I.hok e;have hn:mA m=none:=Yq.none_of (by rw[<- l];exact r m)
 exact X3b I.kIn O (c.get m) k.at_ k.fn hn h
theorem Jmb{y:V}{u:Value}{Q:Unit->Shared->Prop}(I:Inv X pins σ H s)(e:H a=some (.ins C dx fs))(c:Cls X.K C)(n:Jh X.K C f)(hl:fs.length < 1000)(ry:QB y u)
 (h:∀ s',Inv X pins σ (upd H a (.ins C dx (ZV f y fs))) s'->Q () s'):wpAny (model X.prog X.w) A (setAttr (.ref a) f u) Q E s:=by
 obtain⟨mA,O,r,wi,_,ho⟩:=Jya I.hok e;have hz:(fs.map (·.1)).length<=sizeLine:=by rw[Vr,sizeLine_eq];omega
 refine ZYc I.kIn O c.sa c.po n.taker c.hd wi hz fun h' O' sb=>h _ ?_
 have hd:∃ o,h'.get? dx=some o:=let ⟨o,_,_,e',_⟩:=O'.ns;⟨o,e'⟩
 refine I.write (x:=a) (e:=dx) (by rw[e];exact True.intro) (.inr ho) (fun b q hb z=>(sb.2 b hb).trans z) hd ?_
 refine⟨by rw[Qi O.ne];exact ho,?_,O.ne,O'.obj,_,O'.ns,fun g=>?_,fun g hg=>?_⟩
 ·have:=Jia f y fs;omega
 ·show Yq ((ZV f y fs).lookup g) (if g=f then some u else mA g)
  rw[Jha]
  by_cases q:g=f
  ·rw[if_pos q,if_pos q];exact ry
  ·rw[if_neg q,if_neg q];exact r g
 ·by_cases q:g=f
  ·rw[q];exact(ZTa f y fs).1
  ·refine(ZTa f y fs).2 g (wi g fun z=>hg ?_)
   show(if g=f then some u else mA g)=none
   rw[if_neg q];exact z
theorem Inv.made(I:Inv X pins σ H s):Inv X pins σ (upd (upd H s.heap.objs.size (.own (s.heap.objs.size+1))) (s.heap.objs.size+1) (.ins C s.heap.objs.size []))
 { s with heap:=(s.heap.push W.emptyDict).push (W.instObj C s.heap.objs.size) }:=by
 have e1:(s.heap.push W.emptyDict).get? s.heap.objs.size=some W.emptyDict:=Vi s.heap rfl
 have e2:((s.heap.push W.emptyDict).push (W.instObj C s.heap.objs.size)).get? (s.heap.objs.size+1)=some (W.instObj C s.heap.objs.size):=by
  have:=Vi (s.heap.push W.emptyDict) (o:=W.instObj C s.heap.objs.size) rfl
  rwa [Heap.size_push]at this
 have e3:(s.heap.push W.emptyDict).Ns s.heap.objs.size (fun _=>none):=⟨W.emptyDict,#[],_,e1,rfl,(fun e he=>absurd he (by simp)),fun _=>rfl⟩
 have I1:=I.laid (a:=s.heap.objs.size) (o:=.own (s.heap.objs.size+1)) (h':=s.heap.push W.emptyDict) (t':=s.toks) (fun b u q=>Vd _ q) (Ve _) ⟨_,e1⟩
 refine I1.laid (a:=s.heap.objs.size+1) (o:=.ins C s.heap.objs.size []) (t':=s.toks) (fun b u q=>Vd _ q) (Nat.le_of_eq (Heap.size_push _ _)) ?_
 have ne:s.heap.objs.size≠s.heap.objs.size+1:=Nat.ne_of_lt (Nat.lt_succ_self _);refine⟨by rw[Qi ne,Qd],Vk _,ne,e2,fun _=>none,(Heap.Ns1.of_empty e3).at fun o q=>Vd _ q,fun _=>True.intro,fun y hy=>absurd rfl hy⟩
theorem Yib{prog:Program}{w:World}{env:Env}{e:Expr}{f:Str}{pos:Pos}{s:Shared}{Q:YQ_}(hb:attributeBase e f env (eval e env)=eval e env)
 (h:wpAny (model prog w) A (eval e env) (fun o s₁=>wpAny (model prog w) A (getAttr o f true) Q E s₁) E s):wpAny (model prog w) A (eval (.Attribute e f pos) env) Q E s :=
 Attribute_any_ h (by rw[arm_eval_Attribute,hb])
end
def ZZc(K:W.Frag)(ta:TE)(f:Str):TE:=fun σ H Q=>ta σ H fun x H1=>∃ a C dx fs v,x=.ref a/\H1 a=some (.ins C dx fs)/\Cls K C/\Jh K C f/\fs.lookup f=some v/\Q v H1
def XIc(K:W.Frag)(ta tv:TE)(f:Str):TS:=fun D σ H=>tv σ H fun y H1=>ta σ H1 fun x H2=>∃ a C dx fs,x=.ref a/\H2 a=some (.ins C dx fs)/\Cls K C/\Jh K C f/\fs.length < 1000 /\
 D.nx σ (upd H2 a (.ins C dx (ZV f y fs)))
section
variable{X:Cx}{o e value:Expr}{f:Str}{pos pos' tpos:Pos}{ta tv:TE}
theorem QW(he:PE X e ta)(hb:attributeBase e f X.env (eval e X.env)=eval e X.env):PE X (.Attribute e f pos) (ZZc X.K ta f):=by
 intro pins s σ H Q I h;refine Yib hb (thn (he pins s σ H _ I h) fun u s1 hZ=>?_)
 obtain⟨x,H1,I1,rx,a,C,dx,fs,v,ex,ea,c,n,l,q⟩:=hZ;subst ex;obtain rfl:u=Value.ref a:=rx;exact Jlb I1 ea c n l fun u' s2 I2 ru=>⟨v,H1,I2,ru,q⟩
theorem XX(ha:PE X o ta)(hv:PE X value tv)(hs:swapsWith value (some (.Attribute o f pos')) pos.line X.env=pure false):PS X (.Assign [.Attribute o f pos'] value pos) (XIc X.K ta tv f):=by
 intro pins s σ H D I h;refine plainObj_wpAny_Assign_Attribute (thn (hv pins s σ H _ I h) fun u s1 ⟨y,H1,I1,ry,q⟩=>thn (ha pins s1 σ H1 _ I1 q) fun ov s2 hZ=>?_) hs
 obtain⟨x,H2,I2,rx,a,C,dx,fs,ex,ea,c,n,l,q2⟩:=hZ;subst ex;obtain rfl:ov=Value.ref a:=rx;exact Jmb I2 ea c n l ry fun s3 I3=>⟨σ,_,I3,q2⟩
end
section
variable{X:Cx}{pins:YP_}{σ:St}{H:Hp}{s:Shared}{A:Around}{E:YQ_}{Q:YQ_}{c:Value}{b:Bool}
inductive Zla(K:W.Frag)(H:Hp):V->Value->Prop where
 | non:Zla K H .non (.type "NoneType")
 | bl (x:Bool):Zla K H (.bl x) (.type "bool")
 | int (i:Int):Zla K H (.int i) (.type "int")
 | str (x:Str):Zla K H (.str x) (.type "str")
 | flt (x:UInt64):Zla K H (.flt x) (.type "float")
 | lst {a:Addr} {xs:List V} (e:H a=some (.lst xs)):Zla K H (.ref a) (.type "list")
 | frz {a:Addr} {o:Obj} {xs:List V} (e:H a=some (.frz o (.lst xs))):Zla K H (.ref a) (.type "list")
 | tup {a:Addr} {xs:List V} (e:H a=some (.tup xs)):Zla K H (.ref a) (.type "tuple")
 | dK {a:Addr} {kvs:List (Key×V)} (e:H a=some (.dK kvs)):Zla K H (.ref a) (.type "dict")
 | dT {a:Addr} {kvs:List (List Key×V)} (e:H a=some (.dT kvs)):Zla K H (.ref a) (.type "dict")
 | ins {a C dx:Addr} {fs:List (Str×V)} (e:H a=some (.ins C dx fs)) (cl:Cls K C) (ha:W.findIn K (.ref C) "__class__"=some (some (.builtin "object.__class__")))
  (hn:W.specialIn K (.builtin "object.__class__") "__get__"=some (some (.builtin "getset_descriptor.__get__"))) (htk:W.takesIn K (.builtin "object.__class__")=some true)
  (hm:W.mroIn K C (.type "object")=some true):Zla K H (.ref a) (.ref C)
theorem Y5b{x:V}{u t:Value}(I:Inv X pins σ H s)(rx:QB x u)(ty:Zla X.K H x t)(e:W.kitOne X.K t c=some b)(h:∀ tk,Q (.bool b) { s with toks:=tk }) :
 wpAny (model X.prog X.w) A (call (.builtin "isinstance") [u,c]) Q E s:=by
 cases ty with
 | non=>cases (show u=Value.none from rx);exact W.kia_one W.kitx_none I.kIn True.intro e (fun z=>nomatch z) h
 | bl y=>cases (show u=Value.bool y from rx);exact W.kia_one W.kitx_bool I.kIn True.intro e (fun z=>nomatch z) h
 | int i=>obtain⟨t,q⟩:=(show ∃ t,u=Value.int i t from rx);cases q;exact W.kia_one W.kitx_int I.kIn True.intro e (fun z=>nomatch z) h
 | str y=>obtain⟨t,q⟩:=(show ∃ t,u=Value.str y t from rx);cases q;exact W.kia_one W.kitx_str I.kIn True.intro e (fun z=>nomatch z) h
 | flt y=>obtain⟨t,q⟩:=(show ∃ t,u=Value.float y t from rx);cases q;exact W.kia_one W.kitx_float I.kIn True.intro e (fun z=>nomatch z) h
 | @lst a xs ea =>
  cases (show u=Value.ref a from rx)
  obtain⟨_,_,n,_,h1⟩:=(show QL X.prog X.w H s.heap a (.lst xs) from I.hok a _ ea)
  exact W.kia_one W.kitx_list I.kIn ⟨_,h1,rfl⟩ e (fun z=>nomatch z) h
 | @frz a ob xs ea =>
  cases (show u=Value.ref a from rx)
  obtain⟨_,_,_,n,_,h1⟩:=(show QL X.prog X.w H s.heap a (.frz ob (.lst xs)) from I.hok a _ ea)
  exact W.kia_one W.kitx_list I.kIn ⟨_,h1,rfl⟩ e (fun z=>nomatch z) h
 | @tup a xs ea =>
  cases (show u=Value.ref a from rx)
  obtain⟨_,_,_,p⟩:=(show QL X.prog X.w H s.heap a (.tup xs) from I.hok a _ ea)
  obtain⟨o,h1,h2,_⟩:=p;exact W.kia_one W.kitx_tuple I.kIn ⟨o,h1,h2⟩ e (fun z=>nomatch z) h
 | @dK a kvs ea =>
  cases (show u=Value.ref a from rx)
  obtain⟨_,_,vs,_,p⟩:=(show QL X.prog X.w H s.heap a (.dK kvs) from I.hok a _ ea)
  obtain⟨o,es,ep,h1,h2,_⟩:=p;exact W.kia_one W.kitx_dict I.kIn ⟨o,h1,h2.1⟩ e (fun z=>nomatch z) h
 | @dT a kvs ea =>
  cases (show u=Value.ref a from rx)
  obtain⟨_,_,xs,_,o,es,ep,h1,h2,_⟩:=(show QL X.prog X.w H s.heap a (.dT kvs) from I.hok a _ ea)
  exact W.kia_one W.kitx_dict I.kIn ⟨o,h1,h2.1⟩ e (fun z=>nomatch z) h
 | @ins a C dx fs ea cl ha hn htk hm =>
  cases (show u=Value.ref a from rx)
  obtain⟨mA,O,_⟩:=Jya I.hok ea;obtain⟨od,J,_⟩:=O.look;exact W.kia_one (W.kitx_own (cl.get _) cl.hd ha hn htk hm) I.kIn J e (fun z=>nomatch z) h
end
structure Zq(k:Nat)(A:Around):Prop where
 hd:A.handled=none
 dp:A.depth+3 * k+5 < recursionLimit
 un:A.units+16 * k+200 < cLine
theorem Zq.mono{j k:Nat}{A:Around}(r:Zq k A)(h:j<=k):Zq j A:=⟨r.hd,by have:=r.dp;omega,by have:=r.un;omega⟩
theorem Zq.deeper{k:Nat}{A:Around}(r:Zq (k+1) A)(env:Env):Zq k (A.deeper env) :=
 ⟨r.hd,by have:=r.dp;show A.depth+1+3 * k+5 < _;omega,by have:=r.un;show A.units+3+16 * k+200 < _;omega⟩
theorem Jnb{A:Around}{C:Addr}{us:List Value}{kw:List (Str×Value)}:(A.under (.builtin "type.__call__" ⟨.ref C::us,kw⟩)).depth=A.depth+1:=by
 first | rfl | simp[Around.under,Code.weight,Code.isCreation,Code.isGuard,Code.isCaller,Code.frames,Code.isFrame,guardIds]
theorem Job{A:Around}{C:Addr}{us:List Value}{kw:List (Str×Value)}:(A.under (.builtin "type.__call__" ⟨.ref C::us,kw⟩)).units=A.units+1:=by
 first | rfl | simp[Around.under,Code.cUnits,Code.frames,Code.isFrame]
theorem Zq.make{k:Nat}{A:Around}(r:Zq (k+1) A)(C:Addr)(us:List Value)(kw:List (Str×Value)):Zq k (A.under (.builtin "type.__call__" ⟨.ref C::us,kw⟩)) :=
 ⟨r.hd,by have:=r.dp;rw[Jnb];omega,by have:=r.un;rw[Job];omega⟩
theorem Zq.depth{k:Nat}{A:Around}(r:Zq k A):A.depth < recursionLimit:=by have:=r.dp;omega
theorem Zq.units{k:Nat}{A:Around}(r:Zq k A):A.units+64 < cLine:=by have:=r.un;omega
theorem Zq.units0{k:Nat}{A:Around}(r:Zq k A):A.units < cLine:=by have:=r.un;omega
def YIa:TA:=fun _ H Q=>Q [] H
def Q0b(ta:TE)(tr:TA):TA:=fun σ H Q=>ta σ H fun x H1=>tr σ H1 fun xs H2=>Q (x::xs) H2
section
variable{X:Cx}{e:Expr}{es:List Expr}{te:TE}{t:TA}{pos:Pos}
theorem Qe:PA X [] YIa:=fun _ _ _ _ H Q I h=>Calls.spliced_nil ⟨[],H,I,.nil,h⟩
theorem Z0c(ha:PE X e te)(hr:PA X es t)(hs:starEach (e::es) X.env=(false,eval e X.env)::starEach es X.env:=by rfl):PA X (e::es) (Q0b te t):=by
 intro pos pins s σ H Q I h;rw[hs];show wpAny _ _ (spliced ((false,eval e X.env)::backTo pos (starEach es X.env))) _ _ s;refine Calls.spliced_cons (thn (ha pins s σ H _ I h) fun u s1 hZ=>?_)
 obtain⟨x,H1,I1,r1,q1⟩:=hZ;exact thn (hr pos pins s1 σ H1 _ I1 q1) fun us s2 ⟨xs,H2,I2,r2,q2⟩=>⟨x::xs,H2,I2,.cons r1 r2,q2⟩
def XJc(t:TA):TE:=fun σ H Q=>t σ H fun xs H1=>xs.length<=sizeLine/\∀ p,H1 p=none->Q (.ref p) (upd H1 p (.tup xs))
def XKc(t:TA):TE:=fun σ H Q=>t σ H fun xs H1=>xs.length<=sizeLine/\∀ p,H1 p=none->Q (.ref p) (upd H1 p (.lst xs))
theorem Zm{x1}(h:PA X es t):PE X (.Tuple es x1 pos) (XJc t):=by
 intro pins s σ H Q I hq;refine wpAny_Tuple_spliced (thn (h pos pins s σ H _ I hq) fun us s1 ⟨xs,H1,I1,r,z,q⟩=>⟨by rw[<- r.length];exact z,?_⟩)
 have hf:H1 s1.heap.objs.size=none:=I1.hok.fresh (Ve _);refine⟨.ref s1.heap.objs.size,upd H1 s1.heap.objs.size (.tup xs),I1.laid (t':=s1.toks) (fun b u e=>Vd _ e) (Ve _) ?_,rfl,q _ hf⟩
 exact⟨⟨z,_,Vi _ rfl,rfl⟩,us,r,⟨_,Vi _ rfl,rfl,_,rfl⟩⟩
theorem Ji(h:PA X es t):PE X (.List es pos) (XKc t):=by
 intro pins s σ H Q I hq;refine wpAny_List_spliced (thn (h pos pins s σ H _ I hq) fun us s1 ⟨xs,H1,I1,r,z,q⟩=>⟨by rw[<- r.length];exact z,?_⟩)
 have hf:H1 s1.heap.objs.size=none:=I1.hok.fresh (Ve _);refine⟨.ref s1.heap.objs.size,upd H1 s1.heap.objs.size (.lst xs),I1.laid (t':=s1.toks) (fun b u e=>Vd _ e) (Ve _) ?_,rfl,q _ hf⟩
 exact⟨z,us,0,r,Vi _ rfl⟩
end
abbrev Sp:=List V->Hp->VK->XK->Prop
abbrev CXT:=List Env->Hp->Shared->XK->YQ_
structure Jpb(P:Program)(w:World)(K:W.Frag)(mg:Str->Option Value)(base:Heap)(A:Around)(outer:List Env)(s:Shared)(H:Hp):Prop where
 frames:A.frames=some outer
 mod:Mod K mg base
 bs:∀ b o,base.get? b=some o->s.heap.get? b=some o/\H b=none
 bsz:base.objs.size<=s.heap.objs.size
 funs:s.heap.FunFrames base outer
 frf:∀ b∈frs outer,H b=none
 hok:HOk P w H s.heap
 bare:AllBare s.gens
def CE(outer:List Env)(P:Program)(w:World)(H:Hp)(s:Shared)(Q:VK)(u:Value)(s':Shared):Prop :=
 ∃ v H',s'.os=s.os/\AllBare s'.gens/\Un (frs outer) [] H H' s.heap s'.heap/\HOk P w H' s'.heap/\QB v u/\Q v H'
def CR(CX:CXT)(outer:List Env)(P:Program)(w:World)(H:Hp)(s:Shared)(Q:VK)(E:XK)(r:Result)(s':Shared):Prop :=
 match r with
 | .ok (.ret u)=>CE outer P w H s Q u s'
 | .ok _=>False
 | .error e=>CX outer H s E e s'
structure QF(P:Program)(w:World)(K:W.Frag)(mg:Str->Option Value)(base:Heap)(CX:CXT)(k:Nat)(f:Addr)(fd:FuncData)(ps:List Str)(sp:Sp):Prop where
 len:∀ vs H Q E,sp vs H Q E->vs.length=ps.length
 run:∀ (A:Around) (outer:List Env) (s:Shared) (H:Hp) (args:Args) (us:List Value) (vs:List V) (Q:VK) (E:XK),Zq k A->Jpb P w K mg base A outer s H->BindsTo s fd args (ps.zip us)->QE vs us->sp vs H Q E ->
  codeAny (model P w) A (.call (.ref f) args) (CR CX outer P w H s Q E) s
theorem QF.mono{P:Program}{w:World}{K:W.Frag}{mg:Str->Option Value}{base:Heap}{CX:CXT}{j k:Nat}{f:Addr}{fd:FuncData}{ps:List Str}{sp:Sp}(F:QF P w K mg base CX j f fd ps sp)(h:j<=k) :
 QF P w K mg base CX k f fd ps sp:=⟨F.len,fun A outer s H args us vs Q E hr=>F.run A outer s H args us vs Q E (hr.mono h)⟩
theorem Jpb.make{P:Program}{w:World}{K:W.Frag}{mg:Str->Option Value}{base:Heap}{A:Around}{outer:List Env}{s:Shared}{H:Hp}(e:Jpb P w K mg base A outer s H)(C:Addr)(us:List Value)(kw:List (Str×Value)) :
 Jpb P w K mg base (A.under (.builtin "type.__call__" ⟨.ref C::us,kw⟩)) outer s H:=⟨by first | exact e.frames | (simpa[Around.under,Code.envs,Code.isFrame,pushEnvs]using e.frames),e.mod,e.bs,e.bsz,e.funs,e.frf,e.hok,e.bare⟩
section
variable{X:Cx}{pins:YP_}{σ:St}{H:Hp}{s s':Shared}
theorem Inv.env0(I:Inv X pins σ H s):Jpb X.prog X.w X.K X.mg X.base X.A X.stack s H :=
 ⟨I.ok.frames,I.ok.mod,I.bs,Vj I.ok.bsz I.sz,I.stack,I.stkFree,I.hok,I.bare⟩
theorem Inv.after{Q:VK}{u:Value}(I:Inv X pins σ H s)(h:CE X.stack X.prog X.w H s Q u s'):EP X pins σ Q u s':=by
 obtain⟨v,H',os,bare,un,hok,r,q⟩:=h;obtain⟨hh,g,d,t,os'⟩:=s';obtain rfl:os'=s.os:=os;exact⟨v,H',I.call (h':=hh) (g':=g) (d':=d) (t':=t) (ch:=[]) un hok bare (fun b z=>absurd z (by simp)),r,q⟩
end
def Yjb(sp:Sp)(dvs:List V)(E:XK)(t:TA):TE:=fun σ H Q=>t σ H fun vs H1=>sp (vs++dvs) H1 Q E
def Ykb(C:Addr)(sp:Sp)(dvs:List V)(E:XK)(t:TA):TE:=fun σ H Q=>t σ H fun vs H1=>∀ x dx,H1 x=none->H1 dx=none->dx≠x ->
 sp (.ref x::(vs++dvs)) (upd (upd H1 dx (.own x)) x (.ins C dx [])) (fun v H2=>v=.non/\Q (.ref x) H2) E
def Jj(K:W.Frag)(fd:FuncData)(ps:List Str)(ds:List Value):Prop :=
 ∀ (s:Shared) (us:List Value),K.In s.heap->(us++ds).length=ps.length->BindsTo s fd ⟨us,[]⟩ (ps.zip (us++ds))
theorem Jj.all{K:W.Frag}{fd:FuncData}{ps:List Str}(h:∀ us:List Value,us.length=ps.length->bindArgs fd ⟨us,[]⟩=pure (ps.zip us)):Jj K fd ps []:=fun s us _ hl=>by
 rw[append_nil]at hl ⊢;exact .of_eq (h us hl)
def ZUa(CX:CXT)(X:Cx)(E:XK):Prop:=∀ (pins:YP_) (σ:St) (H:Hp) (s:Shared) (e:Value) (s':Shared),Inv X pins σ H s->CX X.stack H s E e s'->X.xe e s'
section
variable{X:Cx}{CX:CXT}{k:Nat}{f C:Addr}{fd:FuncData}{ps:List Str}{sp:Sp}{dvs:List V}{ds:List Value}{E:XK}{x m:Str}{p pos apos:Pos}{e o:Expr}{es:List Expr}{ta:TE}{t:TA}
theorem X5b{pins:YP_}{σ:St}{H:Hp}{s:Shared}{Q:VK}{us:List Value}{vs:List V}(F:QF X.prog X.w X.K X.mg X.base CX k f fd ps sp)(hr:Zq k X.A)(hb:Jj X.K fd ps ds)(hd:QE dvs ds)(hx:ZUa CX X E)
 (I:Inv X pins σ H s) (r:QE vs us) (h:sp (vs++dvs) H Q E):wpAny (model X.prog X.w) X.A (call (.ref f) us) (EP X pins σ Q) X.xe s:=by
 have r2:QE (vs++dvs) (us++ds):=r.append hd;have hl:(us++ds).length=ps.length:=by rw[<- r2.length];exact F.len _ _ _ _ h
 refine wpAny_call (codeAny_mono (F.run X.A X.stack s H ⟨us,[]⟩ (us++ds) (vs++dvs) Q E hr I.env0 (hb s us I.kIn hl) r2 h) fun r s' hq=>?_)
 cases r with
 | error e=>exact hx pins σ H s e s' I hq
 | ok fl =>
  cases fl with
  | ret u=>exact I.after hq
  | next=>exact False.elim hq
  | brk=>exact False.elim hq
  | cont=>exact False.elim hq
theorem Z1c(F:QF X.prog X.w X.K X.mg X.base CX k f fd ps sp)(hr:Zq k X.A)(hg:Gl X x)(hm:X.mg x=some (.ref f))(hk:W.keepIn X.K (.ref f)=true)(hb:Jj X.K fd ps ds)(hd:QE dvs ds)(hx:ZUa CX X E)
 (ha:PA X (e::es) t) (hdb:(x == ("__debug__":Str))=false:=by decide) (he:starEach (e::es) X.env=(false,eval e X.env)::starEach es X.env:=by rfl) (hpl:(backTo pos (starEach es X.env)).any (·.1)=false:=by rfl) :
 PE X (.Call (.Name x p) (e::es) [] pos) (Yjb sp dvs E t):=by
 intro pins s σ H Q I h;refine wpAny_Call_Name_kw (JP I hg hm ?_ hdb)
 refine W.callWith_K (h₀:=X.base) I.ok.mod.kin hk (thn (ha pos pins s σ H _ I h) fun us s1 ⟨vs,H1,I1,r,q⟩=>⟨I1.kIn,?_⟩) he hpl
 exact X5b F hr hb hd hx I1 r q
structure Mk(K:W.Frag)(C f:Addr):Prop where
 makes:W.makesIn K C=true
 init:W.findIn K (.ref C) "__init__"=some (some (.ref f))
 fn:W.isFn K (.ref f)=true
 kp:W.keepIn K (.ref C)=true
theorem Q1b{pins:YP_}{σ:St}{H:Hp}{s:Shared}{Q:VK}{us:List Value}{vs:List V}(M:Mk X.K C f)(F:QF X.prog X.w X.K X.mg X.base CX k f fd ps sp)(hr:Zq (k+1) X.A)(hb:Jj X.K fd ps ds)(hd:QE dvs ds)
 (hx:ZUa CX X E) (I:Inv X pins σ H s) (r:QE vs us)
 (h:∀ x dx,H x=none->H dx=none->dx≠x->sp (.ref x::(vs++dvs)) (upd (upd H dx (.own x)) x (.ins C dx [])) (fun v H2=>v=.non/\Q (.ref x) H2) E) :
 wpAny (model X.prog X.w) X.A (call (.ref C) us) (EP X pins σ Q) X.xe s:=by
 have hq:=h (s.heap.objs.size+1) s.heap.objs.size (I.hok.fresh (Nat.le_succ _)) (I.hok.fresh (Ve _)) (Nat.ne_of_lt (Nat.lt_succ_self _));have I2:=Inv.made (C:=C) I;have r2:QE (V.ref (s.heap.objs.size+1)::(vs++dvs)) (Value.ref (s.heap.objs.size+1)::(us++ds)):=.cons rfl (r.append hd);have hl:(Value.ref (s.heap.objs.size+1)::us++ds).length=ps.length:=by
  have e:=r2.length;rw[F.len _ _ _ _ hq]at e;exact e.symm
 refine wpAny_call (X4b (f:=f) I.kIn M.makes M.init (beq_iff_eq.mp M.fn) (codeAny_mono (F.run _ X.stack _ _ ⟨Value.ref (s.heap.objs.size+1)::us,[]⟩ (Value.ref (s.heap.objs.size+1)::(us++ds)) _ _ E (hr.make C us [])
  (I2.env0.make C us []) (hb _ (Value.ref (s.heap.objs.size+1)::us) I2.kIn hl) r2 hq) fun r s' hq'=>?_))
 cases r with
 | error e=>exact hx pins σ _ _ e s' I2 hq'
 | ok fl =>
  cases fl with
  | ret u =>
   obtain⟨v,H',I3,rv,ev,q3⟩:=I2.after hq';subst ev;exact⟨rv,⟨V.ref (s.heap.objs.size+1),H',I3,rfl,q3⟩⟩
  | next=>exact False.elim hq'
  | brk=>exact False.elim hq'
  | cont=>exact False.elim hq'
theorem Z2c(M:Mk X.K C f)(F:QF X.prog X.w X.K X.mg X.base CX k f fd ps sp)(hr:Zq (k+1) X.A)(hg:Gl X x)(hm:X.mg x=some (.ref C))(hb:Jj X.K fd ps ds)(hd:QE dvs ds)(hx:ZUa CX X E)
 (ha:PA X (e::es) t) (hdb:(x == ("__debug__":Str))=false:=by decide) (he:starEach (e::es) X.env=(false,eval e X.env)::starEach es X.env:=by rfl) (hpl:(backTo pos (starEach es X.env)).any (·.1)=false:=by rfl) :
 PE X (.Call (.Name x p) (e::es) [] pos) (Ykb C sp dvs E t):=by
 intro pins s σ H Q I h;refine wpAny_Call_Name_kw (JP I hg hm ?_ hdb)
 refine W.callWith_K (h₀:=X.base) I.ok.mod.kin M.kp (thn (ha pos pins s σ H _ I h) fun us s1 ⟨vs,H1,I1,r,q⟩=>⟨I1.kIn,?_⟩) he hpl
 exact Q1b M F hr hb hd hx I1 r q
theorem X6b(M:Mk X.K C f)(F:QF X.prog X.w X.K X.mg X.base CX k f fd ps sp)(hr:Zq (k+1) X.A)(hg:Gl X x)(hm:X.mg x=some (.ref C))(hb:Jj X.K fd ps ds)(hd:QE dvs ds)(hx:ZUa CX X E)
 (hdb:(x == ("__debug__":Str))=false:=by decide):PE X (.Call (.Name x p) [] [] pos) (Ykb C sp dvs E YIa):=by
 intro pins s σ H Q I h;refine wpAny_Call_Name_kw (JP I hg hm ?_ hdb)
 exact W.callWith_K0 I.kIn M.kp (Q1b (us:=[]) M F hr hb hd hx I .nil h)
end
section
variable{X:Cx}{CX:CXT}{k:Nat}{f C:Addr}{fd:FuncData}{ps ks:List Str}{sp:Sp}{E:XK}{x m:Str}{p pos apos kpos:Pos}{e o:Expr}{es:List Expr}{kws:List Keyword}{te ta:TE}{t tk:TA}{nm:Option Str}
variable{g:List Value->List Value->List Value}{gV:List V->List V->List V}
end
structure Qq(N P:List Str)(sc:Scope):Prop where
 kind:sc.kind=.function
 co:sc.isCoroutine=false
 gen:sc.isGenerator=false
 nd:N.Nodup
 pre:N.take P.length=P
 par:∀ x∈P,sc.names.lookup x=some .local\/sc.names.lookup x=some .cell
 nofree:∀ y∈sc.names,y.2≠.free
theorem Xia{kindOf:Str->Option NameKind}{x:Str}:∀ {binds:List (Str×Value)} {m:Str->Option Value},(∀ v,(x,v)∉binds)->bindL kindOf binds m x=m x
 | [],_,_=>rfl
 | (n,v)::r,m,h=>by
  unfold bindL;rw[Xia fun w hw=>h w (Vo _ hw)]
  split
  ·have:x≠n:=by rintro rfl;exact h v mem_cons_self
   simp[this]
  ·rfl
theorem Xja{kindOf:Str->Option NameKind}{x:Str}:∀ {binds:List (Str×Value)} {m:Str->Option Value},(∀ v,(x,v)∉binds)->bindC kindOf binds m x=m x
 | [],_,_=>rfl
 | (n,v)::r,m,h=>by
  unfold bindC;rw[Xja fun w hw=>h w (Vo _ hw)]
  split
  ·rfl
  ·have:x≠n:=by rintro rfl;exact h v mem_cons_self
   simp[this]
theorem Xka{kindOf:Str->Option NameKind}{x:Str}{v:Value}:∀ {P:List Str} {vs:List Value} {i:Nat} {m:Str->Option Value},P.Nodup->P[i]?=some x->vs[i]?=some v->kindOf x=some .local ->
 bindL kindOf (P.zip vs) m x=some v
 | [],_,_,_,_,h,_,_=>by simp at h
 | _::_,[],_,_,_,_,h,_=>by simp at h
 | p::P,w::vs,0,m,nd,h1,h2,hk=>by
  simp at h1 h2;subst h1;subst h2;show bindL kindOf ((p,w)::P.zip vs) m p=_;unfold bindL;rw[Xia fun v hv=>(nodup_cons.mp nd).1 (of_mem_zip hv).1,if_pos hk]
  simp
 | p::P,w::vs,i+1,m,nd,h1,h2,hk=>by
  show bindL kindOf ((p,w)::P.zip vs) m x=_;unfold bindL;exact Xka (i:=i) (nodup_cons.mp nd).2 (by simpa using h1) (by simpa using h2) hk
theorem Xla{kindOf:Str->Option NameKind}{x:Str}{v:Value}:∀ {P:List Str} {vs:List Value} {i:Nat} {m:Str->Option Value},P.Nodup->P[i]?=some x->vs[i]?=some v->kindOf x≠some .local ->
 bindC kindOf (P.zip vs) m x=some v
 | [],_,_,_,_,h,_,_=>by simp at h
 | _::_,[],_,_,_,_,h,_=>by simp at h
 | p::P,w::vs,0,m,nd,h1,h2,hk=>by
  simp at h1 h2;subst h1;subst h2;show bindC kindOf ((p,w)::P.zip vs) m p=_;unfold bindC;rw[Xja fun v hv=>(nodup_cons.mp nd).1 (of_mem_zip hv).1,if_neg hk]
  simp
 | p::P,w::vs,i+1,m,nd,h1,h2,hk=>by
  show bindC kindOf ((p,w)::P.zip vs) m x=_;unfold bindC;exact Xla (i:=i) (nodup_cons.mp nd).2 (by simpa using h1) (by simpa using h2) hk
def Zma(N:List Str)(vs:List V):St:=vs.map some++List.replicate (N.length - vs.length) none
def Zna(CX:CXT)(P:Program)(w:World)(K:W.Frag)(mg:Str->Option Value)(base:Heap)(N:List Str)(qual:Str)(scope:Scope)(f:Addr)(cd:Value)(A:Around)(outer:List Env)(s:Shared)(H:Hp)(E:XK):Cx where
 prog:=P
 w:=w
 K:=K
 mg:=mg
 base:=base
 A:=A.deeper (envOfC qual scope s.heap.objs.size f cd)
 N:=N
 s₀:=s
 H₀:=H
 env:=envOfC qual scope s.heap.objs.size f cd
 outer:=outer
 stack:=envOfC qual scope s.heap.objs.size f cd::outer
 ex:=[]
 calm:=true
 fn:=fun _=>true
 pn:=[]
 xe:=fun e s'=>wpAny (model P w) (A.deeper (envOfC qual scope s.heap.objs.size f cd)) (leaving (envOfC qual scope s.heap.objs.size f cd) e) (fun _ s''=>CX outer H s E e s'') (fun e' s''=>CX outer H s E e' s'') s'
theorem Q2b{sc:Scope}{n:Nat}{x:Str}(h:sc.names.lookup x=some .cell):∃ c,(cellsFrom n sc.names []).lookup x=some c:=by
 have q:=W.cellsFrom_some sc.names n [] (.inl h);exact Option.isSome_iff_exists.mp q
theorem Y6b{CX:CXT}{P:Program}{w:World}{K:W.Frag}{mg:Str->Option Value}{base:Heap}{N ps:List Str}{qual:Str}{scope:Scope}{f:Addr}{cd:Value}{A:Around}{outer:List Env}{s s1:Shared}{H:Hp}{E:XK}{us:List Value}{vs:List V}
 (S:Qq N ps scope) (hd:A.handled=none) (e0:Jpb P w K mg base A outer s H) (hl:vs.length=ps.length) (r:QE vs us)
 (x:InCallC s s.heap.objs.size (bindL (envOfC qual scope s.heap.objs.size f cd).kindOf (ps.zip us) fun _=>none) (cellsFrom (s.heap.objs.size+1) scope.names []) (bindC (envOfC qual scope s.heap.objs.size f cd).kindOf (ps.zip us) fun _=>none) s1) :
 Inv (Zna CX P w K mg base N qual scope f cd A outer s H E) [] (Zma N vs) H s1:=by
 have hpl:ps.length<=N.length:=by have:=congrArg List.length S.pre;rw[length_take]at this;omega
 obtain⟨h1,tk,rfl,hk⟩:=x.done;have noA:∀ b:Addr,b∉(Zna CX P w K mg base N qual scope f cd A outer s H E).ex:=fun b z=>absurd (show b∈([]:List Addr) from z) (by simp)
 refine⟨⟨e0.mod,S.kind,rfl,rfl,Ve _,fun y z c h1 h2=>?_,fun y hy=>?_,fun y c _ h=>?_,fun _=>hd,Around.frames_deeper e0.frames,.inr ⟨rfl,rfl⟩,fun b z=>absurd z (noA b),e0.bs,e0.bsz,fun b _ _=>noA b,fun b z=>absurd z (noA b),e0.funs,e0.frf⟩,
  rfl,e0.bare,Un.kept hk,⟨_,x.toInCall.ns,fun i y v h1 h2 h3=>?_⟩,fun y c h=>⟨_,x.cell y c h⟩,e0.hok.fresh (Ve _),fun y c h=>?_,fun p hp=>absurd (show p∈([]:YP_) from hp) (by simp),e0.hok.kept hk,?_⟩
 ·exact name_of_addr x.apart (PySem.mem_of_lookup h1) (PySem.mem_of_lookup h2)
 ·have hy:scope.names.lookup y=some .cell\/scope.names.lookup y=some .free:=hy
  rcases hy with hy | hy
  ·exact Q2b hy
  ·exact absurd rfl (S.nofree _ (PySem.mem_of_lookup hy))
 ·exact Vv (x.above y c (PySem.mem_of_lookup h))
 ·have hi:i < vs.length:=by
   unfold Zma at h2
   by_cases hi:i < vs.length
   ·exact hi
   ·rw[getElem?_append_right (by simpa using hi)]at h2
    rw[getElem?_replicate]at h2
    split at h2 <;> cases h2
  have ha:vs[i]?=some v:=by
   unfold Zma at h2;rw[getElem?_append_left (by simpa using hi),getElem?_map]at h2
   cases e:vs[i]? with
   | none=>rw[e]at h2;cases h2
   | some a=>rw[e]at h2;cases h2;rfl
  obtain⟨u,hu,rv⟩:=r.get ha;have hp:ps[i]?=some y:=by
   rw[<- S.pre,getElem?_take_of_lt (by omega)];exact h1
  have ndP:ps.Nodup:=by rw[<- S.pre];exact S.nd.sublist (take_sublist _ _)
  refine⟨u,rv,?_⟩
  rcases S.par y (Vm hp) with k | k
  ·exact .inl ⟨k,Xka ndP hp hu k⟩
  ·obtain⟨c,e⟩:=Q2b (n:=s.heap.objs.size+1) k
   refine .inr ⟨.inl k,c,e,?_⟩
   have q:=x.cell y c e;rw[Xla ndP hp hu (by show scope.names.lookup y≠_;rw[k];decide)]at q
   exact q
 ·exact e0.hok.fresh (Vv (x.above y c (PySem.mem_of_lookup h)))
 ·unfold Zma
  show _=N.length;rw[Vs,Vr,length_replicate]
  omega
theorem J1c{CX:CXT}{P:Program}{w:World}{K:W.Frag}{mg:Str->Option Value}{base:Heap}{k:Nat}{f:Addr}{name qual:Str}{params:Arguments}{body:List Stmt}{scope:Scope}{dV kV doc pm cdv ct oc:Value}{an od:Option Addr}
 {osl:Array (Option Value)} {N ps:List Str} {sp:Sp} (lk:K.lookup f=some ⟨oc,od,.func (W.fnOf name qual params body scope dV kV doc pm an cdv ct),osl⟩) (hcd:W.codeIn K cdv qual=true) (S:Qq N ps scope)
 (len:∀ vs H Q E,sp vs H Q E->vs.length=ps.length)
 (hbody:∀ (A:Around) (outer:List Env) (s:Shared) (H:Hp) (vs:List V) (Q:VK) (E:XK),Zq k (A.deeper (envOfC qual scope s.heap.objs.size f cdv))->sp vs H Q E ->
  ∃ t,PSs (Zna CX P w K mg base N qual scope f cdv A outer s H E) body t/\t { nx:=fun _ H'=>Q .non H',rt:=Q } (Zma N vs) H) :
 QF P w K mg base CX (k+1) f (W.fnOf name qual params body scope dV kV doc pm an cdv ct) ps sp:=by
 refine⟨len,fun A outer s H args us vs Q E hr e0 hb r hsp=>?_⟩
 have hl:=len _ _ _ _ hsp;have KX:K.In s.heap:=e0.mod.kin.keeps fun b o e=>(e0.bs b o e).1
 have lim:s.heap.NoLimit:=e0.mod.nolimit.keeps fun b o e=>(e0.bs b o e).1
 have hkind:∀ y∈ps.zip us,scope.names.lookup y.1=some .local\/(scope.names.lookup y.1=some .cell/\((cellsFrom (s.heap.objs.size+1) scope.names []).lookup y.1).isSome=true):=fun⟨n,v⟩ hy=>by
  rcases S.par n (of_mem_zip hy).1 with q | q
  ·exact .inl q
  ·exact .inr ⟨q,W.cellsFrom_some _ _ _ (.inl q)⟩
 refine codeAny_call_function hr.depth (KX _ _ lk) rfl S.co S.gen rfl (W.codeRec_of KX hcd) (hb _ _ _ _ ?_)
 refine wpAny_newFunctionEnv_cells S.kind hkind fun env he s1 x=>?_
 subst he;refine⟨lim.keeps x.toInCall.keep,codeAny_func ?_⟩
 obtain⟨t,ht,hq⟩:=hbody A outer s H vs Q E (hr.deeper _) hsp;have I:Inv (Zna CX P w K mg base N qual scope f cdv A outer s H E) [] (Zma N vs) H s1:=Y6b S hr.hd e0 hl r x;refine wpAny_mono (ht [] s1 (Zma N vs) H _ I hq) (fun fl s' hs=>?_) fun e s' hs=>hs
 have fin:∀ {σ':St} {H':Hp} {v:V} {u:Value},Inv (Zna CX P w K mg base N qual scope f cdv A outer s H E) [] σ' H' s'->QB v u->Q v H'->CE outer P w H s Q u s' :=
  fun {σ' H' v u} J rv q=>⟨v,H',J.os,J.bare,J.base,J.hok,rv,q⟩
 cases fl with
 | ret u =>
  obtain⟨v,σ',H',J,rv,q⟩:=hs;exact fin J rv q
 | next =>
  obtain⟨σ',H',J,q⟩:=hs;exact fin (v:=V.non) (u:=Value.none) J rfl q
 | brk =>
  obtain⟨_,_,_,q⟩:=hs;exact False.elim q
 | cont =>
  obtain⟨_,_,_,q⟩:=hs;exact False.elim q
section
variable{X:Cx}{x:Str}{p pos:Pos}{e:Expr}{es:List Expr}{t:TA}{id T:String}{r:List V->Hp->VK->Prop}
def tCB(r:List V->Hp->VK->Prop)(t:TA):TE:=fun σ H Q=>t σ H fun vs H1=>r vs H1 Q
theorem Qz(hc:YV X (.builtin id) r)(hg:Gl X x)(hm:X.mg x=none)(hv:bootBuiltins x=some (.builtin id))(ha:PA X (e::es) t)(hn:x≠"__name__":=by decide)(hdb:(x == ("__debug__":Str))=false:=by decide)
 (he:starEach (e::es) X.env=(false,eval e X.env)::starEach es X.env:=by rfl) (hpl:(backTo pos (starEach es X.env)).any (·.1)=false:=by rfl):PE X (.Call (.Name x p) (e::es) [] pos) (tCB r t):=by
 intro pins s σ H Q I h;refine wpAny_Call_Name_kw (ZSa I hg hm hv ?_ hn hdb)
 exact PyProof.Rows.callWith_builtin1 (thn (ha pos pins s σ H _ I h) fun us s1 ⟨vs,H1,I1,r1,q1⟩=>hc pins s1 σ H1 vs us Q I1 r1 q1) he hpl
theorem Zr(hc:YV X (.type T) r)(hg:Gl X x)(hm:X.mg x=none)(hv:bootBuiltins x=some (.type T))(ha:PA X (e::es) t)(hn:x≠"__name__":=by decide)(hdb:(x == ("__debug__":Str))=false:=by decide)
 (he:starEach (e::es) X.env=(false,eval e X.env)::starEach es X.env:=by rfl) (hpl:(backTo pos (starEach es X.env)).any (·.1)=false:=by rfl):PE X (.Call (.Name x p) (e::es) [] pos) (tCB r t):=by
 intro pins s σ H Q I h;refine wpAny_Call_Name_kw (ZSa I hg hm hv ?_ hn hdb)
 exact PyProof.Rows.callWith_type1 (thn (ha pos pins s σ H _ I h) fun us s1 ⟨vs,H1,I1,r1,q1⟩=>hc pins s1 σ H1 vs us Q I1 r1 q1) he hpl
end
end L2
namespace HT
open PySem PyProof.Rows
theorem X7b(A:Around)(s:Shared)(a:Int)(t:Tok)(c:Int)(u:Tok):∃ e,SeqAt.EqAt A s (.int a t) (.int c u) e/\(e=true↔a=c) :=
 ⟨(a == c),SeqAt.EqAt.int_int a t c u,by simp⟩
theorem X8b(A:Around)(s:Shared)(a:Int)(t:Tok)(c:Int)(u:Tok)(prog:Program)(w:World)(E:YQ_)(Q:YQ_)(h:Q (.bool (decide (a < c))) s) :
 wpAny (model prog w) A (richCompare .Lt (.int a t) (.int c u)) Q E s :=
 (PyProof.Rows.lt_int h:wpAny (model prog w) A (compareOp .Lt (.int a t) (.int c u)) Q E s)
section
open PySem.SeqAt
open PySem.AutoSeq1 (wpAny_loadPart')
open PySem.MeetsSeq PySem.MeetsSeq2 PySem.MeetsSeq3
end
section
variable{prog:Program}{w:World}{A:Around}{E:YQ_}{s:Shared}
def sIx(n d:Nat):Option Int->Nat
 | none=>d
 | some v=>if v < 0 then (v+(n:Int)).toNat else min v.toNat n
theorem Jza(n d k:Nat):sIx n d (some (k:Int))=min k n:=by
 show(if (k:Int) < 0 then ((k:Int)+(n:Int)).toNat else min (k:Int).toNat n)=min k n
 rw[if_neg (by omega),Int.toNat_natCast]
theorem YHc(n d:Nat)(hd:d<=n)(o:Option Int):sIx n d o<=n:=by
 cases o with
 | none=>exact hd
 | some v =>
  show(if v < 0 then (v+(n:Int)).toNat else min v.toNat n)<=n
  by_cases hv:v < 0
  ·rw[if_pos hv];omega
  ·rw[if_neg hv];exact Nat.min_le_right _ _
end
end HT
namespace L2
open PySem PySem.Spec PyProof.Rows
abbrev TO:=St->Hp->(Option Int->Hp->Prop)->Prop
def PO(X:Cx)(e:Option Expr)(t:TO):Prop :=
 ∀ (pins:YP_) (s:Shared) (σ:St) (H:Hp) (Q:Option Int->Hp->Prop),Inv X pins σ H s->t σ H Q ->
  wpAny (model X.prog X.w) X.A (evalPart e X.env) (fun u s'=>∃ o H',Inv X pins σ H' s'/\IsPart u o/\Q o H') X.xe s
def Ylb:TO:=fun _ H Q=>Q none H
def J2c(t:TE):TO:=fun σ H Q=>t σ H fun x H1=>∃ i,x=.int i/\Q (some i) H1
section
variable{X:Cx}{e:Expr}{te:TE}{lo hi:Option Expr}{tl th:TO}{pos p2:Pos}
theorem Zn:PO X none Ylb:=by
 intro pins s σ H Q I h;rw[evalPart_none];exact Vg ⟨none,H,I,.none,h⟩
theorem Zh(h:PE X e te):PO X (some e) (J2c te):=by
 intro pins s σ H Q I hw;rw[evalPart_some];refine thn (h pins s σ H _ I hw) fun u s1 hZ=>?_
 obtain⟨x,H1,I1,r1,q1⟩:=hZ;obtain⟨i,rfl,q⟩:=q1;obtain⟨t,rfl⟩:=r1;exact⟨some i,H1,I1,.int i t,q⟩
def SlR(X:Cx)(r:V->Option Int->Option Int->Hp->VK->Prop):Prop :=
 ∀ (pins:YP_) (s:Shared) (σ:St) (H:Hp) (x:V) (v vl vu:Value) (lo hi:Option Int) (sl:Addr) (Q:VK),Inv X pins σ H s->QB x v->s.heap.IsSliceOf sl vl vu .none->IsPart vl lo->IsPart vu hi->r x lo hi H Q ->
  ∃ T id,typeLookup (.type T) "__getitem__"=pure (some (.builtin id))/\s.TypeIs v T/\wpAny (model X.prog X.w) X.A (getItem v (.ref sl)) (EP X pins σ Q) X.xe s
def tSl(r:V->Option Int->Option Int->Hp->VK->Prop)(te:TE)(tl th:TO):TE:=fun σ H Q=>te σ H fun x H1=>tl σ H1 fun l H2=>th σ H2 fun u H3=>r x l u H3 Q
theorem Q5{r:V->Option Int->Option Int->Hp->VK->Prop}(hr:SlR X r)(he:PE X e te)(hl:PO X lo tl)(hu:PO X hi th):PE X (.Subscript e (.Slice lo hi none p2) pos) (tSl r te tl th):=by
 intro pins s σ H Q I h;refine Subscript_ (thn (he pins s σ H _ I h) fun v s1 hZ=>?_)
 obtain⟨x,H1,I1,r1,q1⟩:=hZ;refine wpAny_Slice (thn (hl pins s1 σ H1 _ I1 q1) fun vl s2 ⟨l,H2,I2,pl,q2⟩=>thn (hu pins s2 σ H2 _ I2 q2) fun vu s3 hZ=>?_)
 obtain⟨u,H3,I3,pu,q3⟩:=hZ;rw[evalPart_none];refine Vg ?_
 have I4:Inv X pins σ H3 { s3 with heap:=s3.heap.push { cls:=.type "slice",data:=.fields #[vl,vu,.none] } }:=I3.kept (t':=s3.toks) fun b ob q=>Vd _ q
 obtain⟨T,id,hT,ht,hg⟩:=hr pins { s3 with heap:=s3.heap.push { cls:=.type "slice",data:=.fields #[vl,vu,.none] } } σ H3 x v vl vu l u s3.heap.objs.size Q I4 r1 (Heap.IsSliceOf.new ..) pl pu q3
 show wpAny (model X.prog X.w) X.A (subscriptTail e (.Slice lo hi none p2) v (.ref s3.heap.objs.size)) (EP X pins σ Q) X.xe { s3 with heap:=s3.heap.push { cls:=.type "slice",data:=.fields #[vl,vu,.none] } }
 exact tail_any (ops:=[.ref s3.heap.objs.size,v]) ht hT hg (by with_unfolding_all rfl)
def QU(xs:List V)(lo hi:Option Int):List V:=(xs.drop (HT.sIx xs.length 0 lo)).take (HT.sIx xs.length xs.length hi - HT.sIx xs.length 0 lo)
theorem Zw(xs:List V)(lo hi:Option Int):(QU xs lo hi).length<=xs.length:=by
 unfold QU;rw[length_take,length_drop]
 omega
end
def ixN(n:Nat)(i:Int):Option Nat:=if 0<=i then (if i < n then some i.toNat else none) else if -(n:Int)<=i then some (i+n).toNat else none
def atI{α:Type}(xs:List α)(i:Int):Option α:=(ixN xs.length i).bind fun j=>xs[j]?
theorem Ymb{n:Nat}{i:Int}{j:Nat}(h:ixN n i=some j):seqIndex? i n=some j/\j < n /\ -(n:Int)<=i/\i < n:=by
 unfold ixN at h
 by_cases h0:0<=i
 ·rw[if_pos h0]at h
  by_cases h1:i < n
  ·rw[if_pos h1]at h
   have e:i.toNat=j:=Option.some.inj h;exact⟨by rw[seqIndex_of h0 h1,e],by omega,by omega,h1⟩
  ·rw[if_neg h1]at h;cases h
 ·rw[if_neg h0]at h
  by_cases h1 : -(n:Int)<=i
  ·rw[if_pos h1]at h
   have e:(i+n).toNat=j:=Option.some.inj h;exact⟨by rw[seqIndex_neg (by omega) h1,e],by omega,h1,by omega⟩
  ·rw[if_neg h1]at h;cases h
theorem XQa{α:Type}{xs:List α}{i:Int}{v:α}(h:atI xs i=some v):∃ j,seqIndex? i xs.length=some j/\xs[j]?=some v/\j < xs.length /\ -(xs.length:Int)<=i/\i < xs.length:=by
 unfold atI at h;cases e:ixN xs.length i with
 | none=>rw[e]at h;cases h
 | some j =>
  rw[e]at h;obtain⟨h1,h2,h3,h4⟩:=Ymb e;exact⟨j,h1,h,h2,h3,h4⟩
theorem Zb{α:Type}{xs:List α}{j:Nat}{v:α}(h:xs[j]?=some v):atI xs (j:Int)=some v:=by
 have hj:j < xs.length:=(Vc.mp h).1
 have e:ixN xs.length (j:Int)=some j:=by
  unfold ixN;rw[if_pos (by omega),if_pos (by omega)];simp
 unfold atI;rw[e];exact h
theorem XY{α:Type}(xs:List α)(v:α):atI (xs++[v]) (-1)=some v:=by
 have hl:(xs++[v]).length=xs.length+1:=by simp
 have e:ixN (xs++[v]).length (-1)=some xs.length:=by
  unfold ixN;rw[hl,if_neg (by decide),if_pos (by omega)]
  congr 1
  omega
 unfold atI;rw[e];show(xs++[v])[xs.length]?=some v;simp
def Z3c(b:Expr):Prop:=∀ o i,subscripted b false o i=operate [o,i] (getItem o i)
def IxR(X:Cx)(r:R2):Prop :=
 ∀ (value slice:Expr) (pins:YP_) (s:Shared) (σ:St) (H:Hp) (x y:V) (v u:Value) (Q:VK),Inv X pins σ H s->QB x v->QB y u->r x y H Q ->
  subscripted slice false v u=operate [v,u] (getItem v u)->wpAny (model X.prog X.w) X.A (subscriptTail value slice v u) (EP X pins σ Q) X.xe s
def MtR(X:Cx)(id:String)(r:V->List V->Hp->VK->Prop):Prop :=
 ∀ (pins:YP_) (s:Shared) (σ:St) (H:Hp) (x:V) (xs:List V) (v:Value) (us:List Value) (Q:VK),Inv X pins σ H s->QB x v->QE xs us->r x xs H Q ->
  wpAny (model X.prog X.w) X.A (call (.builtin id) (v::us)) (EP X pins σ Q) X.xe s
section
variable{X:Cx}{a b:Expr}{ta tb:TE}{pos:Pos}
theorem QA{r:R2}(hr:IxR X r)(ha:PE X a ta)(hb:PE X b tb)(hs:Z3c b):PE X (.Subscript a b pos) (tOp r ta tb):=by
 intro pins s σ H Q I h;exact Subscript_ (YDc ha hb I h fun v u s2 x y H2 I2 rx ry q=>hr a b pins s2 σ H2 x y v u Q I2 rx ry q (hs _ _))
def XLc(K:W.Frag):R2:=fun x y H Q=>∃ p xs i v,x=.ref p/\y=.int i/\SqL K H p xs/\atI xs i=some v/\Q v H
def Z4c(K:W.Frag):R2:=fun x y H Q=>∃ p xs i v,x=.ref p/\y=.int i/\SqT K H p xs/\atI xs i=some v/\Q v H
def XMc:R2:=fun x y H Q=>∃ z i c,x=.str z/\y=.int i/\z.length<=sizeLine/\atI z.cps.toList i=some c/\Q (.str ⟨#[c]⟩) H
theorem Q2:IxR X (XLc X.K):=by
 intro value slice pins s σ H x y v u Q I rx ry h hs;obtain⟨p,xs,i,z,rfl,rfl,hq,he,q⟩:=h;cases rx;obtain⟨t,rfl⟩:=ry;obtain⟨its,r,pl,hz⟩:=I.list hq;obtain⟨j,h1,h2,h3,h4,h5⟩:=XQa he;obtain⟨w,ew,rw'⟩:=r.get h2;have hl:=r.length;have hn:=QWa;have fin:EP X pins σ Q w s:=⟨z,H,I,rw',q⟩
 by_cases h0:0<=i
 ·have hj:i.toNat=j:=by
   rw[seqIndex_of h0 h5]at h1;exact Option.some.inj h1
  exact item_listR pl.isList h0 (by omega) (by rw[hj];simpa using ew) fin hs
 ·have hj:(i+(its.toArray.size:Int)).toNat=j:=by
   rw[seqIndex_neg (by omega) h4]at h1
   rw[Vn,<- hl];exact Option.some.inj h1
  exact subscriptTail_builtinR (x:=w) pl.isList.typeIs slot_list_getitem.lookup
   (wpAny_getItem_list_neg (Q:=fun r s'=>r=w/\EP X pins σ Q r s') pl.isList (by omega) (by rw[Vn] <;> omega) (by omega) (by rw[hj];simpa using ew) ⟨rfl,fin⟩) hs
theorem QI:IxR X (Z4c X.K):=by
 intro value slice pins s σ H x y v u Q I rx ry h hs;obtain⟨p,xs,i,z,rfl,rfl,hq,he,q⟩:=h;cases rx;obtain⟨t,rfl⟩:=ry;obtain⟨its,r,pl,hz⟩:=I.tuple hq;obtain⟨j,h1,h2,h3,h4,h5⟩:=XQa he;obtain⟨w,ew,rw'⟩:=r.get h2;have hl:=r.length;have hn:=QWa;have fin:EP X pins σ Q w s:=⟨z,H,I,rw',q⟩;exact subscriptTail_builtinR (x:=w) pl.typeIs slot_tuple_getitem.lookup
  (getItem_tuple (j:=j) (Q:=fun r s'=>r=w/\EP X pins σ Q r s') pl (by omega) (by omega) (by rw[Vn,<- hl];exact h1) (by simpa using ew) ⟨rfl,fin⟩) hs
theorem Jqb:IxR X XMc:=by
 intro value slice pins s σ H x y v u Q I rx ry h hs;obtain⟨z,i,c,rfl,rfl,hz,he,q⟩:=h;obtain⟨t,rfl⟩:=rx;obtain⟨t',rfl⟩:=ry;obtain⟨j,h1,h2,h3,h4,h5⟩:=XQa he;have hl:z.cps.toList.length=z.length:=by simp[Str.length]
 rw[hl]at h1 h4 h5;have hn:=QWa;exact tail_any (typeIs_str s z t) slot_str_getitem.lookup (getItem_str (c:=c) (by
  have e1:decide (i < -(2 ^ 63:Int))=false:=decide_eq_false (by omega)
  have e2:decide (i >= 2 ^ 63)=false:=decide_eq_false (by omega)
  rw[e1,e2,Bool.or_false]) (by rw[h1];simpa using h2) ⟨.str ⟨#[c]⟩,H,I.tok _,⟨_,rfl⟩,q⟩) hs
theorem Jrb(its:List Value)(n j:Nat)(u:Value):Obj.mapSeq (·.setIfInBounds j u) { cls:=.type "list",data:=.seq its.toArray n }={ cls:=.type "list",data:=.seq (its.set j u).toArray n }:=by
 simp[Obj.mapSeq]
theorem Inv.lst{pins:YP_}{σ:St}{H:Hp}{s:Shared}{p:Addr}{xs:List V}(I:Inv X pins σ H s)(h:H p=some (.lst xs)) :
 ∃ (its:List Value) (n:Nat),QE xs its/\s.heap.get? p=some { cls:=.type "list",data:=.seq its.toArray n }/\xs.length<=sizeLine:=by
 obtain⟨z,its,n,r,e⟩:=I.hok p _ h;exact⟨its,n,r,e,z⟩
theorem Inv.lstUpd{pins:YP_}{σ:St}{H:Hp}{s:Shared}{p:Addr}{xs ys:List V}{its its':List Value}{n n':Nat}{f:Obj->Obj}(I:Inv X pins σ H s)(h:H p=some (.lst xs))
 (ho:s.heap.get? p=some { cls:=.type "list",data:=.seq its.toArray n }) (hf:f { cls:=.type "list",data:=.seq its.toArray n }={ cls:=.type "list",data:=.seq its'.toArray n' }) (r:QE ys its') (hz:ys.length<=sizeLine) (t:Nat) :
 Inv X pins σ (upd H p (.lst ys)) { s with heap:=s.heap.update p f,toks:=t }:=by
 have e:(s.heap.update p f).get? p=some { cls:=.type "list",data:=.seq its'.toArray n' }:=by
  rw[Heap.get?_update_self f ho (by rw[hf] <;> rfl),hf]
 refine I.write (x:=p) (e:=p) (by rw[h];trivial) (.inl rfl) (fun b u hb q=>(Heap.get?_update_other _ _ (Ne.symm hb)).trans q) ⟨_,e⟩ ?_
 exact⟨hz,its',n',r,e⟩
def XNc:V->V->V->Hp->(Hp->Prop)->Prop:=fun o i v H Q=>∃ p xs k j,o=.ref p/\i=.int k/\H p=some (.lst xs)/\ixN xs.length k=some j/\Q (upd H p (.lst (xs.set j v)))
theorem X9b:XDc X XNc:=by
 intro pins s σ H o i v ov iv u Q I ro ri rv h;obtain⟨p,xs,k,j,rfl,rfl,hp,hj,q⟩:=h;cases ro;obtain⟨t,rfl⟩:=ri;obtain⟨its,n,r,ho,hz⟩:=I.lst hp;obtain⟨h1,h2,h3,h4⟩:=Ymb hj;have hl:=r.length;have hn:=QWa;have I':Inv X pins σ (upd H p (.lst (xs.set j v))) { s with heap:=s.heap.update p (Obj.mapSeq (·.setIfInBounds j u)) } :=
  I.lstUpd hp ho (Jrb its n j u) (r.set rv j) (by rw[length_set];exact hz) s.toks
 by_cases h0:0<=k
 ·have hk:k.toNat=j:=by
   rw[seqIndex_of h0 h4]at h1;exact Option.some.inj h1
  exact W.ki_setAt ho h0 (by omega) (by rw[Vn,<- hl];exact h4) (by rw[hk];exact⟨_,I',q⟩)
 ·have hk:(k+(its.toArray.size:Int)).toNat=j:=by
   rw[seqIndex_neg (by omega) h3]at h1
   rw[Vn,<- hl];exact Option.some.inj h1
  exact W.ki_setBack ho (by omega) (by rw[Vn,<- hl];exact h3) (by omega) (by rw[hk];exact⟨_,I',q⟩)
theorem Zoa(lo hi:Option Int)(n:Nat):(sliceBounds lo hi none n).1=((HT.sIx n 0 lo:Nat):Int)/\(sliceBounds lo hi none n).2.1=((HT.sIx n n hi:Nat):Int)/\(sliceBounds lo hi none n).2.2=1:=by
 refine⟨?_,?_,rfl⟩
 ·cases lo with
  | none=>simp[sliceBounds,HT.sIx]
  | some i =>
   simp only[sliceBounds,HT.sIx,Option.getD_none,show(1:Int) > 0 by decide,if_true]
   by_cases h:i < 0
   ·simp only[h,if_true] <;> omega
   ·simp only[h,if_false] <;> omega
 ·cases hi with
  | none=>simp[sliceBounds,HT.sIx]
  | some i =>
   simp only[sliceBounds,HT.sIx,Option.getD_none,show(1:Int) > 0 by decide,if_true]
   by_cases h:i < 0
   ·simp only[h,if_true] <;> omega
   ·simp only[h,if_false] <;> omega
theorem YJa(its:List Value)(lo hi:Option Int):slicePick its.toArray lo hi none=((its.drop (HT.sIx its.length 0 lo)).take (HT.sIx its.length its.length hi - HT.sIx its.length 0 lo)).toArray:=by
 obtain⟨h1,h2,h3⟩:=Zoa lo hi its.toArray.size;unfold slicePick;rw[h1,h2,h3];simp only[sliceRange_one,pick_run,Vn] <;> rfl
def XOc(K:W.Frag):V->Option Int->Option Int->Hp->VK->Prop:=fun x lo hi H Q=>∃ a xs,x=.ref a/\SqL K H a xs/\∀ p,H p=none->Q (.ref p) (upd H p (.lst (QU xs lo hi)))
theorem Zo:SlR X (XOc X.K):=by
 intro pins s σ H x v vl vu lo hi sl Q I rx hs pl pu h;obtain⟨a,xs,rfl,hx,q⟩:=h;cases rx;obtain⟨its,r,ht,hz⟩:=I.list hx;have hlen:=r.length;refine⟨"list",_,slot_list_getitem.lookup,ht.isList.typeIs,?_⟩
 refine wpAny_getItem_list_slice ht.isList hs pl pu .none (by simp) ?_ (by rw[Vn] <;> omega)
 rw[YJa,<- hlen];refine⟨.ref s.heap.objs.size,_,I.laid (t':=s.toks) (o:=.lst (QU xs lo hi)) (fun b ob q=>Vd _ q) (Ve _) ?_,rfl,q _ (I.hok.fresh (Ve _))⟩
 exact⟨Vj (Zw xs lo hi) hz,_,0,(r.drop (HT.sIx xs.length 0 lo)).take (HT.sIx xs.length xs.length hi - HT.sIx xs.length 0 lo),Vi _ rfl⟩
def J9:V->Bool
 | .non=>true
 | .bl _=>true
 | .int _=>true
 | .str _=>true
 | _=>false
def eqV:V->V->Bool
 | .non,.non=>true
 | .bl a,.bl b=>a == b
 | .bl a,.int b=>(if a then 1 else 0) == b
 | .int a,.bl b=>a == (if b then 1 else 0)
 | .int a,.int b=>a == b
 | .str a,.str b=>a == b
 | _,_=>false
theorem XRa{A:Around}{s:Shared}{y x:V}{u v:Value}(ry:QB y u)(rx:QB x v)(fy:J9 y=true)(fx:J9 x=true):SeqAt.EqAt A s u v (eqV y x):=by
 cases y with
 | non =>
  cases ry;cases x with
  | non=>cases rx;exact SeqAt.EqAt.same _
  | bl b=>cases rx;exact SeqAt.EqAt.none_bool b
  | int b=>obtain⟨t,rfl⟩:=rx;exact SeqAt.EqAt.none_int b t
  | str b=>obtain⟨t,rfl⟩:=rx;exact SeqAt.EqAt.none_str b t
  | _=>exact absurd (show false=true from fx) Vf
 | bl a =>
  cases ry;cases x with
  | non=>cases rx;exact SeqAt.EqAt.bool_none a
  | bl b=>cases rx;exact SeqAt.EqAt.bool_bool a b
  | int b=>obtain⟨t,rfl⟩:=rx;exact SeqAt.EqAt.bool_int a b t
  | str b=>obtain⟨t,rfl⟩:=rx;exact SeqAt.EqAt.bool_str a b t
  | _=>exact absurd (show false=true from fx) Vf
 | int a =>
  obtain⟨t',rfl⟩:=ry;cases x with
  | non=>cases rx;exact SeqAt.EqAt.int_none a t'
  | bl b=>cases rx;exact SeqAt.EqAt.int_bool a t' b
  | int b=>obtain⟨t,rfl⟩:=rx;exact SeqAt.EqAt.int_int a t' b t
  | str b=>obtain⟨t,rfl⟩:=rx;exact SeqAt.EqAt.int_str a t' b t
  | _=>exact absurd (show false=true from fx) Vf
 | str a =>
  obtain⟨t',rfl⟩:=ry;cases x with
  | non=>cases rx;exact SeqAt.EqAt.str_none a t'
  | bl b=>cases rx;exact SeqAt.EqAt.str_bool a t' b
  | int b=>obtain⟨t,rfl⟩:=rx;exact SeqAt.EqAt.str_int a t' b t
  | str b=>obtain⟨t,rfl⟩:=rx;exact SeqAt.EqAt.str_str a t' b t
  | _=>exact absurd (show false=true from fx) Vf
 | _=>exact absurd (show false=true from fy) Vf
theorem QR:YV X (.builtin "len") (fun xs H Q=>∃ p ys,xs=[.ref p]/\(SqL X.K H p ys\/SqT X.K H p ys)/\Q (.int ys.length) H):=by
 intro pins s σ H xs us Q I r h;obtain⟨p,ys,rfl,hq,q⟩:=h;obtain⟨u,rfl,rx⟩:=Zka r;cases rx;have hn:=QWa
 rcases hq with hq | hq
 ·obtain⟨its,r',pl,hz⟩:=I.list hq
  have hlen:=r'.length;exact Calls.call_len_list pl.isList (by simp only[Vn] <;> omega) ⟨.int ys.length,H,I.tok _,⟨s.toks+1,by rw[Vn,hlen]⟩,q⟩
 ·obtain⟨its,r',pl,hz⟩:=I.tuple hq
  have hlen:=r'.length;exact len_tuple pl (by simp only[Vn] <;> omega) ⟨.int ys.length,H,I.tok _,⟨s.toks+1,by rw[Vn,hlen]⟩,q⟩
theorem Zpa:YV X (.builtin "len") (fun xs H Q=>∃ z,xs=[.str z]/\z.length<=sizeLine/\Q (.int z.length) H):=by
 intro pins s σ H xs us Q I r h;obtain⟨z,rfl,hz,q⟩:=h;obtain⟨u,rfl,t,rfl⟩:=Zka r;have hn:=QWa;exact len_str (by omega) ⟨.int z.length,H,I.tok _,⟨_,rfl⟩,q⟩
theorem Zz:YV X (.type "list") (fun xs H Q=>∃ p ys,xs=[.ref p]/\(SqL X.K H p ys\/SqT X.K H p ys)/\∀ l,H l=none->Q (.ref l) (upd H l (.lst ys))):=by
 intro pins s σ H xs us Q I r h;obtain⟨p,ys,rfl,hq,q⟩:=h;obtain⟨u,rfl,rx⟩:=Zka r;cases rx;have fin:∀ (its:List Value),QE ys its->ys.length<=sizeLine->∀ (h':Heap) (c':Nat),(∀ b o',s.heap.get? b=some o'->h'.get? b=some o') ->
  h'.get? s.heap.objs.size=some { cls:=.type "list",dict:=none,data:=.seq its.toArray c',slots:=#[] }->EP X pins σ Q (.ref s.heap.objs.size) { s with heap:=h' }:=fun its r' hz h' c' kp e =>
  ⟨.ref s.heap.objs.size,_,I.laid (t':=s.toks) kp (Ve _) (show QL X.prog X.w _ h' _ (.lst ys) from⟨hz,its,c',r',e⟩),rfl,q _ (I.hok.fresh (Ve _))⟩
 rcases hq with hq | hq
 ·obtain⟨its,r',pl,hz⟩:=I.list hq
  have hlen:=r'.length;obtain⟨o,ho,hc,n,hd⟩:=pl.isList;exact call_list_seq p (.inl rfl) ho hc hd (fun h' c' kp e=>fin its r' hz h' c' kp e) (by simp only[Vn] <;> omega)
 ·obtain⟨its,r',pl,hz⟩:=I.tuple hq
  have hlen:=r'.length;obtain⟨o,ho,hc,n,hd⟩:=pl;exact call_list_seq p (.inr rfl) ho hc hd (fun h' c' kp e=>fin its r' hz h' c' kp e) (by simp only[Vn] <;> omega)
theorem QHa:YV X (.type "tuple") (fun xs H Q=>∃ p ys,xs=[.ref p]/\((SqL X.K H p ys/\∀ l,H l=none->Q (.ref l) (upd H l (.tup ys)))\/(SqT X.K H p ys/\Q (.ref p) H))):=by
 intro pins s σ H xs us Q I r h;obtain⟨p,ys,rfl,h⟩:=h;obtain⟨u,rfl,rx⟩:=Zka r;cases rx
 rcases h with ⟨hq,q⟩ | ⟨hq,q⟩
 ·obtain⟨its,r',pl,hz⟩:=I.list hq
  have hlen:=r'.length;refine call_tuple_list pl.isList (fun h' kp=>?_) (by simp only[Vn] <;> omega)
  have I1:Inv X pins σ H { s with heap:=h' }:=I.kept (t':=s.toks) kp
  have I2:Inv X pins σ (upd H h'.objs.size (.tup ys)) { s with heap:=h'.push { cls:=.type "tuple",data:=.seq its.toArray } } :=
   I1.laid (t':=s.toks) (fun b o e=>Vd _ e) (Ve _) (show QL X.prog X.w _ _ _ (.tup ys) from⟨⟨hz,_,Vi _ rfl,rfl⟩,its,r',IsTup.new _ _⟩)
  exact⟨.ref h'.objs.size,_,I2,rfl,q _ (I1.hok.fresh (Ve _))⟩
 ·obtain⟨its,r',pl,hz⟩:=I.tuple hq
  exact call_tuple_same pl ⟨.ref p,H,I,rfl,q⟩
def tyV(K:W.Frag)(T:String)(x:V)(H:Hp):Prop:=match x with
 | .str _=>T="str"
 | .int _=>T="int"
 | .ref p=>(T="list"/\∃ xs,SqL K H p xs)\/(T="tuple"/\∃ o,K.lookup p=some o/\o.cls=.type "tuple"/\o.dict=none) \/
  (T="dict"/\((∃ kvs,H p=some (.dK kvs))\/∃ kvs,H p=some (.dT kvs)))\/(T="set"/\∃ S n,H p=some (.set S n))
 | _=>False
theorem YIc{pins:YP_}{σ:St}{H:Hp}{s:Shared}{T:String}{x:V}{v:Value}(I:Inv X pins σ H s)(r:QB x v)(ty:tyV X.K T x H) :
 s.TypeIs v T/\∀ a,v=.ref a->∃ ob,s.heap.get? a=some ob/\ob.dict=none:=by
 cases x with
 | str z =>
  obtain⟨t,rfl⟩:=r;cases (show T="str" from ty)
  exact⟨typeIs_str s z t,fun _ e=>nomatch e⟩
 | int i =>
  obtain⟨t,rfl⟩:=r;cases (show T="int" from ty)
  exact⟨typeIs_int s i t,fun _ e=>nomatch e⟩
 | ref p =>
  cases r
  rcases ty with ⟨rfl,xs,hq⟩ | ⟨rfl,o,hk,hc,hd⟩ | ⟨rfl,hk⟩ | ⟨rfl,S,n,hk⟩
  ·obtain⟨its,_,pl,_⟩:=I.list hq
   refine⟨pl.isList.typeIs,fun a e=>?_⟩
   cases e;obtain⟨o,n,e,c,hd,_⟩:=pl;exact⟨o,e,hd⟩
  ·refine⟨⟨o,I.kIn p o hk,hc⟩,fun a e=>?_⟩
   cases e;exact⟨o,I.kIn _ o hk,hd⟩
  ·have z:∃ o,s.heap.get? p=some o/\o.ExactDict:=by
    rcases hk with ⟨kvs,hk⟩ | ⟨kvs,hk⟩
    ·obtain⟨_,_,_,_,o,_,_,e,ex,_⟩:=I.hok p _ hk
     exact⟨o,e,ex⟩
    ·obtain⟨_,_,_,_,o,_,_,e,ex,_⟩:=I.hok p _ hk
     exact⟨o,e,ex⟩
   obtain⟨o,e,ex⟩:=z;refine⟨⟨o,e,ex.1⟩,fun a e2=>?_⟩
   cases e2;exact⟨o,e,ex.2.1⟩
  ·obtain⟨o,_,_,_,e,ex,_⟩:=I.hok p _ hk
   refine⟨⟨o,e,ex.1⟩,fun a e2=>?_⟩
   cases e2;exact⟨o,e,ex.2.1⟩
 | _=>exact False.elim ty
def tBM(K:W.Frag)(T:String)(r:V->List V->Hp->VK->Prop)(to:TE)(t:TA):TE:=fun σ H Q=>to σ H fun x H1=>tyV K T x H1/\t σ H1 fun xs H2=>r x xs H2 Q
variable{o e:Expr}{es:List Expr}{to:TE}{t:TA}{name:Str}{apos cpos:Pos}{T id:String}{r:V->List V->Hp->VK->Prop}
theorem Jja(pa:PlainAttrs T)(slot:Slot T name id)(hty:typeOf (.builtin id)=pure (.type "method_descriptor"))(hm:MtR X id r)(ho:PE X o to)(ha:PA X (e::es) t)
 (hbase:attributeBase o name X.env (eval o X.env)=eval o X.env:=by rfl)
 (hfew:((backTo cpos (starEach (e::es) X.env)).all (fun x=>!x.1) && (backToKw cpos (keywordEach [] X.env)).all (fun x=>x.1.isSome)
  && decide ((e::es).length+([]:List Keyword).length+(if ([]:List Keyword).isEmpty then 0 else 1) < 30))=true:=by rfl)
 (hline:(apos.endLine == cpos.line)=true:=by rfl) (hs:starEach (e::es) X.env=(false,eval e X.env)::starEach es X.env:=by rfl) (hplain:(backTo cpos (starEach es X.env)).any (·.1)=false:=by rfl) :
 PE X (.Call (.Attribute o name apos) (e::es) [] cpos) (tBM X.K T r to t):=by
 intro pins s σ H Q I h;refine wpAny_Call_method_late hbase hfew hline rfl (thn (ho pins s σ H _ I h) fun v s1 hZ=>?_)
 obtain⟨x,H1,I1,r1,ty,q1⟩:=hZ;obtain⟨h1,h2⟩:=YIc I1 r1 ty;refine⟨T,id,pa,slot,hty,h1,h2,?_⟩
 have hA:=ha cpos pins s1 σ H1 _ I1 q1;rw[hs]at hA ⊢;refine Calls.callWith_builtin (by show(false || (backTo cpos (starEach es X.env)).any (·.1))=false;rw[hplain] <;> rfl) (Calls.evalArgs_plain ?_)
 exact thn hA fun us s2 ⟨vs,H2,I2,r2,q2⟩=>hm pins s2 σ H2 x vs v us Q I2 r1 r2 q2
end
def MtM(X:Cx)(id:String)(r:V->List V->Hp->VK->Prop):Prop :=
 ∀ (pins:YP_) (s:Shared) (σ:St) (H:Hp) (x:V) (xs:List V) (v:Value) (us:List Value) (Q:VK),Inv X pins σ H s->QB x v->QE xs us->r x xs H Q ->
  wpAny (model X.prog X.w) X.A (call (.builtin id) (v::us)) (EP X pins σ Q) X.xe s
theorem QE.one:∀ {x:V} {us:List Value},QE [x] us->∃ u,us=[u]/\QB x u
 | _,_,.cons r .nil=>⟨_,rfl,r⟩
section
variable{X:Cx}{pins:YP_}{σ:St}{H:Hp}{s:Shared}{l b:Addr}{xs ys zs:List V}
theorem Inv.lset{its its':List Value}{n:Nat}{f:Array Value->Array Value}{t':Nat}(I:Inv X pins σ H s)(hH:H l=some (.lst xs))
 (e:s.heap.get? l=some { cls:=.type "list",data:=.seq its.toArray n }) (hf:f its.toArray=its'.toArray) (hv:QE ys its') (hz:ys.length<=sizeLine) :
 Inv X pins σ (upd H l (.lst ys)) { s with heap:=s.heap.update l (Obj.mapSeq f),toks:=t' }:=by
 have q:=PySem.IsL.update e f;rw[hf]at q;refine I.write (x:=l) (e:=l) (by rw[hH];exact trivial) (.inl rfl) (fun b' u hb hu=>(Heap.get?_update_other s.heap (Obj.mapSeq f) (Ne.symm hb)).trans hu) ⟨_,q⟩ ?_
 exact⟨hz,its',_,hv,q⟩
theorem Inv.lnew{its:List Value}{t':Nat}(I:Inv X pins σ H s)(hv:QE ys its)(hz:ys.length<=sizeLine) :
 Inv X pins σ (upd H s.heap.objs.size (.lst ys)) { s with heap:=s.heap.push { cls:=.type "list",data:=.seq its.toArray },toks:=t' } :=
 I.laid (fun _ _ q=>Vd _ q) (Ve _) ⟨hz,its,0,hv,Vi _ rfl⟩
theorem Inv.fresh(I:Inv X pins σ H s):H s.heap.objs.size=none:=I.hok.fresh (Ve _)
theorem Inv.lstM(I:Inv X pins σ H s)(hH:H l=some (.lst xs)):xs.length<=sizeLine/\∃ (its:List Value) (n:Nat),QE xs its/\xs.length=its.length/\s.heap.get? l=some { cls:=.type "list",data:=.seq its.toArray n }:=by
 obtain⟨z,its,n,r,e⟩:=I.hok l _ hH;exact⟨z,its,n,r,r.length,e⟩
end
section
variable{X:Cx}
def Ynb:V->List V->Hp->VK->Prop:=fun x vs H Q=>∃ l xs y,x=.ref l/\vs=[y]/\H l=some (.lst xs)/\xs.length < sizeLine/\Q .non (upd H l (.lst (xs++[y])))
theorem Ja:MtM X "list.append" Ynb:=by
 intro pins s σ H x vs v us Q I rx rv h;obtain⟨l,xs,y,rfl,rfl,hH,hz,q⟩:=h;cases rx;obtain⟨u,rfl,ru⟩:=rv.one;obtain⟨z,its,n,r,hl,e⟩:=I.lstM hH;refine call_meets F.slot_list_append ⟨_,e,rfl⟩ F.entry_list_append (F.args_list_append_2 _ _) (PySem.list_append l its.toArray n u (by rw[Vn];omega)) ⟨e,?_⟩
 refine⟨.non,_,I.lset (its':=its++[u]) hH e (by simp) (r.append (.cons ru .nil)) ?_,rfl,q⟩
 rw[Vs,length_singleton]
 omega
def XPc:R2:=fun x y H Q=>∃ l b xs zs,x=.ref l/\y=.ref b/\H l=some (.lst xs)/\H b=some (.lst zs)/\xs.length+zs.length<=sizeLine/\∀ p,H p=none->Q (.ref p) (upd H p (.lst (xs++zs)))
theorem ZW:OpR X (binaryOp .Add) XPc:=by
 intro pins s σ H x y v u Q I rx ry h;obtain⟨l,b,xs,zs,rfl,rfl,hH,hB,hz,q⟩:=h;cases rx;cases ry;obtain⟨z,its,n,r,hl,e⟩:=I.lstM hH;obtain⟨z2,its2,n2,r2,hl2,e2⟩:=I.lstM hB;refine PySem.P.add_list e e2 ?_ (by rw[Vn,Vn];omega)
 have ea:its.toArray++its2.toArray=(its++its2).toArray:=by simp
 rw[ea];exact⟨.ref _,_,I.lnew (t':=s.toks) (r.append r2) (by rw[Vs];omega),rfl,q _ I.fresh⟩
end
section
variable{prog:Program}{w:World}{A:Around}{E:YQ_}{s:Shared}
end
section
variable{X:Cx}
end
end L2
namespace Att
open PySem PySem.W PySem.Calls PyProof.Rows
theorem Jra{P:Params}{h:Heap}:∀ (ns:List Int) (vs:List Value),WellAll P h vs (ns.map WData.int)->IntsAre vs ns:=by
 intro ns
 induction ns with
 | nil =>
  intro vs w;rw[map_nil]at w;cases w;exact .nil
 | cons n ns ih =>
  intro vs w;rw[map_cons]at w;cases w with
  | cons a b =>
   cases a;exact .cons _ _ (ih _ b)
theorem Y7b{l:OpenLaw}{n:Nat}(hn:l.most=some n){P:Params}{h:Heap}{args:List WData}{vals:List Value}
 (hpre:l.row.toRowW.claim.pre args=true) (hwl:WellAll P h vals args) :
 ∃ a vs ns,vals=[Value.ref a]/\args=[WData.list (ns.map WData.int)]/\h.get? a=some { cls:=.type "list",data:=.seq vs.toArray }/\IntsAre vs ns/\ns.length<=n:=by
 have hsh:WShape.hasAll [] args [.list .int]=true:=(pre_splitW hpre).1;have hc:l.pre.holds [] { args:=args }=true:=(pre_splitW hpre).2;obtain⟨d,r,rfl,h1,h2⟩:=hasAllW_cons hsh;obtain rfl:=hasAllW_nil h2;obtain⟨xs,rfl,h3⟩:=hasW_list h1;obtain⟨ns,rfl⟩:=items_int h3;have hlen:ns.length<=n:=by
  unfold OpenLaw.pre at hc;have h4:(WTm.not (.lt (.lit (.int (n:Int))) (.len (.arg 0)))).holds [] { args:=[.list (ns.map .int)] }=true:=by
   have h4:=(holds_andW hc).1;rw[hn]at h4;exact h4
  have h5:=condW_of h4 (w_not (w_lt w_lit (w_len_list (w_arg rfl))));rw[Vr]at h5;refine Nat.le_of_not_lt fun q=>?_
  have q':(n:Int) < ((ns.length:Nat):Int):=by omega
  first
   | (rw[decide_eq_true q']at h5;exact absurd h5 (by decide))
   | (simp at h5;omega)
 cases hwl with
 | cons w1 w2 =>
  cases w2;cases w1 with
  | list ho hall=>exact⟨_,_,ns,rfl,rfl,ho,Jra ns _ hall,hlen⟩
theorem Y8b(l:OpenLaw)(args:List WData):l.row.toRowW.claim.post args (.bool true) args=true :=
 postW_of (r:=l.row.toRowW) (X:=(true == true))
  (show WShape.has [] (.bool true) .bool=true by first | rfl | decide | simp[WShape.has,WShape.arms,WShape.armsAll])
  (show(WTm.eq .res (.lit (.bool true))).value [] { args:=args,res:=some (.bool true),after:=args }=some (.bool (true == true)) from w_eq_bool (w_res rfl) w_lit) rfl
section
variable{prog:Program}{w:World}{A:Around}{E:YQ_}{s:Shared}{K:Frag}
end
end Att
namespace L2
open PySem PySem.Spec PyProof.Rows
theorem Xma:∀ {vs:List Value} {ns:List Int},IntsAre vs ns->QE (ns.map V.int) vs
 | _,_,.nil=>.nil
 | _,_,.cons n t h=>.cons ⟨t,rfl⟩ (Xma h)
def YJc(H:Hp):Prop:=∀ b,H b=none\/∃ o xs,H b=some (.frz o (.lst xs))
theorem Qac{P:Program}{w:World}{K:W.Frag}{mg mb:Str->Option Value}{CX:CXT}{k:Nat}{fa a:Addr}{fd:FuncData}{x:Str}{sp:Sp}{s₁:Shared}{vs:List Value}{ns:List Int}
 (KX:K.In s₁.heap) (hns:s₁.heap.Ns mainGlobals mg) (hb:s₁.heap.Ns builtinsNs mb) (hbb:∀ x:Str,x≠"__name__"->mb x=bootBuiltins x) (hlim:s₁.heap.NoLimit) (hg:s₁.gens=#[])
 (ha:s₁.heap.get? a=some { cls:=.type "list",data:=.seq vs.toArray }) (hi:IntsAre vs ns) (hl:ns.length<=sizeLine) (hr:Zq k callerA)
 (F:∀ base:Heap,K.In base->base.Ns mainGlobals mg->QF P w K mg base CX k fa fd [x] sp) (hbind:∀ (s:Shared) (u:Value),BindsTo s fd ⟨[u],[]⟩ [(x,u)])
 (hsp:∀ H:Hp,YJc H->SqL K H a (ns.map V.int)->sp [.ref a] H (fun v _=>v=.bl true) fun _ _ _=>False)
 (hCX:∀ H e s',CX [] H s₁ (fun _ _ _=>False) e s'->False) :
 codeAny (model P w) callerA (.call (.ref fa) ⟨[.ref a],[]⟩) (fun r s'=>r=.ok (.ret (.bool true))/\OldK s₁.heap s'.heap/\s'.os=s₁.os/\AllBare s'.gens) s₁:=by
 have rv:=Xma hi;have lenV:=hi.length;have core:∀ H:Hp,YJc H->SqL K H a (ns.map V.int)->HOk P w H s₁.heap->(∀ b,H b≠none->b=a)->(H a≠none->K.lookup a=none) ->
  codeAny (model P w) callerA (.call (.ref fa) ⟨[.ref a],[]⟩) (fun r s'=>r=.ok (.ret (.bool true))/\OldK s₁.heap s'.heap/\s'.os=s₁.os/\AllBare s'.gens) s₁:=by
  intro H hO hS hok hA hK;have base_of:∀ {b:Addr} {o:Obj},s₁.heap.get? b=some o->H b=none->(XMa s₁.heap H).get? b=some o:=fun e n=>XSb e n
  have noA:∀ {b:Addr} {o:Obj} {es:Array DictEntry} {ep:Nat},s₁.heap.get? b=some o->o.data=.dict es ep->H b=none:=fun {b o es ep} e d=>by
   cases q:H b with
   | none=>rfl
   | some u =>
    have e':b=a:=hA b (by rw[q];simp)
    subst e';rw[ha]at e;cases e;have d':Data.seq vs.toArray _=Data.dict es ep:=d;cases d'
  have nsK:∀ {b:Addr} {m:Str->Option Value},s₁.heap.Ns b m->(XMa s₁.heap H).Ns b m:=fun {b m} ⟨o,es,ep,e,d,r⟩=>⟨o,es,ep,base_of e (noA e d),d,r⟩
  have hKb:K.In (XMa s₁.heap H):=fun b o e=>base_of (KX b o e) (by
   cases q:H b with
   | none=>rfl
   | some u =>
    have e':b=a:=hA b (by rw[q];simp)
    subst e';rw[hK (by rw[q];simp)]at e;cases e)
  have hM:Mod K mg (XMa s₁.heap H):=⟨hKb,nsK hns,⟨mb,nsK hb,hbb⟩,let ⟨mc,h1,h2⟩:=hlim;⟨mc,nsK h1,h2⟩⟩
  have e0:Jpb P w K mg (XMa s₁.heap H) callerA [] s₁ H:=⟨rfl,hM,fun b o e=>ZDc e,Nat.le_of_eq (Y1b _ _),trivial,fun b hb=>absurd (show b∈([]:List Addr) from hb) (by simp),hok,.of_eq hg⟩
  refine codeAny_mono ((F _ hKb (nsK hns)).run callerA [] s₁ H ⟨[.ref a],[]⟩ [.ref a] [.ref a] _ _ hr e0 (hbind s₁ (.ref a)) (.cons rfl .nil) (hsp H hO hS)) fun r s' h=>?_
  cases r with
  | error e=>exact(hCX H e s' h).elim
  | ok fl =>
   cases fl with
   | next=>exact False.elim h
   | brk=>exact False.elim h
   | cont=>exact False.elim h
   | ret u =>
    obtain⟨v,H',os,bare,un,hok',r',q⟩:=h;have q':v=.bl true:=q;subst q';obtain rfl:u=Value.bool true:=r';refine⟨rfl,OldK.of_keep fun b o e=>?_,os,bare⟩
    cases q:H b with
    | none=>exact un.keep b o e q (by intro z;exact absurd (show b∈([]:List Addr) from z) (by simp)) (by simp)
    | some u =>
     rcases hO b with z | ⟨ob,xs,z⟩
     ·rw[q]at z;cases z
     ·have z2:=un.frzs b ob _ z
      obtain⟨e1,_⟩:=hok b _ z;obtain⟨e2,_⟩:=hok' b _ z2;rw[e]at e1;cases e1;exact e2
 cases hk:K.lookup a with
 | some o =>
  have e:=KX a o hk;rw[ha]at e;cases e;refine core (fun _=>none) (fun _=>.inl rfl) (.inr ⟨_,vs.toArray,_,hk,rfl,rfl,rfl,by rw[Vn,lenV];exact hl,by simpa using rv⟩) (fun b u z=>by have z':(none:Option HO)=some u:=z;cases z') (fun b z=>absurd rfl z) fun z=>absurd rfl z
 | none =>
  refine core (fun b=>if b=a then some (.frz { cls:=.type "list",data:=.seq vs.toArray } (.lst (ns.map V.int))) else none) (fun b=>?_) (.inl (.inr ⟨{ cls:=.type "list",data:=.seq vs.toArray },if_pos rfl⟩)) (fun b u z=>?_) (fun b z=>?_) fun _=>hk
  ·by_cases hb:b=a
   ·exact .inr ⟨_,_,if_pos hb⟩
   ·exact .inl (if_neg hb)
  ·by_cases hb:b=a
   ·have z':=(if_pos hb).symm.trans z
    cases z';subst hb;exact⟨ha,by rw[Vr];exact hl,vs,_,rv,ha⟩
   ·have z':=(if_neg hb).symm.trans z
    cases z'
  ·by_cases hb:b=a
   ·exact hb
   ·exact absurd (if_neg hb) z
def Zqa(s:Stmt):Arguments:=match s with
 | .FunctionDef _ a _ _ _ _ _ _ _ _=>a
 | _=>{ posonlyargs:=[],args:=[],vararg:=none,kwonlyargs:=[],kw_defaults:=[],kwarg:=none,defaults:=[] }
def Xd(s:Stmt):List Stmt:=match s with
 | .FunctionDef _ _ b _ _ _ _ _ _ _=>b
 | _=>[]
def Qj(s:Stmt):Scope:=match s with
 | .FunctionDef _ _ _ _ _ _ sc _ _ _=>sc
 | _=>{ kind:=.function,names:=[],isGenerator:=false,isCoroutine:=false }
abbrev CX0:CXT:=fun _ _ _ _ _ _=>False
abbrev E0:XK:=fun _ _ _=>False
theorem Yob{X:Cx}:ZUa CX0 X E0:=fun _ _ _ _ _ _ _ h=>h.elim
structure Fun(K:W.Frag)(x qual:Str)(st:Stmt)(f:Addr)(fd:FuncData):Prop where
 ex:∃ (oc:Value) (od:Option Addr) (kV doc pm:Value) (an:Option Addr) (cdv ct:Value) (osl:Array (Option Value)),
  fd=W.fnOf x qual (Zqa st) (Xd st) (Qj st) .none kV doc pm an cdv ct/\K.lookup f=some ⟨oc,od,.func fd,osl⟩/\W.codeIn K cdv qual=true
 kp:W.keepIn K (.ref f)=true
section
variable{P:Program}{w:World}{K:W.Frag}{mg:Str->Option Value}{base:Heap}
theorem Fun.ok{x qual:Str}{st:Stmt}{f:Addr}{fd:FuncData}{N ps:List Str}{k:Nat}{sp:Sp}(F:Fun K x qual st f fd)(S:Qq N ps (Qj st))(len:∀ vs H Q E,sp vs H Q E->vs.length=ps.length)
 (hbody:∀ (cdv:Value) (A:Around) (outer:List Env) (s:Shared) (H:Hp) (vs:List V) (Q:VK) (E:XK),Zq k (A.deeper (envOfC qual (Qj st) s.heap.objs.size f cdv))->sp vs H Q E ->
  ∃ t,PSs (Zna CX0 P w K mg base N qual (Qj st) f cdv A outer s H E).nox (Xd st) t/\t { nx:=fun _ H'=>Q .non H',rt:=Q } (Zma N vs) H):QF P w K mg base CX0 (k+1) f fd ps sp:=by
 obtain⟨oc,od,kV,doc,pm,an,cdv,ct,osl,rfl,lk,hcd⟩:=F.ex;refine J1c lk hcd S len fun A outer s H vs Q E hr hsp=>?_
 obtain⟨t,h,q⟩:=hbody cdv A outer s H vs Q E hr hsp;exact⟨t,h.nox,q⟩
theorem Fun.binds{x qual:Str}{st:Stmt}{f:Addr}{fd:FuncData}{ps:List Str}(F:Fun K x qual st f fd)
 (h:∀ (kV doc pm:Value) (an:Option Addr) (cdv ct:Value) (us:List Value),us.length=ps.length->bindArgs (W.fnOf x qual (Zqa st) (Xd st) (Qj st) .none kV doc pm an cdv ct) ⟨us,[]⟩=pure (ps.zip us)):Jj K fd ps []:=by
 obtain⟨oc,od,kV,doc,pm,an,cdv,ct,osl,rfl,lk,hcd⟩:=F.ex;exact .all (h kV doc pm an cdv ct)
theorem YKc{x qual:Str}{st:Stmt}{f:Addr}{oc:Value}{od an:Option Addr}{osl:Array (Option Value)}{kV doc pm cdv ct:Value}(l:K.lookup f=some ⟨oc,od,.func (W.fnOf x qual (Zqa st) (Xd st) (Qj st) .none kV doc pm an cdv ct),osl⟩)
 (c:W.codeIn K cdv qual=true) (k:W.keepIn K (.ref f)=true):Fun K x qual st f (W.fnOf x qual (Zqa st) (Xd st) (Qj st) .none kV doc pm an cdv ct):=⟨⟨oc,od,kV,doc,pm,an,cdv,ct,osl,rfl,l,c⟩,k⟩
end
theorem QO{n:Nat}(h:n<=1000):n < sizeLine:=Nat.lt_of_le_of_lt h (by decide)
section
variable{X:Cx}
theorem pv(i:Nat){x:Str}{pos:Pos}(hN:X.N[i]?=some x:=by rfl)(hv:Vis X.env.scope x:=by first | exact Or.inl rfl | exact Or.inr (Or.inl rfl) | exact Or.inr (Or.inr rfl))(hd:(x == ("__debug__":Str))=false:=by decide)
 (hcd:(x == ("__classdict__":Str))=false:=by decide):PE X (.Name x pos) (Xa i):=Yvc hN hv hd hcd
end
theorem XQc{A B:Prop}(h:A):if true=true then A else B:=by
 rw[if_pos rfl];exact h
theorem Zg{c A B:Prop}[Decidable c](h1:c->A)(h2:¬ c->B):if c then A else B:=by
 by_cases h:c
 ·rw[if_pos h]
  exact h1 h
 ·rw[if_neg h]
  exact h2 h
def Qp(H H':Hp):Prop:=∀ b o,H b=some o->H' b=some o
theorem Qp.refl(H:Hp):Qp H H:=fun _ _ h=>h
theorem Qp.trans{H H1 H2:Hp}(a:Qp H H1)(b:Qp H1 H2):Qp H H2:=fun c o h=>b c o (a c o h)
theorem Qp.seq{K:W.Frag}{H H':Hp}{a:Addr}{xs:List V}(e:Qp H H')(h:SqL K H a xs):SqL K H' a xs:=by
 rcases h with (h | ⟨o,h⟩) | h
 ·exact .inl (.inl (e _ _ h))
 ·exact .inl (.inr ⟨o,e _ _ h⟩)
 ·exact .inr h
section
variable(P:Program)(w:World)
end
section
variable{P:Program}{w:World}{H H':Hp}{h h':Heap}{a:Addr}{o:HO}
end
section
variable{P:Program}{w:World}{H:Hp}{h h':Heap}{x e:Addr}{o':HO}
end
section
variable{fs fs' ex ex':List Addr}{H H1 H2:Hp}{h h1 h2 h':Heap}{a x e:Addr}{o:HO}
end
section
variable{X:Cx}{pins:YP_}{σ:List (Option V)}{H H':Hp}{s:Shared}{h':Heap}
end
section
variable{X:Cx}
variable{a b:Expr}{ta tb:TE}{pos:Pos}
variable{tA tB':TT}{rest:List Expr}
end
section
variable{X:Cx}{pins:YP_}{σ:St}{H:Hp}{s:Shared}{a:Addr}{xs ys:List V}
end
section
variable{X:Cx}{pins:YP_}{σ:St}{H:Hp}{s:Shared}{E:YQ_}
end
section
variable{X:Cx}{st:Stmt}{rest:List Stmt}{t u:TS}{e:Expr}{te:TE}{pos:Pos}
end
section
variable{X:Cx}{pos:Pos}
end
section
variable{X:Cx}{pos:Pos}
end
section
variable{X:Cx}{tg:Expr}
end
section
variable{X:Cx}{a b c:Expr}{ta tb tc:TE}{pos:Pos}
end
section
variable{X:Cx}{a b c:Expr}{ta tb tc:TE}{pos:Pos}
end
section
variable{prog:Program}{w:World}{A:Around}{E:YQ_}{s:Shared}{K:W.Frag}{x dx C f:Addr}{mA:Str->Option Value}{name:Str}{v:Value}
end
section
variable{P:Program}{w:World}{H H':Hp}{h h':Heap}{a C dx:Addr}{fs fs':List (Str×V)}
end
section
variable{X:Cx}{pins:YP_}{σ:St}{H:Hp}{s:Shared}{a C dx:Addr}{fs:List (Str×V)}{f:Str}{v:V}{A:Around}{E:YQ_}
end
section
variable{X:Cx}{o e value:Expr}{f:Str}{pos pos' tpos:Pos}{ta tv:TE}
end
section
variable{X:Cx}{pins:YP_}{σ:St}{H:Hp}{s:Shared}{A:Around}{E:YQ_}{Q:YQ_}{c:Value}{b:Bool}
end
section
variable{X:Cx}{e:Expr}{es:List Expr}{te:TE}{t:TA}{pos:Pos}
end
section
variable{X:Cx}{pins:YP_}{σ:St}{H:Hp}{s s':Shared}
end
section
variable{X:Cx}{CX:CXT}{k:Nat}{f C:Addr}{fd:FuncData}{ps:List Str}{sp:Sp}{dvs:List V}{ds:List Value}{E:XK}{x m:Str}{p pos apos:Pos}{e o:Expr}{es:List Expr}{ta:TE}{t:TA}
end
section
variable{X:Cx}{CX:CXT}{k:Nat}{f C:Addr}{fd:FuncData}{ps ks:List Str}{sp:Sp}{E:XK}{x m:Str}{p pos apos kpos:Pos}{e o:Expr}{es:List Expr}{kws:List Keyword}{te ta:TE}{t tk:TA}{nm:Option Str}
variable{g:List Value->List Value->List Value}{gV:List V->List V->List V}
end
section
variable{X:Cx}{x:Str}{p pos:Pos}{e:Expr}{es:List Expr}{t:TA}{id T:String}{r:List V->Hp->VK->Prop}
end
section
variable{κ:Type}[DecidableEq κ]
def ZI(kvs:List (κ×V))(k:κ):Option V:=(kvs.find? fun kv=>decide (kv.1=k)).map (·.2)
def ZX(kvs:List (κ×V))(k:κ)(v:V):List (κ×V) :=
 if (kvs.any fun kv=>decide (kv.1=k))=true then kvs.map (fun kv=>if kv.1=k then (kv.1,v) else kv) else kvs++[(k,v)]
def XZ(kvs:List (κ×V))(k:κ):List (κ×V):=kvs.filter fun kv=>decide (kv.1≠k)
theorem ZC{p:κ×V}{r:List (κ×V)}{k:κ}(e:p.1=k):ZI (p::r) k=some p.2:=by simp[ZI,find?_cons,e]
theorem ZD{p:κ×V}{r:List (κ×V)}{k:κ}(e:¬ p.1=k):ZI (p::r) k=ZI r k:=by simp[ZI,find?_cons,e]
theorem YW(k:κ):∀ kvs:List (κ×V),(kvs.any fun kv=>decide (kv.1=k))=(ZI kvs k).isSome
 | []=>rfl
 | p::r=>by
  rw[any_cons]
  by_cases e:p.1=k
  ·simp only[ZC e,decide_eq_true e,Bool.true_or,Option.isSome_some]
  ·rw[ZD e,decide_eq_false e,Bool.false_or];exact YW k r
theorem Q3b(k j:κ)(y:V):∀ kvs:List (κ×V),ZI (kvs.map fun kv=>if kv.1=k then (kv.1,y) else kv) j=(ZI kvs j).map fun x=>if j=k then y else x
 | []=>rfl
 | p::r=>by
  have ih:=Q3b k j y r;rw[map_cons]
  by_cases h:p.1=k
  ·rw[if_pos h]
   by_cases e:p.1=j
   ·rw[ZC (p:=(p.1,y)) e,ZC e,Option.map_some,if_pos (e.symm.trans h)]
   ·rw[ZD (p:=(p.1,y)) e,ZD e,ih]
  ·rw[if_neg h]
   by_cases e:p.1=j
   ·rw[ZC (p:=p) e,ZC e,Option.map_some,if_neg (fun z=>h (e.trans z))]
   ·rw[ZD (p:=p) e,ZD e,ih]
theorem Xna(k j:κ)(y:V):∀ kvs:List (κ×V),ZI kvs k=none->ZI (kvs++[(k,y)]) j=if j=k then some y else ZI kvs j
 | [],_=>by
  by_cases e:k=j
  ·rw[if_pos e.symm];exact ZC (p:=(k,y)) e
  ·rw[if_neg (fun z=>e z.symm)];exact ZD (p:=(k,y)) e
 | p::r,hn=>by
  rw[cons_append];have hk:¬ p.1=k:=fun z=>by rw[ZC z]at hn;cases hn
  rw[ZD hk]at hn;have ih:=Xna k j y r hn
  by_cases e:p.1=j
  ·rw[ZC e,ZC e,if_neg (fun z=>hk (e.trans z))]
  ·rw[ZD e,ZD e,ih]
theorem Qbc(kvs:List (κ×V))(k j:κ)(y:V):ZI (ZX kvs k y) j=if j=k then some y else ZI kvs j:=by
 unfold ZX
 by_cases a:(kvs.any fun kv=>decide (kv.1=k))=true
 ·rw[if_pos a,Q3b]
  rw[YW]at a
  by_cases e:j=k
  ·obtain⟨x,hx⟩:=Option.isSome_iff_exists.mp a
   rw[if_pos e,e,hx,Option.map_some,if_pos rfl]
  ·rw[if_neg e]
   cases ZI kvs j with
   | none=>rfl
   | some x=>rw[Option.map_some,if_neg e]
 ·rw[if_neg a]
  refine Xna k j y kvs ?_
  rw[YW]at a;cases q:ZI kvs k with
  | none=>rfl
  | some x=>rw[q]at a;exact(a rfl).elim
theorem JE(kvs:List (κ×V))(k:κ)(v:V):(ZX kvs k v).length<=kvs.length+1:=by
 unfold ZX
 split
 ·rw[Vr];omega
 ·rw[Vs,length_cons,length_nil];omega
theorem Q4b{kvs:List (κ×V)}{k:κ}(v:V)(h:ZI kvs k=none):ZX kvs k v=kvs++[(k,v)]:=by
 unfold ZX;rw[YW,h];exact if_neg (by decide)
theorem Yq.isSome_eq{o:Option V}{u:Option Value}(r:Yq o u):o.isSome=u.isSome:=by
 cases o with
 | none=>cases u with
  | none=>rfl
  | some _=>exact(show False from r).elim
 | some _=>cases u with
  | none=>exact(show False from r).elim
  | some _=>rfl
theorem KV.val{kvs:List (κ×V)}{vs:List (κ×Value)}(r:KV kvs vs)(k:κ):Yq (ZI kvs k) (valueAt vs k):=by
 unfold KV at r
 induction r with
 | nil=>exact True.intro
 | @cons p q ps qs h t ih =>
  obtain⟨h1,h2⟩:=h
  by_cases e:p.1=k
  ·have e':q.1=k:=h1.symm.trans e
   have b:valueAt (q::qs) k=some q.2:=by simp[valueAt,find?_cons,e']
   rw[ZC e,b];exact h2
  ·have e':¬ q.1=k:=fun z=>e (h1.trans z)
   have b:valueAt (q::qs) k=valueAt qs k:=by simp[valueAt,find?_cons,e']
   rw[ZD e,b];exact ih
theorem KV.any{kvs:List (κ×V)}{vs:List (κ×Value)}(r:KV kvs vs)(k:κ):(kvs.any fun kv=>decide (kv.1=k))=vs.any fun kv=>decide (kv.1=k):=by
 unfold KV at r
 induction r with
 | nil=>rfl
 | cons h t ih=>rw[any_cons,any_cons,ih,h.1]
theorem KV.repl{kvs:List (κ×V)}{vs:List (κ×Value)}(r:KV kvs vs)(k:κ){y:V}{u:Value}(ry:QB y u) :
 KV (kvs.map fun kv=>if kv.1=k then (kv.1,y) else kv) (vs.map fun kv=>if kv.1=k then (kv.1,u) else kv):=by
 unfold KV at r ⊢
 induction r with
 | nil=>exact .nil
 | @cons p q ps qs h t ih =>
  rw[map_cons,map_cons];refine .cons ?_ ih
  obtain⟨h1,h2⟩:=h
  by_cases e:p.1=k
  ·rw[if_pos e,if_pos (h1.symm.trans e)];exact⟨h1,ry⟩
  ·rw[if_neg e,if_neg (fun z=>e (h1.trans z))];exact⟨h1,h2⟩
theorem KV.put{kvs:List (κ×V)}{vs:List (κ×Value)}(r:KV kvs vs)(k:κ){y:V}{u:Value}(ry:QB y u):KV (ZX kvs k y) (stored vs k u):=by
 unfold ZX stored;rw[r.any k]
 by_cases e:(vs.any fun kv=>decide (kv.1=k))=true
 ·rw[if_pos e,if_pos e];exact r.repl k ry
 ·rw[if_neg e,if_neg e];exact Paired.snoc r ⟨rfl,ry⟩
theorem KV.drop{kvs:List (κ×V)}{vs:List (κ×Value)}(r:KV kvs vs)(k:κ):KV (XZ kvs k) (without vs k):=by
 unfold KV at r ⊢;unfold XZ without
 induction r with
 | nil=>exact .nil
 | @cons p q ps qs h t ih =>
  obtain⟨h1,h2⟩:=h;rw[filter_cons,filter_cons]
  by_cases e:p.1=k
  ·have a:¬ decide (p.1≠k)=true:=by simp[e]
   have b:¬ decide (q.1≠k)=true:=by simp[h1.symm.trans e]
   rw[if_neg a,if_neg b];exact ih
  ·have e':¬ q.1=k:=fun z=>e (h1.trans z)
   have a:decide (p.1≠k)=true:=by simp[e]
   have b:decide (q.1≠k)=true:=by simp[e']
   rw[if_pos a,if_pos b];exact .cons ⟨h1,h2⟩ ih
theorem KV.length{kvs:List (κ×V)}{vs:List (κ×Value)}(r:KV kvs vs):kvs.length=vs.length:=Paired.length r
theorem Q5b(kvs:List (κ×V))(k:κ):(XZ kvs k).length<=kvs.length:=length_filter_le _ _
end
theorem Xoa{P:Program}{w:World}{k:Key}{u:Value}(r:QB (kV k) u):(QM P w).is k u=true:=by
 cases k with
 | inl i=>obtain⟨t,e⟩:=(show ∃ t,u=Value.int i t from r);subst e;exact QTb P w i t
 | inr x=>obtain⟨t,e⟩:=(show ∃ t,u=Value.str x t from r);subst e;exact QUb P w x t
theorem Xpa{P:Program}{w:World}:∀ {ks:List Key} {us:List Value},QE (ks.map kV) us->ItemsAre (QM P w) ks us
 | [],_,r=>by rw[map_nil]at r;cases r;exact .nil
 | k::ks,_,r=>by
  rw[map_cons]at r;cases r with
  | cons h t=>exact .cons (Xoa h) (Xpa t)
abbrev KT(H:Hp):List (List Key×V)->List (List Key×Addr×Value)->Prop:=Paired fun p q=>p.1=q.1/\H q.2.1=some (.tup (p.1.map kV))/\QB p.2 q.2.2
theorem KT.val{H:Hp}{kvs:List (List Key×V)}{xs:List (List Key×Addr×Value)}(r:KT H kvs xs)(k:List Key):Yq (ZI kvs k) ((atKey xs k).map (·.2)):=by
 induction r with
 | nil=>exact True.intro
 | @cons p q ps qs h t ih =>
  obtain⟨h1,_,h2⟩:=h
  by_cases e:p.1=k
  ·have e':q.1=k:=h1.symm.trans e
   have b:atKey (q::qs) k=some q.2:=by simp[atKey,find?_cons,e']
   rw[ZC e,b];exact h2
  ·have e':¬ q.1=k:=fun z=>e (h1.trans z)
   have b:atKey (q::qs) k=atKey qs k:=by simp[atKey,find?_cons,e']
   rw[ZD e,b];exact ih
theorem KT.repl{H:Hp}{kvs:List (List Key×V)}{xs:List (List Key×Addr×Value)}(r:KT H kvs xs)(k:List Key){y:V}{u:Value}(ry:QB y u) :
 KT H (kvs.map fun kv=>if kv.1=k then (kv.1,y) else kv) (xs.map (putAt k u)):=by
 induction r with
 | nil=>exact .nil
 | @cons p q ps qs h t ih =>
  rw[map_cons,map_cons];refine .cons ?_ ih
  obtain⟨h1,h2,h3⟩:=h;unfold putAt
  by_cases e:p.1=k
  ·rw[if_pos e,if_pos (h1.symm.trans e)];exact⟨h1,h2,ry⟩
  ·rw[if_neg e,if_neg (fun z=>e (h1.trans z))];exact⟨h1,h2,h3⟩
theorem KT.put{H:Hp}{kvs:List (List Key×V)}{xs:List (List Key×Addr×Value)}(r:KT H kvs xs)(k:List Key){b:Addr}{y:V}{u:Value}(hb:H b=some (.tup (k.map kV)))(ry:QB y u) :
 KT H (ZX kvs k y) (storedH xs k b u):=by
 have e:(kvs.any fun kv=>decide (kv.1=k))=(atKey xs k).isSome:=by
  rw[YW,(r.val k).isSome_eq,Option.isSome_map]
 unfold ZX storedH;rw[e]
 by_cases q:(atKey xs k).isSome=true
 ·rw[if_pos q,if_pos q];exact r.repl k ry
 ·rw[if_neg q,if_neg q];exact Paired.snoc r ⟨rfl,hb,ry⟩
theorem KT.keeps{H H':Hp}{kvs:List (List Key×V)}{xs:List (List Key×Addr×Value)}(r:KT H kvs xs)(ht:∀ b ys,H b=some (.tup ys)->H' b=some (.tup ys)):KT H' kvs xs :=
 Paired.mapP r fun _ _ z=>⟨z.1,ht _ _ z.2.1,z.2.2⟩
section
variable{P:Program}{w:World}{H:Hp}{h:Heap}{a:Addr}
theorem J3c{u:HO}(ok:HOk P w H h)(e:Rd H a u):QL P w H h a u:=e.ok ok
theorem Zra{kvs:List (Key×V)}(ok:HOk P w H h)(e:Rd H a (.dK kvs)):kvs.length<=sizeLine/\(a == sysModules)=false/\∃ vs,KV kvs vs/\h.DictOf (QM P w) a vs :=
 show QL P w H h a (.dK kvs) from J3c ok e
theorem J4c{kvs:List (Key×V)}(ok:HOk P w H h)(e:H a=some (.dK kvs)):kvs.length<=sizeLine/\(a == sysModules)=false/\∃ vs,KV kvs vs/\h.DictOf (QM P w) a vs:=Zra ok (.inl e)
theorem ZVa{ks:List Key}(ok:HOk P w H h)(e:H a=some (.tup (ks.map kV))):(tupleKind (QM P w)).is h ks a:=by
 obtain⟨_,its,r,o,h1,h2,n,h3⟩:=(show QL P w H h a (.tup (ks.map kV)) from ok a _ e)
 exact⟨o,its.toArray,n,h1,h2,h3,by simpa using Xpa r⟩
theorem Xqa{kvs:List (List Key×V)}(ok:HOk P w H h)(e:Rd H a (.dT kvs)):kvs.length<=sizeLine/\(a == sysModules)=false /\
 ∃ xs,KT H kvs xs/\h.DictOfH (tupleKind (QM P w)) a xs:=by
 obtain⟨z,y,xs,r,o,es,ep,h1,h2,h3,h4,h5⟩:=(show QL P w H h a (.dT kvs) from J3c ok e)
 refine⟨z,y,xs,r,o,es,ep,h1,h2,h3,h4,fun x hx=>?_,h5⟩
 have all:∀ {l:List (List Key×V)} {m:List (List Key×Addr×Value)},KT H l m->∀ x∈m,(tupleKind (QM P w)).is h x.1 x.2.1:=by
  intro l m q
  induction q with
  | nil=>intro x hx;exact nomatch hx
  | @cons p q ps qs hq t ih =>
   intro x hx
   rcases mem_cons.mp hx with e | hx
   ·subst e
    exact ZVa ok (by rw[<- hq.1];exact hq.2.1)
   ·exact ih x hx
 exact all r x hx
theorem XRc{kvs:List (List Key×V)}(ok:HOk P w H h)(e:H a=some (.dT kvs)):kvs.length<=sizeLine/\(a == sysModules)=false /\
 ∃ xs,KT H kvs xs/\h.DictOfH (tupleKind (QM P w)) a xs:=Xqa ok (.inl e)
end
def QZa(H:Hp)(a:Addr)(y:V)(r:Option V):Prop :=
 (∃ kvs k,Rd H a (.dK kvs)/\y=kV k/\r=ZI kvs k)\/∃ kvs k b,Rd H a (.dT kvs)/\y=.ref b/\H b=some (.tup (k.map kV))/\r=ZI kvs k
def XSa(H:Hp)(a:Addr)(y v:V)(H':Hp):Prop :=
 (∃ kvs k,H a=some (.dK kvs)/\y=kV k/\kvs.length < sizeLine/\H'=upd H a (.dK (ZX kvs k v))) \/
 ∃ kvs k b,H a=some (.dT kvs)/\y=.ref b/\H b=some (.tup (k.map kV))/\kvs.length < sizeLine/\H'=upd H a (.dT (ZX kvs k v))
theorem QZa.k{H:Hp}{a:Addr}{kvs:List (Key×V)}{k:Key}(e:H a=some (.dK kvs)):QZa H a (kV k) (ZI kvs k):=.inl ⟨kvs,k,.inl e,rfl,rfl⟩
theorem XSa.k{H:Hp}{a:Addr}{kvs:List (Key×V)}{k:Key}{v:V}(e:H a=some (.dK kvs))(hl:kvs.length < sizeLine):XSa H a (kV k) v (upd H a (.dK (ZX kvs k v))):=.inl ⟨kvs,k,e,rfl,hl,rfl⟩
section
variable{X:Cx}{pins:YP_}{σ:St}{H:Hp}{s:Shared}{a:Addr}{y v:V}{u r:Value}{o:Option V}{A:Around}{E:YQ_}
theorem Inv.big(I:Inv X pins σ H s):sysModules < s.heap.objs.size:=by
 have h:mainGlobals < s.heap.objs.size:=(I.mod.glob.keeps I.bk).lt;exact Nat.lt_trans (by decide) h
theorem Y9b{Q:YQ_}(hu:A.units+1 < cLine)(I:Inv X pins σ H s)(g:QZa H a y (some v))(ry:QB y u)(h:∀ w' s',Inv X pins σ H s'->QB v w'->Q w' s') :
 wpAny (model X.prog X.w) A (getItem (.ref a) u) Q E s:=by
 rcases g with ⟨kvs,k,e,ey,l⟩ | ⟨kvs,k,b,e,ey,eb,l⟩
 ·subst ey
  obtain⟨z,hd,vs,rel,dd⟩:=Zra I.hok e;obtain⟨w',hw,rw'⟩:=Yq.some_of (v:=v) (o:=valueAt vs k) (by rw[l];exact rel.val k)
  exact wpAny_getItem_of (Xoa ry) dd.mapOf hw (h w' _ (I.tok _) rw')
 ·subst ey
  cases (show u=Value.ref b from ry)
  obtain⟨z,hd,xs,rel,dd⟩:=Xqa I.hok e;obtain⟨w',hw,rw'⟩:=Yq.some_of (v:=v) (o:=(atKey xs k).map (·.2)) (by rw[l];exact rel.val k)
  obtain⟨p,hp,hp2⟩:=Option.map_eq_some_iff.mp hw;refine wpAny_getItem_heap (tupleKind_room_in1 hu) (ZVa I.hok eb) dd hp ?_
  rw[hp2];exact h w' _ (I.tok _) rw'
theorem Qqd{Q:YQ_}(hu:A.units+1 < cLine)(I:Inv X pins σ H s)(g:QZa H a y o)(ry:QB y u)(h:∀ s',Inv X pins σ H s'->Q (.bool o.isSome) s') :
 wpAny (model X.prog X.w) A (compareOp .In u (.ref a)) Q E s:=by
 rcases g with ⟨kvs,k,e,ey,l⟩ | ⟨kvs,k,b,e,ey,eb,l⟩
 ·subst ey
  obtain⟨z,hd,vs,rel,dd⟩:=Zra I.hok e;refine wpAny_in_of (Xoa ry) hd dd.mapOf ?_
  rw[<- (rel.val k).isSome_eq,<- l];exact h _ (I.tok _)
 ·subst ey
  cases (show u=Value.ref b from ry)
  obtain⟨z,hd,xs,rel,dd⟩:=Xqa I.hok e;refine wpAny_in_heap (tupleKind_room_in1 hu) (ZVa I.hok eb) hd dd ?_
  have q:=(rel.val k).isSome_eq;rw[Option.isSome_map]at q;rw[<- q,<- l];exact h _ (I.tok _)
theorem Z5c{Q:YQ_}(hu:A.units+1 < cLine)(I:Inv X pins σ H s)(g:QZa H a y o)(ry:QB y u)(h:∀ s',Inv X pins σ H s'->Q (.bool (!o.isSome)) s') :
 wpAny (model X.prog X.w) A (compareOp .NotIn u (.ref a)) Q E s:=by
 rcases g with ⟨kvs,k,e,ey,l⟩ | ⟨kvs,k,b,e,ey,eb,l⟩
 ·subst ey
  obtain⟨z,hd,vs,rel,dd⟩:=Zra I.hok e;refine wpAny_notIn_of (Xoa ry) hd dd.mapOf ?_
  rw[<- (rel.val k).isSome_eq,<- l];exact h _ (I.tok _)
 ·subst ey
  cases (show u=Value.ref b from ry)
  obtain⟨z,hd,xs,rel,dd⟩:=Xqa I.hok e;refine wpAny_notIn_heap (tupleKind_room_in1 hu) (ZVa I.hok eb) hd dd ?_
  have q:=(rel.val k).isSome_eq;rw[Option.isSome_map]at q;rw[<- q,<- l];exact h _ (I.tok _)
theorem JAa{h':Heap}{t':Nat}{ob:HO}(I:Inv X pins σ H s)(mu:Mut (H a))(hs:Heap.SameBut a s.heap h')(he:∃ q,h'.get? a=some q)(new:QL X.prog X.w (upd H a ob) h' a ob) :
 Inv X pins σ (upd H a ob) { s with heap:=h',toks:=t' } :=
 I.write (x:=a) (e:=a) mu (.inl rfl) (fun b q hb z=>(hs.2 b hb).trans z) he new
theorem Qcc{P:Program}{w:World}{H':Hp}{h':Heap}{kvs:List (Key×V)}{vs:List (Key×Value)}(z:kvs.length<=sizeLine)(hd:(a == sysModules)=false)(rel:KV kvs vs)(dd:h'.DictOf (QM P w) a vs) :
 QL P w H' h' a (.dK kvs):=⟨z,hd,vs,rel,dd⟩
theorem Xab{H':Hp}{Q:Unit->Shared->Prop}(hu:A.units+1 < cLine)(I:Inv X pins σ H s)(g:XSa H a y v H')(ry:QB y u)(rv:QB v r)(h:∀ s',Inv X pins σ H' s'->Q () s') :
 wpAny (model X.prog X.w) A (setItem (.ref a) u r) Q E s:=by
 rcases g with ⟨kvs,k,e,ey,l,eH⟩ | ⟨kvs,k,b,e,ey,eb,l,eH⟩
 ·subst ey eH
  obtain⟨z,hd,vs,rel,dd⟩:=J4c I.hok e;have hz:vs.length<=sizeLine:=by rw[<- rel.length];exact z
  have hl:(ZX kvs k v).length<=sizeLine:=by have:=JE kvs k v;omega
  refine wpAny_setItem_pairs (hsz:=hz) (Xoa ry) dd fun h' dd' hs=>h _ ?_
  have he:∃ q,h'.get? a=some q:=let ⟨q,_,_,hq,_⟩:=dd';⟨q,hq⟩
  exact JAa I (by rw[e];exact True.intro) hs he (Qcc hl hd (rel.put k rv) dd')
 ·subst ey eH
  cases (show u=Value.ref b from ry)
  obtain⟨z,hd,xs,rel,dd⟩:=XRc I.hok e;have hz:xs.length<=sizeLine:=by rw[<- Paired.length rel];exact z
  have hl:(ZX kvs k v).length<=sizeLine:=by have:=JE kvs k v;omega
  refine wpAny_setItem_heap (hsz:=hz) (tupleKind_room_in1 hu) (ZVa I.hok eb) dd fun h' dd' hs=>h _ ?_
  obtain⟨q,es,ep,hq,h2,h3,h4,_,h5⟩:=dd';refine JAa I (by rw[e];exact True.intro) hs ⟨q,hq⟩ ⟨hl,hd,_,(rel.put k eb rv).keeps fun c ys ec=>?_,q,es,ep,hq,h2,h3,h4,h5⟩
  rw[Qi (Jf ec e (fun z=>nomatch z))]
  exact ec
end
section
variable{X:Cx}{pins:YP_}{σ:St}{H:Hp}{s:Shared}{a:Addr}{kvs:List (Key×V)}{k:Key}{u:Value}{A:Around}{E:YQ_}
theorem XSc{v:V}{more:List Value}{Q:YQ_}(I:Inv X pins σ H s)(e:H a=some (.dK kvs))(ry:QB (kV k) u)(l:ZI kvs k=some v)(hm:more=[]\/∃ x,more=[x])
 (h:∀ w' s',Inv X pins σ (upd H a (.dK (XZ kvs k))) s'->QB v w'->Q w' s'):wpAny (model X.prog X.w) A (call (.builtin "dict.pop") (.ref a::u::more)) Q E s:=by
 obtain⟨z,hd,vs,rel,dd⟩:=J4c I.hok e;obtain⟨w',hw,rw'⟩:=Yq.some_of (v:=v) (o:=valueAt vs k) (by rw[<- l];exact rel.val k)
 have hp:(keyPart u).isSome=true:=by
  cases k with
  | inl i=>obtain⟨t,q⟩:=(show ∃ t,u=Value.int i t from ry);subst q;rfl
  | inr x=>obtain⟨t,q⟩:=(show ∃ t,u=Value.str x t from ry);subst q;rfl
 have ha:argsOk "dict.pop" ⟨.ref a::u::more,[]⟩:=by
  rcases hm with q | ⟨x,q⟩
  ·subst q;exact F.args_dict_pop_2 _ _
  ·subst q;exact F.args_dict_pop_3 _ _ _
 refine call_meetsIn F.slot_dict_pop dd.typeIs F.entry_dict_pop ha (meets_dict_pop_there (QM X.prog X.w) a (Xoa ry) more hm hp)
  ⟨vs,w',dd,by rw[<- rel.length];exact z,hw,fun h' dd' hs=>h w' _ ?_ rw'⟩
 have he:∃ q,h'.get? a=some q:=let ⟨q,_,_,hq,_⟩:=dd';⟨q,hq⟩
 exact JAa I (by rw[e];exact True.intro) hs he (Qcc (Vj (Q5b kvs k) z) hd (rel.drop k) dd')
theorem XTc{Q:YQ_}(I:Inv X pins σ H s)(e:Rd H a (.dK kvs))(h:∀ t s',Inv X pins σ H s'->Q (.int kvs.length t) s'):wpAny (model X.prog X.w) A (call (.builtin "len") [.ref a]) Q E s:=by
 obtain⟨z,hd,vs,rel,dd⟩:=Zra I.hok e;refine call_len_dict hd dd (by rw[<- rel.length];rw[sizeLine_eq]at z;omega) ?_
 rw[<- rel.length];exact h _ _ (I.tok _)
end
def YLc(i:Expr):Prop:=∀ ov iv,subscripted i false ov iv=operate [ov,iv] (getItem ov iv)
theorem Ypb{prog:Program}{w:World}{A:Around}{E:YQ_}{s:Shared}{env:Env}{value slice:Expr}{pos:Pos}{T id:String}{Q:YQ_}
 (hl:typeLookup (.type T) "__getitem__"=pure (some (.builtin id))) (hs:YLc slice)
 (h:wpAny (model prog w) A (eval value env) (fun o s₁=>wpAny (model prog w) A (eval slice env) (fun i s₂=>s₂.TypeIs o T/\wpAny (model prog w) A (getItem o i) Q E s₂) E s₁) E s) :
 wpAny (model prog w) A (eval (.Subscript value slice pos) env) Q E s:=by
 refine Subscript_ (wpAny_mono h (fun o s₁ h₁=>wpAny_mono h₁ (fun i s₂ h₂=>?_) fun _ _ x=>x) fun _ _ x=>x)
 obtain⟨hT,h₂⟩:=h₂;unfold subscriptTail;refine Va ?_
 rw[getitemInPython_of_ne hT.not_modules];refine Va (wpAny_specialOf hT hl ?_)
 have fin:wpAny (model prog w) A (subscripted slice false o i) (fun r s₃=>wpAny (model prog w) A (letTemporaryGo value o r >>= fun _=>pure r) Q E s₃) E s₂:=by
  rw[hs o i];exact wpAny_operating (wpAny_mono h₂ (fun r s₃ h₃=>Va (wpAny_letTemporaryGo (Vg h₃))) fun _ _ x=>x)
 first
  | exact Vg (Va fin)
  | exact Va (Vg (Va fin))
  | exact Va fin
theorem Q6b{X:Cx}{pins:YP_}{σ:St}{H:Hp}{s:Shared}{a:Addr}{y:V}{o:Option V}(I:Inv X pins σ H s)(g:QZa H a y o):s.TypeIs (.ref a) "dict":=by
 rcases g with ⟨kvs,k,e,_,_⟩ | ⟨kvs,k,b,e,_,_,_⟩
 ·obtain⟨_,_,vs,_,dd⟩:=Zra I.hok e
  exact dd.typeIs
 ·obtain⟨_,_,xs,_,dd⟩:=Xqa I.hok e
  exact dd.typeIs
def J5c(td ty:TE):TE:=fun σ H Q=>td σ H fun x H1=>ty σ H1 fun y H2=>∃ a v,x=.ref a/\QZa H2 a y (some v)/\Q v H2
def XUc(ty td:TE):TE:=fun σ H Q=>ty σ H fun y H1=>td σ H1 fun x H2=>∃ a o,x=.ref a/\QZa H2 a y o/\Q (.bl o.isSome) H2
def Yqb(ty td:TE):TE:=fun σ H Q=>ty σ H fun y H1=>td σ H1 fun x H2=>∃ a o,x=.ref a/\QZa H2 a y o/\Q (.bl (!o.isSome)) H2
def J6c(td ty tv:TE):TS:=fun D σ H=>tv σ H fun v H1=>td σ H1 fun x H2=>ty σ H2 fun y H3=>∃ a H4,x=.ref a/\XSa H3 a y v H4/\D.nx σ H4
section
variable{X:Cx}{o i e value:Expr}{pos pos' tpos:Pos}{td ty tv:TE}
theorem JBa(hu:X.A.units+1 < cLine)(ho:PE X o td)(hi:PE X i ty)(hs:YLc i):PE X (.Subscript o i pos) (J5c td ty):=by
 intro pins s σ H Q I h;refine Ypb F.slot_dict_getitem.lookup hs (thn (ho pins s σ H _ I h) fun u s1 ⟨x,H1,I1,rx,q1⟩=>thn (hi pins s1 σ H1 _ I1 q1) fun iv s2 hZ=>?_)
 obtain⟨y,H2,I2,ry,a,v,ex,g,q2⟩:=hZ;subst ex;obtain rfl:u=Value.ref a:=rx;exact⟨Q6b I2 g,Y9b hu I2 g ry fun w' s3 I3 rw'=>⟨v,H2,I3,rw',q2⟩⟩
theorem YMc(hu:X.A.units+1 < cLine)(hi:PE X i ty)(ho:PE X o td):PC X .In i o (XUc ty td):=by
 intro pins s σ H Q I h;refine thn (hi pins s σ H _ I h) fun iv s1 ⟨y,H1,I1,ry,q1⟩=>thn (ho pins s1 σ H1 _ I1 q1) fun u s2 hZ=>?_
 obtain⟨x,H2,I2,rx,a,ov,ex,g,q2⟩:=hZ;subst ex;obtain rfl:u=Value.ref a:=rx;exact Qqd hu I2 g ry fun s3 I3=>⟨.bl ov.isSome,H2,I3,rfl,q2⟩
theorem Xra(hu:X.A.units+1 < cLine)(hi:PE X i ty)(ho:PE X o td):PC X .NotIn i o (Yqb ty td):=by
 intro pins s σ H Q I h;refine thn (hi pins s σ H _ I h) fun iv s1 ⟨y,H1,I1,ry,q1⟩=>thn (ho pins s1 σ H1 _ I1 q1) fun u s2 hZ=>?_
 obtain⟨x,H2,I2,rx,a,ov,ex,g,q2⟩:=hZ;subst ex;obtain rfl:u=Value.ref a:=rx;exact Z5c hu I2 g ry fun s3 I3=>⟨.bl (!ov.isSome),H2,I3,rfl,q2⟩
theorem JCa(hu:X.A.units+1 < cLine)(ho:PE X o td)(hi:PE X i ty)(hv:PE X value tv)(hs:swapsWith value (some (.Subscript o i pos')) pos.line X.env=pure false) :
 PS X (.Assign [.Subscript o i pos'] value pos) (J6c td ty tv):=by
 intro pins s σ H D I h;refine wpAny_Assign_Subscript (thn (hv pins s σ H _ I h) fun r s1 ⟨v,H1,I1,rv,q1⟩=>thn (ho pins s1 σ H1 _ I1 q1) fun u s2 ⟨x,H2,I2,rx,q2⟩=>thn (hi pins s2 σ H2 _ I2 q2) fun iv s3 hZ=>?_) hs
 obtain⟨y,H3,I3,ry,a,H4,ex,g,q3⟩:=hZ;subst ex;obtain rfl:u=Value.ref a:=rx;exact Xab hu I3 g ry rv fun s4 I4=>⟨σ,H4,I4,q3⟩
end
theorem Qdc{P:Program}{w:World}{H:Hp}(h:Heap)(hb:sysModules < h.objs.size):QL P w H (h.push { cls:=.type "dict",data:=.dict #[] }) h.objs.size (.dK []) :=
 ⟨Vk _,beq_eq_false_iff_ne.mpr (Ne.symm (Nat.ne_of_lt hb)),[],.nil,Heap.DictOf.new h⟩
def Qec:TE:=fun _ H Q=>∀ p,H p=none->Q (.ref p) (upd H p (.dK []))
section
variable{X:Cx}{pos:Pos}
theorem JXa:PE X (.Dict [] [] pos) Qec:=fun pins s σ H Q I h =>
 wpAny_Dict_empty ⟨.ref s.heap.objs.size,_,I.laid (a:=s.heap.objs.size) (o:=.dK []) (t':=s.toks) (fun _ _ q=>Vd _ q) (Ve _) (Qdc s.heap I.big),rfl,h _ (I.hok.fresh (Ve _))⟩
end
def YF(kvs more:List (Key×V)):List (Key×V):=more.foldl (fun acc kv=>ZX acc kv.1 kv.2) kvs
theorem KV.merge:∀ {more:List (Key×V)} {rs:List (Key×Value)} {kvs:List (Key×V)} {vs:List (Key×Value)},KV more rs->KV kvs vs->KV (YF kvs more) (merged vs rs):=by
 intro more rs kvs vs r;unfold KV at r
 induction r generalizing kvs vs with
 | nil=>intro q;exact q
 | @cons p q ps qs h t ih =>
  intro r0;have e:KV (ZX kvs p.1 p.2) (stored vs q.1 q.2):=by
   have:=r0.put p.1 h.2;rw[<- h.1];exact this
  exact ih e
theorem QIa:∀ (more kvs:List (Key×V)),(YF kvs more).length<=kvs.length+more.length
 | [],kvs=>by show kvs.length<=kvs.length+0;omega
 | p::r,kvs=>by
  have h1:=QIa r (ZX kvs p.1 p.2);have h2:=JE kvs p.1 p.2;show(YF (ZX kvs p.1 p.2) r).length<=_;rw[length_cons];omega
structure M1(X:Cx)(o:Expr)(m:Str)(apos:Pos)(e:Expr)(cpos:Pos):Prop where
 base:attributeBase o m X.env (eval o X.env)=eval o X.env
 few:((backTo cpos (starEach [e] X.env)).all (fun x=>!x.1) && (backToKw cpos (keywordEach [] X.env)).all (fun x=>x.1.isSome)
  && decide (([e]:List Expr).length+([]:List Keyword).length+(if ([]:List Keyword).isEmpty then 0 else 1) < 30))=true
 line:(apos.endLine == cpos.line)=true
 trees:backTo cpos (starEach [e] X.env)=[(false,eval e X.env)]
def IsD(H:Hp)(a:Addr):Prop:=(∃ kvs,Rd H a (.dK kvs))\/∃ kvs,Rd H a (.dT kvs)
theorem YNc{X:Cx}{pins:YP_}{σ:St}{H:Hp}{s:Shared}{a:Addr}(I:Inv X pins σ H s)(d:IsD H a) :
 s.TypeIs (.ref a) "dict"/\(∀ b,Value.ref a=.ref b->∃ ob,s.heap.get? b=some ob/\ob.dict=none)/\(a == sysModules)=false:=by
 rcases d with ⟨kvs,e⟩ | ⟨kvs,e⟩
 ·obtain⟨_,hd,vs,_,dd⟩:=Zra I.hok e
  refine⟨dd.typeIs,fun b q=>?_,hd⟩
  cases q;obtain⟨ob,_,_,h1,h2,_⟩:=dd;exact⟨ob,h1,h2.2.1⟩
 ·obtain⟨_,hd,xs,_,dd⟩:=Xqa I.hok e
  refine⟨dd.typeIs,fun b q=>?_,hd⟩
  cases q;obtain⟨ob,_,_,h1,h2,_⟩:=dd;exact⟨ob,h1,h2.2.1⟩
section
variable{X:Cx}{pins:YP_}{σ:St}{H:Hp}{s:Shared}{a:Addr}{y d:V}{u r:Value}{o:Option V}{A:Around}{E:YQ_}
end
def Qfc(td ty:TE):TE:=fun σ H Q=>td σ H fun x H1=>∃ a,x=.ref a/\IsD H1 a/\ty σ H1 fun y H2=>∃ kvs k v,H2 a=some (.dK kvs)/\y=kV k/\ZI kvs k=some v/\Q v (upd H2 a (.dK (XZ kvs k)))
section
variable{X:Cx}{o e f:Expr}{apos cpos:Pos}{td ty tx:TE}
theorem Qgc(ho:PE X o td)(he:PE X e ty)(m:M1 X o "pop" apos e cpos):PE X (.Call (.Attribute o "pop" apos) [e] [] cpos) (Qfc td ty):=by
 intro pins s σ H Q I h;refine wpAny_Call_method m.base m.few m.line F.plainAttrs_dict F.slot_dict_pop F.type_dict_pop (thn (ho pins s σ H _ I h) fun u s1 hZ=>?_)
 obtain⟨x,H1,I1,rx,a,ex,d,q1⟩:=hZ;subst ex;obtain rfl:u=Value.ref a:=rx;obtain⟨t1,t2,_⟩:=YNc I1 d;refine⟨t1,t2,?_⟩
 rw[m.trees];refine Calls.callWith_builtin rfl (Calls.evalArgs_plain (Calls.spliced_cons (thn (he pins s1 σ H1 _ I1 q1) fun iv s2 hZ=>Calls.spliced_nil ?_)))
 obtain⟨y,H2,I2,ry,kvs,k,v,ea,ey,l,q2⟩:=hZ;subst ey;exact XSc I2 ea ry l (.inl rfl) fun w' s3 I3 rw'=>⟨v,_,I3,rw',q2⟩
end
section
variable{X:Cx}{pins:YP_}{σ:St}{H:Hp}{s:Shared}{a:Addr}{kvs:List (Key×V)}{A:Around}{E:YQ_}
end
section
variable{X:Cx}{pins:YP_}{σ:St}{H:Hp}{s:Shared}{a:Addr}{y:V}{u:Value}{A:Around}{E:YQ_}
end
end L2
namespace Att
open PySem PySem.W PySem.Calls PyProof.Rows
section
variable{prog:Program}{w:World}{A:Around}{E:YQ_}{s:Shared}{K:Frag}
end
end Att
namespace L2
open PySem PySem.Spec PyProof.Rows
section
variable{P:Program}{w:World}{K:W.Frag}{mg:Str->Option Value}{base:Heap}
end
section
variable{X:Cx}
theorem Xsa:YV X (.builtin "len") (fun xs H Q=>∃ a kvs,xs=[V.ref a]/\H a=some (.dK kvs)/\Q (.int kvs.length) H):=by
 intro pins s σ H xs us Q I r h;obtain⟨a,kvs,rfl,ha,q⟩:=h;obtain⟨u,rfl,ru⟩:=Zka r;cases ru;exact XTc I (.inl ha) fun t s' I'=>⟨.int kvs.length,H,I',⟨t,rfl⟩,q⟩
end
section
variable{κ:Type}[DecidableEq κ]
end
theorem X3(env:Env):∀ (l:List (Str×NameKind)) (x:Str),
 (l.map fun(n,k)=>if (k == NameKind.free && env.scope.kind == .function && env.kindOf n == some .cell) then (n,NameKind.cell) else (n,k)).lookup x
  = (l.lookup x).map fun k=>if (k == NameKind.free && env.scope.kind == .function && env.kindOf x == some .cell) then NameKind.cell else k
 | [],_=>rfl
 | (n,k)::r,x=>by
  have ih:=X3 env r x;show List.lookup x ((if (k == NameKind.free && env.scope.kind == .function && env.kindOf n == some .cell)=true then (n,NameKind.cell) else (n,k))::_)=_
  cases hx:x == n with
  | true =>
   have e:x=n:=by simpa using hx
   subst e
   by_cases hc:(k == NameKind.free && env.scope.kind == .function && env.kindOf x == some .cell)=true
   ·rw[if_pos hc];simp only[lookup_cons,hx,Option.map_some,hc,if_true]
   ·rw[if_neg hc];simp only[lookup_cons,hx,Option.map_some,if_neg hc]
  | false =>
   by_cases hc:(k == NameKind.free && env.scope.kind == .function && env.kindOf n == some .cell)=true
   ·rw[if_pos hc];simp only[lookup_cons,hx];exact ih
   ·rw[if_neg hc];simp only[lookup_cons,hx];exact ih
theorem Q0a{env:Env}:∀ (l:List (Str×NameKind)) (acc:List (Str×Addr)),(∀ y∈l,y.2=.free->∃ c,env.cells.lookup y.1=some c)->(∀ y c,acc.lookup y=some c->env.cells.lookup y=some c) ->
 ∃ cl,(forIn l acc fun x (cs:List (Str×Addr))=>(if (x.2 == NameKind.free)=true then (do let a <- cellOf env x.1;pure (ForInStep.yield ((x.1,a)::cs))) else pure (ForInStep.yield cs):Sem (ForInStep (List (Str×Addr)))))=pure cl/\(∀ y c,cl.lookup y=some c->env.cells.lookup y=some c)/\(∀ y c,acc.lookup y=some c->∃ c',cl.lookup y=some c') /\
  ∀ y∈l,y.2=.free->∃ c,cl.lookup y.1=some c
 | [],acc,_,h2=>⟨acc,rfl,h2,fun _ c h=>⟨c,h⟩,fun _ h=>nomatch h⟩
 | (n,k)::r,acc,h1,h2=>by
  by_cases hk:k=.free
  ·subst hk
   obtain⟨c,hc⟩:=h1 (n,.free) mem_cons_self rfl;have h2':∀ y c',((n,c)::acc).lookup y=some c'->env.cells.lookup y=some c':=fun y c' h=>by
    rw[lookup_cons]at h;cases hy:y == n with
    | true=>rw[hy]at h;have e:y=n:=by simpa using hy
            subst e;cases h;exact hc
    | false=>rw[hy]at h;exact h2 y c' h
   obtain⟨cl,e,q1,q2,q3⟩:=Q0a r ((n,c)::acc) (fun y hy=>h1 y (Vo _ hy)) h2'
   refine⟨cl,?_,q1,fun y c' h=>?_,fun y hy hf=>?_⟩
   ·rw[forIn_cons]
    simp only[beq_self_eq_true,if_true];unfold cellOf;rw[hc];exact e
   ·cases hy:y == n with
    | true=>exact q2 y c (by rw[lookup_cons,hy])
    | false=>exact q2 y c' (by rw[lookup_cons,hy];exact h)
   ·rcases mem_cons.mp hy with e' | hy
    ·subst e'
     exact q2 n c (by simp[lookup_cons])
    ·exact q3 y hy hf
  ·have hb:(k == NameKind.free)=false:=by simpa using hk
   obtain⟨cl,e,q1,q2,q3⟩:=Q0a r acc (fun y hy=>h1 y (Vo _ hy)) h2
   refine⟨cl,?_,q1,q2,fun y hy hf=>?_⟩
   ·rw[forIn_cons]
    simp only[hb,Bool.false_eq_true,if_false];exact e
   ·rcases mem_cons.mp hy with e' | hy
    ·subst e';exact absurd hf hk
    ·exact q3 y hy hf
theorem JYa(env:Env)(sc:Scope)(h:∀ y∈sc.names,y.2=.free->∃ c,env.cells.lookup y.1=some c) :
 ∃ cl,closureFor sc env=pure cl/\(∀ y c,cl.lookup y=some c->env.cells.lookup y=some c)/\∀ y∈sc.names,y.2=.free->∃ c,cl.lookup y.1=some c:=by
 obtain⟨cl,e,q1,_,q3⟩:=Q0a (env:=env) sc.names [] h (fun y c z=>by simp at z)
 refine⟨cl,?_,q1,q3⟩
 unfold closureFor;rw[<- e];simp only[bind_pure]
def blk(X:Cx)(sc:Scope)(x:Str)(M:List Str)(cl:List (Str×Addr))(C:Addr)(s:Shared)(H:Hp)(fp:List Addr):Cx :=
 { X with N:=x::M,s₀:=s,H₀:=H,env:=compEnvC sc cl C X.env,outer:=X.stack,ex:=fp,fn:=fun _=>false,pn:=[],xe:=fun _ _=>False }
structure Q7b(X:Cx)(sc:Scope)(x:Str)(M:List Str):Prop where
 kind:sc.kind=.function
 nocell:∀ y∈sc.names,y.2≠.cell
 names:∀ y∈sc.names,y.2=.local->sc.names.lookup y.1=some .local
 own:sc.names.lookup x=some .local
 nd:(x::M).Nodup
 len:M.length=X.N.length
 free:∀ y∈sc.names,y.2=.free->X.env.kindOf y.1=some .cell\/X.env.kindOf y.1=some .free
 same:∀ (i:Nat) (y:Str),M[i]?=some y->sc.names.lookup y=some .free->X.N[i]?=some y
 noloc:∀ y∈M,sc.names.lookup y≠some .local
section
variable{X:Cx}
theorem Inv.toBlk{pins:YP_}{σ:St}{H:Hp}{s:Shared}{sc:Scope}{x:Str}{M:List Str}{cl:List (Str×Addr)}{fp:List Addr}{h₁:Heap}{tk:Nat}
 (I:Inv X pins σ H s) (B:Q7b X sc x M) (q1:∀ y c,cl.lookup y=some c->X.env.cells.lookup y=some c) (q3:∀ y∈sc.names,y.2=.free->∃ c,cl.lookup y.1=some c)
 (fpk:∀ b∈fp,QVa X pins H b) (fpl:∀ b∈fp,b < s.heap.objs.size) {m:Str->Option Value} (hn:h₁.Ns s.heap.objs.size m) (keep:∀ b o,s.heap.get? b=some o->h₁.get? b=some o) :
 Inv (blk X sc x M cl s.heap.objs.size s H fp) [] (none::σ) H { s with heap:=h₁,toks:=tk }:=by
 have kindOf':∀ y,(blk X sc x M cl s.heap.objs.size s H fp).env.kindOf y=(sc.names.lookup y).map fun k=>if (k == NameKind.free && X.env.scope.kind == .function && X.env.kindOf y == some .cell) then NameKind.cell else k:=fun y=>X3 X.env sc.names y
 have isfree:∀ y,((blk X sc x M cl s.heap.objs.size s H fp).env.kindOf y=some .cell\/(blk X sc x M cl s.heap.objs.size s H fp).env.kindOf y=some .free)->sc.names.lookup y=some .free:=fun y hy=>by
  rw[kindOf']at hy;cases e:sc.names.lookup y with
  | none=>rw[e]at hy;simp at hy
  | some k =>
   rw[e]at hy
   by_cases hk:k=.free
   ·rw[hk]
   ·exfalso
    have hb:(k == NameKind.free)=false:=by simpa using hk
    simp only[hb,Bool.false_and,Option.map_some,Bool.false_eq_true,if_false,Option.some.injEq]at hy
    rcases hy with z | z
    ·exact B.nocell (y,k) (PySem.mem_of_lookup e) z
    ·exact hk z
 have ncell:∀ y c,X.env.cells.lookup y=some c->c < s.heap.objs.size:=fun y c e=>by
  obtain⟨v,o,ho,_⟩:=I.cell y c e;exact Vh ho
 have below:∀ b∈fp,QVa X pins H b:=fpk;refine⟨⟨I.ok.mod,B.kind,I.ok.glob,I.ok.blt,Ve _,fun y z c h1 h2=>I.ok.inj y z c (q1 y c h1) (q1 z c h2),fun y hy=>q3 _ (PySem.mem_of_lookup (isfree y hy)) rfl,fun y c h _=>absurd (show false=true from h) Vf,I.ok.hd,I.ok.frames,.inl rfl,
  fun b hb=>?_,I.bs,Vj I.ok.bsz I.sz,fun b o e hb=>?_,fun b hb z=>?_,I.stack,I.stkFree⟩,rfl,I.bare,Un.kept keep,⟨_,hn,fun i y v e1 e2 e3=>?_⟩,fun y c h=>?_,I.hok.fresh (Ve _),fun y c h=>I.freeC y c (q1 y c h),fun p hp=>absurd (show p∈([]:YP_) from hp) (by simp),I.hok.kept keep,?_⟩
 ·exact⟨Nat.ne_of_lt (fpl b hb),fun y c h=>(fpk b hb).2.2.2.2.1 y c (q1 y c h)⟩
 ·rcases(fpk b hb).2.2.2.1 with z | z
  ·exact I.ok.noex b o e z
  ·exact absurd (Vt (Vh e) (Vj I.ok.bsz z)) (Vu _)
 ·rcases mem_cons.mp (I.stkSub b z) with e | z
  ·exact(fpk b hb).2.1 e
  ·exact(fpk b hb).2.2.1 z
 ·cases i with
  | zero=>simp at e2
  | succ i =>
   have e1':M[i]?=some y:=e1;have e2':σ[i]?=some (some v):=e2;have hy:sc.names.lookup y=some .free:=by
    rcases e3 with z | z | z
    ·exfalso
     have z':(blk X sc x M cl s.heap.objs.size s H fp).env.kindOf y=some .local:=z;rw[kindOf']at z';cases e:sc.names.lookup y with
     | none=>rw[e]at z';simp at z'
     | some k =>
      rw[e]at z';simp only[Option.map_some,Option.some.injEq]at z'
      split at z'
      ·cases z'
      ·subst z'
       exact B.noloc y (Vm e1') e
    ·exact isfree y (.inl z)
    ·exact isfree y (.inr z)
   have hk:=B.free _ (PySem.mem_of_lookup hy) rfl;obtain⟨m0,hn0,hl⟩:=I.loc;obtain⟨u,r,l⟩:=hl i y v (B.same i y e1' hy) e2' (hk.elim (fun z=>.inr (.inl z)) fun z=>.inr (.inr z))
   refine⟨u,r,.inr ⟨?_,?_⟩⟩
   ·rcases e3 with z | z | z
    ·exfalso
     have z':(blk X sc x M cl s.heap.objs.size s H fp).env.kindOf y=some .local:=z;rw[kindOf',hy]at z';simp only[Option.map_some,Option.some.injEq]at z'
     split at z' <;> cases z'
    ·exact .inl z
    ·exact .inr z
   ·rcases l with ⟨k,_⟩ | ⟨_,c,e,hc⟩
    ·rcases hk with z | z <;> (have z':X.env.kindOf y=_:=z;rw[k]at z';cases z')
    ·obtain⟨c',e'⟩:=q3 _ (PySem.mem_of_lookup hy) rfl
     have e'':=q1 y c' e';rw[e]at e'';cases e'';obtain⟨o,ho,hd⟩:=hc;exact⟨c,e',o,keep c o ho,hd⟩
 ·obtain⟨v,o,ho,hd⟩:=I.cell y c (q1 y c h)
  exact⟨v,o,keep c o ho,hd⟩
 ·show(none::σ).length=(x::M).length
  rw[length_cons,length_cons,I.len,B.len]
end
def QY(X:Cx)(ifs:List Expr)(t:TT):Prop :=
 ∀ (pins:YP_) (s:Shared) (σ:St) (H:Hp) (Q:Bool->Hp->Prop),Inv X pins σ H s->t σ H Q ->
  wpAny (model X.prog X.w) X.A (forIn ifs true fun c r=>if r=true then do let ok <- isTrue c X.env (eval c X.env);pure (ForInStep.yield ok) else pure (ForInStep.yield r)) (TP X pins σ Q) X.xe s
def Q8b:TT:=fun _ H Q=>Q true H
theorem Zsa{X:Cx}:QY X [] Q8b:=fun _ _ _ H _ I h=>wpAny_tests_nil ⟨H,I,h⟩
theorem XTa{X:Cx}{c:Expr}{t:TT}(h:PT X c t):QY X [c] t:=fun pins s σ H Q I q=>wpAny_tests_one (h pins s σ H Q I q)
section
variable{prog:Program}{w:World}{A:Around}{E:YQ_}{R:Result->Shared->Prop}{s:Shared}
theorem Q9b{elt target iter:Expr}{ifs:List Expr}{scope:Scope}{pos:Pos}{it acc:Value}{env:Env}(I:Nat->Shared->Prop)
 (turn:∀ n s,I n s->wpAny (model prog w) A (pyNext it) (fun r s₁=>match r with
  | none=>R (.ok .next) s₁
  | some v=>wpAny (model prog w) A (letOwnedTupleGo target it v) (fun _ s₁=>wpAny (model prog w) A (assign target env v) (fun _ s₂ =>
   wpAny (model prog w) A (forIn ifs true fun c r=>if r=true then do let ok <- isTrue c env (eval c env);pure (ForInStep.yield ok) else pure (ForInStep.yield r)) (fun ok s₃ =>
    if ok=true then wpAny (model prog w) A (eval elt env) (fun x s₄ =>
     wpAny (model prog w) A (call (.builtin "list.append") [acc,x]) (fun _ s₅=>∃ m,m < n/\I m s₅) (fun _ _=>False) s₄) (fun _ _=>False) s₃
    else ∃ m,m < n/\I m s₃) (fun _ _=>False) s₂) (fun _ _=>False) s₁) (fun _ _=>False) s₁) (fun _ _=>False) s)
 (n:Nat) (h:I n s) :
 codeAny (model prog w) A (.compLoop (.ListComp elt [⟨target,iter,ifs,0⟩] scope pos) 0 it acc env) R s:=by
 refine codeAny_loop rfl I (fun n s hI=>?_) n h
 show wpAny _ A ((compTurn (.ListComp elt [⟨target,iter,ifs,0⟩] scope pos) 0 it acc env).onRaise (fun x=>do noteFrame x env;theTreesLotGoes x)) _ _ s
 refine wpAny_noted ?_
 rw[compTurn_list];refine Va (wpAny_standAt (Va (wpAny_mono (turn n s hI) (fun r s₁ h₁=>?_) fun _ _ h'=>h'.elim)))
 cases r with
 | none=>exact Vg h₁
 | some v =>
  refine Va (wpAny_mono h₁ (fun _ s₁ h₁=>?_) fun _ _ h'=>h'.elim)
  refine Va (wpAny_mono h₁ (fun _ s₂ h₂=>Va (wpAny_mono h₂ (fun ok s₃ h₃=>?_) fun _ _ h'=>h'.elim)) fun _ _ h'=>h'.elim)
  cases ok with
  | false=>exact Vg ⟨rfl,h₃⟩
  | true =>
   exact Va (Va (wpAny_mono h₃ (fun x s₄ h₄=>Va (wpAny_mono h₄ (fun _ s₅ h₅=>Vg (Vg ⟨rfl,h₅⟩)) fun _ _ h'=>h'.elim)) fun _ _ h'=>h'.elim))
end
def tLc(wi:TI)(tt:TT)(te:TE):TE:=fun σ H Q=>wi σ H fun J H1=>∀ D,H1 D=none->∃ W:Nat->Nat->List V->Hp->Prop,(∃ m,W 0 m [] (upd H1 D (.lst [])))/\∀ i m ys H,W i m ys H ->
 H D=some (.lst ys)/\((J.stop i H/\Q (.ref D) H)\/(J.go i H/\ys.length < sizeLine/\∀ x H',J.yld i H x H'->tt (some x::σ) H' fun b H2=>if b=true then te (some x::σ) H2 fun v H3 =>
  H3 D=some (.lst ys)/\∃ m',m' < m/\W (i+1) m' (ys++[v]) (upd H3 D (.lst (ys++[v]))) else ∃ m',m' < m/\W (i+1) m' ys H2))
section
variable{X:Cx}
theorem JZa{sc:Scope}{x:Str}{px pos:Pos}{iter elt:Expr}{ifs:List Expr}{M:List Str}{wi:TI}{tt:TT}{te:TE}{cl:List (Str×Addr)}{RR:Value->Addr->Result->Shared->Prop}{pins:YP_}{s:Shared}{σ:St}{H:Hp}{Q:VK}
 (hc:X.calm=true) (B:Q7b X sc x M) (hi:PI X (.Name x px) iter wi) (ht:∀ C s H fp,QY (blk X sc x M cl C s H fp) ifs tt) (he:∀ C s H fp,PE (blk X sc x M cl C s H fp) elt te)
 (q1:∀ y c,cl.lookup y=some c->X.env.cells.lookup y=some c) (q3:∀ y∈sc.names,y.2=.free->∃ c,cl.lookup y.1=some c)
 (I:Inv X pins σ H s) (h:tLc wi tt te σ H Q)
 (hRR:∀ (D C:Addr) (s':Shared) (m:Str->Option Value) (H':Hp),Inv X pins σ H' s'->s'.heap.Ns C m->QVa X pins H' C->Q (.ref D) H'->RR (.ref D) C (.ok .next) s') :
 wpAny (model X.prog X.w) X.A (eval iter X.env) (fun xv s₁=>wpAny (model X.prog X.w) X.A (pyIter xv) (fun it s₂=>wpAny (model X.prog X.w) X.A (newList []) (fun acc s₃ =>
  wpAny (model X.prog X.w) X.A (newFunctionEnv sc X.env.globals cl [] X.env.qual none .none (some X.env)) (fun cenv s₄ =>
   codeAny (model X.prog X.w) X.A (.compStart (.ListComp elt [⟨.Name x px,iter,ifs,0⟩] sc pos) 0 it acc { cenv with scope:=relabel sc X.env }) (RR acc cenv.locals) s₄) X.xe s₃) X.xe s₂) X.xe s₁) X.xe s:=by
 refine thn (hi pins s σ H _ I h) fun v s1 h1=>thn h1 fun itv s2 h2=>?_
 obtain⟨it,fp,tn,J,H2,rfl,I2,T,st2,f2,q2⟩:=h2;refine wpAny_newObj_type (wpAny_newFunctionEnv B.nocell (by intro y hy;simp at hy) (fun h₁ hns₁ hsb₁=>?_) B.kind)
 dsimp only at hns₁ hsb₁ ⊢;obtain⟨W,⟨m0,w0⟩,turn⟩:=q2 s2.heap.objs.size I2.fresh;have I3:Inv X pins σ (upd H2 s2.heap.objs.size (.lst [])) { s2 with heap:=s2.heap.push { cls:=.type "list",data:=.seq ([]:List Value).toArray },toks:=s2.toks }:=I2.lnew .nil (Vk _)
 generalize hs3:({ s2 with heap:=s2.heap.push { cls:=.type "list",data:=.seq ([]:List Value).toArray },toks:=s2.toks }:Shared)=s3 at I3
 have eh:s2.heap.push { cls:=.type "list",dict:=none,data:=.seq ([]:List Value).toArray }=s3.heap:=by rw[<- hs3]
 have fpl:∀ b∈fp,b < s2.heap.objs.size:=fun b hb=>by
  obtain⟨o,e,_⟩:=T.obj _ _ st2 b hb;exact Vh e
 have sz:s3.heap.objs.size=s2.heap.objs.size+1:=by rw[<- eh,Heap.size_push]
 have fpl3:∀ b∈fp,b < s3.heap.objs.size:=fun b hb=>by rw[sz];exact Nat.lt_succ_of_lt (fpl b hb)
 have fp3:∀ b∈fp,QVa X pins (upd H2 s2.heap.objs.size (.lst [])) b:=fun b hb=>⟨by rw[Qi (Nat.ne_of_lt (fpl b hb))];exact(f2 b hb).1,(f2 b hb).2⟩
 rw[eh]at hns₁ hsb₁ ⊢;have keep:∀ b o,s3.heap.get? b=some o->h₁.get? b=some o:=fun b o e=>hsb₁.extBut b o (Nat.ne_of_lt (Vh e)) (Vd _ e)
 have IB:=I3.toBlk (tk:=s2.toks+([]:List (Str×Value)).length) B q1 q3 fp3 fpl3 hns₁ keep;have st4:tn 0 h₁:=T.keep _ _ _ st2 fun b hb o e=>keep b o (by rw[<- eh];exact Vd _ e)
 have es:({ s3 with heap:=h₁,toks:=s2.toks+([]:List (Str×Value)).length }:Shared)={ s2 with heap:=h₁,toks:=s2.toks+([]:List (Str×Value)).length }:=by rw[<- hs3]
 rw[es]at IB;have hx':(blk X sc x M cl s3.heap.objs.size s3 (upd H2 s2.heap.objs.size (.lst [])) fp).env.scope.names.lookup x=some .local:=lookup_relabel_local B.own;have hg:PG (blk X sc x M cl s3.heap.objs.size s3 (upd H2 s2.heap.objs.size (.lst [])) fp) (.Name x px) (Yeb 0):=Q7 B.nd rfl (.inl hx') (.inr hx');have he':=he s3.heap.objs.size s3 (upd H2 s2.heap.objs.size (.lst [])) fp;have ht':=ht s3.heap.objs.size s3 (upd H2 s2.heap.objs.size (.lst [])) fp;have loop:∀ s₄:Shared,s₄={ s2 with heap:=h₁,toks:=s2.toks+([]:List (Str×Value)).length } ->
  codeAny (model X.prog X.w) X.A (.compLoop (.ListComp elt [⟨.Name x px,iter,ifs,0⟩] sc pos) 0 (.ref it) (.ref s2.heap.objs.size) (compEnvC sc cl s3.heap.objs.size X.env)) (RR (.ref s2.heap.objs.size) s3.heap.objs.size) s₄:=by
  rintro s₄ rfl;refine Q9b (fun n s'=>∃ i ys o H',Inv (blk X sc x M cl s3.heap.objs.size s3 (upd H2 s2.heap.objs.size (.lst [])) fp) [] (o::σ) H' s'/\tn i s'.heap/\(∀ b∈fp,H' b=none)/\W i n ys H') ?_ m0
   ⟨0,[],none,_,IB,st4,fun b hb=>(fp3 b hb).1,w0⟩
  rintro n s' ⟨i,ys,o,H',I',st',fr',w'⟩;have fpB:∀ {H':Hp} {pl:YP_},(∀ b∈fp,H' b=none)->∀ b∈fp,QVa (blk X sc x M cl s3.heap.objs.size s3 (upd H2 s2.heap.objs.size (.lst [])) fp) [] H' b:=fun {H' pl} hn b hb =>
   ⟨hn b hb,Nat.ne_of_lt (fpl3 b hb),fun z=>I'.ok.exfs b hb z,.inl hb,fun y c hy=>(fp3 b hb).2.2.2.2.1 y c (q1 y c hy),fun p hp=>absurd (show p∈([]:YP_) from hp) (by simp)⟩
  obtain⟨hD,⟨stop,q⟩ | ⟨go,hlen,step⟩⟩:=turn i n ys H' w'
  ·refine wpAny_mono (T.done (blk X sc x M cl s3.heap.objs.size s3 (upd H2 s2.heap.objs.size (.lst [])) fp) rfl rfl rfl hc i [] s' (o::σ) H' (fun _ _=>False) I' (fpB (pl:=[]) fr') st' stop) (fun r s4 hZ=>?_) fun _ _ f=>f.elim
   obtain⟨hr,I4⟩:=hZ;subst hr;obtain⟨m,hn,_⟩:=I4.loc;refine hRR _ _ s4 m H' (I3.call' (ch:=fp) I4.os I4.base I4.hok I4.bare fun b hb=>⟨(fp3 b hb).2.2.2.1,(fp3 b hb).2.1,(fp3 b hb).2.2.2.2.1,(fp3 b hb).2.2.2.2.2⟩) hn (I3.fpOk (Ve _) I4.free) q
  ·refine wpAny_mono (T.item (blk X sc x M cl s3.heap.objs.size s3 (upd H2 s2.heap.objs.size (.lst [])) fp) rfl rfl rfl hc i [] s' (o::σ) H' (fun _ _=>False) I' (fpB (pl:=[]) fr') st' go) (fun r s4 hZ=>?_) fun _ _ f=>f.elim
   obtain⟨u,hr,h4⟩:=hZ;subst hr;refine wpAny_mono h4 (fun _ s5 hZ=>?_) fun _ _ f=>f.elim
   obtain⟨y,H5,I5,r5,y5,st5,fr5⟩:=hZ;have I5':=I5.pinned (fpB (pl:=[]) fr5) (T.obj _ _ st5);refine wpAny_mono (hg _ s5 (o::σ) H5 y u (fun σ' H'=>σ'=some y::σ/\H'=H5) I5' r5 ⟨rfl,rfl⟩) (fun _ s6 hZ=>?_) fun _ _ f=>f.elim
   obtain⟨σ6,H6,I6,e6,e6'⟩:=hZ;subst e6 e6';have again:∀ {H7:Hp} {s7:Shared} {zs:List V} {m':Nat},Inv (blk X sc x M cl s3.heap.objs.size s3 (upd H2 s2.heap.objs.size (.lst [])) fp) ([]++JRa fp s5.heap) (some y::σ) H7 s7->m' < n->W (i+1) m' zs H7 ->
    ∃ m,m < n/\∃ i ys o H',Inv (blk X sc x M cl s3.heap.objs.size s3 (upd H2 s2.heap.objs.size (.lst [])) fp) [] (o::σ) H' s7/\tn i s7.heap/\(∀ b∈fp,H' b=none)/\W i m ys H':=fun {H7 s7 zs m'} I7 hm w7=>by
    refine⟨m',hm,i+1,zs,some y,H7,I7.unpinned,T.keep _ _ _ st5 fun b hb o e=>(I7.pin (b,o) (Vp _ (Vp _ (Xc hb e)))).1,fun b hb=>?_,w7⟩
    obtain⟨o,e,d⟩:=T.obj _ _ st5 b hb;exact(I7.pin (b,o) (Vp _ (Vp _ (Xc hb e)))).2.1
   refine wpAny_mono (ht' _ s6 (some y::σ) H6 _ I6 (step y H6 y5)) (fun b s7 hZ=>?_) fun _ _ f=>f.elim
   obtain⟨H7,I7,q7⟩:=hZ;cases b with
   | false =>
    rw[if_neg Vf]at q7 ⊢;obtain⟨m',hm,w7⟩:=q7;exact again I7 hm w7
   | true =>
    rw[if_pos rfl]at q7 ⊢;refine wpAny_mono (he' _ s7 (some y::σ) H7 _ I7 q7) (fun u8 s8 hZ=>?_) fun _ _ f=>f.elim
    obtain⟨v8,H8,I8,r8,hD8,m',hm,w8⟩:=hZ;refine wpAny_mono (Ja (X:=blk X sc x M cl s3.heap.objs.size s3 (upd H2 s2.heap.objs.size (.lst [])) fp) _ s8 (some y::σ) H8 (.ref s2.heap.objs.size) [v8] (.ref s2.heap.objs.size) [u8] (fun _ H9=>H9=upd H8 s2.heap.objs.size (.lst (ys++[v8]))) I8 rfl (.cons r8 .nil) ⟨_,ys,v8,rfl,rfl,hD8,hlen,rfl⟩) (fun _ s9 hZ=>?_) fun _ _ f=>f.elim
    obtain⟨_,H9,I9,_,e9⟩:=hZ;subst e9;exact again I9 hm w8
 exact codeAny_compStart_list (loop _ rfl) (T.self X.A 0 _ _ _ st4 (loop _ rfl))
theorem YX{sc:Scope}{x:Str}{px pos:Pos}{iter elt:Expr}{ifs:List Expr}(M:List Str){wi:TI}{tt:TT}{te:TE}(hc:X.calm=true)(B:Q7b X sc x M)(hi:PI X (.Name x px) iter wi)
 (ht:∀ cl C s H fp,QY (blk X sc x M cl C s H fp) ifs tt) (he:∀ cl C s H fp,PE (blk X sc x M cl C s H fp) elt te) (hs:∀ x,foldedSetIterable iter X.env x=pure x:=by intro _;rfl) :
 PE X (.ListComp elt [⟨.Name x px,iter,ifs,0⟩] sc pos) (tLc wi tt te):=by
 intro pins s σ H Q I h;obtain⟨cl,hcl,q1,q3⟩:=JYa X.env sc (fun y hy hf=>I.ok.has y.1 (B.free y hy hf))
 rw[eval_ListComp];refine wpAny_comprehension_free (use:=none) rfl hs hcl B.kind B.names (JZa (RR:=fun acc C=>compPost (model X.prog X.w) X.A X.xe none (EP X pins σ Q) acc C) hc B hi (ht cl) (he cl) q1 q3 I h ?_)
 intro D C s' m H' I' hn fpC q;exact⟨m,hn,fun h' sb=>⟨.ref D,H',I'.turned (t':=s'.toks) (fun b o hb e=>sb.extBut b o hb e) fpC.1 fpC.2.1 fpC.2.2.2.1 fpC.2.2.2.2.1 fpC.2.2.2.2.2,rfl,q⟩⟩
def Qhc(j:Nat)(wi:TI)(tt:TT)(te:TE):TS:=fun D σ H=>tLc wi tt te σ H fun v H'=>D.nx (σ.set j (some v)) H'
theorem Zab{sc:Scope}{x y:Str}{px py pos spos:Pos}{iter elt:Expr}{ifs:List Expr}{j:Nat}(M:List Str){wi:TI}{tt:TT}{te:TE}(hc:X.calm=true)(hN:X.N.Nodup)(hj:X.N[j]?=some y)(hy:X.env.scope.names.lookup y=some .local)
 (B:Q7b X sc x M) (hi:PI X (.Name x px) iter wi)
 (ht:∀ cl C s H fp,QY (blk X sc x M cl C s H fp) ifs tt) (he:∀ cl C s H fp,PE (blk X sc x M cl C s H fp) elt te)
 (hsw:swapsWith (.ListComp elt [⟨.Name x px,iter,ifs,0⟩] sc pos) (some (.Name y py)) spos.line X.env=pure true:=by rfl) (hs:∀ x,foldedSetIterable iter X.env x=pure x:=by intro _;rfl) :
 PS X (.Assign [.Name y py] (.ListComp elt [⟨.Name x px,iter,ifs,0⟩] sc pos) spos) (Qhc j wi tt te):=by
 intro pins s σ H D I h;obtain⟨cl,hcl,q1,q3⟩:=JYa X.env sc (fun y hy hf=>I.ok.has y.1 (B.free y hy hf))
 rw[exec_Assign_Name_used _ _ _ _ hsw];refine Va (wpAny_standAt (Va ?_))
 show wpAny _ X.A (do let _ <- comprehension (.ListComp elt [⟨.Name x px,iter,ifs,0⟩] sc pos) sc X.env _ (newList []) false (eval iter X.env) (some (assign (.Name y py) X.env))) _ _ s
 refine Va (wpAny_mono (wpAny_comprehension_free (use:=some (assign (.Name y py) X.env)) (Q:=fun _ s'=>SP X pins D .next s') rfl hs hcl B.kind B.names
  (JZa (RR:=fun acc C=>compPost (model X.prog X.w) X.A X.xe (some (assign (.Name y py) X.env)) (fun _ s'=>SP X pins D .next s') acc C) hc B hi (ht cl) (he cl) q1 q3 I h ?_)) (fun _ s' hq=>Vg (Vg hq)) fun _ _ e=>e)
 intro A C s' m H' I' hn fpC q;show wpAny _ X.A (assign (.Name y py) X.env (.ref A)) _ _ s';refine wpAny_assign_Name (Xca I' hN hj (.inl hy) (v:=.ref A) rfl (fun s'' I'' hZ=>?_) (.inr hy))
 obtain⟨a,sb,ha⟩:=hZ;have hne:C≠a:=by
  rcases ha with e | e
  ·rw[e];exact fpC.2.1
  ·exact fun z=>fpC.2.2.2.2.1 y a e z.symm
 exact⟨m,hn.sameBut sb hne,fun h' sb'=>⟨_,H',I''.turned (t':=s''.toks) (fun b o hb e=>sb'.extBut b o hb e) fpC.1 fpC.2.1 fpC.2.2.2.1 fpC.2.2.2.2.1 fpC.2.2.2.2.2,q⟩⟩
end
end L2
end
section
namespace HT
open PySem PyProof.Rows L2
def Xe:List V->List V->Option Bool
 | [],[]=>some false
 | [],_::_=>some true
 | _::_,[]=>some false
 | .int i::xs,.int j::ys=>if i=j then Xe xs ys else some (decide (i < j))
 | .str i::xs,.str j::ys=>if i=j then Xe xs ys else some (decide (i.cps.toList < j.cps.toList))
 | _::_,_::_=>none
theorem XUa:Xe [] []=some false:=rfl
theorem YKa(y:V)(ys:List V):Xe [] (y::ys)=some true:=rfl
theorem YLa(x:V)(xs:List V):Xe (x::xs) []=some false:=by cases x <;> rfl
theorem Qic(A:Around)(s:Shared)(a:Str)(t:Tok)(c:Str)(u:Tok)(prog:Program)(w:World)(E:YQ_)(Q:YQ_)(h:Q (.bool (decide (a.cps.toList < c.cps.toList))) s) :
 wpAny (model prog w) A (richCompare .Lt (.str a t) (.str c u)) Q E s :=
 (lt_str h:wpAny (model prog w) A (compareOp .Lt (.str a t) (.str c u)) Q E s)
section
open PySem.SeqAt
open PySem.AutoSeq1 (wpAny_loadPart')
open PySem.MeetsSeq PySem.MeetsSeq2 PySem.MeetsSeq3
theorem Jsb(l b:Addr)(items items2:Array Value)(n n2:Nat)(dd dd2:Option Addr)(sl sl2:Array (Option Value))(xs ys:List V)(hi:QE xs items.toList)(hj:QE ys items2.toList)(r:Bool)(hr:Xe xs ys=some r) :
 Meets (Builtin.«tuple.__lt__» ⟨[.ref l,.ref b],[]⟩)
  (fun _ R s=>s.heap.get? l=some { cls:=.type "tuple",dict:=dd,data:=.seq items n,slots:=sl }/\s.heap.get? b=some { cls:=.type "tuple",dict:=dd2,data:=.seq items2 n2,slots:=sl2 } /\
   R (.ok (.ret (.bool r))) s) :=
 .of_wp fun prog w A R s h=>by
  obtain⟨hp,g,d,tk,os⟩:=s;obtain⟨hl,hb,h⟩:=h;have f2:=AutoSeq1.sub_tuple_tuple;have z1:items.size=xs.length:=by rw[hi.length];simp
  have z2:items2.size=ys.length:=by rw[hj.length];simp
  wp_walk using wpAny_loadPart' hl,wpAny_loadPart' hb,wpAny_forIn_list _ (fun rest b s'=>b.1=none/\s'=⟨hp,g,d,tk,os⟩/\∃ (vs ws:List Value) (xs' ys':List V),rest=vs.zip ws /\
   QE xs' vs/\QE ys' ws/\xs'.length+items2.size=ys'.length+items.size/\Xe xs' ys'=some r) _
  case turn =>
   rintro⟨y,x⟩ rest b s' ⟨hb',rfl,vs,ws,xs',ys',hz,hvi,hwi,hlen,hR⟩;cases hvi with
   | nil=>rw[zip_nil_left]at hz;cases hz
   | cons ra hvi' =>
    cases hwi with
    | nil=>rw[zip_nil_right]at hz;cases hz
    | cons rb hwi' =>
     rename_i a1 v1 l1 l2 a2 v2 l3 l4;rw[zip_cons_cons]at hz;injection hz with hyx hrest
     injection hyx with hy hx
     subst hy hx;simp only[length_cons]at hlen;cases a1 with
     | int i =>
      cases a2 with
      | int j =>
       obtain⟨t,rfl⟩:=ra;obtain⟨u,rfl⟩:=rb;simp only[Xe]at hR;obtain⟨e,he,hiff⟩:=X7b A.in1 ⟨hp,g,d,tk,os⟩ i t j u;refine Va (he prog w _ _ ?_)
       cases e with
       | true =>
        rw[if_pos (hiff.mp rfl)]at hR
        wp_walk
        exact⟨rfl,rfl,_,_,_,_,hrest,hvi',hwi',by omega,hR⟩
       | false =>
        rw[if_neg (fun q=>absurd (hiff.mpr q) Vf)]at hR
        cases hR;have hri:=X8b A.in1 ⟨hp,g,d,tk,os⟩ i t j u prog w
        wp_walk using hri
        exact⟨_,rfl,by simpa using h⟩
      | _=>simp[Xe]at hR
     | str i =>
      cases a2 with
      | str j =>
       obtain⟨t,rfl⟩:=ra;obtain⟨u,rfl⟩:=rb;simp only[Xe]at hR;refine Va (SeqAt.EqAt.str_str (A:=A.in1) (s:=⟨hp,g,d,tk,os⟩) i t j u prog w _ _ ?_)
       cases e:(i == j) with
       | true =>
        rw[if_pos (by simpa using e)]at hR
        wp_walk
        exact⟨rfl,rfl,_,_,_,_,hrest,hvi',hwi',by omega,hR⟩
       | false =>
        rw[if_neg (by simpa using e)]at hR
        cases hR;have hri:=Qic A.in1 ⟨hp,g,d,tk,os⟩ i t j u prog w
        wp_walk using hri
        exact⟨_,rfl,by simpa using h⟩
      | _=>simp[Xe]at hR
     | _=>cases a2 <;> simp[Xe]at hR
  case fin =>
   rintro⟨b1,b2⟩ s' ⟨hb',rfl,vs,ws,xs',ys',hz,hvi,hwi,hlen,hR⟩;simp only at hb';subst hb';have hv:r=decide (items.size < items2.size):=by
    cases hvi with
    | nil =>
     cases hwi with
     | nil =>
      simp only[length_nil]at hlen;rw[XUa]at hR;cases hR;exact(decide_eq_false (by omega)).symm
     | cons c hw =>
      simp only[length_nil,length_cons]at hlen;rw[YKa]at hR;cases hR;exact(decide_eq_true (by omega)).symm
    | cons a hv =>
     cases hwi with
     | nil =>
      simp only[length_nil,length_cons]at hlen;rw[YLa]at hR;cases hR;exact(decide_eq_false (by omega)).symm
     | cons c hw =>
      rw[zip_cons_cons]at hz;cases hz
   rw[hv]at h
   wp_walk
   exact⟨_,rfl,by simpa[Builtin.Tuple.tupleCompareSizes]using h⟩
  case h =>
   exact⟨rfl,rfl,items.toList,items2.toList,xs,ys,rfl,hi,hj,by omega,hr⟩
end
section
variable{prog:Program}{w:World}{A:Around}{E:YQ_}{s:Shared}
theorem Z6c{l b:Addr}{items items2:Array Value}{xs ys:List V}{r:Bool}{Q:YQ_}(hl:IsTup s.heap l items)(hb:IsTup s.heap b items2)(hi:QE xs items.toList)(hj:QE ys items2.toList)(hr:Xe xs ys=some r)
 (hu:A.units < cLine) (h:Q (.bool r) s):wpAny (model prog w) A (compareOp .Lt (.ref l) (.ref b)) Q E s:=by
 obtain⟨⟨cls,dd,data,sl⟩,ho,hc,n,hd⟩:=id hl;obtain⟨⟨cls2,dd2,data2,sl2⟩,ho2,hc2,n2,hd2⟩:=id hb;simp only at hc hd hc2 hd2;subst hc hd hc2 hd2;exact richCompare_meets_room (op:=.Lt) ⟨_,ho,rfl⟩ ⟨_,ho2,rfl⟩ F.slot_tuple_lt F.entry_tuple_lt (F.args_tuple_lt_2 _ _) (Jsb l b items items2 n n2 dd dd2 sl sl2 xs ys hi hj r hr)
  ⟨ho,ho2,show Value.bool r≠Value.notImplemented/\Q (.bool r) s from⟨(fun x=>nomatch x),h⟩⟩ hu
end
end HT
namespace L2
open PySem PySem.Spec PyProof.Rows
section
variable{X:Cx}
def XVc:V->Option Value
 | .ty n=>some (.type n)
 | .ref a=>some (.ref a)
 | _=>none
def Jtb(K:W.Frag):List V->Hp->VK->Prop:=fun xs H Q=>∃ x c t cv b,xs=[x,c]/\XVc c=some cv/\Zla K H x t/\W.kitOne K t cv=some b/\Q (.bl b) H
theorem Ze:YV X (.builtin "isinstance") (Jtb X.K):=by
 intro pins s σ H xs us Q I r h;obtain⟨x,c,t,cv,b,rfl,hc,ty,e,q⟩:=h;obtain⟨u,w',rfl,rx,rc⟩:=X1b r;have ec:w'=cv:=by
  cases c <;> simp[XVc]at hc
  ·subst hc;exact rc
  ·subst hc;exact rc
 subst ec;exact Y5b I rx ty e fun tk=>⟨.bl b,H,I.tok tk,rfl,q⟩
def XWc(K:W.Frag):R2:=fun x y H Q=>∃ a b xs ys r,x=.ref a/\y=.ref b/\SqT K H a xs/\SqT K H b ys/\HT.Xe xs ys=some r/\Q (.bl r) H
theorem YOc(hu:X.A.units < cLine):OpR X (compareOp .Lt) (XWc X.K):=by
 intro pins s σ H x y v u Q I rx ry h;obtain⟨a,b,xs,ys,r,rfl,rfl,ha,hb,e,q⟩:=h;cases rx;cases ry;obtain⟨its,r1,p1,_⟩:=I.tuple ha;obtain⟨its2,r2,p2,_⟩:=I.tuple hb;exact HT.Z6c p1 p2 (by simpa using r1) (by simpa using r2) e hu ⟨.bl r,H,I,rfl,q⟩
def Its(z:Str):It:=⟨fun i _=>i < z.length,fun i H x H'=>H'=H/\∃ c,z.cps[i]?=some c/\x=.str ⟨#[c]⟩,fun i _=>z.length<=i⟩
theorem Xbb{P:Program}{w:World}{K:W.Frag}{tg:Expr}(it:Addr)(z:Str)(t:Tok):QWb P w K tg (Its z) [it] it (fun i h=>h.IsStrIter it "str_ascii_iterator" z t i) where
 mem:=by simp
 obj:=fun i h st b hb=>by
  have e:b=it:=by simpa using hb
  subst e;obtain⟨o,e,c,d⟩:=st;exact⟨o,e,fun v z=>by rw[d]at z;cases z⟩
 keep:=fun i h h' st k=>let ⟨o,ho,r⟩:=st;⟨o,k it (by simp) o ho,r⟩
 item:=by
  intro X hP hw hK hc i pins s σ H E I hf st hg;subst hP hw hK;obtain⟨f0,f1,f2,f3,f4,f5⟩:=hf it (by simp)
  have W:=Walks.strAscii (prog:=X.prog) (w:=X.w) (I.ok.hd hc) it z t;refine W.item i s _ _ hg st fun v h' tk hv st' kk=>?_
  obtain⟨c,u,hcu,rfl⟩:=hv;have I1:Inv X pins σ H { s with heap:=h',toks:=tk }:=I.turned (fun b o hb e=>kk b o (by simpa using hb) e) f0 f1 f3 f4 f5
  obtain⟨o,e,c',d⟩:=id st';exact⟨_,rfl,Xda (s:={ s with heap:=h',toks:=tk }) e c' d (by decide) ⟨.str ⟨#[c]⟩,H,I1,⟨_,rfl⟩,⟨rfl,c,hcu,rfl⟩,st',fun b hb=>(hf b hb).1⟩⟩
 done:=by
  intro X hP hw hK hc i pins s σ H E I hf st hg;subst hP hw hK;obtain⟨f0,f1,f2,f3,f4,f5⟩:=hf it (by simp)
  have hg':z.length<=i:=hg;exact wpAny_pyNext_ascii_end (I.ok.hd hc) st (by simpa[Str.length]using hg') fun h' eb=>⟨rfl,I.turned (t':=s.toks) (fun b o hb e=>eb b o hb e) f0 f1 f3 f4 f5⟩
 self:=fun _ _ _ _ _ st h=>wpAny_pyIter_striter_ascii st h
theorem Xcb{P:Program}{w:World}{K:W.Frag}{tg:Expr}(it:Addr)(z:Str)(t:Tok):QWb P w K tg (Its z) [it] it (fun i h=>h.IsStrIter it "str_iterator" z t i) where
 mem:=by simp
 obj:=fun i h st b hb=>by
  have e:b=it:=by simpa using hb
  subst e;obtain⟨o,e,c,d⟩:=st;exact⟨o,e,fun v z=>by rw[d]at z;cases z⟩
 keep:=fun i h h' st k=>let ⟨o,ho,r⟩:=st;⟨o,k it (by simp) o ho,r⟩
 item:=by
  intro X hP hw hK hc i pins s σ H E I hf st hg;subst hP hw hK;obtain⟨f0,f1,f2,f3,f4,f5⟩:=hf it (by simp)
  have W:=Walks.strWide (prog:=X.prog) (w:=X.w) (I.ok.hd hc) it z t;refine W.item i s _ _ hg st fun v h' tk hv st' kk=>?_
  obtain⟨c,u,hcu,rfl⟩:=hv;have I1:Inv X pins σ H { s with heap:=h',toks:=tk }:=I.turned (fun b o hb e=>kk b o (by simpa using hb) e) f0 f1 f3 f4 f5
  obtain⟨o,e,c',d⟩:=id st';exact⟨_,rfl,Xda (s:={ s with heap:=h',toks:=tk }) e c' d (by decide) ⟨.str ⟨#[c]⟩,H,I1,⟨_,rfl⟩,⟨rfl,c,hcu,rfl⟩,st',fun b hb=>(hf b hb).1⟩⟩
 done:=by
  intro X hP hw hK hc i pins s σ H E I hf st hg;subst hP hw hK;obtain⟨f0,f1,f2,f3,f4,f5⟩:=hf it (by simp)
  have hg':z.length<=i:=hg;exact wpAny_pyNext_wide_end (I.ok.hd hc) st (by simpa[Str.length]using hg') fun h' eb=>⟨rfl,I.turned (t':=s.toks) (fun b o hb e=>eb b o hb e) f0 f1 f3 f4 f5⟩
 self:=fun _ _ _ _ _ st h=>wpAny_pyIter_striter_wide st h
end
section
variable{X:Cx}
def YPc(tl:TE):TI:=fun σ H R=>tl σ H fun x H1=>∃ z,x=.str z/\R (Its z) H1
theorem YQc{tg l:Expr}{tl:TE}(hl:PE X l tl):PI X tg l (YPc tl):=by
 intro pins s σ H R I h;refine thn (hl pins s σ H _ I h) fun v s1 hZ=>?_
 obtain⟨x,H1,I1,r1,q1⟩:=hZ;obtain⟨z,e,q⟩:=q1;subst e;obtain⟨t,rfl⟩:=r1;cases ha:z.cps.all (· < 128)
 ·refine wpAny_pyIter_wide ha ?_
  refine⟨s1.heap.objs.size,[s1.heap.objs.size],_,_,H1,rfl,I1.kept (t':=s1.toks) fun b o e=>Vd _ e,Xcb _ z t,⟨_,Vi _ rfl,rfl,rfl⟩,fun b hb=>?_,q⟩
  have e:b=s1.heap.objs.size:=by simpa using hb
  subst e;exact I1.fpOk (Ve _) (I1.hok.fresh (Ve _))
 ·refine wpAny_pyIter_ascii ha ?_
  refine⟨s1.heap.objs.size,[s1.heap.objs.size],_,_,H1,rfl,I1.kept (t':=s1.toks) fun b o e=>Vd _ e,Xbb _ z t,⟨_,Vi _ rfl,rfl,rfl⟩,fun b hb=>?_,q⟩
  have e:b=s1.heap.objs.size:=by simpa using hb
  subst e;exact I1.fpOk (Ve _) (I1.hok.fresh (Ve _))
theorem Z7c{z:Str}{g:TG}{tb:TS}{D:ZH}{σ:St}{H:Hp}(Pv:Nat->St->Hp->Prop)(h0:Pv 0 σ H)
 (hs:∀ i c σ H,z.cps.toList[i]?=some c->Pv i σ H->g (.str ⟨#[c]⟩) σ H fun σ2 H2=>tb { D with nx:=Pv (i+1),ct:=Pv (i+1),bk:=D.nx } σ2 H2) (hd:∀ σ H,Pv z.length σ H->D.nx σ H) :
 ∃ W:Nat->Nat->St->Hp->Prop,(∃ m,W 0 m σ H)/\∀ i m σ H,W i m σ H ->
  ((Its z).stop i H/\D.nx σ H)\/((Its z).go i H/\∃ N:St->Hp->Prop,(∀ σ' H',N σ' H'->∃ m',m' < m/\W (i+1) m' σ' H')/\∀ x H',(Its z).yld i H x H'->g x σ H' fun σ2 H2=>tb { D with nx:=N,ct:=N,bk:=D.nx } σ2 H2):=by
 refine⟨fun i m σ H=>m=z.length - i/\i<=z.length/\Pv i σ H,⟨z.length,by simp,Vk _,h0⟩,?_⟩
 rintro i m σ H ⟨rfl,hi,p⟩
 by_cases hlt:i < z.length
 ·refine .inr ⟨hlt,Pv (i+1),fun σ' H' p'=>⟨z.length - (i+1),by omega,rfl,hlt,p'⟩,fun x H' y=>?_⟩
  obtain⟨e,c,hc,e2⟩:=y;subst e e2;exact hs i c σ _ (by simpa using hc) p
 ·have e:i=z.length:=by omega
  subst e;exact .inl ⟨Ve _,hd σ H p⟩
theorem J0a:∀ {ys:List Str} {us:List Value},QE (ys.map V.str) us->StrsAre us ys
 | [],_,.nil=>.nil
 | y::ys,_,.cons r t=>by
  obtain⟨tk,rfl⟩:=r;exact .cons y tk (J0a t)
def J7c(K:W.Frag):V->List V->Hp->VK->Prop:=fun x xs H Q=>∃ z l ys,x=.str z/\xs=[.ref l]/\SqL K H l (ys.map V.str)/\(ys.map (·.length)).sum+ys.length * z.length<=16777216/\Q (.str (Txt.join z ys)) H
theorem Z8c:MtR X "str.join" (J7c X.K):=by
 intro pins s σ H x xs v us Q I rx rv h;obtain⟨z,l,ys,rfl,rfl,hq,hok,q⟩:=h;obtain⟨t,rfl⟩:=rx;obtain⟨u,rfl,ru⟩:=rv.one;cases ru;obtain⟨its,r,p,hz⟩:=I.list hq;exact join_list p.isList (J0a (by simpa using r)) hok fun t' k=>⟨.str _,H,I.tok k,⟨_,rfl⟩,q⟩
def XXc:V->Option Int->Option Int->Hp->VK->Prop:=fun x lo hi H Q=>∃ z,x=.str z/\z.length<=sizeLine/\Q (.str (Txt.slice z lo hi)) H
theorem Zbb{x:V}(f:J9 x=true):eqV x x=true:=by cases x <;> simp[eqV,J9]at *
end
theorem ZL:bootBuiltins "len"=some (.builtin "len"):=by decide +kernel
theorem Q0:bootBuiltins "isinstance"=some (.builtin "isinstance"):=by decide +kernel
theorem YRc:bootBuiltins "ord"=some (.builtin "ord"):=by decide +kernel
theorem Qjc:bootBuiltins "max"=some (.builtin "max"):=by decide +kernel
theorem J1a:bootBuiltins "str"=some (.type "str"):=by decide +kernel
theorem Yrb:bootBuiltins "bool"=some (.type "bool"):=by decide +kernel
theorem JQ:bootBuiltins "list"=some (.type "list"):=by decide +kernel
theorem Zta:bootBuiltins "tuple"=some (.type "tuple"):=by decide +kernel
def XYc(dsc sc:Scope)(x:Str)(N M:List Str):Bool :=
 decide (sc.kind=.function) && sc.names.all (fun y=>decide (y.2≠.cell)) && sc.names.all (fun y=>decide (y.2=.local->sc.names.lookup y.1=some .local)) && decide (sc.names.lookup x=some .local) && decide ((x::M).Nodup) &&
 decide (M.length=N.length) && sc.names.all (fun y=>decide (y.2=.free->dsc.names.lookup y.1=some .cell\/dsc.names.lookup y.1=some .free)) &&
 (List.range M.length).all (fun i=>match M[i]? with | some y=>decide (sc.names.lookup y=some .free->N[i]?=some y) | none=>true) && M.all (fun y=>decide (sc.names.lookup y≠some .local))
theorem Jka{X:Cx}{sc dsc:Scope}{x:Str}{N M:List Str}(hN:X.N=N)(hs:X.env.scope=dsc)(h:XYc dsc sc x N M=true):Q7b X sc x M:=by
 unfold XYc at h;simp only[Bool.and_eq_true,decide_eq_true_eq,all_eq_true]at h;obtain⟨⟨⟨⟨⟨⟨⟨⟨h1,h2⟩,h3⟩,h4⟩,h5⟩,h6⟩,h7⟩,h8⟩,h9⟩:=h;refine⟨h1,h2,h3,h4,h5,by rw[hN];exact h6,fun y hy hf=>?_,fun i y hi hf=>?_,h9⟩
 ·have:=h7 y hy hf
  rw[<- hs]at this;exact this
 ·have hl:i < M.length:=(Vc.mp hi).1
  have:=h8 i (mem_range.mpr hl);rw[hi]at this;rw[hN];exact(decide_eq_true_eq.mp this) hf
def Cal(P:Program)(w:World)(K:W.Frag)(mg:Str->Option Value)(base:Heap)(k:Nat)(x:Str)(ps:List Str)(sp:Sp):Prop :=
 ∃ f fd,QF P w K mg base CX0 k f fd ps sp/\Jj K fd ps []/\W.keepIn K (.ref f)=true/\mg x=some (.ref f)
section
variable{X:Cx}{e:Expr}{es:List Expr}{t:TA}{p pos:Pos}
theorem Qo{j k:Nat}{x:Str}{ps:List Str}{sp:Sp}(G:Cal X.prog X.w X.K X.mg X.base j x ps sp)(hr:Zq k X.A)(hj:j<=k)(hg:Gl X x)(ha:PA X (e::es) t)(hdb:(x == ("__debug__":Str))=false:=by decide)
 (he:starEach (e::es) X.env=(false,eval e X.env)::starEach es X.env:=by rfl) (hpl:(backTo pos (starEach es X.env)).any (·.1)=false:=by rfl):PE X (.Call (.Name x p) (e::es) [] pos) (Yjb sp [] E0 t):=by
 obtain⟨f,fd,F,b,kp,m⟩:=G;exact Z1c F (hr.mono hj) hg m kp b .nil Yob ha hdb he hpl
theorem XVa{x:Str}{i:Int}(h:∃ t,X.mg x=some (.int i t))(hg:Gl X x)(hd:(x == ("__debug__":Str))=false:=by decide):PE X (.Name x pos) (tC (.int i)):=by
 obtain⟨t,h⟩:=h;exact ZGc hg h ⟨t,rfl⟩ hd
end
theorem ZM{K:W.Frag}{H:Hp}{Q:VK}{x:V}{n:String}{t:Value}{b:Bool}(ty:Zla K H x t)(e:W.kitOne K t (.type n)=some b)(q:Q (.bl b) H):Jtb K [x,.ty n] H Q:=⟨x,.ty n,t,.type n,b,rfl,rfl,ty,e,q⟩
section
variable{K:W.Frag}
theorem XWa:W.kitOne K (.type "int") (.type "bool")=some false:=by rfl
end
theorem XZc{c:Bool}{p:Bool->Prop}:(∃ k,V.bl c=V.bl k/\p k)=p c:=propext ⟨fun⟨_,e,q⟩=>by cases e;exact q,fun q=>⟨c,rfl,q⟩⟩
theorem YSc{c:Int}{p:Int->Prop}:(∃ k,V.int c=V.int k/\p k)=p c:=propext ⟨fun⟨_,e,q⟩=>by cases e;exact q,fun q=>⟨c,rfl,q⟩⟩
theorem YTc{c:Str}{p:Str->Prop}:(∃ k,V.str c=V.str k/\p k)=p c:=propext ⟨fun⟨_,e,q⟩=>by cases e;exact q,fun q=>⟨c,rfl,q⟩⟩
theorem YUc{c:Addr}{p:Addr->Prop}:(∃ k,V.ref c=V.ref k/\p k)=p c:=propext ⟨fun⟨_,e,q⟩=>by cases e;exact q,fun q=>⟨c,rfl,q⟩⟩
theorem Z9c{a b:Int}{p:Int->Int->Prop}:(∃ i j,V.int a=V.int i/\V.int b=V.int j/\p i j)=p a b:=propext ⟨fun⟨_,_,e,f,q⟩=>by cases e;cases f;exact q,fun q=>⟨a,b,rfl,rfl,q⟩⟩
theorem Qn{t:TS}{D:ZH}{σ σ':St}{H:Hp}(e:σ'=σ)(h:t D σ H):t D σ' H:=by rw[e];exact h
end L2
end
section
namespace Att
open PySem PySem.W PySem.Calls PyProof.Rows
theorem Zcb:∀ (ns:List Int),WData.weightAll (ns.map WData.int)<=2 ^ 20->∀ n∈ns,Builtin.Int.intBits n<=2 ^ 20
 | [],_,_,h=>nomatch h
 | m::ns,hw,n,h=>by
  rw[map_cons]at hw;have e:WData.weightAll (WData.int m::ns.map WData.int)=WData.weight (.int m)+1+WData.weightAll (ns.map WData.int):=by simp only[WData.weightAll]
  rw[e]at hw
  rcases mem_cons.mp h with rfl | h
  ·have:WData.weight (.int n)<=2 ^ 20:=by omega
   simpa only[WData.weight,Builtin.Int.intBits]using this
  ·exact Zcb ns (by omega) n h
theorem XXa{l:OpenLaw}{n:Nat}{q:Program}{loose:List Str}{XP:(Str->Option Value)->Heap->Prop}{YP:World->Heap->Prop}{d:DefRec}
 (hn:l.most=some n) (hdf:d.params.defaults=[])
 (call:∀ (w:World) (s₀ s₁:Shared) (mg mb:Str->Option Value) (fa:Addr) (o:Obj) (pm cd doc:Value) (a:Addr) (vs:List Value) (ns:List Int),
  Ground q loose [] XP w s₀ mg mb s₁.heap->YP w s₁.heap ->
  s₁.heap.get? fa=some o->o.data=.func (docDef d.name d.params d.body d.scope pm cd doc)->s₁.heap.CodeRec cd d.name->mg d.name=some (.ref fa) ->
  s₁.heap.get? a=some { cls:=.type "list",data:=.seq vs.toArray }->IntsAre vs ns->ns.length<=n->(∀ i∈ns,Builtin.Int.intBits i<=2 ^ 20)->s₁.gens=#[] ->
  codeAny (model l.prog w) callerA (.call (.ref fa) ⟨[.ref a],[]⟩) (fun r s'=>r=.ok (.ret (.bool true))/\OldK s₁.heap s'.heap/\s'.os=s₁.os/\AllBare s'.gens) s₁) :
 WalkO q loose XP YP l.row.toRowW d [] (fun f vs=>PySem.call f vs):=by
 intro w s₀ s₁ mg mb G Y fa o pm cd doc dV kV ho hd hcd hD hmg hg args vals as hpre hlay hrd hwl hlo;obtain rfl:dV=.none:=Dflts.none hD hdf;obtain rfl:kV=.none:=Dflts.noKw hD;obtain⟨a,vs,ns,rfl,rfl,hobj,hints,hlen⟩:=Y7b hn hpre hwl;have hb:∀ i∈ns,Builtin.Int.intBits i<=2 ^ 20:=by
  have h1:WData.layable (.list (ns.map WData.int))=true:=by
   have:=hlay;unfold WData.layableAll at this;exact all_eq_true.mp this _ mem_cons_self
  have h2:WData.weight (.list (ns.map WData.int))<=2 ^ 20:=of_decide_eq_true (Bool.and_eq_true_iff.mp h1).2;exact Zcb ns (by simpa only[WData.weight]using h2)
 refine enter_call (codeAny_mono (call w s₀ s₁ mg mb fa o pm cd doc a vs ns G Y ho (fd_plain hd) hcd hmg hobj hints hlen hb hg) fun r s' hq=>?_)
 obtain⟨rfl,h2,h3,h4⟩:=hq;exact⟨.inl ⟨.bool true,.bool true,[],rfl,fun _=>rfl,.bool true,Y8b l _,fun _=>⟨List.Pairwise.nil,fun _ hm=>(nomatch hm)⟩⟩,h2,h3,h4⟩
end Att
namespace L2
open PySem PySem.Spec PyProof.Rows
theorem Qkc{l:W.OpenLaw}{n k:Nat}{q:Program}{loose:List Str}{XP:(Str->Option Value)->Heap->Prop}{YP:World->Heap->Prop}{d:DefRec}{K:Params->W.Frag}{CX:World->CXT}{sp:W.Frag->Sp}{x:Str}
 (hn:l.most=some n) (hn2:n<=sizeLine) (hdf:d.params.defaults=[]) (hr:Zq k callerA)
 (hY:∀ (w:World) (h:Heap),YP w h->(K w.params).In h)
 (F:∀ (w:World) (mg:Str->Option Value) (fa:Addr) (h:Heap),(K w.params).In h->h.Ns mainGlobals mg->mg d.name=some (.ref fa) ->
  ∃ fd:FuncData,(∀ (s:Shared) (u:Value),BindsTo s fd ⟨[u],[]⟩ [(x,u)]) /\
   ∀ base:Heap,(K w.params).In base->base.Ns mainGlobals mg->QF l.prog w (K w.params) mg base (CX w) k fa fd [x] (sp (K w.params)))
 (hsp:∀ (K:W.Frag) (H:Hp) (a:Addr) (ns:List Int),ns.length<=n->(∀ i∈ns,Builtin.Int.intBits i<=2 ^ 20)->YJc H->SqL K H a (ns.map V.int)->sp K [.ref a] H (fun v _=>v=.bl true) fun _ _ _=>False)
 (hCX:∀ (w:World) (H:Hp) (s:Shared) (e:Value) (s':Shared),CX w [] H s (fun _ _ _=>False) e s'->False) :
 W.WalkO q loose XP YP l.row.toRowW d [] (fun f vs=>PySem.call f vs):=by
 refine Att.XXa hn hdf fun w s₀ s₁ mg mb fa o pm cd doc a vs ns G Y ho hd hcd hmg hobj hints hlen hb hg=>?_
 have KX:=hY w _ Y;obtain⟨fd,hbd,hF⟩:=F w mg fa _ KX G.T.g hmg;exact Qac KX G.T.g G.T.b G.T.builtins G.T.nolimit hg hobj hints (Vj hlen hn2) hr hF hbd (fun H hO hS=>hsp _ H a ns hlen hb hO hS) fun H e s'=>hCX w H s₁ e s'
section
variable{X:Cx}
theorem Z6:OpR X (binaryOp .Mult) (rI IntMulOk fun i j=>.int (i * j)):=opI fun _ _ _ _ _ _ _ hc q=>mul_int q hc
end
section
variable{X:Cx}
theorem YVc:SlR X XXc:=by
 intro pins s σ H x v vl vu lo hi sl Q I rx hs pl pu h;obtain⟨z,rfl,hz,q⟩:=h;obtain⟨t,rfl⟩:=rx;refine⟨"str",_,F.slot_str_getitem.lookup,typeIs_str _ _ _,?_⟩
 cases pl with
 | none =>
  cases pu with
  | none=>exact wpAny_getItem_str_slice (l:=none) (u:=none) (st:=none) hs rfl (post_val_or_str ⟨Vj (Txt.slice_le z _ _) hz,fun t' k=>⟨.str (Txt.slice z none none),H,I.tok k,⟨_,rfl⟩,q⟩⟩)
  | int j uj=>exact wpAny_getItem_str_slice (l:=none) (u:=some (j,uj)) (st:=none) hs rfl (post_val_or_str ⟨Vj (Txt.slice_le z _ _) hz,fun t' k=>⟨.str (Txt.slice z none (some j)),H,I.tok k,⟨_,rfl⟩,q⟩⟩)
 | int i ui =>
  cases pu with
  | none=>exact wpAny_getItem_str_slice (l:=some (i,ui)) (u:=none) (st:=none) hs rfl (post_val_or_str ⟨Vj (Txt.slice_le z _ _) hz,fun t' k=>⟨.str (Txt.slice z (some i) none),H,I.tok k,⟨_,rfl⟩,q⟩⟩)
  | int j uj=>exact wpAny_getItem_str_slice (l:=some (i,ui)) (u:=some (j,uj)) (st:=none) hs rfl (post_val_or_str ⟨Vj (Txt.slice_le z _ _) hz,fun t' k=>⟨.str (Txt.slice z (some i) (some j)),H,I.tok k,⟨_,rfl⟩,q⟩⟩)
end
theorem Qh{H:Hp}{p:Addr}(h:H p=none)(o:HO):Qp H (upd H p o):=fun b u q=>by rw[Qi (Qy q h)];exact q
theorem Qp.updL{H H':Hp}{p:Addr}(s:Qp H H')(h:H p=none)(o:HO):Qp H (upd H' p o):=fun b u q=>by rw[Qi (Qy q h)];exact s b u q
theorem Qp.seqT{K:W.Frag}{H H':Hp}{a:Addr}{xs:List V}(e:Qp H H')(h:SqT K H a xs):SqT K H' a xs:=by
 rcases h with (h | ⟨o,h⟩) | h
 ·exact .inl (.inl (e _ _ h))
 ·exact .inl (.inr ⟨o,e _ _ h⟩)
 ·exact .inr h
theorem J8c{α:Type}(xs:List α)(i:Nat):∀ k:Nat,((List.range k).map (i+·)).filterMap (xs[·]?)=(xs.drop i).take k
 | 0=>by simp
 | k+1=>by
  rw[range_succ,map_append,filterMap_append,J8c xs i k,take_add_one,getElem?_drop]
  cases h:xs[i+k]? <;> simp[h]
theorem Xdb(lo hi:Option Int)(n:Nat):Builtin.Str.strSliceIndices lo hi 1 n=(List.range (HT.sIx n n hi - HT.sIx n 0 lo)).map (HT.sIx n 0 lo+·):=by
 obtain⟨h1,h2,h3⟩:=Zoa lo hi n;have e:Builtin.Str.strSliceIndices lo hi 1 n=sliceRange (sliceBounds lo hi none n).1 (sliceBounds lo hi none n).2.1 (sliceBounds lo hi none n).2.2:=rfl;rw[e,h1,h2,h3];unfold sliceRange;have h4:(1:Int) > 0:=by decide
 simp only[h4,if_true];have e2:(if ((HT.sIx n 0 lo:Nat):Int) < ((HT.sIx n n hi:Nat):Int) then (((HT.sIx n n hi:Nat):Int) - ((HT.sIx n 0 lo:Nat):Int)+1 - 1) / 1 else 0).toNat=HT.sIx n n hi - HT.sIx n 0 lo:=by
  split <;> omega
 rw[e2]
 apply map_congr_left
 intro k _
 omega
def YWc(z:Str)(lo hi:Option Int):List Nat:=(z.cps.toList.drop (HT.sIx z.length 0 lo)).take (HT.sIx z.length z.length hi - HT.sIx z.length 0 lo)
theorem Jub(z:Str)(lo hi:Option Int):(Txt.slice z lo hi).cps.toList=YWc z lo hi:=by
 have hn:z.cps.toList.length=z.length:=by simp[Str.length]
 unfold Txt.slice YWc;rw[Xdb]
 split
 ·rename_i h
  have hl:HT.sIx z.length z.length hi - HT.sIx z.length 0 lo=z.length:=by
   have:=(Bool.and_eq_true_iff.mp h).2
   simpa using this
  have hb:=HT.YHc z.length z.length (Ve _) hi;have ha:HT.sIx z.length 0 lo=0\/z.length=0:=by omega
  rcases ha with ha | ha
  ·rw[hl,ha,drop_zero,take_of_length_le (by omega)]
  ·have:z.cps.toList=[]:=eq_nil_of_length_eq_zero (by omega)
   rw[this];simp
 ·show(List.toArray _).toList=_
  rw[toList_toArray];have e:(fun(x:Nat)=>z.cps[x]?)=fun(x:Nat)=>z.cps.toList[x]?:=by funext x;simp
  rw[e];exact J8c _ _ _
def FoR(J:It)(g:TG)(tb:TS)(D:ZH)(σ:St)(H1:Hp):Prop:=∃ W:Nat->Nat->St->Hp->Prop,(∃ m,W 0 m σ H1)/\∀ i m σ H,W i m σ H ->
 (J.stop i H/\D.nx σ H)\/(J.go i H/\∃ N:St->Hp->Prop,(∀ σ' H',N σ' H'->∃ m',m' < m/\W (i+1) m' σ' H')/\∀ x H',J.yld i H x H'->g x σ H' fun σ2 H2=>tb { D with nx:=N,ct:=N,bk:=D.nx } σ2 H2)
def LcR(J:It)(tt:TT)(te:TE)(σ:St)(Q:VK)(H1:Hp):Prop:=∀ D,H1 D=none->∃ W:Nat->Nat->List V->Hp->Prop,(∃ m,W 0 m [] (upd H1 D (.lst [])))/\∀ i m ys H,W i m ys H ->
 H D=some (.lst ys)/\((J.stop i H/\Q (.ref D) H)\/(J.go i H/\ys.length < sizeLine/\∀ x H',J.yld i H x H'->tt (some x::σ) H' fun b H2=>if b=true then te (some x::σ) H2 fun v H3 =>
  H3 D=some (.lst ys)/\∃ m',m' < m/\W (i+1) m' (ys++[v]) (upd H3 D (.lst (ys++[v]))) else ∃ m',m' < m/\W (i+1) m' ys H2))
theorem Xeb{ta:TA}{g:TG}{tb:TS}{D:ZH}{σ:St}{H:Hp}:XOa (XUb ta) g tb D σ H=ta σ H fun vs H1=>∃ j:Int,vs=[.int j] /\ -(2 ^ 62)<=j/\j < 2 ^ 62/\FoR (Itr 0 j.toNat) g tb D σ H1:=rfl
theorem Xfb{ta:TA}{g:TG}{tb:TS}{D:ZH}{σ:St}{H:Hp}:XOa (XVb ta) g tb D σ H=ta σ H fun vs H1=>∃ i j:Int,vs=[.int i,.int j]/\(-(2 ^ 62)<=i/\i < 2 ^ 62 /\ -(2 ^ 62)<=j/\j < 2 ^ 62)/\FoR (Itr i (j - i).toNat) g tb D σ H1:=rfl
theorem Xgb{K:W.Frag}{tl:TE}{g:TG}{tb:TS}{D:ZH}{σ:St}{H:Hp}:XOa (XTb K tl) g tb D σ H=tl σ H fun x H1=>∃ a,x=.ref a/\(∃ xs,SqL K H1 a xs)/\FoR (Itl K a) g tb D σ H1:=rfl
theorem Qlc{K:W.Frag}{tl:TE}{g:TG}{tb:TS}{D:ZH}{σ:St}{H:Hp}:XOa (YCc K tl) g tb D σ H=tl σ H fun x H1=>∃ a,x=.ref a/\(∃ xs,SqT K H1 a xs)/\FoR (Itt K a) g tb D σ H1:=rfl
theorem Qmc{tl:TE}{g:TG}{tb:TS}{D:ZH}{σ:St}{H:Hp}:XOa (YPc tl) g tb D σ H=tl σ H fun x H1=>∃ z,x=.str z/\FoR (Its z) g tb D σ H1:=rfl
theorem Qnc{ta:TA}{tt:TT}{te:TE}{σ:St}{H:Hp}{Q:VK}:tLc (XUb ta) tt te σ H Q=ta σ H fun vs H1=>∃ j:Int,vs=[.int j] /\ -(2 ^ 62)<=j/\j < 2 ^ 62/\LcR (Itr 0 j.toNat) tt te σ Q H1:=rfl
theorem Qoc{K:W.Frag}{tl:TE}{tt:TT}{te:TE}{σ:St}{H:Hp}{Q:VK}:tLc (XTb K tl) tt te σ H Q=tl σ H fun x H1=>∃ a,x=.ref a/\(∃ xs,SqL K H1 a xs)/\LcR (Itl K a) tt te σ Q H1:=rfl
theorem Jac{K:W.Frag}{tl:TE}{tt:TT}{te:TE}{σ:St}{H:Hp}{Q:VK}:tLc (YCc K tl) tt te σ H Q=tl σ H fun x H1=>∃ a,x=.ref a/\(∃ xs,SqT K H1 a xs)/\LcR (Itt K a) tt te σ Q H1:=rfl
theorem Jbc{tl:TE}{tt:TT}{te:TE}{σ:St}{H:Hp}{Q:VK}:tLc (YPc tl) tt te σ H Q=tl σ H fun x H1=>∃ z,x=.str z/\LcR (Its z) tt te σ Q H1:=rfl
theorem Qxa{lo:Int}{n:Nat}{g:TG}{tb:TS}{D:ZH}{σ:St}{H:Hp}(Pv:Nat->St->Hp->Prop)(h0:Pv 0 σ H)
 (hs:∀ i σ H,i < n->Pv i σ H->g (.int (lo+i)) σ H fun σ2 H2=>tb { D with nx:=Pv (i+1),ct:=Pv (i+1),bk:=D.nx } σ2 H2) (hd:∀ σ H,Pv n σ H->D.nx σ H):FoR (Itr lo n) g tb D σ H:=Y4b Pv h0 hs hd
theorem Zua{K:W.Frag}{a:Addr}(xs:List V){g:TG}{tb:TS}{D:ZH}{σ:St}{H:Hp}(Pv:Nat->St->Hp->Prop)(h0:Pv 0 σ H)(hl:∀ i σ H,i<=xs.length->Pv i σ H->SqL K H a xs)
 (hs:∀ i x σ H,xs[i]?=some x->Pv i σ H->g x σ H fun σ2 H2=>tb { D with nx:=Pv (i+1),ct:=Pv (i+1),bk:=D.nx } σ2 H2) (hd:∀ σ H,Pv xs.length σ H->D.nx σ H):FoR (Itl K a) g tb D σ H:=XWb Pv h0 hl hs hd
theorem Ysb{K:W.Frag}{a:Addr}(xs:List V){g:TG}{tb:TS}{D:ZH}{σ:St}{H:Hp}(Pv:Nat->St->Hp->Prop)(h0:Pv 0 σ H)(hl:∀ i σ H,i<=xs.length->Pv i σ H->SqT K H a xs)
 (hs:∀ i x σ H,xs[i]?=some x->Pv i σ H->g x σ H fun σ2 H2=>tb { D with nx:=Pv (i+1),ct:=Pv (i+1),bk:=D.nx } σ2 H2) (hd:∀ σ H,Pv xs.length σ H->D.nx σ H):FoR (Itt K a) g tb D σ H:=ZHc Pv h0 hl hs hd
theorem Jcc{z:Str}{g:TG}{tb:TS}{D:ZH}{σ:St}{H:Hp}(Pv:Nat->St->Hp->Prop)(h0:Pv 0 σ H)
 (hs:∀ i c σ H,z.cps.toList[i]?=some c->Pv i σ H->g (.str ⟨#[c]⟩) σ H fun σ2 H2=>tb { D with nx:=Pv (i+1),ct:=Pv (i+1),bk:=D.nx } σ2 H2) (hd:∀ σ H,Pv z.length σ H->D.nx σ H):FoR (Its z) g tb D σ H:=Z7c Pv h0 hs hd
theorem YXc{J:It}{te:TE}{σ:St}{H1:Hp}{Q:VK}(n:Nat)(item:Nat->V->Prop)(P:Nat->V->Prop)(hz:n<=sizeLine)
 (hgo:∀ i H2,i < n->Qp H1 H2->J.go i H2/\∀ x H',J.yld i H2 x H'->H'=H2/\item i x) (hst:∀ H2,Qp H1 H2->J.stop n H2)
 (he:∀ i x H2 (R:VK),item i x->Qp H1 H2->(∀ v H3,P i v->Qp H2 H3->R v H3)->te (some x::σ) H2 R)
 (hq:∀ D H2 ys,H1 D=none->Qp H1 H2->H2 D=some (.lst ys)->ys.length=n->(∀ i y,ys[i]?=some y->P i y)->Q (.ref D) H2):LcR J Q8b te σ Q H1:=by
 intro D hD;refine⟨fun i m ys H2=>m=n - i/\i<=n/\ys.length=i/\H2 D=some (.lst ys)/\Qp H1 H2/\∀ j y,ys[j]?=some y->P j y,⟨_,rfl,Vk _,rfl,Qd,Qh hD _,fun j y h=>by simp at h⟩,?_⟩
 rintro i m ys H2 ⟨rfl,hi,hl,hd,sm,hp⟩;refine⟨hd,?_⟩
 by_cases hlt:i < n
 ·obtain⟨go,yl⟩:=hgo i H2 hlt sm
  refine .inr ⟨go,by omega,fun x H' y=>?_⟩
  obtain⟨e,hx⟩:=yl x H' y;subst e;unfold Q8b;refine XQc ?_
  refine he i x _ _ hx sm fun v H3 pv s3=>⟨s3 _ _ hd,n - (i+1),by omega,rfl,hlt,by rw[Vs,hl];rfl,Qd,(sm.trans s3).updL hD _,fun j y h=>?_⟩
  by_cases hj:j < ys.length
  ·rw[getElem?_append_left hj]at h
   exact hp j y h
  ·rw[getElem?_append_right (by omega)]at h
   have hj2:j=i:=by
    have:=(Vc.mp h).1
    simp at this
    omega
   subst hj2;rw[hl]at h;simp at h;subst h;exact pv
 ·have e:i=n:=by omega
  subst e;exact .inl ⟨hst H2 sm,hq D H2 ys hD sm hd hl hp⟩
theorem Xta{te:TE}{σ:St}{H1:Hp}{Q:VK}{lo:Int}{n:Nat}(P:Nat->V->Prop)(hz:n<=sizeLine)
 (he:∀ (i:Nat) H2 (R:VK),i < n->Qp H1 H2->(∀ v H3,P i v->Qp H2 H3->R v H3)->te (some (.int (lo+i))::σ) H2 R)
 (hq:∀ D H2 ys,H1 D=none->Qp H1 H2->H2 D=some (.lst ys)->ys.length=n->(∀ i y,ys[i]?=some y->P i y)->Q (.ref D) H2):LcR (Itr lo n) Q8b te σ Q H1 :=
 YXc n (fun i x=>i < n/\x=.int (lo+i)) P hz (fun i H2 hi _=>⟨hi,fun x H' y=>⟨y.1,hi,y.2⟩⟩) (fun _ _=>Ve _) (fun i x H2 R ⟨hi,e⟩ s r=>by subst e;exact he i H2 R hi s r) hq
end L2
end
section
namespace SortT
open PySem PySem.W PyProof.Rows
def K(r:Nat->Nat)(p:Array Nat)(i:Nat):Nat:=r (p.getD i 0)
structure Ok(n:Nat)(p:Array Nat):Prop where
 size:p.size=n
 perm:p.Perm (List.range n).toArray
theorem Ok.lt{n:Nat}{p:Array Nat}(h:Ok n p)(hn:0 < n)(i:Nat):p.getD i 0 < n:=by
 rw[Array.getD_eq_getD_getElem?];cases e:p[i]? with
 | none=>exact hn
 | some x =>
  have hx:x∈p:=Array.mem_of_getElem? e;have:=(h.perm.mem_iff (a:=x)).mp hx
  simpa using this
def Up(r:Nat->Nat)(p:Array Nat)(m:Nat):Prop:=∀ i j,i<=j->j < m->K r p i<=K r p j
variable{n:Nat}{r:Nat->Nat}
end SortT
end
section
namespace SortB
open PySem PySem.W PyProof.Rows
def XYa:Bool->Keyed->Array Keyed->Nat->Nat->Nat->StateT SortSt Sem (Option Nat):=sortPriv% PySem.Builtin.gallop
def Qpc:Array Keyed->Array Keyed->StateT SortSt Sem (Array Keyed):=sortPriv% PySem.Builtin.mergeLo
def Qqc:Array Keyed->Array Keyed->StateT SortSt Sem (Array Keyed):=sortPriv% PySem.Builtin.mergeHi
def K(rk:Keyed->Nat)(a:Array Keyed)(i:Nat):Nat:=match a[i]? with | some p=>rk p | none=>0
theorem Za{rk:Keyed->Nat}{a:Array Keyed}{i:Nat}(h:i < a.size):K rk a i=rk a[i]:=by unfold K;rw[getElem?_pos a i h]
theorem Jvb{rk:Keyed->Nat}{a b:Array Keyed}{i j:Nat}(h:a[i]?=b[j]?):K rk a i=K rk b j:=by unfold K;rw[h]
section
variable{prog:Program}{w:World}{A:Around}{E:YQ_}{s:Shared}{κ:SortKind}{rk:Keyed->Nat}{S:Keyed->Prop}
def Zva(prog:Program)(w:World)(A:Around)(E:YQ_)(s:Shared)(κ:SortKind)(rk:Keyed->Nat)(S:Keyed->Prop):Prop :=
 ∀ x y (st:SortSt) (Q:Option Bool->SortSt->Prop),kindOf st=κ->S x->S y->Q (some (decide (rk x < rk y))) st->wpS (model prog w) A E s (lt' x y) Q st
theorem QP{a:Array Keyed}{i:Nat}{st:SortSt}{Q:Keyed->SortSt->Prop}(hi:i < a.size)(h:Q a[i] st):wpS (model prog w) A E s (elem' a i) Q st:=by
 rw[elem'_eq,getElem?_pos a i hi];exact wpS_pure h
theorem YYc(L:Zva prog w A E s κ rk S){st:SortSt}{i j:Nat}{Q:Option Bool->SortSt->Prop}(hk:kindOf st=κ)(hS:∀ x∈arrOf st,S x)(hi:i < (arrOf st).size)(hj:j < (arrOf st).size)
 (h:Q (some (decide (K rk (arrOf st) i < K rk (arrOf st) j))) st):wpS (model prog w) A E s (ltAt' i j) Q st:=by
 rw[ltAt'_eq];refine wpS_bind (wpS_get (wpS_bind (QP hi (wpS_bind (QP hj ?_)))))
 rw[Za hi,Za hj]at h;exact L _ _ st Q hk (hS _ (Array.getElem_mem hi)) (hS _ (Array.getElem_mem hj)) h
def bey(rk:Keyed->Nat)(left:Bool)(key:Keyed)(arr:Array Keyed)(bs i:Nat):Bool:=if left=true then decide (K rk arr (bs+i) < rk key) else !decide (rk key < K rk arr (bs+i))
theorem J2a(L:Zva prog w A E s κ rk S){st:SortSt}{left:Bool}{key:Keyed}{arr:Array Keyed}{bs i:Nat}{Q:Option Bool->SortSt->Prop}(hk:kindOf st=κ)(hS:∀ x∈arr,S x)(hkey:S key)(hi:bs+i < arr.size)
 (h:Q (some (bey rk left key arr bs i)) st):wpS (model prog w) A E s (elem' arr (bs+i) >>= fun x=>if left=true then lt' x key else (lt' key x >>= fun r=>pure (Option.map (fun b=>!b) r))) Q st:=by
 refine wpS_bind (QP hi ?_)
 have hx:=hS _ (Array.getElem_mem hi);unfold bey at h;rw[Za hi]at h;cases left with
 | true =>
  simp only[if_true]at h ⊢;exact L _ _ st Q hk hx hkey h
 | false =>
  simp only[Bool.false_eq_true,if_false]at h ⊢;exact wpS_bind (L _ _ st _ hk hkey hx (wpS_pure h))
theorem Xua(L:Zva prog w A E s κ rk S){st:SortSt}{left:Bool}{key:Keyed}{arr:Array Keyed}{bs n hint:Nat}{Q:Option Nat->SortSt->Prop}(hk:kindOf st=κ)(hS:∀ x∈arr,S x)(hkey:S key)(hb:bs+n<=arr.size)(hh:hint < n)
 (mono:∀ i j,i<=j->j < n->bey rk left key arr bs j=true->bey rk left key arr bs i=true)
 (h:∀ k,k<=n->(∀ i,i < k->bey rk left key arr bs i=true)->(∀ i,k<=i->i < n->bey rk left key arr bs i=false)->Q (some k) st):wpS (model prog w) A E s (XYa left key arr bs n hint) Q st:=by
 have monf:∀ i j,i<=j->j < n->bey rk left key arr bs i=false->bey rk left key arr bs j=false:=fun i j hij hj e=>by
  cases q:bey rk left key arr bs j with
  | false=>rfl
  | true=>rw[mono i j hij hj q]at e;cases e
 refine wpS_bind (J2a L hk hS hkey (by omega) ?_)
 dsimp only;cases e0:bey rk left key arr bs hint with
 | true =>
  rw[if_pos rfl];refine wpS_bind (wpS_mono (wpS_forRange (I:=fun x c st'=>st'=st/\∃ l o,c=(none,l,o)/\l < o/\x < o/\l+1<=n - hint/\bey rk left key arr bs (hint+l)=true)
   (Q:=fun c st'=>st'=st/\∃ l o,c=(none,l,o)/\l < o/\l+1<=n - hint/\bey rk left key arr bs (hint+l)=true/\(o < n - hint->bey rk left key arr bs (hint+o)=false)) ?step ?fin ⟨rfl,0,1,rfl,by omega,by omega,by omega,e0⟩) ?post)
  case step =>
   rintro x c st' _ hx ⟨rfl,l,o,rfl,h1,h2,h3,h4⟩;dsimp only
   by_cases hge:o >= n - hint
   ·rw[if_pos hge]
    exact wpS_pure ⟨rfl,l,o,rfl,h1,h3,h4,fun z=>absurd z (by omega)⟩
   ·rw[if_neg hge]
    refine wpS_bind (J2a L hk hS hkey (by omega) ?_)
    cases e1:bey rk left key arr bs (hint+o) with
    | true=>exact wpS_pure ⟨rfl,o,2 * o+1,rfl,by omega,by omega,by omega,e1⟩
    | false=>exact wpS_pure ⟨rfl,l,o,rfl,h1,h3,h4,fun _=>e1⟩
  case fin =>
   rintro c st' ⟨rfl,l,o,rfl,h1,h2,h3,h4⟩;exact⟨rfl,l,o,rfl,h1,h3,h4,fun z=>absurd z (by omega)⟩
  case post =>
   rintro c st'' ⟨rfl,l,o,rfl,h1,h3,h4,h5⟩;have a1:∀ i,i < hint+l+1->bey rk left key arr bs i=true:=fun i hi=>mono i (hint+l) (by omega) (by omega) h4
   have a2:∀ i,hint+min o (n - hint)<=i->i < n->bey rk left key arr bs i=false:=fun i hi hn=>monf (hint+o) i (by omega) hn (h5 (by omega))
   have a3:hint+l+1<=hint+min o (n - hint):=by omega
   have a4:hint+min o (n - hint)<=n:=by omega
   dsimp only;generalize hint+l+1=lo at a1 a2 a3 a4 ⊢;generalize hint+min o (n - hint)=hi at a1 a2 a3 a4 ⊢;refine wpS_bind (wpS_mono (wpS_forRange (I:=fun x c st'=>st'=st''/\∃ lo hi,c=(none,lo,hi)/\lo<=hi/\hi<=n/\hi - lo<=n - x/\(∀ i,i < lo->bey rk left key arr bs i=true)/\∀ i,hi<=i->i < n->bey rk left key arr bs i=false)
    (Q:=fun c st'=>st'=st''/\∃ hi,c=(none,hi,hi)/\hi<=n/\(∀ i,i < hi->bey rk left key arr bs i=true)/\∀ i,hi<=i->i < n->bey rk left key arr bs i=false) ?_ ?_ ⟨rfl,lo,hi,rfl,a3,a4,by omega,a1,a2⟩) ?_)
   ·rintro x c st' _ hx ⟨rfl,lo,hi,rfl,b1,b2,b3,b4,b5⟩
    dsimp only
    by_cases hge:lo >= hi
    ·rw[if_pos hge]
     have:lo=hi:=by omega
     subst this;exact wpS_pure ⟨rfl,lo,rfl,b2,b4,b5⟩
    ·rw[if_neg hge]
     refine wpS_bind (J2a L hk hS hkey (by omega) ?_)
     cases e1:bey rk left key arr bs (lo+(hi - lo) / 2) with
     | true=>exact wpS_pure ⟨rfl,_,hi,rfl,by omega,b2,by omega,fun i hi'=>mono i _ (by omega) (by omega) e1,b5⟩
     | false=>exact wpS_pure ⟨rfl,lo,_,rfl,by omega,by omega,by omega,b4,fun i h1 h2=>monf _ i h1 h2 e1⟩
   ·rintro c st' ⟨rfl,lo,hi,rfl,b1,b2,b3,b4,b5⟩
    have:lo=hi:=by omega
    subst this;exact⟨rfl,lo,rfl,b2,b4,b5⟩
   ·rintro c st' ⟨rfl,hi,rfl,b2,b4,b5⟩
    exact wpS_pure (h hi b2 b4 b5)
 | false =>
  rw[if_neg (by simp)]
  refine wpS_bind (wpS_mono (wpS_forRange (I:=fun x c st'=>st'=st/\∃ l o,c=(none,l,o)/\l < o/\x < o/\l<=hint/\bey rk left key arr bs (hint - l)=false)
   (Q:=fun c st'=>st'=st/\∃ l o,c=(none,l,o)/\l < o/\l<=hint/\bey rk left key arr bs (hint - l)=false/\(o < hint+1->bey rk left key arr bs (hint - o)=true)) ?step ?fin ⟨rfl,0,1,rfl,by omega,by omega,by omega,e0⟩) ?post)
  case step =>
   rintro x c st' _ hx ⟨rfl,l,o,rfl,h1,h2,h3,h4⟩;dsimp only
   by_cases hge:o >= hint+1
   ·rw[if_pos hge]
    exact wpS_pure ⟨rfl,l,o,rfl,h1,h3,h4,fun z=>absurd z (by omega)⟩
   ·rw[if_neg hge]
    refine wpS_bind (J2a L hk hS hkey (by omega) ?_)
    cases e1:bey rk left key arr bs (hint - o) with
    | true=>exact wpS_pure ⟨rfl,l,o,rfl,h1,h3,h4,fun _=>e1⟩
    | false=>exact wpS_pure ⟨rfl,o,2 * o+1,rfl,by omega,by omega,by omega,e1⟩
  case fin =>
   rintro c st' ⟨rfl,l,o,rfl,h1,h2,h3,h4⟩;exact⟨rfl,l,o,rfl,h1,h3,h4,fun z=>absurd z (by omega)⟩
  case post =>
   rintro c st'' ⟨rfl,l,o,rfl,h1,h3,h4,h5⟩;have a1:∀ i,i < hint+1 - min o (hint+1)->bey rk left key arr bs i=true:=fun i hi=>mono i (hint - o) (by omega) (by omega) (h5 (by omega))
   have a2:∀ i,hint - l<=i->i < n->bey rk left key arr bs i=false:=fun i hi hn=>monf (hint - l) i hi hn h4
   have a3:hint+1 - min o (hint+1)<=hint - l:=by omega
   have a4:hint - l<=n:=by omega
   dsimp only;generalize hint+1 - min o (hint+1)=lo at a1 a2 a3 a4 ⊢;generalize hint - l=hi at a1 a2 a3 a4 ⊢;refine wpS_bind (wpS_mono (wpS_forRange (I:=fun x c st'=>st'=st''/\∃ lo hi,c=(none,lo,hi)/\lo<=hi/\hi<=n/\hi - lo<=n - x/\(∀ i,i < lo->bey rk left key arr bs i=true)/\∀ i,hi<=i->i < n->bey rk left key arr bs i=false)
    (Q:=fun c st'=>st'=st''/\∃ hi,c=(none,hi,hi)/\hi<=n/\(∀ i,i < hi->bey rk left key arr bs i=true)/\∀ i,hi<=i->i < n->bey rk left key arr bs i=false) ?_ ?_ ⟨rfl,lo,hi,rfl,a3,a4,by omega,a1,a2⟩) ?_)
   ·rintro x c st' _ hx ⟨rfl,lo,hi,rfl,b1,b2,b3,b4,b5⟩
    dsimp only
    by_cases hge:lo >= hi
    ·rw[if_pos hge]
     have:lo=hi:=by omega
     subst this;exact wpS_pure ⟨rfl,lo,rfl,b2,b4,b5⟩
    ·rw[if_neg hge]
     refine wpS_bind (J2a L hk hS hkey (by omega) ?_)
     cases e1:bey rk left key arr bs (lo+(hi - lo) / 2) with
     | true=>exact wpS_pure ⟨rfl,_,hi,rfl,by omega,b2,by omega,fun i hi'=>mono i _ (by omega) (by omega) e1,b5⟩
     | false=>exact wpS_pure ⟨rfl,lo,_,rfl,by omega,by omega,by omega,b4,fun i h1 h2=>monf _ i h1 h2 e1⟩
   ·rintro c st' ⟨rfl,lo,hi,rfl,b1,b2,b3,b4,b5⟩
    have:lo=hi:=by omega
    subst this;exact⟨rfl,lo,rfl,b2,b4,b5⟩
   ·rintro c st' ⟨rfl,hi,rfl,b2,b4,b5⟩
    exact wpS_pure (h hi b2 b4 b5)
end
end SortB
end
section
namespace SortB
open PySem PySem.W PyProof.Rows
abbrev Rs(rk:Keyed->Nat)(l:List Keyed):Prop:=l.Pairwise fun x y=>rk x<=rk y
structure Mg(rk:Keyed->Nat)(la lb out:List Keyed)(ia ib:Nat):Prop where
 perm:out.Perm (la.take ia++lb.take ib)
 pw:Rs rk out
 ra:∀ x∈out,∀ y∈la.drop ia,rk x<=rk y
 rb:∀ x∈out,∀ y∈lb.drop ib,rk x<=rk y
section
variable{rk:Keyed->Nat}{la lb out:List Keyed}{ia ib k:Nat}
theorem J3a(l:List Keyed)(i k:Nat):l.drop i=(l.drop i).take k++l.drop (i+k):=by
 rw[<- drop_drop,take_append_drop]
theorem Mg.takeA(m:Mg rk la lb out ia ib)(pa:Rs rk la)(k:Nat)(h:∀ x∈(la.drop ia).take k,∀ y∈lb.drop ib,rk x<=rk y):Mg rk la lb (out++(la.drop ia).take k) (ia+k) ib:=by
 have pd:Rs rk (la.drop ia):=pa.sublist (drop_sublist _ _);have ps:=J3a la ia k;refine⟨?_,?_,?_,?_⟩
 ·have e:la.take (ia+k)=la.take ia++(la.drop ia).take k:=by rw[take_add]
  rw[e];refine(m.perm.append_right _).trans ?_
  rw[Vq,Vq];exact(perm_append_comm).append_left _
 ·refine pairwise_append.mpr ⟨m.pw,pd.sublist (take_sublist _ _),fun x hx y hy=>m.ra x hx y (mem_of_mem_take hy)⟩
 ·intro x hx y hy
  rcases Vl.mp hx with hx | hx
  ·exact m.ra x hx y (by rw[ps];exact Vp _ hy)
  ·rw[ps]at pd
   exact(pairwise_append.mp pd).2.2 x hx y hy
 ·intro x hx y hy
  rcases Vl.mp hx with hx | hx
  ·exact m.rb x hx y hy
  ·exact h x hx y hy
theorem Mg.swap(m:Mg rk la lb out ia ib):Mg rk lb la out ib ia:=⟨m.perm.trans perm_append_comm,m.pw,m.rb,m.ra⟩
theorem Mg.takeB(m:Mg rk la lb out ia ib)(pb:Rs rk lb)(k:Nat)(h:∀ x∈(lb.drop ib).take k,∀ y∈la.drop ia,rk x<=rk y):Mg rk la lb (out++(lb.drop ib).take k) ia (ib+k):=(m.swap.takeA pb k h).swap
theorem Mg.done(m:Mg rk la lb out ia ib)(pa:Rs rk la)(pb:Rs rk lb)(h:∀ x∈la.drop ia,∀ y∈lb.drop ib,rk x<=rk y):(out++la.drop ia++lb.drop ib).Perm (la++lb)/\Rs rk (out++la.drop ia++lb.drop ib):=by
 have e1:(la.drop ia).take la.length=la.drop ia:=take_of_length_le (by rw[length_drop];omega)
 have e2:(lb.drop ib).take lb.length=lb.drop ib:=take_of_length_le (by rw[length_drop];omega)
 have m1:=m.takeA pa la.length (by rw[e1];exact h)
 rw[e1]at m1;have z:la.drop (ia+la.length)=[]:=drop_eq_nil_of_le (by omega)
 have m2:=m1.takeB pb lb.length (by rw[z];intro _ _ _ q;cases q)
 rw[e2]at m2;refine⟨?_,m2.pw⟩
 have:=m2.perm
 rwa [take_of_length_le (by omega),take_of_length_le (by omega)]at this
theorem Mg.doneB(m:Mg rk la lb out ia ib)(pa:Rs rk la)(pb:Rs rk lb)(h:∀ x∈lb.drop ib,∀ y∈la.drop ia,rk x<=rk y):(out++lb.drop ib++la.drop ia).Perm (la++lb)/\Rs rk (out++lb.drop ib++la.drop ia):=by
 obtain⟨a,b⟩:=m.swap.done pb pa h;exact⟨a.trans perm_append_comm,b⟩
end
section
variable{rk:Keyed->Nat}{a:Array Keyed}{i j k n:Nat}{x:Keyed}
theorem JDa(a:Array Keyed)(i:Nat):(a.extract i a.size).toList=a.toList.drop i:=by
 rw[Array.toList_extract,extract_eq_take_drop];exact take_of_length_le (by simp)
theorem JF(a:Array Keyed)(i j:Nat):(a.extract i j).toList=(a.toList.drop i).take (j - i):=by
 rw[Array.toList_extract,extract_eq_take_drop]
theorem YY(h:i < a.size):(a.toList.drop i).take 1=[a[i]]:=by
 rw[drop_eq_getElem_cons (by simpa using h)]
 simp
theorem Xf(h:x∈(a.toList.drop i).take k):∃ j,j < k/\i+j < a.size/\rk x=K rk a (i+j):=by
 obtain⟨j,hj,e⟩:=getElem_of_mem h;have h1:j < k/\i+j < a.size:=by
  rw[length_take,length_drop,Array.length_toList]at hj
  omega
 refine⟨j,h1.1,h1.2,?_⟩
 rw[Za h1.2,<- e];simp
theorem Zwa(h:x∈a.toList.drop i):∃ j,i<=j/\j < a.size/\rk x=K rk a j:=by
 obtain⟨j,hj,e⟩:=getElem_of_mem h;have h1:i+j < a.size:=by
  rw[length_drop,Array.length_toList]at hj
  omega
 refine⟨i+j,by omega,h1,?_⟩
 rw[Za h1,<- e];simp
theorem Rs.le(h:Rs rk a.toList)(hij:i<=j)(hj:j < a.size):K rk a i<=K rk a j:=by
 by_cases e:i=j
 ·rw[e];exact Ve _
 ·rw[Za (show i < a.size by omega),Za hj]
  have:=pairwise_iff_getElem.mp h i j (by simp;omega) (by simp;omega) (by omega)
  simpa using this
end
abbrev Jq(st:SortSt)(g:Nat):SortSt:=SortSt.mk' (kindOf st) (arrOf st) (pendingOf st) g (failedOf st)
section
variable{prog:Program}{w:World}{A:Around}{E:YQ_}{s:Shared}{κ:SortKind}{rk:Keyed->Nat}{S:Keyed->Prop}
theorem YZc(L:Zva prog w A E s κ rk S){st:SortSt}{key:Keyed}{arr:Array Keyed}{bs n hint:Nat}{Q:Option Nat->SortSt->Prop}(hk:kindOf st=κ)(hS:∀ x∈arr,S x)(hkey:S key)(hb:bs+n<=arr.size)(hh:hint < n)
 (up:∀ i j,bs<=i->i<=j->j < bs+n->K rk arr i<=K rk arr j)
 (h:∀ k,k<=n->(∀ i,i < k->K rk arr (bs+i)<=rk key)->(∀ i,k<=i->i < n->rk key < K rk arr (bs+i))->Q (some k) st):wpS (model prog w) A E s (XYa false key arr bs n hint) Q st:=by
 have e:∀ i,bey rk false key arr bs i=!decide (rk key < K rk arr (bs+i)):=fun i=>by unfold bey;rw[if_neg (by simp)]
 refine Xua L hk hS hkey hb hh (fun i j hij hj=>?_) fun k hk1 h1 h2=>h k hk1 (fun i hi=>?_) fun i hi hn=>?_
 ·rw[e,e]
  have:=up (bs+i) (bs+j) (by omega) (by omega) (by omega)
  simp only[Bool.not_eq_true',decide_eq_false_iff_not]
  omega
 ·have:=h1 i hi
  rw[e]at this;simp only[Bool.not_eq_true',decide_eq_false_iff_not]at this
  omega
 ·have:=h2 i hi hn
  rw[e]at this
  simpa using this
theorem Y0c(L:Zva prog w A E s κ rk S){st:SortSt}{key:Keyed}{arr:Array Keyed}{bs n hint:Nat}{Q:Option Nat->SortSt->Prop}(hk:kindOf st=κ)(hS:∀ x∈arr,S x)(hkey:S key)(hb:bs+n<=arr.size)(hh:hint < n)
 (up:∀ i j,bs<=i->i<=j->j < bs+n->K rk arr i<=K rk arr j)
 (h:∀ k,k<=n->(∀ i,i < k->K rk arr (bs+i) < rk key)->(∀ i,k<=i->i < n->rk key<=K rk arr (bs+i))->Q (some k) st):wpS (model prog w) A E s (XYa true key arr bs n hint) Q st:=by
 have e:∀ i,bey rk true key arr bs i=decide (K rk arr (bs+i) < rk key):=fun i=>by unfold bey;rw[if_pos rfl]
 refine Xua L hk hS hkey hb hh (fun i j hij hj=>?_) fun k hk1 h1 h2=>h k hk1 (fun i hi=>?_) fun i hi hn=>?_
 ·rw[e,e]
  have:=up (bs+i) (bs+j) (by omega) (by omega) (by omega)
  simp only[decide_eq_true_eq]
  omega
 ·have:=h1 i hi
  rw[e]at this
  simpa using this
 ·have:=h2 i hi hn
  rw[e]at this
  simpa using this
theorem Ytb{α:Type}{m:StateT SortSt Sem α}{Q:α->SortSt->Prop}{st:SortSt}(h:∀ QQ:α->SortSt->Prop,(∀ r s,Q r s->QQ r s)->wpS (model prog w) A E s m QQ st):wpS (model prog w) A E s m Q st:=h Q fun _ _ z=>z
theorem Xg{α:Type}{c:Prop}[Decidable c]{m n:StateT SortSt Sem α}{Q:α->SortSt->Prop}{st:SortSt}(h1:c->wpS (model prog w) A E s m Q st)(h2:¬ c->wpS (model prog w) A E s n Q st):wpS (model prog w) A E s (if c then m else n) Q st:=by
 by_cases h:c
 ·rw[if_pos h];exact h1 h
 ·rw[if_neg h];exact h2 h
theorem Jw{α:Type}{x y:Nat}{m n:StateT SortSt Sem α}{Q:α->SortSt->Prop}{st:SortSt}(h1:x=y->wpS (model prog w) A E s m Q st)(h2:¬ x=y->wpS (model prog w) A E s n Q st):wpS (model prog w) A E s (if (x == y)=true then m else n) Q st :=
 Xg (fun h=>h1 (eq_of_beq h)) fun h=>h2 fun e=>h (by rw[e];exact beq_self_eq_true _)
theorem Jwb(L:Zva prog w A E s κ rk S){st:SortSt}{a b:Array Keyed}{Q:Array Keyed->SortSt->Prop}(hk:kindOf st=κ)(hSa:∀ x∈a,S x)(hSb:∀ x∈b,S x)(na:0 < a.size)(nb:0 < b.size)(pa:Rs rk a.toList)(pb:Rs rk b.toList)
 (h0:K rk b 0<=K rk a 0) (hl:∀ i,i < b.size->K rk b i < K rk a (a.size - 1)) (h:∀ out g,out.toList.Perm (a.toList++b.toList)->Rs rk out.toList->Q out (Jq st g)):wpS (model prog w) A E s (Qpc a b) Q st:=by
 have ua:∀ i j,i<=j->j < a.size->K rk a i<=K rk a j:=fun i j h1 h2=>pa.le h1 h2
 have ub:∀ i j,i<=j->j < b.size->K rk b i<=K rk b j:=fun i j h1 h2=>pb.le h1 h2
 have m0:Mg rk a.toList b.toList (#[b[0]]:Array Keyed).toList 0 1:=by
  have e1:b.toList.take 1=[b[0]]:=by have:=YY nb;simpa using this
  refine⟨by rw[e1];simp,by simp,fun x hx y hy=>?_,fun x hx y hy=>?_⟩
  ·obtain⟨j,_,hj,e⟩:=Zwa (rk:=rk) hy
   have:x=b[0]:=by simpa using hx
   rw[this,e,<- Za (rk:=rk) nb];exact Vj h0 (ua 0 j (by omega) hj)
  ·obtain⟨j,_,hj,e⟩:=Zwa (rk:=rk) hy
   have:x=b[0]:=by simpa using hx
   rw[this,e,<- Za (rk:=rk) nb];exact ub 0 j (by omega) hj
 have done:∀ (out:Array Keyed) (ia ib:Nat),Mg rk a.toList b.toList out.toList ia ib->ib=b.size->(out++a.extract ia a.size++b.extract ib b.size).toList.Perm (a.toList++b.toList)/\Rs rk (out++a.extract ia a.size++b.extract ib b.size).toList:=fun out ia ib m e=>by
  rw[Array.toList_append,Array.toList_append,JDa,JDa];exact m.done pa pb fun x _ y hy=>by
   obtain⟨j,h1,h2,_⟩:=Zwa (rk:=rk) hy
   omega
 have lastA:∀ (out:Array Keyed) (ia ib:Nat),Mg rk a.toList b.toList out.toList ia ib->ia+1=a.size->(out++b.extract ib b.size++a.extract ia a.size).toList.Perm (a.toList++b.toList)/\Rs rk (out++b.extract ib b.size++a.extract ia a.size).toList:=fun out ia ib m e=>by
  rw[Array.toList_append,Array.toList_append,JDa,JDa];exact m.doneB pa pb fun x hx y hy=>by
   obtain⟨j,h1,h2,e1⟩:=Zwa (rk:=rk) hx;obtain⟨i,h3,h4,e2⟩:=Zwa (rk:=rk) hy;have:i=a.size - 1:=by omega
   rw[e1,e2,this];exact Vv (hl j h2)
 have pushA:∀ (out:Array Keyed) (ia ib:Nat) (hi:ia < a.size),Mg rk a.toList b.toList out.toList ia ib->(ib < b.size->K rk a ia<=K rk b ib)->Mg rk a.toList b.toList (out.push a[ia]).toList (ia+1) ib:=fun out ia ib hi m hle=>by
  have:=m.takeA pa 1 fun x hx y hy=>by
   obtain⟨j,h1,h2,e1⟩:=Xf (rk:=rk) hx;obtain⟨i,h3,h4,e2⟩:=Zwa (rk:=rk) hy;have:j=0:=by omega
   subst this;rw[e1,e2];exact Vj (hle (by omega)) (ub ib i h3 h4)
  rwa [YY hi,<- Array.toList_push]at this
 have pushB:∀ (out:Array Keyed) (ia ib:Nat) (hi:ib < b.size),Mg rk a.toList b.toList out.toList ia ib->(ia < a.size->K rk b ib<=K rk a ia)->Mg rk a.toList b.toList (out.push b[ib]).toList ia (ib+1):=fun out ia ib hi m hle=>by
  have:=m.takeB pb 1 fun x hx y hy=>by
   obtain⟨j,h1,h2,e1⟩:=Xf (rk:=rk) hx;obtain⟨i,h3,h4,e2⟩:=Zwa (rk:=rk) hy;have:j=0:=by omega
   subst this;rw[e1,e2];exact Vj (hle (by omega)) (ua ia i h3 h4)
  rwa [YY hi,<- Array.toList_push]at this
 refine wpS_bind (wpS_lift (wpAny_rule ⟨rfl,?_⟩))
 refine wpS_bind (QP nb ?_)
 dsimp -zeta only
 by_cases hb1:1=b.size
 ·rw[if_pos (by simpa using hb1)]
  obtain⟨p,r⟩:=done _ 0 1 m0 hb1;exact wpS_pure (h _ (gallopOf st) p r)
 rw[if_neg (by simpa using hb1)]
 by_cases ha1:0+1=a.size
 ·rw[if_pos (by simpa using ha1)]
  obtain⟨p,r⟩:=lastA _ 0 1 m0 ha1;exact wpS_pure (h _ (gallopOf st) p r)
 rw[if_neg (by simpa using ha1)]
 refine wpS_bind (wpS_get (wpS_bind (wpS_mono (wpS_forRange
  (I:=fun x c st'=>∃ out ia ib g g',c=(none,out,ia,ib,g)/\st'=Jq st g'/\Mg rk a.toList b.toList (out:Array Keyed).toList ia ib/\ia+1 < a.size/\ib < b.size/\x<=ia+ib)
  (Q:=fun c st'=>∃ r g' z,c=(some r,z)/\st'=Jq st g'/\(r:Array Keyed).toList.Perm (a.toList++b.toList)/\Rs rk r.toList) ?step ?fin ⟨_,0,1,_,gallopOf st,rfl,rfl,m0,by omega,by omega,by omega⟩) ?post)))
 case post =>
  rintro c st' ⟨r,g',z,rfl,rfl,p,q⟩;exact wpS_pure (h r g' p q)
 case fin =>
  rintro c st' ⟨out,ia,ib,g,g',rfl,rfl,m,h1,h2,h3⟩
  omega
 case step =>
  rintro x c st' _ hx ⟨out,ia,ib,g,g',rfl,rfl,m,h1,h2,h3⟩;dsimp -zeta only;refine wpS_bind (wpS_mono (wpS_forRange
   (I:=fun y c st'=>st'=Jq st g'/\∃ out ja jb ac bc,c=(none,out,ja,jb,ac,bc)/\Mg rk a.toList b.toList (out:Array Keyed).toList ja jb/\ja+1 < a.size/\jb < b.size/\y+(ia+ib)<=ja+jb)
   (Q:=fun c st'=>st'=Jq st g'/\((∃ out ja jb ac bc,c=(none,out,ja,jb,ac,bc)/\Mg rk a.toList b.toList (out:Array Keyed).toList ja jb/\ja+1 < a.size/\jb < b.size/\ia+ib<=ja+jb)\/∃ r z,c=(some r,z)/\(r:Array Keyed).toList.Perm (a.toList++b.toList)/\Rs rk r.toList)) ?istep ?ifin ⟨rfl,out,ia,ib,0,0,rfl,m,h1,h2,by omega⟩) ?ipost)
  case ifin =>
   rintro c st' ⟨rfl,out,ja,jb,ac,bc,rfl,m,h4,h5,h6⟩
   omega
  case istep =>
   rintro y c st' _ hy ⟨rfl,out,ja,jb,ac,bc,rfl,m,h4,h5,h6⟩;dsimp -zeta only;refine wpS_bind (QP h5 (wpS_bind (QP (show ja < a.size by omega) (wpS_bind (L _ _ _ _ hk (hSb _ (Array.getElem_mem h5)) (hSa _ (Array.getElem_mem _)) ?_)))))
   by_cases hw:rk b[jb] < rk a[ja]
   ·have m1:=pushB out ja jb h5 m fun _=>by rw[Za h5,Za (show ja < a.size by omega)];exact Vv hw
    simp only[hw,decide_true,if_true];refine wpS_bind (QP h5 ?_)
    by_cases he:jb+1=b.size
    ·rw[if_pos (by simpa using he)]
     exact wpS_pure ⟨rfl,.inr ⟨_,_,rfl,done _ ja (jb+1) m1 he⟩⟩
    ·rw[if_neg (by simpa using he)]
     by_cases hc:bc+1 >= g
     ·rw[if_pos hc]
      exact wpS_pure ⟨rfl,.inl ⟨_,_,_,_,_,rfl,m1,h4,by omega,by omega⟩⟩
     ·rw[if_neg hc]
      exact wpS_pure ⟨rfl,_,_,_,_,_,rfl,m1,h4,by omega,by omega⟩
   ·have m1:=pushA out ja jb (by omega) m fun _=>by rw[Za h5,Za (show ja < a.size by omega)];omega
    simp only[hw,decide_false,Bool.false_eq_true,if_false];refine wpS_bind (QP (show ja < a.size by omega) ?_)
    by_cases he:ja+1+1=a.size
    ·rw[if_pos (by simpa using he)]
     exact wpS_pure ⟨rfl,.inr ⟨_,_,rfl,lastA _ (ja+1) jb m1 he⟩⟩
    ·rw[if_neg (by simpa using he)]
     by_cases hc:ac+1 >= g
     ·rw[if_pos hc]
      exact wpS_pure ⟨rfl,.inl ⟨_,_,_,_,_,rfl,m1,by omega,h5,by omega⟩⟩
     ·rw[if_neg hc]
      exact wpS_pure ⟨rfl,_,_,_,_,_,rfl,m1,by omega,h5,by omega⟩
  case ipost =>
   rintro c st' ⟨rfl,⟨out,ja,jb,ac,bc,rfl,m,h4,h5,h6⟩ | ⟨r,z,rfl,p,q⟩⟩
   ·dsimp -zeta only
    refine wpS_bind (wpS_lift (wpAny_rule ⟨rfl,?_⟩))
    refine wpS_bind (wpS_mono (wpS_forRange
     (I:=fun y c st'=>∃ out ka kb g g' ac bc,c=(none,out,ka,kb,g,ac,bc)/\st'=Jq st g'/\Mg rk a.toList b.toList (out:Array Keyed).toList ka kb/\ka+1 < a.size/\kb < b.size/\y+(ja+jb)<=ka+kb)
     (Q:=fun c st'=>(∃ out ka kb g g' ac bc,c=(none,out,ka,kb,g,ac,bc)/\st'=Jq st g'/\Mg rk a.toList b.toList (out:Array Keyed).toList ka kb/\ka+1 < a.size/\kb < b.size/\ja+jb+1<=ka+kb)\/∃ r z g',c=(some r,z)/\st'=Jq st g'/\(r:Array Keyed).toList.Perm (a.toList++b.toList)/\Rs rk r.toList) ?jstep ?jfin ⟨out,ja,jb,_,g',ac,bc,rfl,rfl,m,h4,h5,by omega⟩) ?jpost)
    case jfin =>
     rintro c st' ⟨out,ka,kb,g,g',ac,bc,rfl,rfl,m,h7,h8,h9⟩
     omega
    case jpost =>
     rintro c st' (⟨out,ka,kb,g,g',ac,bc,rfl,rfl,m,h7,h8,h9⟩ | ⟨r,z,g',rfl,rfl,p,q⟩)
     ·dsimp -zeta only
      refine wpS_bind (wpS_modify (wpS_pure ⟨out,ka,kb,_,g+1,rfl,rfl,m,h7,h8,by omega⟩))
     ·exact wpS_pure ⟨r,g',_,rfl,rfl,p,q⟩
    case jstep =>
     intro y c st' _ hy hZ;obtain⟨out,ka,kb,g,g',ac,bc,rfl,rfl,m,h7,h8,h9⟩:=hZ;refine Ytb fun QQ hQ=>?_
     have qd:∀ (r:Array Keyed) z g',r.toList.Perm (a.toList++b.toList)/\Rs rk r.toList->QQ (.done (some r,z)) (Jq st g'):=fun r z g' p=>hQ _ _ (.inr ⟨r,z,g',rfl,rfl,p.1,p.2⟩)
     have qn:∀ (o:Array Keyed) ka' kb' g g' ac bc,Mg rk a.toList b.toList o.toList ka' kb'->ka'+1 < a.size->kb' < b.size->ka+kb+1<=ka'+kb'->QQ (.done (none,o,ka',kb',g,ac,bc)) (Jq st g')/\QQ (.yield (none,o,ka',kb',g,ac,bc)) (Jq st g'):=fun o ka' kb' g g' ac bc m z1 z2 z3=>⟨hQ _ _ (.inl ⟨o,ka',kb',g,g',ac,bc,rfl,rfl,m,z1,z2,by omega⟩),hQ _ _ ⟨o,ka',kb',g,g',ac,bc,rfl,rfl,m,z1,z2,by omega⟩⟩
     clear hQ h9 hy h4 h5 h6 h1 h2 h3 hx;dsimp -zeta only
     extract_lets -underBinder c0 o1 c1 i1 c2 i2 c3 g2 c4 a2 b2 jp mg
     have hj:∀ u g1,wpS (model prog w) A E s (jp u g1) QQ (Jq st g'):=by
      intro u g1;dsimp -zeta only [jp,b2,a2,c4,g2,c3,i2,c2,i1,c1,o1,c0];clear mg jp b2 a2 c4 g2 c3 i2 c2 i1 c1 o1 c0;refine wpS_bind (wpS_modify ?_)
      refine wpS_bind (QP h8 (wpS_bind (YZc L hk hSa (hSb _ (Array.getElem_mem h8)) (by omega) (by omega) (fun i j h1 h2 h3=>ua i j h2 (by omega)) fun k hkn q1 q2=>?_)))
      dsimp -zeta only;rw[<- Za (rk:=rk) h8]at q1 q2;have hlt:ka+k < a.size:=by
       by_cases hz:ka+k < a.size
       ·exact hz
       ·have z1:=q1 (a.size - 1 - ka) (by omega)
        rw[show ka+(a.size - 1 - ka)=a.size - 1 by omega]at z1
        have z2:=hl kb h8
        omega
      have m1:Mg rk a.toList b.toList (out++a.extract ka (ka+k)).toList (ka+k) kb:=by
       rw[Array.toList_append,JF,show ka+k - ka=k by omega]
       refine m.takeA pa k fun x hx y hy=>?_
       obtain⟨j,hj1,hj2,e1⟩:=Xf (rk:=rk) hx;obtain⟨i,hi1,hi2,e2⟩:=Zwa (rk:=rk) hy;rw[e1,e2];exact Vj (q1 j hj1) (ub kb i hi1 hi2)
      have q3:K rk b kb<=K rk a (ka+k):=Vv (q2 k (Ve _) (by omega))
      have q4:k=0->out++a.extract ka (ka+k)=out:=fun e=>by
       subst e;rw[Nat.add_zero,Array.extract_empty_of_stop_le_start (Ve _)];simp
      extract_lets -underBinder ac1 jp1 o1 i1
      have hj1:∀ u (o:Array Keyed) ka1,Mg rk a.toList b.toList o.toList ka1 kb->ka<=ka1->ka1+1 < a.size->K rk b kb<=K rk a ka1->wpS (model prog w) A E s (jp1 u o ka1) QQ (Jq st g1):=by
       intro u o ka1 m1 h11 h10 q3;dsimp -zeta only [jp1];clear o1 i1 jp1 q4 m q1 q2 hlt;clear_value ac1;have ha1:ka1 < a.size:=by omega
       refine wpS_bind (QP h8 ?_)
       have m2:=pushB o ka1 kb h8 m1 fun _=>q3
       clear m1 q3;generalize o.push b[kb]=o2 at m2 ⊢
       extract_lets -underBinder ib2
       refine Jw (fun he2=>wpS_pure (qd _ _ _ (done _ ka1 (kb+1) m2 he2))) fun he2=>?_
       replace he2:¬ kb+1=b.size:=he2;dsimp -zeta only [ib2];clear ib2;refine wpS_bind (QP ha1 (wpS_bind (Y0c L hk hSb (hSa _ (Array.getElem_mem ha1)) (by omega) (by omega) (fun i j h1 h2 h3=>ub i j h2 (by omega)) fun k2 hkn2 q5 q6=>?_)))
       dsimp -zeta only;rw[<- Za (rk:=rk) ha1]at q5 q6;have m3:Mg rk a.toList b.toList (o2++b.extract (kb+1) (kb+1+k2)).toList ka1 (kb+1+k2):=by
        rw[Array.toList_append,JF,show kb+1+k2 - (kb+1)=k2 by omega]
        refine m2.takeB pb k2 fun x hx y hy=>?_
        obtain⟨j,hj1,hj2,e1⟩:=Xf (rk:=rk) hx;obtain⟨i,hi1,hi2,e2⟩:=Zwa (rk:=rk) hy;rw[e1,e2];exact Vj (Vv (q5 j hj1)) (ua ka1 i hi1 hi2)
       extract_lets -underBinder bc1 jp2 o3 ib3
       have hj2:∀ u (o:Array Keyed) kb1,Mg rk a.toList b.toList o.toList ka1 kb1->kb < kb1->kb1 < b.size->K rk a ka1<=K rk b kb1->wpS (model prog w) A E s (jp2 u o kb1) QQ (Jq st g1):=by
        intro u o kb1 m3 h12 h13 q7;dsimp -zeta only [jp2];clear o3 ib3 jp2;clear_value bc1;refine wpS_bind (QP ha1 ?_)
        have m4:=pushA o ka1 kb1 ha1 m3 fun _=>q7
        refine Jw (fun he4=>wpS_pure (qd _ _ _ (lastA _ (ka1+1) kb1 m4 he4))) fun he4=>?_
        replace he4:¬ ka1+1+1=a.size:=he4;have:=fun g gg ac bc=>qn _ _ _ g gg ac bc m4 (by omega) h13 (by omega)
        exact Xg (fun _=>wpS_pure (this _ _ _ _).1) fun _=>wpS_pure (this _ _ _ _).2
       refine Xg (fun hk2=>Jw (fun he3=>wpS_pure (qd _ _ _ (done _ ka1 (kb+1+k2) m3 he3))) fun he3=>?_) fun hk2=>?_
       ·replace he3:¬ kb+1+k2=b.size:=he3
        exact hj2 () _ _ m3 (show kb < kb+1+k2 by omega) (show kb+1+k2 < b.size by omega) (q6 k2 (Ve _) (by omega))
       ·exact hj2 () _ _ m2 (Nat.lt_succ_self _) (by omega) (q6 0 (by omega) (by omega))
      refine Xg (fun hk0=>Jw (fun he=>wpS_pure (qd _ _ _ (lastA _ (ka+k) kb m1 he))) fun he=>Jw (fun he'=>?_) fun _=>?_) fun hk0=>?_
      ·exact absurd (show ka+k=a.size from he') (by omega)
      ·replace he:¬ ka+k+1=a.size:=he
       exact hj1 () _ _ m1 (by omega) (show ka+k+1 < a.size by omega) q3
      ·have hkz:k=0:=by omega
       rw[hkz]at q3;exact hj1 () _ _ m (Ve _) h7 q3
     exact Xg (fun _=>hj () _) fun _=>hj () _
   ·exact wpS_pure ⟨r,g',_,rfl,rfl,p,q⟩
end
end SortB
end
section
namespace SortB
open PySem PySem.W PyProof.Rows
structure Mh(rk:Keyed->Nat)(la lb R:List Keyed)(na nb:Nat):Prop where
 perm:R.Perm (la.drop na++lb.drop nb)
 pw:Rs rk R
 ra:∀ x∈la.take na,∀ y∈R,rk x<=rk y
 rb:∀ x∈lb.take nb,∀ y∈R,rk x<=rk y
section
variable{rk:Keyed->Nat}{la lb R:List Keyed}{na nb k:Nat}
theorem Mh.swap(m:Mh rk la lb R na nb):Mh rk lb la R nb na:=⟨m.perm.trans perm_append_comm,m.pw,m.rb,m.ra⟩
theorem Zdb{l:List Keyed}{k n:Nat}(h:k<=n):l.drop k=(l.drop k).take (n - k)++l.drop n:=by
 have e:l.drop n=(l.drop k).drop (n - k):=by rw[drop_drop];congr 1;omega
 rw[e,take_append_drop]
theorem Qrc{l:List Keyed}{k n:Nat}(h:k<=n):l.take n=l.take k++(l.drop k).take (n - k):=by
 have e:n=k+(n - k):=by omega
 rw[e,take_add]
 congr 2
 omega
theorem Mh.takeA(m:Mh rk la lb R na nb)(pa:Rs rk la)(k:Nat)(hk:k<=na)(h:∀ x∈lb.take nb,∀ y∈(la.drop k).take (na - k),rk x<=rk y):Mh rk la lb ((la.drop k).take (na - k)++R) k nb:=by
 have pt:Rs rk (la.take na):=pa.sublist (take_sublist _ _);have ps:=Qrc (l:=la) hk;rw[ps]at pt;obtain⟨_,p2,p3⟩:=pairwise_append.mp pt;have sub:∀ y∈(la.drop k).take (na - k),y∈la.take na:=fun y hy=>by rw[ps];exact Vp _ hy
 refine⟨?_,?_,?_,?_⟩
 ·refine(m.perm.append_left _).trans (List.Perm.of_eq ?_)
  rw[<- Vq,<- Zdb hk]
 ·exact pairwise_append.mpr ⟨p2,m.pw,fun x hx y hy=>m.ra x (sub x hx) y hy⟩
 ·intro x hx y hy
  rcases Vl.mp hy with hy | hy
  ·exact p3 x hx y hy
  ·exact m.ra x (by rw[ps];exact mem_append_left _ hx) y hy
 ·intro x hx y hy
  rcases Vl.mp hy with hy | hy
  ·exact h x hx y hy
  ·exact m.rb x hx y hy
theorem Mh.takeB(m:Mh rk la lb R na nb)(pb:Rs rk lb)(k:Nat)(hk:k<=nb)(h:∀ x∈la.take na,∀ y∈(lb.drop k).take (nb - k),rk x<=rk y):Mh rk la lb ((lb.drop k).take (nb - k)++R) na k:=(m.swap.takeA pb k hk h).swap
theorem Mh.doneB(m:Mh rk la lb R na nb)(pa:Rs rk la)(pb:Rs rk lb)(h:∀ x∈lb.take nb,∀ y∈la.take na,rk x<=rk y):(lb.take nb++la.take na++R).Perm (la++lb)/\Rs rk (lb.take nb++la.take na++R):=by
 have m1:=m.takeA pa 0 (Vk _) (by simpa using h)
 have m2:=m1.takeB pb 0 (Vk _) (by simp)
 have e:((lb.drop 0).take (nb - 0)++((la.drop 0).take (na - 0)++R))=lb.take nb++la.take na++R:=by simp
 rw[e]at m2;exact⟨by simpa using m2.perm,m2.pw⟩
theorem Mh.done(m:Mh rk la lb R na nb)(pa:Rs rk la)(pb:Rs rk lb)(h:∀ x∈la.take na,∀ y∈lb.take nb,rk x<=rk y):(la.take na++lb.take nb++R).Perm (la++lb)/\Rs rk (la.take na++lb.take nb++R):=by
 obtain⟨a,b⟩:=m.swap.doneB pb pa h;exact⟨a.trans perm_append_comm,b⟩
end
section
variable{rk:Keyed->Nat}{a:Array Keyed}{i j k n:Nat}{x:Keyed}
theorem JEa(a:Array Keyed)(n:Nat):(a.extract 0 n).toList=a.toList.take n:=by rw[JF];simp
theorem Zxa(h:x∈a.toList.take n):∃ j,j < n/\j < a.size/\rk x=K rk a j:=by
 obtain⟨j,h1,h2,e⟩:=Xf (rk:=rk) (i:=0) (a:=a) (k:=n) (by simpa using h)
 exact⟨j,h1,by omega,by rw[e];congr 1;omega⟩
end
section
variable{prog:Program}{w:World}{A:Around}{E:YQ_}{s:Shared}{κ:SortKind}{rk:Keyed->Nat}{S:Keyed->Prop}
theorem Jxb(L:Zva prog w A E s κ rk S){st:SortSt}{a b:Array Keyed}{Q:Array Keyed->SortSt->Prop}(hk:kindOf st=κ)(hSa:∀ x∈a,S x)(hSb:∀ x∈b,S x)(na:0 < a.size)(nb:0 < b.size)(pa:Rs rk a.toList)(pb:Rs rk b.toList)
 (h0:K rk b 0 < K rk a 0) (hl:∀ i,i < b.size->K rk b i < K rk a (a.size - 1)) (h:∀ out g,out.toList.Perm (a.toList++b.toList)->Rs rk out.toList->Q out (Jq st g)):wpS (model prog w) A E s (Qqc a b) Q st:=by
 have ua:∀ i j,i<=j->j < a.size->K rk a i<=K rk a j:=fun i j h1 h2=>pa.le h1 h2
 have ub:∀ i j,i<=j->j < b.size->K rk b i<=K rk b j:=fun i j h1 h2=>pb.le h1 h2
 have nl:a.size - 1 < a.size:=by omega
 have m0:Mh rk a.toList b.toList (#[a[a.size - 1]]:Array Keyed).toList.reverse (a.size - 1) b.size:=by
  have e1:a.toList.drop (a.size - 1)=[a[a.size - 1]]:=by
   have:=YY nl
   rwa [take_of_length_le (by simp;omega)]at this
  refine⟨by rw[e1];simp,by simp,fun x hx y hy=>?_,fun x hx y hy=>?_⟩
  ·obtain⟨j,_,hj,e⟩:=Zxa (rk:=rk) hx
   have:y=a[a.size - 1]:=by simpa using hy
   rw[this,e,<- Za (rk:=rk) nl];exact ua j _ (by omega) (by omega)
  ·obtain⟨j,_,hj,e⟩:=Zxa (rk:=rk) hx
   have:y=a[a.size - 1]:=by simpa using hy
   rw[this,e,<- Za (rk:=rk) nl];exact Vv (hl j hj)
 have done:∀ (out:Array Keyed) (ia ib:Nat),Mh rk a.toList b.toList out.toList.reverse ia ib->ia=0->(a.extract 0 ia++b.extract 0 ib++out.reverse).toList.Perm (a.toList++b.toList)/\Rs rk (a.extract 0 ia++b.extract 0 ib++out.reverse).toList:=fun out ia ib m e=>by
  rw[Array.toList_append,Array.toList_append,JEa,JEa,Array.toList_reverse];exact m.done pa pb fun x hx y _=>by
   obtain⟨j,h1,h2,_⟩:=Zxa (rk:=rk) hx
   omega
 have lastB:∀ (out:Array Keyed) (ia ib:Nat),Mh rk a.toList b.toList out.toList.reverse ia ib->ib=1->(b.extract 0 ib++a.extract 0 ia++out.reverse).toList.Perm (a.toList++b.toList)/\Rs rk (b.extract 0 ib++a.extract 0 ia++out.reverse).toList:=fun out ia ib m e=>by
  rw[Array.toList_append,Array.toList_append,JEa,JEa,Array.toList_reverse];exact m.doneB pa pb fun x hx y hy=>by
   obtain⟨j,h1,h2,e1⟩:=Zxa (rk:=rk) hx;obtain⟨i,h3,h4,e2⟩:=Zxa (rk:=rk) hy;have:j=0:=by omega
   rw[e1,e2,this];exact Vj (Vv h0) (ua 0 i (by omega) h4)
 have pushA:∀ (out:Array Keyed) (ia ib:Nat) (hi:ia < a.size),Mh rk a.toList b.toList out.toList.reverse (ia+1) ib->ib<=b.size->(0 < ib->K rk b (ib - 1)<=K rk a ia)->Mh rk a.toList b.toList (out.push a[ia]).toList.reverse ia ib:=fun out ia ib hi m hib hle=>by
  have:=m.takeA pa ia (by omega) fun x hx y hy=>by
   obtain⟨j,h1,h2,e1⟩:=Zxa (rk:=rk) hx;obtain⟨i,h3,h4,e2⟩:=Xf (rk:=rk) hy;have:i=0:=by omega
   subst this;rw[e1,e2];exact Vj (ub j (ib - 1) (by omega) (by omega)) (hle (by omega))
  rw[show ia+1 - ia=1 by omega,YY hi]at this
  rw[Array.toList_push,reverse_append];exact this
 replace pushA:∀ (out:Array Keyed) (ia ib:Nat) (hi:ia - 1 < a.size),0 < ia->Mh rk a.toList b.toList out.toList.reverse ia ib->ib<=b.size->(0 < ib->K rk b (ib - 1)<=K rk a (ia - 1))->Mh rk a.toList b.toList (out.push a[ia - 1]).toList.reverse (ia - 1) ib:=fun out ia ib hi h0 m h1 h2=>pushA out (ia - 1) ib hi (by rw[Nat.sub_add_cancel h0];exact m) h1 h2
 have pushB:∀ (out:Array Keyed) (ia ib:Nat) (hi:ib < b.size),Mh rk a.toList b.toList out.toList.reverse ia (ib+1)->ia<=a.size->(0 < ia->K rk a (ia - 1)<=K rk b ib)->Mh rk a.toList b.toList (out.push b[ib]).toList.reverse ia ib:=fun out ia ib hi m hia hle=>by
  have:=m.takeB pb ib (by omega) fun x hx y hy=>by
   obtain⟨j,h1,h2,e1⟩:=Zxa (rk:=rk) hx;obtain⟨i,h3,h4,e2⟩:=Xf (rk:=rk) hy;have:i=0:=by omega
   subst this;rw[e1,e2];exact Vj (ua j (ia - 1) (by omega) (by omega)) (hle (by omega))
  rw[show ib+1 - ib=1 by omega,YY hi]at this
  rw[Array.toList_push,reverse_append];exact this
 replace pushB:∀ (out:Array Keyed) (ia ib:Nat) (hi:ib - 1 < b.size),0 < ib->Mh rk a.toList b.toList out.toList.reverse ia ib->ia<=a.size->(0 < ia->K rk a (ia - 1)<=K rk b (ib - 1))->Mh rk a.toList b.toList (out.push b[ib - 1]).toList.reverse ia (ib - 1):=fun out ia ib hi h0 m h1 h2=>pushB out ia (ib - 1) hi (by rw[Nat.sub_add_cancel h0];exact m) h1 h2
 refine wpS_bind (wpS_lift (wpAny_rule ⟨rfl,?_⟩))
 refine wpS_bind (QP nl ?_)
 dsimp -zeta only
 by_cases ha1:a.size - 1=0
 ·rw[if_pos (by simpa using ha1)]
  obtain⟨p,r⟩:=done _ _ b.size m0 ha1;exact wpS_pure (h _ (gallopOf st) p r)
 rw[if_neg (by simpa using ha1)]
 by_cases hb1:b.size=1
 ·rw[if_pos (by simpa using hb1)]
  obtain⟨p,r⟩:=lastB _ (a.size - 1) b.size m0 hb1;exact wpS_pure (h _ (gallopOf st) p r)
 rw[if_neg (by simpa using hb1)]
 refine wpS_bind (wpS_get (wpS_bind (wpS_mono (wpS_forRange
  (I:=fun x c st'=>∃ ia ib out g g',c=(none,ia,ib,out,g)/\st'=Jq st g'/\Mh rk a.toList b.toList (out:Array Keyed).toList.reverse ia ib/\0 < ia/\ia < a.size/\1 < ib/\ib<=b.size/\x+(ia+ib)<=a.size+b.size)
  (Q:=fun c st'=>∃ r g' z,c=(some r,z)/\st'=Jq st g'/\(r:Array Keyed).toList.Perm (a.toList++b.toList)/\Rs rk r.toList) ?step ?fin ⟨_,_,_,_,gallopOf st,rfl,rfl,m0,by omega,by omega,by omega,by omega,by omega⟩) ?post)))
 case post =>
  rintro c st' ⟨r,g',z,rfl,rfl,p,q⟩;exact wpS_pure (h r g' p q)
 case fin =>
  rintro c st' ⟨ia,ib,out,g,g',rfl,rfl,m,h1,h2,h3,h4,h5⟩
  omega
 case step =>
  rintro x c st' _ hx ⟨ia,ib,out,g,g',rfl,rfl,m,h1,h2,h3,h3',h3x⟩;dsimp -zeta only;refine wpS_bind (wpS_mono (wpS_forRange
   (I:=fun y c st'=>st'=Jq st g'/\∃ ja jb out ac bc,c=(none,ja,jb,out,ac,bc)/\Mh rk a.toList b.toList (out:Array Keyed).toList.reverse ja jb/\0 < ja/\ja < a.size/\1 < jb/\jb<=b.size/\y+(ja+jb)<=ia+ib)
   (Q:=fun c st'=>st'=Jq st g'/\((∃ ja jb out ac bc,c=(none,ja,jb,out,ac,bc)/\Mh rk a.toList b.toList (out:Array Keyed).toList.reverse ja jb/\0 < ja/\ja < a.size/\1 < jb/\jb<=b.size/\ja+jb<=ia+ib)\/∃ r z,c=(some r,z)/\(r:Array Keyed).toList.Perm (a.toList++b.toList)/\Rs rk r.toList)) ?istep ?ifin ⟨rfl,ia,ib,out,0,0,rfl,m,h1,h2,h3,h3',by omega⟩) ?ipost)
  case ifin =>
   rintro c st' ⟨rfl,ja,jb,out,ac,bc,rfl,m,h4,h5,h6,h6',h6x⟩
   omega
  case istep =>
   rintro y c st' _ hy ⟨rfl,ja,jb,out,ac,bc,rfl,m,h4,h5,h6,h6',h6x⟩;dsimp -zeta only;have ja1:ja - 1 < a.size:=by omega
   have jb1:jb - 1 < b.size:=by omega
   refine wpS_bind (QP jb1 (wpS_bind (QP ja1 (wpS_bind (L _ _ _ _ hk (hSb _ (Array.getElem_mem jb1)) (hSa _ (Array.getElem_mem ja1)) ?_)))))
   by_cases hw:rk b[jb - 1] < rk a[ja - 1]
   ·have m1:=pushA out ja jb ja1 h4 m h6' fun _=>by rw[Za jb1,Za ja1];exact Vv hw
    simp only[hw,decide_true,if_true];refine wpS_bind (QP ja1 ?_)
    by_cases he:ja - 1=0
    ·rw[if_pos (by simpa using he)]
     exact wpS_pure ⟨rfl,.inr ⟨_,_,rfl,done _ (ja - 1) jb m1 he⟩⟩
    ·rw[if_neg (by simpa using he)]
     by_cases hc:ac+1 >= g
     ·rw[if_pos hc]
      exact wpS_pure ⟨rfl,.inl ⟨_,_,_,_,_,rfl,m1,by omega,by omega,h6,h6',by omega⟩⟩
     ·rw[if_neg hc]
      exact wpS_pure ⟨rfl,_,_,_,_,_,rfl,m1,by omega,by omega,h6,h6',by omega⟩
   ·have m1:=pushB out ja jb jb1 (by omega) m (by omega) fun _=>by rw[Za jb1,Za ja1];omega
    simp only[hw,decide_false,Bool.false_eq_true,if_false];refine wpS_bind (QP jb1 ?_)
    by_cases he:jb - 1=1
    ·rw[if_pos (by simpa using he)]
     exact wpS_pure ⟨rfl,.inr ⟨_,_,rfl,lastB _ ja (jb - 1) m1 he⟩⟩
    ·rw[if_neg (by simpa using he)]
     by_cases hc:bc+1 >= g
     ·rw[if_pos hc]
      exact wpS_pure ⟨rfl,.inl ⟨_,_,_,_,_,rfl,m1,h4,h5,by omega,by omega,by omega⟩⟩
     ·rw[if_neg hc]
      exact wpS_pure ⟨rfl,_,_,_,_,_,rfl,m1,h4,h5,by omega,by omega,by omega⟩
  case ipost =>
   rintro c st' ⟨rfl,⟨ja,jb,out,ac,bc,rfl,m,h4,h5,h6,h6',h6x⟩ | ⟨r,z,rfl,p,q⟩⟩
   ·dsimp -zeta only
    refine wpS_bind (wpS_lift (wpAny_rule ⟨rfl,?_⟩))
    refine wpS_bind (wpS_mono (wpS_forRange
     (I:=fun y c st'=>∃ ka kb out g g' ac bc,c=(none,ka,kb,out,g,ac,bc)/\st'=Jq st g'/\Mh rk a.toList b.toList (out:Array Keyed).toList.reverse ka kb/\0 < ka/\ka < a.size/\1 < kb/\kb<=b.size/\y+(ka+kb)<=ja+jb)
     (Q:=fun c st'=>(∃ ka kb out g g' ac bc,c=(none,ka,kb,out,g,ac,bc)/\st'=Jq st g'/\Mh rk a.toList b.toList (out:Array Keyed).toList.reverse ka kb/\0 < ka/\ka < a.size/\1 < kb/\kb<=b.size/\ka+kb+1<=ja+jb)\/∃ r z g',c=(some r,z)/\st'=Jq st g'/\(r:Array Keyed).toList.Perm (a.toList++b.toList)/\Rs rk r.toList) ?jstep ?jfin ⟨ja,jb,out,_,g',ac,bc,rfl,rfl,m,h4,h5,h6,h6',by omega⟩) ?jpost)
    case jfin =>
     rintro c st' ⟨ka,kb,out,g,g',ac,bc,rfl,rfl,m,h7,h8,h9,h9',h9x⟩
     omega
    case jpost =>
     rintro c st' (⟨ka,kb,out,g,g',ac,bc,rfl,rfl,m,h7,h8,h9,h9',h9x⟩ | ⟨r,z,g',rfl,rfl,p,q⟩)
     ·dsimp -zeta only
      refine wpS_bind (wpS_modify (wpS_pure ⟨ka,kb,out,_,g+1,rfl,rfl,m,h7,h8,h9,h9',by omega⟩))
     ·exact wpS_pure ⟨r,g',_,rfl,rfl,p,q⟩
    case jstep =>
     intro y c st' _ hy hZ;obtain⟨ka,kb,out,g,g',ac,bc,rfl,rfl,m,h7,h8,h9,h9',h9x⟩:=hZ;refine Ytb fun QQ hQ=>?_
     have qd:∀ (r:Array Keyed) z g',r.toList.Perm (a.toList++b.toList)/\Rs rk r.toList->QQ (.done (some r,z)) (Jq st g'):=fun r z g' p=>hQ _ _ (.inr ⟨r,z,g',rfl,rfl,p.1,p.2⟩)
     have qn:∀ ka' kb' (o:Array Keyed) g g' ac bc,Mh rk a.toList b.toList o.toList.reverse ka' kb'->0 < ka'->1 < kb'->ka' < ka->kb' < kb->QQ (.done (none,ka',kb',o,g,ac,bc)) (Jq st g')/\QQ (.yield (none,ka',kb',o,g,ac,bc)) (Jq st g'):=fun ka' kb' o g g' ac bc m z1 z2 z3 z4=>⟨hQ _ _ (.inl ⟨ka',kb',o,g,g',ac,bc,rfl,rfl,m,z1,by omega,z2,by omega,by omega⟩),hQ _ _ ⟨ka',kb',o,g,g',ac,bc,rfl,rfl,m,z1,by omega,z2,by omega,by omega⟩⟩
     clear hQ h9x hy h4 h5 h6 h6' h6x h1 h2 h3 h3' h3x hx;have kb1:kb - 1 < b.size:=by omega
     dsimp -zeta only
     extract_lets -underBinder c0 i1 c1 i2 c2 o1 c3 g2 c4 a2 b2 jp mg
     have hj:∀ u g1,wpS (model prog w) A E s (jp u g1) QQ (Jq st g'):=by
      intro u g1;dsimp -zeta only [jp,b2,a2,c4,g2,c3,o1,c2,i2,c1,i1,c0];clear mg jp b2 a2 c4 g2 c3 o1 c2 i2 c1 i1 c0;refine wpS_bind (wpS_modify ?_)
      refine wpS_bind (QP kb1 (wpS_bind (YZc L hk hSa (hSb _ (Array.getElem_mem kb1)) (by omega) (by omega) (fun i j h1 h2 h3=>ua i j h2 (by omega)) fun at1 hkn q1 q2=>?_)))
      dsimp -zeta only;rw[<- Za (rk:=rk) kb1]at q1 q2;simp only[Nat.zero_add]at q1 q2;have m1:Mh rk a.toList b.toList (out++(a.extract at1 ka).reverse).toList.reverse at1 kb:=by
       rw[Array.toList_append,reverse_append,Array.toList_reverse,reverse_reverse,JF];refine m.takeA pa at1 hkn fun x hx y hy=>?_
       obtain⟨j,hj1,hj2,e1⟩:=Zxa (rk:=rk) hx;obtain⟨i,hi1,hi2,e2⟩:=Xf (rk:=rk) hy;rw[e1,e2];exact Vj (ub j (kb - 1) (by omega) kb1) (Vv (q2 (at1+i) (by omega) (by omega)))
      have q3:0 < at1->K rk a (at1 - 1)<=K rk b (kb - 1):=fun hz=>q1 (at1 - 1) (by omega)
      extract_lets -underBinder k ac1 jp1 o1 i1
      have hj1:∀ u ka1 (o:Array Keyed),Mh rk a.toList b.toList o.toList.reverse ka1 kb->0 < ka1->ka1<=ka->K rk a (ka1 - 1)<=K rk b (kb - 1)->wpS (model prog w) A E s (jp1 u ka1 o) QQ (Jq st g1):=by
       intro u ka1 o m5 h10 h11 q9;dsimp -zeta only [jp1]
       clear_value ac1
       clear o1 i1 jp1 k m1 q1 q2 m hkn q3;have ha1:ka1 - 1 < a.size:=by omega
       extract_lets -underBinder nb1
       refine wpS_bind (QP kb1 ?_)
       have m2:=pushB o ka1 kb kb1 (by omega) m5 (by omega) fun _=>q9
       clear m5 q9;dsimp -zeta only [nb1];generalize o.push b[kb - 1]=o2 at m2 ⊢;refine Jw (fun he2=>wpS_pure (qd _ _ _ (lastB _ ka1 (kb - 1) m2 he2))) fun he2=>?_
       refine wpS_bind (QP ha1 (wpS_bind (Y0c L hk hSb (hSa _ (Array.getElem_mem ha1)) (by omega) (by omega) (fun i j h1 h2 h3=>ub i j h2 (by omega)) fun at2 hkn2 q5 q6=>?_)))
       dsimp -zeta only;rw[<- Za (rk:=rk) ha1]at q5 q6;simp only[Nat.zero_add]at q5 q6;have hat2:1<=at2:=by
        by_cases hz:1<=at2
        ·exact hz
        ·have z1:=q6 0 (by omega) (by omega)
         have z2:=ua 0 (ka1 - 1) (by omega) ha1
         omega
       have m3:Mh rk a.toList b.toList (o2++(b.extract at2 (kb - 1)).reverse).toList.reverse ka1 at2:=by
        rw[Array.toList_append,reverse_append,Array.toList_reverse,reverse_reverse,JF];refine m2.takeB pb at2 hkn2 fun x hx y hy=>?_
        obtain⟨j,hj1,hj2,e1⟩:=Zxa (rk:=rk) hx;obtain⟨i,hi1,hi2,e2⟩:=Xf (rk:=rk) hy;rw[e1,e2];exact Vj (ua j (ka1 - 1) (by omega) ha1) (q6 (at2+i) (by omega) (by omega))
       extract_lets -underBinder k bc1 jp2 o3 ib3
       have hj2:∀ u kb2 (o:Array Keyed),Mh rk a.toList b.toList o.toList.reverse ka1 kb2->kb2 < kb->1 < kb2->K rk b (kb2 - 1)<=K rk a (ka1 - 1)->wpS (model prog w) A E s (jp2 u kb2 o) QQ (Jq st g1):=by
        intro u kb2 o m3 h12 h13 q7;dsimp -zeta only [jp2]
        clear_value bc1
        clear o3 ib3 jp2 k q5 q6 hat2 he2 m2 hkn2
        extract_lets -underBinder na1
        refine wpS_bind (QP ha1 ?_)
        have m4:=pushA o ka1 kb2 ha1 h10 m3 (by omega) fun _=>q7
        refine Jw (fun he4=>wpS_pure (qd _ _ _ (done _ (ka1 - 1) kb2 m4 he4))) fun he4=>?_
        replace he4:¬ ka1 - 1=0:=he4;have:=fun g gg ac bc=>qn _ _ _ g gg ac bc m4 (by omega) h13 (by omega) h12
        exact Xg (fun _=>wpS_pure (this _ _ _ _).1) fun _=>wpS_pure (this _ _ _ _).2
       have q7:=q5 (at2 - 1) (by omega)
       refine Xg (fun hk2=>Jw (fun he3=>wpS_pure (qd _ _ _ (lastB _ ka1 at2 m3 he3))) fun he3=>Jw (fun he4=>absurd (show at2=0 from he4) (by omega)) fun _=>?_) fun hk2=>?_
       ·replace he3:¬ at2=1:=he3
        exact hj2 () _ _ m3 (by omega) (by omega) (Vv q7)
       ·replace hk2:¬ kb - 1 - at2 > 0:=hk2
        rw[show at2=kb - 1 by omega]at q7
        exact hj2 () _ _ m2 (by omega) (by omega) (Vv q7)
      refine Xg (fun hk0=>Jw (fun he=>wpS_pure (qd _ _ _ (done _ at1 kb m1 he))) fun he=>?_) fun hk0=>?_
      ·replace he:¬ at1=0:=he
       exact hj1 () _ _ m1 (by omega) hkn (q3 (by omega))
      ·replace hk0:¬ ka - at1 > 0:=hk0
       have q3:=q3 (by omega)
       rw[show at1=ka by omega]at q3
       exact hj1 () _ _ m h7 (Ve _) q3
     exact Xg (fun _=>hj () _) fun _=>hj () _
   ·exact wpS_pure ⟨r,g',_,rfl,rfl,p,q⟩
end
end SortB
end
section
namespace SortB
open PySem PySem.W PyProof.Rows
def Up(rk:Keyed->Nat)(a:Array Keyed)(lo hi:Nat):Prop:=∀ i j,lo<=i->i<=j->j < hi->K rk a i<=K rk a j
structure Ch(rk:Keyed->Nat)(lo hi:Nat)(a b:Array Keyed):Prop where
 perm:b.Perm a
 out:∀ j,j < lo\/hi<=j->K rk b j=K rk a j
section
variable{rk:Keyed->Nat}{a b c:Array Keyed}{lo hi lo' hi' i j k n:Nat}
theorem Ch.refl:Ch rk lo hi a a:=⟨Array.Perm.refl _,fun _ _=>rfl⟩
theorem Ch.size(h:Ch rk lo hi a b):b.size=a.size:=h.perm.size_eq
theorem Ch.trans(h:Ch rk lo hi a b)(h':Ch rk lo hi b c):Ch rk lo hi a c:=⟨h'.perm.trans h.perm,fun j hj=>(h'.out j hj).trans (h.out j hj)⟩
theorem Ch.mono(h:Ch rk lo hi a b)(h1:lo'<=lo)(h2:hi<=hi'):Ch rk lo' hi' a b:=⟨h.perm,fun j hj=>h.out j (by omega)⟩
theorem Ch.all{S:Keyed->Prop}(h:Ch rk lo hi a b)(hS:∀ x∈a,S x):∀ x∈b,S x:=fun x hx=>hS x (h.perm.mem_iff.mp hx)
theorem Yub(hj:j<=a.size)(k:Nat):K rk (mirror a i j ((j - i) / 2)) k=if i<=k/\k < j then K rk a (i+j - 1 - k) else K rk a k:=by
 have e:=getElem?_mirror_all (i:=i) hj k
 split at e
 ·rename_i h;rw[if_pos h];exact Jvb e
 ·rename_i h;rw[if_neg h];exact Jvb e
theorem Qsc{src d:Nat}(hs:src < a.size)(hd:d<=src)(k:Nat):K rk (bubble a src d) k=if k=src - d then K rk a src else if src - d < k/\k<=src then K rk a (k - 1) else K rk a k:=by
 have e:=getElem?_bubble hs d hd k
 by_cases h1:k=src - d
 ·rw[if_pos h1]at e ⊢;exact Jvb e
 ·rw[if_neg h1]at e ⊢
  by_cases h2:src - d < k/\k<=src
  ·rw[if_pos h2]at e ⊢;exact Jvb e
  ·rw[if_neg h2]at e ⊢;exact Jvb e
theorem Ch.rev(hj:j<=a.size)(h1:lo<=i)(h2:j<=hi):Ch rk lo hi a (mirror a i j ((j - i) / 2)) :=
 ⟨mirror_perm _ _ _ _,fun k hk=>by rw[Yub hj,if_neg (by omega)]⟩
theorem Ch.bub{src d:Nat}(hs:src < a.size)(hd:d<=src)(h1:lo<=src - d)(h2:src < hi):Ch rk lo hi a (bubble a src d) :=
 ⟨bubble_perm _ _ _,fun k hk=>by rw[Qsc hs hd,if_neg (by omega),if_neg (by omega)]⟩
theorem Up.ext(u:Up rk a lo hi)(h:∀ i,lo<=i->i < hi->K rk b i=K rk a i):Up rk b lo hi:=fun i j h1 h2 h3=>by
 rw[h i h1 (by omega),h j (by omega) h3];exact u i j h1 h2 h3
theorem Up.rs(u:Up rk a lo hi)(hh:hi<=a.size):Rs rk (a.extract lo hi).toList:=by
 refine pairwise_iff_getElem.mpr ?_
 intro i j hi' hj' hij;simp only[Array.length_toList,Array.size_extract]at hi' hj';have:=u (lo+i) (lo+j) (by omega) (by omega) (by omega)
 rw[Za (by omega),Za (by omega)]at this
 simpa using this
theorem Yvb(h:lo+i < hi)(hh:hi<=a.size):K rk (a.extract lo hi) i=K rk a (lo+i):=by
 have e:i < (a.extract lo hi).size:=by rw[Array.size_extract];omega
 rw[Za e,Za (by omega)]
 simp
theorem Ywb{x:Keyed}(h:x∈a.extract lo hi):x∈a:=by
 have:=Array.mem_toList_iff.mpr h;rw[JF]at this;exact Array.mem_toList_iff.mp (mem_of_mem_drop (mem_of_mem_take this))
theorem Yxb(m:List Keyed):∀ (a:Array Keyed) (sa n:Nat),sa+n+m.length<=a.size->∀ i:Nat,((m.zipIdx n).foldl (fun a (x:Keyed×Nat)=>a.setIfInBounds (sa+x.2) x.1) a)[i]?=if sa+n<=i/\i < sa+n+m.length then m[i - (sa+n)]? else a[i]?:=by
 induction m with
 | nil=>intro a sa n _ i;rw[if_neg (by simp)];simp
 | cons x m ih =>
  intro a sa n hs i;rw[length_cons]at hs ⊢;rw[zipIdx_cons,foldl_cons,ih (a.setIfInBounds (sa+n) x) sa (n+1) (by simp;omega)]
  by_cases h1:i=sa+n
  ·subst h1
   rw[if_neg (by omega),if_pos (by omega)]
   simp[show sa+n < a.size by omega]
  ·by_cases h2:sa+n<=i/\i < sa+n+(m.length+1)
   ·rw[if_pos h2,if_pos (by omega),show i - (sa+n)=(i - (sa+(n+1)))+1 by omega,getElem?_cons_succ]
   ·rw[if_neg h2,if_neg (by omega),Array.getElem?_setIfInBounds_ne (by omega)]
theorem Qtc(m:List Keyed)(a:Array Keyed)(sa:Nat)(h:sa+m.length<=a.size):(m.zipIdx.foldl (fun a (x:Keyed×Nat)=>a.setIfInBounds (sa+x.2) x.1) a).toList=a.toList.take sa++m++a.toList.drop (sa+m.length):=by
 apply ext_getElem?
 intro i;have e:=Yxb m a sa 0 (by omega) i
 rw[Array.getElem?_toList,e]
 simp only[Nat.add_zero];rw[Vq]
 by_cases h1:i < sa
 ·rw[if_neg (by omega),getElem?_append_left (by simp;omega),getElem?_take_of_lt h1];simp
 ·rw[getElem?_append_right (by simp;omega)]
  have e2:(a.toList.take sa).length=sa:=by simp;omega
  rw[e2]
  by_cases h2:i < sa+m.length
  ·rw[if_pos (by omega),getElem?_append_left (by omega)]
  ·rw[if_neg (by omega),getElem?_append_right (by omega),getElem?_drop,Array.getElem?_toList]
   congr 1;omega
end
section
variable{prog:Program}{w:World}{A:Around}{E:YQ_}{s:Shared}{κ:SortKind}{rk:Keyed->Nat}{S:Keyed->Prop}
theorem Jdc{M:Model}{σ:Type}{v st:σ}{Q:PUnit->σ->Prop}(h:Q ⟨⟩ v):wpS M A E s (set v:StateT σ Sem PUnit) Q st:=by
 unfold wpS;rw[StateT.run_set];exact Vg ⟨rfl,h⟩
theorem Jyb(L:Zva prog w A E s κ rk S){st:SortSt}{i sa na p nb q:Nat}{Q:Bool->SortSt->Prop}(hk:kindOf st=κ)(hf:failedOf st=none)(hS:∀ x∈arrOf st,S x)(hp1:(pendingOf st)[i]?=some (sa,na,p))(hp2:(pendingOf st)[i+1]?=some (sa+na,nb,q))
 (na0:0 < na) (nb0:0 < nb) (hsz:sa+na+nb<=(arrOf st).size) (uA:Up rk (arrOf st) sa (sa+na)) (uB:Up rk (arrOf st) (sa+na) (sa+na+nb))
 (h:∀ a' g,Ch rk sa (sa+na+nb) (arrOf st) a'->Up rk a' sa (sa+na+nb)->Q true (SortSt.mk' κ a' (((pendingOf st).setIfInBounds i (sa,na+nb,p)).eraseIdxIfInBounds (i+1)) g none)):wpS (model prog w) A E s (mergeAt' i) Q st:=by
 rcases st with ⟨kd,a,pd0,g0,f0⟩
 change kd=κ at hk;change f0=none at hf;change ∀ x∈a,S x at hS;change pd0[i]?=some (sa,na,p) at hp1;change pd0[i+1]?=some (sa+na,nb,q) at hp2;change sa+na+nb<=a.size at hsz;change Up rk a sa (sa+na) at uA;change Up rk a (sa+na) (sa+na+nb) at uB;change ∀ a' g,Ch rk sa (sa+na+nb) a a'->Up rk a' sa (sa+na+nb)->Q true (SortSt.mk' κ a' ((pd0.setIfInBounds i (sa,na+nb,p)).eraseIdxIfInBounds (i+1)) g none) at h;subst hk hf;refine wpS_bind (wpS_get ?_)
 have e1:(pd0[i]?,pd0[i+1]?)=(some (sa,na,p),some (sa+na,nb,q)):=by rw[hp1,hp2]
 dsimp only;rw[e1];dsimp only;generalize (pd0.setIfInBounds i (sa,na+nb,p)).eraseIdxIfInBounds (i+1)=pd at h ⊢;have sb1:sa+na < a.size:=by omega
 have kk:∀ (x:Array Keyed) (pd:Array (Nat×Nat×Nat)) (g:Nat) (f:Option Value),kindOf (SortSt.mk' kd x pd g f)=kd:=fun _ _ _ _=>rfl
 refine wpS_bind (Jdc (wpS_bind (QP sb1 (wpS_bind (YZc L (kk _ _ _ _) hS (hS _ (Array.getElem_mem sb1)) (by omega) na0 (fun i j h1 h2 h3=>uA i j h1 h2 h3) fun k hkn q1 q2=>?_)))))
 rw[<- Za (rk:=rk) sb1]at q1 q2;dsimp only
 by_cases hn:na - k=0
 ·rw[if_pos (by simpa using hn)]
  refine wpS_pure (h a _ Ch.refl fun i j h1 h2 h3=>?_)
  by_cases hj:j < sa+na
  ·exact uA i j h1 h2 hj
  ·by_cases hi:i < sa+na
   ·have z:=q1 (i - sa) (by omega)
    rw[show sa+(i - sa)=i by omega]at z
    exact Vj z (uB (sa+na) j (Ve _) (by omega) h3)
   ·exact uB i j (by omega) h2 h3
 rw[if_neg (by simpa using hn)]
 have la1:sa+k+(na - k) - 1 < a.size:=by omega
 refine wpS_bind (QP la1 (wpS_bind (Y0c L (kk _ _ _ _) hS (hS _ (Array.getElem_mem la1)) (by omega) (by omega) (fun i j h1 h2 h3=>uB i j h1 h2 h3) fun nb' hkn' q3 q4=>?_)))
 rw[<- Za (rk:=rk) la1,show sa+k+(na - k) - 1=sa+na - 1 by omega]at q3 q4
 dsimp only
 by_cases hn':nb'=0
 ·rw[if_pos (by simpa using hn')]
  refine wpS_pure (h a _ Ch.refl fun i j h1 h2 h3=>?_)
  by_cases hj:j < sa+na
  ·exact uA i j h1 h2 hj
  ·by_cases hi:i < sa+na
   ·have z:=q4 (j - (sa+na)) (by omega) (by omega)
    rw[show sa+na+(j - (sa+na))=j by omega]at z
    exact Vj (uA i (sa+na - 1) h1 (by omega) (by omega)) z
   ·exact uB i j (by omega) h2 h3
 rw[if_neg (by simpa using hn')]
 have xs:(a.extract (sa+k) (sa+na)).size=na - k:=by rw[Array.size_extract];omega
 have ys:(a.extract (sa+na) (sa+na+nb')).size=nb':=by rw[Array.size_extract];omega
 have px:Rs rk (a.extract (sa+k) (sa+na)).toList:=Up.rs (fun i j h1 h2 h3=>uA i j (by omega) h2 h3) (by omega)
 have py:Rs rk (a.extract (sa+na) (sa+na+nb')).toList:=Up.rs (fun i j h1 h2 h3=>uB i j h1 h2 (by omega)) (by omega)
 have sx:∀ x∈a.extract (sa+k) (sa+na),S x:=fun x hx=>hS x (Ywb hx)
 have sy:∀ x∈a.extract (sa+na) (sa+na+nb'),S x:=fun x hx=>hS x (Ywb hx)
 have h0:K rk (a.extract (sa+na) (sa+na+nb')) 0 < K rk (a.extract (sa+k) (sa+na)) 0:=by
  rw[Yvb (by omega) (by omega),Yvb (by omega) (by omega)]
  exact q2 k (Ve _) (by omega)
 have hl:∀ i,i < (a.extract (sa+na) (sa+na+nb')).size->K rk (a.extract (sa+na) (sa+na+nb')) i < K rk (a.extract (sa+k) (sa+na)) ((a.extract (sa+k) (sa+na)).size - 1):=fun i hi=>by
  rw[ys]at hi;rw[xs,Yvb (by omega) (by omega),Yvb (by omega) (by omega),show sa+k+(na - k - 1)=sa+na - 1 by omega]
  exact q3 i hi
 have fin:∀ (m:Array Keyed) (g:Nat),m.toList.Perm ((a.extract (sa+k) (sa+na)).toList++(a.extract (sa+na) (sa+na+nb')).toList)->Rs rk m.toList ->
  Q true (SortSt.mk' kd (m.toList.zipIdx.foldl (fun a (x:Keyed×Nat)=>a.setIfInBounds (sa+k+x.2) x.1) a) pd g none):=fun m g pm rm=>by
  have ml:m.toList.length=na - k+nb':=by rw[pm.length_eq,Vs,Array.length_toList,Array.length_toList,xs,ys]
  have gl:=Qtc m.toList a (sa+k) (by omega)
  have gg:=Yxb m.toList a (sa+k) 0 (by omega)
  simp only[Nat.add_zero]at gg;generalize hb:m.toList.zipIdx.foldl (fun a (x:Keyed×Nat)=>a.setIfInBounds (sa+k+x.2) x.1) a=b at gl gg ⊢
  have out:∀ j,j < sa+k\/sa+na+nb'<=j->K rk b j=K rk a j:=fun j hj=>Jvb (by rw[gg j,if_neg (by omega)])
  have ins:∀ j,sa+k<=j->j < sa+na+nb'->K rk b j=K rk m (j - (sa+k)):=fun j h1 h2=>Jvb (by rw[gg j,if_pos (by omega),Array.getElem?_toList])
  have bnd:∀ j,sa+k<=j->j < sa+na+nb'->K rk a (sa+na)<=K rk b j/\K rk b j<=K rk a (sa+na - 1):=fun j h1 h2=>by
   have hm:j - (sa+k) < m.size:=by rw[<- Array.length_toList,ml];omega
   rw[ins j h1 h2,Za hm];have hin:=pm.mem_iff.mp (Array.mem_toList_iff.mpr (Array.getElem_mem hm))
   rcases Vl.mp hin with hx | hx
   ·obtain⟨t,ht,e⟩:=getElem_of_mem hx
    rw[Array.length_toList,xs]at ht;have e':rk m[j - (sa+k)]=K rk a (sa+k+t):=by
     rw[<- e,Za (by omega)];simp
    rw[e'];exact⟨Vv (by have:=q2 (k+t) (by omega) (by omega);rwa [<- Nat.add_assoc]at this),uA _ _ (by omega) (by omega) (by omega)⟩
   ·obtain⟨t,ht,e⟩:=getElem_of_mem hx
    rw[Array.length_toList,ys]at ht;have e':rk m[j - (sa+k)]=K rk a (sa+na+t):=by
     rw[<- e,Za (by omega)];simp
    rw[e'];exact⟨uB _ _ (by omega) (by omega) (by omega),Vv (q3 t ht)⟩
  refine h b g ⟨Array.perm_iff_toList_perm.mpr ?_,fun j hj=>out j (by omega)⟩ fun i j h1 h2 h3=>?_
  ·rw[gl,ml]
   have ea:a.toList=a.toList.take (sa+k)++((a.extract (sa+k) (sa+na)).toList++(a.extract (sa+na) (sa+na+nb')).toList)++a.toList.drop (sa+k+(na - k+nb')):=by
    rw[JF,JF,Vq,Vq];rw[show sa+na+nb' - (sa+na)=nb' by omega,show sa+k+(na - k+nb')=sa+na+nb' by omega,<- J3a a.toList (sa+na) nb',<- Zdb (show sa+k<=sa+na by omega),take_append_drop]
   exact((pm.append_left _).append_right _).trans (List.Perm.of_eq ea.symm)
  ·by_cases ci:i < sa+k
   ·rw[out i (by omega)]
    have z:=q1 (i - sa) (by omega)
    rw[show sa+(i - sa)=i by omega]at z
    by_cases cj:j < sa+k
    ·rw[out j (by omega)];exact uA i j h1 h2 (by omega)
    ·by_cases cj2:j < sa+na+nb'
     ·exact Vj z (bnd j (by omega) cj2).1
     ·rw[out j (by omega)]
      exact Vj z (uB _ _ (by omega) (by omega) h3)
   ·by_cases ci2:i < sa+na+nb'
    ·by_cases cj2:j < sa+na+nb'
     ·rw[ins i (by omega) ci2,ins j (by omega) cj2]
      exact rm.le (by omega) (by rw[<- Array.length_toList,ml];omega)
     ·rw[out j (by omega)]
      have z:=q4 (j - (sa+na)) (by omega) (by omega)
      rw[show sa+na+(j - (sa+na))=j by omega]at z
      exact Vj (bnd i (by omega) ci2).2 z
    ·rw[out i (by omega),out j (by omega)]
     exact uB i j (by omega) h2 h3
 split
 ·refine wpS_bind (Jwb L (kk _ _ _ _) sx sy (by omega) (by omega) px py (Vv h0) hl fun m g pm rm=>?_)
  exact wpS_bind (wpS_modify (wpS_bind (wpS_get (wpS_pure (fin m g pm rm)))))
 ·refine wpS_bind (Jxb L (kk _ _ _ _) sx sy (by omega) (by omega) px py h0 hl fun m g pm rm=>?_)
  exact wpS_bind (wpS_modify (wpS_bind (wpS_get (wpS_pure (fin m g pm rm)))))
end
end SortB
end
section
namespace SortB
open PySem PySem.W PyProof.Rows
section
variable{prog:Program}{w:World}{A:Around}{E:YQ_}{s:Shared}{κ:SortKind}{rk:Keyed->Nat}{S:Keyed->Prop}
abbrev mk(κ:SortKind)(a:Array Keyed)(pd:Array (Nat×Nat×Nat))(g:Nat):SortSt:=SortSt.mk' κ a pd g none
theorem Xhb(L:Zva prog w A E s κ rk S){a:Array Keyed}{pd:Array (Nat×Nat×Nat)}{g i j:Nat}{Q:Option Bool->SortSt->Prop}(hS:∀ x∈a,S x)(hi:i < a.size)(hj:j < a.size)
 (h:Q (some (decide (K rk a i < K rk a j))) (mk κ a pd g)):wpS (model prog w) A E s (ltAt' i j) Q (mk κ a pd g):=YYc L rfl hS hi hj h
theorem XZa{a:Array Keyed}{pd:Array (Nat×Nat×Nat)}{g i j:Nat}{Q:Unit->SortSt->Prop}(h:Q () (mk κ (mirror a i j ((j - i) / 2)) pd g)):wpS (model prog w) A E s (reverseSlice' i j) Q (mk κ a pd g):=wpS_modify h
def Dn(rk:Keyed->Nat)(a:Array Keyed)(lo hi:Nat):Prop:=∀ i j,lo<=i->i<=j->j < hi->K rk a j<=K rk a i
theorem Up.step{a:Array Keyed}{lo n:Nat}(u:Up rk a lo (lo+n))(hn:1<=n)(h:¬ K rk a (lo+n) < K rk a (lo+n - 1)):Up rk a lo (lo+(n+1)):=fun i j h1 h2 h3=>by
 by_cases hj:j < lo+n
 ·exact u i j h1 h2 hj
 ·have:j=lo+n:=by omega
  subst this
  by_cases hi:i=lo+n
  ·rw[hi];exact Ve _
  ·have:=u i (lo+n - 1) h1 (by omega) (by omega);omega
theorem Dn.step{a:Array Keyed}{lo n:Nat}(u:Dn rk a lo (lo+n))(hn:1<=n)(h:K rk a (lo+n)<=K rk a (lo+n - 1)):Dn rk a lo (lo+(n+1)):=fun i j h1 h2 h3=>by
 by_cases hj:j < lo+n
 ·exact u i j h1 h2 hj
 ·have:j=lo+n:=by omega
  subst this
  by_cases hi:i=lo+n
  ·rw[hi];exact Ve _
  ·have:=u i (lo+n - 1) h1 (by omega) (by omega);omega
theorem J4a{a:Array Keyed}{i j:Nat}(hj:j<=a.size)(e:∀ k,i<=k->k < j->K rk a k=K rk a (j - 1))(k:Nat):K rk (mirror a i j ((j - i) / 2)) k=K rk a k:=by
 rw[Yub hj]
 by_cases h:i<=k/\k < j
 ·rw[if_pos h,e _ (by omega) (by omega),e k h.1 h.2]
 ·rw[if_neg h]
theorem Zeb(L:Zva prog w A E s κ rk S){a:Array Keyed}{pd:Array (Nat×Nat×Nat)}{g lo nrem:Nat}{Q:Option Nat->SortSt->Prop}(hS:∀ x∈a,S x)(h1:1<=nrem)(hsz:lo+nrem<=a.size)
 (h:∀ m b,1<=m->m<=nrem->Ch rk lo (lo+nrem) a b->Up rk b lo (lo+m)->Q (some m) (mk κ b pd g)):wpS (model prog w) A E s (countRun' lo nrem) Q (mk κ a pd g):=by
 have ll:lo+1 - 1=lo:=by omega
 refine wpS_bind (wpS_mono (wpS_forRange (I:=fun x c st'=>st'=mk κ a pd g/\c=(none,x)/\Up rk a lo (lo+x))
  (Q:=fun c st'=>st'=mk κ a pd g/\∃ n,c=(none,n)/\1<=n/\n<=nrem/\Up rk a lo (lo+n)/\(n=nrem\/K rk a (lo+n) < K rk a (lo+n - 1))) ?step ?fin ⟨rfl,rfl,fun i j h1 h2 h3=>by rw[show i=j by omega];exact Ve _⟩) ?post)
 case step =>
  rintro x c st' hx1 hx2 ⟨rfl,rfl,u⟩;dsimp only;refine wpS_bind (Xhb L hS (by omega) (by omega) ?_)
  by_cases hw:K rk a (lo+x) < K rk a (lo+x - 1)
  ·simp only[hw,decide_true,if_true]
   exact wpS_pure ⟨rfl,x,rfl,hx1,by omega,u,.inr hw⟩
  ·simp only[hw,decide_false,Bool.false_eq_true,if_false]
   exact wpS_pure ⟨rfl,rfl,u.step hx1 hw⟩
 case fin =>
  rintro c st' ⟨rfl,rfl,u⟩;have e:max 1 nrem=nrem:=by omega
  exact⟨rfl,_,rfl,by omega,by omega,u,.inl e⟩
 case post =>
  rintro c st' ⟨rfl,n,rfl,hn1,hn2,u,hor⟩;dsimp only
  by_cases hnn:n=nrem
  ·rw[if_pos (by simpa using hnn)]
   exact wpS_pure (h n a hn1 hn2 Ch.refl u)
  rw[if_neg (by simpa using hnn)]
  have hlt:=hor.resolve_left hnn
  suffices D:∀ b:Array Keyed,Ch rk lo (lo+nrem) a b->Dn rk b lo (lo+(n+1))->wpS (model prog w) A E s _ Q (mk κ b pd g) by
   by_cases hg:n > 1
   ·rw[if_pos hg]
    refine wpS_bind (Xhb L hS (by omega) (by omega) ?_)
    by_cases hr:K rk a lo < K rk a (lo+n - 1)
    ·simp only[hr,decide_true,if_true]
     exact wpS_pure (h n a hn1 hn2 Ch.refl u)
    ·simp only[hr,decide_false,Bool.false_eq_true,if_false]
     have eq:∀ k,lo<=k->k < lo+n->K rk a k=K rk a (lo+n - 1):=fun k h1 h2=>by
      have a1:=u lo k (Ve _) h1 h2;have a2:=u k (lo+n - 1) h1 (by omega) (by omega)
      omega
     have rs:=J4a (rk:=rk) (a:=a) (i:=lo) (j:=lo+n) (by omega) eq
     refine wpS_bind (XZa (D _ (Ch.rev (by omega) (Ve _) (by omega)) ?_))
     refine Dn.step (fun i j h1 h2 h3=>?_) hn1 ?_
     ·rw[rs,rs,eq i h1 (by omega),eq j (by omega) h3];exact Ve _
     ·rw[rs,rs];exact Vv hlt
   ·rw[if_neg hg]
    have:n=1:=by omega
    subst this;exact D a Ch.refl (Dn.step (fun i j h1 h2 h3=>by rw[show i=j by omega];exact Ve _) (Ve _) (Vv hlt))
  intro b cb db;refine wpS_bind (wpS_lift (wpAny_rule ⟨rfl,?_⟩))
  refine wpS_bind (wpS_mono (wpS_forRange (I:=fun x c st'=>∃ b' q,c=(none,x,q)/\st'=mk κ b' pd g/\Ch rk lo (lo+nrem) a b'/\Dn rk b' lo (lo+x)/\q+1<=x/\∀ i,lo+x - (q+1)<=i->i < lo+x->K rk b' i=K rk b' (lo+x - 1))
   (Q:=fun c st'=>∃ b' n' q,c=(none,n',q)/\st'=mk κ b' pd g/\n'<=nrem/\Ch rk lo (lo+nrem) a b'/\Dn rk b' lo (lo+n')/\q+1<=n'/\∀ i,lo+n' - (q+1)<=i->i < lo+n'->K rk b' i=K rk b' (lo+n' - 1)) ?dstep ?dfin ⟨b,0,rfl,rfl,cb,db,by omega,fun i h1 h2=>by congr 1;omega⟩) ?dpost)
  case dfin =>
   rintro c st' ⟨b',q,rfl,rfl,cb,db,hq,he⟩;exact⟨b',_,q,rfl,rfl,by omega,cb,db,hq,he⟩
  case dstep =>
   rintro x c st' hx1 hx2 ⟨b',q,rfl,rfl,cb,db,hq,he⟩;dsimp only;have bs:=cb.size;have hS':=cb.all hS;refine wpS_bind (Xhb L hS' (by omega) (by omega) ?_)
   by_cases hw:K rk b' (lo+x) < K rk b' (lo+x - 1)
   ·simp only[hw,decide_true,if_true]
    have one:∀ (y:Array Keyed) i,lo+(x+1) - (0+1)<=i->i < lo+(x+1)->K rk y i=K rk y (lo+(x+1) - 1):=fun y i h1 h2=>by congr 1;omega
    by_cases hq0:q > 0
    ·rw[if_pos hq0]
     have rs:=J4a (rk:=rk) (a:=b') (i:=lo+x - (q+1)) (j:=lo+x) (by omega) he
     refine wpS_bind (XZa (wpS_pure ⟨_,0,rfl,rfl,cb.trans (Ch.rev (by omega) (by omega) (by omega)),?_,by omega,one _⟩))
     refine Dn.step (fun i j h1 h2 h3=>?_) (by omega) ?_
     ·rw[rs,rs];exact db i j h1 h2 h3
     ·rw[rs,rs];exact Vv hw
    ·rw[if_neg hq0]
     exact wpS_pure ⟨b',0,rfl,rfl,cb,db.step (by omega) (Vv hw),by omega,one _⟩
   ·simp only[hw,decide_false,Bool.false_eq_true,if_false]
    refine wpS_bind (Xhb L hS' (by omega) (by omega) ?_)
    by_cases hv:K rk b' (lo+x - 1) < K rk b' (lo+x)
    ·simp only[hv,decide_true,if_true]
     exact wpS_pure ⟨b',x,q,rfl,rfl,by omega,cb,db,hq,he⟩
    ·simp only[hv,decide_false,Bool.false_eq_true,if_false]
     have e2:K rk b' (lo+x)=K rk b' (lo+x - 1):=by omega
     refine wpS_pure ⟨b',q+1,rfl,rfl,cb,db.step (by omega) (by omega),by omega,fun i h1 h2=>?_⟩
     rw[show lo+(x+1) - 1=lo+x by omega]
     by_cases hi:i=lo+x
     ·rw[hi]
     ·rw[e2];exact he i (by omega) (by omega)
  case dpost =>
   rintro c st' ⟨b',n',q,rfl,rfl,hn',cb,db,hq,he⟩;dsimp only;have bs:=cb.size
   suffices T:∀ c:Array Keyed,Ch rk lo (lo+nrem) a c->Dn rk c lo (lo+n')->wpS (model prog w) A E s _ Q (mk κ c pd g) by
    by_cases hq0:q > 0
    ·rw[if_pos hq0]
     have rs:=J4a (rk:=rk) (a:=b') (i:=lo+n' - (q+1)) (j:=lo+n') (by omega) he
     refine wpS_bind (XZa (T _ (cb.trans (Ch.rev (by omega) (by omega) (by omega))) fun i j h1 h2 h3=>?_))
     rw[rs,rs];exact db i j h1 h2 h3
    ·rw[if_neg hq0]
     exact T b' cb db
   intro c cc dc;have cs:=cc.size;refine wpS_bind (XZa ?_)
   have ce:Ch rk lo (lo+nrem) a (mirror c lo (lo+n') ((lo+n' - lo) / 2)):=cc.trans (Ch.rev (by omega) (Ve _) (by omega))
   have ue:Up rk (mirror c lo (lo+n') ((lo+n' - lo) / 2)) lo (lo+n'):=fun i j h1 h2 h3=>by
    rw[Yub (by omega),Yub (by omega),if_pos (by omega),if_pos (by omega)]
    exact dc _ _ (by omega) (by omega) (by omega)
   generalize mirror c lo (lo+n') ((lo+n' - lo) / 2)=e at ce ue ⊢;have es:=ce.size;refine wpS_bind (wpS_mono (wpS_forRange (I:=fun x c st'=>st'=mk κ e pd g/\c=(none,x)/\Up rk e lo (lo+x))
    (Q:=fun c st'=>st'=mk κ e pd g/\∃ n,c=(none,n)/\1<=n/\n<=nrem/\Up rk e lo (lo+n)) ?estep ?efin ⟨rfl,rfl,ue⟩) ?epost)
   case estep =>
    rintro x c st' hx1 hx2 ⟨rfl,rfl,u⟩;dsimp only;refine wpS_bind (Xhb L (ce.all hS) (by omega) (by omega) ?_)
    by_cases hw:K rk e (lo+x) < K rk e (lo+x - 1)
    ·simp only[hw,decide_true,if_true]
     exact wpS_pure ⟨rfl,x,rfl,by omega,by omega,u⟩
    ·simp only[hw,decide_false,Bool.false_eq_true,if_false]
     exact wpS_pure ⟨rfl,rfl,u.step (by omega) hw⟩
   case efin =>
    rintro c st' ⟨rfl,rfl,u⟩;exact⟨rfl,_,rfl,by omega,by omega,u⟩
   case epost =>
    rintro c st' ⟨rfl,m,rfl,hm1,hm2,u⟩;exact wpS_pure (h m e hm1 hm2 ce u)
theorem YMa(L:Zva prog w A E s κ rk S){a:Array Keyed}{pd:Array (Nat×Nat×Nat)}{g lo n ok:Nat}{Q:Bool->SortSt->Prop}(hS:∀ x∈a,S x)(hsz:lo+n<=a.size)(hok:1<=ok)(hn:ok<=n)(u:Up rk a lo (lo+ok))
 (h:∀ b,Ch rk lo (lo+n) a b->Up rk b lo (lo+n)->Q true (mk κ b pd g)):wpS (model prog w) A E s (binarySort' lo n ok) Q (mk κ a pd g):=by
 refine wpS_bind (wpS_mono (wpS_forRange (I:=fun x c st'=>c=(none,())/\∃ b,st'=mk κ b pd g/\Ch rk lo (lo+n) a b/\Up rk b lo (lo+x)) (Q:=fun c st'=>c=(none,())/\∃ b,st'=mk κ b pd g/\Ch rk lo (lo+n) a b/\Up rk b lo (lo+n)) ?step ?fin ⟨rfl,a,rfl,Ch.refl,by rw[show max ok 1=ok by omega];exact u⟩) ?post)
 case fin =>
  rintro c st' ⟨rfl,b,rfl,cb,ub⟩;rw[show max (max ok 1) n=n by omega]at ub
  exact⟨rfl,b,rfl,cb,ub⟩
 case post =>
  rintro c st' ⟨rfl,b,rfl,cb,ub⟩;exact wpS_pure (h b cb ub)
 case step =>
  rintro k c st' hk1 hk2 ⟨rfl,b,rfl,cb,ub⟩;have bs:=cb.size;dsimp only;refine wpS_bind (wpS_mono (wpS_forRange (I:=fun x c st'=>st'=mk κ b pd g/\∃ l r,c=(none,l,r)/\l<=r/\r<=k/\r - l<=k - x/\(∀ i,lo<=i->i < lo+l->K rk b i<=K rk b (lo+k))/\∀ i,lo+r<=i->i < lo+k->K rk b (lo+k) < K rk b i)
   (Q:=fun c st'=>st'=mk κ b pd g/\∃ l r,c=(none,l,r)/\l<=k/\(∀ i,lo<=i->i < lo+l->K rk b i<=K rk b (lo+k))/\∀ i,lo+l<=i->i < lo+k->K rk b (lo+k) < K rk b i) ?istep ?ifin ⟨rfl,0,k,rfl,by omega,by omega,by omega,fun i h1 h2=>by omega,fun i h1 h2=>by omega⟩) ?ipost)
  case ifin =>
   rintro c st' ⟨rfl,l,r,rfl,h1,h2,h3,h4,h5⟩;have:l=r:=by omega
   subst this;exact⟨rfl,l,l,rfl,h2,h4,h5⟩
  case istep =>
   rintro x c st' _ hx ⟨rfl,l,r,rfl,h1,h2,h3,h4,h5⟩;dsimp only
   by_cases hge:l >= r
   ·rw[if_pos hge]
    have:l=r:=by omega
    subst this;exact wpS_pure ⟨rfl,l,l,rfl,h2,h4,h5⟩
   ·rw[if_neg hge]
    refine wpS_bind (Xhb L (cb.all hS) (by omega) (by omega) ?_)
    by_cases hw:K rk b (lo+k) < K rk b (lo+(l+r) / 2)
    ·simp only[hw,decide_true,if_true]
     exact wpS_pure ⟨rfl,l,_,rfl,by omega,by omega,by omega,h4,fun i a1 a2=>Vt hw (ub _ i (by omega) a1 a2)⟩
    ·simp only[hw,decide_false,Bool.false_eq_true,if_false]
     exact wpS_pure ⟨rfl,_,r,rfl,by omega,by omega,by omega,fun i a1 a2=>Vj (ub i (lo+(l+r) / 2) a1 (by omega) (by omega)) (Nat.not_lt.mp hw),h5⟩
  case ipost =>
   rintro c st' ⟨rfl,l,r,rfl,h1,h4,h5⟩;have e:lo+k - (lo+k - (lo+l))=lo+l:=by omega
   refine wpS_bind (wpS_modify (wpS_pure ⟨rfl,bubble b (lo+k) (lo+k - (lo+l)),rfl,cb.trans (Ch.bub (by omega) (by omega) (by omega) (by omega)),fun i j a1 a2 a3=>?_⟩))
   rw[Qsc (by omega) (by omega),Qsc (by omega) (by omega),e]
   by_cases i1:i=lo+l
   ·rw[if_pos i1]
    by_cases j1:j=lo+l
    ·rw[if_pos j1];exact Ve _
    ·rw[if_neg j1,if_pos (by omega)]
     exact Vv (h5 _ (by omega) (by omega))
   ·rw[if_neg i1]
    by_cases i2:lo+l < i/\i<=lo+k
    ·rw[if_pos i2,if_neg (by omega),if_pos (by omega)]
     exact ub _ _ (by omega) (by omega) (by omega)
    ·rw[if_neg i2]
     by_cases j1:j=lo+l
     ·rw[if_pos j1];exact h4 i a1 (by omega)
     ·rw[if_neg j1]
      by_cases j2:lo+l < j/\j<=lo+k
      ·rw[if_pos j2];exact ub _ _ (by omega) (by omega) (by omega)
      ·rw[if_neg j2];exact ub _ _ (by omega) (by omega) (by omega)
end
end SortB
end
section
namespace SortB
open PySem PySem.W PyProof.Rows
def Cov(rk:Keyed->Nat)(a:Array Keyed):List (Nat×Nat×Nat)->Nat->Nat->Prop
 | [],lo,hi=>lo=hi
 | (s,n,_)::r,lo,hi=>s=lo/\0 < n/\Up rk a lo (lo+n)/\Cov rk a r (lo+n) hi
section
variable{rk:Keyed->Nat}{a b:Array Keyed}{l r:List (Nat×Nat×Nat)}{lo hi mid:Nat}
theorem Cov.le:∀ {l:List (Nat×Nat×Nat)} {lo hi:Nat},Cov rk a l lo hi->lo+l.length<=hi
 | [],lo,hi,h=>by have:lo=hi:=h;simp;omega
 | (s,n,p)::r,lo,hi,h=>by
  obtain⟨_,h1,_,h2⟩:=h;have:=Cov.le h2;rw[length_cons];omega
theorem Cov.app:∀ {l:List (Nat×Nat×Nat)} {lo:Nat},Cov rk a (l++r) lo hi↔∃ mid,Cov rk a l lo mid/\Cov rk a r mid hi
 | [],lo=>⟨fun h=>⟨lo,rfl,h⟩,fun⟨m,e,h⟩=>by have:lo=m:=e;subst this;exact h⟩
 | (s,n,p)::l,lo=>by
  show(s=lo/\0 < n/\Up rk a lo (lo+n)/\Cov rk a (l++r) (lo+n) hi)↔∃ mid,(s=lo/\0 < n/\Up rk a lo (lo+n)/\Cov rk a l (lo+n) mid)/\Cov rk a r mid hi;rw[Cov.app];exact⟨fun⟨a1,a2,a3,m,a4,a5⟩=>⟨m,⟨a1,a2,a3,a4⟩,a5⟩,fun⟨m,⟨a1,a2,a3,a4⟩,a5⟩=>⟨a1,a2,a3,m,a4,a5⟩⟩
theorem Cov.ext:∀ {l:List (Nat×Nat×Nat)} {lo:Nat},Cov rk a l lo hi->(∀ j,lo<=j->j < hi->K rk b j=K rk a j)->Cov rk b l lo hi
 | [],_,h,_=>h
 | (s,n,p)::l,lo,h,e=>by
  obtain⟨a1,a2,a3,a4⟩:=h;have:=Cov.le a4;exact⟨a1,a2,a3.ext fun i h1 h2=>e i h1 (by omega),a4.ext fun j h1 h2=>e j (by omega) h2⟩
theorem Cov.pow:∀ {l l':List (Nat×Nat×Nat)} {lo:Nat},l.map (fun x=>(x.1,x.2.1))=l'.map (fun x=>(x.1,x.2.1))->Cov rk a l lo hi->Cov rk a l' lo hi
 | [],[],_,_,h=>h
 | [],_::_,_,e,_=>by simp at e
 | _::_,[],_,e,_=>by simp at e
 | (s,n,p)::l,(s',n',p')::l',lo,e,h=>by
  simp only[map_cons,List.cons.injEq,Prod.mk.injEq]at e;obtain⟨⟨rfl,rfl⟩,e⟩:=e;obtain⟨a1,a2,a3,a4⟩:=h;exact⟨a1,a2,a3,Cov.pow e a4⟩
theorem Y1c{l:List (Nat×Nat×Nat)}{i:Nat}(h:i+1 < l.length):l=l.take i++l[i]::l[i+1]::l.drop (i+2):=by
 have e1:l.drop i=l[i]::l.drop (i+1):=drop_eq_getElem_cons (by omega)
 have e2:l.drop (i+1)=l[i+1]::l.drop (i+1+1):=drop_eq_getElem_cons h;rw[<- e2,<- e1,take_append_drop]
theorem X0c{pd:Array (Nat×Nat×Nat)}{i:Nat}{v:Nat×Nat×Nat}(h:i+1 < pd.size):((pd.setIfInBounds i v).eraseIdxIfInBounds (i+1)).toList=pd.toList.take i++v::pd.toList.drop (i+2):=by
 have hs:i+1 < (pd.setIfInBounds i v).size:=by simpa using h
 rw[Array.eraseIdxIfInBounds_eq,dif_pos hs,Array.toList_eraseIdx,Array.toList_setIfInBounds,eraseIdx_eq_take_drop_succ];rw[set_eq_take_append_cons_drop,if_pos (by simp;omega)]
 have e1:(pd.toList.take i).length=i:=by simp;omega
 rw[take_append,drop_append,e1,take_of_length_le (by omega),drop_of_length_le (by omega:(pd.toList.take i).length<=i+1+1)]
 rw[show i+1 - i=1 by omega,show i+1+1 - i=2 by omega]
 simp
end
section
variable{prog:Program}{w:World}{A:Around}{E:YQ_}{s:Shared}{κ:SortKind}{rk:Keyed->Nat}{S:Keyed->Prop}
theorem J5a(L:Zva prog w A E s κ rk S){b:Array Keyed}{pd:Array (Nat×Nat×Nat)}{g i hi:Nat}{Q:Bool->SortSt->Prop}(hS:∀ x∈b,S x)(hsz:hi<=b.size)(cv:Cov rk b pd.toList 0 hi)(hi1:i+1 < pd.size)
 (h:∀ c pd' g',Ch rk 0 hi b c->Cov rk c pd'.toList 0 hi->pd'.size+1=pd.size->Q true (mk κ c pd' g')):wpS (model prog w) A E s (mergeAt' i) Q (mk κ b pd g):=by
 have hl:i+1 < pd.toList.length:=by simpa using hi1
 have sp:=Y1c hl;rw[sp]at cv;obtain⟨mid,c1,c2⟩:=Cov.app.mp cv;have g1:pd[i]?=some pd.toList[i]:=by simp[show i < pd.size by omega]
 have g2:pd[i+1]?=some pd.toList[i+1]:=by simp[hi1]
 generalize pd.toList[i]=u at c2 g1 sp;generalize pd.toList[i+1]=v at c2 g2 sp;obtain⟨sa,na,p⟩:=u;obtain⟨sb,nb,q⟩:=v;obtain⟨rfl,n1,u1,rfl,n2,u2,c3⟩:=c2;have le3:=c3.le;refine Jyb L rfl rfl hS g1 g2 n1 n2 (by show sa+na+nb<=b.size;omega) u1 u2 fun c g' ch up=>h c _ g' (ch.mono (Vk _) (by omega)) ?_ ?_
 ·show Cov rk c ((pd.setIfInBounds i (sa,na+nb,p)).eraseIdxIfInBounds (i+1)).toList 0 hi
  rw[X0c hi1];have le1:=c1.le;refine Cov.app.mpr ⟨sa,c1.ext fun j h1 h2=>ch.out j (by omega),rfl,by omega,?_,?_⟩
  ·rw[<- Nat.add_assoc];exact up
  ·rw[<- Nat.add_assoc];exact c3.ext fun j h1 h2=>ch.out j (by omega)
 ·show((pd.setIfInBounds i (sa,na+nb,p)).eraseIdxIfInBounds (i+1)).size+1=pd.size
  rw[<- Array.length_toList,X0c hi1];simp
  omega
theorem Zfb(L:Zva prog w A E s κ rk S){a:Array Keyed}{g:Nat}{Q:Unit->SortSt->Prop}(hS:∀ x∈a,S x)(h2:2<=a.size)
 (h:∀ b pd g,b.Perm a->Up rk b 0 a.size->Q () (mk κ b pd g)):wpS (model prog w) A E s sortRuns' Q (mk κ a #[] g):=by
 have pend:∀ b pd g,pendingOf (mk κ b pd g)=pd:=fun _ _ _=>rfl
 rw[sortRuns'_eq];refine wpS_bind (wpS_get ?_)
 dsimp only;rw[show arrOf (mk κ a #[] g)=a from rfl]
 generalize minRun' a.size a.size 0=mr;refine wpS_bind (wpS_mono (wpS_forRange (I:=fun x c st'=>∃ lo b pd g,c=(none,lo)/\st'=mk κ b pd g/\b.Perm a/\lo<=a.size/\x<=lo/\Cov rk b pd.toList 0 lo)
  (Q:=fun c st'=>∃ b pd g,c=(none,a.size)/\st'=mk κ b pd g/\b.Perm a/\Cov rk b pd.toList 0 a.size) ?step ?fin ⟨0,a,#[],g,rfl,rfl,Array.Perm.refl _,by omega,by omega,rfl⟩) ?post)
 case fin =>
  rintro c st' ⟨lo,b,pd,g,rfl,rfl,pb,h1,h3,cv⟩;have:lo=a.size:=by omega
  subst this;exact⟨b,pd,g,rfl,rfl,pb,cv⟩
 case post =>
  rintro c st' ⟨b,pd,g,rfl,rfl,pb,cv⟩;dsimp only;have hlen:pd.size<=a.size:=by have:=cv.le;simpa using this
  refine wpS_bind (wpS_mono (wpS_forRange (I:=fun x c st'=>c=(none,())/\∃ b pd g,st'=mk κ b pd g/\b.Perm a/\Cov rk b pd.toList 0 a.size/\pd.size+x<=a.size) (Q:=fun c st'=>c=(none,())/\∃ b pd g,st'=mk κ b pd g/\b.Perm a/\Cov rk b pd.toList 0 a.size/\pd.size<=1) ?lstep ?lfin ⟨rfl,b,pd,g,rfl,pb,cv,hlen⟩) ?lpost)
  case lfin =>
   rintro c st' ⟨rfl,b,pd,g,rfl,pb,cv,hx⟩;exact⟨rfl,b,pd,g,rfl,pb,cv,by omega⟩
  case lpost =>
   rintro c st' ⟨rfl,b,pd,g,rfl,pb,cv,hx⟩;refine wpS_pure (h b pd g pb ?_)
   have hx':pd.toList.length<=1:=by simpa using hx
   match hpd:pd.toList,hx',cv with
   | [],_,cv=>have:0=a.size:=cv;omega
   | [(s0,n0,p0)],_,cv =>
    obtain⟨e1,_,u,e2⟩:=cv;have e2:0+n0=a.size:=e2;rw[<- e2];exact u
   | _::_::_,hx',_=>simp at hx'
  case lstep =>
   rintro x c st' _ hx ⟨rfl,b,pd,g,rfl,pb,cv,hx2⟩;refine wpS_bind (wpS_get ?_)
   rw[pend]
   by_cases hs:pd.size<=1
   ·rw[if_pos hs]
    exact wpS_pure ⟨rfl,b,pd,g,rfl,pb,cv,hs⟩
   rw[if_neg hs];refine wpS_bind (J5a L (fun x hx=>hS x (pb.mem_iff.mp hx)) (by rw[pb.size_eq];exact Ve _) cv ?_ fun c pd' g' ch cv' hsz=>?_)
   ·have hif:∀ (c:Bool) (i:Nat),(if c=true then i - 1 else i)<=i:=fun c i=>by cases c <;> simp
    exact Nat.lt_of_le_of_lt (Nat.add_le_add_right (hif _ _) 1) (by omega)
   ·exact wpS_pure ⟨rfl,c,pd',g',rfl,ch.perm.trans pb,cv',by omega⟩
 case step =>
  rintro x c st' _ hx ⟨lo,b,pd,g,rfl,rfl,pb,h1,h3,cv⟩;dsimp only
  by_cases hge:lo >= a.size
  ·rw[if_pos hge]
   have:lo=a.size:=by omega
   subst this;exact wpS_pure ⟨b,pd,g,rfl,rfl,pb,cv⟩
  rw[if_neg hge];have bsz:=pb.size_eq
  suffices T:∀ (n:Nat) (b:Array Keyed),1<=n->lo+n<=a.size->b.Perm a->Cov rk b pd.toList 0 lo->Up rk b lo (lo+n)->wpS (model prog w) A E s _ _ (mk κ b pd g) by
   refine wpS_bind (Zeb L (fun x hx=>hS x (pb.mem_iff.mp hx)) (by omega) (by omega) fun found b1 f1 f2 ch1 up1=>?_)
   dsimp only;have pb1:b1.Perm a:=ch1.perm.trans pb;have cv1:Cov rk b1 pd.toList 0 lo:=cv.ext fun j _ h=>ch1.out j (by omega)
   by_cases hm:¬ found < mr
   ·rw[if_neg hm]
    exact T found b1 f1 (by omega) pb1 cv1 up1
   ·have hm:found < mr:=by omega
    rw[if_pos hm];refine wpS_bind (wpS_lift (wpAny_rule ⟨rfl,?_⟩))
    have bsz1:=pb1.size_eq;refine wpS_bind (YMa L (fun x hx=>hS x (pb1.mem_iff.mp hx)) (by omega) f1 (by omega) up1 fun b2 ch2 up2=>?_)
    rw[if_neg (by simp)]
    exact T _ b2 (by omega) (by omega) (ch2.perm.trans pb1) (cv1.ext fun j _ h=>ch2.out j (by omega)) up2
  clear cv pb bsz;intro n b hn1 hn2 pb cv up;have bsz:=pb.size_eq;refine wpS_bind (wpS_get ?_)
  rw[pend];cases hb:pd.back? with
  | none =>
   dsimp only;refine wpS_bind (wpS_modify (wpS_pure ⟨lo+n,b,pd.push (lo,n,0),g,rfl,rfl,pb,hn2,by omega,?_⟩))
   rw[Array.toList_push];exact Cov.app.mpr ⟨lo,cv,rfl,hn1,up,rfl⟩
  | some q =>
   obtain⟨s1,n1,p1⟩:=q;dsimp only;generalize power' a.size (2 * s1+n1) (2 * s1+n1+n1+n) a.size=pw;refine wpS_bind (wpS_mono (wpS_forRange (I:=fun y c st'=>c=(none,())/\∃ b pd g,st'=mk κ b pd g/\b.Perm a/\Cov rk b pd.toList 0 lo/\Up rk b lo (lo+n)) (Q:=fun c st'=>c=(none,())/\∃ b pd g,st'=mk κ b pd g/\b.Perm a/\Cov rk b pd.toList 0 lo/\Up rk b lo (lo+n)) ?mstep (fun _ _ z=>z) ⟨rfl,b,pd,g,rfl,pb,cv,up⟩) ?mpost)
   case mstep =>
    rintro y c st' _ _ ⟨rfl,b,pd,g,rfl,pb,cv,up⟩;refine wpS_bind (wpS_get ?_)
    rw[pend];have bsz:=pb.size_eq
    by_cases hs:pd.size > 1
    ·rw[if_pos hs]
     cases hq:pd[pd.size - 2]? with
     | none=>exact wpS_pure ⟨rfl,b,pd,g,rfl,pb,cv,up⟩
     | some q =>
      obtain⟨s2,n2,p2⟩:=q;dsimp only
      by_cases ho:p2<=pw
      ·rw[if_pos ho]
       exact wpS_pure ⟨rfl,b,pd,g,rfl,pb,cv,up⟩
      ·rw[if_neg ho]
       refine wpS_bind (J5a L (fun x hx=>hS x (pb.mem_iff.mp hx)) (by omega) cv (by omega) fun c pd' g' ch cv' hsz=>?_)
       rw[if_neg (by simp)]
       exact wpS_pure ⟨rfl,c,pd',g',rfl,ch.perm.trans pb,cv',up.ext fun i h1 h2=>ch.out i (by omega)⟩
    ·rw[if_neg hs]
     exact wpS_pure ⟨rfl,b,pd,g,rfl,pb,cv,up⟩
   case mpost =>
    rintro c st' ⟨rfl,b,pd,g,rfl,pb,cv,up⟩;dsimp only;refine wpS_bind (wpS_modify (wpS_bind (wpS_modify (wpS_pure ⟨lo+n,b,_,g,rfl,rfl,pb,hn2,by omega,?_⟩))))
    show Cov rk b ((pd.modify (pd.size - 1) fun x=>(x.1,x.2.1,pw)).push (lo,n,0)).toList 0 (lo+n)
    rw[Array.toList_push];refine Cov.app.mpr ⟨lo,Cov.pow ?_ cv,rfl,hn1,up,rfl⟩
    rw[Array.toList_modify]
    apply ext_getElem?
    intro i;rw[getElem?_map,getElem?_map,getElem?_modify]
    cases pd.toList[i]? with
    | none=>rfl
    | some v=>simp only[Option.map_some];split <;> rfl
end
end SortB
end
section
namespace SortB
open PySem PySem.W PyProof.Rows
theorem Xib{α β:Type}{f:α->β}{l' m:List β}(p:l'.Perm m):∀ l:List α,m=l.map f->∃ q:List α,q.Perm l/\l'=q.map f:=by
 induction p with
 | nil=>intro l e;exact⟨[],by rw[map_eq_nil_iff.mp e.symm],rfl⟩
 | cons x p ih =>
  intro l e;cases l with
  | nil=>simp at e
  | cons a l =>
   simp only[map_cons,List.cons.injEq]at e;obtain⟨q,hq,rfl⟩:=ih l e.2;exact⟨a::q,hq.cons a,by rw[map_cons,e.1]⟩
 | swap x y l0 =>
  intro l e
  match l,e with
  | a::b::l,e =>
   simp only[map_cons,List.cons.injEq]at e;exact⟨b::a::l,List.Perm.swap a b l,by rw[map_cons,map_cons,e.1,e.2.1,e.2.2]⟩
 | trans p1 p2 ih1 ih2 =>
  intro l e;obtain⟨q2,h2,e2⟩:=ih2 l e;obtain⟨q1,h1,e1⟩:=ih1 q2 e2;exact⟨q1,h1.trans h2,e1⟩
open Classical in
noncomputable def Jec (it:Nat->Keyed) (n:Nat) (r:Nat->Nat) (x:Keyed):Nat:=if h:∃ i,i < n/\it i=x then r h.choose else 0
theorem X0a{it:Nat->Keyed}{n:Nat}{r:Nat->Nat}(hw:∀ i j,i < n->j < n->it i=it j->r i=r j){i:Nat}(hi:i < n):Jec it n r (it i)=r i:=by
 unfold Jec;have h:∃ j,j < n/\it j=it i:=⟨i,hi,rfl⟩;rw[dif_pos h];exact hw _ _ h.choose_spec.1 hi h.choose_spec.2
section
variable{prog:Program}{w:World}{A:Around}{E:YQ_}{s:Shared}{κ:SortKind}{ks vs:List Value}{r:Nat->Nat}
theorem Jfc(hl:ks.length=vs.length)(h2:2<=vs.length)(hc:∀ i j (C:Bool->Shared->Prop),i < vs.length->j < vs.length->C (decide (r i < r j)) s->kas_ask prog w A κ ks i j C s)
 (hw:∀ i j,i < vs.length->j < vs.length->ks.getD i Value.none=ks.getD j Value.none->r i=r j) :
 wpAny (model prog w) A (sortRuns'.run (SortSt.mk' κ (ks.toArray.zip vs.toArray) #[] 7 none)) (fun x s'=>∃ p:Array Nat,arrOf x.2=p.map (kas_item (ks.toArray.zip vs.toArray))/\failedOf x.2=none/\s'=s/\SortT.Ok vs.length p/\SortT.Up r p vs.length) E s:=by
 have it:∀ i,kas_item (ks.toArray.zip vs.toArray) i=(ks.getD i Value.none,vs.getD i Value.none):=kat_item hl;have sz:(ks.toArray.zip vs.toArray).size=vs.length:=by simp[hl]
 have rng:=kas_range (ks.toArray.zip vs.toArray);rw[sz]at rng;have al:(ks.toArray.zip vs.toArray).toList=(List.range vs.length).map (kas_item (ks.toArray.zip vs.toArray)):=by
  have:=congrArg Array.toList rng;rw[Array.toList_map]at this;exact this.symm
 have hw':∀ i j,i < vs.length->j < vs.length->kas_item (ks.toArray.zip vs.toArray) i=kas_item (ks.toArray.zip vs.toArray) j->r i=r j:=fun i j hi hj e=>by
  rw[it,it]at e;exact hw i j hi hj (Prod.mk.inj e).1
 have L:Zva prog w A E s κ (Jec (kas_item (ks.toArray.zip vs.toArray)) vs.length r) (fun x=>∃ i,i < vs.length/\kas_item (ks.toArray.zip vs.toArray) i=x):=by
  rintro x y st Q hk ⟨i,hi,rfl⟩ ⟨j,hj,rfl⟩ hq;rw[X0a hw' hi,X0a hw' hj]at hq;rw[lt'_eq];refine wpS_bind (wpS_get ?_)
  rw[hk,it,it];have:=hc i j (fun b s'=>s'=s/\b=decide (r i < r j)) hi hj ⟨rfl,rfl⟩
  unfold kas_ask at this;refine wpS_bind (wpS_lift (wpAny_attempt (wpAny_mono this (fun b s' hb=>?_) fun _ _ z=>z.elim)))
  obtain⟨e1,e2⟩:=hb;subst e1 e2;exact⟨rfl,wpS_pure hq⟩
 have run:=Zfb L (a:=ks.toArray.zip vs.toArray) (g:=7) (Q:=fun _ st'=>∃ p:Array Nat,arrOf st'=p.map (kas_item (ks.toArray.zip vs.toArray))/\failedOf st'=none/\SortT.Ok vs.length p/\SortT.Up r p vs.length) (fun x hx=>?_) (by omega) fun b pd g pb up=>?_
 ·unfold wpS at run
  refine wpAny_mono run (fun x s' hx=>?_) fun _ _ z=>z
  obtain⟨e,p,a1,a2,a3,a4⟩:=hx;exact⟨p,a1,a2,e,a3,a4⟩
 ·have:=Array.mem_toList_iff.mpr hx
  rw[al]at this;obtain⟨i,hi,e⟩:=mem_map.mp this;exact⟨i,mem_range.mp hi,e⟩
 ·have pl:=Array.perm_iff_toList_perm.mp pb
  obtain⟨q,hq,eq⟩:=Xib pl _ al;have ql:q.length=vs.length:=by rw[hq.length_eq,length_range]
  have hb:b=q.toArray.map (kas_item (ks.toArray.zip vs.toArray)):=by
   apply Array.toList_inj.mp
   rw[Array.toList_map,eq]
  refine⟨q.toArray,hb,rfl,⟨by rw[Vn,ql],Array.perm_iff_toList_perm.mpr (by simpa using hq)⟩,fun i j hij hj=>?_⟩
  have hu:=up i j (Vk _) hij (by omega)
  have kk:∀ i,i < vs.length->K (Jec (kas_item (ks.toArray.zip vs.toArray)) vs.length r) b i=SortT.K r q.toArray i:=fun i hi=>by
   have hi':i < q.length:=by omega
   have hib:i < b.size:=by rw[hb];simp;omega
   rw[Za hib];have e1:b[i]=kas_item (ks.toArray.zip vs.toArray) q[i]:=by simp[hb]
   have e2:q[i] < vs.length:=mem_range.mp (hq.mem_iff.mp (getElem_mem hi'));rw[e1,X0a hw' e2];unfold SortT.K;simp[Array.getD,hi']
  rw[kk i (by omega),kk j hj]at hu
  exact hu
end
end SortB
end
section
namespace L2
open PySem PySem.Spec PyProof.Rows PySem.W
theorem Inv.adopt{X:Cx}{pins:YP_}{σ:St}{H:Hp}{s:Shared}{h':Heap}{D:Addr}{o:HO}{t':Nat}(I:Inv X pins σ H s)(f:QVa X pins H D)(k:∀ b u,b≠D->s.heap.get? b=some u->h'.get? b=some u)
 (new:QL X.prog X.w (upd H D o) h' D o):Inv X pins σ (upd H D o) { s with heap:=h',toks:=t' }:=by
 obtain⟨f0,f1,f2,f3,f4,f5⟩:=f;have nit:∀ b u,H b=some u->b≠D:=fun b u e z=>by rw[z,f0]at e;cases e
 refine I.step (g':=s.gens) (d':=s.drawn) (ch:=[D]) (fun b hb=>?_) (fun b o _ _ hc e _=>k b o (fun z=>hc (by simp[z])) e) (fun b o _ _ hc e _=>⟨o.slots,k b o (fun z=>hc (by simp[z])) e⟩) (fun b _ hc _ n=>by rw[Qi (fun z=>hc (by simp[z]))];exact n)
  (fun b o hc e=>⟨o,k b o (fun z=>hc (by simp[z])) e⟩) (fun b _ e=>by rw[Qi (nit _ _ e)];exact e) (fun b _ _ e=>by rw[Qi (nit _ _ e)];exact e) (fun b ps e=>⟨#[],by rw[Qi (nit _ _ e),e];simp⟩) (fun m hm=>?_) (fun b u e=>?_) I.bare
 ·have e:b=D:=by simpa using hb
  subst e;exact⟨f3,f1,f4,f5⟩
 ·obtain⟨o,es,ep,ho,r⟩:=hm
  exact⟨o,es,ep,k _ o (Ne.symm f1) ho,r⟩
 ·by_cases hb:b=D
  ·subst hb;rw[Qd]at e;cases e;exact new
  ·rw[Qi hb]at e
   refine(I.hok b u e).stay (fun c v hc q=>k c v ?_ q) (fun c q=>by rw[Qi (nit _ _ q)];exact q) fun c xs q=>by rw[Qi (nit _ _ q)];exact q
   rcases hc with z | z
   ·rw[z];exact hb
   ·exact nit c _ z
theorem QE.getD:∀ {xs:List V} {us:List Value},QE xs us->∀ i,QB (xs.getD i .non) (us.getD i Value.none):=fun {xs us} r i=>by
 cases e:xs[i]? with
 | none =>
  have e2:=r.none_of e;rw[getD_eq_getElem?_getD,getD_eq_getElem?_getD,e,e2]
  rfl
 | some x =>
  obtain⟨u,e2,ru⟩:=r.get e;rw[getD_eq_getElem?_getD,getD_eq_getElem?_getD,e,e2]
  exact ru
theorem QE.pick{xs:List V}{us:List Value}(r:QE xs us):∀ l:List Nat,QE (l.map fun i=>xs.getD i .non) (l.map fun i=>us.getD i Value.none)
 | []=>.nil
 | i::l=>.cons (r.getD i) (r.pick l)
theorem Xva{α:Type}{p q:α->Bool}:∀ {l:List α} {a:α},(∀ x∈l,p x=true->q x=true)->a∈l->q a=true->p a=false->l.countP p < l.countP q
 | x::l,a,h,hm,hq,hp=>by
  have mono:l.countP p<=l.countP q:=countP_mono_left fun y hy=>h y (Vo _ hy)
  rw[countP_cons,countP_cons]
  rcases mem_cons.mp hm with e | e
  ·subst e
   rw[hq,hp];simp only[Bool.false_eq_true,if_false,if_true]
   omega
  ·have ih:=Xva (fun y hy=>h y (Vo _ hy)) e hq hp
   have hx:=h x mem_cons_self;cases hpx:p x with
   | false=>simp only[Bool.false_eq_true,if_false];split <;> omega
   | true=>rw[hx hpx];simp only[if_true];omega
structure Swo{α:Type}(xs:List α)(lt:α->α->Bool):Prop where
 irr:∀ a∈xs,lt a a=false
 tr:∀ a∈xs,∀ b∈xs,∀ c∈xs,lt a b=true->lt b c=true->lt a c=true
 neg:∀ a∈xs,∀ b∈xs,∀ c∈xs,lt a c=true->lt a b=true\/lt b c=true
theorem Swo.rank{α:Type}{xs:List α}{lt:α->α->Bool}(w:Swo xs lt){a b:α}(ha:a∈xs)(hb:b∈xs):decide (xs.countP (lt · a) < xs.countP (lt · b))=lt a b:=by
 cases e:lt a b with
 | true=>exact decide_eq_true (Xva (fun x hx h=>w.tr x hx a ha b hb h e) ha e (w.irr a ha))
 | false =>
  refine decide_eq_false fun h=>?_
  have:xs.countP (lt · b)<=xs.countP (lt · a):=countP_mono_left fun x hx h=>(w.neg x hx a ha b hb h).elim id fun z=>by rw[e]at z;cases z
  omega
theorem Zgb{α:Type}{xs:List α}{i:Nat}{d:α}(h:i < xs.length):xs.getD i d∈xs:=by
 rw[getD_eq_getElem?_getD,Vb h]
 exact getElem_mem h
theorem Jzb{α:Type}{xs:List α}{d:α}{p:Array Nat}(h:SortT.Ok xs.length p):(p.toList.map fun i=>xs.getD i d).Perm xs:=by
 have h1:p.toList.Perm (List.range xs.length):=by
  have:=Array.perm_iff_toList_perm.mp h.perm
  simpa using this
 have h2:=h1.map (fun i=>xs.getD i d)
 have h3:(List.range xs.length).map (fun i=>xs.getD i d)=xs:=by
  apply ext_getElem
  ·simp
  ·intro i h1 h2
   simp[h2]
 rw[h3]at h2;exact h2
theorem Quc{xs:List V}{lt:V->V->Bool}(w:Swo xs lt){p:Array Nat}(h:SortT.Ok xs.length p)(hn:0 < xs.length)(u:SortT.Up (fun i=>xs.countP (lt · (xs.getD i .non))) p xs.length) :
 (p.toList.map fun i=>xs.getD i V.non).Pairwise fun a b=>lt b a=false:=by
 rw[pairwise_iff_getElem];intro i j hi hj hij;have hi':i < p.size:=by simpa using hi
 have hj':j < p.size:=by simpa using hj
 have hjn:j < xs.length:=by rw[<- h.size];exact hj'
 have:=u i j (by omega) hjn
 unfold SortT.K at this;have gi:p.getD i 0=p[i]:=by simp[Array.getD,hi']
 have gj:p.getD j 0=p[j]:=by simp[Array.getD,hj']
 have li:=h.lt hn i;have lj:=h.lt hn j;rw[gi]at this li;rw[gj]at this lj;have e1:(p.toList.map fun i=>xs.getD i V.non)[i]=xs.getD p[i] .non:=by simp
 have e2:(p.toList.map fun i=>xs.getD i V.non)[j]=xs.getD p[j] .non:=by simp
 rw[e1,e2,<- w.rank (Zgb lj) (Zgb li)];dsimp only at this;exact decide_eq_false (by omega)
section
variable{X:Cx}{pins:YP_}{σ:St}{H:Hp}{s:Shared}{k:Nat}{f:Addr}{fd:FuncData}{p0:Str}{sp:Sp}{A:Around}{E:YQ_}
theorem Qvc{α:Type}{R:α->α->Prop}:∀ {xs:List α},xs.length < 2->xs.Pairwise R
 | [],_=>List.Pairwise.nil
 | [a],_=>pairwise_singleton _ _
end
theorem Xwa:bootBuiltins "sorted"=some (.builtin "sorted"):=by decide +kernel
theorem Y2c(h:Heap)(vs:List Value):((h.push (seqObj "list" #[] 0)).update h.objs.size (Obj.mapSeq (·++vs.toArray))).objs.size=h.objs.size+1 /\
 ∀ b o,h.get? b=some o->((h.push (seqObj "list" #[] 0)).update h.objs.size (Obj.mapSeq (·++vs.toArray))).get? b=some o:=by
 constructor
 ·simp only[Heap.size_update,size_push']
 ·intro b o q
  have nb:b≠h.objs.size:=Nat.ne_of_lt (Vh q);exact((Heap.SameBut.update (h.push (seqObj "list" #[] 0)) h.objs.size _).2 b nb).trans (Vd _ q)
section
variable{X:Cx}{pins:YP_}{σ:St}{H:Hp}{s:Shared}{k:Nat}{f:Addr}{fd:FuncData}{p0:Str}{sp:Sp}
end
end L2
end
section
namespace L2
open PySem PySem.Spec PyProof.Rows
section
variable{X:Cx}{e:Expr}{es:List Expr}{te:TE}{pos:Pos}
end
theorem Xjb(z:Str):Str.empty++z=z:=by
 apply PyProof.Rows.ext_toList
 rw[W.KT.app_list];rfl
end L2
end
section
namespace Pl
open PySem L2
def Zt:V->Prop
 | .non=>True
 | .int i => -(10 ^ 30) < i/\i < 10 ^ 30
 | .str z=>z.length<=40
 | _=>False
def rk:V->List V
 | .non=>[.int 0,.int 0]
 | .str z=>[.int 2,.str z]
 | v=>[.int 1,v]
def ltV(a b:V):Bool:=(HT.Xe (rk a) (rk b)).getD false
theorem Y3c{a b:V}(ha:Zt a)(hb:Zt b):HT.Xe (rk a) (rk b)=some (ltV a b):=by
 unfold ltV;cases a <;> first | exact ha.elim | skip
 all_goals (cases b <;> first | exact hb.elim | skip)
 all_goals (simp only[rk,HT.Xe];repeat' (first | rfl | split))
theorem J9c:ltV .non .non=false:=rfl
theorem Yac(i:Int):ltV .non (.int i)=true:=rfl
theorem Ybc(z:Str):ltV .non (.str z)=true:=rfl
theorem Ycc(i:Int):ltV (.int i) .non=false:=rfl
theorem Ydc(z:Str):ltV (.str z) .non=false:=rfl
theorem Qwc(i:Int)(z:Str):ltV (.int i) (.str z)=true:=rfl
theorem Yec(i:Int)(z:Str):ltV (.str z) (.int i)=false:=rfl
theorem Yyb(i j:Int):ltV (.int i) (.int j)=decide (i < j):=by
 unfold ltV;simp only[rk,HT.Xe,if_true]
 by_cases e:i=j
 ·rw[if_pos e];subst e;simp
 ·rw[if_neg e];rfl
theorem Yzb(x y:Str):ltV (.str x) (.str y)=decide (x.cps.toList < y.cps.toList):=by
 unfold ltV;simp only[rk,HT.Xe,if_true]
 by_cases e:x=y
 ·rw[if_pos e];subst e
  have:¬ (x.cps.toList < x.cps.toList):=List.lt_irrefl _;simp[this]
 ·rw[if_neg e];rfl
theorem irr{a:V}(ha:Zt a):ltV a a=false:=by
 cases a <;> first | exact ha.elim | skip
 ·rfl
 ·rw[Yyb];simp
 ·rw[Yzb];exact decide_eq_false (List.lt_irrefl _)
theorem tr{a b c:V}(ha:Zt a)(hb:Zt b)(hc:Zt c)(h1:ltV a b=true)(h2:ltV b c=true):ltV a c=true:=by
 cases a <;> first | exact ha.elim | skip
 all_goals (cases b <;> first | exact hb.elim | skip)
 all_goals (cases c <;> first | exact hc.elim | skip)
 all_goals first | rfl | (exfalso;rw[J9c]at h1;cases h1;done) | (exfalso;rw[Ycc]at h1;cases h1;done) | (exfalso;rw[Ydc]at h1;cases h1;done) | (exfalso;rw[Yec]at h1;cases h1;done) | (exfalso;rw[J9c]at h2;cases h2;done) | (exfalso;rw[Ycc]at h2;cases h2;done) | (exfalso;rw[Ydc]at h2;cases h2;done) | (exfalso;rw[Yec]at h2;cases h2;done) | skip
 ·rw[Yyb,decide_eq_true_eq]at *;omega
 ·rw[Yzb,decide_eq_true_eq]at *;exact List.lt_trans h1 h2
theorem tri{a b:V}(ha:Zt a)(hb:Zt b)(h1:ltV a b=false)(h2:ltV b a=false):a=b:=by
 cases a <;> first | exact ha.elim | skip
 all_goals (cases b <;> first | exact hb.elim | skip)
 all_goals first | rfl | (exfalso;rw[Yac]at h1;cases h1;done) | (exfalso;rw[Ybc]at h1;cases h1;done) | (exfalso;rw[Qwc]at h1;cases h1;done) | (exfalso;rw[Yac]at h2;cases h2;done) | (exfalso;rw[Ybc]at h2;cases h2;done) | (exfalso;rw[Qwc]at h2;cases h2;done) | skip
 ·rw[Yyb,decide_eq_false_iff_not]at *
  congr 1;omega
 ·rw[Yzb,decide_eq_false_iff_not]at *
  congr 1
  exact PyProof.Rows.ext_toList (List.le_antisymm (List.not_lt.mp h2) (List.not_lt.mp h1))
end Pl
end
section
namespace L2
open PySem PySem.Spec PyProof.Rows
def Zl(H H':Hp):Prop:=∀ b xs,H b=some (.tup xs)->H' b=some (.tup xs)
theorem Qp.t{H H':Hp}(s:Qp H H'):Zl H H':=fun b xs e=>s b _ e
theorem Zl.refl(H:Hp):Zl H H:=fun _ _ e=>e
theorem Zl.trans{H H1 H2:Hp}(a:Zl H H1)(b:Zl H1 H2):Zl H H2:=fun c xs e=>b c xs (a c xs e)
theorem YZ{H:Hp}{D:Addr}{ys zs:List V}(h:H D=some (.lst ys)):Zl H (upd H D (.lst zs)):=fun b xs e=>by
 rw[Qi (Jf e h (by intro z;cases z))];exact e
theorem Jgc{J:It}{te:TE}{σ:St}{H1:Hp}{Q:VK}(n:Nat)(item:Nat->V->Prop)(P:Hp->Nat->V->Prop)(mono:∀ H H' i v,Zl H H'->P H i v->P H' i v)(hz:n<=sizeLine)
 (hgo:∀ i H2,i < n->Qp H1 H2->J.go i H2/\∀ x H',J.yld i H2 x H'->H'=H2/\item i x) (hst:∀ H2,Qp H1 H2->J.stop n H2)
 (he:∀ i x H2 (R:VK),item i x->Qp H1 H2->(∀ v H3,P H3 i v->Qp H2 H3->R v H3)->te (some x::σ) H2 R)
 (hq:∀ D H2 ys,H1 D=none->Qp H1 H2->H2 D=some (.lst ys)->ys.length=n->(∀ i y,ys[i]?=some y->P H2 i y)->Q (.ref D) H2):LcR J Q8b te σ Q H1:=by
 intro D hD;refine⟨fun i m ys H2=>m=n - i/\i<=n/\ys.length=i/\H2 D=some (.lst ys)/\Qp H1 H2/\∀ j y,ys[j]?=some y->P H2 j y,⟨_,rfl,Vk _,rfl,Qd,Qh hD _,fun j y h=>by simp at h⟩,?_⟩
 rintro i m ys H2 ⟨rfl,hi,hl,hd,sm,hp⟩;refine⟨hd,?_⟩
 by_cases hlt:i < n
 ·obtain⟨go,yl⟩:=hgo i H2 hlt sm
  refine .inr ⟨go,by omega,fun x H' y=>?_⟩
  obtain⟨e,hx⟩:=yl x H' y;subst e;unfold Q8b;refine XQc ?_
  refine he i x _ _ hx sm fun v H3 pv s3=>⟨s3 _ _ hd,n - (i+1),by omega,rfl,hlt,by rw[Vs,hl];rfl,Qd,(sm.trans s3).updL hD _,fun j y h=>?_⟩
  have st:=YZ (zs:=ys++[v]) (s3 _ _ hd)
  by_cases hj:j < ys.length
  ·rw[getElem?_append_left hj]at h
   exact mono _ _ _ _ (s3.t.trans st) (hp j y h)
  ·rw[getElem?_append_right (by omega)]at h
   have hj2:j=i:=by
    have:=(Vc.mp h).1
    simp at this
    omega
   subst hj2;rw[hl]at h;simp at h;subst h;exact mono _ _ _ _ st pv
 ·have e:i=n:=by omega
  subst e;exact .inl ⟨hst H2 sm,hq D H2 ys hD sm hd hl hp⟩
theorem Xkb{K:W.Frag}{a:Addr}(xs:List V){te:TE}{σ:St}{H1:Hp}{Q:VK}(P:Hp->Nat->V->Prop)(mono:∀ H H' i v,Zl H H'->P H i v->P H' i v)(hx:SqL K H1 a xs)(hz:xs.length<=sizeLine)
 (he:∀ i x H2 (R:VK),xs[i]?=some x->Qp H1 H2->(∀ v H3,P H3 i v->Qp H2 H3->R v H3)->te (some x::σ) H2 R)
 (hq:∀ D H2 ys,H1 D=none->Qp H1 H2->H2 D=some (.lst ys)->ys.length=xs.length->(∀ i y,ys[i]?=some y->P H2 i y)->Q (.ref D) H2):LcR (Itl K a) Q8b te σ Q H1 :=
 Jgc xs.length (fun i x=>xs[i]?=some x) P mono hz (fun i H2 hi s=>⟨⟨xs,xs[i],s.seq hx,by simp[hi]⟩,fun x H' y=>⟨y.1,y.2 xs (s.seq hx)⟩⟩) (fun H2 s=>⟨xs,s.seq hx,Ve _⟩) he hq
theorem JAb{J:It}{tt:TT}{σ:St}{H1:Hp}{Q:VK}(xs:List V)(p:V->Bool)(hz:xs.length<=sizeLine)
 (hgo:∀ i H2,i < xs.length->Qp H1 H2->J.go i H2/\∀ x H',J.yld i H2 x H'->H'=H2/\xs[i]?=some x) (hst:∀ H2,Qp H1 H2->J.stop xs.length H2)
 (he:∀ (i:Nat) x H2 (R:Bool->Hp->Prop),xs[i]?=some x->Qp H1 H2->(∀ H3,Qp H2 H3->R (p x) H3)->tt (some x::σ) H2 R)
 (hq:∀ D H2,H1 D=none->Qp H1 H2->H2 D=some (.lst (xs.filter p))->Q (.ref D) H2):LcR J tt (Xa 0) σ Q H1:=by
 intro D hD;refine⟨fun i m ys H2=>m=xs.length - i/\i<=xs.length/\ys=(xs.take i).filter p/\H2 D=some (.lst ys)/\Qp H1 H2,⟨_,rfl,Vk _,by simp,Qd,Qh hD _⟩,?_⟩
 rintro i m ys H2 ⟨rfl,hi,hy,hd,sm⟩;refine⟨hd,?_⟩
 by_cases hlt:i < xs.length
 ·obtain⟨go,yl⟩:=hgo i H2 hlt sm
  have hl:ys.length<=i:=by
   rw[hy];exact Vj (length_filter_le _ _) (by rw[length_take];omega)
  refine .inr ⟨go,by omega,fun x H' y=>?_⟩
  obtain⟨e,hx⟩:=yl x H' y;subst e;have ht:(xs.take (i+1)).filter p=if p x=true then ys++[x] else ys:=by
   rw[take_succ,hx,filter_append,<- hy];cases hp:p x <;> simp[hp]
  refine he i x _ _ hx sm fun H3 s3=>?_
  cases hp:p x with
  | true =>
   rw[if_pos rfl];refine⟨s3 _ _ hd,xs.length - (i+1),by omega,rfl,hlt,?_,Qd,(sm.trans s3).updL hD _⟩
   rw[ht,hp,if_pos rfl]
  | false =>
   rw[if_neg Vf];refine⟨xs.length - (i+1),by omega,rfl,hlt,?_,s3 _ _ hd,sm.trans s3⟩
   rw[ht,hp,if_neg Vf]
 ·have e:i=xs.length:=by omega
  subst e;rw[take_length]at hy;exact .inl ⟨hst H2 sm,hq D H2 hD sm (by rw[hd,hy])⟩
theorem Xlb(a b c:Str):a++b++c=a++(b++c):=PyProof.Rows.ext_toList (by simp only[W.KT.app_list,Vq])
theorem Zhb(sep:Str):∀ (l:List Str) (a b:Str),a++l.foldl (fun s u=>s++sep++u) b=l.foldl (fun s u=>s++sep++u) (a++b)
 | [],_,_=>rfl
 | u::l,a,b=>by
  rw[foldl_cons,foldl_cons,Zhb sep l]
  congr 1
  simp only[Xlb]
theorem Xmb(sep:Str):∀ (l:List Str) (a:Str),Txt.join sep (a::l)=l.foldl (fun s u=>s++sep++u) a:=by
 intro l
 induction l with
 | nil=>intro a;show Builtin.Str.glued sep [a]=a;rw[StrLaws.glued_eq_join];rfl
 | cons b l ih =>
  intro a;have e:=ih b;have ej:Txt.join sep (a::b::l)=a++sep++Txt.join sep (b::l):=by
   show Builtin.Str.glued sep (a::b::l)=a++sep++Builtin.Str.glued sep (b::l);rw[StrLaws.glued_eq_join,StrLaws.glued_eq_join];rfl
  rw[ej,e,foldl_cons,Zhb]
def X1a:Expr->Bool
 | .Starred _ _=>false
 | _=>true
theorem ZWa{e:Expr}{es:List Expr}{env:Env}(h:X1a e=true):starEach (e::es) env=(false,eval e env)::starEach es env:=by
 cases e <;> first | rfl | (exact absurd h Vf)
theorem Qf{X:Cx}{e:Expr}{es:List Expr}{te:TE}{t:TA}(ha:PE X e te)(hr:PA X es t)(hn:X1a e=true:=by rfl):PA X (e::es) (Q0b te t):=Z0c ha hr (ZWa hn)
theorem YAb(t:Addr):¬ (Value.ref t == Value.none)=true:=Vf
section
variable{prog:Program}{w:World}{A:Around}{E:YQ_}{s:Shared}
theorem Xnb{α:Type}{M:Model}{Q:α->Shared->Prop}(hh:A.handled=none)(h:∀ h' e,(∀ b o,s.heap.get? b=some o->h'.get? b=some o)->(∃ o,h'.get? e=some o/\o.cls=.type "StopIteration")->E (.ref e) { s with heap:=h' }) :
 wpAny M A (newExc (.type "StopIteration") [] >>= fun e=>(raiseNew e:Sem α)) Q E s:=by
 refine Va ?_
 unfold newExc newTuple;refine Va (wpAny_newObj_type ?_ (Vk _))
 refine Va (m:=firstArgMember _ _) (wpAny_of_eq (a:=Value.none) (by rfl) ?_)
 refine wpAny_newObj_type (wpAny_raiseNew_none hh (h _ _ (fun b o q=>Vd _ (Vd _ q)) ⟨_,Vi _ rfl,rfl⟩)) (by size_fits)
theorem Xob(hh:A.handled=none)(it t:Addr)(hne:t≠it)(items:Array Value) :
 Draws prog w A it [it,t] items.size (fun i v=>items[i]?=some v) (fun i h=>h.IsTupleIter it t i/\IsTup h t items) where
 live:=fun _ _ st=>⟨_,st.1.choose_spec.1⟩
 frame:=fun _ _ _ st k=>⟨st.1.at fun o e=>k it (by simp) o e,let ⟨o,e,r⟩:=st.2;⟨o,k t (by simp) o e,r⟩⟩
 item:=fun i s Q E hi st hQ=>by
  obtain⟨⟨o,ho,hc,hd⟩,ot,hot,hct,nt,hdt⟩:=id st;have hx:items[i]?=some items[i]:=Array.getElem?_eq_getElem hi
  have hT:s.TypeIs (.ref it) "tuple_iterator":=⟨o,ho,hc⟩;unfold Builtin.SmallTypes.nextOf;refine Va (wpAny_callSpecial?_slot (name:=Str.ofString "__next__") hT F.slot_tuple_iterator_next (wpAny_call_entry F.slot_tuple_iterator_next hT F.entry_tuple_iterator_next ?b (F.args_tuple_iterator_next_1 _)))
  case b =>
   change wpAny _ _ (field (.ref it) 0 >>= fun _=>_) _ _ _
   refine Va (wpAny_field ho hd (x:=.ref t) rfl ?_)
   rw[if_neg (YAb t)];change wpAny _ _ (field (.ref it) 1 >>= fun _=>_) _ _ _
   refine Va (wpAny_field ho hd (x:=.int i 0) rfl ?_)
   change wpAny _ _ (seqItems? (.ref t) >>= fun _=>_) _ _ _
   refine Va (wpAny_seqItems hot hdt ?_)
   simp only[Int.toNat_natCast,hx];refine Va (wpAny_setField ho hd (by simp) (Vg ⟨_,rfl,Vg ?_⟩))
   have sb:=Heap.SameBut.update s.heap it (Obj.mapFields (·.setIfInBounds 1 (rawInt ((i:Int)+1))));refine hQ _ _ s.toks hx ⟨⟨_,Heap.get?_update_self _ ho (Obj.isFreed_of_fields (Obj.data_mapFields hd _)),(Obj.cls_mapFields ..).trans hc,?_⟩,ot,(sb.2 t hne).trans hot,hct,nt,hdt⟩ sb
   rw[Obj.data_mapFields hd];simp[rawInt]
 done:=fun s Q E st hE=>by
  obtain⟨⟨o,ho,hc,hd⟩,ot,hot,hct,nt,hdt⟩:=id st;have hx:items[items.size]?=none:=Array.getElem?_eq_none (Ve _)
  have hT:s.TypeIs (.ref it) "tuple_iterator":=⟨o,ho,hc⟩;unfold Builtin.SmallTypes.nextOf;refine Va (wpAny_callSpecial?_slot (name:=Str.ofString "__next__") hT F.slot_tuple_iterator_next (wpAny_call_entry F.slot_tuple_iterator_next hT F.entry_tuple_iterator_next ?b (F.args_tuple_iterator_next_1 _)))
  case b =>
   change wpAny _ _ (field (.ref it) 0 >>= fun _=>_) _ _ _
   refine Va (wpAny_field ho hd (x:=.ref t) rfl ?_)
   rw[if_neg (YAb t)];change wpAny _ _ (field (.ref it) 1 >>= fun _=>_) _ _ _
   refine Va (wpAny_field ho hd (x:=.int items.size 0) rfl ?_)
   change wpAny _ _ (seqItems? (.ref t) >>= fun _=>_) _ _ _
   refine Va (wpAny_seqItems hot hdt ?_)
   simp only[Int.toNat_natCast,hx];refine Va (wpAny_rule (Va (wpAny_setField ho hd (by simp) ?_)))
   change wpAny _ _ (newExc (.type "StopIteration") [] >>= fun _=>_) _ _ _
   refine Xnb hh fun h' e k he=>hE h' e (fun b o hb q=>k b o (((Heap.SameBut.update ..).2 b hb).trans q)) he
structure QJa(h:Heap)(z TI TO i1 i2:Addr)(f0:Value):Prop where
 z:IsZip h z TI TO f0
 ti:IsPair h TI (.ref i1) (.ref i2)
 to:∃ a b,IsPair h TO a b
structure X2a(z TI TO i1 i2:Addr):Prop where
 a:TI≠z
 b:TO≠z
 c:i1≠z
 d:i2≠z
 e:TI≠TO
 f:TI≠i1
 g:TI≠i2
 h:TO≠i1
 i:TO≠i2
 j:i1≠i2
theorem QJa.same{h h':Heap}{z TI TO i1 i2 c:Addr}{f0:Value}(x:QJa h z TI TO i1 i2 f0)(sb:Heap.SameBut c h h')(n1:z≠c)(n2:TI≠c)(n3:TO≠c):QJa h' z TI TO i1 i2 f0 :=
 ⟨(sb.2 _ n1).trans x.z,(sb.2 _ n2).trans x.ti,let ⟨a,b,e⟩:=x.to;⟨a,b,(sb.2 _ n3).trans e⟩⟩
variable{z TI TO i1 i2:Addr}{fp1 fp2:List Addr}{n1 n2 i:Nat}{P1 P2:Nat->Value->Prop}{S1 S2:Nat->Heap->Prop}
theorem ZA{it c:Addr}{fp:List Addr}{n k:Nat}{P:Nat->Value->Prop}{S:Nat->Heap->Prop}{B:Around}{h h':Heap}(D:Draws prog w B it fp n P S)(st:S k h)(sb:Heap.SameBut c h h')(hc:c∉fp):S k h' :=
 D.frame k h h' st fun b hb o e=>(sb.2 b fun q=>hc (q ▸ hb)).trans e
theorem Qxc(D1:Draws prog w A.in1 i1 fp1 n1 P1 S1)(D2:Draws prog w A.in1 i2 fp2 n2 P2 S2)(ap:X2a z TI TO i1 i2)(a1:z∉fp1/\TO∉fp1/\i2∉fp1)(a2:z∉fp2/\TO∉fp2/\i1∉fp2)
 (hz:QJa s.heap z TI TO i1 i2 .none) (st1:S1 i s.heap) (st2:S2 i s.heap) (l1:i < n1) (l2:i < n2) {Q:Option Value->Shared->Prop}
 (hQ:∀ x y h' tk,P1 i x->P2 i y->QJa h' z TI TO i1 i2 (rawInt s.heap.objs.size)->S1 (i+1) h'->S2 (i+1) h'->IsPair h' s.heap.objs.size x y ->
  (∀ c o,c≠z->c≠TO->c≠i1->c≠i2->s.heap.get? c=some o->h'.get? c=some o)->Q (some (.ref s.heap.objs.size)) { s with heap:=h',toks:=tk }):wpAny (model prog w) A (pyNext (.ref z)) Q E s:=by
 obtain⟨hZ,hTI,p0,q0,hTO⟩:=id hz;have hT:s.TypeIs (.ref z) "zip":=⟨_,hZ,rfl⟩;unfold pyNext;refine Va (wpAny_attempt (wpAny_callSpecial?_slot (name:=Str.ofString "__next__") hT F.slot_zip_next (wpAny_call_entry F.slot_zip_next hT F.entry_zip_next ?b (F.args_zip_next_1 _))))
 case b =>
  change wpAny _ _ (field (.ref z) 2 >>= fun _=>_) _ _ _
  refine Va (wpAny_field hZ rfl (x:=.bool false) rfl ?_)
  change wpAny _ _ (field (.ref z) 3 >>= fun _=>_) _ _ _
  refine Va (wpAny_field hZ rfl (x:=.ref TI) rfl (Va (wpAny_seqItems hTI rfl ?_)))
  change wpAny _ _ (Builtin.SmallTypes.ownedTupleIsFree (.ref z) >>= fun _=>_) _ _ _
  refine Va ?_
  unfold Builtin.SmallTypes.ownedTupleIsFree;refine Va (wpAny_field hZ rfl (x:=.none) rfl (Vg ?_))
  simp only[if_true];refine Va (wpAny_rule (Va (wpAny_field hZ rfl (x:=.ref TO) rfl (Va (wpAny_setField_rec hZ (by simp) fun h1 hz1 sb1=>?_)))))
  have Z1:QJa h1 z TI TO i1 i2 .ellipsis:=⟨hz1,(sb1.2 _ ap.a).trans hTI,p0,q0,(sb1.2 _ ap.b).trans hTO⟩;refine Va ?_
  simp only[zipIdx_cons,zipIdx_nil,forIn_cons,forIn_nil];refine Va (Va (wpAny_onRaise ?_))
  change wpAny _ _ (Builtin.SmallTypes.nextOf (.ref i1) >>= fun _=>_) _ _ _
  refine Va (D1.item i _ _ _ l1 (ZA D1 st1 sb1 a1.1) fun x h2 tk2 px st12 sb2=>Vg ?_)
  have Z2:=Z1.same sb2 ap.c.symm ap.f ap.h;have st22:=ZA D2 (ZA D2 st2 sb1 a2.1) sb2 a2.2.2;have hTO2:IsPair h2 TO p0 q0:=(sb2.2 _ ap.h).trans ((sb1.2 _ ap.b).trans hTO);refine Va (wpAny_seqItems hTO2 rfl (Va (wpAny_updateSeq_pair hTO2 fun h3 hTO3 sb3=>Va (wpAny_letGo (Vg ?_)))))
  have hTO3:IsPair h3 TO x q0:=hTO3;have Z3:QJa h3 z TI TO i1 i2 .ellipsis:=⟨(sb3.2 _ ap.b.symm).trans Z2.z,(sb3.2 _ ap.e).trans Z2.ti,_,_,hTO3⟩;refine Va (Va (wpAny_onRaise ?_))
  change wpAny _ _ (Builtin.SmallTypes.nextOf (.ref i2) >>= fun _=>_) _ _ _
  refine Va (D2.item i _ _ _ l2 (ZA D2 st22 sb3 a2.2.1) fun y h4 tk4 py st24 sb4=>Vg ?_)
  have hTO4:IsPair h4 TO x q0:=(sb4.2 _ ap.i).trans hTO3;have Z4:=Z3.same sb4 ap.d.symm ap.g ap.i;have st14:=ZA D1 (ZA D1 st12 sb3 a1.2.1) sb4 a1.2.2;refine Va (wpAny_seqItems hTO4 rfl (Va (wpAny_updateSeq_pair hTO4 fun h5 hTO5 sb5=>Va (wpAny_letGo (Vg (Vg ?_))))))
  have hTO5:IsPair h5 TO x y:=hTO5;have Z5:QJa h5 z TI TO i1 i2 .ellipsis:=⟨(sb5.2 _ ap.b.symm).trans Z4.z,(sb5.2 _ ap.e).trans Z4.ti,_,_,hTO5⟩;have st15:=ZA D1 st14 sb5 a1.2.1;have st25:=ZA D2 st24 sb5 a2.2.1;have sz:h5.objs.size=s.heap.objs.size:=by have e1:=sb1.1;have e2:=sb2.1;have e3:=sb3.1;have e4:=sb4.1;have e5:=sb5.1;simp only at e1 e2 e3 e4 e5;omega
  have old:∀ c o,c≠z->c≠TO->c≠i1->c≠i2->s.heap.get? c=some o->h5.get? c=some o:=fun c o c1 c2 c3 c4 e =>
   (sb5.2 c c2).trans ((sb4.2 c c4).trans ((sb3.2 c c2).trans ((sb2.2 c c3).trans ((sb1.2 c c1).trans e))))
  refine Va (wpAny_seqItems hTO5 rfl (Va (wpAny_newTuple ?_)))
  change wpAny _ _ (Builtin.SmallTypes.ownedTupleHandOut (.ref z) (.ref h5.objs.size) >>= fun _=>_) _ _ _
  have pu:∀ c o,h5.get? c=some o->(h5.push { cls:=.type "tuple",data:=.seq #[x,y] }).get? c=some o:=fun c o q=>Vd _ q
  have pT:=Vi h5 (o:={ cls:=.type "tuple",data:=.seq #[x,y] }) rfl
  have nz:h5.objs.size≠z:=Nat.ne_of_gt (Vh Z5.z);refine Va ?_
  unfold Builtin.SmallTypes.ownedTupleHandOut;refine Va (wpAny_setField_rec (pu _ _ Z5.z) (by simp) fun h7 hz7 sb7=>?_)
  have hz7:IsZip h7 z TI TO (rawInt h5.objs.size):=hz7;refine wpAny_setField_rec hz7 (by simp) fun h8 hz8 sb8=>?_
  have up:∀ c o,c≠z->h5.get? c=some o->h8.get? c=some o:=fun c o c1 e=>(sb8.2 c c1).trans ((sb7.2 c c1).trans (pu c o e))
  refine Vg ⟨_,rfl,Vg ?_⟩
  have fin:=hQ x y h8 tk4 px py ⟨by rw[<- sz];exact hz8,up _ _ ap.a Z5.ti,_,_,up _ _ ap.b hTO5⟩ (D1.frame _ _ _ st15 fun b hb o e=>up b o (fun q=>a1.1 (q ▸ hb)) e) (D2.frame _ _ _ st25 fun b hb o e=>up b o (fun q=>a2.1 (q ▸ hb)) e)
   (by rw[<- sz];exact(sb8.2 _ nz).trans ((sb7.2 _ nz).trans pT)) fun c o c1 c2 c3 c4 e=>up c o c1 (old c o c1 c2 c3 c4 e)
  rw[<- sz]at fin;exact fin
theorem Qyc(hh:A.handled=none)(D1:Draws prog w A.in1 i1 fp1 n1 P1 S1)(ap:X2a z TI TO i1 i2)(a1:z∉fp1)(hz:QJa s.heap z TI TO i1 i2 .none)(st1:S1 n1 s.heap){Q:Option Value->Shared->Prop}
 (hQ:∀ h',(∀ c o,c≠z->c≠i1->s.heap.get? c=some o->h'.get? c=some o)->Q none { s with heap:=h' }):wpAny (model prog w) A (pyNext (.ref z)) Q E s:=by
 obtain⟨hZ,hTI,p0,q0,hTO⟩:=id hz;have hT:s.TypeIs (.ref z) "zip":=⟨_,hZ,rfl⟩;unfold pyNext;refine Va (wpAny_attempt (wpAny_callSpecial?_slot (name:=Str.ofString "__next__") hT F.slot_zip_next (wpAny_call_entry F.slot_zip_next hT F.entry_zip_next ?b (F.args_zip_next_1 _))))
 case b =>
  change wpAny _ _ (field (.ref z) 2 >>= fun _=>_) _ _ _
  refine Va (wpAny_field hZ rfl (x:=.bool false) rfl ?_)
  change wpAny _ _ (field (.ref z) 3 >>= fun _=>_) _ _ _
  refine Va (wpAny_field hZ rfl (x:=.ref TI) rfl (Va (wpAny_seqItems hTI rfl ?_)))
  change wpAny _ _ (Builtin.SmallTypes.ownedTupleIsFree (.ref z) >>= fun _=>_) _ _ _
  refine Va ?_
  unfold Builtin.SmallTypes.ownedTupleIsFree;refine Va (wpAny_field hZ rfl (x:=.none) rfl (Vg ?_))
  simp only[if_true];refine Va (wpAny_rule (Va (wpAny_field hZ rfl (x:=.ref TO) rfl (Va (wpAny_setField_rec hZ (by simp) fun h1 hz1 sb1=>?_)))))
  refine Va ?_
  simp only[zipIdx_cons,zipIdx_nil,forIn_cons,forIn_nil];refine Va (Va (wpAny_onRaise ?_))
  change wpAny _ _ (Builtin.SmallTypes.nextOf (.ref i1) >>= fun _=>_) _ _ _
  refine Va (D1.done _ _ _ (ZA D1 st1 sb1 a1) fun h2 e x2 he=>?_)
  obtain⟨oe,hoe,hce⟩:=he;have hz2:IsZip h2 z TI TO .ellipsis:=x2 _ _ ap.c.symm hz1;have nez:e≠z:=fun q=>by subst q;rw[hz2]at hoe;cases hoe;simp at hce
  refine wpAny_setField_rec hz2 (by simp) fun h3 _ sb3=>?_
  refine Va (wpAny_isInstance (T:="StopIteration") (b:=true) ⟨oe,(sb3.2 _ nez).trans hoe,hce⟩ isSubtype_stop (Vg (hQ h3 fun c o c1 c2 q=>?_)))
  exact(sb3.2 c c1).trans (x2 c o c2 ((sb1.2 c c1).trans q))
end
theorem Inv.moved{X:Cx}{pins:YP_}{σ:St}{H:Hp}{s:Shared}{h':Heap}{t':Nat}{ch:List Addr}(I:Inv X pins σ H s)(hf:∀ b∈ch,QVa X pins H b)(k:∀ b o,b∉ch->s.heap.get? b=some o->h'.get? b=some o) :
 Inv X pins σ H { s with heap:=h',toks:=t' }:=by
 have nit:∀ b u,H b=some u->b∉ch:=fun b u e z=>by rw[(hf b z).1]at e;cases e
 refine I.step (g':=s.gens) (d':=s.drawn) (ch:=ch) (fun b hb=>⟨(hf b hb).2.2.2.1,(hf b hb).2.1,(hf b hb).2.2.2.2.1,(hf b hb).2.2.2.2.2⟩) (fun b o _ _ hc e _=>k b o hc e) (fun b o _ _ hc e _=>⟨o.slots,k b o hc e⟩) (fun _ _ _ _ n=>n)
  (fun b o hc e=>⟨o,k b o hc e⟩) (fun _ _ e=>e) (fun _ _ _ e=>e) (fun b ps e=>⟨#[],by rw[e];simp⟩) (fun m hm=>?_) (fun b u e=>?_) I.bare
 ·obtain⟨o,es,ep,ho,r⟩:=hm
  exact⟨o,es,ep,k _ o (fun z=>(hf _ z).2.1 rfl) ho,r⟩
 ·refine(I.hok b u e).stay (fun c v hc q=>k c v ?_ q) (fun _ q=>q) fun _ _ q=>q
  rcases hc with z | z
  ·rw[z];exact nit b u e
  ·exact nit c _ z
def SqB(tup:Bool)(H:Hp)(a:Addr)(xs:List V):Prop:=H a=some (if tup then .tup xs else .lst xs)
theorem SqB.inj{tup:Bool}{H:Hp}{a:Addr}{xs ys:List V}(h:SqB tup H a xs)(h':SqB tup H a ys):xs=ys:=by
 unfold SqB at h h';rw[h]at h';cases tup <;> simpa using h'
def Xh(tup:Bool)(h:Heap)(a:Addr)(its:Array Value):Prop:=if tup=true then IsTup h a its else h.IsList a its
def Zya(tup:Bool)(h:Heap)(it a:Addr)(i:Nat):Prop:=if tup=true then h.IsTupleIter it a i else h.IsListIter it a i
theorem Inv.seqB{X:Cx}{pins:YP_}{σ:St}{H:Hp}{s:Shared}{tup:Bool}{a:Addr}{xs:List V}(I:Inv X pins σ H s)(h:SqB tup H a xs):∃ its:List Value,QE xs its/\Xh tup s.heap a its.toArray:=by
 cases tup with
 | true =>
  obtain⟨its,r,p,_⟩:=I.tuple (xs:=xs) (SqT.of h);exact⟨its,r,p⟩
 | false =>
  obtain⟨its,r,p,_⟩:=I.list (xs:=xs) (SqL.of h);exact⟨its,r,p.isList⟩
theorem Zya.get{tup:Bool}{h:Heap}{it a:Addr}{i:Nat}(x:Zya tup h it a i):∃ o,h.get? it=some o/\(o.cls=.type "tuple_iterator"\/o.cls=.type "list_iterator")/\o.data=.fields #[.ref a,.int i 0]:=by
 cases tup with
 | true=>obtain⟨o,e,c,d⟩:=(x:h.IsTupleIter it a i);exact⟨o,e,.inl c,d⟩
 | false=>obtain⟨o,e,c,d⟩:=(x:h.IsListIter it a i);exact⟨o,e,.inr c,d⟩
theorem Zya.keep{tup:Bool}{h h':Heap}{it a:Addr}{i:Nat}(x:Zya tup h it a i)(k:∀ o,h.get? it=some o->h'.get? it=some o):Zya tup h' it a i:=by
 cases tup with
 | true=>obtain⟨o,e,r⟩:=(x:h.IsTupleIter it a i);exact(⟨o,k o e,r⟩:h'.IsTupleIter it a i)
 | false=>obtain⟨o,e,r⟩:=(x:h.IsListIter it a i);exact(⟨o,k o e,r⟩:h'.IsListIter it a i)
theorem X3a{tup:Bool}{h:Heap}{it a:Addr}{i:Nat}{its:Array Value}(x:Zya tup h it a i)(y:Xh tup h a its):a≠it:=fun z=>by
 obtain⟨o,e,c,d⟩:=x.get;subst z;cases tup with
 | true=>obtain⟨o',e',_,n,d'⟩:=(y:IsTup h a its);rw[e]at e';cases e';rw[d]at d';cases d'
 | false=>obtain⟨o',e',_,n,d'⟩:=(y:h.IsList a its);rw[e]at e';cases e';rw[d]at d';cases d'
theorem JBb{prog:Program}{w:World}{A:Around}(hh:A.handled=none)(tup:Bool)(it a:Addr)(hne:a≠it)(its:Array Value) :
 Draws prog w A it [it,a] its.size (fun i v=>its[i]?=some v) (fun i h=>Zya tup h it a i/\Xh tup h a its):=by
 cases tup with
 | true=>exact Xob hh it a hne its
 | false=>exact Draws.list hh it a hne its
def ItZ(ta tb:Bool)(a b:Addr):It :=
 ⟨fun i H=>∃ xs ys x y,SqB ta H a xs/\SqB tb H b ys/\xs[i]?=some x/\ys[i]?=some y,
  fun i H v H'=>∃ T x y,H T=none/\v=.ref T/\H'=upd H T (.tup [x,y])/\(∀ xs,SqB ta H a xs->xs[i]?=some x)/\∀ ys,SqB tb H b ys->ys[i]?=some y,
  fun i H=>∃ xs,SqB ta H a xs/\xs.length=i⟩
def Yfc(ta tb:Bool)(a b z TI TO i1 i2:Addr)(i:Nat)(h:Heap):Prop:=QJa h z TI TO i1 i2 .none/\Zya ta h i1 a i/\Zya tb h i2 b i
theorem Qzc{P:Program}{w:World}{K:W.Frag}{elts:List Expr}{kk:Nat}{tpos:Pos}{ta tb:Bool}(a b z TI TO i1 i2:Addr)(ap:X2a z TI TO i1 i2) :
 QWb P w K (.Tuple elts kk tpos) (ItZ ta tb a b) [z,TI,TO,i1,i2] z (Yfc ta tb a b z TI TO i1 i2) where
 mem:=by simp
 obj:=fun i h st c hc=>by
  obtain⟨⟨hz,hti,p,q,hto⟩,h1,h2⟩:=st;obtain⟨o1,e1,_,d1⟩:=h1.get;obtain⟨o2,e2,_,d2⟩:=h2.get;simp only[mem_cons,not_mem_nil,or_false]at hc
  rcases hc with rfl | rfl | rfl | rfl | rfl
  ·exact⟨_,hz,fun v z=>by cases z⟩
  ·exact⟨_,hti,fun v z=>by cases z⟩
  ·exact⟨_,hto,fun v z=>by cases z⟩
  ·exact⟨_,e1,fun v z=>by rw[d1]at z;cases z⟩
  ·exact⟨_,e2,fun v z=>by rw[d2]at z;cases z⟩
 keep:=fun i h h' st k=>by
  obtain⟨⟨hz,hti,p,q,hto⟩,h1,h2⟩:=st;exact⟨⟨k z (by simp) _ hz,k TI (by simp) _ hti,p,q,k TO (by simp) _ hto⟩,h1.keep fun o e=>k i1 (by simp) o e,h2.keep fun o e=>k i2 (by simp) o e⟩
 item:=by
  intro X hP hw hK hc i pins s σ H E I hf st hg;subst hP hw hK;obtain⟨xs,ys,x,y,ha,hb,hx,hy⟩:=hg;obtain⟨hz,h1,h2⟩:=st;obtain⟨its1,r1,q1⟩:=I.seqB ha;obtain⟨its2,r2,q2⟩:=I.seqB hb;have n1:=X3a h1 q1;have n2:=X3a h2 q2;have na:∀ c,c∈[z,TI,TO,i1,i2]->c≠a:=fun c hc e=>by have:=(hf c hc).1;rw[e,ha]at this;cases this
  have nb:∀ c,c∈[z,TI,TO,i1,i2]->c≠b:=fun c hc e=>by have:=(hf c hc).1;rw[e,hb]at this;cases this
  have hh:=I.ok.hd hc;have l1:i < its1.toArray.size:=by have:=r1.length;have:=(Vc.mp hx).1;simp;omega
  have l2:i < its2.toArray.size:=by have:=r2.length;have:=(Vc.mp hy).1;simp;omega
  refine Qxc (JBb (A:=X.A.in1) hh ta i1 a n1 its1.toArray) (JBb (A:=X.A.in1) hh tb i2 b n2 its2.toArray) ap ⟨?_,?_,?_⟩ ⟨?_,?_,?_⟩ hz ⟨h1,q1⟩ ⟨h2,q2⟩ l1 l2 fun u1 u2 h' tk p1 p2 hz' s1 s2 hp keep=>?_
  ·simp[ap.c.symm,na z (by simp)]
  ·simp[ap.h,na TO (by simp)]
  ·simp[ap.j.symm,na i2 (by simp)]
  ·simp[ap.d.symm,nb z (by simp)]
  ·simp[ap.i,nb TO (by simp)]
  ·simp[ap.j,nb i1 (by simp)]
  ·refine⟨_,rfl,wpAny_letOwnedTupleGo_zip hz'.z fun h2' hz2 sb=>?_⟩
   obtain⟨v1,e1,rv1⟩:=r1.get hx;obtain⟨v2,e2,rv2⟩:=r2.get hy
   have e1':u1=v1:=by have:its1[i]?=some u1:=by simpa using p1
                      rw[e1]at this;exact(Option.some.inj this).symm
   have e2':u2=v2:=by have:its2[i]?=some u2:=by simpa using p2
                      rw[e2]at this;exact(Option.some.inj this).symm
   subst e1' e2';have fT:QVa X pins H s.heap.objs.size:=I.fpOk (Ve _) (I.hok.fresh (Ve _));have ltz:∀ c∈[z,TI,TO,i1,i2],c≠s.heap.objs.size:=fun c hc=>by
    obtain⟨o,e⟩:∃ o,s.heap.get? c=some o:=by
     obtain⟨g1,g2,p,q,g3⟩:=hz;obtain⟨o1,e1,_⟩:=h1.get;obtain⟨o2,e2,_⟩:=h2.get;simp only[mem_cons,not_mem_nil,or_false]at hc
     rcases hc with rfl | rfl | rfl | rfl | rfl
     ·exact⟨_,g1⟩
     ·exact⟨_,g2⟩
     ·exact⟨_,g3⟩
     ·exact⟨_,e1⟩
     ·exact⟨_,e2⟩
    exact Nat.ne_of_lt (Vh e)
   have I1:Inv X pins σ H { s with heap:=h2',toks:=tk }:=I.moved (ch:=[z,TO,i1,i2]) (fun c hc=>hf c (by simp only[mem_cons,not_mem_nil,or_false]at hc;rcases hc with rfl | rfl | rfl | rfl <;> simp)) fun c o hc e=>by
    simp only[mem_cons,not_mem_nil,or_false,not_or]at hc;exact(sb.2 c hc.1).trans (keep c o hc.1 hc.2.1 hc.2.2.1 hc.2.2.2 e)
   have nz:s.heap.objs.size≠z:=fun q=>ltz z (by simp) q.symm
   have hT2:IsPair h2' s.heap.objs.size u1 u2:=(sb.2 _ nz).trans hp;have I2:Inv X pins σ (upd H s.heap.objs.size (.tup [x,y])) { s with heap:=h2',toks:=tk }:=I1.adopt (h':=h2') (t':=tk) fT (fun _ _ _ q=>q) ⟨⟨show 2<=sizeLine by decide,_,hT2,rfl⟩,[u1,u2],.cons rv1 (.cons rv2 .nil),⟨_,hT2,rfl,_,rfl⟩⟩
   refine⟨.ref s.heap.objs.size,_,I2,rfl,⟨_,x,y,fT.1,rfl,rfl,fun xs' h=>by rw[h.inj ha];exact hx,fun ys' h=>by rw[h.inj hb];exact hy⟩,⟨⟨hz2,(sb.2 _ ap.a).trans hz'.ti,let ⟨p,q,e⟩:=hz'.to;⟨p,q,(sb.2 _ ap.b).trans e⟩⟩,s1.1.keep fun o e=>(sb.2 _ ap.c).trans e,s2.1.keep fun o e=>(sb.2 _ ap.d).trans e⟩,fun c hc=>?_⟩
   rw[Qi (ltz c hc)];exact(hf c hc).1
 done:=by
  intro X hP hw hK hc i pins s σ H E I hf st hg;subst hP hw hK;obtain⟨xs,ha,el⟩:=hg;obtain⟨hz,h1,h2⟩:=st;obtain⟨its1,r1,q1⟩:=I.seqB ha;have n1:=X3a h1 q1;have hh:=I.ok.hd hc;have ei:i=its1.toArray.size:=by have:=r1.length;simp;omega
  have na:z≠a:=fun e=>by have:=(hf z (by simp)).1;rw[e,ha]at this;cases this
  refine Qyc hh (JBb (A:=X.A.in1) hh ta i1 a n1 its1.toArray) ap (by simp[ap.c.symm,na]) hz ⟨by rw[<- ei];exact h1,q1⟩ fun h' keep=>⟨rfl,?_⟩
  exact I.moved (t':=s.toks) (ch:=[z,i1]) (fun c hc=>hf c (by simp only[mem_cons,not_mem_nil,or_false]at hc;rcases hc with rfl | rfl <;> simp)) fun c o hc e=>by
   simp only[mem_cons,not_mem_nil,or_false,not_or]at hc;exact keep c o hc.1 hc.2 e
 self:=fun _ _ _ _ _ st h=>wpAny_pyIter_zip st.1.z h
def itO(tup:Bool)(a:Addr):Obj:={ cls:=.type (if tup then "tuple_iterator" else "list_iterator"),data:=.fields #[.ref a,.int 0 0] }
section
variable{prog:Program}{w:World}{A:Around}{E:YQ_}{s:Shared}
theorem YBb{tup:Bool}{a:Addr}{its:Array Value}{Q:YQ_}(h:Xh tup s.heap a its)(q:Q (.ref s.heap.objs.size) { s with heap:=s.heap.push (itO tup a) }):wpAny (model prog w) A (pyIter (.ref a)) Q E s:=by
 cases tup with
 | true=>exact wpAny_pyIter_tuple (show s.heap.IsTuple a its from h) q
 | false=>exact wpAny_pyIter_list (show s.heap.IsList a its from h) q
theorem Xh.keep{tup:Bool}{h h':Heap}{a:Addr}{its:Array Value}(x:Xh tup h a its)(k:∀ o,h.get? a=some o->h'.get? a=some o):Xh tup h' a its:=by
 cases tup with
 | true=>obtain⟨o,e,r⟩:=(x:IsTup h a its);exact(⟨o,k o e,r⟩:IsTup h' a its)
 | false=>obtain⟨o,e,r⟩:=(x:h.IsList a its);exact(⟨o,k o e,r⟩:h'.IsList a its)
def J6a(ta tb:Bool)(a b:Addr)(h:Heap):Heap :=
 ((((h.push (itO ta a)).push (itO tb b)).push { cls:=.type "tuple",data:=.seq #[.ref h.objs.size,.ref (h.objs.size+1)] }).push { cls:=.type "tuple",data:=.seq #[.none,.none] }).push
   { cls:=.type "zip",data:=.fields #[.none,.bool false,.bool false,.ref (h.objs.size+2),.ref (h.objs.size+3)] }
theorem Jhc(ta tb:Bool)(a b:Addr)(xs ys:Array Value) :
 Meets (Builtin.«zip.__new__» ⟨[.type "zip",.ref a,.ref b],[]⟩) (fun _ R s=>Xh ta s.heap a xs/\Xh tb s.heap b ys/\R (.ok (.ret (.ref (s.heap.objs.size+4)))) { s with heap:=J6a ta tb a b s.heap }) :=
 .of_wp fun prog w A R s h=>by
  obtain⟨hp,g,d,tk,os⟩:=s;obtain⟨h1,h2,h⟩:=h;have hsub:=sub_zip;have ga:∀ {A':Around} {Q:YQ_} {E:YQ_},Q (.ref hp.objs.size) ⟨hp.push (itO ta a),g,d,tk,os⟩->wpAny (model prog w) A' (pyIter (.ref a)) Q E ⟨hp,g,d,tk,os⟩:=fun q=>YBb (s:=⟨hp,g,d,tk,os⟩) h1 q
  have gb:∀ {A':Around} {Q:YQ_} {E:YQ_},Q (.ref (hp.push (itO ta a)).objs.size) ⟨(hp.push (itO ta a)).push (itO tb b),g,d,tk,os⟩->wpAny (model prog w) A' (pyIter (.ref b)) Q E ⟨hp.push (itO ta a),g,d,tk,os⟩:=fun q =>
   YBb (s:=⟨hp.push (itO ta a),g,d,tk,os⟩) (h2.keep fun o e=>Vd _ e) q
  wp_walk using ga,gb
  refine⟨_,rfl,?_⟩
  simp only[J6a,Heap.size_push]at h ⊢;exact h
end
theorem Y4c(n:Nat):X2a (n+4) (n+2) (n+3) n (n+1):=by
 constructor <;> (intro e;have e:(_:Nat)=(_:Nat):=e;omega)
theorem Xpb(ta tb:Bool)(a b:Addr)(h:Heap):Yfc ta tb a b (h.objs.size+4) (h.objs.size+2) (h.objs.size+3) h.objs.size (h.objs.size+1) 0 (J6a ta tb a b h):=by
 have g:∀ (k:Heap) (n:Nat) (o:Obj),k.objs.size=n->o.isFreed=false->(k.push o).get? n=some o:=fun k n o e f=>by subst e;exact Vi k f
 have e1:(h.push (itO ta a)).objs.size=h.objs.size+1:=Heap.size_push ..;have e2:((h.push (itO ta a)).push (itO tb b)).objs.size=h.objs.size+2:=by rw[Heap.size_push,e1]
 have e3:(((h.push (itO ta a)).push (itO tb b)).push { cls:=.type "tuple",data:=.seq #[.ref h.objs.size,.ref (h.objs.size+1)] }).objs.size=h.objs.size+3:=by rw[Heap.size_push,e2]
 have e4:((((h.push (itO ta a)).push (itO tb b)).push { cls:=.type "tuple",data:=.seq #[.ref h.objs.size,.ref (h.objs.size+1)] }).push { cls:=.type "tuple",data:=.seq #[.none,.none] }).objs.size=h.objs.size+4:=by rw[Heap.size_push,e3]
 have up:∀ {k:Heap} {c:Addr} {u o:Obj},k.get? c=some u->(k.push o).get? c=some u:=fun q=>Vd _ q
 unfold J6a;refine⟨⟨g _ _ _ e4 rfl,up (up (g _ _ _ e2 rfl)),.none,.none,up (g _ _ _ e3 rfl)⟩,?_,?_⟩
 ·have q:=up (o:={ cls:=.type "zip",data:=.fields #[.none,.bool false,.bool false,.ref (h.objs.size+2),.ref (h.objs.size+3)] }) (up (o:={ cls:=.type "tuple",data:=.seq #[.none,.none] }) (up (o:={ cls:=.type "tuple",data:=.seq #[.ref h.objs.size,.ref (h.objs.size+1)] }) (up (o:=itO tb b) (g h _ (itO ta a) rfl rfl))))
  cases ta with
  | true=>exact(⟨_,q,rfl,rfl⟩:Heap.IsTupleIter _ _ _ _)
  | false=>exact(⟨_,q,rfl,rfl⟩:Heap.IsListIter _ _ _ _)
 ·have q:=up (o:={ cls:=.type "zip",data:=.fields #[.none,.bool false,.bool false,.ref (h.objs.size+2),.ref (h.objs.size+3)] }) (up (o:={ cls:=.type "tuple",data:=.seq #[.none,.none] }) (up (o:={ cls:=.type "tuple",data:=.seq #[.ref h.objs.size,.ref (h.objs.size+1)] }) (g _ _ (itO tb b) e1 rfl)))
  cases tb with
  | true=>exact(⟨_,q,rfl,rfl⟩:Heap.IsTupleIter _ _ _ _)
  | false=>exact(⟨_,q,rfl,rfl⟩:Heap.IsListIter _ _ _ _)
section
variable{X:Cx}{ea eb:Expr}{ua ub:TE}{p pos tpos:Pos}{elts:List Expr}{kk:Nat}
theorem Y5c:bootBuiltins "zip"=some (.type "zip"):=by decide +kernel
def X1c(ta tb:Bool)(ua ub:TE):TI:=fun σ H R=>ua σ H fun x H1=>ub σ H1 fun y H2=>∃ a b xs ys,x=.ref a/\y=.ref b/\SqB ta H2 a xs/\SqB tb H2 b ys/\R (ItZ ta tb a b) H2
theorem QAc(ta tb:Bool)(hg:Gl X "zip")(hm:X.mg "zip"=none)(ha:PE X ea ua)(hb:PE X eb ub)(na:X1a ea=true:=by rfl)(nb:X1a eb=true:=by rfl) :
 PI X (.Tuple elts kk tpos) (.Call (.Name "zip" p) [ea,eb] [] pos) (X1c ta tb ua ub):=by
 intro pins s σ H R I h;refine wpAny_Call_Name_kw (ZSa I hg hm Y5c ?_)
 refine PyProof.Rows.callWith_type1 (thn ((Qf ha (Qf hb Qe nb) na) pos pins s σ H (fun vs H2=>∃ x y,vs=[x,y]/\∃ a b xs ys,x=.ref a/\y=.ref b/\SqB ta H2 a xs/\SqB tb H2 b ys/\R (ItZ ta tb a b) H2) I ?_) fun us s1 hZ=>?_) (ZWa na) ?_
 ·have z:ua σ H fun x H1=>ub σ H1 fun y H2=>∃ a b xs ys,x=.ref a/\y=.ref b/\SqB ta H2 a xs/\SqB tb H2 b ys/\R (ItZ ta tb a b) H2:=h
  show ua σ H fun x H1=>ub σ H1 fun y H2=>∃ x' y',[x,y]=[x',y']/\_
  simpa only[List.cons.injEq,and_true,exists_and_left,exists_eq_left',and_assoc,exists_eq_left]using z
 ·obtain⟨vs,H1,I1,r1,x,y,ev,a,b,xs,ys,ex,ey,hxs,hys,q⟩:=hZ
  subst ev ex ey;obtain⟨u1,u2,rfl,e1,e2⟩:=X1b r1;obtain rfl:u1=Value.ref a:=e1;obtain rfl:u2=Value.ref b:=e2;obtain⟨its1,rv1,q1⟩:=I1.seqB hxs;obtain⟨its2,rv2,q2⟩:=I1.seqB hys;refine callType_new F.called_zip (by decide) (F.typeCall_zip_2 _ _) (F.newCall_zip_2 _ _) (fun obj=>F.args_object_init_3 obj _ _) F.entry_zip_new (Jhc ta tb a b its1.toArray its2.toArray) ⟨q1,q2,?_⟩
  have k5:∀ c o,s1.heap.get? c=some o->(J6a ta tb a b s1.heap).get? c=some o:=fun c o e=>Vd _ (Vd _ (Vd _ (Vd _ (Vd _ e))))
  have zt:=Xpb ta tb a b s1.heap;refine⟨⟨_,zt.1.z,rfl⟩,wpAny_pyIter_zip zt.1.z ⟨s1.heap.objs.size+4,_,_,_,H1,rfl,I1.kept (t':=s1.toks) k5,Qzc a b (s1.heap.objs.size+4) (s1.heap.objs.size+2) (s1.heap.objs.size+3) s1.heap.objs.size (s1.heap.objs.size+1) ?_,zt,fun c hc=>?_,q⟩⟩
  ·exact Y4c _
  ·have hc':s1.heap.objs.size<=c:=by
    simp only[mem_cons,not_mem_nil,or_false]at hc
    rcases hc with rfl | rfl | rfl | rfl | rfl <;> omega
   exact I1.fpOk hc' (I1.hok.fresh hc')
 ·rw[ZWa nb];rfl
theorem QBc{ta tb:Bool}{g:TG}{t:TS}{D:ZH}{σ:St}{H:Hp}:XOa (X1c ta tb ua ub) g t D σ H=ua σ H fun x H1=>ub σ H1 fun y H2=>∃ a b xs ys,x=.ref a/\y=.ref b/\SqB ta H2 a xs/\SqB tb H2 b ys/\FoR (ItZ ta tb a b) g t D σ H2:=rfl
theorem YCb{K:W.Frag}{ta tb:Bool}{a b:Addr}(xs ys:List V){g:TG}{t:TS}{D:ZH}{σ:St}{H:Hp}(hl:xs.length=ys.length)(Pv:Nat->St->Hp->Prop)(h0:Pv 0 σ H)(hk:∀ i σ H,Pv i σ H->SqB ta H a xs/\SqB tb H b ys)
 (hs:∀ (i:Nat) x y T σ H,xs[i]?=some x->ys[i]?=some y->Pv i σ H->H T=none->g (.ref T) σ (upd H T (.tup [x,y])) fun σ2 H2=>t { D with nx:=Pv (i+1),ct:=Pv (i+1),bk:=D.nx } σ2 H2)
 (hd:∀ σ H,Pv xs.length σ H->D.nx σ H):FoR (ItZ ta tb a b) g t D σ H:=by
 refine⟨fun i m σ H=>m=xs.length - i/\i<=xs.length/\Pv i σ H,⟨_,rfl,Vk _,h0⟩,?_⟩
 rintro i m σ H ⟨rfl,hi,p⟩;obtain⟨k1,k2⟩:=hk i σ H p
 by_cases hlt:i < xs.length
 ·refine .inr ⟨⟨xs,ys,xs[i],ys[i]'(by omega),k1,k2,Vb hlt,Vb (by omega)⟩,Pv (i+1),fun σ' H' q=>⟨_,by omega,rfl,hlt,q⟩,?_⟩
  rintro v H' ⟨T,x,y,hT,rfl,rfl,e1,e2⟩;exact hs i x y T σ H (e1 xs k1) (e2 ys k2) p hT
 ·have e:i=xs.length:=by omega
  subst e;exact .inl ⟨⟨xs,k1,rfl⟩,hd σ H p⟩
end
section
variable{X:Cx}
end
section
variable{X:Cx}
theorem QCc{ta:TA}{tt:TT}{te:TE}{σ:St}{H:Hp}{Q:VK}:tLc (XVb ta) tt te σ H Q=ta σ H fun vs H1=>∃ i j:Int,vs=[.int i,.int j]/\(-(2 ^ 62)<=i/\i < 2 ^ 62 /\ -(2 ^ 62)<=j/\j < 2 ^ 62)/\LcR (Itr i (j - i).toNat) tt te σ Q H1:=rfl
end
end L2
namespace Th
open PySem L2 Pl
def Ygc(c:Nat):Bool:=decide (32<=c/\c<=126/\c≠37)
def QDc(z:Str):Prop:=z.length<=60/\∀ c∈z.cps.toList,Ygc c=true\/c=9\/c=10
def Zib:V->Prop
 | .non=>True
 | .bl _=>True
 | .int _=>True
 | .str z=>QDc z
 | _=>False
def TT:Nat->Hp->V->Prop
 | 0,H,v=>Zib v\/∃ a,v=.ref a/\((∃ xs,H a=some (.lst xs))\/H a=some (.dK [])\/∃ xs,H a=some (.tup xs)/\xs.length<=60)
 | n+1,H,v=>Zib v\/∃ a,v=.ref a/\((∃ xs,H a=some (.lst xs))\/H a=some (.dK [])\/∃ xs,H a=some (.tup xs)/\xs.length<=60/\∀ u∈xs,TT n H u)
end Th
end
section
namespace L2
open PySem PySem.Spec PyProof.Rows
def Y6c(h:Heap)(Y:Addr->Prop)(e:Addr)(vs:Array Value):Option Value->Prop
 | none=>vs[1]?=some .none
 | some v=>∃ T oT ts,vs[1]?=some (.ref T)/\T≠e/\(Y T/\oT.cls=.type "traceback")/\h.get? T=some oT/\oT.data=.fields ts/\ts[3]?=some v
def QEc:YP_->Value->Prop
 | [],c=>c=.none
 | p::r,c=>c=.ref p.1/\∃ va c',p.2.data=.fields va/\va[2]?=some c'/\QEc r c'
def Lie(h:Heap)(Y:Addr->Prop)(e:Addr)(ch:YP_):Prop:=(e::ch.map (·.1)).Nodup/\∀ p∈ch,h.get? p.1=some p.2/\p.2.cls≠.type "traceback"/\(∃ va,p.2.data=.fields va)/\Y p.1
def Exc(h:Heap)(Y:Addr->Prop)(e:Addr)(cls:Value)(dx:Option Addr)(ch:YP_)(fl:Option Value):Prop :=
 ∃ oe vs,h.get? e=some oe/\oe.cls=cls/\oe.dict=dx/\oe.data=.fields vs/\((∃ c,vs[2]?=some c/\QEc ch c)/\Lie h Y e ch)/\Y6c h Y e vs fl
structure QDa(Y:Addr->Prop)(e:Addr)(fs:List Addr)(h h':Heap):Prop where
 keep:∀ b o,h.get? b=some o->b≠e->¬ (Y b/\o.cls=.type "traceback")->b∉fs->h'.get? b=some o
 slot:∀ b o,h.get? b=some o->(∀ vs,o.data≠.fields vs)->∃ sl,h'.get? b=some { o with slots:=sl }
 size:h.objs.size<=h'.objs.size
theorem QDa.trans{Y:Addr->Prop}{e:Addr}{fs:List Addr}{h₁ h₂ h₃:Heap}(x:QDa Y e fs h₁ h₂)(y:QDa Y e fs h₂ h₃):QDa Y e fs h₁ h₃ :=
 ⟨fun b o q a c d=>y.keep b o (x.keep b o q a c d) a c d,fun b o q n=>let ⟨_,e1⟩:=x.slot b o q n;let ⟨sl,e2⟩:=y.slot b _ e1 n;⟨sl,e2⟩,Vj x.size y.size⟩
theorem QDa.funs{Y:Addr->Prop}{e:Addr}{fs:List Addr}{h h' base:Heap}{l:List Env}(x:QDa Y e fs h h')(f:h.FunFrames base l):h'.FunFrames base l :=
 f.of_keeps fun b o q n=>let ⟨sl,e1⟩:=x.slot b o q n;⟨_,e1,rfl⟩
theorem Lie.stay{Y:Addr->Prop}{e:Addr}{fs:List Addr}{h h':Heap}{ch:YP_}(l:Lie h Y e ch)(st:QDa Y e fs h h')(nf:∀ b∈fs,∃ o,h.get? b=some o/\∀ vs,o.data≠.fields vs):Lie h' Y e ch :=
 ⟨l.1,fun p hp=>by
  obtain⟨q,c,⟨va,d⟩,y⟩:=l.2 p hp;refine⟨st.keep p.1 p.2 q (fun z=>?_) (fun z=>c z.2) (fun z=>?_),c,⟨va,d⟩,y⟩
  ·exact(nodup_cons.mp l.1).1 (by rw[<- z];exact mem_map_of_mem hp)
  ·obtain⟨o,q',n⟩:=nf _ z
   rw[q]at q';cases q';exact n va d⟩
theorem Xqb(o:Obj)(f):(o.mapFields f).dict=o.dict:=by
 obtain⟨c,d,dt,sl⟩:=o;cases dt <;> rfl
theorem J7a{Y:Addr->Prop}{e a:Addr}{fs:List Addr}{h:Heap}{o:Obj}{vs:Array Value}(i:Nat)(x:Value)(ho:h.get? a=some o)(hd:o.data=.fields vs)(ha:a=e\/(Y a/\o.cls=.type "traceback")) :
 QDa Y e fs h (h.update a (Obj.mapFields (·.setIfInBounds i x))) where
 keep b u q n1 n2 _:=by
  rw[Heap.get?_update_other _ _ (fun z=>by subst z;rw[ho]at q;cases q;exact ha.elim n1 n2)];exact q
 slot b u q n:=⟨u.slots,by
  rw[Heap.get?_update_other _ _ (fun z=>by subst z;rw[ho]at q;cases q;exact n vs hd)];exact q⟩
 size:=by rw[Heap.size_update];exact Ve _
theorem YDb{a:Addr}{h:Heap}{o:Obj}{vs:Array Value}(i:Nat)(x:Value)(ho:h.get? a=some o)(hd:o.data=.fields vs) :
 (h.update a (Obj.mapFields (·.setIfInBounds i x))).get? a=some (o.mapFields (·.setIfInBounds i x)):=Heap.get?_update_self _ ho (Obj.isFreed_of_fields (Obj.data_mapFields hd _))
section
variable{M:Model}{A:Around}{E:YQ_}{s:Shared}{Y:Addr->Prop}{base:Heap}{env:Env}{outer:List Env}{L e:Addr}{cls:Value}{dx:Option Addr}{ch:YP_}{fl:Option Value}{Q:Unit->Shared->Prop}
theorem X4a{fs:List Addr}{v:Value}(nf:∀ b∈fs,∃ o,s.heap.get? b=some o/\∀ vs,o.data≠.fields vs)(x:Exc s.heap Y e cls dx ch (some v))(q:∀ h',QDa Y e fs s.heap h'->Exc h' Y e cls dx ch (some .none)->Q () { s with heap:=h' }):wpAny M A (setFlight (.ref e) none) Q E s:=by
 obtain⟨oe,vs,he,hc,hdx,hd,⟨lk,ll⟩,T,oT,ts,h1,hTe,hY,hT,hdT,h3⟩:=x;unfold setFlight;refine Va (wpAny_field he hd h1 ?_)
 rw[if_pos (show(Value.ref T != Value.none)=true from by simp)]
 have hsz:3 < ts.size:=(Array.getElem?_eq_some_iff.mp h3).1
 have st:=J7a (Y:=Y) (e:=e) (fs:=fs) 3 ((none:Option Addr).elim Value.none fun f=>rawInt f) hT hdT (.inr hY)
 refine wpAny_setField hT hdT hsz (q _ st ⟨oe,vs,?_,hc,hdx,hd,⟨lk,ll.stay st nf⟩,T,_,_,h1,hTe,⟨hY.1,(Obj.cls_mapFields _ _).trans hY.2⟩,YDb 3 _ hT hdT,Obj.data_mapFields hdT _,?_⟩)
 ·rw[Heap.get?_update_other _ _ hTe];exact he
 ·simp[hsz]
theorem Zjb{head:Value}{hadNext:Bool}(hfr:A.frames=some (env::outer))(hl:s.heap.FunFrames base (env::outer))(hf:env.frame=some L)(hy:∀ b,s.heap.objs.size<=b->Y b){oe:Obj}{vs:Array Value}
 (he:s.heap.get? e=some oe) (hc:oe.cls=cls) (hdx:oe.dict=dx) (hd:oe.data=.fields vs) (hsz:1 < vs.size) (lk:∃ c,vs[2]?=some c/\QEc ch c) (ll:Lie s.heap Y e ch)
 (q:∀ h',QDa Y e (frs (env::outer)) s.heap h'->Exc h' Y e cls dx ch (some (rawInt L))->Q () { s with heap:=h' }) :
 wpAny M A (do let a <- frameOf env;let pl <- entryPlaceOf L hadNext;let b <- EntryCells.newEntry head a .none (rawInt L) .none pl;setField (.ref e) 1 b) Q E s:=by
 refine Va (wpAny_frameOf_fun hfr hl hf fun h₁ hs=>?_)
 refine Va (wpAny_entryPlaceOf fun pl hpl=>?_)
 unfold EntryCells.newEntry newFields;refine Va (wpAny_newObj_type ?_ (hpl.sizeOk5 _ _ _ _ _))
 have hef:e∉frs (env::outer):=fun hm=>by
  obtain⟨_,o,ho,hn⟩:=hl.mem hm;rw[he]at ho;cases ho;exact hn vs hd
 have he1:h₁.get? e=some oe:=(hs.2.1 e hef).trans he;have hne:h₁.objs.size≠e:=Nat.ne_of_gt (Vh he1);generalize htb:({ cls:=.type "traceback",dict:=none,data:=.fields ([head,.ref L,.none,rawInt L,.none]++(if pl.isEmpty then List.replicate 6 Value.none else pl)).toArray }:Obj)=tb
 have htd:tb.data=.fields ([head,.ref L,.none,rawInt L,.none]++(if pl.isEmpty then List.replicate 6 Value.none else pl)).toArray:=by rw[<- htb]
 have hfr':tb.isFreed=false:=Obj.isFreed_of_fields htd;have he2:(h₁.push tb).get? e=some oe:=Vd _ he1
 have hY:Y h₁.objs.size:=hy _ (by rw[hs.1];exact Ve _)
 have htc:tb.cls=.type "traceback":=by rw[<- htb]
 have st:QDa Y e (frs (env::outer)) s.heap ((h₁.push tb).update e (Obj.mapFields (·.setIfInBounds 1 (Value.ref h₁.objs.size)))):=by
  refine QDa.trans ?_ (J7a 1 _ he2 hd (.inl rfl))
  refine⟨fun b o g _ _ n=>Vd _ ((hs.2.1 b n).trans g),fun b o g _=>?_,?_⟩
  ·obtain⟨sl,g1⟩:=hs.2.2 b o g
   exact⟨sl,Vd _ g1⟩
  ·rw[<- hs.1];cases h₁;simp[Heap.push]
 refine wpAny_setField he2 hd hsz (q _ st ⟨_,_,YDb 1 _ he2 hd,(Obj.cls_mapFields _ _).trans hc,(Xqb _ _).trans hdx,Obj.data_mapFields hd _,⟨?_,ll.stay st fun b hb=>(hl.mem hb).2⟩,h₁.objs.size,tb,_,by simp[hsz],hne,⟨hY,htc⟩,?_,htd,?_⟩)
 ·obtain⟨c,h2,l⟩:=lk
  exact⟨c,by rw[Array.getElem?_setIfInBounds_ne (by decide)];exact h2,l⟩
 ·rw[Heap.get?_update_other _ _ (Ne.symm hne)];exact Vi _ hfr'
 ·first | (simp;done) | (rcases hpl with rfl | ⟨_,_,_,_,_,_,_,rfl⟩ <;> simp)
theorem YEb(hfr:A.frames=some (env::outer))(hl:s.heap.FunFrames base (env::outer))(hf:env.frame=some L)(hy:∀ b,s.heap.objs.size<=b->Y b)(x:Exc s.heap Y e cls dx ch fl)(hfl:fl=none\/fl=some .none)
 (q:∀ h',QDa Y e (frs (env::outer)) s.heap h'->Exc h' Y e cls dx ch (some (rawInt L))->Q () { s with heap:=h' }):wpAny M A (noteFrame (.ref e) env) Q E s:=by
 obtain⟨oe,vs,he,hc,hdx,hd,⟨lk,ll⟩,hh⟩:=x;unfold noteFrame;simp only[hf]
 rcases hfl with rfl | rfl
 ·have h1:vs[1]?=some .none:=hh
  refine Va (wpAny_field he hd h1 ?_)
  rw[if_neg (by decide)]
  exact Zjb hfr hl hf hy he hc hdx hd (Array.getElem?_eq_some_iff.mp h1).1 lk ll q
 ·obtain⟨T,oT,ts,h1,hTe,hY,hT,hdT,h3⟩:=hh
  refine Va (wpAny_field he hd h1 ?_)
  rw[if_pos (show(Value.ref T != Value.none)=true from by simp)]
  refine Va (wpAny_field hT hdT h3 ?_)
  rw[if_neg (show ¬ ((Value.none == rawInt L)=true) from by simp[rawInt])]
  refine Va (wpAny_setField hT hdT (Array.getElem?_eq_some_iff.mp h3).1 ?_)
  have st:QDa Y e (frs (env::outer)) s.heap (s.heap.update T (Obj.mapFields (·.setIfInBounds 3 Value.none))):=J7a 3 _ hT hdT (.inr hY);refine Zjb (s:={ s with heap:=s.heap.update T (Obj.mapFields (·.setIfInBounds 3 Value.none)) }) hfr (st.funs hl) hf (fun b hb=>hy b (Vj st.size hb)) ((Heap.get?_update_other _ _ hTe).trans he) hc hdx hd (Array.getElem?_eq_some_iff.mp h1).1 lk (ll.stay st fun b hb=>(hl.mem hb).2) fun h' t x'=>q h' (st.trans t) x'
theorem QFc(hfr:A.frames=some (env::outer))(hl:s.heap.FunFrames base (env::outer))(hf:env.frame=some L)(hy:∀ b,s.heap.objs.size<=b->Y b)(x:Exc s.heap Y e cls dx ch fl)(hfl:fl=none\/fl=some .none)
 (q:∀ h',QDa Y e (frs (env::outer)) s.heap h'->Exc h' Y e cls dx ch (some .none)->Q () { s with heap:=h' }):wpAny M A (leaving env (.ref e)) Q E s:=by
 unfold leaving;refine Va (YEb hfr hl hf hy x hfl fun h₁ st x1=>?_)
 exact X4a (s:={ s with heap:=h₁ }) (fs:=frs (env::outer)) (fun b hb=>((st.funs hl).mem hb).2) x1 fun h₂ st2 x2=>q h₂ (st.trans st2) x2
end
theorem Exc.mono{h:Heap}{Y Y':Addr->Prop}{e:Addr}{cls:Value}{dx:Option Addr}{ch:YP_}{fl:Option Value}(x:Exc h Y e cls dx ch fl)(k:∀ b,Y b->Y' b):Exc h Y' e cls dx ch fl:=by
 obtain⟨oe,vs,he,hc,hdx,hd,⟨lk,l1,l2⟩,hh⟩:=x;refine⟨oe,vs,he,hc,hdx,hd,⟨lk,l1,fun p hp=>let ⟨a,b,c,d⟩:=l2 p hp;⟨a,b,c,k _ d⟩⟩,?_⟩
 cases fl with
 | none=>exact hh
 | some v=>obtain⟨T,oT,ts,h1,h2,h3,r⟩:=hh;exact⟨T,oT,ts,h1,h2,⟨k T h3.1,h3.2⟩,r⟩
def Yg(old:Heap)(H:Hp)(b:Addr):Prop:=old.get? b=none/\H b=none
def CX1(P:Program)(w:World):CXT:=fun outer H s E e s'=>∃ ea cls dx ch H',e=.ref ea/\s'.os=s.os/\AllBare s'.gens/\Un (frs outer) [] H H' s.heap s'.heap/\HOk P w H' s'.heap /\
 Exc s'.heap (Yg s.heap H') ea cls dx ch (some .none)/\s.heap.get? ea=none/\H' ea=none/\E cls dx H'
def J8a(X:Cx)(E:XK):Prop:=∀ (pins:YP_) (σ:St) (H:Hp) (s:Shared) (e:Addr) (cls:Value) (dx:Option Addr) (ch:YP_) (fl:Option Value),Inv X pins σ H s->Exc s.heap (Yg X.s₀.heap H) e cls dx ch fl->(fl=none\/fl=some .none) ->
 X.s₀.heap.get? e=none->H e=none->E cls dx H->X.xe (.ref e) s
section
variable{X:Cx}{E:XK}{pins:YP_}{σ:St}{H:Hp}{s:Shared}
theorem Inv.young(I:Inv X pins σ H s)(hx:X.ex=[]){b:Addr}(h:s.heap.get? b=none):X.s₀.heap.get? b=none:=by
 cases q:X.s₀.heap.get? b with
 | none=>rfl
 | some o =>
  obtain⟨o',e⟩:=I.base.there b o q (by rw[hx];simp)
  rw[h]at e;cases e
theorem Zkb{env:Env}{outer:List Env}{L:Addr}(h:env.frame=some L):frs (env::outer)=L::frs outer:=by unfold frs;rw[filterMap_cons,h]
end
section
variable{P:Program}{w:World}{K:W.Frag}{mg:Str->Option Value}{base:Heap}{N:List Str}{qual:Str}{scope:Scope}{f:Addr}{cd:Value}{A:Around}{outer:List Env}{s:Shared}{H:Hp}{E:XK}
theorem Yt:J8a (Zna (CX1 P w) P w K mg base N qual scope f cd A outer s H E) E:=by
 intro pins σ H' s' e cls dx ch fl I x hfl n1 n2 hE;have n1:s.heap.get? e=none:=n1;have fr:frs (envOfC qual scope s.heap.objs.size f cd::outer)=s.heap.objs.size::frs outer:=Zkb rfl;have stk:s'.heap.FunFrames base (envOfC qual scope s.heap.objs.size f cd::outer):=I.stack;have sf:∀ b∈frs (envOfC qual scope s.heap.objs.size f cd::outer),H' b=none:=I.stkFree;have ib:Un (frs outer) [] H H' s.heap s'.heap:=I.base;show wpAny (model P w) _ (leaving _ (.ref e)) _ _ s';refine QFc (base:=base) (Y:=Yg s.heap H') (L:=s.heap.objs.size) (fl:=fl) I.ok.frames stk rfl (fun b hb=>⟨Heap.get?_none_of_le (Vj I.sz hb),I.hok.fresh hb⟩) x hfl fun h' st x'=>?_
 have nf:∀ b o,s.heap.get? b=some o->b∉frs outer->b∉frs (envOfC qual scope s.heap.objs.size f cd::outer):=fun b o q hb hm=>by
  rw[fr]at hm
  rcases mem_cons.mp hm with z | z
  ·rw[z]at q;exact absurd (Vh q) (Vu _)
  ·exact hb z
 have ne:∀ b o,s.heap.get? b=some o->b≠e:=fun b o q z=>by rw[z,n1]at q;cases q
 have ny:∀ b o (o':Obj),s.heap.get? b=some o->¬ (Yg s.heap H' b/\o'.cls=.type "traceback"):=fun b o o' q y=>by rw[y.1.1]at q;cases q
 refine⟨e,cls,dx,ch,H',rfl,I.os,I.bare,⟨fun b o q n hb hx=>?_,fun b o q n hb hx=>?_,ib.free,fun b o q hx=>?_,ib.tups,ib.frzs,ib.tbls⟩,fun b u eb=>?_,x',n1,n2,hE⟩
 ·exact st.keep b o (ib.keep b o q n hb hx) (ne b o q) (ny b o _ q) (nf b o q hb)
 ·obtain⟨sl,q1⟩:=ib.slot b o q n hb hx
  obtain⟨_,o2,q2,hn⟩:=stk.mem (show b∈frs _ by rw[fr];exact Vo _ hb)
  rw[q1]at q2;cases q2;obtain⟨sl',q3⟩:=st.slot b _ q1 hn;exact⟨sl',q3⟩
 ·obtain⟨o',q1⟩:=ib.there b o q hx
  by_cases hn:∀ vs,o'.data≠.fields vs
  ·obtain⟨sl,q2⟩:=st.slot b o' q1 hn
   exact⟨_,q2⟩
  ·refine⟨o',st.keep b o' q1 (ne b o q) (ny b o _ q) fun hm=>?_⟩
   obtain⟨_,o2,q2,hn2⟩:=stk.mem hm;rw[q1]at q2;cases q2;exact hn hn2
 ·refine(I.hok b u eb).stay (fun c v hc q=>?_) (fun _ q=>q) fun _ _ q=>q
  have hc':H' c≠none:=by
   rcases hc with z | z
   ·rw[z,eb];simp
   ·rw[z];simp
  exact st.keep c v q (fun z=>hc' (by rw[z];exact n2)) (fun y=>hc' y.1.2) fun hm=>hc' (sf c hm)
theorem Qrd:PassesOwn (model P w) (Zna (CX1 P w) P w K mg base N qual scope f cd A outer s H E).A (Zna (CX1 P w) P w K mg base N qual scope f cd A outer s H E).env (Zna (CX1 P w) P w K mg base N qual scope f cd A outer s H E).xe:=PassesOwn.leaving (Q₁:=fun e s''=>CX1 P w outer H s E e s'')
end
theorem QL.obj{P:Program}{w:World}{H:Hp}{h:Heap}{a:Addr}{o:HO}(x:QL P w H h a o):∃ ob,h.get? a=some ob:=by
 cases o with
 | lst xs=>obtain⟨_,_,_,_,e⟩:=x;exact⟨_,e⟩
 | tup xs=>obtain⟨_,_,_,p⟩:=x;obtain⟨o,e,_⟩:=p;exact⟨_,e⟩
 | dK kvs=>obtain⟨_,_,_,_,o,_,_,e,_⟩:=x;exact⟨_,e⟩
 | dT kvs=>obtain⟨_,_,_,_,o,_,_,e,_⟩:=x;exact⟨_,e⟩
 | set S n=>obtain⟨o,_,_,_,e,_⟩:=x;exact⟨_,e⟩
 | ins C dx fs=>obtain⟨_,_,_,e,_⟩:=x;exact⟨_,e⟩
 | own y=>exact x
 | xd fs=>obtain⟨_,⟨_,_,_,e,_⟩,_⟩:=x;exact⟨_,e⟩
 | rng lo hi=>obtain⟨_,_,_,e⟩:=x;exact⟨_,e⟩
 | frz ob u=>obtain⟨e,_⟩:=x;exact⟨_,e⟩
 | tbl ps=>exact⟨_,x⟩
 | met f y=>exact⟨_,x⟩
 | ext φ=>obtain⟨_,e,_⟩:=x;exact e
theorem HOk.none_of{P:Program}{w:World}{H:Hp}{h:Heap}{a:Addr}(x:HOk P w H h)(e:h.get? a=none):H a=none:=by
 cases q:H a with
 | none=>rfl
 | some u=>obtain⟨o,e'⟩:=(x a u q).obj;rw[e]at e';cases e'
structure Qsd(K:W.Frag)(C:Addr)(bm bmB:List Value)(newId:String):Prop where
 ex:∃ nm q N bs hdct sn sub ab col dd k0 k1 k2 k3 k5,K.lookup C=some (excClassObj nm q C N bs bm hdct sn sub ab col dd k0 k1 k2 k3 k5 newId)/\W.nsOkIn K N=true/\W.nsIn K N "__init__"=some none
 tail:W.tailIn K bmB bm=true
section
variable{X:Cx}{E:XK}{x:Str}{C:Addr}{bm bmB:List Value}{B newId initId:String}{np cpos pos:Pos}
end
structure Old(X:Cx)(pins:YP_)(old:Heap):Prop where
 ent:∀ b,old.get? b=none->X.s₀.heap.get? b=none
 pin:∀ p∈X.pn++pins,old.get? p.1≠none
def X1P(X:Cx)(pins:YP_)(σ:St)(E:XK)(ev:Value)(s':Shared):Prop :=
 ∃ ea cls dx ch H' old,ev=.ref ea/\Inv X pins σ H' s'/\Exc s'.heap (Yg old H') ea cls dx ch (some .none)/\Old X pins old/\(∀ b,s'.heap.objs.size<=b->old.get? b=none)/\old.get? ea=none/\H' ea=none/\E cls dx H'
abbrev TE1:=St->Hp->VK->XK->Prop
abbrev TS1:=ZH->St->Hp->XK->Prop
def PE1(X:Cx)(e:Expr)(t:TE1):Prop :=
 ∀ (pins:YP_) (s:Shared) (σ:St) (H:Hp) (Q:VK) (E:XK),Inv X pins σ H s->t σ H Q E->wpAny (model X.prog X.w) X.A (eval e X.env) (EP X pins σ Q) (X1P X pins σ E) s
def PS1(X:Cx)(st:Stmt)(t:TS1):Prop :=
 ∀ (pins:YP_) (s:Shared) (σ:St) (H:Hp) (D:ZH) (E:XK),Inv X pins σ H s->t D σ H E->wpAny (model X.prog X.w) X.A (exec st X.env) (SP X pins D) (X1P X pins σ E) s
section
variable{X:Cx}{E:XK}{e:Expr}{es:List Expr}{t:TA}{t1:TE1}{x:Str}{p pos:Pos}{k j:Nat}{f:Addr}{fd:FuncData}{ps:List Str}{sp:Sp}
theorem X1P.thrown{pins:YP_}{σ:St}{ev:Value}{s':Shared}(T:J8a X E)(h:X1P X pins σ E ev s'):X.xe ev s':=by
 obtain⟨ea,cls,dx,ch,H',old,rfl,I,y,o,_,n1,n2,hE⟩:=h;exact T pins σ H' s' ea cls dx ch _ I (y.mono fun b z=>⟨o.ent b z.1,z.2⟩) (.inr rfl) (o.ent _ n1) n2 hE
theorem PE1.pe(h:PE1 X e t1)(T:J8a X E):PE X e (fun σ H Q=>t1 σ H Q E):=fun pins s σ H Q I q=>wpAny_mono (h pins s σ H Q E I q) (fun _ _ z=>z) fun _ _ z=>z.thrown T
theorem Inv.old{pins:YP_}{σ:St}{H:Hp}{s:Shared}(I:Inv X pins σ H s)(hex:X.ex=[]):Old X pins s.heap :=
 ⟨fun b h=>I.young hex h,fun p hp h=>by rw[(I.pin p hp).1]at h;cases h⟩
theorem JFa{pins:YP_}{σ:St}{H:Hp}{s:Shared}{Q:VK}{us:List Value}{vs:List V}(F:QF X.prog X.w X.K X.mg X.base (CX1 X.prog X.w) k f fd ps sp)(hr:Zq k X.A)(hb:Jj X.K fd ps [])(hex:X.ex=[])
 (I:Inv X pins σ H s) (r:QE vs us) (h:sp vs H Q E):wpAny (model X.prog X.w) X.A (call (.ref f) us) (EP X pins σ Q) (X1P X pins σ E) s:=by
 have hl:(us++[]).length=ps.length:=by rw[append_nil,<- r.length];exact F.len _ _ _ _ h
 have b:=hb s us I.kIn hl;rw[append_nil]at b;refine wpAny_call (codeAny_mono (F.run X.A X.stack s H ⟨us,[]⟩ us vs Q E hr I.env0 b r h) fun res s' hq=>?_)
 cases res with
 | error ev =>
  obtain⟨ea,cls,dx,ch,H',rfl,os,bare,un,hok,y,n1,n2,hE⟩:=hq;refine⟨ea,cls,dx,ch,H',s.heap,rfl,I.call' (ch:=[]) os un hok bare (fun b z=>absurd z (by simp)),y,I.old hex,fun b hb=>?_,n1,n2,hE⟩
  cases q:s.heap.get? b with
  | none=>rfl
  | some u =>
   obtain⟨u',q'⟩:=un.there b u q (by simp)
   exact absurd (Vt (Vh q') hb) (Vu _)
 | ok fl =>
  cases fl with
  | ret u=>exact I.after hq
  | next=>exact False.elim hq
  | brk=>exact False.elim hq
  | cont=>exact False.elim hq
def JCb(sp:Sp)(t:TA):TE1:=fun σ H Q E=>t σ H fun vs H1=>sp vs H1 Q E
theorem QGc{pins:YP_}{σ:St}{H:Hp}{s:Shared}{Q:List V->Hp->Prop}{W:YQ_}(ha:PA X.nox es t)(I:Inv X pins σ H s)(q:t σ H Q):wpAny (model X.prog X.w) X.A (spliced (backTo pos (starEach es X.env))) (AP X pins σ Q) W s :=
 wpAny_mono (ha pos pins s σ H Q (I.wish _) q) (fun _ _ ⟨vs,H',I',r,z⟩=>⟨vs,H',I'.unwish,r,z⟩) fun _ _ z=>False.elim z
theorem QHc(F:QF X.prog X.w X.K X.mg X.base (CX1 X.prog X.w) k f fd ps sp)(hr:Zq k X.A)(hg:Gl X x)(hm:X.mg x=some (.ref f))(hk:W.keepIn X.K (.ref f)=true)(hb:Jj X.K fd ps [])(hex:X.ex=[])
 (ha:PA X.nox (e::es) t) (hdb:(x == ("__debug__":Str))=false:=by decide) (he:starEach (e::es) X.env=(false,eval e X.env)::starEach es X.env:=by rfl) (hpl:(backTo pos (starEach es X.env)).any (·.1)=false:=by rfl) :
 PE1 X (.Call (.Name x p) (e::es) [] pos) (JCb sp t):=by
 intro pins s σ H Q E I h;refine wpAny_Call_Name_kw (JP I hg hm ?_ hdb)
 refine W.callWith_K (h₀:=X.base) I.ok.mod.kin hk (thn (QGc ha I h) fun us s1 ⟨vs,H1,I1,r,q⟩=>⟨I1.kIn,?_⟩) he hpl
 exact JFa F hr hb hex I1 r q
theorem QIc(h:PE1 X e t1)(hs:swapsWith e none pos.line X.env=pure false:=by rfl):PS1 X (.Expr e pos) (fun D σ H E=>t1 σ H (fun _ H1=>D.nx σ H1) E):=fun pins s σ H D E I q =>
 wpAny_Expr_any (thn (h pins s σ H _ E I q) fun v s1 ⟨x,H1,I1,r1,q1⟩=>⟨σ,H1,I1,q1⟩) I.quiet hs
end
section
variable{X:Cx}{pins:YP_}{σ:St}{H:Hp}{s:Shared}
theorem Jic{h h':Heap}{a:Addr}{m:Str->Option Value}(hn:h.Ns a m)(k:∀ o,h.get? a=some o->(∀ vs,o.data≠.fields vs)->∃ sl,h'.get? a=some { o with slots:=sl }):h'.Ns a m:=by
 obtain⟨o,es,ep,ho,hd,r⟩:=hn;obtain⟨sl,e⟩:=k o ho fun vs q=>by rw[hd]at q;cases q
 exact⟨_,es,ep,e,hd,r⟩
theorem Inv.stayed{old h':Heap}{e:Addr}(I:Inv X pins σ H s)(hex:X.ex=[])(o:Old X pins old)(n1:old.get? e=none)(n2:H e=none)(st:QDa (Yg old H) e (frs X.stack) s.heap h'):Inv X pins σ H { s with heap:=h' }:=by
 have ne:∀ b,X.s₀.heap.get? b≠none->b≠e:=fun b q z=>q (by rw[z];exact o.ent _ n1)
 have ny:∀ b (u:Obj),X.s₀.heap.get? b≠none->¬ (Yg old H b/\u.cls=.type "traceback"):=fun b _ q y=>q (o.ent _ y.1.1)
 have sub:∀ b,b∈frs X.stack->b=X.env.locals\/b∈X.fs:=fun b hb=>mem_cons.mp (I.stkSub b hb)
 have nl:∀ b u,X.s₀.heap.get? b=some u->b≠X.env.locals:=fun b u q=>Nat.ne_of_lt (Vt (Vh q) I.ok.above)
 have xn:∀ b:Addr,b∉X.ex:=fun b z=>by rw[hex]at z;exact absurd z (by simp)
 have ck:∀ c v,s.heap.IsCell c v->({ s with heap:=h' }:Shared).heap.IsCell c v:=fun c v ⟨oc,hc,hd⟩=>by
  obtain⟨sl,q⟩:=st.slot c oc hc fun vs z=>by rw[hd]at z;cases z
  exact⟨_,q,hd⟩
 refine⟨I.ok,I.os,I.bare,⟨fun b u q n hb hx=>?_,fun b u q n hb hx=>?_,I.base.free,fun b u q hx=>?_,I.base.tups,I.base.frzs,I.base.tbls⟩,?_,fun y c q=>?_,I.free,I.freeC,fun p hp=>?_,fun b u eb=>?_,I.len⟩
 ·exact st.keep b u (I.base.keep b u q n hb hx) (ne b (by rw[q];simp)) (ny b _ (by rw[q];simp)) fun hm=>(sub b hm).elim (nl b u q) hb
 ·obtain⟨sl,q1⟩:=I.base.slot b u q n hb hx
  obtain⟨_,o2,q2,hn⟩:=I.ok.funs.mem hb;rw[q]at q2;cases q2;obtain⟨sl',q3⟩:=st.slot b _ q1 hn;exact⟨sl',q3⟩
 ·obtain⟨u',q1⟩:=I.base.there b u q hx
  by_cases hn:∀ vs,u'.data≠.fields vs
  ·obtain⟨sl,q2⟩:=st.slot b u' q1 hn
   exact⟨_,q2⟩
  ·refine⟨u',st.keep b u' q1 (ne b (by rw[q];simp)) (ny b _ (by rw[q];simp)) fun hm=>?_⟩
   obtain⟨_,o2,q2,hn2⟩:=I.stack.mem hm;rw[q1]at q2;cases q2;exact hn hn2
 ·obtain⟨m,hn,hl⟩:=I.loc
  refine⟨m,Jic hn fun u q n=>st.slot _ u q n,fun i y v e1 e2 e3=>?_⟩
  obtain⟨u,r,l⟩:=hl i y v e1 e2 e3;refine⟨u,r,?_⟩
  rcases l with l | ⟨k,c,ec,z⟩
  ·exact .inl l
  ·exact .inr ⟨k,c,ec,ck c _ z⟩
 ·obtain⟨v,z⟩:=I.cell y c q
  exact⟨v,ck c v z⟩
 ·obtain⟨q,n,a,b,d⟩:=I.pin p hp
  have hq:=o.pin p hp;exact⟨st.keep p.1 p.2 q (fun z=>hq (by rw[z];exact n1)) (fun y=>hq y.1.1) fun hm=>(sub p.1 hm).elim a b,n,a,b,d⟩
 ·refine(I.hok b u eb).stay (fun c v hc q=>?_) (fun _ q=>q) fun _ _ q=>q
  have hc':H c≠none:=by
   rcases hc with z | z
   ·rw[z,eb];simp
   ·rw[z];simp
  exact st.keep c v q (fun z=>hc' (by rw[z];exact n2)) (fun y=>hc' y.1.2) fun hm=>hc' (I.stkFree c hm)
abbrev Cx.held(X:Cx)(ea:Addr)(ps:YP_):Cx:={ X with A:=X.A.mark (some (.ref ea)),calm:=false,pn:=ps++X.pn }
theorem Inv.held{ea:Addr}{ps:YP_}(I:Inv X pins σ H s)(h:∀ p∈ps,s.heap.get? p.1=some p.2/\H p.1=none/\p.1≠X.env.locals/\p.1∉X.fs/\∀ v,p.2.data≠.cell v):Inv (X.held ea ps) pins σ H s :=
 ⟨⟨I.ok.mod,I.ok.kind,I.ok.glob,I.ok.blt,I.ok.above,I.ok.inj,I.ok.has,I.ok.cab,(fun h=>by cases h),I.ok.frames,I.ok.stk,I.ok.exf,I.ok.bs,I.ok.bsz,I.ok.noex,I.ok.exfs,I.ok.funs,I.ok.frf⟩,I.os,I.bare,I.base,I.loc,I.cell,I.free,I.freeC,fun p hp=>by
  have hp:p∈(ps++X.pn)++pins:=hp;rw[Vq]at hp;exact(Vl.mp hp).elim (h p) (I.pin p),I.hok,I.len⟩
theorem Inv.unheld{ea:Addr}{ps:YP_}(I:Inv (X.held ea ps) pins σ H s)(ok:X.Ok):Inv X pins σ H s:=⟨ok,I.os,I.bare,I.base,I.loc,I.cell,I.free,I.freeC,fun p hp=>I.pin p (by show p∈(ps++X.pn)++pins;rw[Vq];exact Vp _ hp),I.hok,I.len⟩
end
section
variable{X:Cx}{st b₀:Stmt}{suite:List Stmt}{t1:TS1}{ts:TS}{x:Str}{C:Addr}{bm bmB:List Value}{B newId initId:String}{np hpos pos:Pos}
end
section
variable{prog:Program}{w:World}{A:Around}{s:Shared}{R:Result->Shared->Prop}{value:Value}
end
section
variable{M:Model}{A:Around}{E:YQ_}{env:Env}
variable{nm q:Str}{C N:Addr}{bs bm:List Value}{hdct:Bool}{sn:List Str}{sub:List Value}{ab:Bool}{col:Option Bool}{dd:Option Addr}{k0 k1 k2 k3 k5:Option Value}{newId:String}
end
section
variable{X:Cx}{E:XK}{x:Str}{C ea:Addr}{ps:YP_}{bm bmB:List Value}{B newId initId:String}{np cpos kpos pos:Pos}{j:Nat}
end
def MeV(P:Program)(w:World)(K:W.Frag)(mg:Str->Option Value)(base:Heap)(k:Nat)(C:Addr)(m:Str)(sp:Sp):Prop :=
 ∃ f fd ps,XHc K C m f/\QF P w K mg base (CX1 P w) k f fd ps sp/\Jj K fd ps []
section
variable{X:Cx}{C:Addr}{m x:Str}{k i:Nat}{sp:Sp}{ta:TE}{t:TA}{e o:Expr}{es:List Expr}{p pos apos:Pos}{pl:Sem Bool}
theorem YFb{pins:YP_}{σ:St}{H:Hp}{s:Shared}{Q:VK}{W:YQ_}(h:PE X.nox e ta)(I:Inv X pins σ H s)(q:ta σ H Q):wpAny (model X.prog X.w) X.A (eval e X.env) (EP X pins σ Q) W s :=
 wpAny_mono (h pins s σ H Q (I.wish _) q) (fun _ _ ⟨v,H',I',r,z⟩=>⟨v,H',I'.unwish,r,z⟩) fun _ _ z=>False.elim z
end
section
variable{P:Program}{w:World}{K:W.Frag}{mg:Str->Option Value}{base:Heap}
theorem Fun.ok1{x qual:Str}{st:Stmt}{f:Addr}{fd:FuncData}{N ps:List Str}{k:Nat}{sp:Sp}(F:Fun K x qual st f fd)(S:Qq N ps (Qj st))(len:∀ vs H Q E,sp vs H Q E->vs.length=ps.length)
 (hbody:∀ (cdv:Value) (A:Around) (outer:List Env) (s:Shared) (H:Hp) (vs:List V) (Q:VK) (E:XK),Zq k (A.deeper (envOfC qual (Qj st) s.heap.objs.size f cdv))->sp vs H Q E ->
  ∃ t,PSs (Zna (CX1 P w) P w K mg base N qual (Qj st) f cdv A outer s H E) (Xd st) t/\t { nx:=fun _ H'=>Q .non H',rt:=Q } (Zma N vs) H):QF P w K mg base (CX1 P w) (k+1) f fd ps sp:=by
 obtain⟨oc,od,kV,doc,pm,an,cdv,ct,osl,rfl,lk,hcd⟩:=F.ex;exact J1c lk hcd S len fun A outer s H vs Q E hr hsp=>hbody cdv A outer s H vs Q E hr hsp
end
section
variable{X:Cx}
theorem ZP:J8a X E0:=fun _ _ _ _ _ _ _ _ _ _ _ _ _ _ h=>h.elim
end
section
variable{P:Program}{w:World}{K:W.Frag}{mg:Str->Option Value}{base:Heap}{N:List Str}{qual:Str}{scope:Scope}{f:Addr}{cd:Value}{A:Around}{outer:List Env}{s:Shared}{H:Hp}{E:XK}
end
def JDb(P:Program)(w:World)(K:W.Frag)(mg:Str->Option Value)(base:Heap)(k:Nat)(x:Str)(ps:List Str)(sp:Sp):Prop :=
 ∃ f fd,QF P w K mg base (CX1 P w) k f fd ps sp/\Jj K fd ps []/\W.keepIn K (.ref f)=true/\mg x=some (.ref f)
def MkV(P:Program)(w:World)(K:W.Frag)(mg:Str->Option Value)(base:Heap)(k:Nat)(x:Str)(C:Addr)(sp:Sp):Prop :=
 ∃ f fd ps,Mk K C f/\QF P w K mg base CX0 k f fd ps sp/\Jj K fd ps []/\mg x=some (.ref C)
section
variable{X:Cx}{e o:Expr}{es:List Expr}{t:TA}{ta:TE}{p pos apos:Pos}{j k:Nat}{x m:Str}{ps:List Str}{sp:Sp}{C:Addr}{E:XK}{pl:Sem Bool}
theorem Zza(G:JDb X.prog X.w X.K X.mg X.base j x ps sp)(hr:Zq k X.A)(hj:j<=k)(hg:Gl X x)(hex:X.ex=[])(ha:PA X.nox (e::es) t)(hdb:(x == ("__debug__":Str))=false:=by decide)
 (he:starEach (e::es) X.env=(false,eval e X.env)::starEach es X.env:=by rfl) (hpl:(backTo pos (starEach es X.env)).any (·.1)=false:=by rfl):PE1 X (.Call (.Name x p) (e::es) [] pos) (JCb sp t):=by
 obtain⟨f,fd,F,b,kp,m⟩:=G;exact QHc F (hr.mono hj) hg m kp b hex ha hdb he hpl
theorem MeV.mono{P:Program}{w:World}{K:W.Frag}{mg:Str->Option Value}{base:Heap}(G:MeV P w K mg base j C m sp)(hj:j<=k):MeV P w K mg base k C m sp:=by
 obtain⟨f,fd,ps,a,F,b⟩:=G;exact⟨f,fd,ps,a,F.mono hj,b⟩
theorem Yhc(G:MkV X.prog X.w X.K X.mg X.base j x C sp)(hr:Zq k X.A)(hj:j+1<=k)(hg:Gl X x)(ha:PA X (e::es) t)(hdb:(x == ("__debug__":Str))=false:=by decide)
 (he:starEach (e::es) X.env=(false,eval e X.env)::starEach es X.env:=by rfl) (hpl:(backTo pos (starEach es X.env)).any (·.1)=false:=by rfl):PE X (.Call (.Name x p) (e::es) [] pos) (Ykb C sp [] E0 t):=by
 obtain⟨f,fd,ps,M,F,b,hm⟩:=G;exact Z2c M F (hr.mono hj) hg hm b .nil Yob ha hdb he hpl
end
end L2
end
section
namespace Tg
open PySem L2 Pl
def Ygc(c:Nat):Bool:=decide (32<=c/\c<=126/\c≠37)
def QDc(z:Str):Prop:=z.length<=10000000
def Zib:V->Prop
 | .non=>True
 | .bl _=>True
 | .int _=>True
 | .str z=>QDc z
 | _=>False
def TT:Nat->Hp->V->Prop
 | 0,H,v=>Zib v\/∃ a,v=.ref a/\((∃ xs,H a=some (.lst xs))\/H a=some (.dK [])\/∃ xs,H a=some (.tup xs)/\xs.length<=100000)
 | n+1,H,v=>Zib v\/∃ a,v=.ref a/\((∃ xs,H a=some (.lst xs))\/H a=some (.dK [])\/∃ xs,H a=some (.tup xs)/\xs.length<=100000/\∀ u∈xs,TT n H u)
end Tg
end
section
namespace L2
open PySem PySem.Spec PyProof.Rows
section
variable{X:Cx}
end
theorem Xxa(zs:List Str):(Txt.join (Str.ofString "") zs).cps.toList=zs.flatMap fun z=>z.cps.toList:=by
 have e0:(Str.ofString "").cps.toList=[]:=by decide
 have f:∀ (l:List Str) (a:Str),(l.foldl (fun s u=>s++Str.ofString ""++u) a).cps.toList=a.cps.toList++l.flatMap fun z=>z.cps.toList:=fun l=>by
  induction l with
  | nil=>intro a;simp
  | cons z l ih =>
   intro a;rw[foldl_cons,ih,W.KT.app_list,W.KT.app_list,e0,append_nil,flatMap_cons,Vq]
 cases zs with
 | nil=>decide
 | cons z l=>rw[Xmb,f,flatMap_cons]
section
variable{X:Cx}
end
end L2
end
section
namespace PySem
section
variable{prog:Program}{w:World}{A:Around}{E:YQ_}{h:Heap}{g:Array GenState}{d:Drawn}{t:Nat}{os:OsState}
variable{nm q:Str}{C N:Addr}{bs bm bmB:List Value}{hdct:Bool}{sn:List Str}{sub:List Value}{ab:Bool}{col:Option Bool}{dd:Option Addr}{k0 k1 k2 k3 k5:Option Value}{B newId initId:String}
abbrev ZXa(h:Heap)(C:Addr):Obj:={ cls:=.ref C,data:=.fields #[.ref h.objs.size,.none,.none,.none,.bool false,.none] }
abbrev J9a(rest:List Value):Obj:={ cls:=.type "tuple",data:=.seq rest.toArray }
end
end PySem
end
section
namespace PySem.W
open PySem PySem.Spec PySem.Calls PyProof.Rows PySem.Builtin PySem.Builtin.ObjectAttr
abbrev bmV:List Value:=[.type "ValueError",.type "Exception",.type "BaseException",.type "object"]
structure XCl(K:Frag)(C CT:Addr):Prop where
 cl:∃ nm q N bs sn sub ab col dd k0 k1 k2 k3 k5,K.lookup C=some (excClassObj nm q C N bs (.ref CT::bmV) true sn sub ab col dd k0 k1 k2 k3 k5 "ValueError.__new__")/\nsOkIn K N=true
 tail:tailIn K bmV (.ref CT::bmV)=true
 ga:findIn K (.ref C) "__getattribute__"=some (some (.builtin "BaseException.__getattribute__"))
 gt:findIn K (.ref C) "__getattr__"=some none
 sa:findIn K (.ref C) "__setattr__"=some (some (.builtin "object.__setattr__"))
 cc:findIn K (.ref C) "__class__"=some (some (.builtin "object.__class__"))
 cg:specialIn K (.builtin "object.__class__") "__get__"=some (some (.builtin "getset_descriptor.__get__"))
 ct:takesIn K (.builtin "object.__class__")=some true
section
variable{K:Frag}{C CT:Addr}
theorem XCl.cd(c:XCl K C CT):∃ cd,clsIn K C=some cd/\cd.mro=.ref C::.ref CT::bmV/\cd.hasDict=true:=by
 obtain⟨nm,q,N,bs,sn,sub,ab,col,dd,k0,k1,k2,k3,k5,lk,_⟩:=c.cl;have e:clsIn K C=(match (excClassObj nm q C N bs (.ref CT::bmV) true sn sub ab col dd k0 k1 k2 k3 k5 "ValueError.__new__") with | ⟨_,_,.cls cd,_⟩=>some cd | _=>none):=by unfold clsIn;rw[lk]
 exact⟨_,e,rfl,rfl⟩
theorem XCl.has(c:XCl K C CT):hasDictIn K C=true:=by
 obtain⟨cd,h,_,d⟩:=c.cd;unfold hasDictIn;rw[h];exact d
theorem XCl.mro(c:XCl K C CT)(T:Value):mroIn K C T=some ((Value.ref C::.ref CT::bmV).contains T):=by
 obtain⟨cd,h,m,_⟩:=c.cd;unfold mroIn;rw[h,Option.bind_some,m];rfl
theorem XCl.mroT(c:XCl K C CT){T:String}(h:bmV.contains (.type T)=true):mroIn K C (.type T)=some true:=by
 rw[c.mro,contains_cons,contains_cons,h];rfl
end
section
variable{prog:Program}{w:World}{A:Around}{E:YQ_}{s:Shared}{K:Frag}{x C CT:Addr}{ox:Obj}{od:Option Obj}{name:Str}
theorem Xrb{tk:Tok}{fill expr:Bool}{Q:YQ_}(X:K.In s.heap)(I:InstAt s.heap x ox C od)(c:XCl K C CT)
 (h:wpAny (model prog w) A.in1 (Builtin.«object.__getattribute__» ⟨[.ref x,.str name tk],[]⟩)
  (fun fin s'=>match fin with | .done (.ret v)=>wpAny (model prog w) A (handedOut v) Q E s' | _=>False) (fun _ _=>False) s) :
 wpAny (model prog w) A (getAttrBy (.ref x) (.str name tk) fill expr) Q E s:=by
 have L0:=I.type (M:=model prog w);have L1:=looks_findIn (M:=model prog w) X c.ga;have SL:=F.attr_ValueError.ga;unfold getAttrBy;refine wpAny_holding (Va (L0.here (Va (L1.here ?_))))
 dsimp only;rw[show(onTheHeap (Value.ref C) && Value.builtin "BaseException.__getattribute__" == Value.builtin "object.__getattribute__")=false from by rw[show(Value.builtin "BaseException.__getattribute__" == Value.builtin "object.__getattribute__")=false from by decide +kernel,Bool.and_false],if_neg (by decide)]
 unfold getAttrByItsOwn;refine Va ((looks_hook (mc:=.ref C) X (r:=none) (by show(if onTheHeap (.ref C)=true then findIn K (.ref C) "__getattr__" else some none)=some none;rw[if_pos (show onTheHeap (Value.ref C)=true from rfl)];exact c.gt)).here (Va (wpAny_attempt (wpAny_holding ?_))))
 unfold callGetattribute;rw[show(expr && onTheHeap (Value.builtin "BaseException.__getattribute__"))=false from Bool.and_false _,if_neg (by decide)]
 unfold boundAndCalled;rw[SL.bind];refine Va (Vg ?_)
 show wpAny _ _ (call (.builtin "BaseException.__getattribute__") [.ref x,.str name tk]) _ _ _;refine wpAny_call ?_
 refine codeAny_call_builtin SL.plain F.entry_bexc_ga ?_
 refine @check_slot (model prog w) _ _ s "BaseException.__getattribute__" "BaseException" "__getattribute__" (.ref x) [.str name tk] [] _ (by decide +kernel) (by decide +kernel) (I.type.andThen (looks_mroIn X (c.mroT (by decide)))) (F.args_bexc_ga _ _) ?_
 refine wpAny_mono h (fun fin s' z=>?_) fun _ _ z=>z.elim
 rcases fin with (_ | _ | _ | _) | _ <;> first | exact z | exact z.elim
theorem JEb{v:Value}{expr:Bool}{Q:YQ_}(X:K.In s.heap)(I:InstAt s.heap x ox C od)(c:XCl K C CT)(hf:findObj K C od name=some (.value v))(hh:handedIn v=true)(h:Q v { s with toks:=s.toks+1 }) :
 wpAny (model prog w) A (getAttr (.ref x) name expr) Q E s:=by
 unfold getAttr;refine Va (wpAny_mkText (Xrb (s:={ s with toks:=s.toks+1 }) X I c ?_))
 have L0:=I.type (M:=model prog w);have L1:=looks_find (M:=model prog w) X I hf;unfold Builtin.«object.__getattribute__»;refine Va (Vg (Va (Vg (Va (L0.here (s:={ s with toks:=s.toks+1 }) (Va (L1.here (s:={ s with toks:=s.toks+1 }) ?_)))))))
 refine Vg ?_
 show wpAny _ _ (handedOut v) _ _ _;rw[handedOut_of hh];exact Vg h
theorem Xsb{R:Result->Shared->Prop}{tk:Tok}{v:Value}(X:K.In s.heap)(I:InstAt s.heap x ox C od)(c:XCl K C CT)(ht:findIn K (.ref C) name=some none)
 (h:∀ b,wpAny (model prog w) A.in1 (storeInOwnDict (.ref x) (.ref C) (.str name tk) name v b)
  (fun fin s'=>match fin with | .done f=>R (.ok f) s' | .again c'=>c'.quiet=true/\codeAny (model prog w) A c' R s') (fun e s'=>R (.error e) s') s) :
 codeAny (model prog w) A (.call (.builtin "object.__setattr__") ⟨[.ref x,.str name tk,v],[]⟩) R s:=by
 have SF:=F.store_object;obtain⟨cd,hc,ho,_⟩:=c.cd;have sub:Looks (model prog w) s.heap (isInstance (.ref x) (.type "object")) true:=I.type.andThen (looks_mroIn X (c.mroT (by decide)))
 refine codeAny_call_builtin SF.slot.plain SF.entry (@check_slot (model prog w) _ _ s "object.__setattr__" "object" "__setattr__" (.ref x) [.str name tk,v] [] _ SF.kind SF.split sub (SF.args (.ref x) (.str name tk) v) ?_)
 have hm:Looks (model prog w) s.heap (mroOf (.ref C)) cd.mro:=(looks_clsIn X hc).andThen .now;rw[osa_eq,refuse_eq];refine Va (Va (I.type.here (Va (hm.here ?_))))
 rw[ho,refuseLoop_ref,refuseLoop_ref,F.store_ValueError.passes];refine Vg (Va (I.type.here (Va ((looks_findIn X ht).here (Va (Vg (a:=none) ?_))))))
 exact h _
theorem Xtb{v:Value}{Q:Unit->Shared->Prop}(X:K.In s.heap)(c:XCl K C CT)(ht:findIn K (.ref C) name=some none)(hx:s.heap.get? x=some ox)(hcl:ox.cls=.ref C)(hn:notCls ox=true)(hfr:ox.isFreed=false)
 (hd:ox.dict=none) (h:∀ h',h'.Ns1 s.heap.objs.size (fun y=>if y=name then some v else none)->h'.get? x=some { ox with dict:=some s.heap.objs.size }->(∀ b o,b≠x->s.heap.get? b=some o->h'.get? b=some o)->Q () { s with heap:=h',toks:=s.toks+2 }) :
 wpAny (model prog w) A (setAttr (.ref x) name v) Q E s:=by
 have J:InstAt s.heap x ox C none:=⟨hx,hcl,hn,by rw[hd];trivial⟩
 refine set_plain X J c.sa (Xsb (s:={ s with toks:=s.toks+1 }) X J c ht fun b=>?_)
 obtain⟨cd,hc,_,hd'⟩:=c.cd;obtain⟨oc,odi,oda,osl⟩:=ox;dsimp only at hcl hd;subst hcl hd;refine Va (Vg (Va (Va (wpAny_loadPart hx (Va (Looks.here (s:={ s with toks:=s.toks+1 }) (looks_clsIn X hc) ?_))))))
 rw[hd'];have hx₁:(s.heap.push { cls:=.type "dict",data:=.dict #[] }).get? x=some ⟨.ref C,none,oda,osl⟩:=Vd _ hx
 have hxs:x≠s.heap.objs.size:=Nat.ne_of_lt (Vh hx);rw[if_neg (by decide)]
 dsimp only;rw[if_neg (show ¬ ((!true || !typeHasDict (Value.ref C))=true) by simp[typeHasDict])]
 have hgd:((s.heap.push { cls:=.type "dict",data:=.dict #[] }).update x fun o=>{ cls:=o.cls,dict:=some s.heap.objs.size,data:=o.data,slots:=o.slots }).get? s.heap.objs.size=some { cls:=.type "dict",data:=.dict #[] } :=
  (Heap.get?_update_ne _ _ _ _ hxs.symm).trans (Heap.get?_push_at rfl rfl)
 have hnd:((s.heap.push { cls:=.type "dict",data:=.dict #[] }).update x fun o=>{ cls:=o.cls,dict:=some s.heap.objs.size,data:=o.data,slots:=o.slots }).Ns s.heap.objs.size (fun _=>none) :=
  ⟨_,#[],_,hgd,rfl,fun e he=>absurd he (by simp),fun _=>rfl⟩
 have hgx:((s.heap.push { cls:=.type "dict",data:=.dict #[] }).update x fun o=>{ cls:=o.cls,dict:=some s.heap.objs.size,data:=o.data,slots:=o.slots }).get? x=some ⟨.ref C,some s.heap.objs.size,oda,osl⟩:=by
  refine Heap.get?_update_self _ hx₁ ?_
  cases oda <;> first | rfl | exact hfr
 have core:wpAny (model prog w) A.in1 (do let d <- alloc { cls:=.type "dict",data:=.dict #[] };update x fun o=>{ cls:=o.cls,dict:=some d,data:=o.data,slots:=o.slots };dictMade (Value.ref C) x d)
  (fun a s'=>wpAny (model prog w) A.in1 (match a with | some d=>storeInDict d (Value.str name s.toks) name v | none=>noDictFor (Value.ref x) (Value.ref C) name b)
   (fun fin s'=>match fin with | .done f=>(match (Except.ok f:Result) with | .ok (.ret _)=>Q () s' | .ok _=>False | .error e=>E e s') | .again c'=>c'.quiet=true/\codeAny (model prog w) A c' (fun r s'=>match r with | .ok (.ret _)=>Q () s' | .ok _=>False | .error e=>E e s') s') (fun e s'=>E e s') s')
  (fun e s'=>E e s') { s with toks:=s.toks+1 }:=by
  refine Va (wpAny_alloc' ?_)
  refine Va (wpAny_update' hx₁ ?_)
  refine Vg ?_
  show wpAny _ _ (storeInDict s.heap.objs.size (.str name s.toks) name v) _ _ _;unfold storeInDict newKeyGuard;refine Va (Vg (Va (wpAny_nsSet1 (Heap.Ns1.of_empty hnd) fun h' hn' hs=>?_)))
  obtain⟨oD,esD,epD,hoD,hdD,hcD⟩:=hn'.count (Within.cons name v Within.nil);refine Va (wpAny_lookBehind hoD (by rw[hdD];exact pastItsLine_dict (Vj hcD (by rw[length_cons,length_nil,sizeLine_eq];omega))) ?_)
  refine Vg (h h' hn' ((hs.2 x hxs).trans hgx) fun b ob hbx hb=>?_)
  exact(hs.2 b (Nat.ne_of_lt (Vh hb))).trans ((Heap.get?_update_ne _ _ _ _ hbx).trans (Vd _ hb))
 cases oda with
 | cls c=>exact absurd hn (by simp[notCls])
 | _=>exact core
end
end PySem.W
end
section
namespace L2
open PySem PySem.Spec PyProof.Rows
abbrev X2c(C:Addr)(dx:Option Addr)(t:Addr):Obj:={ cls:=.ref C,dict:=dx,data:=.fields #[.ref t,.none,.none,.none,.bool false,.none] }
def xN(e C:Addr)(dx:Option Addr):HO:=.ext fun h=>∃ t,h.get? e=some (X2c C dx t)
def xC(e C:Addr)(dx:Option Addr):HO:=.ext fun h=>∃ o vs,h.get? e=some o/\o.cls=.ref C/\o.dict=dx/\o.data=.fields vs
def xD(d:Addr)(fs:List (Str×V)):HO:=.ext fun h=>∃ mA,h.Ns1 d mA/\(∀ f,Yq (fs.lookup f) (mA f))/\PySem.Within mA (fs.map (·.1))
def XAt(H:Hp)(a C:Addr)(fs:List (Str×V)):Prop:=(H a=some (xC a C none)/\fs=[])\/∃ d,H a=some (xC a C (some d))/\H d=some (xD d fs)
section
variable{P:Program}{w:World}{H:Hp}{h:Heap}{e C:Addr}{dx:Option Addr}{fs:List (Str×V)}
theorem QJc{t:Addr}(q:h.get? e=some (X2c C dx t)):QL P w H h e (xN e C dx):=⟨⟨t,q⟩,⟨_,q⟩,fun h1 h2 ⟨t,q⟩ k=>⟨t,k _ q⟩⟩
theorem X3c{o:Obj}{vs:Array Value}(q:h.get? e=some o)(a:o.cls=.ref C)(b:o.dict=dx)(c:o.data=.fields vs):QL P w H h e (xC e C dx):=⟨⟨o,vs,q,a,b,c⟩,⟨_,q⟩,fun h1 h2 ⟨o,vs,q,r⟩ k=>⟨o,vs,k _ q,r⟩⟩
theorem X4c{mA:Str->Option Value}(q:h.Ns1 e mA)(a:∀ f,Yq (fs.lookup f) (mA f))(b:PySem.Within mA (fs.map (·.1))):QL P w H h e (xD e fs) :=
 ⟨⟨mA,q,a,b⟩,let ⟨o,_,_,z,_⟩:=q;⟨o,z⟩,fun h1 h2 ⟨mA,q,r⟩ k=>⟨mA,q.at k,r⟩⟩
end
section
variable{X:Cx}{pins:YP_}{σ:St}{H:Hp}{s:Shared}{a C CT:Addr}{fs:List (Str×V)}
theorem Inv.exc(I:Inv X pins σ H s)(x:XAt H a C fs):∃ ox od,W.InstAt s.heap a ox C od/\∀ f v,fs.lookup f=some v->∃ o u,od=some o/\W.lookIn f o=some (some u)/\QB v u:=by
 rcases x with ⟨h,e⟩ | ⟨d,h,e⟩
 ·obtain⟨⟨o,vs,q,c,dd,dt⟩,_,_⟩:=(show QL X.prog X.w H s.heap a (xC a C none) from I.hok a _ h)
  exact⟨o,none,⟨q,c,by unfold W.notCls;rw[dt],by rw[dd];trivial⟩,fun f v l=>by subst e;simp at l⟩
 ·obtain⟨⟨o,vs,q,c,dd,dt⟩,_,_⟩:=(show QL X.prog X.w H s.heap a (xC a C (some d)) from I.hok a _ h)
  obtain⟨⟨mA,hns,rel,wi⟩,_,_⟩:=(show QL X.prog X.w H s.heap d (xD d fs) from I.hok d _ e)
  obtain⟨od,hod,hl⟩:=Xga hns;refine⟨o,some od,⟨q,c,by unfold W.notCls;rw[dt],by rw[dd];exact hod⟩,fun f v l=>?_⟩
  obtain⟨u,hu,ru⟩:=Yq.some_of (v:=v) (o:=mA f) (by rw[<- l];exact rel f)
  exact⟨od,u,rfl,by rw[hl,hu],ru⟩
def tXF(K:W.Frag)(CT:Addr)(ta:TE)(f:Str):TE:=fun σ H Q=>ta σ H fun x H1=>∃ a C fs v,x=.ref a/\XAt H1 a C fs/\W.XCl K C CT/\Jh K C f/\fs.lookup f=some v/\Q v H1
theorem Jjc{e:Expr}{f:Str}{pos:Pos}{ta:TE}(CT:Addr)(he:PE X e ta)(hb:attributeBase e f X.env (eval e X.env)=eval e X.env):PE X (.Attribute e f pos) (tXF X.K CT ta f):=by
 intro pins s σ H Q I h;refine Yib hb (thn (he pins s σ H _ I h) fun u s1 hZ=>?_)
 obtain⟨x,H1,I1,rx,a,C,fs,v,ex,xa,c,n,l,q⟩:=hZ;subst ex;obtain rfl:u=Value.ref a:=rx;obtain⟨ox,od,J,g⟩:=I1.exc xa;obtain⟨o,u,rfl,hl,ru⟩:=g f v l;exact W.JEb I1.kIn J c (W.findObj_own c.has n rfl hl) (Xha ru) ⟨v,H1,I1.tok _,ru,q⟩
end
section
variable{X:Cx}{pins:YP_}{σ:St}{H H':Hp}{s:Shared}{d e:Addr}{o:HO}
theorem Inv.track(I:Inv X pins σ H s)(hn:H d=none)(y:X.s₀.heap.get? d=none)(nl:d≠X.env.locals)(nc:∀ x c,X.env.cells.lookup x=some c->c≠d)(np:∀ p∈X.pn++pins,p.1≠d)(ok:QL X.prog X.w (upd H d o) s.heap d o) :
 Inv X pins σ (upd H d o) s :=
 ⟨I.ok,I.os,I.bare,⟨I.base.keep,I.base.slot,fun b u q n hx=>by rw[Qi (fun z=>by rw[z,y]at q;cases q)];exact I.base.free b u q n hx,I.base.there,fun b xs q=>by have z:=I.base.tups b xs q;rw[Qi (Qy z hn)];exact z,
  fun b u xs q=>by have z:=I.base.frzs b u xs q;rw[Qi (Qy z hn)];exact z,fun b ps q=>by obtain⟨m,z⟩:=I.base.tbls b ps q;exact⟨m,by rw[Qi (Qy z hn)];exact z⟩⟩,
  I.loc,I.cell,by rw[Qi (Ne.symm nl)];exact I.free,fun x c q=>by rw[Qi (nc x c q)];exact I.freeC x c q,fun p hp=>by obtain⟨a,b,r⟩:=I.pin p hp;exact⟨a,by rw[Qi (np p hp)];exact b,r⟩,
  fun b u q=>by
   by_cases hb:b=d
   ·subst hb;rw[Qd]at q;cases q;exact ok
   ·rw[Qi hb]at q
    exact(I.hok b u q).stay (fun c v _ r=>r) (fun c r=>by rw[Qi (Qy r hn)];exact r) fun c xs r=>by rw[Qi (Qy r hn)];exact r,
  I.len⟩
theorem Inv.nowhere(I:Inv X pins σ H s)(hex:X.ex=[])(h:s.heap.get? d=none):H d=none/\X.s₀.heap.get? d=none/\d≠X.env.locals/\(∀ x c,X.env.cells.lookup x=some c->c≠d)/\∀ p∈X.pn++pins,p.1≠d:=by
 refine⟨I.hok.none_of h,I.young hex h,fun z=>?_,fun x c q z=>?_,fun p hp z=>?_⟩
 ·obtain⟨m,⟨o,es,ep,ho,_⟩,_⟩:=I.loc
  rw[z,ho]at h;cases h
 ·obtain⟨v,o,ho,_⟩:=I.cell x c q
  rw[z,h]at ho;cases ho
 ·have:=(I.pin p hp).1
  rw[z,h]at this;cases this
theorem Inv.off{φ:Heap->Prop}(I:Inv X pins σ H s)(he:H e=some (.ext φ))(y:X.s₀.heap.get? e=none)(h3:∀ b,b≠e->H' b=H b)(hn:H' e=none):Inv X pins σ H' s:=by
 have ne:∀ b,H b=none->b≠e:=fun b q z=>by rw[z,he]at q;cases q
 have nt:∀ b u,H b=some u->(∀ ψ,u≠.ext ψ)->b≠e:=fun b u q n z=>by rw[z,he]at q;cases q;exact n _ rfl
 have tt:∀ b xs,H b=some (.tup xs)->H' b=some (.tup xs):=fun b xs q=>(h3 b (nt b _ q (fun _ z=>by cases z))).trans q
 refine⟨I.ok,I.os,I.bare,⟨I.base.keep,I.base.slot,fun b u q n hx=>?_,I.base.there,fun b xs q=>tt b xs (I.base.tups b xs q),fun b u xs q=>?_,fun b ps q=>?_⟩,I.loc,I.cell,(h3 _ (ne _ I.free)).trans I.free,fun x c q=>(h3 _ (ne _ (I.freeC x c q))).trans (I.freeC x c q),fun p hp=>?_,fun b u q=>?_,I.len⟩
 ·have z:=I.base.free b u q n hx
  exact(h3 b (ne b z)).trans z
 ·have z:=I.base.frzs b u xs q
  exact(h3 b (nt b _ z (fun _ z=>by cases z))).trans z
 ·obtain⟨m,z⟩:=I.base.tbls b ps q
  exact⟨m,(h3 b (nt b _ z (fun _ z=>by cases z))).trans z⟩
 ·obtain⟨a,b,r⟩:=I.pin p hp
  exact⟨a,(h3 _ (ne _ b)).trans b,r⟩
 ·have hb:b≠e:=fun z=>by rw[z,hn]at q;cases q
  rw[h3 b hb]at q;exact(I.hok b u q).stay (fun c v _ r=>r) (fun c r=>(h3 c (nt c _ r (fun _ z=>by cases z))).trans r) tt
theorem Qya{M:Model}{A:Around}{E:YQ_}{i:Nat}{n:Str}{pos:Pos}{Q:Unit->Shared->Prop}(I:Inv X pins σ H s)(hN:X.N.Nodup)(hi:X.N[i]?=some n)(hk:X.env.kindOf n=some .local)
 (h:∀ s',Inv X pins (σ.set i none) H s'->Q () s'):wpAny M A (do bindName X.env n .none;unbindBehindTheSuite X.env n pos) Q E s:=by
 obtain⟨m,hn,hl⟩:=id I.loc;have hcls:(X.env.scope.kind == .class || (X.env.scope.kind == .module && X.env.locals != X.env.globals))=false:=by rw[I.ok.kind];rfl
 have hiσ:i < σ.length:=by rw[I.len];exact(Vc.mp hi).1
 refine wpAny_nameGoes_keeps hk hn hcls fun h' v hn' hs=>h _ ?_
 have cne:=I.cne;refine⟨I.ok,I.os,I.bare,⟨fun b o e n hb hx=>?_,fun b o e n hb hx=>?_,I.base.free,fun b o e hx=>?_,I.base.tups,I.base.frzs,I.base.tbls⟩,⟨_,hn',fun j y v' e1 e2 e3=>?_⟩,fun y c e=>?_,I.free,I.freeC,fun p hp=>?_,fun b ob e=>?_,by simpa using I.len⟩
 ·exact(hs.2 b (Nat.ne_of_lt (Vt (Vh e) I.ok.above))).trans (I.base.keep b o e n hb hx)
 ·obtain⟨sl,e1⟩:=I.base.slot b o e n hb hx
  exact⟨sl,(hs.2 b (Nat.ne_of_lt (Vt (Vh e) I.ok.above))).trans e1⟩
 ·obtain⟨o',e1⟩:=I.base.there b o e hx
  exact⟨o',(hs.2 b (Nat.ne_of_lt (Vt (Vh e) I.ok.above))).trans e1⟩
 ·by_cases hj:j=i
  ·subst hj
   rw[getElem?_set_self hiσ]at e2
   cases e2
  ·rw[getElem?_set_ne (Ne.symm hj)]at e2
   obtain⟨u',r',q⟩:=hl j y v' e1 e2 e3;refine⟨u',r',?_⟩
   rcases q with ⟨k,e⟩ | ⟨k,c,e,z⟩
   ·refine .inl ⟨k,?_⟩
    have:y≠n:=fun e=>hj (JMa hN e1 (e ▸ hi))
    simp[this,e]
   ·exact .inr ⟨k,c,e,z.sameBut hs (cne y c e)⟩
 ·obtain⟨w',z⟩:=I.cell y c e
  exact⟨w',z.sameBut hs (cne y c e)⟩
 ·obtain⟨e,n,ne,nf,d⟩:=I.pin p hp
  exact⟨(hs.2 p.1 ne).trans e,n,ne,nf,d⟩
 ·refine(I.hok b ob e).stay (fun c w' hc q=>(hs.2 c ?_).trans q) (fun _ q=>q) fun _ _ q=>q
  rintro rfl
  rcases hc with z | hc
  ·rw[<- z,I.free]at e;cases e
  ·rw[I.free]at hc;cases hc
end
section
variable{X:Cx}{pins:YP_}{σ:St}{H:Hp}{s:Shared}{a C CT:Addr}{f:Str}
theorem X5c{A:Around}{E:YQ_}{y:V}{u:Value}{Q:Unit->Shared->Prop}(I:Inv X pins σ H s)(hex:X.ex=[])(e:H a=some (xN a C none))(c:W.XCl X.K C CT)(n:Jh X.K C f)(ry:QB y u)
 (h:∀ d s',H d=none->d≠a->Inv X pins σ (upd (upd H a (xN a C (some d))) d (xD d [(f,y)])) s'->Q () s'):wpAny (model X.prog X.w) A (setAttr (.ref a) f u) Q E s:=by
 obtain⟨⟨t,q⟩,_,_⟩:=(show QL X.prog X.w H s.heap a (xN a C none) from I.hok a _ e)
 refine W.Xtb I.kIn c n q rfl rfl rfl rfl fun h' hns hx hk=>?_
 obtain⟨w1,w2,w3,w4,w5⟩:=I.nowhere hex (Heap.get?_none_of_le (Ve s.heap.objs.size))
 have hne:s.heap.objs.size≠a:=fun z=>by rw[z,e]at w1;cases w1
 refine h s.heap.objs.size _ w1 hne ?_
 have I1:Inv X pins σ (upd H a (xN a C (some s.heap.objs.size))) { s with heap:=h',toks:=s.toks+2 } :=
  I.write (x:=a) (e:=a) (by rw[e];exact True.intro) (.inl rfl) (fun b u hb z=>hk b u hb z) ⟨_,hx⟩ (QJc (t:=t) hx)
 refine I1.track (by rw[Qi hne];exact w1) w2 w3 w4 w5 (X4c hns (fun g=>?_) fun g hg=>?_)
 ·by_cases hg:g=f
  ·have hb:(g == f)=true:=beq_iff_eq.mpr hg
   simp only[List.lookup,hb,if_pos hg];exact ry
  ·have hb:(g == f)=false:=beq_eq_false_iff_ne.mpr hg
   simp only[List.lookup,hb,if_neg hg];trivial
 ·by_cases z:g=f
  ·rw[z];simp
  ·rw[if_neg z]at hg;exact absurd hg (by simp)
def Jkc(K:W.Frag)(CT:Addr)(ta tv:TE)(f:Str):TS:=fun D σ H=>tv σ H fun y H1=>ta σ H1 fun x H2=>∃ a C,x=.ref a/\H2 a=some (xN a C none)/\W.XCl K C CT/\Jh K C f /\
 ∀ d,H2 d=none->d≠a->D.nx σ (upd (upd H2 a (xN a C (some d))) d (xD d [(f,y)]))
def Y7c(K:W.Frag)(CT:Addr)(ta tv:TE)(f:Str):TS:=fun D σ H=>tv σ H fun y H1=>ta σ H1 fun x H2=>∃ a C d fs,x=.ref a/\H2 a=some (xN a C (some d))/\H2 d=some (xD d fs)/\W.XCl K C CT/\Jh K C f/\fs.length < 1000 /\
 D.nx σ (upd H2 d (xD d (ZV f y fs)))
variable{o value:Expr}{pos pos':Pos}{ta tv:TE}
theorem JFb(CT:Addr)(hex:X.ex=[])(ha:PE X o ta)(hv:PE X value tv)(hs:swapsWith value (some (.Attribute o f pos')) pos.line X.env=pure false):PS X (.Assign [.Attribute o f pos'] value pos) (Jkc X.K CT ta tv f):=by
 intro pins s σ H D I h;refine plainObj_wpAny_Assign_Attribute (thn (hv pins s σ H _ I h) fun u s1 ⟨y,H1,I1,ry,q⟩=>thn (ha pins s1 σ H1 _ I1 q) fun ov s2 hZ=>?_) hs
 obtain⟨x,H2,I2,rx,a,C,ex,ea,c,n,q2⟩:=hZ;subst ex;obtain rfl:ov=Value.ref a:=rx;exact X5c I2 hex ea c n ry fun d s3 w1 w2 I3=>⟨σ,_,I3,q2 d w1 w2⟩
structure X6c(K:W.Frag)(mg:Str->Option Value)(x:Str)(CT:Addr):Prop where
 mg_:mg x=some (.ref CT)
 cl:Qsd K CT W.bmV W.bmV "ValueError.__new__"
 sp:W.specialIn K (.ref CT) "__getattribute__"=some (some (.builtin "type.__getattribute__"))
 rd:W.readsIn K CT (.type "type")=true
 ini:W.findCls K (.ref CT) (.type "type") "__init__"=some (.val (.builtin "ValueError.__init__"))
def tBI(K:W.Frag)(CT:Addr)(t:TA):TE:=fun σ H Q=>t σ H fun vs H1=>∃ a C ws,vs=.ref a::ws/\ws.length<=1000/\H1 a=some (xN a C none)/\W.XCl K C CT/\Q .non H1
end
end L2
end
section
namespace PySem
section
variable{prog:Program}{w:World}{A:Around}{E:YQ_}{s:Shared}{K:W.Frag}{C CT e t:Addr}{dx:Option Addr}
theorem JGb{rest:List Value}{Q:YQ_}(X:K.In s.heap)(c:W.XCl K C CT)(he:s.heap.get? e=some { cls:=.ref C,dict:=dx,data:=.fields #[.ref t,.none,.none,.none,.bool false,.none] })(hl:rest.length<=sizeLine)
 (h:∀ h' t',h'.get? e=some { cls:=.ref C,dict:=dx,data:=.fields #[.ref t',.none,.none,.none,.bool false,.none] }->(∀ b o,b≠e->s.heap.get? b=some o->h'.get? b=some o)->Q .none { s with heap:=h' }) :
 wpAny (model prog w) A (call (.builtin "ValueError.__init__") (.ref e::rest)) Q E s:=by
 obtain⟨nm,q,N,bs,sn,sub,ab,col,dd,k0,k1,k2,k3,k5,lk,ok⟩:=c.cl;have FB:=F.excBase_ValueError;have TL:OwnTail s.heap W.bmV (.ref CT::W.bmV):=W.tail_of_in X c.tail;have hC:=X _ _ lk;obtain⟨hh,g,d,tk,os⟩:=s;refine wpAny_call (codeAny_call_builtin FB.init.plain FB.initEntry (wpAny_check_init_subT FB TL hC he rfl ?_))
 wp_walk
 refine h _ hh.objs.size ?_ fun b o hb z=>?_
 ·rw[Heap.get?_update_self _ (Vd _ he) rfl]
  rfl
 ·rw[Heap.get?_update_other _ _ (Ne.symm hb)]
  exact Vd _ z
end
section
variable{prog:Program}{w:World}{A:Around}{E:YQ_}{h:Heap}{g:Array GenState}{d:Drawn}{t:Nat}{os:OsState}{K:W.Frag}{C CT:Addr}
theorem Y8c(X:K.In h)(c:W.XCl K C CT){rest:List Value}{fI:Addr}{Q:Fin->Shared->Prop}(hf:W.findIn K (.ref C) "__init__"=some (some (.ref fI)))(hfn:W.isFn K (.ref fI)=true)
 (fin:∀ h' e,Heap.MadeExcOf h h' e (.ref C) rest->wpAny (model prog w) A (call (.ref fI) (.ref e::rest)) (fun r s'=>r=.none/\Q (.done (.ret (.ref e))) s') E ⟨h',g,d,t,os⟩) (short:rest.length<=sizeLine) :
 wpAny (model prog w) A (Builtin.«type.__call__» ⟨.ref C::rest,[]⟩) Q E ⟨h,g,d,t,os⟩:=by
 obtain⟨nm,q,N,bs,sn,sub,ab,col,dd,k0,k1,k2,k3,k5,lk,ok⟩:=c.cl;have FB:=F.excBase_ValueError;have TL:OwnTail h W.bmV (.ref CT::W.bmV):=W.tail_of_in X c.tail;have cl:=X _ _ lk
 repeat (first | (with_reducible refine wpAny_loadPart_at cl ?_) | (with_reducible refine wpAny_madeBy_exc cl ?_) | wp_step)
 refine codeAny_call_builtin_code (Code.quiet_builtin _ FB.quiet) (wpAny_check_new_subT FB TL cl ?_)
 refine codeAny_exc_new_subT FB TL cl ?_ short
 show wpAny _ _ _ _ _ _;have kp:∀ b o,h.get? b=some o->((h.push (J9a rest)).push (ZXa h C)).get? b=some o:=fun b o e=>Vd _ (Vd _ e)
 have X1:K.In ((h.push (J9a rest)).push (ZXa h C)):=X.keeps kp;have cl1:((h.push (J9a rest)).push (ZXa h C)).get? C=_:=kp _ _ cl;have rec1:((h.push (J9a rest)).push (ZXa h C)).get? (h.objs.size+1)=some (ZXa h C):=by heap_get
 have self:(Value.ref C::.ref CT::W.bmV).contains (.ref C)=true:=by rw[contains_cons];simp
 unfold isInstance
 repeat (first | (with_reducible refine wpAny_loadPart_at rec1 ?_) | (with_reducible refine wpAny_isSubtype_exc cl1 ?_;rw[self]) | wp_step)
 show wpAny _ _ (typeLookup (.ref C) _) _ _ _;refine(W.looks_findIn (M:=model prog w) X1 hf).at ?_
 refine wpAny_holding (Va ((W.bind_fn (M:=model prog w) X1 _ (beq_iff_eq.mp hfn)).at ?_))
 have mk:Heap.MadeExcOf h ((h.push (J9a rest)).push (ZXa h C)) (h.objs.size+1) (.ref C) rest :=
  ⟨kp,Heap.get?_none_of_le (Nat.le_succ _),h.objs.size,rec1,Heap.get?_none_of_le (Ve _),Vd _ (Heap.get?_push_at rfl rfl)⟩
 refine Va (wpAny_mono (fin _ (h.objs.size+1) mk) (fun r s' hr=>?_) fun _ _ z=>z)
 obtain⟨rfl,hQ⟩:=hr
 wp_walk
 exact hQ
theorem Y9c(X:K.In h)(c:W.XCl K C CT){rest:List Value}{fI:Addr}{Q:YQ_}(hf:W.findIn K (.ref C) "__init__"=some (some (.ref fI)))(hfn:W.isFn K (.ref fI)=true)
 (fin:∀ h' e,Heap.MadeExcOf h h' e (.ref C) rest->wpAny (model prog w) (A.under (.builtin "type.__call__" ⟨.ref C::rest,[]⟩)) (call (.ref fI) (.ref e::rest)) (fun r s'=>r=.none/\Q (.ref e) s') E ⟨h',g,d,t,os⟩) (short:rest.length<=sizeLine) :
 wpAny (model prog w) A (call (.ref C) rest) Q E ⟨h,g,d,t,os⟩:=by
 obtain⟨nm,q,N,bs,sn,sub,ab,col,dd,k0,k1,k2,k3,k5,lk,ok⟩:=c.cl;have cl:=X _ _ lk;have l1:=tc_lookup;have l2:=tc_bind (.ref C);have ty:(⟨h,g,d,t,os⟩:Shared).TypeIs (.ref C) "type":=⟨_,cl,rfl⟩;refine wpAny_call (codeAny_of_tree ?_)
 show wpAny _ _ (callAny (.ref C) _) _ _ _
 repeat (any_goals (first | assumption | (with_reducible refine wpAny_loadPart_at cl ?_) | wp_step))
 refine⟨rfl,?_⟩
 refine codeAny_call_builtin_at (Code.quiet_builtin _ (by decide +kernel)) entry_typeCall (wpAny_check_type_call_sub cl (Y8c X c hf hfn (fun h' e hm=>?_) short))
 exact fin h' e hm
end
section
variable{M:Model}{A:Around}{E:YQ_}{env:Env}
variable{nm q:Str}{C N:Addr}{bs bm:List Value}{hdct:Bool}{sn:List Str}{sub:List Value}{ab:Bool}{col:Option Bool}{dd:Option Addr}{k0 k1 k2 k3 k5:Option Value}{newId:String}
theorem Xub{s:Shared}{x:Sem Value}{Q:Flow->Shared->Prop}(hbase:bm.contains (.type "BaseException")=true)(hh:A.handled=none)
 (h:wpAny M A x (fun v s₁=>∃ e t dx,v=.ref e/\s₁.heap.get? C=some (excClassObj nm q C N bs bm hdct sn sub ab col dd k0 k1 k2 k3 k5 newId)/\s₁.heap.get? e=some { cls:=.ref C,dict:=dx,data:=.fields #[.ref t,.none,.none,.none,.bool false,.none] }/\E (.ref e) s₁) E s) :
 wpAny M A (raiseStmt env (some x) none) Q E s:=by
 have hcB:(Value.ref C::bm).contains (.type "BaseException")=true:=by rw[contains_cons,hbase,Bool.or_true]
 unfold raiseStmt;refine Va (wpAny_mono h (fun v s₁ h₁=>?_) fun _ _ x=>x)
 obtain⟨e,t,dx,rfl,hC,he,hE⟩:=h₁;obtain⟨hp,g,d,tk,os⟩:=s₁
 repeat (first | with_reducible refine wpAny_loadPart_at he ?_ | with_reducible refine wpAny_loadPart_at hC ?_ | (with_reducible refine wpAny_isSubtype_exc hC ?_;rw[hcB]) | wp_step)
 exact wpAny_raiseNew_none hh hE
variable{nm' q':Str}{CT N':Addr}{bs' bm':List Value}{hdct':Bool}{sn':List Str}{sub':List Value}{ab':Bool}{col':Option Bool}{dd':Option Addr}{j0 j1 j2 j3 j5:Option Value}{newId':String}
theorem YNa{h:Heap}{g:Array GenState}{d:Drawn}{t:Nat}{os:OsState}{e:Addr}{oe:Obj}{Q:Bool->Shared->Prop}
 (hC:h.get? C=some (excClassObj nm q C N bs bm hdct sn sub ab col dd k0 k1 k2 k3 k5 newId)) (hT:h.get? CT=some (excClassObj nm' q' CT N' bs' bm' hdct' sn' sub' ab' col' dd' j0 j1 j2 j3 j5 newId'))
 (he:h.get? e=some oe) (hcls:oe.cls=.ref C) (hbase:bm'.contains (.type "BaseException")=true) (hin:(Value.ref C::bm).contains (.ref CT)=true)
 (hq:Q true ⟨h,g,d,t,os⟩):wpAny M A (excMatches (.ref e) (.ref CT)) Q E ⟨h,g,d,t,os⟩:=by
 have hcB:(Value.ref CT::bm').contains (.type "BaseException")=true:=by rw[contains_cons,hbase,Bool.or_true]
 have f:=tc_notTuple;unfold excMatches
 repeat (first | (with_reducible refine wpAny_loadPart_at he ?_;rw[hcls]) | with_reducible refine wpAny_loadPart_at hT ?_ | (with_reducible refine wpAny_isSubtype_exc hT ?_;rw[hcB]) | (with_reducible refine wpAny_isSubtype_exc hC ?_;rw[hin]) | wp_step)
 exact hq
end
end PySem
namespace PySem.W
open PySem
def Q1a(K:Frag)(C:Addr)(fl:List Str):Bool:=findIn K (.ref C) "__getattribute__" == some (some (.builtin "BaseException.__getattribute__")) && (findIn K (.ref C) "__getattr__" == some none && (findIn K (.ref C) "__setattr__" == some (some (.builtin "object.__setattr__")) && (findIn K (.ref C) "__class__" == some (some (.builtin "object.__class__")) && fl.all fun f=>findIn K (.ref C) f == some none)))
section
variable{K:Frag}{C CT:Addr}{fl:List Str}
theorem Xya(h:Q1a K C fl=true):findIn K (.ref C) "__getattribute__"=some (some (.builtin "BaseException.__getattribute__"))/\findIn K (.ref C) "__getattr__"=some none/\findIn K (.ref C) "__setattr__"=some (some (.builtin "object.__setattr__")) /\
 findIn K (.ref C) "__class__"=some (some (.builtin "object.__class__"))/\∀ f∈fl,findIn K (.ref C) f=some none:=by
 unfold Q1a at h;simp only[Bool.and_eq_true,beq_iff_eq,all_eq_true]at h;exact h
theorem ZYa(h:Q1a K C fl=true){f:Str}(hf:f∈fl):L2.Jh K C f:=(Xya h).2.2.2.2 f hf
theorem XCl.of(cl:∃ nm q N bs sn sub ab col dd k0 k1 k2 k3 k5,K.lookup C=some (excClassObj nm q C N bs (.ref CT::bmV) true sn sub ab col dd k0 k1 k2 k3 k5 "ValueError.__new__")/\nsOkIn K N=true)(tail:tailIn K bmV (.ref CT::bmV)=true)
 (h:Q1a K C fl=true) (cg:specialIn K (.builtin "object.__class__") "__get__"=some (some (.builtin "getset_descriptor.__get__"))) (ct:takesIn K (.builtin "object.__class__")=some true):XCl K C CT :=
 let ⟨a,b,c,d,_⟩:=Xya h;⟨cl,tail,a,b,c,d,cg,ct⟩
def QKc(K:Frag)(l:List Addr):Bool:=(List.range l.length).all fun i=>(List.range l.length).all fun j=>kitOne K (.ref (l.getD i 0)) (.ref (l.getD j 0)) == some (decide (i=j))
def Xac(K:Frag)(l:List Addr):Bool:=(List.range l.length).all fun i=>kitOne K (.ref (l.getD i 0)) (.type "ValueError") == some true
theorem Jlc{l:List Addr}(h:QKc K l=true):∀ i j,i < l.length->j < l.length->kitOne K (.ref (l.getD i 0)) (.ref (l.getD j 0))=some (decide (i=j)):=by
 unfold QKc at h;simp only[all_eq_true,mem_range,beq_iff_eq]at h;exact fun i j hi hj=>h i hi j hj
theorem Xbc{l:List Addr}(h:Xac K l=true):∀ i,i < l.length->kitOne K (.ref (l.getD i 0)) (.type "ValueError")=some true:=by
 unfold Xac at h;simp only[all_eq_true,mem_range,beq_iff_eq]at h;exact h
end
end PySem.W
namespace L2
open PySem PySem.Spec PyProof.Rows
section
variable{X:Cx}{x:Str}{CT:Addr}{e:Expr}{es:List Expr}{t:TA}{p pos apos cpos np:Pos}{pl:Sem Bool}
theorem Yaa(T:X6c X.K X.mg x CT)(hg:Gl X x)(ha:PA X (e::es) t)(hdb:(x == ("__debug__":Str))=false:=by decide)
 (he:starEach (e::es) X.env=(false,eval e X.env)::starEach es X.env:=by rfl) (hpl:(backTo pos (starEach es X.env)).any (·.1)=false:=by rfl)
 (ht:eval (.Call (.Attribute (.Name x p) "__init__" apos) (e::es) [] pos) X.env=(do
  let ov <- eval (.Name x p) X.env
  standAt apos.atName
  let (f,first) <- holding [ov] (getMethod ov "__init__" pl)
  callWith pos f first (backTo pos (starEach (e::es) X.env)) (backToKw pos (keywordEach [] X.env))):=by rfl) :
 PE X (.Call (.Attribute (.Name x p) "__init__" apos) (e::es) [] pos) (tBI X.K CT t):=by
 intro pins s σ H Q I h;refine W.methodCall_KW (pl:=pl) (JP I hg T.mg_ ?_ hdb) ht
 refine W.method_cls I.kIn T.sp (W.cls_value I.kIn T.rd T.ini (by decide +kernel) ?_)
 refine PyProof.Rows.callWith_builtin1 (thn (ha pos pins _ σ H _ (I.tok _) h) fun us s1 hZ=>?_) he hpl
 obtain⟨vs,H1,I1,r,a,C,ws,ev,hl,ea,c,q⟩:=hZ;subst ev;cases r with
 | cons r0 r1 =>
  cases (show _=Value.ref a from r0)
  obtain⟨⟨t,g⟩,_,_⟩:=(show QL X.prog X.w H1 s1.heap a (xN a C none) from I1.hok a _ ea)
  refine JGb I1.kIn c g (by rw[<- r1.length,sizeLine_eq];omega) fun h' t' g' k=>⟨.non,H1,?_,rfl,q⟩
  have I2:=I1.write (h':=h') (t':=s1.toks) (x:=a) (e:=a) (o:=xN a C none) (by rw[ea];exact True.intro) (.inl rfl) (fun b u hb z=>k b u hb z) ⟨_,g'⟩ (QJc (t:=t') g')
  have eH:upd H1 a (xN a C none)=H1:=by
   funext b
   by_cases hb:b=a
   ·rw[hb,Qd];exact ea.symm
   ·rw[Qi hb]
  rw[eH]at I2;exact I2
def QLc(C:Addr)(fl:List Str):Sp:=fun vs H Q _=>∃ e ws,vs=.ref e::ws/\ws.length=fl.length/\H e=some (xN e C none)/\∀ d,H d=none->d≠e->Q .non (upd (upd H e (xN e C (some d))) d (xD d (fl.zip ws)))
def MkX(P:Program)(w:World)(K:W.Frag)(mg:Str->Option Value)(base:Heap)(k:Nat)(x:Str)(C CT:Addr)(fl:List Str):Prop :=
 ∃ f fd ps,QF P w K mg base CX0 k f fd ps (QLc C fl)/\Jj K fd ps []/\W.XCl K C CT/\W.findIn K (.ref C) "__init__"=some (some (.ref f))/\W.isFn K (.ref f)=true/\W.keepIn K (.ref C)=true/\mg x=some (.ref C)
def Jmc(E:XK)(C:Addr)(fl:List Str)(t:TA):TS:=fun _ σ H=>t σ H fun vs H1=>vs.length=fl.length/\vs.length<=1000/\∀ d,H1 d=none->E (.ref C) (some d) (upd H1 d (xD d (fl.zip vs)))
variable{E:XK}{C:Addr}{fl:List Str}{j k:Nat}
theorem ZZa(T:J8a X E)(hex:X.ex=[])(hcalm:X.calm=true)(hg:Gl X x)(G:MkX X.prog X.w X.K X.mg X.base j x C CT fl)(hr:Zq k X.A)(hj:j+1<=k)(ha:PA X (e::es) t)(hdb:(x == ("__debug__":Str))=false:=by decide)
 (he:starEach (e::es) X.env=(false,eval e X.env)::starEach es X.env:=by rfl) (hpl:(backTo cpos (starEach es X.env)).any (·.1)=false:=by rfl) :
 PS X (.Raise (some (.Call (.Name x np) (e::es) [] cpos)) none pos) (Jmc E C fl t):=by
 intro pins s σ H D I h;obtain⟨f,fd,ps,F,hb,c,hf,hfn,kp,hm⟩:=G;obtain⟨nm,q,N,bs,sn,sub,ab,col,dd,k0,k1,k2,k3,k5,lk,ok⟩:=id c.cl;rw[arm_exec_Raise];refine Va (wpAny_standAt (Xub (C:=C) (nm:=nm) (q:=q) (N:=N) (bs:=bs) (bm:=.ref CT::W.bmV) (hdct:=true) (sn:=sn) (sub:=sub) (ab:=ab) (col:=col) (dd:=dd) (k0:=k0) (k1:=k1) (k2:=k2) (k3:=k3) (k5:=k5) (newId:="ValueError.__new__") (by rw[contains_cons,PySem.F.excBase_ValueError.hasBase,Bool.or_true]) (I.ok.hd hcalm) ?_))
 refine Va (wpAny_mono (wpAny_Call_ofName (JP I hg hm ?_ hdb)) (fun v s₃ h₃=>Va (wpAny_standAt (Vg h₃))) fun _ _ z=>z)
 refine W.callWith_K (h₀:=X.base) I.ok.mod.kin kp (thn (ha cpos pins s σ H _ I h) fun us s1 ⟨vs,H1,I1,r,hl,hz,q⟩=>⟨I1.kIn,?_⟩) he hpl
 obtain⟨hh,g,dr,tk,os⟩:=s1;refine Y9c I1.kIn c hf hfn (fun h' ea mk=>?_) (by rw[sizeLine_eq,nil_append,<- r.length];omega)
 rw[nil_append]at mk ⊢;have hC':=mk.there;obtain⟨tt,he',_⟩:=hC';obtain⟨w1,w2,w3,w4,w5⟩:=I1.nowhere hex mk.new;have I1':Inv X pins σ H1 ⟨h',g,dr,tk,os⟩:=I1.kept (t':=tk) mk.keeps;have I2:Inv X pins σ (upd H1 ea (xN ea C none)) ⟨h',g,dr,tk,os⟩:=I1'.track w1 w2 w3 w4 w5 (QJc (t:=tt) he');have hsp:QLc C fl (.ref ea::vs) (upd H1 ea (xN ea C none)) (fun v H2=>v=.non/\∃ d,H1 d=none/\d≠ea/\H2=upd (upd (upd H1 ea (xN ea C none)) ea (xN ea C (some d))) d (xD d (fl.zip vs))) E0 :=
  ⟨ea,vs,rfl,hl,Qd,fun d hd hne=>⟨rfl,d,by rw[Qi hne]at hd;exact hd,hne,rfl⟩⟩
 have r2:QE (V.ref ea::vs) (Value.ref ea::us):=.cons rfl r;have hlen:(Value.ref ea::us++[]).length=ps.length:=by rw[append_nil,<- r2.length];exact F.len _ _ _ _ hsp
 have b:=hb ⟨h',g,dr,tk,os⟩ (Value.ref ea::us) I2.kIn hlen;rw[append_nil]at b;refine wpAny_call (codeAny_mono (F.run _ X.stack _ _ ⟨Value.ref ea::us,[]⟩ (Value.ref ea::us) _ _ E0 ((hr.mono hj).make C us []) (I2.env0.make C us []) b r2 hsp) fun res s' hq=>?_)
 cases res with
 | error ev=>exact False.elim hq
 | ok fo =>
  cases fo with
  | next=>exact False.elim hq
  | brk=>exact False.elim hq
  | cont=>exact False.elim hq
  | ret u =>
   obtain⟨v,H3,I3,rv,ev,d,hd,hne,eH⟩:=I2.after hq;subst ev;subst eH;have e3:upd (upd (upd H1 ea (xN ea C none)) ea (xN ea C (some d))) d (xD d (fl.zip vs)) ea=some (xN ea C (some d)):=by rw[Qi (Ne.symm hne),Qd]
   obtain⟨⟨t3,g3⟩,_,_⟩:=(show QL X.prog X.w _ s'.heap ea (xN ea C (some d)) from I3.hok ea _ e3)
   have e4:upd H1 d (xD d (fl.zip vs)) ea=none:=by rw[Qi (Ne.symm hne)];exact w1
   have I4:Inv X pins σ (upd H1 d (xD d (fl.zip vs))) s':=I3.off e3 w2 (fun y hy=>by
    by_cases hyd:y=d
    ·rw[hyd,Qd,Qd]
    ·rw[Qi hyd,Qi hyd,Qi hy,Qi hy]) e4
   refine⟨rv,ea,t3,some d,rfl,I3.kIn _ _ lk,g3,?_⟩
   exact T pins σ _ s' ea (.ref C) (some d) [] none I4 ⟨_,_,g3,rfl,rfl,rfl,⟨⟨.none,rfl,rfl⟩,by simp,fun p hp=>by cases hp⟩,rfl⟩ (.inl rfl) w2 e4 (q d hd)
end
def ZH.gone(D:ZH)(i:Nat):ZH:={ nx:=fun σ H=>D.nx (σ.set i none) H,rt:=D.rt,bk:=fun σ H=>D.bk (σ.set i none) H,ct:=fun σ H=>D.ct (σ.set i none) H }
section
variable{X:Cx}{st b₀:Stmt}{suite:List Stmt}{t1:TS1}{ts:TS}{x n:Str}{CT:Addr}{np hpos pos:Pos}{i:Nat}
end
inductive Dt where
 | v (x:V)
 | t (xs:List Dt)
 | l (xs:List Dt)
instance:Inhabited Dt:=⟨.v .non⟩
mutual
def eqD:Dt->Dt->Bool
 | .v x,.v y=>eqV x y
 | .t xs,.t ys=>Q2a xs ys
 | .l xs,.l ys=>Q2a xs ys
 | _,_=>false
def Q2a:List Dt->List Dt->Bool
 | [],[]=>true
 | x::xs,y::ys=>eqD x y && Q2a xs ys
 | _,_=>false
end
inductive Rep(K:W.Frag)(H:Hp):Nat->Dt->V->Prop where
 | v {n:Nat} {x:V} (f:J9 x=true):Rep K H n (.v x) x
 | t {n:Nat} {a:Addr} {ds:List Dt} {xs:List V} (h:SqT K H a xs) (e:ds.length=xs.length) (r:∀ (i:Nat) d x,ds[i]?=some d->xs[i]?=some x->Rep K H n d x):Rep K H (n+1) (.t ds) (.ref a)
 | l {n:Nat} {a:Addr} {ds:List Dt} {xs:List V} (h:SqL K H a xs) (e:ds.length=xs.length) (r:∀ (i:Nat) d x,ds[i]?=some d->xs[i]?=some x->Rep K H n d x):Rep K H (n+1) (.l ds) (.ref a)
theorem Yba(n:Nat)(p:Nat->Bool):(List.range (n+1)).all p=(p 0 && (List.range n).all fun i=>p (i+1)):=by
 rw[range_succ_eq_map,all_cons,all_map];rfl
theorem ZAa:∀ xs ys:List Dt,Q2a xs ys=((List.range (min xs.length ys.length)).all (fun i=>eqD (xs.getD i default) (ys.getD i default)) && (xs.length == ys.length))
 | [],[]=>by simp[Q2a]
 | [],y::ys=>by simp[Q2a]
 | x::xs,[]=>by simp[Q2a]
 | x::xs,y::ys=>by
  rw[Q2a,ZAa xs ys,length_cons,length_cons,Nat.succ_min_succ,Yba];simp only[getD_cons_zero,getD_cons_succ,Bool.and_assoc];have:(xs.length+1 == ys.length+1)=(xs.length == ys.length):=by rw[Bool.eq_iff_iff,beq_iff_eq,beq_iff_eq];omega
  rw[this]
theorem ZBa{xs ys:List Dt}(h:xs.length=ys.length):Q2a xs ys=(List.range xs.length).all (fun i=>eqD (xs.getD i default) (ys.getD i default)):=by
 rw[ZAa,<- h,Nat.min_self,beq_self_eq_true,Bool.and_true]
theorem YGb{xs ys:List Dt}(h:xs.length≠ys.length):Q2a xs ys=false:=by
 rw[ZAa,beq_eq_false_iff_ne.mpr h,Bool.and_false]
section
variable{K:W.Frag}{H H':Hp}{n m:Nat}{d d':Dt}{x:V}
theorem Rep.self(r:Rep K H n d x):eqD d d=true:=by
 induction r with
 | v f=>unfold eqD;exact Zbb f
 | t h e _ ih =>
  unfold eqD;rw[ZBa rfl,all_eq_true];intro i hi;rename_i ds xs _;have hi:=mem_range.mp hi;have h1:ds[i]?=some ds[i]:=Vb hi
  have h2:xs[i]?=some (xs[i]'(by omega)):=Vb (by omega)
  have:=ih i _ _ h1 h2
  rwa [show ds.getD i default=ds[i] by simp[List.getD,h1]]
 | l h e _ ih =>
  unfold eqD;rw[ZBa rfl,all_eq_true];intro i hi;rename_i ds xs _;have hi:=mem_range.mp hi;have h1:ds[i]?=some ds[i]:=Vb hi
  have h2:xs[i]?=some (xs[i]'(by omega)):=Vb (by omega)
  have:=ih i _ _ h1 h2
  rwa [show ds.getD i default=ds[i] by simp[List.getD,h1]]
end
section
variable{X:Cx}{pins:YP_}{σ:St}{H:Hp}{s:Shared}
theorem Inv.tup_not_list{a:Addr}{xs ys:List V}(I:Inv X pins σ H s)(h:SqT X.K H a xs)(h':SqL X.K H a ys):False:=by
 obtain⟨its,r,⟨o,e,c,_⟩,_⟩:=I.tuple h;obtain⟨its',r',⟨o',n',e',c',_⟩,_⟩:=I.list h';rw[e]at e';cases e';rw[c]at c';exact absurd (Value.type.inj c') (by decide)
theorem Rep.det(I:Inv X pins σ H s):∀ {n m:Nat} {d d':Dt} {x y:V},Rep X.K H n d x->Rep X.K H m d' y->x=y->d=d':=by
 intro n m d d' x y r
 induction r generalizing m d' y with
 | v f =>
  intro r' e;subst e;cases r' with
  | v _=>rfl
  | t _ _ _=>exact absurd f (by simp[J9])
  | l _ _ _=>exact absurd f (by simp[J9])
 | t h e _ ih =>
  intro r' ee;cases r' with
  | v f=>subst ee;exact absurd f (by simp[J9])
  | t h' e' r2 =>
   cases ee;have:=I.tuple_inj h h';subst this
   congr 1
   refine ext_getElem (by omega) fun i h1 h2=>?_
   exact ih i _ _ (Vb h1) (Vb (show i < _ by omega)) (r2 i _ _ (Vb h2) (Vb (by omega))) rfl
  | l h' _ _=>cases ee;exact(I.tup_not_list h h').elim
 | l h e _ ih =>
  intro r' ee;cases r' with
  | v f=>subst ee;exact absurd f (by simp[J9])
  | l h' e' r2 =>
   cases ee;have:=I.list_inj h h';subst this
   congr 1
   refine ext_getElem (by omega) fun i h1 h2=>?_
   exact ih i _ _ (Vb h1) (Vb (show i < _ by omega)) (r2 i _ _ (Vb h2) (Vb (by omega))) rfl
  | t h' _ _=>cases ee;exact(I.tup_not_list h' h).elim
theorem Yu{α:Type}{xs:List α}{i:Nat}{x d:α}(h:xs[i]?=some x):xs.getD i d=x:=by simp[List.getD,h]
theorem Zlb{A:Around}{n:Nat}(h:A.units+(n+1) < cLine):A.in1.units+n < cLine:=by show A.units+1+n < cLine;omega
theorem Rep.eqAt(I:Inv X pins σ H s):∀ (n:Nat) {A:Around} {d d':Dt} {x y:V} {u v:Value},A.units+n < cLine->Rep X.K H n d x->Rep X.K H n d' y->QB x u->QB y v->SeqAt.EqAt A s u v (eqD d d'):=by
 intro n
 induction n with
 | zero =>
  intro A d d' x y u v hu r r' rx ry;cases r with
  | v f =>
   cases r' with
   | v f'=>unfold eqD;exact XRa rx ry f f'
 | succ n ih =>
  intro A d d' x y u v hu r r' rx ry;have hu0:A.units < cLine:=by omega
  have elems:∀ {ds es:List Dt} {xs ys:List V} {us vs:List Value},ds.length=xs.length->es.length=ys.length->(∀ (i:Nat) d x,ds[i]?=some d->xs[i]?=some x->Rep X.K H n d x)->(∀ (i:Nat) d x,es[i]?=some d->ys[i]?=some x->Rep X.K H n d x) ->
   QE xs us->QE ys vs->∀ j (h1:j < us.toArray.size) (h2:j < vs.toArray.size),SeqAt.EqAt A.in1 s us.toArray[j] vs.toArray[j] (eqD (ds.getD j default) (es.getD j default)):=by
   intro ds es xs ys us vs l1 l2 r1 r2 w1 w2 j h1 h2;have m1:=w1.length;have m2:=w2.length
   have j1:j < xs.length:=by have:j < us.length:=by simpa using h1
                             omega
   have j2:j < ys.length:=by have:j < vs.length:=by simpa using h2
                             omega
   have g1:ds[j]?=some (ds[j]'(by omega)):=Vb _
   have g2:es[j]?=some (es[j]'(by omega)):=Vb _
   have x1:xs[j]?=some xs[j]:=Vb _
   have x2:ys[j]?=some ys[j]:=Vb _
   obtain⟨u1,e1,q1⟩:=w1.get x1;obtain⟨u2,e2,q2⟩:=w2.get x2;rw[Yu g1,Yu g2];have k1:us.toArray[j]=u1:=by
    have:us[j]?=some us[j]:=Vb _
    rw[this]at e1;simpa using e1
   have k2:vs.toArray[j]=u2:=by
    have:vs[j]?=some vs[j]:=Vb _
    rw[this]at e2;simpa using e2
   rw[k1,k2];exact ih (Zlb hu) (r1 j _ _ g1 x1) (r2 j _ _ g2 x2) q1 q2
  cases r with
  | v f =>
   cases r' with
   | v f'=>unfold eqD;exact XRa rx ry f f'
   | t h e _ =>
    cases ry;obtain⟨its,_,p,_⟩:=I.tuple h;unfold eqD;cases x <;> first | (exact(Vf f).elim) | skip
    ·cases (show u=Value.none from rx);exact .none_tuple p hu0
    ·cases (show u=Value.bool _ from rx);exact .bool_tuple _ p hu0
    ·obtain⟨t,rfl⟩:=rx;exact .int_tuple _ _ p hu0
    ·obtain⟨t,rfl⟩:=rx;exact .str_tuple _ _ p hu0
   | l h e _ =>
    cases ry;obtain⟨its,_,p,_⟩:=I.list h;unfold eqD;cases x <;> first | (exact(Vf f).elim) | skip
    ·cases (show u=Value.none from rx);exact .none_list p.isList hu0
    ·cases (show u=Value.bool _ from rx);exact .bool_list _ p.isList hu0
    ·obtain⟨t,rfl⟩:=rx;exact .int_list _ _ p.isList hu0
    ·obtain⟨t,rfl⟩:=rx;exact .str_list _ _ p.isList hu0
  | t h e r1 =>
   rename_i a ds xs;cases rx;obtain⟨its,w1,p,_⟩:=I.tuple h;cases r' with
   | v f' =>
    unfold eqD;cases y <;> first | (exact(Vf f').elim) | skip
    ·cases (show v=Value.none from ry);exact .tuple_none p hu0
    ·cases (show v=Value.bool _ from ry);exact .tuple_bool _ p hu0
    ·obtain⟨t,rfl⟩:=ry;exact .tuple_int _ _ p hu0
    ·obtain⟨t,rfl⟩:=ry;exact .tuple_str _ _ p hu0
   | t h' e' r2 =>
    rename_i b es ys;cases ry;obtain⟨its',w2,p',_⟩:=I.tuple h'
    by_cases ab:a=b
    ·subst ab
     have z:=Rep.det I (.t h e r1) (.t h' e' r2) rfl;rw[<- z,Rep.self (.t h e r1)];exact .same _
    ·have q:=SeqAt.RcAt.tuples (A:=A) (e:=fun i=>eqD (ds.getD i default) (es.getD i default)) p p' hu0 (elems e e' r1 r2 w1 w2)
     have sz:its.toArray.size=ds.length:=by rw[Vn,<- w1.length,e]
     have sz':its'.toArray.size=es.length:=by rw[Vn,<- w2.length,e']
     rw[sz,sz',<- ZAa]at q;unfold eqD;exact .of_refs ab q
   | l h' _ _ =>
    cases ry;obtain⟨its',w2,p',_⟩:=I.list h';unfold eqD;exact .tuple_list p p'.isList hu0
  | l h e r1 =>
   rename_i a ds xs;cases rx;obtain⟨its,w1,p,_⟩:=I.list h;cases r' with
   | v f' =>
    unfold eqD;cases y <;> first | (exact(Vf f').elim) | skip
    ·cases (show v=Value.none from ry);exact .list_none p.isList hu0
    ·cases (show v=Value.bool _ from ry);exact .list_bool _ p.isList hu0
    ·obtain⟨t,rfl⟩:=ry;exact .list_int _ _ p.isList hu0
    ·obtain⟨t,rfl⟩:=ry;exact .list_str _ _ p.isList hu0
   | l h' e' r2 =>
    rename_i b es ys;cases ry;obtain⟨its',w2,p',_⟩:=I.list h'
    by_cases ab:a=b
    ·subst ab
     have z:=Rep.det I (.l h e r1) (.l h' e' r2) rfl;rw[<- z,Rep.self (.l h e r1)];exact .same _
    ·have sz:its.toArray.size=ds.length:=by rw[Vn,<- w1.length,e]
     have sz':its'.toArray.size=es.length:=by rw[Vn,<- w2.length,e']
     unfold eqD
     by_cases hl:ds.length=es.length
     ·have q:=SeqAt.RcAt.lists (A:=A) (e:=fun i=>eqD (ds.getD i default) (es.getD i default)) p.isList p'.isList (by omega) hu0 (elems e e' r1 r2 w1 w2)
      rw[sz,<- ZBa hl]at q;exact .of_refs ab q
     ·rw[YGb hl]
      exact .of_refs ab (SeqAt.RcAt.lists_lengths p.isList p'.isList (by rw[sz,sz'];exact bne_iff_ne.mpr hl) hu0)
   | t h' _ _ =>
    cases ry;obtain⟨its',w2,p',_⟩:=I.tuple h';unfold eqD;exact .list_tuple p.isList p' hu0
theorem Rep.elems(I:Inv X pins σ H s){n:Nat}{A:Around}(hu:A.units+(n+1) < cLine){ds es:List Dt}{xs ys:List V}{us vs:List Value}(l1:ds.length=xs.length)(l2:es.length=ys.length)
 (r1:∀ (i:Nat) d x,ds[i]?=some d->xs[i]?=some x->Rep X.K H n d x) (r2:∀ (i:Nat) d x,es[i]?=some d->ys[i]?=some x->Rep X.K H n d x) (w1:QE xs us) (w2:QE ys vs) (j:Nat) (h1:j < us.toArray.size) (h2:j < vs.toArray.size) :
 SeqAt.EqAt A.in1 s us.toArray[j] vs.toArray[j] (eqD (ds.getD j default) (es.getD j default)):=by
 have m1:=w1.length;have m2:=w2.length
 have j1:j < xs.length:=by have:j < us.length:=by simpa using h1
                           omega
 have j2:j < ys.length:=by have:j < vs.length:=by simpa using h2
                           omega
 have g1:ds[j]?=some (ds[j]'(by omega)):=Vb _
 have g2:es[j]?=some (es[j]'(by omega)):=Vb _
 have x1:xs[j]?=some xs[j]:=Vb _
 have x2:ys[j]?=some ys[j]:=Vb _
 obtain⟨u1,e1,q1⟩:=w1.get x1;obtain⟨u2,e2,q2⟩:=w2.get x2;rw[Yu g1,Yu g2];have k1:us.toArray[j]=u1:=by
  have:us[j]?=some us[j]:=Vb _
  rw[this]at e1;simpa using e1
 have k2:vs.toArray[j]=u2:=by
  have:vs[j]?=some vs[j]:=Vb _
  rw[this]at e2;simpa using e2
 rw[k1,k2];exact Rep.eqAt I n (Zlb hu) (r1 j _ _ g1 x1) (r2 j _ _ g2 x2) q1 q2
theorem Rep.rcAt(I:Inv X pins σ H s){n:Nat}{A:Around}{d d':Dt}{x y:V}{u v:Value}(hu:A.units+n < cLine)(r:Rep X.K H n d x)(r':Rep X.K H n d' y)(rx:QB x u)(ry:QB y v):SeqAt.RcAt A s u v (eqD d d'):=by
 have hu0:A.units < cLine:=by omega
 cases r with
 | v f =>
  cases r' with
  | v f' =>
   unfold eqD;cases x <;> first | (exact(Vf f).elim) | skip
   all_goals (cases y <;> first | (exact(Vf f').elim) | skip)
   ·cases (show u=Value.none from rx)
    cases (show v=Value.none from ry)
    exact SeqAt.RcAt.none_none
   ·cases (show u=Value.none from rx)
    cases (show v=Value.bool _ from ry)
    exact SeqAt.RcAt.none_bool _
   ·cases (show u=Value.none from rx)
    obtain⟨tv,rfl⟩:=ry;exact SeqAt.RcAt.none_int _ _
   ·cases (show u=Value.none from rx)
    obtain⟨tv,rfl⟩:=ry;exact SeqAt.RcAt.none_str _ _
   ·cases (show u=Value.bool _ from rx)
    cases (show v=Value.none from ry)
    exact SeqAt.RcAt.bool_none _
   ·cases (show u=Value.bool _ from rx)
    cases (show v=Value.bool _ from ry)
    exact SeqAt.RcAt.bool_bool _ _
   ·cases (show u=Value.bool _ from rx)
    obtain⟨tv,rfl⟩:=ry;exact SeqAt.RcAt.bool_int _ _ _
   ·cases (show u=Value.bool _ from rx)
    obtain⟨tv,rfl⟩:=ry;exact SeqAt.RcAt.bool_str _ _ _
   ·obtain⟨tu,rfl⟩:=rx
    cases (show v=Value.none from ry)
    exact SeqAt.RcAt.int_none _ _
   ·obtain⟨tu,rfl⟩:=rx
    cases (show v=Value.bool _ from ry)
    exact SeqAt.RcAt.int_bool _ _ _
   ·obtain⟨tu,rfl⟩:=rx
    obtain⟨tv,rfl⟩:=ry;exact SeqAt.RcAt.int_int _ _ _ _
   ·obtain⟨tu,rfl⟩:=rx
    obtain⟨tv,rfl⟩:=ry;exact SeqAt.RcAt.int_str _ _ _ _
   ·obtain⟨tu,rfl⟩:=rx
    cases (show v=Value.none from ry)
    exact SeqAt.RcAt.str_none _ _
   ·obtain⟨tu,rfl⟩:=rx
    cases (show v=Value.bool _ from ry)
    exact SeqAt.RcAt.str_bool _ _ _
   ·obtain⟨tu,rfl⟩:=rx
    obtain⟨tv,rfl⟩:=ry;exact SeqAt.RcAt.str_int _ _ _ _
   ·obtain⟨tu,rfl⟩:=rx
    obtain⟨tv,rfl⟩:=ry;exact SeqAt.RcAt.str_str _ _ _ _
  | t h e _ =>
   cases ry;obtain⟨its,_,p,_⟩:=I.tuple h;unfold eqD;cases x <;> first | (exact(Vf f).elim) | skip
   ·cases (show u=Value.none from rx)
    exact SeqAt.RcAt.none_tuple p hu0
   ·cases (show u=Value.bool _ from rx)
    exact SeqAt.RcAt.bool_tuple _ p hu0
   ·obtain⟨tu,rfl⟩:=rx
    exact SeqAt.RcAt.int_tuple _ _ p hu0
   ·obtain⟨tu,rfl⟩:=rx
    exact SeqAt.RcAt.str_tuple _ _ p hu0
  | l h e _ =>
   cases ry;obtain⟨its,_,p,_⟩:=I.list h;unfold eqD;cases x <;> first | (exact(Vf f).elim) | skip
   ·cases (show u=Value.none from rx)
    exact SeqAt.RcAt.none_list p.isList hu0
   ·cases (show u=Value.bool _ from rx)
    exact SeqAt.RcAt.bool_list _ p.isList hu0
   ·obtain⟨tu,rfl⟩:=rx
    exact SeqAt.RcAt.int_list _ _ p.isList hu0
   ·obtain⟨tu,rfl⟩:=rx
    exact SeqAt.RcAt.str_list _ _ p.isList hu0
 | t h e r1 =>
  rename_i n a ds xs;cases rx;obtain⟨its,w1,p,_⟩:=I.tuple h;cases r' with
  | v f' =>
   unfold eqD;cases y <;> first | (exact(Vf f').elim) | skip
   ·cases (show v=Value.none from ry)
    exact SeqAt.RcAt.tuple_none p hu0
   ·cases (show v=Value.bool _ from ry)
    exact SeqAt.RcAt.tuple_bool _ p hu0
   ·obtain⟨tv,rfl⟩:=ry
    exact SeqAt.RcAt.tuple_int _ _ p hu0
   ·obtain⟨tv,rfl⟩:=ry
    exact SeqAt.RcAt.tuple_str _ _ p hu0
  | t h' e' r2 =>
   rename_i b es ys;cases ry;obtain⟨its',w2,p',_⟩:=I.tuple h';have q:=SeqAt.RcAt.tuples (A:=A) (e:=fun i=>eqD (ds.getD i default) (es.getD i default)) p p' hu0 (Rep.elems I hu e e' r1 r2 w1 w2)
   have sz:its.toArray.size=ds.length:=by rw[Vn,<- w1.length,e]
   have sz':its'.toArray.size=es.length:=by rw[Vn,<- w2.length,e']
   rw[sz,sz',<- ZAa]at q;unfold eqD;exact q
  | l h' _ _ =>
   cases ry;obtain⟨its',w2,p',_⟩:=I.list h';unfold eqD;exact SeqAt.RcAt.tuple_list p p'.isList hu0
 | l h e r1 =>
  rename_i n a ds xs;cases rx;obtain⟨its,w1,p,_⟩:=I.list h;cases r' with
  | v f' =>
   unfold eqD;cases y <;> first | (exact(Vf f').elim) | skip
   ·cases (show v=Value.none from ry)
    exact SeqAt.RcAt.list_none p.isList hu0
   ·cases (show v=Value.bool _ from ry)
    exact SeqAt.RcAt.list_bool _ p.isList hu0
   ·obtain⟨tv,rfl⟩:=ry
    exact SeqAt.RcAt.list_int _ _ p.isList hu0
   ·obtain⟨tv,rfl⟩:=ry
    exact SeqAt.RcAt.list_str _ _ p.isList hu0
  | l h' e' r2 =>
   rename_i b es ys;cases ry;obtain⟨its',w2,p',_⟩:=I.list h';have sz:its.toArray.size=ds.length:=by rw[Vn,<- w1.length,e]
   have sz':its'.toArray.size=es.length:=by rw[Vn,<- w2.length,e']
   unfold eqD
   by_cases hl:ds.length=es.length
   ·have q:=SeqAt.RcAt.lists (A:=A) (e:=fun i=>eqD (ds.getD i default) (es.getD i default)) p.isList p'.isList (by omega) hu0 (Rep.elems I hu e e' r1 r2 w1 w2)
    rw[sz,<- ZBa hl]at q;exact q
   ·rw[YGb hl]
    exact SeqAt.RcAt.lists_lengths p.isList p'.isList (by rw[sz,sz'];exact bne_iff_ne.mpr hl) hu0
  | t h' _ _ =>
   cases ry;obtain⟨its',w2,p',_⟩:=I.tuple h';unfold eqD;exact SeqAt.RcAt.list_tuple p.isList p' hu0
def rD(K:W.Frag)(neg:Bool):R2:=fun x y H Q=>∃ n d d',n<=60/\Rep K H n d x/\Rep K H n d' y/\Q (.bl (if neg then !eqD d d' else eqD d d')) H
theorem QMc(hu:X.A.units+64 < cLine):OpR X (compareOp .Eq) (rD X.K false):=by
 intro pins s σ H x y v u Q I rx ry h;obtain⟨n,d,d',hn,r,r',q⟩:=h;exact Rep.rcAt I (A:=X.A) (by omega) r r' rx ry X.prog X.w X.xe _ ⟨.bl _,H,I,rfl,q⟩
end
end L2
end
section
namespace L2
open PySem PySem.Spec PyProof.Rows PySem.W
structure Jnc(xs:List V)(lt:V->V->Bool):Prop where
 ty:∃ T:String,(Value.type T != Value.type "tuple")=true/\∀ v∈xs,∀ u,QB v u->typeOf u=pure (.type T)
 ask:∀ v∈xs,∀ v'∈xs,∀ u u',QB v u->QB v' u'->∀ (prog:Program) (w:World) (A:Around) (E:YQ_) (s:Shared) (Q:Bool->Shared->Prop),Q (lt v v') s->wpAny (model prog w) A (keyLt' oneType' u u') Q E s
 swo:Swo xs lt
theorem QNc{v v':V}{u:Value}(a:QB v u)(b:QB v' u):v=v':=by
 cases v <;> cases v' <;> simp only[QB]at a b <;> first | rfl | (subst a;cases b;done) | (subst a;cases b;rfl) | (obtain⟨t,rfl⟩:=a;obtain⟨t',e⟩:=b;cases e;done) | (obtain⟨t,rfl⟩:=a;obtain⟨t',e⟩:=b;cases e;rfl) | (subst a;obtain⟨t',e⟩:=b;cases e;done) | (obtain⟨t,rfl⟩:=a;cases b;done)
section
variable{X:Cx}{pins:YP_}{σ:St}{H:Hp}{s:Shared}{A:Around}{E:YQ_}
theorem QOc{n:Nat}(h:n<=100000):n < sizeLine:=Nat.lt_of_le_of_lt h (by decide)
theorem Zmb{l:Addr}{xs:List V}{lt:V->V->Bool}{Q:VK}(I:Inv X pins σ H s)(hl:SqL X.K H l xs)(h64:xs.length < 100000)(hK:Jnc xs lt)
 (h:∀ D H' ys,Qp H H'->H D=none->H' D=some (.lst ys)->ys.Perm xs->ys.Pairwise (fun a b=>lt b a=false)->Q (.ref D) H') :
 wpAny (model X.prog X.w) X.A (call (.builtin "sorted") [.ref l]) (EP X pins σ Q) X.xe s:=by
 obtain⟨vs,rv,pl,hz⟩:=I.list hl;have hlv:=rv.length;have hvz:vs.length<=sizeLine:=by rw[<- hlv];exact hz
 refine Calls.call_function_entry kind_sorted plain_sorted entry_sorted (args_sorted1 _) ?_
 unfold Builtin.«sorted»;refine Va (m:=checkCount "sorted" 1 1 _) (Vg ?_)
 refine Va (collect_list pl.isList ?_ hvz)
 refine Va (wpAny_newList ?_ hvz)
 obtain⟨hsz,kept1⟩:=Y2c s.heap vs;have hoL:=Vi ((s.heap.push (seqObj "list" #[] 0)).update s.heap.objs.size (Obj.mapSeq (·++vs.toArray))) (o:=seqObj "list" vs.toArray 0) rfl
 rw[hsz]at hoL;have keep:=fun b o q=>Vd (seqObj "list" vs.toArray 0) (kept1 b o q)
 have I1:Inv X pins σ H { s with heap:=((s.heap.push (seqObj "list" #[] 0)).update s.heap.objs.size (Obj.mapSeq (·++vs.toArray))).push (seqObj "list" vs.toArray 0) }:=I.kept (t':=s.toks) keep
 have fD:QVa X pins H (s.heap.objs.size+1):=I.fpOk (Nat.le_succ _) (I.hok.fresh (Nat.le_succ _));show wpAny _ _ _ _ _ { s with heap:=((s.heap.push (seqObj "list" #[] 0)).update s.heap.objs.size (Obj.mapSeq (·++vs.toArray))).push (seqObj "list" vs.toArray 0) }
 rw[hsz];generalize ((s.heap.push (seqObj "list" #[] 0)).update s.heap.objs.size (Obj.mapSeq (·++vs.toArray))).push (seqObj "list" vs.toArray 0)=h1 at hoL I1;generalize s.heap.objs.size+1=D at hoL fD;refine Va (wpAny_holding (wpAny_call_entry slot_list_sort ⟨_,hoL,rfl⟩ entry_list_sort ?body (args_list_sort _)))
 case body =>
  rw[list_sort_plain];have s1:=Heap.SameBut.update h1 D (Obj.mapSeq fun _=>(#[]:Array Value))
  obtain⟨e1,ho1⟩:∃ e1,(h1.update D (Obj.mapSeq fun _=>(#[]:Array Value))).get? D=some (seqObj "list" #[] e1):=⟨_,get?_update_seq hoL fun _=>#[]⟩
  have I2:Inv X pins σ H { s with heap:=h1.update D (Obj.mapSeq fun _=>(#[]:Array Value)) }:=I1.turned (t':=s.toks) (fun b o hb q=>(s1.2 b hb).trans q) fD.1 fD.2.1 fD.2.2.2.1 fD.2.2.2.2.1 fD.2.2.2.2.2
  have I3:Inv X (pins++[(D,seqObj "list" #[] e1)]) σ H { s with heap:=h1.update D (Obj.mapSeq fun _=>(#[]:Array Value)) }:=I2.pins_of fun p hp=>(Vl.mp hp).elim (fun z=>I2.pin p (Vp _ z)) fun z=>by
   have z:p=(D,seqObj "list" #[] e1):=by simpa using z
   subst z;exact⟨ho1,fD.1,fD.2.1,fD.2.2.1,fun v q=>by cases q⟩
  have I5:Inv X (pins++[(D,seqObj "list" #[] e1)]) σ H { s with heap:=((h1.update D (Obj.mapSeq fun _=>(#[]:Array Value))).push (seqObj "tuple" vs.toArray 0)).push (seqObj "list" #[] 0) }:=I3.kept (t':=s.toks) fun b u q=>Vd _ (Vd _ q)
  refine Va (listItems_at hoL rfl ?_)
  refine Va (listUpdate_at hoL rfl ?_ (by rw[Vn];exact hvz) (Vk _))
  refine Va (seqEpoch_at ho1 rfl ?_)
  refine Va (wpAny_newTuple ?_ (by show vs.length<=_;exact hvz))
  refine Va (wpAny_newList ?_ (Vk _))
  refine wpAny_holding ?_
  show wpAny (model X.prog X.w) _ _ _ _ { s with heap:=((h1.update D (Obj.mapSeq fun _=>(#[]:Array Value))).push (seqObj "tuple" vs.toArray 0)).push (seqObj "list" #[] 0) }
  generalize ((h1.update D (Obj.mapSeq fun _=>(#[]:Array Value))).push (seqObj "tuple" vs.toArray 0)).push (seqObj "list" #[] 0)=h2 at I5
  dsimp only;have tail:∀ {st:SortSt} {out:List Value} {ys:List V},(arrOf st).map (·.2)=List.toArray out->failedOf st=none->QE ys out->ys.length < 100000->ys.Perm xs->ys.Pairwise (fun a b=>lt b a=false) ->
   wpAny (model X.prog X.w) X.A.in1.in1 (do
    let ep <- seqEpoch D
    Builtin.List.listUpdate (Value.ref D) fun x=>Array.map (fun x=>x.snd) (arrOf st)
    match failedOf st with
    | some e=>do
     rule "list.sort.comparison-raised"
     throw e
     if (ep != e1)=true then do
         rule "list.sort.modified"
         raiseErrorWords "ValueError" "list modified during sort"
         ret Value.none
      else ret Value.none
    | x =>
     if (ep != e1)=true then do
      rule "list.sort.modified"
      raiseErrorWords "ValueError" "list modified during sort"
      ret Value.none
     else ret Value.none)
    (fun fin s'=>∃ v,fin=Fin.done (Flow.ret v)/\wpAny (model X.prog X.w) X.A.in1 (ret (Value.ref D)) (fun fin s'=>∃ v,fin=Fin.done (Flow.ret v)/\EP X pins σ Q v s') X.xe s')
    X.xe { s with heap:=h2 }:=by
   intro st out ys hout hf ro hlo p1 p2;have hD:=(I5.pin (D,seqObj "list" #[] e1) (Vp _ (Vp _ (by simp)))).1
   have s2:=Heap.SameBut.update h2 D (Obj.mapSeq fun _=>List.toArray out)
   obtain⟨c2,hc2⟩:∃ c2,(h2.update D (Obj.mapSeq fun _=>List.toArray out)).get? D=some (seqObj "list" (List.toArray out) c2):=⟨_,get?_update_seq hD fun _=>List.toArray out⟩
   have ho:out.length < 100000:=by rw[<- ro.length];exact hlo
   rw[hout];refine Va (seqEpoch_at hD rfl ?_)
   refine Va (listUpdate_at hD rfl ?_ (Vk _) (by rw[Vn];exact Nat.le_succ_of_le (Vv (QOc (by omega)))))
   rw[hf];simp only[bne_self_eq_false,Bool.false_eq_true,if_false];have I6:Inv X pins σ (upd H D (.lst ys)) { s with heap:=h2.update D (Obj.mapSeq fun _=>List.toArray out) }:=(I5.unpinned).adopt (t':=s.toks) fD (fun b u hb q=>(s2.2 b hb).trans q) ⟨Vv (QOc (by omega)),out,c2,ro,hc2⟩
   exact Vg ⟨_,rfl,Vg ⟨_,rfl,.ref D,_,I6,rfl,h D _ ys ((Qp.refl _).updL fD.1 _) fD.1 Qd p1 p2⟩⟩
  by_cases h2':vs.toArray.size < 2
  ·rw[if_pos h2',if_pos h2']
   refine Va (Vg ?_)
   rw[StateT.run_pure];refine Va (Vg ?_)
   refine tail (st:=SortSt.mk' general' (vs.toArray.zip vs.toArray) #[] 7 none) (out:=vs) ?_ rfl rv (by omega) (List.Perm.refl _) (Qvc (by rw[Vn]at h2';omega))
   apply Array.toList_inj.mp
   show(Array.map (·.2) (vs.toArray.zip vs.toArray)).toList=_;rw[Array.toList_map,ksk_zip];show List.map (·.2) (vs.zip vs)=vs;exact map_snd_zip (by omega)
  ·rw[if_neg h2',if_neg h2']
   rw[Vn]at h2';obtain⟨T,hT1,hT⟩:=hK.ty;have mem:∀ v∈vs,∃ x∈xs,QB x v:=fun v hv=>by
    obtain⟨i,hi,rfl⟩:=mem_iff_getElem.mp hv;obtain⟨u,eu,ru⟩:=rv.get (i:=i) (x:=xs[i]'(by omega)) (Vb _)
    rw[Vb hi]at eu
    cases eu;exact⟨_,getElem_mem _,ru⟩
   refine Va (kas_kind (T:=.type T) (by omega) (fun v hv=>?_) hT1 (by simp) ?_)
   ·obtain⟨x,hx,rx⟩:=mem v hv
    exact Looks.of_pure (hT x hx v rx)
   have hn:0 < xs.length:=by omega
   have at_:∀ i,i < xs.length->QB (xs.getD i .non) (vs.getD i Value.none)/\xs.getD i .non∈xs:=fun i hi=>by
    obtain⟨u,eu,ru⟩:=rv.get (i:=i) (x:=xs[i]) (Vb _)
    have e1:xs.getD i .non=xs[i]:=by simp[hi]
    have e2:vs.getD i Value.none=u:=by simp[List.getD,eu]
    rw[e1,e2];exact⟨ru,getElem_mem _⟩
   have run:=SortB.Jfc (prog:=X.prog) (w:=X.w) (A:=X.A.in1.in1) (E:=X.xe) (κ:=oneType') (ks:=vs) (vs:=vs) (s:={ s with heap:=h2 }) (r:=fun i=>xs.countP (lt · (xs.getD i .non))) rfl (by omega)
    (fun i j C hi hj hC=>by
     rw[<- hlv]at hi hj;rw[hK.swo.rank (at_ i hi).2 (at_ j hj).2]at hC;unfold kas_ask;exact hK.ask _ (at_ i hi).2 _ (at_ j hj).2 _ _ (at_ i hi).1 (at_ j hj).1 _ _ _ _ _ _ hC)
    (fun i j hi hj e=>by
     rw[<- hlv]at hi hj;have r1:=(at_ i hi).1;rw[e]at r1;show xs.countP (lt · (xs.getD i .non))=xs.countP (lt · (xs.getD j .non));rw[QNc r1 (at_ j hj).1])
   rw[<- hlv]at run;refine Va (wpAny_mono run ?_ fun _ _ x=>x)
   rintro⟨⟨⟩,st'⟩ s' ⟨p,har,hf,es,ok,up⟩;subst es;have hout:=kat_snds (ks:=vs) (vs:=vs) rfl har;exact tail hout hf (rv.pick p.toList) (by rw[Vr,Array.length_toList,ok.size];omega) (Jzb ok) (Quc hK.swo ok hn up)
end
def ltP:V->V->Bool
 | .int a,.int b=>decide (a < b)
 | .str a,.str b=>decide (a.cps.toList < b.cps.toList)
 | _,_=>false
theorem QPc{xs:List V}(h:∀ v∈xs,∃ n,v=.int n):Jnc xs ltP where
 ty:=⟨"int",by decide,fun v hv u r=>by obtain⟨n,rfl⟩:=h v hv;obtain⟨t,rfl⟩:=r;rfl⟩
 ask:=fun v hv v' hv' u u' r r' prog w A E s Q q=>by
  obtain⟨n,rfl⟩:=h v hv;obtain⟨t,rfl⟩:=r;obtain⟨n',rfl⟩:=h v' hv';obtain⟨t',rfl⟩:=r';exact kat_lt_int q
 swo:=⟨fun a ha=>by obtain⟨n,rfl⟩:=h a ha;simp[ltP],fun a ha b hb c hc=>by
  obtain⟨x,rfl⟩:=h a ha;obtain⟨y,rfl⟩:=h b hb;obtain⟨z,rfl⟩:=h c hc;simp only[ltP,decide_eq_true_eq];omega,fun a ha b hb c hc=>by
  obtain⟨x,rfl⟩:=h a ha;obtain⟨y,rfl⟩:=h b hb;obtain⟨z,rfl⟩:=h c hc;simp only[ltP,decide_eq_true_eq];omega⟩
theorem QQc{xs:List V}(h:∀ v∈xs,∃ z,v=.str z):Jnc xs ltP where
 ty:=⟨"str",by decide,fun v hv u r=>by obtain⟨n,rfl⟩:=h v hv;obtain⟨t,rfl⟩:=r;rfl⟩
 ask:=fun v hv v' hv' u u' r r' prog w A E s Q q=>by
  obtain⟨n,rfl⟩:=h v hv;obtain⟨t,rfl⟩:=r;obtain⟨n',rfl⟩:=h v' hv';obtain⟨t',rfl⟩:=r';exact kas_lt_str q
 swo:=⟨fun a ha=>by obtain⟨n,rfl⟩:=h a ha;simp only[ltP,decide_eq_false_iff_not];exact List.lt_irrefl _,fun a ha b hb c hc=>by
  obtain⟨x,rfl⟩:=h a ha;obtain⟨y,rfl⟩:=h b hb;obtain⟨z,rfl⟩:=h c hc;simp only[ltP,decide_eq_true_eq];exact fun p q=>List.lt_trans p q,fun a ha b hb c hc=>by
  obtain⟨x,rfl⟩:=h a ha;obtain⟨y,rfl⟩:=h b hb;obtain⟨z,rfl⟩:=h c hc;simp only[ltP,decide_eq_true_eq];intro p
  by_cases q:x.cps.toList < y.cps.toList
  ·exact .inl q
  ·exact .inr (List.lt_of_le_of_lt (List.not_lt.mp q) p)⟩
def Xcc(K:W.Frag):List V->Hp->VK->Prop:=fun vs H Q=>∃ a xs lt,vs=[.ref a]/\SqL K H a xs/\xs.length < 100000/\Jnc xs lt /\
 ∀ D H' ys,Qp H H'->H D=none->H' D=some (.lst ys)->ys.Perm xs->ys.Pairwise (fun a b=>lt b a=false)->Q (.ref D) H'
theorem ZCa{X:Cx}:YV X (.builtin "sorted") (Xcc X.K):=by
 intro pins s σ H xs us Q I r h;obtain⟨a,ys,lt,rfl,hl,h64,hK,q⟩:=h;obtain⟨u,rfl,ru⟩:=Zka r;obtain rfl:u=Value.ref a:=ru;exact Zmb I hl h64 hK q
end L2
end
section
namespace L2
open PySem PySem.Spec PyProof.Rows
theorem QRc{k:Key}{u:Value}(h:QGa k u=true):QB (kV k) u:=by
 rcases Zd h with ⟨i,t,rfl,rfl⟩ | ⟨x,t,rfl,rfl⟩
 ·exact⟨t,rfl⟩
 ·exact⟨t,rfl⟩
def NF(X:Cx)(d:Addr):Prop:=∀ o u,X.H₀ d≠some (.frz o u)
section
variable{X:Cx}{pins:YP_}{σ:St}{H:Hp}{s:Shared}{d:Addr}{kvs:List (Key×V)}
theorem Inv.recast{u u':HO}(I:Inv X pins σ H s)(h:H d=some u)(n1:∀ xs,u≠.tup xs)(n2:∀ o v,X.H₀ d≠some (.frz o v))(n3:∀ ps,u≠.tbl ps)(n4:∀ x,u≠.own x)(ok:QL X.prog X.w (upd H d u') s.heap d u'):Inv X pins σ (upd H d u') s:=by
 have ne:∀ b,H b=none->b≠d:=fun b q z=>by rw[z,h]at q;cases q
 have nt:∀ b xs,H b=some (.tup xs)->b≠d:=fun b xs q z=>by rw[z,h]at q;exact n1 xs (Option.some.inj q)
 have no:∀ b x,H b=some (.own x)->b≠d:=fun b x q z=>by rw[z,h]at q;exact n4 x (Option.some.inj q)
 refine⟨I.ok,I.os,I.bare,⟨I.base.keep,I.base.slot,fun b v q n hx=>?_,I.base.there,fun b xs q=>?_,fun b o v q=>?_,fun b ps q=>?_⟩,I.loc,I.cell,by rw[Qi (ne _ I.free)];exact I.free,fun x c q=>by rw[Qi (ne _ (I.freeC x c q))];exact I.freeC x c q,fun p hp=>?_,fun b v q=>?_,I.len⟩
 ·have z:=I.base.free b v q n hx
  rw[Qi (ne b z)];exact z
 ·have z:=I.base.tups b xs q
  rw[Qi (nt b xs z)];exact z
 ·have z:=I.base.frzs b o v q
  rw[Qi (fun e=>by rw[e]at q;exact n2 o v q)];exact z
 ·obtain⟨m,z⟩:=I.base.tbls b ps q
  exact⟨m,by rw[Qi (fun e=>by rw[e,h]at z;exact n3 _ (Option.some.inj z))];exact z⟩
 ·obtain⟨a,b,r⟩:=I.pin p hp
  exact⟨a,by rw[Qi (ne _ b)];exact b,r⟩
 ·by_cases hb:b=d
  ·subst hb;rw[Qd]at q;cases q;exact ok
  ·rw[Qi hb]at q
   exact(I.hok b v q).stay (fun c v _ r=>r) (fun c r=>by rw[Qi (no c b r)];exact r) fun c xs r=>by rw[Qi (nt c xs r)];exact r
theorem Inv.nf(I:Inv X pins σ H s)(h:H d=some (.dK kvs)):NF X d:=fun o u q=>by
 have z:=I.base.frzs d o u q;rw[h]at z;cases z
theorem Inv.freeze(I:Inv X pins σ H s)(h:H d=some (.dK kvs)):∃ ob,s.heap.get? d=some ob/\Inv X pins σ (upd H d (.frz ob (.dK kvs))) s:=by
 obtain⟨z,y,vs,r,o,es,ep,e,c⟩:=(show QL X.prog X.w H s.heap d (.dK kvs) from I.hok d _ h)
 exact⟨o,e,I.recast h (fun _ z=>by cases z) (I.nf h) (fun _ z=>by cases z) (fun _ z=>by cases z) ⟨e,z,y,vs,r,o,es,ep,e,c⟩⟩
theorem Inv.thaw{ob:Obj}(I:Inv X pins σ H s)(nf:NF X d)(h:H d=some (.frz ob (.dK kvs))):Inv X pins σ (upd H d (.dK kvs)) s:=by
 obtain⟨_,z,y,vs,r,o,es,ep,e,c⟩:=(show QL X.prog X.w H s.heap d (.frz ob (.dK kvs)) from I.hok d _ h)
 exact I.recast h (fun _ z=>by cases z) nf (fun _ z=>by cases z) (fun _ z=>by cases z) ⟨z,y,vs,r,o,es,ep,e,c⟩
end
def Itd(d:Addr)(ob:Obj)(kvs:List (Key×V)):It :=
 ⟨fun i H=>H d=some (.frz ob (.dK kvs))/\i < kvs.length,fun i H x H'=>H'=H/\∃ k v,kvs[i]?=some (k,v)/\x=kV k,fun i H=>H d=some (.frz ob (.dK kvs))/\kvs.length<=i⟩
theorem QSc{P:Program}{w:World}{H:Hp}{h:Heap}{d:Addr}{ob:Obj}{kvs:List (Key×V)}{es:Array DictEntry}{ep:Nat}(ok:HOk P w H h)(e:H d=some (.frz ob (.dK kvs)))(hd:ob.data=.dict es ep) :
 (d == sysModules)=false/\∃ vs,KV kvs vs/\h.DictAt (QM P w) d vs ep:=by
 obtain⟨e0,z,y,vs,r,o,es',ep',e1,c1,c2,c3⟩:=(show QL P w H h d (.frz ob (.dK kvs)) from ok d _ e)
 rw[e0]at e1;cases e1;rw[hd]at c2;cases c2;exact⟨y,vs,r,ob,es,e0,c1,hd,c3⟩
theorem KV.get{kvs:List (Key×V)}{vs:List (Key×Value)}(r:KV kvs vs){i:Nat}{k:Key}{v:V}(h:kvs[i]?=some (k,v)):∃ u,vs[i]?=some (k,u)/\QB v u:=by
 induction r generalizing i with
 | nil=>simp at h
 | cons a b ih =>
  cases i with
  | zero =>
   simp only[getElem?_cons_zero,Option.some.injEq]at h ⊢
   subst h;rename_i q _ _;obtain⟨k',u⟩:=q;exact⟨u,by rw[show k=k' from a.1],a.2⟩
  | succ j =>
   simp only[getElem?_cons_succ]at h ⊢
   exact ih h
theorem KV.len{kvs:List (Key×V)}{vs:List (Key×Value)}(r:KV kvs vs):kvs.length=vs.length:=Paired.length r
theorem Xvb{P:Program}{w:World}{K:W.Frag}{tg:Expr}(it d:Addr)(ob:Obj)(kvs:List (Key×V))(es:Array DictEntry)(ep:Nat)(hdt:ob.data=.dict es ep):QWb P w K tg (Itd d ob kvs) [it] it (fun i h=>h.IsKeyIter it d i kvs.length ep) where
 mem:=by simp
 obj:=fun i h st b hb=>by
  have e:b=it:=by simpa using hb
  subst e;obtain⟨o,e,c,dd⟩:=st;exact⟨o,e,fun v z=>by rw[dd]at z;cases z⟩
 keep:=fun i h h' st k=>let ⟨o,ho,r⟩:=st;⟨o,k it (by simp) o ho,r⟩
 item:=by
  intro X hP hw hK hc i pins s σ H E I hf st hg;subst hP hw hK;obtain⟨hz,hi⟩:=hg;obtain⟨_,vs,rv,da⟩:=QSc I.hok hz hdt;have hl:=rv.len;obtain⟨k,v,hkv⟩:∃ k v,kvs[i]?=some (k,v):=⟨kvs[i].1,kvs[i].2,Vb hi⟩
  obtain⟨u,hu,_⟩:=rv.get hkv;obtain⟨f0,f1,f2,f3,f4,f5⟩:=hf it (by simp)
  rw[hl]at st;refine wpAny_pyNext_dict_item st da hu fun key h' hk st' sb=>?_
  have I1:Inv X pins σ H { s with heap:=h' }:=I.turned (t':=s.toks) (fun b o hb e=>(sb.2 b hb).trans e) f0 f1 f3 f4 f5
  obtain⟨o,e,c,dd⟩:=id st';exact⟨key,rfl,Xda (s:={ s with heap:=h' }) e c dd (by decide) ⟨kV k,H,I1,QRc hk,⟨rfl,k,v,hkv,rfl⟩,by rw[hl];exact st',fun b hb=>(hf b hb).1⟩⟩
 done:=by
  intro X hP hw hK hc i pins s σ H E I hf st hg;subst hP hw hK;obtain⟨hz,hi⟩:=hg;obtain⟨_,vs,rv,da⟩:=QSc I.hok hz hdt;have hl:=rv.len;obtain⟨f0,f1,f2,f3,f4,f5⟩:=hf it (by simp)
  rw[hl]at st;exact wpAny_pyNext_dict_end (I.ok.hd hc) st da (getElem?_eq_none (by omega)) fun h' eb=>⟨rfl,I.turned (t':=s.toks) (fun b o hb e=>eb b o hb e) f0 f1 f3 f4 f5⟩
 self:=fun _ _ _ _ _ st h=>wpAny_pyIter_keyiter st h
def QTc(X:Cx)(tl:TE):TI:=fun σ H R=>tl σ H fun x H1=>∃ d kvs,x=.ref d/\H1 d=some (.dK kvs)/\∀ ob,NF X d->R (Itd d ob kvs) (upd H1 d (.frz ob (.dK kvs)))
section
variable{X:Cx}
theorem X5a{tg l:Expr}{tl:TE}(hl:PE X l tl):PI X tg l (QTc X tl):=by
 intro pins s σ H R I h;refine thn (hl pins s σ H _ I h) fun v s1 hZ=>?_
 obtain⟨x,H1,I1,r1,q1⟩:=hZ;obtain⟨d,kvs,e,hd,q⟩:=q1;subst e;obtain rfl:v=Value.ref d:=r1;obtain⟨ob,hob,I2⟩:=I1.freeze hd;obtain⟨z,y,vs,rv,o,es,ep,e0,c1,c2,c3⟩:=(show QL X.prog X.w H1 s1.heap d (.dK kvs) from I1.hok d _ hd)
 rw[hob]at e0;cases e0;have da:s1.heap.DictAt (QM X.prog X.w) d vs ep:=⟨ob,es,hob,c1,c2,c3⟩;refine wpAny_pyIter_dict y da ?_
 have nf:=I1.nf hd;refine⟨s1.heap.objs.size,[s1.heap.objs.size],_,_,upd H1 d (.frz ob (.dK kvs)),rfl,I2.kept (t':=s1.toks) fun b o e=>Vd _ e,Xvb _ d ob kvs es ep c2,⟨_,Vi _ rfl,rfl,?_⟩,fun b hb=>?_,q ob nf⟩
 ·rw[rv.len];rfl
 ·have e:b=s1.heap.objs.size:=by simpa using hb
  subst e;exact I2.fpOk (Ve _) (I2.hok.fresh (Ve _))
def ZH.thawed(X:Cx)(D:ZH):ZH:={ D with nx:=fun σ H=>∃ d ob kvs,NF X d/\H d=some (.frz ob (.dK kvs))/\D.nx σ (upd H d (.dK kvs)),rt:=fun v H=>∃ d ob kvs,NF X d/\H d=some (.frz ob (.dK kvs))/\D.rt v (upd H d (.dK kvs)) }
def Yic(X:Cx)(t:TS):TS:=fun D σ H=>t (D.thawed X) σ H
def Yjc(X:Cx)(te:TE):TE:=fun σ H Q=>te σ H fun v H1=>∃ d ob kvs,NF X d/\H1 d=some (.frz ob (.dK kvs))/\Q v (upd H1 d (.dK kvs))
theorem Joc{st:Stmt}{t:TS}(h:PS X st t):PS X st (Yic X t):=fun pins s σ H D I q=>wpAny_mono (h pins s σ H (D.thawed X) I q) (fun f s1 z=>by
 cases f with
 | next=>obtain⟨σ',H',I',d,ob,kvs,nf,e,q'⟩:=z;exact⟨σ',_,I'.thaw nf e,q'⟩
 | ret u=>obtain⟨v,σ',H',I',r,d,ob,kvs,nf,e,q'⟩:=z;exact⟨v,σ',_,I'.thaw nf e,r,q'⟩
 | brk=>exact z
 | cont=>exact z) fun _ _ z=>z
theorem YHb{e:Expr}{te:TE}(h:PE X e te):PE X e (Yjc X te):=fun pins s σ H Q I q=>wpAny_mono (h pins s σ H _ I q) (fun u s1 ⟨v,H',I',r,d,ob,kvs,nf,e,q'⟩=>⟨v,_,I'.thaw nf e,r,q'⟩) fun _ _ z=>z
theorem Xwb{tl:TE}{g:TG}{tb:TS}{D:ZH}{σ:St}{H:Hp}:XOa (QTc X tl) g tb D σ H=tl σ H fun x H1=>∃ d kvs,x=.ref d/\H1 d=some (.dK kvs)/\∀ ob,NF X d->FoR (Itd d ob kvs) g tb D σ (upd H1 d (.frz ob (.dK kvs))):=rfl
theorem QUc{tl:TE}{tt:TT}{te:TE}{σ:St}{H:Hp}{Q:VK}:tLc (QTc X tl) tt te σ H Q=tl σ H fun x H1=>∃ d kvs,x=.ref d/\H1 d=some (.dK kvs)/\∀ ob,NF X d->LcR (Itd d ob kvs) tt te σ Q (upd H1 d (.frz ob (.dK kvs))):=rfl
end
theorem Yca{d:Addr}{ob:Obj}{kvs:List (Key×V)}{tt:TT}{σ:St}{H1:Hp}{Q:VK}(p:V->Bool)(hz:kvs.length<=sizeLine)(hd:H1 d=some (.frz ob (.dK kvs)))
 (he:∀ k v H2 (R:Bool->Hp->Prop),(k,v)∈kvs->Qp H1 H2->(∀ H3,Qp H2 H3->R (p (kV k)) H3)->tt (some (kV k)::σ) H2 R)
 (hq:∀ D H2,H1 D=none->Qp H1 H2->H2 D=some (.lst ((kvs.map fun q=>kV q.1).filter p))->Q (.ref D) H2):LcR (Itd d ob kvs) tt (Xa 0) σ Q H1 :=
 JAb (kvs.map fun q=>kV q.1) p (by rw[Vr];exact hz) (fun i H2 hi s=>⟨⟨s _ _ hd,by rwa [Vr]at hi⟩,fun x H' ⟨e,k,v,hkv,ex⟩=>⟨e,by rw[getElem?_map,hkv,ex];rfl⟩⟩)
  (fun H2 s=>⟨s _ _ hd,by rw[Vr];exact Ve _⟩) (fun i x H2 R hx s r=>by
   rw[getElem?_map]at hx
   cases e:kvs[i]? with
   | none=>rw[e]at hx;cases hx
   | some q =>
    rw[e]at hx;cases hx;exact he q.1 q.2 H2 R (Vm e) s r) hq
theorem Zq.u1{k:Nat}{A:Around}(r:Zq k A):A.units+1 < cLine:=by have:=r.units;omega
def SqE(b:Bool)(K:W.Frag)(H:Hp)(a:Addr)(xs:List V):Prop:=if b=true then SqT K H a xs else SqL K H a xs
def ItE(b:Bool)(K:W.Frag)(a:Addr):It:=if b=true then Itt K a else Itl K a
theorem SqE.same{b:Bool}{K:W.Frag}{H H':Hp}{a:Addr}{xs:List V}(h:SqE b K H a xs)(s:Qp H H'):SqE b K H' a xs:=by
 cases b with
 | true=>exact Qp.seqT s h
 | false=>exact Qp.seq s h
def X7c(K:W.Frag)(tl:TE):TI:=fun σ H R=>tl σ H fun x H1=>∃ a b,x=.ref a/\(∃ xs,SqE b K H1 a xs)/\R (ItE b K a) H1
section
variable{X:Cx}{tg:Expr}
theorem Xdc{l:Expr}{tl:TE}(hl:PE X l tl):PI X tg l (X7c X.K tl):=by
 intro pins s σ H R I h;refine thn (hl pins s σ H _ I h) fun v s1 hZ=>?_
 obtain⟨x,H1,I1,r1,q1⟩:=hZ;obtain⟨a,b,e,⟨xs,hq⟩,q⟩:=q1;subst e;cases r1;cases b with
 | false =>
  obtain⟨its,rv,p,hz⟩:=I1.list hq;refine wpAny_pyIter_list p.isList ?_
  refine⟨s1.heap.objs.size,[s1.heap.objs.size],_,_,H1,rfl,I1.kept (t':=s1.toks) fun b o e=>Vd _ e,Xea a _,⟨_,Vi _ rfl,rfl,rfl⟩,fun b hb=>?_,q⟩
  have e:b=s1.heap.objs.size:=by simpa using hb
  subst e;exact I1.fpOk (Ve _) (I1.hok.fresh (Ve _))
 | true =>
  obtain⟨its,rv,p,hz⟩:=I1.tuple hq;refine wpAny_pyIter_tuple (show s1.heap.IsTuple a its.toArray from p) ?_
  refine⟨s1.heap.objs.size,[s1.heap.objs.size],_,_,H1,rfl,I1.kept (t':=s1.toks) fun b o e=>Vd _ e,JQa a _,⟨_,Vi _ rfl,rfl,rfl⟩,fun b hb=>?_,q⟩
  have e:b=s1.heap.objs.size:=by simpa using hb
  subst e;exact I1.fpOk (Ve _) (I1.hok.fresh (Ve _))
end
theorem QVc{K:W.Frag}{tl:TE}{g:TG}{tb:TS}{D:ZH}{σ:St}{H:Hp}:XOa (X7c K tl) g tb D σ H=tl σ H fun x H1=>∃ a b,x=.ref a/\(∃ xs,SqE b K H1 a xs)/\FoR (ItE b K a) g tb D σ H1:=rfl
theorem Jpc{b:Bool}{K:W.Frag}{a:Addr}(xs:List V){g:TG}{tb:TS}{D:ZH}{σ:St}{H:Hp}(Pv:Nat->St->Hp->Prop)(h0:Pv 0 σ H)(hl:∀ i σ H,i<=xs.length->Pv i σ H->SqE b K H a xs)
 (hs:∀ i x σ H,xs[i]?=some x->Pv i σ H->g x σ H fun σ2 H2=>tb { D with nx:=Pv (i+1),ct:=Pv (i+1),bk:=D.nx } σ2 H2) (hd:∀ σ H,Pv xs.length σ H->D.nx σ H):FoR (ItE b K a) g tb D σ H:=by
 cases b with
 | true=>exact Ysb xs Pv h0 hl hs hd
 | false=>exact Zua xs Pv h0 hl hs hd
end L2
end
section
namespace PySem.W
open PySem
def Ya(K:Frag)(C:Addr)(fl:List Str):Bool:=plainGet K C Str.empty && (hasDictIn K C && (plainOver K C && (findIn K (.ref C) "__setattr__" == some (some (.builtin "object.__setattr__")) && (findIn K (.ref C) "__class__" == some (some (.builtin "object.__class__")) && (mroIn K C (.type "object") == some true && fl.all fun f=>findIn K (.ref C) f == some none)))))
theorem Znb{K:Frag}{C:Addr}{fl:List Str}(h:Ya K C fl=true):L2.Cls K C/\findIn K (.ref C) "__class__"=some (some (.builtin "object.__class__"))/\mroIn K C (.type "object")=some true/\∀ f∈fl,L2.Jh K C f:=by
 unfold Ya at h;simp only[Bool.and_eq_true,beq_iff_eq,all_eq_true]at h;obtain⟨a,b,c,d,e,f,g⟩:=h;exact⟨⟨a,b,c,d⟩,e,f,g⟩
def QWc(K:Frag)(l:List Addr)(m:Nat->Nat->Bool):Bool:=(List.range l.length).all fun i=>(List.range l.length).all fun j=>kitOne K (.ref (l.getD i 0)) (.ref (l.getD j 0)) == some (m i j)
theorem Xec{K:Frag}{l:List Addr}{m:Nat->Nat->Bool}(h:QWc K l m=true):∀ i j,i < l.length->j < l.length->kitOne K (.ref (l.getD i 0)) (.ref (l.getD j 0))=some (m i j):=by
 unfold QWc at h;simp only[all_eq_true,mem_range,beq_iff_eq]at h;exact fun i j hi hj=>h i hi j hj
end PySem.W
namespace L2
open PySem PySem.Spec PyProof.Rows
structure ObC(K:W.Frag)(C:Addr)(fl:List Str):Prop where
 cl:Cls K C
 cc:W.findIn K (.ref C) "__class__"=some (some (.builtin "object.__class__"))
 mo:W.mroIn K C (.type "object")=some true
 no:∀ f∈fl,Jh K C f
 cg:W.specialIn K (.builtin "object.__class__") "__get__"=some (some (.builtin "getset_descriptor.__get__"))
 ct:W.takesIn K (.builtin "object.__class__")=some true
theorem ObC.of{K:W.Frag}{C:Addr}{fl:List Str}(h:W.Ya K C fl=true)(cg:W.specialIn K (.builtin "object.__class__") "__get__"=some (some (.builtin "getset_descriptor.__get__")))(ct:W.takesIn K (.builtin "object.__class__")=some true):ObC K C fl :=
 let ⟨a,b,c,d⟩:=W.Znb h;⟨a,b,c,d,cg,ct⟩
def Yda(P:Program)(w:World)(K:W.Frag)(mg:Str->Option Value)(base:Heap)(k:Nat)(m:Str)(ta:TE)(t:TA):TE1:=fun σ H Q E=>ta σ H fun x H1=>∃ a C dx fs sp,x=.ref a/\H1 a=some (.ins C dx fs)/\fs.lookup m=none/\Cls K C/\MeV P w K mg base k C m sp/\t σ H1 fun vs H2=>sp (x::vs) H2 Q E
section
variable{X:Cx}{m:Str}{k:Nat}{ta:TE}{t:TA}{e o:Expr}{es:List Expr}{pos apos:Pos}{pl:Sem Bool}
theorem Zi(he:PE X.nox o ta)(hr:Zq k X.A)(hex:X.ex=[])(ha:PA X.nox (e::es) t)
 (hst:starEach (e::es) X.env=(false,eval e X.env)::starEach es X.env:=by rfl) (hpl:(backTo pos (starEach es X.env)).any (·.1)=false:=by rfl)
 (ht:eval (.Call (.Attribute o m apos) (e::es) [] pos) X.env=(do
  let ov <- eval o X.env
  standAt apos.atName
  let (f,first) <- holding [ov] (getMethod ov m pl)
  callWith pos f first (backTo pos (starEach (e::es) X.env)) (backToKw pos (keywordEach [] X.env))):=by rfl) :
 PE1 X (.Call (.Attribute o m apos) (e::es) [] pos) (Yda X.prog X.w X.K X.mg X.base k m ta t):=by
 intro pins s σ H Q E I h;refine W.methodCall_KW (pl:=pl) (thn (YFb he I h) fun u s1 hZ=>?_) ht
 obtain⟨y,H1,I1,rx,a,C,dx,fs,sp,ex,ea,l,c,G,q⟩:=hZ;obtain⟨f,fd,ps,hm,F,hb⟩:=G;subst ex;obtain rfl:u=Value.ref a:=rx;refine QYa I1 ea c hm l ?_
 refine W.callWith_K (first:=[.ref a]) (h₀:=X.base) I.ok.mod.kin hm.kp (thn (QGc ha I1 q) fun us s2 ⟨vs,H2,I2,r,q2⟩=>⟨I2.kIn,?_⟩) hst hpl
 exact JFa (us:=.ref a::us) (vs:=.ref a::vs) F hr hb hex I2 (.cons rfl r) q2
theorem Yea(he:PE X.nox o ta)(hr:Zq k X.A)(hex:X.ex=[])
 (ht:eval (.Call (.Attribute o m apos) [] [] pos) X.env=(do
  let ov <- eval o X.env
  standAt apos.atName
  let (f,first) <- holding [ov] (getMethod ov m pl)
  callWith pos f first (backTo pos (starEach [] X.env)) (backToKw pos (keywordEach [] X.env))):=by rfl) :
 PE1 X (.Call (.Attribute o m apos) [] [] pos) (Yda X.prog X.w X.K X.mg X.base k m ta YIa):=by
 intro pins s σ H Q E I h;refine W.methodCall_KW (pl:=pl) (thn (YFb he I h) fun u s1 hZ=>?_) ht
 obtain⟨y,H1,I1,rx,a,C,dx,fs,sp,ex,ea,l,c,G,q⟩:=hZ;obtain⟨f,fd,ps,hm,F,hb⟩:=G;subst ex;obtain rfl:u=Value.ref a:=rx;refine QYa I1 ea c hm l ?_
 exact W.callWith_K0 (first:=[.ref a]) I1.kIn hm.kp (JFa (us:=[.ref a]) (vs:=[.ref a]) F hr hb hex I1 (.cons rfl .nil) q)
theorem Xfc{j:Nat}{x:Str}{C:Addr}{sp:Sp}{p:Pos}(G:MkV X.prog X.w X.K X.mg X.base j x C sp)(hr:Zq k X.A)(hj:j+1<=k)(hg:Gl X x)(hdb:(x == ("__debug__":Str))=false:=by decide):PE X (.Call (.Name x p) [] [] pos) (Ykb C sp [] E0 YIa):=by
 obtain⟨f,fd,ps,M,F,b,hm⟩:=G;exact X6b M F (hr.mono hj) hg hm b .nil Yob hdb
end
theorem Z8{x y:V}:[x,y].length<=sizeLine:=show 2<=sizeLine by decide
theorem Xgc{J:It}{tt:TT}{te:TE}{σ:St}{H1:Hp}{Q:VK}(xs:List V)(p:V->Bool)(f:V->V)(hz:xs.length<=sizeLine)
 (hgo:∀ i H2,i < xs.length->Qp H1 H2->J.go i H2/\∀ x H',J.yld i H2 x H'->H'=H2/\xs[i]?=some x) (hst:∀ H2,Qp H1 H2->J.stop xs.length H2)
 (ht:∀ (i:Nat) x H2 (R:Bool->Hp->Prop),xs[i]?=some x->Qp H1 H2->R (p x) H2->tt (some x::σ) H2 R)
 (he:∀ (i:Nat) x H2 (R:VK),xs[i]?=some x->p x=true->Qp H1 H2->R (f x) H2->te (some x::σ) H2 R)
 (hq:∀ D H2,H1 D=none->Qp H1 H2->H2 D=some (.lst ((xs.filter p).map f))->Q (.ref D) H2):LcR J tt te σ Q H1:=by
 intro D hD;refine⟨fun i m ys H2=>m=xs.length - i/\i<=xs.length/\ys=((xs.take i).filter p).map f/\H2 D=some (.lst ys)/\Qp H1 H2,⟨_,rfl,Vk _,by simp,Qd,Qh hD _⟩,?_⟩
 rintro i m ys H2 ⟨rfl,hi,hy,hd,sm⟩;refine⟨hd,?_⟩
 by_cases hlt:i < xs.length
 ·obtain⟨go,yl⟩:=hgo i H2 hlt sm
  have hl:ys.length<=i:=by
   rw[hy,Vr];exact Vj (length_filter_le _ _) (by rw[length_take];omega)
  refine .inr ⟨go,by omega,fun x H' y=>?_⟩
  obtain⟨e,hx⟩:=yl x H' y;subst e;have hn:((xs.take (i+1)).filter p).map f=if p x=true then ys++[f x] else ys:=by
   rw[take_succ,hx,filter_append,map_append,<- hy];cases hp:p x <;> simp[hp]
  refine ht i x _ _ hx sm ?_
  cases hp:p x with
  | true =>
   rw[if_pos rfl];refine he i x _ _ hx hp sm ⟨hd,xs.length - (i+1),by omega,rfl,hlt,?_,Qd,sm.updL hD _⟩
   rw[hn,hp,if_pos rfl]
  | false =>
   rw[if_neg Vf];refine⟨xs.length - (i+1),by omega,rfl,hlt,?_,hd,sm⟩
   rw[hn,hp,if_neg Vf]
 ·have e:i=xs.length:=by omega
  subst e;rw[take_length]at hy;exact .inl ⟨hst H2 sm,hq D H2 hD sm (by rw[hd,hy])⟩
theorem YIb{K:W.Frag}{a:Addr}{tt:TT}{te:TE}{σ:St}{H1:Hp}{Q:VK}(xs:List V)(p:V->Bool)(f:V->V)(hx:SqT K H1 a xs)(hz:xs.length<=sizeLine)
 (ht:∀ (i:Nat) x H2 (R:Bool->Hp->Prop),xs[i]?=some x->Qp H1 H2->R (p x) H2->tt (some x::σ) H2 R)
 (he:∀ (i:Nat) x H2 (R:VK),xs[i]?=some x->p x=true->Qp H1 H2->R (f x) H2->te (some x::σ) H2 R)
 (hq:∀ D H2,H1 D=none->Qp H1 H2->H2 D=some (.lst ((xs.filter p).map f))->Q (.ref D) H2):LcR (Itt K a) tt te σ Q H1 :=
 Xgc xs p f hz (fun i H2 hi s=>⟨⟨xs,xs[i],s.seqT hx,by simp[hi]⟩,fun x H' y=>⟨y.1,y.2 xs (s.seqT hx)⟩⟩) (fun H2 s=>⟨xs,s.seqT hx,Ve _⟩) ht he hq
def QXc(H:Hp):V->V
 | .ref a=>match H a with | some (.tup [_,w])=>w | _=>.non
 | _=>.non
theorem Zob{H:Hp}{a:Addr}{k w:V}(h:H a=some (.tup [k,w])):QXc H (.ref a)=w:=by
 show(match H a with | some (.tup [_,w])=>w | _=>.non)=w
 rw[h]
theorem Zu{K:W.Frag}{C a dx:Addr}{fl:List Str}{f:Str}{fs:List (Str×V)}{v:V}{i:Nat}{σ:St}{H:Hp}{Q:VK}(c:ObC K C fl)(hf:f∈fl)(hs:σ[i]?=some (some (.ref a)))(ha:H a=some (.ins C dx fs))(hv:fs.lookup f=some v)(q:Q v H):ZZc K (Xa i) f σ H Q :=
 Zia hs ⟨a,C,dx,fs,v,rfl,ha,c.cl,c.no f hf,hv,q⟩
theorem X6a{K:W.Frag}{C a dx:Addr}{fl:List Str}{f:Str}{fs:List (Str×V)}{i:Nat}{σ:St}{H H1:Hp}{tv:TE}{D:ZH}{y:V}(c:ObC K C fl)(hf:f∈fl)(hs:σ[i]?=some (some (.ref a)))(hv:∀ Q:VK,Q y H1->tv σ H Q)(ha:H1 a=some (.ins C dx fs))(l:fs.length < 1000)(q:D.nx σ (upd H1 a (.ins C dx (ZV f y fs)))):XIc K (Xa i) tv f D σ H :=
 hv _ (Zia hs ⟨a,C,dx,fs,rfl,ha,c.cl,c.no f hf,l,q⟩)
theorem Zpb{H:Hp}{a b:Addr}{x y:HO}(h:a≠b):upd (upd H a x) b y=upd (upd H b y) a x:=by
 funext c
 by_cases h1:c=b
 ·subst h1;rw[Qd,Qi (Ne.symm h),Qd]
 ·by_cases h2:c=a
  ·subst h2;rw[Qd,Qi h1,Qd]
  ·rw[Qi h1,Qi h2,Qi h2,Qi h1]
def HE(b:Bool)(H:Hp)(e:Addr)(xs:List V):Prop:=H e=some (if b=true then .tup xs else .lst xs)
theorem HE.upd_ins{b:Bool}{H:Hp}{a e C dx:Addr}{o:HO}{fs:List (Str×V)}{xs:List V}(h:HE b H e xs)(ha:H a=some (.ins C dx fs)):HE b (upd H a o) e xs:=by
 have ne:e≠a:=fun z=>by
  unfold HE at h;rw[z,ha]at h;cases b <;> cases h
 unfold HE;rw[Qi ne];exact h
theorem HE.same{b:Bool}{H H':Hp}{e:Addr}{xs:List V}(h:HE b H e xs)(s:Qp H H'):HE b H' e xs:=s _ _ h
section
variable{P:Program}{w:World}{K:W.Frag}{mg:Str->Option Value}{base:Heap}{k i:Nat}{C D a dx:Addr}{m:Str}{sp:Sp}{fs:List (Str×V)}{fl:List Str}{σ:St}{H:Hp}{Q:VK}{E:XK}{t:TA}{b:Bool}
theorem Xza(hs:σ[i]?=some (some (.ref a)))(ha:H a=some (.ins C dx fs))(l:fs.lookup m=none)(c:Cls K C)(M:MeV P w K mg base k C m sp)(q:sp [.ref a] H Q E):Yda P w K mg base k m (Xa i) YIa σ H Q E:=Zia hs ⟨a,C,dx,fs,sp,rfl,ha,l,c,M,q⟩
theorem X4(hs:σ[i]?=some (some (.ref a)))(ha:H a=some (.ins C dx fs))(l:fs.lookup m=none)(c:Cls K C)(M:MeV P w K mg base k C m sp)(q:t σ H fun vs H2=>sp (.ref a::vs) H2 Q E):Yda P w K mg base k m (Xa i) t σ H Q E:=Zia hs ⟨a,C,dx,fs,sp,rfl,ha,l,c,M,q⟩
theorem Jqc{n:Nat}{d:Dt}{x y:V}{neg:Bool}(hn:n<=60)(rx:Rep K H n d x)(ry:Rep K H n d y)(q:Q (.bl (!neg)) H):rD K neg x y H Q:=⟨n,d,d,hn,rx,ry,by
 rw[Rep.self rx];cases neg <;> exact q⟩
end
theorem JGa{H H':Hp}{x dx:Addr}{o u:HO}(hx:H x=none)(hdx:H dx=none)(s:Qp (upd (upd H dx u) x o) H'):Qp H H':=fun b v hb=>s _ _ (by rw[Qi (Qy hb hx),Qi (Qy hb hdx)];exact hb)
theorem Xxb{H H':Hp}{d:Addr}{o:HO}(s:Qp H H')(n:H d=none):Qp H (upd H' d o):=fun b u hb=>by
 rw[Qi (Qy hb n)];exact s b u hb
section
variable{X:Cx}{tg:Expr}
end
end L2
end
section
namespace L2
open PySem PySem.Spec PyProof.Rows PySem.W
section
variable{X:Cx}{pins:YP_}{σ:St}{H:Hp}{s:Shared}{A:Around}{E:YQ_}
end
section
variable{prog:Program}{w:World}{A:Around}{E:YQ_}{s:Shared}{T:String}{r d:Addr}{n:Nat}{P:Nat->Value->Prop}{OK:Heap->Prop}
end
theorem YJb:∀ {xs:List V} {us:List Value},xs.length=us.length->(∀ (i:Nat) x u,xs[i]?=some x->us[i]?=some u->QB x u)->QE xs us
 | [],[],_,_=>.nil
 | x::xs,u::us,l,h=>.cons (h 0 x u rfl rfl) (YJb (by simpa using l) fun i x u a b=>h (i+1) x u (by simpa using a) (by simpa using b))
 | [],u::us,l,_=>by simp at l
 | x::xs,[],l,_=>by simp at l
theorem Xyb{kvs:List (Key×V)}{vs:List (Key×Value)}{acc:Array Value}{prog:Program}{w:World}(rv:KV kvs vs)(h:ItemsOf (fun i v=>∃ k x,vs[i]?=some (k,x)/\(QM prog w).is k v=true) acc vs.length):QE (kvs.map fun p=>kV p.1) acc.toList:=by
 refine YJb (by have e1:=h.1;have e2:=rv.len;have e3:acc.toList.length=acc.size:=Array.length_toList;rw[Vr];omega) fun i x u hx hu=>?_
 rw[getElem?_map]at hx
 obtain⟨⟨k,v⟩,hkv,rfl⟩:=Option.map_eq_some_iff.mp hx;obtain⟨u',hu',_⟩:=rv.get hkv;obtain⟨k',x',e,hk⟩:=h.2 i u (by rw[<- Array.getElem?_toList];exact hu)
 rw[hu']at e;cases e;exact QRc hk
section
variable{prog:Program}{w:World}{A:Around}{E:YQ_}{s:Shared}
end
section
variable{prog:Program}{w:World}{K:Type}[DecidableEq K]{knd:KeyKind prog w K}{A:Around}{E:YQ_}{s:Shared}
end
theorem Jrc{k:Key}{u:Value}(h:QB (kV k) u):QGa k u=true/\u.scannable=true:=by
 cases k with
 | inl n=>obtain⟨t,rfl⟩:=h;exact⟨by simp[QGa,Value.isInt],rfl⟩
 | inr z=>obtain⟨t,rfl⟩:=h;exact⟨by simp[QGa,Value.isStrOf],rfl⟩
section
variable{X:Cx}{e:Expr}{te:TE}{p pos p2 pos2:Pos}{pins:YP_}{σ:St}{H:Hp}{s:Shared}
end
section
variable{X:Cx}
end
section
variable{X:Cx}{c:Expr}{a b:Stmt}{tc:TT}{ta tb:TS1}{pos:Pos}
end
end L2
end
section
namespace L2
open PySem PySem.Spec PyProof.Rows
section
variable{X:Cx}{st b₀:Stmt}{suite:List Stmt}{t1:TS1}{ts:TS}{x n:Str}{D₀ CT:Addr}{np hpos pos:Pos}{i:Nat}
theorem Jsc(h1:PS1 X st t1)(hex:X.ex=[])(hst:X.stack=X.env::X.outer)(hfr:X.env.frame=some X.env.locals)(hg:Gl X x)(hm:X.mg x=some (.ref D₀))(xc:W.XCl X.K D₀ CT)
 (hN:X.N.Nodup) (hi:X.N[i]?=some n) (hk:X.env.scope.names.lookup n=some .local) (hs:∀ ea,X.Ok->PSs (X.held ea []).nox (b₀::suite) ts) (hdb:(x == ("__debug__":Str))=false:=by decide) :
 PS X (.Try [st] [.ExceptHandler (some (.Name x np)) (some n) (b₀::suite) hpos] [] [] pos)
  (fun D σ H=>t1 D σ H fun cls dx H'=>cls=.ref D₀/\∀ ea,H' ea=none->ts (D.gone i) (σ.set i (some (.ref ea))) (upd H' ea (xC ea D₀ dx))):=by
 intro pins s σ H D I h;refine wpAny_Try_except (wpAny_execs_cons (wpAny_mono (h1 pins s σ H D _ I h) (fun f s1 q=>?_) fun ev s1 q=>?_))
 ·cases f with
  | next=>exact wpAny_execs_nil (wpAny_execs_nil q)
  | ret v=>exact q
  | brk=>exact q
  | cont=>exact q
 obtain⟨ea,cls,dx,ch,H',old,rfl,I1,y,o,hsz,n1,n2,rfl,hts⟩:=q;have frm:X.A.frames=some (X.env::X.outer):=by rw[<- hst];exact I1.ok.frames
 have stk:s1.heap.FunFrames X.base (X.env::X.outer):=by rw[<- hst];exact I1.stack
 obtain⟨nm',q',N',bs',sn',sub',ab',col',dd',j0,j1,j2,j3,j5,lk',ok'⟩:=xc.cl;refine YEb (base:=X.base) frm stk hfr (fun b hb=>⟨hsz b hb,I1.hok.fresh hb⟩) y (.inr rfl) fun h2 st2 y2=>?_
 refine X4a (s:={ s1 with heap:=h2 }) (fs:=frs (X.env::X.outer)) (fun b hb=>((st2.funs stk).mem hb).2) y2 fun h3 st3 y3=>?_
 have st:=st2.trans st3;rw[<- hst]at st;have I3:Inv X pins σ H' { s1 with heap:=h3 }:=I1.stayed hex o n1 n2 st
 refine wpAny_handleBy_cons (codeAny_handlers_test (JP (X:=X.held ea []) (I3.held (ea:=ea) (ps:=[]) fun p hp=>by cases hp) hg hm ?_ hdb)) (by intro z;cases z)
 obtain⟨oe,vs,he,hc,hdx,hd,_,hh⟩:=id y3;refine YNa (I3.kIn _ _ lk') (I3.kIn _ _ lk') he hc (by rw[contains_cons];exact Bool.or_eq_true _ _ |>.mpr (.inr (by decide))) (by simp) (codeAny_handlers_suite_as ?_)
 refine X4a (s:={ s1 with heap:=h3 }) (fs:=frs X.stack) (fun b hb=>(I3.stack.mem hb).2) y3 fun h4 st4 y4=>?_
 have I4:Inv X pins σ H' { s1 with heap:=h4 }:=I3.stayed hex o n1 n2 st4
 obtain⟨oe4,vs4,he4,hc4,hdx4,hd4,_,_⟩:=y4;have nfr:∀ b u va,h4.get? b=some u->u.data=.fields va->b≠X.env.locals:=fun b u va q d=>by
  have st4:h4.FunFrames X.base (X.env::X.outer):=by rw[<- hst];exact I4.stack
  have hno:b∉frs (X.env::X.outer):=fun hm=>by
   obtain⟨_,o2,q2,hn2⟩:=st4.mem hm;rw[q]at q2;cases q2;exact hn2 va d
  rw[Zkb hfr]at hno;exact fun z=>hno (by rw[z];exact mem_cons_self)
 have hok4:=I4.hok;have I5:Inv X pins σ (upd H' ea (xC ea D₀ dx)) { s1 with heap:=h4 }:=I4.track n2 (o.ent _ n1) (nfr _ _ _ he4 hd4) (fun x c q z=>by
  obtain⟨v,oc,ho,hcd⟩:=I4.cell x c q;rw[z]at ho;have ho:h4.get? ea=some oc:=ho;rw[he4]at ho;cases ho;rw[hd4]at hcd;cases hcd) (fun p hp z=>o.pin p hp (by rw[z];exact n1)) (X3c he4 hc4 hdx4 hd4)
 have J5:Inv (X.held ea []).nox pins σ (upd H' ea (xC ea D₀ dx)) { s1 with heap:=h4 }:=(I5.held (ea:=ea) (ps:=[]) fun p hp=>by cases hp).wish _
 refine JNa (X:=(X.held ea []).nox) J5 hN hi (.inl hk) (v:=.ref ea) rfl (fun s6 J6=>?_) (.inr hk)
 refine wpAny_mono (hs ea I.ok pins s6 _ _ (D.gone i) J6 (hts ea n2)) (fun f s7 z=>?_) fun _ _ z=>False.elim z
 show wpAny _ _ (do bindName X.env n .none;unbindBehindTheSuite X.env n hpos) _ _ _
 have back:∀ {σ':St} {H'':Hp},Inv (X.held ea []).nox pins σ' H'' s7->Inv X pins σ' H'' s7:=fun J=>(Inv.unwish J).unheld I.ok
 cases f with
 | next=>obtain⟨σ',H5,J,q⟩:=z;exact Qya (back J) hN hi hk fun s8 J8=>⟨_,H5,J8,q⟩
 | brk=>obtain⟨σ',H5,J,q⟩:=z;exact Qya (back J) hN hi hk fun s8 J8=>⟨_,H5,J8,q⟩
 | cont=>obtain⟨σ',H5,J,q⟩:=z;exact Qya (back J) hN hi hk fun s8 J8=>⟨_,H5,J8,q⟩
 | ret u=>obtain⟨v,σ',H5,J,r,q⟩:=z;exact Qya (back J) hN hi hk fun s8 J8=>⟨v,_,H5,J8,r,q⟩
end
section
variable{X:Cx}{ea:Addr}{qs:YP_}
theorem QYc{e:Expr}{f:Str}{pos:Pos}{ta:TE}(CT:Addr)(he:PE (X.held ea qs).nox e ta)(hb:attributeBase e f X.env (eval e X.env)=eval e X.env):PE (X.held ea qs).nox (.Attribute e f pos) (tXF X.K CT ta f):=Jjc CT he hb
end
end L2
end
section
namespace PySem.W
open PySem
def clI(K:Frag)(C f:Addr):Bool:=(match findCls K (.ref C) (.type "type") "__init__" with | some (.val v)=>v == .ref f | _=>false) && (specialIn K (.ref C) "__getattribute__" == some (some (.builtin "type.__getattribute__")) && readsIn K C (.type "type"))
end PySem.W
namespace L2
open PySem PySem.Spec PyProof.Rows
structure ClI(K:W.Frag)(C f:Addr):Prop where
 sp:W.specialIn K (.ref C) "__getattribute__"=some (some (.builtin "type.__getattribute__"))
 rd:W.readsIn K C (.type "type")=true
 ini:W.findCls K (.ref C) (.type "type") "__init__"=some (.val (.ref f))
theorem ClI.of{K:W.Frag}{C f:Addr}(h:W.clI K C f=true):ClI K C f:=by
 unfold W.clI at h;rw[Bool.and_eq_true,Bool.and_eq_true]at h;obtain⟨a,b,c⟩:=h;refine⟨beq_iff_eq.mp b,c,?_⟩
 split at a
 ·rename_i v e
  rw[e,beq_iff_eq.mp a]
 ·exact(Vf a).elim
def BaI(P:Program)(w:World)(K:W.Frag)(mg:Str->Option Value)(base:Heap)(k:Nat)(x:Str)(sp:Sp):Prop :=
 ∃ C f fd ps,mg x=some (.ref C)/\ClI K C f/\W.keepIn K (.ref f)=true/\QF P w K mg base CX0 k f fd ps sp/\Jj K fd ps []
section
variable{X:Cx}{x:Str}{sp:Sp}{e:Expr}{es:List Expr}{t:TA}{p pos apos:Pos}{pl:Sem Bool}{j k:Nat}
theorem XAa(G:BaI X.prog X.w X.K X.mg X.base j x sp)(hr:Zq k X.A)(hj:j<=k)(hg:Gl X x)(ha:PA X (e::es) t)(hdb:(x == ("__debug__":Str))=false:=by decide)
 (he:starEach (e::es) X.env=(false,eval e X.env)::starEach es X.env:=by rfl) (hpl:(backTo pos (starEach es X.env)).any (·.1)=false:=by rfl)
 (ht:eval (.Call (.Attribute (.Name x p) "__init__" apos) (e::es) [] pos) X.env=(do
  let ov <- eval (.Name x p) X.env
  standAt apos.atName
  let (f,first) <- holding [ov] (getMethod ov "__init__" pl)
  callWith pos f first (backTo pos (starEach (e::es) X.env)) (backToKw pos (keywordEach [] X.env))):=by rfl) :
 PE X (.Call (.Attribute (.Name x p) "__init__" apos) (e::es) [] pos) (Yjb sp [] E0 t):=by
 obtain⟨C,f,fd,ps,hm,T,kp,F,b⟩:=G;intro pins s σ H Q I h;refine W.methodCall_KW (pl:=pl) (JP I hg hm ?_ hdb) ht
 refine W.method_cls I.kIn T.sp (W.cls_value I.kIn T.rd T.ini rfl ?_)
 refine W.callWith_K (first:=[]) (h₀:=X.base) I.ok.mod.kin kp (thn (ha pos pins _ σ H _ (I.tok _) h) fun us s1 ⟨vs,H1,I1,r,q⟩=>⟨I1.kIn,?_⟩) he hpl
 rw[nil_append];exact X5b F (hr.mono hj) b .nil Yob I1 r q
end
noncomputable instance:DecidableEq Dt:=fun a b=>Classical.propDecidable (a=b)
def hV:V->Bool
 | .int _=>true
 | .str _=>true
 | .non=>true
 | _=>false
mutual
def hD:Dt->Bool
 | .v x=>hV x
 | .t xs=>hDs xs
 | .l _=>false
def hDs:List Dt->Bool
 | []=>true
 | x::xs=>hD x && hDs xs
end
theorem YKb:∀ {xs:List Dt},hDs xs=true->∀ x∈xs,hD x=true
 | [],_,x,h=>nomatch h
 | y::ys,h,x,hx=>by
  unfold hDs at h;rw[Bool.and_eq_true]at h
  rcases mem_cons.mp hx with e | hx
  ·rw[e];exact h.1
  ·exact YKb h.2 x hx
theorem QZc:∀ {xs:List Dt},(∀ x∈xs,hD x=true)->hDs xs=true
 | [],_=>by unfold hDs;rfl
 | y::ys,h=>by
  unfold hDs;rw[h y mem_cons_self,QZc fun x hx=>h x (Vo _ hx)];rfl
mutual
def haD(w:World):Dt->Int
 | .v (.int i)=>hashInt i
 | .v (.str x)=>hashStr w x
 | .v _=>reduceHash 0xFCA86420
 | .t xs=>reduceHash (Builtin.Tuple.tupleHashOf (X7a w xs))
 | .l _=>0
def X7a(w:World):List Dt->List Int
 | []=>[]
 | x::xs=>haD w x::X7a w xs
end
mutual
def drD:Dt->Nat
 | .v _=>1
 | .t xs=>Q3a xs+1
 | .l _=>0
def Q3a:List Dt->Nat
 | []=>0
 | x::xs=>drD x+Q3a xs
end
theorem Z0a(w:World)(y:Dt):∀ xs,X7a w (xs++[y])=X7a w xs++[haD w y]
 | []=>by simp[X7a]
 | x::xs=>by rw[cons_append];unfold X7a;rw[Z0a w y xs];rfl
theorem Z1a(y:Dt):∀ xs,Q3a (xs++[y])=Q3a xs+drD y
 | []=>by simp[Q3a]
 | x::xs=>by
  rw[cons_append];have h1:Q3a (x::(xs++[y]))=drD x+Q3a (xs++[y]):=by rw[Q3a]
  have h2:Q3a (x::xs)=drD x+Q3a xs:=by rw[Q3a]
  rw[h1,h2,Z1a y xs];omega
def Yb(h:Heap):Nat->Dt->Value->Prop
 | 0,.v x,u=>hV x=true/\QB x u
 | 0,.t _,_=>False
 | 0,.l _,_=>False
 | _+1,.v x,u=>hV x=true/\QB x u
 | n+1,.t ds,u=>∃ (a:Addr) (its:List Value),u=.ref a/\IsTup h a its.toArray/\Paired (fun d v=>Yb h n d v) ds its
 | _+1,.l _,_=>False
theorem Yb.flat{h:Heap}{n:Nat}{x:V}{u:Value}:Yb h n (.v x) u->hV x=true/\QB x u:=by
 cases n <;> exact id
theorem Yb.tup{h:Heap}{n:Nat}{ds:List Dt}{u:Value}(q:Yb h n (.t ds) u):∃ m a its,n=m+1/\u=.ref a/\IsTup h a (List.toArray its)/\Paired (fun d v=>Yb h m d v) ds its:=by
 cases n with
 | zero=>exact q.elim
 | succ m=>obtain⟨a,its,e,p,r⟩:=q;exact⟨m,a,its,rfl,e,p,r⟩
theorem Zqb{x y:V}{u:Value}(hx:hV x=true)(hy:hV y=true)(r:QB x u)(q:QB y u):x=y:=by
 cases x <;> first | exact(Vf hx).elim | skip
 all_goals (cases y <;> first | exact(Vf hy).elim | skip)
 all_goals simp only[QB]at r q
 all_goals first
  | rfl
  | (obtain⟨t,rfl⟩:=r;obtain⟨t',e⟩:=q;cases e;rfl)
  | (obtain⟨t,rfl⟩:=r;obtain⟨t',e⟩:=q;cases e)
  | (obtain⟨t,rfl⟩:=r;cases q)
  | (subst r;obtain⟨t',e⟩:=q;cases e)
theorem Yfa{x:V}{a:Addr}(hx:hV x=true)(r:QB x (.ref a)):False:=by
 cases x <;> first | exact(Vf hx).elim | skip
 ·cases (show Value.ref a=Value.none from r)
 ·obtain⟨t,e⟩:=r;cases e
 ·obtain⟨t,e⟩:=r;cases e
theorem Xzb{h:Heap}{a:Addr}{xs ys:List Value}(p:IsTup h a xs.toArray)(q:IsTup h a ys.toArray):xs=ys:=by
 obtain⟨o,ho,_,n,hd⟩:=p;obtain⟨o',ho',_,n',hd'⟩:=q;rw[ho]at ho';cases ho';rw[hd]at hd';injection hd' with e _
 injection e
theorem Yga{α β:Type}{F G:α->β->Prop}(det:∀ a b u,F a u->G b u->a=b):∀ {xs ys:List α} {us:List β},Paired F xs us->Paired G ys us->xs=ys
 | _,_,_,.nil,.nil=>rfl
 | _,_,_,.cons r t,.cons r' t'=>by rw[det _ _ _ r r',Yga det t t']
theorem Yb.inj{h:Heap}:∀ (n m:Nat) (x y:Dt) (u:Value),Yb h n x u->Yb h m y u->x=y:=by
 intro n
 induction n with
 | zero =>
  intro m x y u p q;cases x with
  | v x =>
   cases y with
   | v y=>obtain⟨a,b⟩:=p;obtain⟨c,d⟩:=q.flat;rw[Zqb a c b d]
   | t ds=>obtain⟨m,a,its,_,rfl,_⟩:=q.tup;exact(Yfa p.1 p.2).elim
   | l _=>cases m <;> exact q.elim
  | t _=>exact p.elim
  | l _=>exact p.elim
 | succ n ih =>
  intro m x y u p q;cases x with
  | v x =>
   cases y with
   | v y=>obtain⟨a,b⟩:=p;obtain⟨c,d⟩:=q.flat;rw[Zqb a c b d]
   | t ds=>obtain⟨m,a,its,_,rfl,_⟩:=q.tup;exact(Yfa p.1 p.2).elim
   | l _=>cases m <;> exact q.elim
  | t ds =>
   obtain⟨a,its,rfl,p1,r⟩:=p;cases y with
   | v y=>obtain⟨c,d⟩:=q.flat;exact(Yfa c d).elim
   | t es =>
    obtain⟨m',a',its',_,e,p2,r2⟩:=q.tup;cases e;have:=Xzb p1 p2;subst this;rw[Yga (fun a b u h1 h2=>ih m' a b u h1 h2) r r2]
   | l _=>cases m <;> exact q.elim
  | l _=>exact p.elim
theorem Yb.keeps{h h':Heap}{e:Addr}{o:Obj}{es ep}(ho:h.get? e=some o)(hd:o.data=.dict es ep)(hs:Heap.SameBut e h h'):∀ (n:Nat) (d:Dt) (u:Value),Yb h n d u->Yb h' n d u:=by
 intro n
 induction n with
 | zero=>intro d u q;cases d <;> exact q
 | succ n ih =>
  intro d u q;cases d with
  | v x=>exact q
  | l x=>exact q
  | t ds =>
   obtain⟨a,its,rfl,⟨o',ho',hc,m,hd'⟩,r⟩:=q;have hne:a≠e:=by
    intro z;subst z;rw[ho]at ho';cases ho';rw[hd]at hd';exact nomatch hd'
   exact⟨a,its,rfl,⟨o',(hs.2 a hne).trans ho',hc,m,hd'⟩,Paired.mapP r fun d v z=>ih d v z⟩
section
variable{prog:Program}{w:World}{E:YQ_}
theorem Q0c{A:Around}{s:Shared}{x:V}{u:Value}{Q:Int->Shared->Prop}(f:hV x=true)(r:QB x u)(h:Q (haD w (.v x)) { s with toks:=s.toks+drD (.v x) }):wpAny (model prog w) A (pyHash u) Q E s:=by
 have e1:drD (.v x)=1:=by rw[drD]
 rw[e1]at h;cases x <;> first | exact(Vf f).elim | skip
 ·cases (show u=Value.none from r)
  rw[haD]at h;exact W.pyHash_slot (T:="NoneType") rfl F.slot_NoneType_hash F.entry_NoneType_hash (F.args_NoneType_hash_1 _) (beq_builtin_none _) (.inl rfl) (Va (Vg (Va (wpAny_mkInt (Vg ⟨_,_,rfl,h⟩)))))
  all_goals (intros;rename_i z;cases z)
 ·obtain⟨t,rfl⟩:=r
  rw[haD]at h;exact wpAny_pyHash_int h
 ·obtain⟨t,rfl⟩:=r
  rw[haD]at h;exact wpAny_pyHash_str h
theorem Xhc:∀ (n:Nat) {A:Around} {s:Shared} {d:Dt} {u:Value} {Q:Int->Shared->Prop},A.units+n < cLine->Yb s.heap n d u->Q (haD w d) { s with toks:=s.toks+drD d }->wpAny (model prog w) A (pyHash u) Q E s:=by
 intro n
 induction n with
 | zero =>
  intro A s d u Q hu x h;cases d with
  | v x'=>exact Q0c x.1 x.2 h
  | t _=>exact x.elim
  | l _=>exact x.elim
 | succ n ih =>
  intro A s d u Q hu x h;cases d with
  | v x'=>exact Q0c x.1 x.2 h
  | l _=>exact x.elim
  | t ds =>
   obtain⟨a,its,rfl,⟨o,ho,hc,m,hd⟩,r⟩:=x;refine W.pyHash_slot (T:="tuple") ⟨o,ho,hc⟩ F.slot_tuple_hash F.entry_tuple_hash (F.args_tuple_hash_1 _) (beq_builtin_none _) (.inr (by omega)) ?_
   show wpAny _ _ (Builtin.Tuple.tupleItemsOf (.ref a) >>= _) _ _ s;refine Va (wpAny_tupleItemsOf ho hd ?_)
   refine Va ?_
   rw[<- Array.forIn_toList];refine wpAny_forIn_list _
    (fun rest (b:Array Int) s'=>∃ done left,ds=done++left/\Paired (fun d v=>Yb s.heap n d v) left rest/\b.toList=X7a w done/\s'={ s with toks:=s.toks+Q3a done })
    _ ?_ ?_ _ _ ⟨[],ds,rfl,by simpa using r,by simp[X7a],by simp[Q3a]⟩
   ·rintro x rest b s' ⟨done,left,rfl,hl,hb,rfl⟩
    cases hl with
    | @cons k _ ks' _ h1 hl' =>
     refine Va (ih (s:={ s with toks:=s.toks+Q3a done }) (by show A.units+1+n < _;omega) h1 ?_)
     first
      | exact Vg ⟨done++[k],ks',by simp,hl',by simp[hb,Z0a],by simp[Z1a,Nat.add_assoc]⟩
      | exact Va (Vg (Vg ⟨done++[k],ks',by simp,hl',by simp[hb,Z0a],by simp[Z1a,Nat.add_assoc]⟩))
   ·rintro b s' ⟨done,left,rfl,hl,hb,rfl⟩
    cases hl;rw[append_nil]at h;show wpAny _ _ (retInt (Builtin.Tuple.tupleHashOf b.toList)) _ _ _;rw[hb];refine Va (wpAny_mkInt (Vg ⟨_,_,rfl,?_⟩))
    have e1:haD w (.t done)=reduceHash (Builtin.Tuple.tupleHashOf (X7a w done)):=by rw[haD]
    have e2:drD (.t done)=Q3a done+1:=by rw[drD]
    rw[e1,e2]at h;exact h
end
theorem Q1c{x y:V}(hx:hV x=true)(hy:hV y=true):eqV x y=decide (Dt.v x=Dt.v y):=by
 have:eqV x y=decide (x=y):=by
  cases x <;> first | exact(Vf hx).elim | skip
  all_goals (cases y <;> first | exact(Vf hy).elim | skip)
  all_goals first | (simp[eqV];done) | (rw[eqV,Bool.eq_iff_iff,beq_iff_eq,decide_eq_true_iff];exact⟨fun e=>by rw[e],fun e=>by injection e⟩)
 rw[this,Bool.eq_iff_iff,decide_eq_true_iff,decide_eq_true_iff];exact⟨fun e=>by rw[e],fun e=>by injection e⟩
theorem ZDa{x:V}(h:hV x=true):J9 x=true:=by
 cases x <;> first | rfl | exact(Vf h).elim
theorem Q2c{ds es:List Dt}{e:Nat->Bool}(he:∀ i,i < ds.length->i < es.length->e i=decide (ds.getD i default=es.getD i default)):((List.range (min ds.length es.length)).all e && (ds.length == es.length))=decide (Dt.t ds=Dt.t es):=by
 rw[Bool.eq_iff_iff,decide_eq_true_iff,Bool.and_eq_true,beq_iff_eq,all_eq_true]
 constructor
 ·rintro⟨h1,h2⟩
  congr 1
  refine ext_getElem h2 fun i a b=>?_
  have:=h1 i (mem_range.mpr (by omega))
  rw[he i a b,decide_eq_true_iff]at this;rw[Yu (Vb a),Yu (Vb b)]at this
  exact this
 ·intro h
  injection h with h
  subst h;refine⟨fun i hi=>?_,rfl⟩
  have:=mem_range.mp hi;rw[he i (by omega) (by omega),decide_eq_true_iff]
theorem Qv{α β:Type}{F:α->β->Prop}:∀ {xs:List α} {us:List β} {i:Nat} {x:α} {u:β},Paired F xs us->xs[i]?=some x->us[i]?=some u->F x u
 | _,_,_,_,_,.nil,h,_=>by simp at h
 | _,_,0,_,_,.cons r _,h,h'=>by simp at h h';rw[<- h,<- h'];exact r
 | _,_,i+1,_,_,.cons _ t,h,h'=>Qv (i:=i) t (by simpa using h) (by simpa using h')
theorem Qtd:∀ (n:Nat) {A:Around} {s:Shared} {d d':Dt} {u v:Value},A.units+n < cLine->Yb s.heap n d u->Yb s.heap n d' v->SeqAt.EqAt A s u v (decide (d=d')):=by
 intro n;have flat:∀ {A:Around} {s:Shared} {x y:V} {u v:Value},hV x=true->QB x u->hV y=true->QB y v->SeqAt.EqAt A s u v (decide (Dt.v x=Dt.v y)):=fun f r f' r'=>by
  rw[<- Q1c f f'];exact XRa r r' (ZDa f) (ZDa f')
 induction n with
 | zero =>
  intro A s d d' u v hu p q;cases d with
  | v x =>
   cases d' with
   | v y=>exact flat p.1 p.2 q.1 q.2
   | t _=>exact q.elim
   | l _=>exact q.elim
  | t _=>exact p.elim
  | l _=>exact p.elim
 | succ n ih =>
  intro A s d d' u v hu p q;have hu0:A.units < cLine:=by omega
  cases d with
  | l _=>exact p.elim
  | v x =>
   cases d' with
   | l _=>exact q.elim
   | v y=>exact flat p.1 p.2 q.1 q.2
   | t es =>
    obtain⟨b,its',rfl,p2,r2⟩:=q;obtain⟨f,r⟩:=p;rw[show decide (Dt.v x=Dt.t es)=false from decide_eq_false (fun z=>nomatch z)]
    cases x <;> first | exact(Vf f).elim | skip
    ·cases (show u=Value.none from r);exact .none_tuple p2 hu0
    ·obtain⟨t,rfl⟩:=r;exact .int_tuple _ _ p2 hu0
    ·obtain⟨t,rfl⟩:=r;exact .str_tuple _ _ p2 hu0
  | t ds =>
   obtain⟨a,its,rfl,p1,r1⟩:=id p;cases d' with
   | l _=>exact q.elim
   | v y =>
    obtain⟨f,r⟩:=q;rw[show decide (Dt.t ds=Dt.v y)=false from decide_eq_false (fun z=>nomatch z)]
    cases y <;> first | exact(Vf f).elim | skip
    ·cases (show v=Value.none from r);exact .tuple_none p1 hu0
    ·obtain⟨t,rfl⟩:=r;exact .tuple_int _ _ p1 hu0
    ·obtain⟨t,rfl⟩:=r;exact .tuple_str _ _ p1 hu0
   | t es =>
    obtain⟨b,its',rfl,p2,r2⟩:=id q
    by_cases ab:a=b
    ·subst ab
     rw[show decide (Dt.t ds=Dt.t es)=true from decide_eq_true (Yb.inj _ _ _ _ _ p q)]
     exact .same _
    ·have l1:=Paired.length r1
     have l2:=Paired.length r2;have z:=SeqAt.RcAt.tuples (A:=A) (e:=fun i=>decide (ds.getD i default=es.getD i default)) p1 p2 hu0 fun j h1 h2=>by
      have j1:j < its.length:=by simpa using h1
      have j2:j < its'.length:=by simpa using h2
      have g1:ds[j]?=some (ds[j]'(by omega)):=Vb _
      have g2:es[j]?=some (es[j]'(by omega)):=Vb _
      have w1:=Qv r1 g1 (Vb j1)
      have w2:=Qv r2 g2 (Vb j2)
      rw[Yu g1,Yu g2];exact ih (A:=A.in1) (by show A.units+1+n < _;omega) w1 w2
     rw[Vn,Vn,<- l1,<- l2,Q2c fun i _ _=>rfl]at z
     exact .of_refs ab z
section
variable{prog:Program}{w:World}{E:YQ_}
theorem YLb{A:Around}{s:Shared}{x:V}{u:Value}{m:Nat}{Q:Bool->Shared->Prop}(f:hV x=true)(r:QB x u)(h:Q true s):wpAny (model prog w) A (eqIsQuiet m u) Q E s:=by
 have:carriedByValue u=true:=by
  cases x <;> first | exact(Vf f).elim | skip
  ·cases (show u=Value.none from r);rfl
  ·obtain⟨t,rfl⟩:=r;rfl
  ·obtain⟨t,rfl⟩:=r;rfl
 rw[eqIsQuiet_byValue _ this];exact Vg h
theorem Jtc:∀ (n m:Nat) {A:Around} {s:Shared} {d:Dt} {u:Value} {Q:Bool->Shared->Prop},n<=m->Yb s.heap n d u->Q true s->wpAny (model prog w) A (eqIsQuiet m u) Q E s:=by
 intro n
 induction n with
 | zero =>
  intro m A s d u Q _ p h;cases d with
  | v x=>exact YLb p.1 p.2 h
  | t _=>exact p.elim
  | l _=>exact p.elim
 | succ n ih =>
  intro m A s d u Q hm p h;cases d with
  | v x=>exact YLb p.1 p.2 h
  | l _=>exact p.elim
  | t ds =>
   obtain⟨k,rfl⟩:∃ k,m=k+1:=⟨m - 1,by omega⟩
   obtain⟨a,its,rfl,⟨o,ho,hc,j,hd⟩,r⟩:=p;have hT:s.TypeIs (.ref a) "tuple":=⟨o,ho,hc⟩;unfold eqIsQuiet;refine Va (wpAny_specialOf hT F.slot_tuple_eq.lookup ?_)
   show wpAny _ _ (isInstance (.ref a) (.type "tuple") >>= _) _ _ s;refine Va (wpAny_isInstance hT isSubtype_tuple_tuple ?_)
   simp only[Bool.not_true,Bool.false_eq_true,if_false];refine Va (wpAny_seqItems ho hd ?_)
   refine Va ?_
   show wpAny _ _ (forIn its.toArray _ _) _ _ s;rw[<- Array.forIn_toList];refine wpAny_forIn_list _ (fun rest r s'=>r.1=none/\s'=s/\∃ left,Paired (fun d v=>Yb s.heap n d v) left rest) _ ?_ ?_ _ _ ⟨rfl,rfl,ds,by simpa using r⟩
   ·rintro v rest r s' ⟨hr,rfl,left,hl⟩
    cases hl with
    | cons h1 hl' =>
     refine Va (ih k (by omega) h1 ?_)
     simp only[Bool.not_true,Bool.false_eq_true,if_false];exact Vg ⟨rfl,rfl,_,hl'⟩
   ·rintro⟨r1,r2⟩ s' ⟨hr,rfl,_⟩
    simp only at hr;subst hr;exact Vg h
end
noncomputable def X5 (prog:Program) (w:World):HeapKind prog w Dt where
 is:=fun h d a=>Yb h 8 d (.ref a)
 hash:=haD w
 draws:=drD
 room:=fun A=>A.units+8 < cLine
 inj:=fun p q=>Yb.inj _ _ _ _ _ p q
 keeps:=fun p ho hd hs=>Yb.keeps ho hd hs _ _ _ p
 pyHash:=fun hu p h=>Xhc 8 hu p h
 eqBool:=fun hu p q h=>Qtd 8 hu p q _ _ _ _ h
 quiet:=fun p h=>Jtc 8 8 (Ve _) p h
end L2
end
section
namespace PySem
section
variable{prog:Program}{w:World}{K:Type}[DecidableEq K]{knd:HeapKind prog w K}{A:Around}{E:YQ_}{s:Shared}
end
end PySem
namespace L2
open PySem PySem.Spec PyProof.Rows
abbrev NX:=List (Dt×Addr×V)
def NKV:NX->List (Dt×Addr×Value)->Prop:=Paired fun p q=>p.1=q.1/\p.2.1=q.2.1/\QB p.2.2 q.2.2
def isN(P:Program)(w:World)(a:Addr)(xs:NX)(h:Heap):Prop:=xs.length<=sizeLine/\(a == sysModules)=false/\∃ ys,NKV xs ys/\∃ o es ep,h.get? a=some o/\o.ExactDict/\o.data=.dict es ep/\es.toList=ys.map (entryOfKey (X5 P w))/\(ys.map (·.1)).Nodup
def dN(P:Program)(w:World)(a:Addr)(xs:NX):HO:=.ext (isN P w a xs)
structure Yha(P:Program)(w:World)(K:W.Frag)(H:Hp)(a:Addr)(xs:NX):Prop where
 at_:H a=some (dN P w a xs)
 keys:∀ x∈xs,Rep K H 8 x.1 (.ref x.2.1)/\hD x.1=true
noncomputable def Q4a (xs:NX) (d:Dt):Option V:=(xs.find? fun x=>decide (x.1=d)).map (·.2.2)
theorem XBa{α β:Type}{F:α->β->Prop}:∀ {xs:List α} {us:List β},xs.length=us.length->(∀ (i:Nat) x u,xs[i]?=some x->us[i]?=some u->F x u)->Paired F xs us
 | [],[],_,_=>.nil
 | [],_::_,h,_=>by simp at h
 | _::_,[],h,_=>by simp at h
 | x::xs,u::us,h,f=>.cons (f 0 _ _ rfl rfl) (XBa (by simpa using h) fun i a b ha hb=>f (i+1) a b (by simpa using ha) (by simpa using hb))
theorem Zrb{P:Program}{w:World}{a:Addr}{xs:NX}(h1 h2:Heap)(p:isN P w a xs h1)(k:∀ o,h1.get? a=some o->h2.get? a=some o):isN P w a xs h2:=by
 obtain⟨z,y,ys,r,o,es,ep,e,c⟩:=p;exact⟨z,y,ys,r,o,es,ep,k o e,c⟩
section
variable{X:Cx}{pins:YP_}{σ:St}{H:Hp}{s:Shared}{a b:Addr}{xs:NX}{d:Dt}
theorem Rep.has(I:Inv X pins σ H s){n:Nat}{x:V}(r:Rep X.K H n d x):∀ {u:Value},hD d=true->QB x u->Yb s.heap n d u:=by
 induction r with
 | @v n x f =>
  intro u h r;rw[hD]at h;cases n <;> exact⟨h,r⟩
 | t h e r1 ih =>
  intro u hh r;cases (show u=Value.ref _ from r)
  rw[hD]at hh;obtain⟨its,w1,p,_⟩:=I.tuple h;have l1:=w1.length;refine⟨_,its,rfl,p,XBa (by omega) fun i d u hd hu=>?_⟩
  have hi:=(Vc.mp hu).1
  obtain⟨u',e',r'⟩:=w1.get (i:=i) (Vb (by omega))
  rw[hu]at e';cases e';exact ih i d _ hd (Vb (by omega)) (YKb hh d (Vm hd)) r'
 | l h e _ _ =>
  intro u hh _;rw[hD]at hh;exact(Vf hh).elim
theorem Yha.dict(I:Inv X pins σ H s)(g:Yha X.prog X.w X.K H a xs):xs.length<=sizeLine/\(a == sysModules)=false/\∃ ys,NKV xs ys/\s.heap.DictOfH (X5 X.prog X.w) a ys:=by
 obtain⟨⟨z,y,ys,r,o,es,ep,h1,h2,h3,h4,h5⟩,_,_⟩:=(show QL X.prog X.w H s.heap a (dN X.prog X.w a xs) from I.hok a _ g.at_)
 refine⟨z,y,ys,r,o,es,ep,h1,h2,h3,h4,fun q hq=>?_,h5⟩
 obtain⟨i,hi⟩:=mem_iff_getElem?.mp hq;have l:=Paired.length r;have hp:xs[i]?=some (xs[i]'(by have:=(Vc.mp hi).1;omega)):=Vb _
 have z:=Qv r hp hi;rw[<- z.1,<- z.2.1];have k:=g.keys _ (Vm hp);exact k.1.has I k.2 rfl
theorem NKV.val{xs:NX}{ys:List (Dt×Addr×Value)}(r:NKV xs ys)(d:Dt):Yq (Q4a xs d) ((atKey ys d).map (·.2)):=by
 induction r with
 | nil=>exact True.intro
 | @cons p q ps qs hq t ih =>
  unfold Q4a atKey;rw[find?_cons,find?_cons,<- hq.1]
  by_cases e:p.1=d
  ·rw[decide_eq_true e];exact hq.2.2
  ·rw[decide_eq_false e];exact ih
theorem NKV.none{xs:NX}{ys:List (Dt×Addr×Value)}(r:NKV xs ys){d:Dt}(h:Q4a xs d=none):atKey ys d=none:=by
 have:=r.val d;rw[h]at this;cases e:atKey ys d with
 | none=>rfl
 | some p=>rw[e]at this;exact this.elim
theorem NKV.some{xs:NX}{ys:List (Dt×Addr×Value)}(r:NKV xs ys){d:Dt}:(Q4a xs d).isSome=(atKey ys d).isSome:=by
 have:=(r.val d).isSome_eq;rw[Option.isSome_map]at this;exact this
variable{A:Around}{E:YQ_}
theorem Qud{Q:YQ_}(hu:A.units+9 < cLine)(I:Inv X pins σ H s)(g:Yha X.prog X.w X.K H a xs)(r:Rep X.K H 8 d (.ref b))(hd:hD d=true)(h:∀ s',Inv X pins σ H s'->Q (.bool (Q4a xs d).isSome) s') :
 wpAny (model X.prog X.w) A (compareOp .In (.ref b) (.ref a)) Q E s:=by
 obtain⟨z,y,ys,rel,dd⟩:=g.dict I;refine wpAny_in_heap (knd:=X5 X.prog X.w) (show A.units+1+8 < cLine by omega) (r.has I hd rfl) y dd ?_
 rw[<- rel.some];exact h _ (I.tok _)
theorem X8c{v:V}{Q:YQ_}(hu:A.units+9 < cLine)(I:Inv X pins σ H s)(g:Yha X.prog X.w X.K H a xs)(r:Rep X.K H 8 d (.ref b))(hd:hD d=true)(l:Q4a xs d=some v)(h:∀ w' s',Inv X pins σ H s'->QB v w'->Q w' s') :
 wpAny (model X.prog X.w) A (getItem (.ref a) (.ref b)) Q E s:=by
 obtain⟨z,y,ys,rel,dd⟩:=g.dict I;obtain⟨w',hw,rw'⟩:=Yq.some_of (v:=v) (o:=(atKey ys d).map (·.2)) (by rw[<- l];exact rel.val d)
 obtain⟨p,hp,hp2⟩:=Option.map_eq_some_iff.mp hw;refine wpAny_getItem_heap (knd:=X5 X.prog X.w) (show A.units+1+8 < cLine by omega) (r.has I hd rfl) dd hp ?_
 rw[hp2];exact h w' _ (I.tok _) rw'
theorem X9c{v:V}{u:Value}{Q:Unit->Shared->Prop}(hu:A.units+9 < cLine)(I:Inv X pins σ H s)(g:Yha X.prog X.w X.K H a xs)(r:Rep X.K H 8 d (.ref b))(hd:hD d=true)(l:Q4a xs d=none)(hl:xs.length < sizeLine)(rv:QB v u)
 (h:∀ s',Inv X pins σ (upd H a (dN X.prog X.w a (xs++[(d,b,v)]))) s'->Q () s'):wpAny (model X.prog X.w) A (setItem (.ref a) (.ref b) u) Q E s:=by
 obtain⟨z,y,ys,rel,dd⟩:=g.dict I;refine wpAny_setItem_heap (knd:=X5 X.prog X.w) (hsz:=by rw[<- Paired.length rel];exact z) (show A.units+1+8 < cLine by omega) (r.has I hd rfl) dd fun h' dd' hs=>h _ ?_
 obtain⟨q,es,ep,hq,h2,h3,h4,_,h5⟩:=dd';rw[storedH_new (rel.none l)]at h4 h5;refine JAa I (by rw[g.at_];exact True.intro) hs ⟨q,hq⟩ ⟨⟨by rw[Vs];exact hl,y,_,Paired.snoc rel ⟨rfl,rfl,rv⟩,q,es,ep,hq,h2,h3,h4,h5⟩,⟨q,hq⟩,Zrb⟩
theorem Yha.typeIs(I:Inv X pins σ H s)(g:Yha X.prog X.w X.K H a xs):s.TypeIs (.ref a) "dict":=let ⟨_,_,_,_,dd⟩:=g.dict I;dd.typeIs
end
def Qad(P:Program)(w:World)(K:W.Frag)(ty td:TE):TE:=fun σ H Q=>ty σ H fun y H1=>td σ H1 fun x H2=>∃ a b xs d,x=.ref a/\y=.ref b/\Yha P w K H2 a xs/\Rep K H2 8 d (.ref b)/\hD d=true/\Q (.bl (Q4a xs d).isSome) H2
def Ykc(P:Program)(w:World)(K:W.Frag)(td ty:TE):TE:=fun σ H Q=>td σ H fun x H1=>ty σ H1 fun y H2=>∃ a b xs d v,x=.ref a/\y=.ref b/\Yha P w K H2 a xs/\Rep K H2 8 d (.ref b)/\hD d=true/\Q4a xs d=some v/\Q v H2
def Ylc(P:Program)(w:World)(K:W.Frag)(td ty tv:TE):TS:=fun D σ H=>tv σ H fun v H1=>td σ H1 fun x H2=>ty σ H2 fun y H3=>∃ a b xs d,x=.ref a/\y=.ref b/\Yha P w K H3 a xs/\Rep K H3 8 d (.ref b)/\hD d=true/\Q4a xs d=none/\xs.length < sizeLine/\D.nx σ (upd H3 a (dN P w a (xs++[(d,b,v)])))
def Ymc(P:Program)(w:World):TE:=fun _ H Q=>∀ p,H p=none->Q (.ref p) (upd H p (dN P w p []))
section
variable{X:Cx}{o i e value:Expr}{pos pos' apos cpos:Pos}{td ty tv:TE}
theorem Xic(hu:X.A.units+9 < cLine)(hi:PE X i ty)(ho:PE X o td):PC X .In i o (Qad X.prog X.w X.K ty td):=by
 intro pins s σ H Q I h;refine thn (hi pins s σ H _ I h) fun iv s1 ⟨y,H1,I1,ry,q1⟩=>thn (ho pins s1 σ H1 _ I1 q1) fun u s2 hZ=>?_
 obtain⟨x,H2,I2,rx,a,b,xs,d,ex,ey,g,r,hd,q2⟩:=hZ;subst ex ey;obtain rfl:u=Value.ref a:=rx;obtain rfl:iv=Value.ref b:=ry;exact Qud hu I2 g r hd fun s3 I3=>⟨.bl (Q4a xs d).isSome,H2,I3,rfl,q2⟩
theorem Juc(hu:X.A.units+9 < cLine)(ho:PE X o td)(hi:PE X i ty)(hs:YLc i):PE X (.Subscript o i pos) (Ykc X.prog X.w X.K td ty):=by
 intro pins s σ H Q I h;refine Ypb F.slot_dict_getitem.lookup hs (thn (ho pins s σ H _ I h) fun u s1 ⟨x,H1,I1,rx,q1⟩=>thn (hi pins s1 σ H1 _ I1 q1) fun iv s2 hZ=>?_)
 obtain⟨y,H2,I2,ry,a,b,xs,d,v,ex,ey,g,r,hd,l,q2⟩:=hZ;subst ex ey;obtain rfl:u=Value.ref a:=rx;obtain rfl:iv=Value.ref b:=ry;exact⟨g.typeIs I2,X8c hu I2 g r hd l fun w' s3 I3 rw'=>⟨v,H2,I3,rw',q2⟩⟩
theorem Jvc(hu:X.A.units+9 < cLine)(ho:PE X o td)(hi:PE X i ty)(hv:PE X value tv)(hs:swapsWith value (some (.Subscript o i pos')) pos.line X.env=pure false) :
 PS X (.Assign [.Subscript o i pos'] value pos) (Ylc X.prog X.w X.K td ty tv):=by
 intro pins s σ H D I h;refine wpAny_Assign_Subscript (thn (hv pins s σ H _ I h) fun r s1 ⟨v,H1,I1,rv,q1⟩=>thn (ho pins s1 σ H1 _ I1 q1) fun u s2 ⟨x,H2,I2,rx,q2⟩=>thn (hi pins s2 σ H2 _ I2 q2) fun iv s3 hZ=>?_) hs
 obtain⟨y,H3,I3,ry,a,b,xs,d,ex,ey,g,rp,hd,l,hl,q3⟩:=hZ;subst ex ey;obtain rfl:u=Value.ref a:=rx;obtain rfl:iv=Value.ref b:=ry;exact X9c hu I3 g rp hd l hl rv fun s4 I4=>⟨σ,_,I4,q3⟩
theorem Q3c{P:Program}{w:World}{H:Hp}(h:Heap)(hb:sysModules < h.objs.size):QL P w H (h.push { cls:=.type "dict",data:=.dict #[] }) h.objs.size (dN P w h.objs.size []) :=
 ⟨⟨Vk _,beq_eq_false_iff_ne.mpr (Ne.symm (Nat.ne_of_lt hb)),[],.nil,_,#[],0,Vi _ rfl,⟨rfl,rfl,rfl⟩,rfl,rfl,nodup_nil⟩,⟨_,Vi _ rfl⟩,Zrb⟩
theorem Q4c:PE X (.Dict [] [] pos) (Ymc X.prog X.w):=fun pins s σ H Q I h =>
 wpAny_Dict_empty ⟨.ref s.heap.objs.size,_,I.laid (a:=s.heap.objs.size) (o:=dN X.prog X.w s.heap.objs.size []) (t':=s.toks) (fun _ _ q=>Vd _ q) (Ve _) (Q3c s.heap I.big),rfl,h _ (I.hok.fresh (Ve _))⟩
end
theorem Zq.u9{k:Nat}{A:Around}(r:Zq k A):A.units+9 < cLine:=by have:=r.un;omega
def TD(H:Hp):Nat->Dt->V->Prop
 | 0,.v x,y=>hV x=true/\y=x
 | 0,.t _,_=>False
 | 0,.l _,_=>False
 | _+1,.v x,y=>hV x=true/\y=x
 | n+1,.t ds,y=>∃ (a:Addr) (xs:List V),y=.ref a/\H a=some (.tup xs)/\Paired (fun d v=>TD H n d v) ds xs
 | _+1,.l _,_=>False
section
variable{H H':Hp}{K:W.Frag}
theorem TD.flat{n:Nat}{x y:V}:TD H n (.v x) y->hV x=true/\y=x:=by cases n <;> exact id
theorem TD.ofV{n:Nat}{x:V}(f:hV x=true):TD H n (.v x) x:=by cases n <;> exact⟨f,rfl⟩
theorem TD.tup{n:Nat}{ds:List Dt}{y:V}(q:TD H n (.t ds) y):∃ m a xs,n=m+1/\y=.ref a/\H a=some (.tup xs)/\Paired (fun d v=>TD H m d v) ds xs:=by
 cases n with
 | zero=>exact q.elim
 | succ m=>obtain⟨a,xs,e,h,r⟩:=q;exact⟨m,a,xs,rfl,e,h,r⟩
theorem TD.ofT{n:Nat}{a:Addr}{xs:List V}{ds:List Dt}(h:H a=some (.tup xs))(r:Paired (fun d v=>TD H n d v) ds xs):TD H (n+1) (.t ds) (.ref a):=⟨a,xs,rfl,h,r⟩
theorem TD.sameT(s:Zl H H'):∀ (n:Nat) {d:Dt} {y:V},TD H n d y->TD H' n d y:=by
 intro n
 induction n with
 | zero=>intro d y q;cases d <;> exact q
 | succ n ih =>
  intro d y q;cases d with
  | v x=>exact q
  | l x=>exact q
  | t ds=>obtain⟨a,xs,e,h,r⟩:=q;exact⟨a,xs,e,s _ _ h,Paired.mapP r fun d v z=>ih z⟩
theorem TD.same{n:Nat}{d:Dt}{y:V}(q:TD H n d y)(s:Qp H H'):TD H' n d y:=TD.sameT s.t n q
theorem TD.mono:∀ (n:Nat) {m:Nat} {d:Dt} {y:V},n<=m->TD H n d y->TD H m d y:=by
 intro n
 induction n with
 | zero =>
  intro m d y _ q;cases d with
  | v x=>obtain⟨f,e⟩:=q;subst e;exact TD.ofV f
  | t _=>exact q.elim
  | l _=>exact q.elim
 | succ n ih =>
  intro m d y hm q;cases d with
  | v x=>obtain⟨f,e⟩:=q;subst e;exact TD.ofV f
  | l _=>exact q.elim
  | t ds =>
   obtain⟨a,xs,e,h,r⟩:=q;obtain⟨k,rfl⟩:∃ k,m=k+1:=⟨m - 1,by omega⟩
   exact⟨a,xs,e,h,Paired.mapP r fun d v z=>ih (by omega) z⟩
theorem TD.rep:∀ (n:Nat) {d:Dt} {y:V},TD H n d y->Rep K H n d y:=by
 intro n
 induction n with
 | zero =>
  intro d y q;cases d with
  | v x=>obtain⟨f,e⟩:=q;subst e;exact .v (ZDa f)
  | t _=>exact q.elim
  | l _=>exact q.elim
 | succ n ih =>
  intro d y q;cases d with
  | v x=>obtain⟨f,e⟩:=q;subst e;exact .v (ZDa f)
  | l _=>exact q.elim
  | t ds =>
   obtain⟨a,xs,e,h,r⟩:=q;subst e;exact .t (SqT.of h) (Paired.length r) fun i d x h1 h2=>ih (Qv r h1 h2)
theorem TD.h:∀ (n:Nat) {d:Dt} {y:V},TD H n d y->hD d=true:=by
 intro n
 induction n with
 | zero =>
  intro d y q;cases d with
  | v x=>rw[hD];exact q.1
  | t _=>exact q.elim
  | l _=>exact q.elim
 | succ n ih =>
  intro d y q;cases d with
  | v x=>rw[hD];exact q.1
  | l _=>exact q.elim
  | t ds =>
   obtain⟨a,xs,e,h,r⟩:=q;rw[hD];refine QZc fun x hx=>?_
   obtain⟨i,hi⟩:=mem_iff_getElem?.mp hx;have l:=Paired.length r;have hl:=(Vc.mp hi).1
   exact ih (Qv r hi (Vb (show i < xs.length by omega)))
theorem TD.pair{n:Nat}{a:Addr}{x y:V}{d e:Dt}(h:H a=some (.tup [x,y]))(hx:TD H n d x)(hy:TD H n e y):TD H (n+1) (.t [d,e]) (.ref a):=TD.ofT h (.cons hx (.cons hy .nil))
theorem TD.pair_of{n:Nat}{y:V}{d e:Dt}(q:TD H (n+1) (.t [d,e]) y):∃ a x z,y=.ref a/\H a=some (.tup [x,z])/\TD H n d x/\TD H n e z:=by
 obtain⟨a,xs,rfl,h,r⟩:=q;cases r with
 | cons r1 r2 =>
  cases r2 with
  | cons r3 r4=>cases r4;exact⟨a,_,_,rfl,h,r1,r3⟩
end
mutual
theorem Q5c:∀ d e:Dt,hD d=true->hD e=true->(eqD d e=true↔d=e)
 | .v x,.v y,h,h'=>by
  rw[hD]at h h';rw[eqD,Q1c h h',decide_eq_true_iff]
 | .t xs,.t ys,h,h'=>by
  rw[hD]at h h';rw[eqD,YMb xs ys h h'];exact⟨fun e=>by rw[e],fun e=>by injection e⟩
 | .v x,.t ys,_,_=>by simp[eqD]
 | .t xs,.v y,_,_=>by simp[eqD]
 | .l xs,_,h,_=>by rw[hD]at h;exact(Vf h).elim
 | .v x,.l ys,_,h=>by rw[hD]at h;exact(Vf h).elim
 | .t x,.l ys,_,h=>by rw[hD]at h;exact(Vf h).elim
theorem YMb:∀ d e:List Dt,hDs d=true->hDs e=true->(Q2a d e=true↔d=e)
 | [],[],_,_=>by simp[Q2a]
 | [],_::_,_,_=>by simp[Q2a]
 | _::_,[],_,_=>by simp[Q2a]
 | x::xs,y::ys,h,h'=>by
  rw[hDs,Bool.and_eq_true]at h h';rw[Q2a,Bool.and_eq_true,Q5c x y h.1 h'.1,YMb xs ys h.2 h'.2];exact⟨fun e=>by rw[e.1,e.2],fun e=>by injection e with a b;exact⟨a,b⟩⟩
end
theorem Jwc{d e:Dt}(h:hD d=true)(h':hD e=true):eqD d e=decide (d=e):=by
 rw[Bool.eq_iff_iff,Q5c d e h h',decide_eq_true_iff]
theorem Qbd{K:W.Frag}{H:Hp}{n:Nat}{d e:Dt}{x y:V}{Q:VK}(hn:n<=60)(h1:TD H n d x)(h2:TD H n e y)(q:Q (.bl (decide (d=e))) H):rD K false x y H Q :=
 ⟨n,d,e,hn,h1.rep,h2.rep,by rw[if_neg (by decide),Jwc h1.h h2.h];exact q⟩
def QH(S:List Addr)(H H':Hp):Prop:=∀ b o,b∉S->H b=some o->H' b=some o
section
variable{S:List Addr}{H H' H1 H2:Hp}
theorem QH.refl(S:List Addr)(H:Hp):QH S H H:=fun _ _ _ e=>e
theorem Qp.x(s:Qp H H')(S:List Addr):QH S H H':=fun b o _ e=>s b o e
theorem QH.trans(a:QH S H H1)(b:QH S H1 H2):QH S H H2:=fun c o n e=>b c o n (a c o n e)
theorem QH.upd{a:Addr}{o:HO}(s:QH S H H')(h:a∈S):QH S H (L2.upd H' a o):=fun b u n e=>by
 rw[Qi (fun z=>n (by rw[z];exact h))];exact s b u n e
theorem QH.mono{S':List Addr}(s:QH S H H')(h:∀ a∈S,a∈S'):QH S' H H':=fun b o n e=>s b o (fun z=>n (h b z)) e
end
section
variable{α β:Type}[DecidableEq β]
theorem Y0(g:α->β):∀ {xs:List α} {x:α},(xs.map g).Nodup->x∈xs->xs.find? (fun y=>decide (g y=g x))=some x
 | [],_,_,h=>nomatch h
 | y::ys,x,nd,h=>by
  rw[map_cons,nodup_cons]at nd;rw[find?_cons]
  rcases mem_cons.mp h with e | h
  ·subst e;rw[decide_eq_true rfl]
  ·have:g y≠g x:=fun e=>nd.1 (by rw[e];exact mem_map_of_mem h)
   rw[decide_eq_false this];exact Y0 g nd.2 h
theorem YNb(g:α->β){xs:List α}{b:β}(h:∀ x∈xs,g x≠b):xs.find? (fun y=>decide (g y=b))=none:=by
 rw[find?_eq_none]
 intro x hx z;exact h x hx (of_decide_eq_true z)
end
theorem XCa{α κ:Type}[DecidableEq κ](f:α->κ×V)(xs:List α)(k:κ):ZI (xs.map f) k=(xs.find? fun x=>decide ((f x).1=k)).map fun x=>(f x).2:=by
 unfold ZI;rw[find?_map,Option.map_map]
 rfl
theorem Zsb{α:Type}(f:α->Dt×Addr×V)(xs:List α)(k:Dt):Q4a (xs.map f) k=(xs.find? fun x=>decide ((f x).1=k)).map fun x=>(f x).2.2:=by
 unfold Q4a;rw[find?_map,Option.map_map]
 rfl
end L2
end
section
namespace L2
open PySem PySem.Spec PyProof.Rows
section
variable{X:Cx}
end
theorem TDs.of{H:Hp}{n:Nat}{Pd:Dt->Prop}:∀ {xs:List V},(∀ x∈xs,∃ d,TD H n d x/\Pd d)->∃ ds:List Dt,Paired (fun d v=>TD H n d v) ds xs/\∀ d∈ds,Pd d
 | [],_=>⟨[],.nil,fun d h=>nomatch h⟩
 | x::xs,h=>by
  obtain⟨d,hd,pd⟩:=h x mem_cons_self;obtain⟨ds,r,p⟩:=TDs.of (xs:=xs) fun y hy=>h y (Vo _ hy)
  exact⟨d::ds,.cons hd r,fun e he=>by
   rcases mem_cons.mp he with z | z
   ·rw[z];exact pd
   ·exact p e z⟩
theorem TDs.sameT{H H':Hp}{n:Nat}{es:List Dt}{xs:List V}(r:Paired (fun d v=>TD H n d v) es xs)(s:Zl H H'):Paired (fun d v=>TD H' n d v) es xs:=Paired.mapP r fun _ _ z=>TD.sameT s n z
theorem TDs.mono{H:Hp}{n m:Nat}{es:List Dt}{xs:List V}(r:Paired (fun d v=>TD H n d v) es xs)(h:n<=m):Paired (fun d v=>TD H m d v) es xs:=Paired.mapP r fun _ _ z=>TD.mono n h z
def Q6c(P:Program)(w:World)(K:W.Frag)(mg:Str->Option Value)(base:Heap)(k:Nat)(m:Str)(ta:TE1)(t:TA):TE1:=fun σ H Q E=>ta σ H (fun x H1=>∃ a C dx fs sp,x=.ref a/\H1 a=some (.ins C dx fs)/\fs.lookup m=none/\Cls K C/\MeV P w K mg base k C m sp/\t σ H1 fun vs H2=>sp (x::vs) H2 Q E) E
section
variable{X:Cx}{m:Str}{k:Nat}{ta:TE1}{t:TA}{e o:Expr}{es:List Expr}{pos apos:Pos}{pl:Sem Bool}
theorem Q5a(he:PE1 X o ta)(hr:Zq k X.A)(hex:X.ex=[])
 (ht:eval (.Call (.Attribute o m apos) [] [] pos) X.env=(do
  let ov <- eval o X.env
  standAt apos.atName
  let (f,first) <- holding [ov] (getMethod ov m pl)
  callWith pos f first (backTo pos (starEach [] X.env)) (backToKw pos (keywordEach [] X.env))):=by rfl) :
 PE1 X (.Call (.Attribute o m apos) [] [] pos) (Q6c X.prog X.w X.K X.mg X.base k m ta YIa):=by
 intro pins s σ H Q E I h;refine W.methodCall_KW (pl:=pl) (thn (he pins s σ H _ E I h) fun u s1 hZ=>?_) ht
 obtain⟨y,H1,I1,rx,a,C,dx,fs,sp,ex,ea,l,c,G,q⟩:=hZ;obtain⟨f,fd,ps,hm,F,hb⟩:=G;subst ex;obtain rfl:u=Value.ref a:=rx;refine QYa I1 ea c hm l ?_
 exact W.callWith_K0 (first:=[.ref a]) I1.kIn hm.kp (JFa (us:=[.ref a]) (vs:=[.ref a]) F hr hb hex I1 (.cons rfl .nil) q)
end
end L2
end
section
open L2
namespace Tr
def Qr:Dt->V
 | .t (.v k::_)=>k
 | _=>.non
def Zc(l:Int)(es:List Dt):Dt:=.t [.v (.int l),.t es]
def ZQ(k:V)(n:Int):Dt:=.t [.v k,.v (.int n)]
def QS:List Dt->V
 | []=>.non
 | e::_=>Qr e
theorem X6{l l':Int}{es es':List Dt}(h:Zc l es=Zc l' es'):l=l'/\es=es':=by
 unfold Zc at h;injection h with h
 injection h with h1 h
 injection h with h2 h
 injection h1 with h1
 injection h1 with h1
 injection h2 with h2
 exact⟨h1,h2⟩
theorem Q7c{k k':V}{n n':Int}(h:ZQ k n=ZQ k' n'):k=k'/\n=n':=by
 unfold ZQ at h;injection h with h
 injection h with h1 h
 injection h with h2 h
 injection h1 with h1
 injection h2 with h2
 injection h2 with h2
 exact⟨h1,h2⟩
theorem JHa(k:V)(n:Int):Qr (ZQ k n)=k:=rfl
section
variable(lv:V->Nat)
def step(l:Int)(parts:List (List Dt))(e:Dt):List (List Dt) :=
 if parts=[]\/l < lv (Qr e) then parts++[[e]] else parts.dropLast++[parts.getLast?.getD []++[e]]
def QT(l:Int)(es:List Dt):List (List Dt):=es.foldl (step lv l) []
structure Ys(l:Int)(es:List Dt)(parts:List (List Dt)):Prop where
 flat:parts.flatten=es
 full:∀ part∈parts,part≠[]
 head:∀ (i:Nat) x r,0 < i->parts[i]?=some (x::r)->l < lv (Qr x)
 rest:∀ x r,(x::r)∈parts->∀ y∈r,(lv (Qr y):Int)<=l
variable{lv}{l:Int}{es:List Dt}{parts:List (List Dt)}
theorem Ys.nil:Ys lv l [] []:=⟨rfl,(fun _ h=>by cases h),(fun i x r _ h=>by simp at h),(fun x r h=>by cases h)⟩
theorem Ys.more{x:Dt}(c:Ys lv l es parts)(h:parts=[]\/l < lv (Qr x)):Ys lv l (es++[x]) (parts++[[x]]) where
 flat:=by rw[flatten_append,c.flat];simp
 full:=fun part hp=>by
  rcases Vl.mp hp with z | z
  ·exact c.full part z
  ·have:part=[x]:=by simpa using z
   rw[this];simp
 head:=fun i y r hi e=>by
  by_cases hl:i < parts.length
  ·rw[getElem?_append_left hl]at e;exact c.head i y r hi e
  ·rw[getElem?_append_right (by omega)]at e
   have h0:i - parts.length=0:=by
    cases q:i - parts.length with
    | zero=>rfl
    | succ m=>rw[q]at e;simp at e
   rw[h0]at e;simp at e
   rcases h with z | z
   ·rw[z]at h0;simp at h0;omega
   ·rw[<- e.1];exact z
 rest:=fun y r hp z hz=>by
  rcases Vl.mp hp with w | w
  ·exact c.rest y r w z hz
  ·have:y::r=[x]:=by simpa using w
   cases this;cases hz
theorem Ys.on{x:Dt}{ini:List (List Dt)}{last:List Dt}(c:Ys lv l es (ini++[last]))(h:(lv (Qr x):Int)<=l):Ys lv l (es++[x]) (ini++[last++[x]]) where
 flat:=by have:=c.flat;simp at this ⊢;rw[<- this];simp
 full:=fun part hp=>by
  rcases Vl.mp hp with z | z
  ·exact c.full part (mem_append_left _ z)
  ·have:part=last++[x]:=by simpa using z
   rw[this];simp
 head:=fun i y r hi e=>by
  by_cases hl:i < ini.length
  ·rw[getElem?_append_left hl]at e
   exact c.head i y r hi (by rw[getElem?_append_left hl];exact e)
  ·rw[getElem?_append_right (by omega)]at e
   have h0:i - ini.length=0:=by
    cases q:i - ini.length with
    | zero=>rfl
    | succ m=>rw[q]at e;simp at e
   rw[h0]at e;have hne:=c.full last (by simp)
   match last,hne,e,c with
   | z::zs,_,e,c =>
    simp at e;rw[<- e.1];exact c.head i z zs hi (by rw[getElem?_append_right (by omega),h0];rfl)
 rest:=fun y r hp z hz=>by
  rcases Vl.mp hp with w | w
  ·exact c.rest y r (mem_append_left _ w) z hz
  ·have w:y::r=last++[x]:=by simpa using w
   have hne:=c.full last (by simp)
   match last,hne,w,c with
   | u::us,_,w,c =>
    simp at w;obtain⟨rfl,rfl⟩:=w
    rcases Vl.mp hz with v | v
    ·exact c.rest y us (by simp) z v
    ·have:z=x:=by simpa using v
     rw[this];exact h
theorem Zp{α:Type}:∀ {xs:List α},xs≠[]->∃ ini last,xs=ini++[last]
 | [],h=>absurd rfl h
 | [x],_=>⟨[],x,rfl⟩
 | x::y::ys,_=>by
  obtain⟨ini,last,e⟩:=Zp (xs:=y::ys) (by simp)
  exact⟨x::ini,last,by rw[e];rfl⟩
theorem Ys.step{x:Dt}(c:Ys lv l es parts):Ys lv l (es++[x]) (step lv l parts x):=by
 unfold Tr.step
 split
 ·rename_i h;exact c.more h
 ·rename_i h
  have h1:parts≠[]:=fun z=>h (.inl z)
  obtain⟨ini,last,rfl⟩:=Zp h1;have:(lv (Qr x):Int)<=l:=by have:¬ l < lv (Qr x):=fun z=>h (.inr z);omega
  simpa using c.on this
theorem J4(es:List Dt)(x:Dt):QT lv l (es++[x])=step lv l (QT lv l es) x:=by
 unfold QT;rw[foldl_append];rfl
theorem Y1{α:Type}{C:List α->Prop}(h0:C [])(h1:∀ xs x,C xs->C (xs++[x]))(xs:List α):C xs:=by
 have:∀ n (xs:List α),xs.length=n->C xs:=by
  intro n
  induction n with
  | zero=>intro xs h;rw[length_eq_zero_iff.mp h];exact h0
  | succ n ih =>
   intro xs h;obtain⟨ini,last,rfl⟩:=Zp (xs:=xs) (by intro z;rw[z]at h;simp at h)
   exact h1 _ _ (ih ini (by simpa using h))
 exact this _ xs rfl
theorem JR(l:Int):∀ es,Ys lv l es (QT lv l es):=Y1 Ys.nil fun xs x c=>by rw[J4];exact c.step
theorem Qza{es:List Dt}(h:es≠[]):QT lv l es≠[]:=fun z=>h (by have:=(JR (lv:=lv) l es).flat;rw[z]at this;exact this.symm)
theorem Ztb{es:List Dt}(hne:es≠[])(h:∀ e∈es,(lv (Qr e):Int)<=l):QT lv l es=[es]:=by
 have c:=JR (lv:=lv) l es
 match q:QT lv l es with
 | []=>exact absurd q (Qza hne)
 | [p]=>rw[q]at c;have:=c.flat;simp at this;rw[this]
 | p::p2::r =>
  rw[q]at c;have hp2:=c.full p2 (by simp)
  match p2,hp2 with
  | x::xs,_ =>
   have h1:=c.head 1 x xs (by omega) rfl
   have h2:x∈es:=by rw[<- c.flat];simp
   have:=h x h2
   omega
end
structure Fn(tbl:List (Int×Dt)):Prop where
 num:∀ n d d',(n,d)∈tbl->(n,d')∈tbl->d=d'
 dat:∀ n n' d,(n,d)∈tbl->(n',d)∈tbl->n=n'
inductive QJ(tbl:List (Int×Dt))(l:Int):List (List Dt)->List Dt->Prop
 | nil:QJ tbl l [] []
 | cons {part:List Dt} {parts:List (List Dt)} {hs:List Dt} {n:Int} (h:(n,Zc l part)∈tbl) (r:QJ tbl l parts hs):QJ tbl l (part::parts) (ZQ (QS part) n::hs)
section
variable{tbl tbl':List (Int×Dt)}{l:Int}{parts:List (List Dt)}{hs:List Dt}
theorem QJ.mono(h:QJ tbl l parts hs)(s:∀ x∈tbl,x∈tbl'):QJ tbl' l parts hs:=by
 induction h with
 | nil=>exact .nil
 | cons h _ ih=>exact .cons (s _ h) ih
theorem QJ.snoc{part:List Dt}{n:Int}(h:QJ tbl l parts hs)(m:(n,Zc l part)∈tbl):QJ tbl l (parts++[part]) (hs++[ZQ (QS part) n]):=by
 induction h with
 | nil=>exact .cons m .nil
 | cons h _ ih=>exact .cons h ih
theorem QJ.length(h:QJ tbl l parts hs):hs.length=parts.length:=by
 induction h with
 | nil=>rfl
 | cons _ _ ih=>simp[ih]
theorem QJ.det(f:Fn tbl)(h:QJ tbl l parts hs):∀ {hs':List Dt},QJ tbl l parts hs'->hs=hs':=by
 induction h with
 | nil=>intro hs' h';cases h';rfl
 | cons h _ ih =>
  intro hs' h';cases h' with
  | cons h2 r2=>rw[f.dat _ _ _ h h2,ih r2]
end
structure X7(lv:V->Nat)(tbl:List (Int×Dt))(rows:List Dt)(top:Nat)(L:Nat->List Dt):Prop where
 low:L 0=rows
 up:∀ j,j<=top->QJ tbl j (QT lv j (L j)) (L (j+1))
 one:(L (top+1)).length=1
 two:∀ j,1<=j->j<=top->1 < (L j).length
section
variable{lv:V->Nat}{tbl tbl':List (Int×Dt)}{rows rows':List Dt}{top top':Nat}{L L':Nat->List Dt}
theorem X7.mono(c:X7 lv tbl rows top L)(s:∀ x∈tbl,x∈tbl'):X7 lv tbl' rows top L:=⟨c.low,fun j h=>(c.up j h).mono s,c.one,c.two⟩
end
def ZEa:Dt->Int
 | .t [_,.v (.int n)]=>n
 | _=>0
section
variable{lv:V->Nat}{tbl:List (Int×Dt)}{l:Int}{parts:List (List Dt)}{hs rows:List Dt}{top:Nat}{L:Nat->List Dt}
theorem QJ.keys(h:QJ tbl l parts hs):hs.map Qr=parts.map QS:=by
 induction h with
 | nil=>rfl
 | cons h r ih=>rw[map_cons,map_cons,ih];rfl
theorem QJ.mem(h:QJ tbl l parts hs){x:Dt}(hx:x∈hs):∃ part∈parts,∃ n,x=ZQ (QS part) n/\(n,Zc l part)∈tbl:=by
 induction h with
 | nil=>cases hx
 | @cons part parts hs n h r ih =>
  rcases mem_cons.mp hx with e | hx
  ·exact⟨part,mem_cons_self,n,e,h⟩
  ·obtain⟨p,hp,q⟩:=ih hx;exact⟨p,Vo _ hp,q⟩
end
structure Z2a(lv:V->Nat)(tbl:List (Int×Dt))(rows:List Dt)(j:Nat)(L:Nat->List Dt):Prop where
 low:L 0=rows
 up:∀ i,i < j->QJ tbl i (QT lv i (L i)) (L (i+1))
 two:∀ i,1<=i->i < j->1 < (L i).length
section
variable{lv:V->Nat}{tbl tbl':List (Int×Dt)}{rows hs:List Dt}{j:Nat}{L:Nat->List Dt}
theorem Z2a.start(h:QJ tbl 0 (QT lv 0 rows) hs):Z2a lv tbl rows 1 (fun i=>if i=0 then rows else hs) where
 low:=rfl
 up:=fun i hi=>by
  obtain rfl:i=0:=by omega
  exact h
 two:=fun i h1 h2=>by omega
theorem Z2a.next(p:Z2a lv tbl rows j L)(s:∀ x∈tbl,x∈tbl')(hj:1<=j)(h2:1 < (L j).length)(h:QJ tbl' j (QT lv j (L j)) hs):Z2a lv tbl' rows (j+1) (fun i=>if i=j+1 then hs else L i) where
 low:=by show(if 0=j+1 then hs else L 0)=rows;rw[if_neg (by omega)];exact p.low
 up:=fun i hi=>by
  show QJ tbl' i (QT lv i (if i=j+1 then hs else L i)) (if i+1=j+1 then hs else L (i+1))
  rw[if_neg (by omega)]
  by_cases e:i=j
  ·subst e;rw[if_pos rfl];exact h
  ·rw[if_neg (by omega)];exact(p.up i (by omega)).mono s
 two:=fun i h1 hi=>by
  show 1 < (if i=j+1 then hs else L i).length
  rw[if_neg (by omega)]
  by_cases e:i=j
  ·subst e;exact h2
  ·exact p.two i h1 (by omega)
theorem Z2a.chain{top:Nat}(p:Z2a lv tbl rows (top+1) L)(h:(L (top+1)).length=1):X7 lv tbl rows top L:=⟨p.low,fun i hi=>p.up i (by omega),h,fun i h1 h2=>p.two i h1 (by omega)⟩
theorem Z2a.full(p:Z2a lv tbl rows j L)(hr:rows≠[]):∀ i,i<=j->L i≠[]:=by
 intro i
 induction i with
 | zero=>intro _;rw[p.low];exact hr
 | succ i ih =>
  intro h z;have u:=p.up i (by omega)
  have l:=u.length;rw[z]at l;exact Qza (ih (by omega)) (length_eq_zero_iff.mp l.symm)
theorem Z2a.top(p:Z2a lv tbl rows j L)(h6:∀ k,lv k<=6)(hr:rows≠[])(hj:7<=j):(L 7).length=1:=by
 have u:=p.up 6 (by omega)
 rw[Ztb (p.full hr 6 (by omega)) (fun e _=>by have:=h6 (Qr e);omega)]at u
 rw[u.length];rfl
end
end Tr
end
section
namespace L2
open PySem PySem.Spec PyProof.Rows
inductive FzH(H:Hp):Nat->V->Prop where
 | v {n:Nat} {x:V} (f:hV x=true):FzH H n x
 | t {n:Nat} {a:Addr} {xs:List V} (h:H a=some (.tup xs)) (r:∀ x∈xs,FzH H n x):FzH H (n+1) (.ref a)
theorem FzH.sameT{H H':Hp}{n:Nat}{x:V}(r:FzH H n x)(s:Zl H H'):FzH H' n x:=by
 induction r with
 | v f=>exact .v f
 | t h _ ih=>exact .t (s _ _ h) ih
theorem FzH.same{H H':Hp}{n:Nat}{x:V}(r:FzH H n x)(s:Qp H H'):FzH H' n x:=r.sameT s.t
theorem FzH.pair{H:Hp}{n:Nat}{a:Addr}{x y:V}(h:H a=some (.tup [x,y]))(hx:FzH H n x)(hy:FzH H n y):FzH H (n+1) (.ref a):=.t h fun z hz=>by
 rcases mem_cons.mp hz with e | hz
 ·rw[e];exact hx
 ·rw[mem_singleton.mp hz];exact hy
structure Yia(H:Hp)(n:Nat)(p:Addr)(H1:Hp)(xs:List V):Prop where
 same:Qp H H1
 at_:H1 p=some (.lst xs)
 fz:∀ x∈xs,FzH H1 n x
 new:H p=none
theorem Yia.start{H:Hp}{n:Nat}{p:Addr}(hp:H p=none):Yia H n p (upd H p (.lst [])) []:=⟨Qh hp _,Qd,(fun x hx=>by cases hx),hp⟩
theorem Yia.more{H H1 H2:Hp}{n:Nat}{p:Addr}{xs:List V}{x:V}(c:Yia H n p H1 xs)(s:Qp H1 H2)(f:FzH H2 n x):Yia H n p (upd H2 p (.lst (xs++[x]))) (xs++[x]) where
 same:=fun b o hb=>by rw[Qi (Qy hb c.new)];exact s _ _ (c.same _ _ hb)
 at_:=Qd
 fz:=fun y hy=>by
  have st:=YZ (zs:=xs++[x]) (s _ _ c.at_)
  rcases Vl.mp hy with h | h
  ·exact((c.fz y h).same s).sameT st
  ·rw[mem_singleton.mp h];exact f.sameT st
 new:=c.new
theorem FzH.td{H:Hp}{n:Nat}{x:V}(r:FzH H n x):∃ d,TD H n d x:=by
 induction r with
 | v f=>exact⟨_,TD.ofV f⟩
 | t h _ ih =>
  obtain⟨ds,q,_⟩:=TDs.of (Pd:=fun _=>True) fun x hx=>by obtain⟨d,hd⟩:=ih x hx;exact⟨d,hd,trivial⟩
  exact⟨.t ds,TD.ofT h q⟩
section
variable{a b c d e u:TS}{D:ZH}{σ:St}{H:Hp}
theorem YOb(h:∀ R:St->Hp->Prop,(∀ σ H,u D σ H->R σ H)->a { D with nx:=R } σ H):Yr a u D σ H:=h (u D) fun _ _ z=>z
theorem X8a(h:∀ R:St->Hp->Prop,(∀ σ H,u D σ H->R σ H)->Yr a b { D with nx:=R } σ H):Yr a (Yr b u) D σ H:=h (u D) fun _ _ z=>z
theorem Jxc(h:∀ R:St->Hp->Prop,(∀ σ H,u D σ H->R σ H)->Yr a (Yr b (Yr c d)) { D with nx:=R } σ H):Yr a (Yr b (Yr c (Yr d u))) D σ H:=h (u D) fun _ _ z=>z
theorem YPb(h:∀ R:St->Hp->Prop,(∀ σ H,u D σ H->R σ H)->Yr a (Yr b (Yr c (Yr d e))) { D with nx:=R } σ H):Yr a (Yr b (Yr c (Yr d (Yr e u)))) D σ H:=h (u D) fun _ _ z=>z
end
section
variable{X:Cx}
end
section
variable{X:Cx}
end
end L2
end
section
open L2 PySem
namespace Tr
theorem ZFa{α β:Type}{F:α->β->Prop}:∀ {xs ys:List α} {us:List β},Paired F (xs++ys) us->∃ u1 u2,us=u1++u2/\Paired F xs u1/\Paired F ys u2
 | [],_,us,h=>⟨[],us,rfl,.nil,h⟩
 | x::xs,ys,_,.cons r t=>by
  obtain⟨u1,u2,e,a,b⟩:=ZFa t;exact⟨_::u1,u2,by rw[e];rfl,.cons r a,b⟩
section
variable{lv:V->Nat}{tbl:List (Int×Dt)}{rows:List Dt}{top:Nat}{L:Nat->List Dt}
end
end Tr
end
section
namespace L2
open PySem PySem.Spec PyProof.Rows PySem.W
section
variable{prog:Program}{w:World}{A:Around}{E:YQ_}{s:Shared}
end
section
variable{X:Cx}{e:Expr}{te:TE}{p pos p2 pos2:Pos}{pins:YP_}{σ:St}{H:Hp}{s:Shared}
end
theorem X9a:typeLookup (.type "list") "keys"=pure none:=by rw[typeLookup_type,builtinLookup_eq_fast];kernel_rfl
theorem Jsa:typeLookup (.type "list") "__getattr__"=pure none:=by rw[typeLookup_type,builtinLookup_eq_fast];kernel_rfl
section
variable{prog:Program}{w:World}{A:Around}{E:YQ_}{h:Heap}{g:Array GenState}{d:Drawn}{t:Nat}{os:OsState}{a:Addr}{its:Array Value}{c:Nat}
theorem Jta{tk:Tok}{Q:PySem.Fin->Shared->Prop}(hh:A.handled=none)(hx:h.get? a=some { cls:=.type "list",dict:=none,data:=.seq its c,slots:=#[] })
 (hE:∀ h' tk e,Heap.NewAttrErr h h' e (.ref a) "keys"->E (.ref e) ⟨h',g,d,tk,os⟩) :
 wpAny (model prog w) A (Builtin.«object.__getattribute__» ⟨[.ref a,.str "keys" tk],[]⟩) Q E ⟨h,g,d,t,os⟩:=by
 have hT:(⟨h,g,d,t,os⟩:Shared).TypeIs (.ref a) "list":=⟨_,hx,rfl⟩;have f4:=X9a
 repeat (any_goals (first | assumption | wp_step))
 exact wpAny_raiseAttrError hh hE (attrMsg_fits (by decide +kernel) (by decide +kernel))
theorem Qab{tk:Tok}{Q:YQ_}(hh:A.handled=none)(hx:h.get? a=some { cls:=.type "list",dict:=none,data:=.seq its c,slots:=#[] })
 (hE:∀ h' tk e,Heap.NewAttrErr h h' e (.ref a) "keys"->E (.ref e) ⟨h',g,d,tk,os⟩) :
 wpAny (model prog w) A (getAttrBy (.ref a) (.str "keys" tk) false) Q E ⟨h,g,d,t,os⟩:=by
 have hT:(⟨h,g,d,t,os⟩:Shared).TypeIs (.ref a) "list":=⟨_,hx,rfl⟩;have f1:=sub_AttributeError;have f2:=F.slot_list_getattribute.lookup;have f3:=F.slot_list_getattribute.bind (.ref a);have f5:=Jsa;unfold getAttrBy
 repeat (any_goals (first | assumption | wp_step))
 refine codeAny_call_builtin F.slot_list_getattribute.plain F.entry_list_ga (F.slot_list_getattribute.check _ _ _ _ _ _ _ _ hT (F.args_list_getattribute_2 _ _) (Jta hh hx fun h' tk' e hx'=>?_))
 obtain⟨t',u',he⟩:=hx'.there;show wpAny _ _ (getattributeRaised _ _ _ _ _ _ _) _ _ _;unfold getattributeRaised
 repeat (any_goals (first | assumption | wp_step))
 exact hE _ _ _ hx'
theorem Yja{Q:Option Value->Shared->Prop}(hh:A.handled=none)(hx:h.get? a=some { cls:=.type "list",dict:=none,data:=.seq its c,slots:=#[] })
 (hQ:∀ h' tk,(∀ b u,h.get? b=some u->h'.get? b=some u)->Q none ⟨h',g,d,tk,os⟩):wpAny (model prog w) A (getAttr? (.ref a) "keys") Q E ⟨h,g,d,t,os⟩:=by
 unfold getAttr? getAttrBy?;refine Va (wpAny_mkText ?_)
 refine Va (wpAny_attempt (Qab hh hx fun h' tk e hx'=>?_))
 obtain⟨t',u',he⟩:=hx'.there;have f1:=sub_AttributeError
 repeat (any_goals (first | assumption | wp_step))
 exact hQ _ _ hx'.keeps
end
theorem XU:entryFor table "dict.update.loop"=some Builtin.«dict.update.loop»:=entryFor_of_tree (by kernel_rfl)
theorem Z7:plainId "dict.update.loop"=true:=by decide +kernel
section
variable{prog:Program}{w:World}{K:Type}[DecidableEq K]{knd:KeyKind prog w K}{A:Around}{E:YQ_}{s:Shared}
def Xi(knd:KeyKind prog w K)(h:Heap)(vs:List Value)(kks:List (K×Value)):Prop:=∀ (i:Nat) k x,kks[i]?=some (k,x)->∃ t key,vs[i]?=some (.ref t)/\IsTup h t #[key,x]/\knd.is k key=true
theorem Xi.but{h h':Heap}{vs:List Value}{kks:List (K×Value)}(p:Xi knd h vs kks)(P:Addr->Prop)(hP:∀ t its,IsTup h t its->P t)(hk:∀ b o,P b->h.get? b=some o->h'.get? b=some o):Xi knd h' vs kks:=fun i k x e=>by
 obtain⟨t,key,a,b,c⟩:=p i k x e;have pt:=hP t _ b;obtain⟨o,ho,r⟩:=b;exact⟨t,key,a,⟨o,hk t o pt ho,r⟩,c⟩
theorem Yka{it l d:Addr}{vs:List Value}{kks:List (K×Value)}(hh:A.handled=none)(hl:kks.length=vs.length)(hb:vs.length<=1000)(hne:it≠d)(hld:l≠d)(hil:l≠it) :
 ∀ (m i:Nat) (tk0:Tok) (s:Shared) (R:Result->Shared->Prop),m=vs.length - i->i<=vs.length->s.heap.IsListIter it l i->s.heap.IsList l vs.toArray->s.heap.DictOf knd d (merged [] (kks.take i))->(merged [] (kks.take i)).length<=i->Xi knd s.heap vs kks ->
  (∀ h' tk,(∀ b o,b≠it->b≠d->s.heap.get? b=some o->h'.get? b=some o)->h'.DictOf knd d (merged [] kks)->R (.ok (.ret .none)) { s with heap:=h',toks:=tk }) ->
  codeAny (model prog w) A (.builtin "dict.update.loop" ⟨[.ref d,.ref it,.int i tk0,.none],[]⟩) R s:=by
 intro m
 induction m with
 | zero =>
  intro i tk0 s R hm hi hit hli hD _ hp hR;have e:i=vs.length:=by omega
  subst e;refine codeAny_builtin XU ?_
  rw[Around.under_plainId Z7 _];unfold Builtin.«dict.update.loop»;dsimp only;refine Va (wpAny_pyNext_list_end hh hit hli (by simp) fun h' eb=>?_)
  dsimp only;rw[take_of_length_le (by omega)]at hD
  show wpAny _ _ (Builtin.Dict.addKeywords d [] >>= _) _ _ _;refine Va (Vg (Vg (hR h' s.toks (fun b o h1 h2 e=>eb b o h1 e) (hD.extBut eb (Ne.symm hne)))))
 | succ m ih =>
  intro i tk0 s R hm hi hit hli hD lD hp hR;have hi':i < vs.length:=by omega
  obtain⟨k,x,hki⟩:∃ k x,kks[i]?=some (k,x):=⟨_,_,Vb (by omega)⟩
  obtain⟨t,key,hvi,ht,hkey⟩:=hp i k x hki;refine codeAny_builtin XU ?_
  rw[Around.under_plainId Z7 _];unfold Builtin.«dict.update.loop»;dsimp only;refine Va (wpAny_pyNext_list_item hit hli (x:=.ref t) (by simpa using hvi) fun h' hit' sb=>?_)
  dsimp only;obtain⟨ot,hot,hct,nt,hdt⟩:=id ht;have t_it:t≠it:=fun z=>by
   obtain⟨oi,hoi,hci,_⟩:=hit;rw[z,hoi]at hot;cases hot;rw[hci]at hct;exact absurd (Value.type.inj hct) (by decide)
  have t_d:t≠d:=fun z=>by
   obtain⟨od,_,_,hod,hcd,_⟩:=hD;rw[z,hod]at hot;cases hot;have:=hcd.1;rw[this]at hct;exact absurd (Value.type.inj hct) (by decide)
  have hot':h'.get? t=some ot:=(sb.2 t t_it).trans hot;have hD':h'.DictOf knd d (merged [] (kks.take i)):=hD.sameBut sb (Ne.symm hne);refine Va (wpAny_holding (Va (wpAny_tryCatch ?_)))
  unfold Builtin.Dict.pairItems;refine Va (wpAny_typeOf (T:="tuple") ⟨_,hot',hct⟩ ?_)
  rw[if_pos (by decide)]
  refine Va (wpAny_seqItems hot' hdt (Vg ?_))
  show wpAny _ _ (holding [key,x] (dictSet d key x)) _ _ _;refine wpAny_holding (wpAny_dictSet_pairs hkey hD' (fun h2 hD2 sb2=>?_) (Vj lD (Vj (show i<=1000 by omega) (by rw[sizeLine_eq];decide))))
  have et:merged [] (kks.take (i+1))=stored (merged [] (kks.take i)) k x:=by
   unfold merged;rw[take_add_one,hki,foldl_append];rfl
  have keep:∀ b o,b≠it->b≠d->s.heap.get? b=some o->h2.get? b=some o:=fun b o h1 h2 e=>(sb2.2 b h2).trans ((sb.2 b h1).trans e)
  have tup_off:∀ t' its,IsTup s.heap t' its->t'≠it/\t'≠d:=fun t' its ⟨o',ho',hc',_⟩=>by
   constructor
   ·intro z
    obtain⟨oi,hoi,hci,_⟩:=hit;rw[z,hoi]at ho';cases ho';rw[hci]at hc';exact absurd (Value.type.inj hc') (by decide)
   ·intro z
    obtain⟨od,_,_,hod,hcd,_⟩:=hD;rw[z,hod]at ho';cases ho';rw[hcd.1]at hc';exact absurd (Value.type.inj hc') (by decide)
  refine Vg ⟨plainId_quiet Z7 _,?_⟩
  refine ih (i+1) _ _ R (by omega) (by omega) ?_ ?_ (by rw[et];exact hD2) ?_ (hp.but (fun b=>b≠it/\b≠d) tup_off fun b o hb e=>keep b o hb.1 hb.2 e) fun h3 tk hk3 hD3=>?_
  ·obtain⟨o,ho,r⟩:=hit'
   exact⟨o,(sb2.2 it hne).trans ho,r⟩
  ·obtain⟨o,ho,r⟩:=hli
   exact⟨o,(sb2.2 l hld).trans ((sb.2 l hil).trans ho),r⟩
  ·rw[et]
   unfold stored
   split
   ·simp;omega
   ·simp;omega
  ·exact hR h3 tk (fun b o h1 h2 e=>hk3 b o h1 h2 (keep b o h1 h2 e)) hD3
theorem XAb{R:Result->Shared->Prop}{D l:Addr}{vs:List Value}{kks:List (K×Value)}{c:Nat}(hh:A.handled=none)(hnew:s.heap.DictOf knd D [])(hx:s.heap.get? l=some { cls:=.type "list",dict:=none,data:=.seq vs.toArray c,slots:=#[] })(hlD:l≠D)(hl:kks.length=vs.length)(hb:vs.length<=1000)(hp:Xi knd s.heap vs kks)
 (hR:∀ h' tk,(∀ b o,b≠D->s.heap.get? b=some o->h'.get? b=some o)->h'.DictOf knd D (merged [] kks)->R (.ok (.ret .none)) { s with heap:=h',toks:=tk }) :
 wpAny (model prog w) A.in1 (Builtin.«dict.__init__» ⟨[.ref D,.ref l],[]⟩)
  (fun fin s'=>match fin with | .done f=>R (.ok f) s' | .again c'=>c'.quiet=true/\codeAny (model prog w) A c' R s') (fun e s'=>R (.error e) s') s:=by
 unfold Builtin.«dict.__init__»;refine Va ?_
 unfold Builtin.Dict.selfAndRest;refine Va (wpAny_notOrdered_dict hnew.typeIs ?_)
 show wpAny _ _ (pure (D,[Value.ref l])) _ _ _;refine Vg ?_
 show wpAny _ _ (Builtin.Dict.updateFrom "dict.__init__" D (.ref l) [] .none) _ _ _;unfold Builtin.Dict.updateFrom;refine Va (wpAny_typeOf (T:="list") ⟨_,hx,rfl⟩ ?_)
 rw[if_pos (by decide)]
 obtain⟨hp0,g,dr,tk0,os⟩:=s;refine Va (Yja (A:=A.in1) hh hx fun h1 tk1 keep=>?_)
 rw[if_pos (by decide)]
 refine Va (wpAny_rule ?_)
 have hx1:=keep l _ hx;have hl1:h1.IsList l vs.toArray:=⟨_,hx1,rfl,c,rfl⟩;refine Va (wpAny_pyIter_list (s:=⟨h1,g,dr,tk1,os⟩) hl1 ?_)
 have kp:∀ b o,hp0.get? b=some o->(h1.push { cls:=.type "list_iterator",data:=.fields #[.ref l,.int 0 0] }).get? b=some o:=fun b o e=>Vd _ (keep b o e)
 have szle:∀ b o,hp0.get? b=some o->b < h1.objs.size:=fun b o e=>Vh (keep b o e)
 have hD2:(h1.push { cls:=.type "list_iterator",data:=.fields #[.ref l,.int 0 0] }).DictOf knd D []:=let ⟨o,es,ep,ho,r⟩:=hnew;⟨o,es,ep,kp D o ho,r⟩
 have dlt:D < h1.objs.size:=by obtain⟨o,_,_,ho,_⟩:=hnew;exact szle D o ho
 refine Vg ⟨plainId_quiet Z7 _,?_⟩
 refine Yka (knd:=knd) (A:=A) (it:=h1.objs.size) (l:=l) (d:=D) (vs:=vs) (kks:=kks) hh hl hb (Nat.ne_of_gt dlt) hlD (Nat.ne_of_lt (szle l _ hx)) vs.length 0 _ _ R (by omega) (Vk _) ⟨_,Vi _ rfl,rfl,rfl⟩ ⟨_,kp l _ hx,rfl,c,rfl⟩ hD2 (Vk _) (hp.but (fun _=>True) (fun _ _ _=>trivial) fun b o _ e=>kp b o e) fun h' tk hk hD'=>?_
 exact hR h' tk (fun b o hb e=>hk b o (Nat.ne_of_lt (szle b o e)) hb (kp b o e)) hD'
theorem XBb{Q:YQ_}{l:Addr}{vs:List Value}{kks:List (K×Value)}{c:Nat}(hh:A.handled=none)(hx:s.heap.get? l=some { cls:=.type "list",dict:=none,data:=.seq vs.toArray c,slots:=#[] })(hl:kks.length=vs.length)(hb:vs.length<=1000)(hp:Xi knd s.heap vs kks)
 (h:∀ h' tk,(∀ b o,s.heap.get? b=some o->h'.get? b=some o)->h'.DictOf knd s.heap.objs.size (merged [] kks)->Q (.ref s.heap.objs.size) { s with heap:=h',toks:=tk }) :
 wpAny (model prog w) A (call (.type "dict") [.ref l]) Q E s:=by
 refine callType_codes (Q₁:=fun obj s₁=>obj=.ref s.heap.objs.size/\s₁={ s with heap:=s.heap.push { cls:=.type "dict",data:=.dict #[] } }) F.kt_called_dict (F.kt_typeCall_dict_1 _) F.entry_dict_init (kt_code_dict_new _ ⟨rfl,rfl⟩) fun obj s₁ h₁=>?_
 obtain⟨rfl,rfl⟩:=h₁;have hnew:(s.heap.push { cls:=.type "dict",data:=.dict #[] }).DictOf knd s.heap.objs.size []:=Heap.DictOf.new s.heap;have hlt:l < s.heap.objs.size:=Vh hx;refine⟨hnew.typeIs,F.args_dict_init_2 _ _,XAb (A:=A.in1) (knd:=knd) hh hnew (Vd _ hx) (Nat.ne_of_lt hlt) hl hb (hp.but (fun _=>True) (fun _ _ _=>trivial) fun b o _ e=>Vd _ e) fun h' tk hk hD'=>?_⟩
 exact⟨rfl,h h' tk (fun b o e=>hk b o (Nat.ne_of_lt (Vh e)) (Vd _ e)) hD'⟩
end
def Xjc:List V->Hp->VK->Prop:=fun xs H Q=>∃ (p:Addr) (ys:List V) (kvs:List (Key×V)),xs=[.ref p]/\H p=some (.lst ys)/\ys.length<=1000/\Paired (fun(kv:Key×V) y=>∃ t,y=.ref t/\H t=some (.tup [kV kv.1,kv.2])) kvs ys/\∀ D,H D=none->Q (.ref D) (upd H D (.dK (YF [] kvs)))
theorem Zub{X:Cx}{pins:YP_}{σ:St}{H:Hp}{s:Shared}(I:Inv X pins σ H s):∀ {kvs:List (Key×V)} {ys:List V} {its:List Value},Paired (fun(kv:Key×V) y=>∃ t,y=V.ref t/\H t=some (.tup [kV kv.1,kv.2])) kvs ys->QE ys its ->
 ∃ kks:List (Key×Value),KV kvs kks/\Xi (QM X.prog X.w) s.heap its kks
 | [],_,_,.nil,v=>by cases v;exact⟨[],.nil,fun i k x e=>by simp at e⟩
 | kv::kvs,_,_,.cons r p,v=>by
  cases v with
  | cons rv v =>
   obtain⟨t,rfl,ht⟩:=r;obtain⟨kks,a,b⟩:=Zub I p v;cases rv;obtain⟨hz,jts,rj,hj⟩:=(show QL X.prog X.w H s.heap t (.tup [kV kv.1,kv.2]) from I.hok t _ ht)
   cases rj with
   | @cons _ key _ _ r1 rj =>
   cases rj with
   | @cons _ x _ _ r2 rj =>
   cases rj;refine⟨(kv.1,x)::kks,.cons ⟨rfl,r2⟩ a,fun i k y e=>?_⟩
   cases i with
   | zero =>
    simp at e;obtain⟨rfl,rfl⟩:=e;exact⟨t,key,rfl,hj,(Jrc r1).1⟩
   | succ i =>
    simp at e;obtain⟨t',key',h1,h2,h3⟩:=b i k y e;exact⟨t',key',by simpa using h1,h2,h3⟩
theorem JHb{X:Cx}(hh:X.A.handled=none):YV X (.type "dict") Xjc:=by
 intro pins s σ H xs us Q I r h;obtain⟨p,ys,kvs,rfl,hp,lz,pr,q⟩:=h;obtain⟨u,rfl,ru⟩:=Zka r;obtain rfl:u=Value.ref p:=ru;obtain⟨hz,its,n,rv,hx⟩:=(show QL X.prog X.w H s.heap p (.lst ys) from I.hok p _ hp)
 obtain⟨kks,kv,pa⟩:=Zub I pr rv;have l1:=Paired.length pr;have l2:=rv.length;have l3:=kv.length;refine XBb (knd:=QM X.prog X.w) hh hx (by omega) (by omega) pa fun h' tk kp hD=>?_
 have hzz:(YF [] kvs).length<=sizeLine:=by
  have h1:=QIa kvs [];rw[length_nil]at h1;rw[sizeLine_eq];omega
 exact⟨.ref s.heap.objs.size,_,I.laid (a:=s.heap.objs.size) (o:=.dK (YF [] kvs)) (t':=tk) kp (Ve _) ⟨hzz,beq_eq_false_iff_ne.mpr (Ne.symm (Nat.ne_of_lt I.big)),_,kv.merge .nil,hD⟩,rfl,q _ (I.hok.fresh (Ve _))⟩
def Xkc:List V->Hp->VK->Prop:=fun xs H Q=>∃ d kvs,xs=[.ref d]/\H d=some (.dK kvs)/\kvs.length<=1000/\∀ D,H D=none->Q (.ref D) (upd H D (.lst (kvs.map fun p=>kV p.1)))
theorem JIb{X:Cx}(hh:X.A.handled=none):YV X (.type "list") Xkc:=by
 intro pins s σ H xs us Q I r h;obtain⟨d,kvs,rfl,hd,hl,q⟩:=h;obtain⟨u,rfl,ru⟩:=Zka r;obtain rfl:u=Value.ref d:=ru;obtain⟨z,y,vs,rv,o,es,ep,e0,c1,c2,c3⟩:=(show QL X.prog X.w H s.heap d (.dK kvs) from I.hok d _ hd)
 have da:s.heap.DictAt (QM X.prog X.w) d vs ep:=⟨o,es,e0,c1,c2,c3⟩;refine kdl_call (kdl_dict (knd:=QM X.prog X.w) (ep:=ep) y) hh da (by rw[<- rv.len];exact Vv (QO (by omega))) fun h' tk acc c kp hD hacc=>?_
 exact⟨.ref s.heap.objs.size,_,I.laid (t':=tk) kp (Ve _) (show QL X.prog X.w _ h' _ (.lst (kvs.map fun p=>kV p.1)) from⟨by rw[Vr];exact Vv (QO (by omega)),acc.toList,c,Xyb rv hacc,by simpa using hD⟩),rfl,q _ (I.hok.fresh (Ve _))⟩
theorem Jyc:bootBuiltins "dict"=some (.type "dict"):=by rfl
section
variable{prog:Program}{w:World}{A:Around}{E:YQ_}{h:Heap}{g:Array GenState}{d:Drawn}{t:Nat}{os:OsState}{a:Addr}{its:Array Value}{c:Nat}{sl:Array (Option Value)}
end
section
variable{prog:Program}{w:World}{K:Type}[DecidableEq K]{knd:KeyKind prog w K}{A:Around}{E:YQ_}{s:Shared}
end
section
variable{prog:Program}{w:World}{K:Type}[DecidableEq K]{knd:KeyKind prog w K}{A:Around}{E:YQ_}{s:Shared}
end
section
variable{prog:Program}{w:World}{A:Around}{E:YQ_}{s:Shared}
section
variable{it a:Addr}{i ep:Nat}{es:Array (Int×Value)}{t:SetTable}{Q:Option Value->Shared->Prop}
end
section
variable{a:Addr}{i ep slot:Nat}{es:Array (Int×Value)}{t:SetTable}{R:Option (Value×Nat)->Shared->Prop}
end
end
section
variable{prog:Program}{w:World}{A:Around}{E:YQ_}{s:Shared}
section
variable{it a tp:Addr}{ep:Nat}{es:Array (Int×Value)}{t:SetTable}
end
section
variable{a:Addr}{ep:Nat}{es:Array (Int×Value)}{t:SetTable}
end
end
section
variable{X:Cx}{pins:YP_}{σ:St}{H:Hp}{s:Shared}{A:Around}{E:YQ_}
end
section
variable{X:Cx}{e:Expr}{te:TE}{p pos p2 pos2:Pos}{pins:YP_}{σ:St}{H:Hp}{s:Shared}
end
section
variable{X:Cx}{e:Expr}{te:TE}{p pos p2 pos2:Pos}{pins:YP_}{σ:St}{H:Hp}{s:Shared}
end
end L2
end
section
namespace Rw
open PySem L2 Pl
end Rw
end
section
open L2 PySem
namespace Tr
section
variable{lv:V->Nat}{l:Int}
theorem Q8c{A B:List (List Dt)}{x:Dt}(h:B≠[]):step lv l (A++B) x=A++step lv l B x:=by
 obtain⟨ini,last,rfl⟩:=Zp h;unfold step
 by_cases c:l < lv (Qr x)
 ·rw[if_pos (.inr c),if_pos (.inr c),Vq]
 ·rw[if_neg (fun z=>z.elim (fun z=>by simp at z) c),if_neg (fun z=>z.elim (fun z=>by simp at z) c)]
  rw[<- Vq,dropLast_concat,dropLast_concat,getLast?_concat,getLast?_concat,Vq]
theorem ZGa{X Y:List Dt}(h:X=[]\/Y=[]\/l < lv (QS Y)):QT lv l (X++Y)=QT lv l X++QT lv l Y:=by
 rcases h with h | h | h
 ·rw[h];rfl
 ·rw[h,append_nil];unfold QT;simp
 ·by_cases hY:Y=[]
  ·rw[hY,append_nil];unfold QT;simp
  revert h hY
  refine Y1 (C:=fun Y=>l < lv (QS Y)->Y≠[]->QT lv l (X++Y)=QT lv l X++QT lv l Y) (fun _ z=>absurd rfl z) (fun Y x ih h _=>?_) Y
  rw[<- Vq,J4,J4]
  by_cases e:Y=[]
  ·subst e
   rw[append_nil];unfold step;rw[if_pos (.inr h),if_pos (.inl rfl)];rfl
  ·rw[ih (by cases Y with | nil=>exact absurd rfl e | cons y r=>exact h) e,Q8c (Qza e)]
theorem Zvb{es:List Dt}{parts:List (List Dt)}(c:Ys lv l es parts):QT lv l es=parts:=by
 revert es
 refine Y1 (C:=fun parts=>∀ {es:List Dt},Ys lv l es parts->QT lv l es=parts) (fun {es} c=>?_) (fun ps p ih es c=>?_) parts
 ·have:=c.flat;simp at this;rw[this];rfl
 have hp:=c.full p (by simp)
 obtain⟨x,r,rfl⟩:∃ x r,p=x::r:=by cases p with | nil=>exact absurd rfl hp | cons x r=>exact⟨x,r,rfl⟩
 have c':Ys lv l ps.flatten ps:=⟨rfl,fun q hq=>c.full q (mem_append_left _ hq),fun i y s hi e=>c.head i y s hi (by rw[getElem?_append_left (Vc.mp e).1];exact e),fun y s hy=>c.rest y s (mem_append_left _ hy)⟩
 have fl:=c.flat;rw[flatten_append]at fl;simp at fl;rw[<- fl];have h1:ps.flatten=[]\/(x::r)=[]\/l < lv (QS (x::r)):=by
  by_cases e:ps=[]
  ·exact .inl (by rw[e];rfl)
  ·refine .inr (.inr ?_)
   exact c.head ps.length x r (length_pos_iff.mpr e) (by simp)
 rw[ZGa h1,ih c']
 congr 1
 have h2:∀ y∈r,(lv (Qr y):Int)<=l:=c.rest x r (by simp)
 clear fl h1 c' hp c ih
 revert h2
 refine Y1 (C:=fun r=>(∀ y∈r,(lv (Qr y):Int)<=l)->QT lv l (x::r)=[x::r]) (fun _=>?_) (fun r y ih h=>?_) r
 ·unfold QT step;simp
 ·rw[show x::(r++[y])=(x::r)++[y] from rfl,J4,ih fun z hz=>h z (mem_append_left _ hz)]
  have:=h y (by simp)
  unfold step;rw[if_neg (fun z=>z.elim (fun z=>by simp at z) fun z=>by omega)]
  rfl
theorem Ys.left{es:List Dt}{P Q:List (List Dt)}(c:Ys lv l es (P++Q)):Ys lv l P.flatten P:=⟨rfl,fun q hq=>c.full q (mem_append_left _ hq),fun i y s hi e=>c.head i y s hi (by rw[getElem?_append_left (Vc.mp e).1];exact e),fun y s hy=>c.rest y s (mem_append_left _ hy)⟩
theorem Ys.right{es:List Dt}{P Q:List (List Dt)}(c:Ys lv l es (P++Q)):Ys lv l Q.flatten Q:=⟨rfl,fun q hq=>c.full q (Vp _ hq),fun i y s hi e=>c.head (P.length+i) y s (by omega) (by rw[getElem?_append_right (by omega),Nat.add_sub_cancel_left];exact e),fun y s hy=>c.rest y s (Vp _ hy)⟩
end
section
variable{tbl tbl':List (Int×Dt)}{l:Int}
theorem QJ.app{P P':List (List Dt)}{hs hs':List Dt}(h:QJ tbl l P hs)(h':QJ tbl l P' hs'):QJ tbl l (P++P') (hs++hs'):=by
 induction h with
 | nil=>exact h'
 | cons m _ ih=>exact .cons m ih
theorem QJ.split:∀ {hs hs':List Dt} {P:List (List Dt)},QJ tbl l P (hs++hs')->∃ P1 P2,P=P1++P2/\QJ tbl l P1 hs/\QJ tbl l P2 hs'
 | [],hs',P,h=>⟨[],P,rfl,.nil,h⟩
 | x::hs,hs',P,h=>by
  rw[cons_append]at h;generalize e:x::(hs++hs')=q at h;cases h with
  | nil=>cases e
  | @cons part parts _ n m r =>
   injection e with e1 e2
   subst e1 e2;obtain⟨P1,P2,rfl,a,b⟩:=QJ.split r;exact⟨part::P1,P2,rfl,.cons m a,b⟩
end
def Tow(lv:V->Nat)(tbl:List (Int×Dt)):Nat->List Dt->List Dt->Prop
 | 0,R,hs=>hs=R
 | l+1,R,hs=>∃ gs,Tow lv tbl l R gs/\QJ tbl l (QT lv l gs) hs
section
variable{lv:V->Nat}{tbl tbl':List (Int×Dt)}
theorem Tow.mono(s:∀ x∈tbl,x∈tbl'):∀ {l:Nat} {R hs:List Dt},Tow lv tbl l R hs->Tow lv tbl' l R hs
 | 0,_,_,h=>h
 | l+1,_,_,⟨gs,a,b⟩=>⟨gs,a.mono s,b.mono s⟩
theorem Tow.det(f:Fn tbl):∀ {l:Nat} {R hs hs':List Dt},Tow lv tbl l R hs->Tow lv tbl l R hs'->hs=hs'
 | 0,_,_,_,h,h'=>h.trans h'.symm
 | l+1,_,_,_,⟨gs,a,b⟩,⟨gs',a',b'⟩=>by
  have:=Tow.det f a a';subst this;exact b.det f b'
theorem XDa{P:List (List Dt)}{p:List Dt}(h:p≠[]):QS ((p::P).flatten)=QS p:=by
 cases p with
 | nil=>exact absurd rfl h
 | cons x r=>rfl
theorem Tow.fst:∀ {l:Nat} {R hs:List Dt},Tow lv tbl l R hs->(R=[]↔hs=[])/\QS hs=QS R
 | 0,_,_,h=>by rw[show _=_ from h];exact⟨Iff.rfl,rfl⟩
 | l+1,R,hs,⟨gs,a,b⟩=>by
  obtain⟨h1,h2⟩:=a.fst;have c:=JR (lv:=lv) (l:Int) gs;generalize QT lv l gs=P at b c;cases b with
  | nil =>
   have:=c.flat;simp at this;subst this;exact⟨⟨fun _=>rfl,fun _=>h1.mpr rfl⟩,h2⟩
  | @cons part parts hs n m r =>
   have fu:=c.full part (by simp)
   have fl:=c.flat;refine⟨⟨fun e=>?_,fun e=>by cases e⟩,?_⟩
   ·rw[h1.mp e]at fl
    simp at fl;exact absurd fl.1 fu
   ·rw[<- h2,<- fl,XDa fu];rfl
theorem Tow.nil(l:Nat):Tow lv tbl l [] []:=by
 induction l with
 | zero=>rfl
 | succ l ih=>exact⟨[],ih,.nil⟩
theorem Tow.ne{l:Nat}{R hs:List Dt}(h:Tow lv tbl l R hs)(n:R≠[]):hs≠[]:=fun z=>n (h.fst.1.mpr z)
theorem Tow.ne'{l:Nat}{R hs:List Dt}(h:Tow lv tbl l R hs)(n:hs≠[]):R≠[]:=fun z=>n (h.fst.1.mp z)
theorem Tow.app:∀ {l:Nat} {A B a b:List Dt},Tow lv tbl l A a->Tow lv tbl l B b->(A=[]\/B=[]\/l<=lv (QS B))->Tow lv tbl l (A++B) (a++b)
 | 0,_,_,_,_,ha,hb,_=>by rw[show _=_ from ha,show _=_ from hb];rfl
 | l+1,A,B,_,_,⟨ga,a1,a2⟩,⟨gb,b1,b2⟩,h=>by
  refine⟨ga++gb,a1.app b1 (h.imp_right fun z=>z.imp_right fun z=>by omega),?_⟩
  rw[ZGa]
  ·exact a2.app b2
  ·rcases h with h | h | h
   ·exact .inl (a1.fst.1.mp h)
   ·exact .inr (.inl (b1.fst.1.mp h))
   ·refine .inr (.inr ?_);rw[b1.fst.2];omega
theorem Tow.split:∀ {l:Nat} {R a b:List Dt},Tow lv tbl l R (a++b)->∃ A B,R=A++B/\Tow lv tbl l A a/\Tow lv tbl l B b/\(a=[]\/b=[]\/l<=lv (QS B))
 | 0,R,a,b,h=>⟨a,b,(show _=R from h).symm,rfl,rfl,.inr (.inr (Vk _))⟩
 | l+1,R,a,b,⟨gs,h1,h2⟩=>by
  obtain⟨P,Q,e,hP,hQ⟩:=h2.split;have c:=JR (lv:=lv) (l:Int) gs;rw[e]at c;have eg:gs=P.flatten++Q.flatten:=by rw[<- flatten_append];exact c.flat.symm
  rw[eg]at h1;obtain⟨A,B,eR,tA,tB,hc⟩:=h1.split;refine⟨A,B,eR,⟨_,tA,by rw[Zvb c.left];exact hP⟩,⟨_,tB,by rw[Zvb c.right];exact hQ⟩,?_⟩
  by_cases ea:a=[]
  ·exact .inl ea
  by_cases eb:b=[]
  ·exact .inr (.inl eb)
  refine .inr (.inr ?_)
  rw[<- tB.fst.2];cases hQ with
  | nil=>exact absurd rfl eb
  | @cons part parts hs n m r =>
   have fu:=c.full part (by simp)
   rw[XDa fu];have hp:0 < P.length:=by rw[<- hP.length];exact length_pos_iff.mpr ea
   obtain⟨x,s,rfl⟩:∃ x s,part=x::s:=by cases part with | nil=>exact absurd rfl fu | cons x s=>exact⟨x,s,rfl⟩
   have:=c.head P.length x s hp (by simp)
   show l+1<=lv (Qr x)
   omega
theorem Tow.one{l:Nat}{R:List Dt}{h:Dt}(t:Tow lv tbl (l+1) R [h]):∃ n part,h=ZQ (QS R) n/\(n,Zc (l:Int) part)∈tbl/\Tow lv tbl l R part/\QT lv l part=[part]:=by
 obtain⟨gs,a,b⟩:=t;have c:=JR (lv:=lv) (l:Int) gs;generalize e:QT lv l gs=P at b c;cases b with
 | @cons part parts hs n m r =>
  cases r;have fl:=c.flat;simp at fl;subst fl;exact⟨n,part,by rw[a.fst.2],m,a,e⟩
theorem X7.tow{rows:List Dt}{top:Nat}{L:Nat->List Dt}(c:X7 lv tbl rows top L):∀ j,j<=top+1->Tow lv tbl j rows (L j):=by
 intro j
 induction j with
 | zero=>intro _;exact c.low
 | succ j ih=>intro h;exact⟨L j,ih (by omega),c.up j (by omega)⟩
theorem Tow.at_{l:Nat}{R a b:List Dt}{h:Dt}(t:Tow lv tbl (l+1) R (a++h::b)):∃ A M B n part,R=A++(M++B)/\Tow lv tbl (l+1) A a/\Tow lv tbl (l+1) M [h]/\Tow lv tbl (l+1) B b/\h=ZQ (QS M) n/\(n,Zc (l:Int) part)∈tbl/\Tow lv tbl l M part/\M≠[]/\(A=[]\/l+1<=lv (QS M))/\(B=[]\/l+1<=lv (QS B)):=by
 obtain⟨A,N,e,tA,tN,h1⟩:=t.split;obtain⟨M,B,e2,tM,tB,h2⟩:=(show Tow lv tbl (l+1) N ([h]++b) from tN).split
 obtain⟨n,part,eh,hm,tp,_⟩:=tM.one;have hM:M≠[]:=tM.ne' (by simp)
 refine⟨A,M,B,n,part,by rw[e,e2],tA,tM,tB,eh,hm,tp,hM,?_,?_⟩
 ·rcases h1 with z | z | z
  ·exact .inl (tA.fst.1.mpr z)
  ·cases z
  ·refine .inr ?_
   rw[e2]at z;cases M with
   | nil=>exact absurd rfl hM
   | cons x r=>exact z
 ·rcases h2 with z | z | z
  ·cases z
  ·exact .inl (tB.fst.1.mpr z)
  ·exact .inr z
theorem Tow.mid{l:Nat}{A M B a m b:List Dt}(tA:Tow lv tbl (l+1) A a)(tM:Tow lv tbl (l+1) M m)(tB:Tow lv tbl (l+1) B b)(h1:A=[]\/M=[]\/l+1<=lv (QS M))(h2:B=[]\/l+1<=lv (QS B)):Tow lv tbl (l+1) (A++(M++B)) (a++(m++b)):=by
 refine tA.app (tM.app tB (.inr h2)) ?_
 rcases h1 with z | z | z
 ·exact .inl z
 ·subst z;exact .inr h2
 ·by_cases e:M=[]
  ·subst e;exact .inr h2
  ·refine .inr (.inr ?_)
   cases M with
   | nil=>exact absurd rfl e
   | cons x r=>exact z
theorem Tow.up{l:Nat}{R gs hs:List Dt}(t:Tow lv tbl l R gs)(h:QJ tbl l (QT lv l gs) hs):Tow lv tbl (l+1) R hs:=⟨gs,t,h⟩
theorem YQb{es:List Dt}{l:Int}:(QT lv l es).length<=es.length:=by
 have c:=JR (lv:=lv) l es;have fu:=c.full;have fl:=c.flat;generalize QT lv l es=P at fu fl;rw[<- fl];clear fl c
 induction P with
 | nil=>simp
 | cons p r ih =>
  have h1:=fu p (by simp)
  have h2:0 < p.length:=length_pos_iff.mpr h1;have:=ih fun q hq=>fu q (Vo _ hq)
  rw[flatten_cons,Vs,length_cons];omega
theorem Tow.len{l:Nat}{R gs hs:List Dt}(t:Tow lv tbl l R gs)(h:QJ tbl l (QT lv l gs) hs):hs.length<=gs.length:=by
 rw[h.length];exact YQb
theorem Tow.len0:∀ {l:Nat} {R hs:List Dt},Tow lv tbl l R hs->hs.length<=R.length
 | 0,_,_,h=>by rw[show _=_ from h];exact Ve _
 | l+1,_,_,⟨gs,a,b⟩=>Vj (a.len b) a.len0
end
section
variable(lt:V->V->Prop)
def JS(k:V)(row:Dt)(R R':List Dt):Prop:=∃ A C,R'=A++row::C/\(R=A++C\/∃ o,R=A++o::C/\Qr o=k)/\(∀ a∈A,lt (Qr a) k)/\∀ c∈C,lt k (Qr c)
def QEa(k:V)(R R':List Dt):Prop:=∃ A o C,R=A++o::C/\R'=A++C/\Qr o=k
def UpR(R:List Dt):Prop:=R.Pairwise fun a b=>lt (Qr a) (Qr b)
variable{lt}
theorem JS.mid{k:V}{row:Dt}{A M M' B:List Dt}(h:JS lt k row M M')(hA:∀ a∈A,lt (Qr a) k)(hB:∀ b∈B,lt k (Qr b)):JS lt k row (A++(M++B)) (A++(M'++B)):=by
 obtain⟨X,Y,e,e2,h1,h2⟩:=h;refine⟨A++X,Y++B,by rw[e];simp,?_,fun a ha=>?_,fun c hc=>?_⟩
 ·rcases e2 with e2 | ⟨o,e2,ho⟩
  ·left;rw[e2];simp
  ·right;exact⟨o,by rw[e2];simp,ho⟩
 ·exact(Vl.mp ha).elim (hA a) (h1 a)
 ·exact(Vl.mp hc).elim (h2 c) (hB c)
theorem QEa.mid{k:V}{A M M' B:List Dt}(h:QEa k M M'):QEa k (A++(M++B)) (A++(M'++B)):=by
 obtain⟨X,o,Y,e,e2,h1⟩:=h;exact⟨A++X,o,Y++B,by rw[e];simp,by rw[e2];simp,h1⟩
theorem UpR.left{A B:List Dt}(h:UpR lt (A++B)):UpR lt A:=(pairwise_append.mp h).1
theorem UpR.right{A B:List Dt}(h:UpR lt (A++B)):UpR lt B:=(pairwise_append.mp h).2.1
theorem UpR.across{A B:List Dt}(h:UpR lt (A++B)){a b:Dt}(ha:a∈A)(hb:b∈B):lt (Qr a) (Qr b):=(pairwise_append.mp h).2.2 a ha b hb
theorem X8{R:List Dt}(h:R≠[]):∃ x∈R,Qr x=QS R:=by
 cases R with
 | nil=>exact absurd rfl h
 | cons x r=>exact⟨x,by simp,rfl⟩
theorem UpR.ahead{A M:List Dt}{k:V}(h:UpR lt (A++M))(hM:M≠[])(tr:∀ {a b c},lt a b->lt b c->lt a c)(le:lt (QS M) k\/QS M=k):∀ a∈A,lt (Qr a) k:=fun a ha=>by
 obtain⟨x,hx,e⟩:=X8 hM;have:=h.across ha hx;rw[e]at this
 rcases le with le | le
 ·exact tr this le
 ·rw[<- le];exact this
theorem UpR.behind{M B:List Dt}{k:V}(h:UpR lt (M++B))(tr:∀ {a b c},lt a b->lt b c->lt a c)(le:B=[]\/lt k (QS B)):∀ b∈B,lt k (Qr b):=fun b hb=>by
 rcases le with le | le
 ·subst le;cases hb
 ·have u:=h.right
  cases B with
  | nil=>cases hb
  | cons x r =>
   rcases mem_cons.mp hb with e | e
   ·rw[e];exact le
   ·exact tr le ((pairwise_cons.mp u).1 b e)
theorem JS.fst{k:V}{row:Dt}{R R':List Dt}(h:JS lt k row R R')(irr:∀ a,¬ lt a a)(tr:∀ {a b c},lt a b->lt b c->lt a c)(hk:Qr row=k)(hR:R≠[])(le:lt (QS R) k\/QS R=k):QS R'=QS R:=by
 obtain⟨A,C,e,e2,h1,h2⟩:=h;cases A with
 | cons x r =>
  rw[e]
  rcases e2 with e2 | ⟨o,e2,ho⟩
  ·rw[e2];rfl
  ·rw[e2];rfl
 | nil =>
  rw[e];show Qr row=_;rw[hk]
  rcases e2 with e2 | ⟨o,e2,ho⟩
  ·exfalso
   rw[nil_append]at e2;subst e2;obtain⟨x,hx,ex⟩:=X8 hR;have:=h2 x hx;rw[ex]at this
   rcases le with le | le
   ·exact irr _ (tr this le)
   ·rw[le]at this;exact irr _ this
  ·rw[e2];exact ho.symm
theorem QEa.fst{k:V}{R R':List Dt}(h:QEa k R R')(hf:QS R≠k):QS R'=QS R/\R'≠[]:=by
 obtain⟨A,o,C,e,e2,h1⟩:=h;cases A with
 | cons x r=>rw[e,e2];exact⟨rfl,by simp⟩
 | nil=>exact absurd (by rw[e];exact h1) hf
theorem JS.up{k:V}{row:Dt}{R R':List Dt}(h:JS lt k row R R')(u:UpR lt R)(hk:Qr row=k)(tr:∀ {a b c},lt a b->lt b c->lt a c):UpR lt R':=by
 obtain⟨A,C,e,e2,h1,h2⟩:=h;have uAC:UpR lt A/\UpR lt C:=by
  rcases e2 with e2 | ⟨o,e2,ho⟩
  ·rw[e2]at u;exact⟨u.left,u.right⟩
  ·rw[e2]at u;exact⟨u.left,(pairwise_cons.mp u.right).2⟩
 rw[e];refine pairwise_append.mpr ⟨uAC.1,pairwise_cons.mpr ⟨fun c hc=>by rw[hk];exact h2 c hc,uAC.2⟩,fun a ha b hb=>?_⟩
 rcases mem_cons.mp hb with z | z
 ·rw[z,hk];exact h1 a ha
 ·exact tr (h1 a ha) (h2 b z)
theorem QEa.up{k:V}{R R':List Dt}(h:QEa k R R')(u:UpR lt R):UpR lt R':=by
 obtain⟨A,o,C,e,e2,h1⟩:=h;rw[e]at u;rw[e2];exact u.sublist (List.Sublist.append_left (sublist_cons_self _ _) _)
theorem JS.mem{k:V}{row:Dt}{R R':List Dt}(h:JS lt k row R R')(irr:∀ a,¬ lt a a)(x:Dt):x∈R'↔x=row\/(x∈R/\Qr x≠k):=by
 obtain⟨A,C,e,e2,h1,h2⟩:=h;have ne:∀ y,y∈A\/y∈C->Qr y≠k:=fun y hy z=>by
  rcases hy with hy | hy
  ·have:=h1 y hy;rw[z]at this;exact irr _ this
  ·have:=h2 y hy;rw[z]at this;exact irr _ this
 rw[e]
 constructor
 ·intro h
  rcases Vl.mp h with h | h
  ·refine .inr ⟨?_,ne x (.inl h)⟩
   rcases e2 with e2 | ⟨o,e2,_⟩ <;> rw[e2] <;> simp[h]
  ·rcases mem_cons.mp h with h | h
   ·exact .inl h
   ·refine .inr ⟨?_,ne x (.inr h)⟩
    rcases e2 with e2 | ⟨o,e2,_⟩ <;> rw[e2] <;> simp[h]
 ·rintro(h | ⟨h,hk⟩)
  ·simp[h]
  ·rcases e2 with e2 | ⟨o,e2,ho⟩
   ·rw[e2]at h
    rcases Vl.mp h with h | h <;> simp[h]
   ·rw[e2]at h
    rcases Vl.mp h with h | h
    ·simp[h]
    ·rcases mem_cons.mp h with h | h
     ·rw[h]at hk;exact absurd ho hk
     ·simp[h]
theorem QEa.mem{k:V}{R R':List Dt}(h:QEa k R R')(u:UpR lt R)(irr:∀ a,¬ lt a a)(x:Dt):x∈R'↔x∈R/\Qr x≠k:=by
 obtain⟨A,o,C,e,e2,h1⟩:=h;rw[e]at u ⊢;rw[e2];have hA:∀ a∈A,Qr a≠k:=fun a ha z=>by
  have:=u.across ha (mem_cons_self (a:=o) (l:=C));rw[z,h1]at this;exact irr _ this
 have hC:∀ c∈C,Qr c≠k:=fun c hc z=>by
  have:=(pairwise_cons.mp u.right).1 c hc;rw[z,h1]at this;exact irr _ this
 constructor
 ·intro h
  rcases Vl.mp h with h | h
  ·exact⟨by simp[h],hA x h⟩
  ·exact⟨by simp[h],hC x h⟩
 ·rintro⟨h,hk⟩
  rcases Vl.mp h with h | h
  ·simp[h]
  ·rcases mem_cons.mp h with h | h
   ·rw[h]at hk;exact absurd h1 hk
   ·simp[h]
theorem UpR.ext(irr:∀ a,¬ lt a a)(tr:∀ {a b c},lt a b->lt b c->lt a c):∀ {R S:List Dt},UpR lt R->UpR lt S->(∀ x,x∈R↔x∈S)->R=S
 | [],[],_,_,_=>rfl
 | [],y::s,_,_,h=>by have:=(h y).mpr (by simp);cases this
 | x::r,[],_,_,h=>by have:=(h x).mp (by simp);cases this
 | x::r,y::s,hR,hS,h=>by
  have uR:=pairwise_cons.mp hR;have uS:=pairwise_cons.mp hS;have exy:x=y:=by
   rcases mem_cons.mp ((h x).mp (by simp)) with e | e
   ·exact e
   rcases mem_cons.mp ((h y).mpr (by simp)) with e' | e'
   ·exact e'.symm
   exact absurd (tr (uR.1 y e') (uS.1 x e)) (irr _)
  subst exy
  congr 1
  refine UpR.ext irr tr uR.2 uS.2 fun z=>?_
  constructor
  ·intro hz
   rcases mem_cons.mp ((h z).mp (Vo _ hz)) with e | e
   ·subst e;exact absurd (uR.1 _ hz) (irr _)
   ·exact e
  ·intro hz
   rcases mem_cons.mp ((h z).mpr (Vo _ hz)) with e | e
   ·subst e;exact absurd (uS.1 _ hz) (irr _)
   ·exact e
end
section
variable{lv:V->Nat}{tbl:List (Int×Dt)}
structure Y2(lv:V->Nat)(tbl:List (Int×Dt))(R:List Dt)(top:Nat)(n:Int):Prop where
 one:∃ k,Tow lv tbl (top+1) R [ZQ k n]
 two:∀ j hs,1<=j->j<=top->Tow lv tbl j R hs->1 < hs.length
theorem X7.toRoot{rows:List Dt}{top:Nat}{L:Nat->List Dt}{k:V}{n:Int}(f:Fn tbl)(c:X7 lv tbl rows top L)(e:L (top+1)=[ZQ k n]):Y2 lv tbl rows top n :=
 ⟨⟨k,by have:=c.tow (top+1) (Ve _);rw[e]at this;exact this⟩,fun j hs h1 h2 t=>by rw[t.det f (c.tow j (by omega))];exact c.two j h1 h2⟩
theorem Tow.levels:∀ {l:Nat} {R hs:List Dt},Tow lv tbl l R hs->∃ L:Nat->List Dt,L 0=R/\L l=hs/\∀ j,j < l->QJ tbl j (QT lv j (L j)) (L (j+1))
 | 0,R,hs,h=>⟨fun _=>R,rfl,(show hs=R from h).symm,fun j hj=>by omega⟩
 | l+1,R,hs,⟨gs,a,b⟩=>by
  obtain⟨L,h0,h1,h2⟩:=a.levels;refine⟨fun j=>if j=l+1 then hs else L j,(if_neg (by omega)).trans h0,if_pos rfl,fun j hj=>?_⟩
  show QJ tbl j (QT lv j (if j=l+1 then hs else L j)) (if j+1=l+1 then hs else L (j+1))
  rw[if_neg (by omega)]
  by_cases e:j=l
  ·subst e;rw[if_pos rfl,h1];exact b
  ·rw[if_neg (by omega)];exact h2 j (by omega)
theorem Yc{l:Nat}{R:List Dt}{L:Nat->List Dt}(h0:L 0=R)(h:∀ j,j < l->QJ tbl j (QT lv j (L j)) (L (j+1))):∀ j,j<=l->Tow lv tbl j R (L j):=by
 intro j
 induction j with
 | zero=>intro _;exact h0
 | succ j ih=>intro hj;exact⟨L j,ih (by omega),h j (by omega)⟩
theorem Y2.chain{R:List Dt}{top:Nat}{n:Int}(r:Y2 lv tbl R top n):∃ L k,X7 lv tbl R top L/\L (top+1)=[ZQ k n]:=by
 obtain⟨k,t⟩:=r.one;obtain⟨L,h0,h1,h2⟩:=t.levels;exact⟨L,k,⟨h0,fun j hj=>h2 j (by omega),by rw[h1];rfl,fun j hj1 hj2=>r.two j _ hj1 hj2 (Yc h0 h2 j (by omega))⟩,h1⟩
theorem Y2.mono{tbl':List (Int×Dt)}{R:List Dt}{top:Nat}{n:Int}(f:Fn tbl')(r:Y2 lv tbl R top n)(s:∀ x∈tbl,x∈tbl'):Y2 lv tbl' R top n:=by
 obtain⟨L,k,c,e⟩:=r.chain;exact(c.mono s).toRoot f e
theorem Y2.page{R:List Dt}{top:Nat}{n:Int}(r:Y2 lv tbl R top n):∃ part,(n,Zc (top:Int) part)∈tbl/\Tow lv tbl top R part/\QT lv top part=[part]/\R≠[]:=by
 obtain⟨k,t⟩:=r.one;obtain⟨n',part,e,hm,tp,hc⟩:=t.one;obtain⟨_,rfl⟩:=Q7c e;exact⟨part,hm,tp,hc,t.ne' (by simp)⟩
end
section
variable{lv:V->Nat}{tbl:List (Int×Dt)}
theorem ZHa{l:Int}{e:Dt}:∀ (r:List Dt),(QT lv l (e::r)).map QS=Qr e::(r.map Qr).filter fun k=>decide (l < lv k):=by
 refine Y1 rfl fun r x ih=>?_
 rw[show e::(r++[x])=(e::r)++[x] from rfl,J4]
 have c:=JR (lv:=lv) l (e::r);have hne:=Qza (lv:=lv) (l:=l) (es:=e::r) (by simp)
 generalize QT lv l (e::r)=P at ih c hne;obtain⟨ini,last,rfl⟩:=Zp hne;unfold step
 by_cases h:l < lv (Qr x)
 ·rw[if_pos (.inr h),map_append,ih,map_append,filter_append]
  simp[h,QS]
 ·rw[if_neg (fun z=>z.elim (fun z=>by simp at z) h),dropLast_concat,getLast?_concat,Option.getD_some]
  rw[map_append]at ih ⊢;have fu:=c.full last (by simp)
  have e1:QS (last++[x])=QS last:=by cases last with | nil=>exact absurd rfl fu | cons y s=>rfl
  rw[map_cons,e1,map_nil];rw[map_cons,map_nil]at ih;rw[ih,map_append,filter_append];simp[h]
theorem Tow.keys:∀ {l:Nat} {e:Dt} {r hs:List Dt},Tow lv tbl (l+1) (e::r) hs->hs.map Qr=Qr e::(r.map Qr).filter fun k=>decide (l < lv k)
 | 0,e,r,hs,⟨gs,a,b⟩=>by
  rw[show gs=_ from a]at b
  rw[b.keys,ZHa]
  congr 1
  exact filter_congr fun k _=>by simp
 | l+1,e,r,hs,⟨gs,a,b⟩=>by
  have ih:=Tow.keys a;rw[b.keys];cases gs with
  | nil=>cases ih
  | cons g gr =>
   rw[map_cons]at ih;injection ih with i1 i2
   rw[ZHa,i1,i2,filter_filter]
   congr 1
   refine filter_congr fun k _=>?_
   rw[<- Bool.decide_and];exact decide_eq_decide.mpr (by omega)
theorem Tow.many{l:Nat}{R hs:List Dt}(h:Tow lv tbl (l+1) R hs)(hR:R≠[]):hs.length=1+(((R.map Qr).tail).filter fun k=>decide (l < lv k)).length:=by
 cases R with
 | nil=>exact absurd rfl hR
 | cons e r =>
  have:=congrArg List.length h.keys;rw[Vr,length_cons]at this;rw[this,Nat.add_comm];rfl
theorem Tow.more{l:Nat}{R R' hs hs':List Dt}{tbl':List (Int×Dt)}(h:Tow lv tbl (l+1) R hs)(h':Tow lv tbl' (l+1) R' hs')(hR:R≠[])(s:(R.map Qr).Sublist (R'.map Qr)):hs.length<=hs'.length:=by
 have hR':R'≠[]:=fun z=>by
  rw[z]at s;have:=sublist_nil.mp s;exact hR (map_eq_nil_iff.mp this)
 rw[h.many hR,h'.many hR'];have:=((s.tail).filter fun k=>decide (l < lv k)).length_le
 omega
variable{lt:V->V->Prop}
theorem JS.sub{k:V}{row:Dt}{R R':List Dt}(h:JS lt k row R R')(hk:Qr row=k):(R.map Qr).Sublist (R'.map Qr):=by
 obtain⟨A,C,e,e2,h1,h2⟩:=h;rw[e]
 rcases e2 with e2 | ⟨o,e2,ho⟩
 ·rw[e2,map_append,map_append]
  exact List.Sublist.append_left (by rw[map_cons];exact sublist_cons_self _ _) _
 ·rw[e2,map_append,map_append,map_cons,map_cons,ho,hk]
  exact List.Sublist.refl _
theorem QEa.sub{k:V}{R R':List Dt}(h:QEa k R R'):(R'.map Qr).Sublist (R.map Qr):=by
 obtain⟨A,o,C,e,e2,h1⟩:=h;rw[e,e2,map_append,map_append,map_cons];exact List.Sublist.append_left (sublist_cons_self _ _) _
theorem Tow.single{l:Nat}{R R' hs hs':List Dt}{tbl':List (Int×Dt)}(h:Tow lv tbl (l+1) R hs)(h':Tow lv tbl' (l+1) R' hs')(h1:hs.length=1)(hR':R'≠[])(s:(R'.map Qr).Sublist (R.map Qr)):∃ k n,hs'=[ZQ k n]:=by
 have:=h'.more h hR' s;have hn:=h'.ne hR';cases hs' with
 | nil=>exact absurd rfl hn
 | cons x r =>
  cases r with
  | nil =>
   obtain⟨n,part,e,_⟩:=h'.one;exact⟨_,n,by rw[e]⟩
  | cons y s=>simp at this;omega
theorem Tow.down{i j:Nat}{R hs gs:List Dt}(f:Fn tbl)(hj:Tow lv tbl j R hs)(hi:Tow lv tbl i R gs)(h:i<=j):hs.length<=gs.length:=by
 obtain⟨L,h0,h1,h2⟩:=hj.levels;have key:∀ d,d<=j - i->(L (i+d)).length<=(L i).length:=by
  intro d
  induction d with
  | zero=>intro _;exact Ve _
  | succ d ih =>
   intro hd;have u:=h2 (i+d) (by omega)
   have:=ih (by omega)
   have c:=YQb (lv:=lv) (es:=L (i+d)) (l:=((i+d:Nat):Int));rw[<- u.length]at c;rw[<- Nat.add_assoc];omega
 have e:=(Yc h0 h2 i h).det f hi;have k:=key (j - i) (Ve _);rw[show i+(j - i)=j by omega,h1,e]at k
 exact k
theorem Y2.of_two{R part:List Dt}{j:Nat}{k:V}{n:Int}(f:Fn tbl)(t:Tow lv tbl (j+1) R [ZQ k n])(tp:Tow lv tbl j R part)(h:j=0\/1 < part.length):Y2 lv tbl R j n :=
 ⟨⟨k,t⟩,fun i hs h1 h2 ti=>by
  rcases h with h | h
  ·omega
  ·have:=tp.down f ti h2;omega⟩
end
section
variable(lt:V->V->Prop)(tbl:List (Int×Dt))(k:V)
inductive Way:Int->List Int->Prop
 | leaf {n:Int} {part:List Dt} (h:(n,Zc 0 part)∈tbl):Way n [n]
 | stop {n:Int} {l:Nat} {part:List Dt} (h:(n,Zc ((l+1:Nat):Int) part)∈tbl) (a:∀ x∈part,lt k (Qr x)):Way n [n]
 | go {n n':Int} {l:Nat} {a b:List Dt} {k':V} {w:List Int} (h:(n,Zc ((l+1:Nat):Int) (a++ZQ k' n'::b))∈tbl) (h1:¬ lt k k') (h2:∀ x∈b,lt k (Qr x)) (r:Way n' w):Way n (n::w)
end
section
variable{lt:V->V->Prop}{tbl tbl':List (Int×Dt)}{k:V}
end
section
variable{lv:V->Nat}{tbl:List (Int×Dt)}
end
end Tr
end
section
namespace L2
open PySem PySem.Spec PyProof.Rows
section
variable{X:Cx}
end
end L2
end
section
namespace L2
open PySem PySem.Spec PyProof.Rows PySem.W
section
variable{prog:Program}{w:World}{A:Around}{E:YQ_}{s:Shared}{κ:SortKind}{ks vs:List Value}{r:Nat->Nat}
end
section
variable{X:Cx}{pins:YP_}{σ:St}{H:Hp}{s:Shared}{A:Around}{E:YQ_}
end
theorem TD.det{H:Hp}:∀ (n:Nat) {m:Nat} {d e:Dt} {y:V},TD H n d y->TD H m e y->d=e:=by
 have fl:∀ {x:V},hV x=true->∀ a,x≠.ref a:=fun {x} h a z=>by rw[z]at h;cases h
 intro n
 induction n with
 | zero =>
  intro m d e y h1 h2;cases d with
  | v x =>
   obtain⟨f1,rfl⟩:=h1.flat;cases e with
   | v x'=>obtain⟨_,e2⟩:=h2.flat;rw[e2]
   | t ds=>obtain⟨_,a,_,_,e2,_⟩:=h2.tup;exact absurd e2 (fl f1 a)
   | l ds=>cases m <;> exact h2.elim
  | t ds=>obtain⟨_,_,_,em,_⟩:=h1.tup;cases em
  | l ds=>exact h1.elim
 | succ n ih =>
  intro m d e y h1 h2;cases d with
  | v x =>
   obtain⟨f1,rfl⟩:=h1.flat;cases e with
   | v x'=>obtain⟨_,e2⟩:=h2.flat;rw[e2]
   | t ds=>obtain⟨_,a,_,_,e2,_⟩:=h2.tup;exact absurd e2 (fl f1 a)
   | l ds=>cases m <;> exact h2.elim
  | t ds =>
   obtain⟨n',a,xs,en,rfl,ha,p1⟩:=h1.tup;obtain rfl:n'=n:=by omega
   cases e with
   | v x'=>obtain⟨f2,e2⟩:=h2.flat;exact absurd e2.symm (fl f2 a)
   | t es =>
    obtain⟨m',a',xs',em,e2,ha',p2⟩:=h2.tup;cases e2;rw[ha]at ha';cases ha'
    congr 1
    clear ha h1 h2
    induction p1 generalizing es with
    | nil=>cases p2;rfl
    | cons r t ih2 =>
     cases p2 with
     | cons r' t'=>rw[ih r r',ih2 _ t']
   | l ds=>cases m <;> exact h2.elim
  | l ds=>exact h1.elim
end L2
end
section
namespace L2
open PySem PySem.Spec PyProof.Rows
section
variable{X:Cx}
end
end L2
end
section
open L2 PySem
namespace Tr
section
variable{lv:V->Nat}{tbl:List (Int×Dt)}
theorem QJ.parts{l:Int}:∀ {A B:List (List Dt)} {hs:List Dt},QJ tbl l (A++B) hs->∃ a b,hs=a++b/\QJ tbl l A a/\QJ tbl l B b
 | [],B,hs,h=>⟨[],hs,rfl,.nil,h⟩
 | x::A,B,hs,h=>by
  rw[cons_append]at h;generalize e:x::(A++B)=q at h;cases h with
  | nil=>cases e
  | @cons part parts hs n m r =>
   injection e with e1 e2
   subst e1 e2;obtain⟨a,b,rfl,ha,hb⟩:=QJ.parts r;exact⟨_::a,b,rfl,.cons m ha,hb⟩
def bnd(lv:V->Nat)(l:Int)(r:List Dt):Nat:=((r.map Qr).filter fun k=>decide (l < lv k)).length
theorem JIa{l:Int}(a b:List Dt):bnd lv l (a++b)=bnd lv l a+bnd lv l b:=by simp[bnd]
theorem Q9c{l:Int}(a:List Dt):bnd lv l a<=a.length:=by
 unfold bnd;exact Vj (length_filter_le _ _) (by simp)
theorem Qbb{l:Int}{a:List Dt}(h:∀ y∈a,(lv (Qr y):Int)<=l):bnd lv l a=0:=by
 unfold bnd;rw[filter_eq_nil_iff.mpr]
 ·rfl
 ·intro k hk
  obtain⟨y,hy,rfl⟩:=mem_map.mp hk;have:=h y hy;simp;omega
theorem JJa{l:Int}(e:Dt)(r:List Dt):(QT lv l (e::r)).length=1+bnd lv l r:=by
 have:=congrArg List.length (ZHa (lv:=lv) (l:=l) (e:=e) r);rw[Vr,length_cons]at this;rw[this,Nat.add_comm];rfl
theorem Jla{l:Int}{X hs:List Dt}(h:QJ tbl l (QT lv l X) hs)(hX:X≠[]):hs≠[]/\QS hs=QS X:=by
 cases X with
 | nil=>exact absurd rfl hX
 | cons e r =>
  have:=h.keys;rw[ZHa]at this;cases hs with
  | nil=>cases this
  | cons x s=>injection this with a _;exact⟨by simp,a⟩
theorem Jma(l:Int):∀ S:List Dt,∃ S1 S2,S=S1++S2/\(∀ y∈S1,(lv (Qr y):Int)<=l)/\(S2=[]\/l < lv (QS S2))
 | []=>⟨[],[],rfl,(fun _ h=>nomatch h),.inl rfl⟩
 | x::S=>by
  by_cases h:l < lv (Qr x)
  ·exact⟨[],x::S,rfl,(fun _ h=>nomatch h),.inr h⟩
  ·obtain⟨S1,S2,e,h1,h2⟩:=Jma l S
   refine⟨x::S1,S2,by rw[e];rfl,fun y hy=>?_,h2⟩
   rcases mem_cons.mp hy with rfl | hy
   ·omega
   ·exact h1 y hy
theorem JJb(l:Int){P:List Dt}(hP:P≠[]):∃ P1 p q,P=P1++p::q/\(∀ y∈q,(lv (Qr y):Int)<=l)/\(P1=[]\/l < lv (Qr p)):=by
 revert hP
 refine Y1 (C:=fun P=>P≠[]->∃ P1 p q,P=P1++p::q/\(∀ y∈q,(lv (Qr y):Int)<=l)/\(P1=[]\/l < lv (Qr p))) (fun z=>absurd rfl z) (fun P x ih _=>?_) P
 by_cases h:l < lv (Qr x)
 ·exact⟨P,x,[],rfl,(fun _ h=>nomatch h),.inr h⟩
 ·by_cases hP:P=[]
  ·subst hP
   exact⟨[],x,[],rfl,(fun _ h=>nomatch h),.inl rfl⟩
  ·obtain⟨P1,p,q,rfl,h1,h2⟩:=ih hP
   refine⟨P1,p,q++[x],by simp,fun y hy=>?_,h2⟩
   rcases Vl.mp hy with hy | hy
   ·exact h1 y hy
   ·rw[mem_singleton.mp hy];omega
def Few(b:Nat)(hs hs':List Dt):Prop:=∃ P M M' S,hs=P++(M++S)/\hs'=P++(M'++S)/\((M≠[]/\M'≠[]/\QS M=QS M'/\M'.length<=b)\/(P=[]/\M'.length<=1))
theorem JKb{l:Int}{b:Nat}{P N N' S hs hs':List Dt}(f:Fn tbl)(h:QJ tbl l (QT lv l (P++(N++S))) hs)(h':QJ tbl l (QT lv l (P++(N'++S))) hs')
 (cS:S=[]\/l < lv (QS S)) (cN:P=[]\/(l < lv (QS N)/\l < lv (QS N'))) (hN:(N≠[]/\N'≠[]/\QS N=QS N'/\(QT lv l N').length<=b)\/(P=[]/\(QT lv l N').length<=1)):Few b hs hs':=by
 have app:∀ X,(P=[]\/(X≠[]/\l < lv (QS X)))->QT lv l (P++(X++S))=QT lv l P++(QT lv l X++QT lv l S):=fun X hX=>by
  rw[<- ZGa (X:=X) (Y:=S) (cS.elim (fun z=>.inr (.inl z)) fun z=>.inr (.inr z))]
  refine ZGa ?_
  rcases hX with z | ⟨z,w⟩
  ·exact .inl z
  ·refine .inr (.inr ?_)
   cases X with
   | nil=>exact absurd rfl z
   | cons x r=>exact w
 have c1:P=[]\/(N≠[]/\l < lv (QS N)):=by
  rcases cN with z | z
  ·exact .inl z
  ·rcases hN with w | w
   ·exact .inr ⟨w.1,z.1⟩
   ·exact .inl w.1
 have c2:P=[]\/(N'≠[]/\l < lv (QS N')):=by
  rcases cN with z | z
  ·exact .inl z
  ·rcases hN with w | w
   ·exact .inr ⟨w.2.1,z.2⟩
   ·exact .inl w.1
 rw[app N c1]at h;rw[app N' c2]at h';obtain⟨a,bs,rfl,ha,hb⟩:=h.parts;obtain⟨m,s,rfl,hm,hs⟩:=hb.parts;obtain⟨a',bs',rfl,ha',hb'⟩:=h'.parts;obtain⟨m',s',rfl,hm',hs'⟩:=hb'.parts;have e1:=ha.det f ha';have e2:=hs.det f hs';subst e1 e2;refine⟨a,m,m',s,rfl,rfl,?_⟩
 rcases hN with ⟨w1,w2,w3,w4⟩ | ⟨w1,w2⟩
 ·obtain⟨x1,x2⟩:=Jla hm w1
  obtain⟨y1,y2⟩:=Jla hm' w2;exact .inl ⟨x1,y1,by rw[x2,y2,w3],by rw[hm'.length];exact w4⟩
 ·subst w1
  cases ha;exact .inr ⟨rfl,by rw[hm'.length];exact w2⟩
theorem Few.step{l:Int}{b:Nat}{gs gs' hs hs':List Dt}(f:Fn tbl)(w:Few b gs gs')(h:QJ tbl l (QT lv l gs) hs)(h':QJ tbl l (QT lv l gs') hs'):Few b hs hs':=by
 obtain⟨P,M,M',S,rfl,rfl,hM⟩:=w;obtain⟨S1,S2,rfl,s1,s2⟩:=Jma (lv:=lv) l S;have z0:=Qbb s1
 rcases hM with ⟨m1,m2,m3,m4⟩ | ⟨m1,m2⟩
 ·match M,M',m1,m2,m3,m4 with
  | x::r,x'::r',_,_,m3,m4 =>
  have m3:Qr x=Qr x':=m3
  by_cases hb:P=[]\/l < lv (Qr x)
  ·rw[<- Vq (x::r)]at h
   rw[<- Vq (x'::r')]at h';refine JKb f h h' s2 (hb.imp_right fun z=>⟨z,by show l < lv (Qr x');rw[<- m3];exact z⟩) (.inl ⟨by simp,by simp,m3,?_⟩)
   rw[cons_append,JJa,JIa,z0];have:=Q9c (lv:=lv) (l:=l) r';simp at m4
   omega
  ·have hP:P≠[]:=fun z=>hb (.inl z)
   obtain⟨P1,p,q,rfl,h1,h2⟩:=JJb (lv:=lv) l hP;have e:∀ X:List Dt,P1++p::q++(X++(S1++S2))=P1++((p::q++(X++S1))++S2):=fun X=>by simp
   rw[e]at h h';refine JKb f h h' s2 (h2.imp_right fun z=>⟨z,z⟩) (.inl ⟨by simp,by simp,rfl,?_⟩)
   rw[cons_append,JJa,JIa,JIa,z0,Qbb h1,show x'::r'=[x']++r' from rfl,JIa,Qbb (a:=[x']) fun y hy=>by
    rw[mem_singleton.mp hy,<- m3];have:=fun z=>hb (.inr z)
    omega]
   have:=Q9c (lv:=lv) (l:=l) r';simp at m4
   omega
 ·subst m1
  rw[<- Vq M]at h;rw[<- Vq M']at h';refine JKb f h h' s2 (.inl rfl) (.inr ⟨rfl,?_⟩)
  match M',m2 with
  | [],_ =>
   cases S1 with
   | nil=>exact Vk _
   | cons y t=>rw[nil_append,JJa,Qbb fun z hz=>s1 z (Vo _ hz)];exact Ve _
  | [x],_=>rw[cons_append,JJa,nil_append,z0];exact Ve _
theorem Few.tow{b:Nat}{R R':List Dt}(f:Fn tbl)(w:Few b R R'):∀ {l:Nat} {hs hs':List Dt},Tow lv tbl l R hs->Tow lv tbl l R' hs'->Few b hs hs'
 | 0,hs,hs',h,h'=>by rw[show hs=R from h,show hs'=R' from h'];exact w
 | l+1,hs,hs',⟨gs,a,c⟩,⟨gs',a',c'⟩=>(Few.tow f w a a').step f c c'
theorem Few.count{b:Nat}{hs hs':List Dt}(w:Few b hs hs')(hb:1<=b){N:List Int}(hN:∀ x∈hs,ZEa x∈N):((hs'.map ZEa).filter fun n=>!decide (n∈N)).length<=b:=by
 obtain⟨P,M,M',S,rfl,rfl,z⟩:=w;have no:∀ X:List Dt,(∀ x∈X,ZEa x∈N)->(X.map ZEa).filter (fun n=>!decide (n∈N))=[]:=fun X hX=>filter_eq_nil_iff.mpr fun n hn=>by
  obtain⟨x,hx,rfl⟩:=mem_map.mp hn;simp[hX x hx]
 rw[map_append,map_append,filter_append,filter_append,no P fun x hx=>hN x (mem_append_left _ hx),no S fun x hx=>hN x (Vp _ (Vp _ hx)),nil_append,append_nil]
 have h1:=length_filter_le (fun n=>!decide (n∈N)) (M'.map ZEa)
 rw[Vr]at h1
 rcases z with z | z <;> omega
theorem Few.two{b:Nat}{x:Dt}{hs':List Dt}(w:Few b [x] hs')(hb:b<=2):hs'.length<=2:=by
 obtain⟨P,M,M',S,e,rfl,z⟩:=w;have:=congrArg List.length e;simp only[Vs,length_cons,length_nil]at this ⊢
 rcases z with ⟨m1,m2,m3,m4⟩ | ⟨rfl,m⟩
 ·have:=length_pos_iff.mpr m1
  omega
 ·simp at this ⊢;omega
section
variable{lt:V->V->Prop}
theorem JS.few{k:V}{row:Dt}{R R':List Dt}(h:JS lt k row R R')(hk:Qr row=k):Few 2 R R':=by
 obtain⟨A,C,rfl,h,_,_⟩:=h
 rcases h with rfl | ⟨o,rfl,e⟩
 ·by_cases hA:A=[]
  ·subst hA
   exact⟨[],[],[row],C,rfl,rfl,.inr ⟨rfl,Ve _⟩⟩
  ·obtain⟨A1,a,rfl⟩:=Zp hA
   exact⟨A1,[a],[a,row],C,by simp,by simp,.inl ⟨by simp,by simp,rfl,Ve _⟩⟩
 ·exact⟨A,[o],[row],C,rfl,rfl,.inl ⟨by simp,by simp,by show Qr o=Qr row;rw[e,hk],by simp⟩⟩
theorem QEa.few{k:V}{R R':List Dt}(h:QEa k R R'):Few 1 R R':=by
 obtain⟨A,o,C,rfl,rfl,_⟩:=h
 by_cases hA:A=[]
 ·subst hA
  exact⟨[],[o],[],C,rfl,rfl,.inr ⟨rfl,Vk _⟩⟩
 ·obtain⟨A1,a,rfl⟩:=Zp hA
  exact⟨A1,[a,o],[a],C,by simp,by simp,.inl ⟨by simp,by simp,rfl,Ve _⟩⟩
end
def Zac(W:Int->List (Int×Nat)->List Dt->Prop):List Dt->List (Int×Nat)->List Dt->Prop
 | [],q,rs=>q=[]/\rs=[]
 | e::r,q,rs=>∃ p q' r1 r2,q=p++q'/\rs=r1++r2/\(∃ k n,e=ZQ k n/\W n p r1)/\Zac W r q' r2
def Wlk(tbl:List (Int×Dt)):Nat->Int->List (Int×Nat)->List Dt->Prop
 | 0,m,ws,rs=>(m,Zc ((0:Nat):Int) rs)∈tbl/\ws=[(m,0)]
 | l+1,m,ws,rs=>∃ es q,(m,Zc ((l+1:Nat):Int) es)∈tbl/\ws=(m,l+1)::q/\Zac (Wlk tbl l) es q rs
structure WOk(lv:V->Nat)(tbl:List (Int×Dt))(l:Nat)(M:List Dt)(ws:List (Int×Nat)):Prop where
 pg:∀ x∈ws,x.2<=l/\∃ es,(x.1,Zc (x.2:Int) es)∈tbl/\QS es∈M.map Qr
 nd:(ws.map Prod.fst).Nodup
 len:ws.length<=(l+1) * M.length
 lev:∀ j hs,j<=l->Tow lv tbl (j+1) M hs->(ws.filter fun x=>x.2 == j).map Prod.fst=hs.map ZEa
theorem Tow.below{l j:Nat}{R hs:List Dt}(t:Tow lv tbl l R hs)(h:j<=l):∃ gs,Tow lv tbl j R gs:=by
 obtain⟨L,h0,h1,h2⟩:=t.levels;exact⟨L j,Yc h0 h2 j h⟩
theorem YRb{R:List Dt}(h:R≠[]):QS R∈R.map Qr:=by
 obtain⟨x,hx,e⟩:=X8 h;exact mem_map.mpr ⟨x,hx,e⟩
theorem YSb(fn:Fn tbl):∀ (l:Nat) {M part:List Dt} {m:Int},(m,Zc (l:Int) part)∈tbl->Tow lv tbl l M part->(M.map Qr).Nodup->M≠[]->(∃ k,Tow lv tbl (l+1) M [ZQ k m])->∃ ws,Wlk tbl l m ws M/\WOk lv tbl l M ws
 | 0,M,part,m,hm,t,nd,hM,⟨k,tm⟩=>by
  have e:part=M:=t;subst e;have:=length_pos_iff.mpr hM;refine⟨[(m,0)],⟨hm,rfl⟩,fun x hx=>?_,by simp,by simp;omega,fun j hs hj th=>?_⟩
  ·rw[mem_singleton.mp hx]
   exact⟨Ve _,part,hm,YRb hM⟩
  ·obtain rfl:j=0:=by omega
   rw[th.det fn tm];rfl
 | l+1,M,part,m,hm,t,nd,hM,⟨k,tm⟩=>by
  have go:∀ (part M:List Dt),Tow lv tbl (l+1) M part->(M.map Qr).Nodup->∃ q,Zac (Wlk tbl l) part q M/\WOk lv tbl l M q:=by
   intro part
   induction part with
   | nil =>
    intro M t _;obtain rfl:=t.fst.1.mpr rfl;refine⟨[],⟨rfl,rfl⟩,(fun x h=>nomatch h),nodup_nil,Ve _,fun j hs _ th=>?_⟩
    rw[th.det fn (Tow.nil _)];rfl
   | cons e r ih =>
    intro M t nd;obtain⟨A,M1,B,n,p1,eM,tA,tM,tB,ee,hm1,t1,hM1,_,cB⟩:=Tow.at_ (a:=[]) t;obtain rfl:=tA.fst.1.mpr rfl;rw[nil_append]at eM;subst eM;rw[map_append]at nd;have nd':=nodup_append.mp nd;obtain⟨w1,k1,f1⟩:=YSb fn l hm1 t1 nd'.1 hM1 ⟨_,by rw[<- ee];exact tM⟩
    obtain⟨q2,k2,f2⟩:=ih B tB nd'.2.1;have ml:(l+1) * (M1++B).length=(l+1) * M1.length+(l+1) * B.length:=by rw[Vs,Nat.mul_add]
    have l1:=f1.len;have l2:=f2.len;refine⟨w1++q2,⟨w1,q2,M1,B,rfl,rfl,⟨_,n,ee,k1⟩,k2⟩,fun x hx=>?_,?_,by rw[Vs];omega,fun j hs hj th=>?_⟩
    ·rw[map_append]
     rcases Vl.mp hx with z | z
     ·obtain⟨a,es,b,c⟩:=f1.pg x z
      exact⟨a,es,b,mem_append_left _ c⟩
     ·obtain⟨a,es,b,c⟩:=f2.pg x z
      exact⟨a,es,b,Vp _ c⟩
    ·rw[map_append]
     refine nodup_append.mpr ⟨f1.nd,f2.nd,fun a ha b hb eab=>?_⟩
     obtain⟨x,hx,rfl⟩:=mem_map.mp ha;obtain⟨y,hy,rfl⟩:=mem_map.mp hb;obtain⟨_,ex,hpx,kx⟩:=f1.pg x hx;obtain⟨_,ey,hpy,ky⟩:=f2.pg y hy;rw[eab]at hpx;rw[(X6 (fn.num _ _ _ hpx hpy)).2]at kx;exact nd'.2.2 _ kx _ ky rfl
    ·obtain⟨h1,t1'⟩:=tM.below (j:=j+1) (by omega)
     obtain⟨h2,t2'⟩:=tB.below (j:=j+1) (by omega)
     have:=t1'.app t2' (cB.elim (fun z=>.inr (.inl z)) fun z=>.inr (.inr (by omega)))
     rw[th.det fn this,filter_append,map_append,map_append,f1.lev j h1 hj t1',f2.lev j h2 hj t2']
  obtain⟨q,hq,fq⟩:=go part M t nd;have lq:=fq.len;have:=length_pos_iff.mpr hM;have ml:(l+1+1) * M.length=(l+1) * M.length+M.length:=Nat.succ_mul _ _;refine⟨(m,l+1)::q,⟨part,q,hm,rfl,hq⟩,fun x hx=>?_,?_,by rw[length_cons];omega,fun j hs hj th=>?_⟩
  ·rcases mem_cons.mp hx with rfl | hx
   ·exact⟨Ve _,part,hm,by rw[t.fst.2];exact YRb hM⟩
   ·obtain⟨a,b⟩:=fq.pg x hx
    exact⟨by omega,b⟩
  ·rw[map_cons]
   refine nodup_cons.mpr ⟨fun z=>?_,fq.nd⟩
   obtain⟨x,hx,e⟩:=mem_map.mp z;obtain⟨a,es,b,_⟩:=fq.pg x hx;rw[e]at b;have:=(X6 (fn.num _ _ _ b hm)).1
   omega
  ·by_cases e:j=l+1
   ·subst e
    rw[th.det fn tm,filter_cons_of_pos (by simp),filter_eq_nil_iff.mpr fun x hx=>by have:=(fq.pg x hx).1;simp;omega]
    rfl
   ·rw[filter_cons_of_neg (by simp;omega)]
    exact fq.lev j hs (by omega) th
theorem Y2.wlk{R:List Dt}{top:Nat}{n:Int}(fn:Fn tbl)(r:Y2 lv tbl R top n)(nd:(R.map Qr).Nodup):∃ ws,Wlk tbl top n ws R/\WOk lv tbl top R ws:=by
 obtain⟨part,hm,tp,_,hR⟩:=r.page;exact YSb fn top hm tp nd hR r.one
theorem Jzc{b:Nat}{R R':List Dt}{top top':Nat}{n n':Int}{ws ws':List (Int×Nat)}(f:Fn tbl)(r:Y2 lv tbl R top n)(r':Y2 lv tbl R' top' n')(w:Few b R R')(hb:1<=b)(h2:b<=2)(hs:b=2\/(R'.map Qr).Sublist (R.map Qr))(e:WOk lv tbl top R ws)(e':WOk lv tbl top' R' ws')(j:Nat) :
 (ws'.filter fun x=>x.2 == j && !decide (x.1∈ws.map Prod.fst)).length<=b:=by
 have q:(ws'.filter fun x=>x.2 == j && !decide (x.1∈ws.map Prod.fst))=(ws'.filter fun x=>x.2 == j).filter fun x=>!decide (x.1∈ws.map Prod.fst):=by
  rw[filter_filter];exact filter_congr fun x _=>Bool.and_comm _ _
 rw[q,<- Vr (f:=Prod.fst),show((ws'.filter fun x=>x.2 == j).filter fun x=>!decide (x.1∈ws.map Prod.fst)).map Prod.fst=((ws'.filter fun x=>x.2 == j).map Prod.fst).filter fun n=>!decide (n∈ws.map Prod.fst) from by rw[filter_map];rfl]
 by_cases hj:j<=top'
 ·obtain⟨k,t⟩:=r.one
  obtain⟨k',t'⟩:=r'.one;obtain⟨hs',th'⟩:=t'.below (j:=j+1) (by omega)
  rw[e'.lev j hs' hj th']
  by_cases ht:j<=top
  ·obtain⟨hs,th⟩:=t.below (j:=j+1) (by omega)
   refine(w.tow f th th').count hb fun x hx=>?_
   have:ZEa x∈hs.map ZEa:=mem_map.mpr ⟨x,hx,rfl⟩;rw[<- e.lev j hs ht th]at this;obtain⟨y,hy,ey⟩:=mem_map.mp this;exact mem_map.mpr ⟨y,(mem_filter.mp hy).1,ey⟩
  ·obtain⟨gs,tg⟩:=t'.below (j:=top+1) (by omega)
   have l1:=length_filter_le (fun n=>!decide (n∈ws.map Prod.fst)) (hs'.map ZEa)
   rw[Vr]at l1;have l2:=Tow.down f th' tg (by omega)
   rcases hs with hs | hs
   ·have:=(w.tow f t tg).two h2
    omega
   ·obtain⟨_,_,_,_,hR'⟩:=r'.page
    have:=Tow.more tg t hR' hs;have:=r'.two (top+1) gs (by omega) (by omega) tg
    simp at *
    omega
 ·have z:(ws'.filter fun x=>x.2 == j)=[]:=filter_eq_nil_iff.mpr fun x hx=>by
   have:=(e'.pg x hx).1;simp;omega
  rw[z];exact Vk _
end
end Tr
end
section
namespace L2
open PySem PySem.W PyProof.Rows
theorem YTb{A:Around}{s:Shared}{kb:List (Key×Value)}:∀ {kvs:List (Key×V)} {xs:List (Key×Value)},KV kvs xs->(∀ p∈kvs,J9 p.2=true)->(∀ p∈kvs,∃ y,valueAt kb p.1=some y/\QB p.2 y)->KeqHits A s kb xs true
 | _,_,.nil,_,_=>.nil
 | _,_,.cons (a:=p) (b:=q) ⟨e,r⟩ t,f,h=>by
  obtain⟨y,hy,ry⟩:=h p mem_cons_self;rw[e]at hy;have x:=XRa (A:=A) (s:=s) r ry (f p mem_cons_self) (f p mem_cons_self);rw[Zbb (f p mem_cons_self)]at x;exact KeqHits.hit hy x (YTb t (fun p hp=>f p (Vo _ hp)) fun p hp=>h p (Vo _ hp))
theorem XCb{kvs:List (Key×V)}(nd:(kvs.map Prod.fst).Nodup){p:Key×V}(hp:p∈kvs):ZI kvs p.1=some p.2:=by
 induction kvs with
 | nil=>cases hp
 | cons x r ih =>
  rw[map_cons]at nd;obtain⟨n1,n2⟩:=nodup_cons.mp nd
  rcases mem_cons.mp hp with rfl | hp
  ·exact ZC rfl
  ·rw[ZD fun e=>n1 (by rw[e];exact mem_map.mpr ⟨p,hp,rfl⟩)]
   exact ih n2 hp
theorem XDb{P P':Program}{w w':World}{es:List DictEntry}{vs:List (Key×Value)}(p:Pairs (QM P w) es vs):Pairs (QM P' w') es vs:=by
 induction p with
 | nil=>exact .nil
 | cons a b _ ih=>exact .cons a b ih
theorem XEb{P:Program}{w:World}{es:List DictEntry}{vs:List (Key×Value)}(p:Pairs (QM P w) es vs){e:DictEntry}(he:e∈es):∃ kv∈vs,(QM P w).is kv.1 e.key=true:=by
 induction p with
 | nil=>cases he
 | cons a b _ ih =>
  rcases mem_cons.mp he with rfl | he
  ·exact⟨_,mem_cons_self,a⟩
  ·obtain⟨kv,h1,h2⟩:=ih he
   exact⟨kv,Vo _ h1,h2⟩
theorem Yla{P P':Program}{w w':World}{h:Heap}{a:Addr}{vs:List (Key×Value)}(hi:∀ p∈vs,∃ i,p.1=.inl i)(d:h.DictOf (QM P w) a vs):h.DictOf (QM P' w') a vs:=by
 obtain⟨o,es,ep,h1,h2,h3,h4,h5,h6⟩:=d;refine⟨o,es,ep,h1,h2,h3,fun e he=>?_,XDb h5,h6⟩
 obtain⟨k,a,b⟩:=h4 e he;obtain⟨kv,hm,c⟩:=XEb h5 (e:=e) (by simpa using he)
 obtain⟨i,ei⟩:=hi kv hm;have ek:=(QM P w).inj _ _ _ a c;rw[ei]at ek;subst ek;exact⟨_,a,b⟩
section
variable{X:Cx}{pins:YP_}{σ:St}{H:Hp}{s:Shared}
theorem JLb(I:Inv X pins σ H s){A:Around}{a b:Addr}{kvs:List (Key×V)}(hu:A.units < cLine)(ha:Rd H a (.dK kvs))(hb:Rd H b (.dK kvs))(hi:∀ p∈kvs,∃ i,p.1=.inl i)(fl:∀ p∈kvs,J9 p.2=true)(nd:(kvs.map Prod.fst).Nodup):SeqAt.EqAt A s (.ref a) (.ref b) true:=by
 by_cases ab:a=b
 ·subst ab;exact .same _
 obtain⟨_,a1,va,ra,da⟩:=Zra I.hok ha;obtain⟨_,b1,vb,rb,db⟩:=Zra I.hok hb;have l1:va.length=vb.length:=by rw[<- Paired.length ra,<- Paired.length rb]
 have ii:∀ {vs:List (Key×Value)},KV kvs vs->∀ p∈vs,∃ i,p.1=.inl i:=fun {vs} r p hp=>by
  obtain⟨j,hj,e⟩:=mem_iff_getElem.mp hp;have l:=Paired.length r;obtain⟨x,_⟩:=Qv r (Vb (by omega)) (Vc.mpr ⟨hj,e⟩)
  rw[<- x];exact hi _ (getElem_mem _)
 refine .of_refs ab fun prog w E Q q=>?_
 refine keq_eq (knd:=QM prog w) a1 b1 (Yla (ii ra) da) (Yla (ii rb) db) hu (fun _=>YTb ra fl fun p hp=>?_) (by rw[l1,beq_self_eq_true];exact q)
 have:=rb.val p.1;rw[XCb nd hp]at this;cases hy:valueAt vb p.1 with
 | none=>rw[hy]at this;exact this.elim
 | some y=>rw[hy]at this;exact⟨y,rfl,this⟩
def Qcd(K:W.Frag):R2:=fun x y H Q=>∃ a b da db la lb kvs n d,x=.ref a/\y=.ref b/\SqT K H a [.ref da,.ref la]/\SqT K H b [.ref db,.ref lb]/\Rd H da (.dK kvs)/\Rd H db (.dK kvs)/\(∀ p∈kvs,∃ i,p.1=.inl i)/\(∀ p∈kvs,J9 p.2=true)/\(kvs.map Prod.fst).Nodup/\n<=50/\Rep K H n d (.ref la)/\Rep K H n d (.ref lb)/\Q (.bl false) H
theorem JAc(hu:X.A.units+64 < cLine):OpR X (compareOp .NotEq) (Qcd X.K):=by
 intro pins s σ H x y v u Q I rx ry h;obtain⟨a,b,da,db,la,lb,kvs,n,d,rfl,rfl,ha,hb,hda,hdb,hi,fl,nd,hn,r1,r2,q⟩:=h;cases rx;cases ry;obtain⟨its,w1,p1,_⟩:=I.tuple ha;obtain⟨its',w2,p2,_⟩:=I.tuple hb;have hu0:X.A.units < cLine:=by omega
 have k:=SeqAt.RcNeAt.tuples (A:=X.A) (e:=fun _=>true) p1 p2 hu0 fun j h1 h2=>by
  cases w1 with
  | cons e1 t1 =>
  cases t1 with
  | cons e2 t2 =>
  cases t2;cases w2 with
  | cons g1 u1 =>
  cases u1 with
  | cons g2 u2 =>
  cases u2;cases e1;cases e2;cases g1;cases g2
  match j,h1,h2 with
  | 0,_,_=>exact JLb I (A:=X.A.in1) (by show X.A.units+1 < cLine;omega) hda hdb hi fl nd
  | 1,_,_ =>
   have:=Rep.eqAt I n (A:=X.A.in1) (by show X.A.units+1+n < cLine;omega) r1 r2 rfl rfl
   rw[r1.self]at this;exact this
 have z1:its.toArray.size=2:=by rw[Vn,<- w1.length];rfl
 have z2:its'.toArray.size=2:=by rw[Vn,<- w2.length];rfl
 rw[z1,z2]at k;exact k X.prog X.w X.xe _ ⟨.bl _,H,I,rfl,q⟩
end
end L2
end
section
open L2 PySem
namespace Tr
section
variable{lv:V->Nat}{tbl:List (Int×Dt)}
end
end Tr
end
section
open PySem
namespace L2
section
variable{X:Cx}{pins:YP_}{σ:St}{H:Hp}{s:Shared}{a b:Addr}{kvs more:List (Key×V)}{A:Around}{E:YQ_}
end
section
variable{X:Cx}{o e:Expr}{apos cpos:Pos}{td ty:TE}
end
end L2
end
section
namespace L2
open PySem PySem.Spec PyProof.Rows
section
variable{X:Cx}{m:Str}{k:Nat}{ta:TE}{t:TA}{e o:Expr}{es:List Expr}{pos apos:Pos}{pl:Sem Bool}{f:Addr}{fd:FuncData}{ps:List Str}{sp:Sp}
end
end L2
end
section
namespace My
open PySem L2 Pl Th Tr
variable{CX:CXT}{P:Program}{w:World}{mg:Str->Option Value}{base:Heap}{N:List Str}{qual:Str}{scope:Scope}{a b d1 d2 f:Addr}{cd:Value}{A:Around}{outer:List Env}{s:Shared}{H H' H1:Hp}{E:XK}{c l m n:Int}{i j:Nat}{ob:Nat->Addr}{M R es es':List Dt}{k v x:V}{ks xs:List V}{st st':StL}{d row:Dt}{lv:V->Nat}{tbl:List (Int×Dt)}{Q:VK}{kvs:List (Key×V)}{us ws:List (Int×Nat)}
variable{P:Program}{w:World}{K:W.Frag}{mg:Str->Option Value}{base:Heap}{CT:Addr}{cs:Nat->Addr}{ob:Nat->Addr}{f:Addr}{fd:FuncData}
theorem Xlc{K:W.Frag}:(Zna CX P w K mg base N qual scope f cd A outer s H E).K=K:=rfl
theorem Xmc{K:W.Frag}:(Zna CX P w K mg base N qual scope f cd A outer s H E).prog=P:=rfl
theorem Xnc{K:W.Frag}:(Zna CX P w K mg base N qual scope f cd A outer s H E).w=w:=rfl
theorem Qdd{X:Cx}{sc:Scope}{x:Str}{M:List Str}{cl:List (Str×Addr)}{C:Addr}{fp:List Addr}:(blk X sc x M cl C s H fp).K=X.K:=rfl
theorem dly{G:Prop}(h:∀ g:Prop,(G->g)->g):G:=h G id
local macro_rules | `(tactic| walk_at "sc") => `(tactic| exact ⟨rfl, rfl, rfl, by decide +kernel, rfl, by decide +kernel, by decide +kernel⟩)
local macro_rules | `(tactic| walk_at "n") => do let h := Lean.mkIdent `h; let r := Lean.mkIdent `rfl; `(tactic| first | (cases $h:ident; subst_vars; rfl) | (repeat (first | (rcases $h:ident with ⟨$r:ident, _⟩; rfl) | rcases $h:ident with ⟨_, $h:ident⟩)))
local macro_rules | `(tactic| walk_at "rd") => do let x := ("Xlc Qdd Xeb Xfb Xgb Qlc Qmc Qnc Qoc Jac Jbc Yr JWc Qhc XLc Z4c XMc XWc J7c XPc XOc XXc Int.reduceLT Int.reduceLE Int.reduceToNat XCc J0c tB XAc Xzc tOr JVc tOp tUn Jcb Jdb tC XBc YAc Yeb JXc tCB Yjb Q0b YIa XJc XKc rI rI0 rU rEq rNe ZIc ZJc ZKc ZLc ZMc ZNc ZOc ZPc ZQc ZRc ZSc ZTc ZUc ZVc tBM Ynb tSl J2c Ylb Xjb Qfc QVc Qec J6c J5c XUc Yqb Yjc QUc Xwb Yic ZH.thawed Xmc Xnc JCb Q6c Qad Ykc Ylc Ymc tIf QBc XFc JYc XEc QCc Q8b List.getElem?_cons_zero List.getElem?_cons_succ List.set_cons_zero List.set_cons_succ Option.some.injEq V.int.injEq V.bl.injEq V.str.injEq V.ref.injEq exists_eq_left exists_eq_left' exists_eq_right exists_and_left List.cons.injEq and_true true_and List.append_nil decide_eq_true_eq Bool.not_eq_true' decide_eq_false_iff_not Bool.not_true Bool.not_false if_true if_false Bool.true_eq_false Bool.false_eq_true reduceCtorEq exists_const exists_false false_and and_false not_true_eq_false not_false_eq_true ite_true ite_false".splitOn " ").toArray.map fun s => Lean.mkIdent s.toName; let y := ("XZc YSc YTc YUc Z9c".splitOn " ").toArray.map fun s => Lean.mkIdent s.toName; `(tactic| try simp (maxSteps := 1000000) only [$[↓$y:ident],*, $[$x:ident],*])
local macro_rules | `(tactic| walk_at "side") => `(tactic| first | omega | decide | ((first | unfold J7 | unfold QZb | (refine Jhb.ok ?_; unfold Jhb) | unfold Jhb); first | omega | decide))
local macro_rules | `(tactic| walk_at "go") => `(tactic| (repeat refine And.intro (by walk_at "side") ?_))
def top(i:Nat):Stmt:=PySem.Challenge.pw_twigtable_k25_few_new_pages.main.body.getD i (.Pass ⟨0,0,0,0⟩)
def Q6a(i j:Nat):Stmt:=match top i with | .ClassDef _ _ _ body _ _ _ _ _ _ _=>body.getD j (.Pass ⟨0,0,0,0⟩) | s=>s
abbrev Jt:Stmt:=Q6a 3 0
theorem ZIa:Qq ["self","key"] ["self","key"] (Qj Jt):=by walk_at "sc"
abbrev Xj:Stmt:=Q6a 4 0
theorem YOa:Qq ["self","key"] ["self","key"] (Qj Xj):=by walk_at "sc"
abbrev YG:Stmt:=Q6a 5 0
theorem Yma:Qq ["self","number"] ["self","number"] (Qj YG):=by walk_at "sc"
abbrev Z3a:Stmt:=top 7
theorem JMb:Qq ["value"] ["value"] (Qj Z3a):=by walk_at "sc"
abbrev Q7a:Stmt:=top 13
theorem Zwb:Qq ["rows","at","key"] ["rows","at","key"] (Qj Q7a):=by walk_at "sc"
abbrev YH:Stmt:=top 17
theorem Jk:Qq ["key","mix","sign"] ["key"] (Qj YH):=by walk_at "sc"
abbrev X9:Stmt:=Q6a 21 0
theorem Qcb:Qq ["self","level","entries"] ["self","level","entries"] (Qj X9):=by walk_at "sc"
abbrev Qaa:Stmt:=Q6a 21 1
theorem Qdb:Qq ["self"] ["self"] (Qj Qaa):=by walk_at "sc"
abbrev Xk:Stmt:=Q6a 21 2
theorem YPa:Qq ["self"] ["self"] (Qj Xk):=by walk_at "sc"
abbrev Xl:Stmt:=Q6a 21 4
theorem YQa:Qq ["self"] ["self"] (Qj Xl):=by walk_at "sc"
abbrev JT:Stmt:=Q6a 23 1
theorem YRa:Qq ["self"] ["self"] (Qj JT):=by walk_at "sc"
abbrev Xm:Stmt:=Q6a 25 0
theorem YSa:Qq ["self"] ["self"] (Qj Xm):=by walk_at "sc"
abbrev Qba:Stmt:=top 34
theorem Qeb:Qq ["rows","at","row"] ["rows","at","row"] (Qj Qba):=by walk_at "sc"
abbrev Qca:Stmt:=top 40
theorem Qfb:Qq ["_law_script","_law_k"] ["_law_script","_law_k"] (Qj Qca):=by walk_at "sc"
abbrev Q8a:Stmt:=top 41
theorem Qda:Qq ["_law_cell_here","_law_k","_law_number"] ["_law_cell_here","_law_k"] (Qj Q8a):=by walk_at "sc"
abbrev Qea:Stmt:=top 42
theorem Xn:Qq ["_law_cell_here","_law_some"] ["_law_cell_here"] (Qj Qea):=by walk_at "sc"
abbrev Xo:Stmt:=top 44
theorem YTa:Qq ["_law_cell_here"] ["_law_cell_here"] (Qj Xo):=by walk_at "sc"
abbrev ZE:Stmt:=top 50
theorem Yd:Qq ["_law_some","_law_keys"] ["_law_some"] (Qj ZE):=by walk_at "sc"
abbrev Qfa:Stmt:=top 52
theorem Qgb:Qq ["_law_key_here","_law_way"] ["_law_key_here","_law_way"] (Qj Qfa):=by walk_at "sc"
abbrev Xp:Stmt:=top 58
theorem Qga:Qq ["_law_levels","_law_ahead","_law_most","_law_level","_law_some"] ["_law_levels","_law_ahead","_law_most"] (Qj Xp):=by walk_at "sc"
abbrev Yna:Stmt:=top 8
theorem XFb:Qq ["one","other"] ["one","other"] (Qj Yna):=by walk_at "sc"
abbrev Qhb:Stmt:=top 18
theorem Zxb:Qq ["key","mix"] ["key"] (Qj Qhb):=by walk_at "sc"
abbrev Qha:Stmt:=Q6a 22 0
theorem Qib:Qq ["self","rows"] ["self","rows"] (Qj Qha):=by walk_at "sc"
abbrev Qia:Stmt:=Q6a 23 0
theorem Qjb:Qq ["self","level","heads"] ["self","level","heads"] (Qj Qia):=by walk_at "sc"
abbrev Xq:Stmt:=Q6a 25 1
theorem YI:Qq ["self","page","told","number"] ["self","page"] (Qj Xq):=by walk_at "sc"
abbrev Yv:Stmt:=top 43
theorem JU:Qq ["_law_cell_here","_law_size","_law_fill","_law_at","_law_signs"] ["_law_cell_here","_law_size"] (Qj Yv):=by walk_at "sc"
abbrev Qja:Stmt:=top 45
theorem JV:Qq ["_law_cell_here","_law_high","_law_low","_law_number"] ["_law_cell_here"] (Qj Qja):=by walk_at "sc"
abbrev Q9a:Stmt:=top 9
theorem Jb:Qq ["keys","key","low","high","middle"] ["keys","key"] (Qj Q9a):=by walk_at "sc"
abbrev Zaa:Stmt:=top 19
theorem JG:Qq ["key","rest","level"] ["key"] (Qj Zaa):=by walk_at "sc"
abbrev JN:Stmt:=Q6a 25 2
theorem Z4a:Qq ["self","number"] ["self","number"] (Qj JN):=by walk_at "sc"
abbrev Zba:Stmt:=top 46
theorem Yw:Qq ["_law_cell_here","_law_rest","_law_size"] ["_law_cell_here"] (Qj Zba):=by walk_at "sc"
abbrev Xr:Stmt:=top 47
theorem Jx:Qq ["_law_cell_here","_law_rest","_law_size"] ["_law_cell_here"] (Qj Xr):=by walk_at "sc"
abbrev JW:Stmt:=top 11
theorem QKa:Qq ["entries","key","place"] ["entries","key"] (Qj JW):=by walk_at "sc"
abbrev Z5a:Stmt:=top 24
theorem JNb:Qq ["level","entries"] ["level","entries"] (Qj Z5a):=by walk_at "sc"
abbrev Xs:Stmt:=Q6a 25 4
theorem QLa:Qq ["self","number","told"] ["self","number"] (Qj Xs):=by walk_at "sc"
abbrev Zbc:Stmt:=top 27
theorem JOb:Qq ["entries","level","parts","entry"] ["entries","level"] (Qj Zbc):=by walk_at "sc"
abbrev Xt:Stmt:=top 48
theorem QMa:Qq ["_law_cell_here","_law_was"] ["_law_cell_here"] (Qj Xt):=by walk_at "sc"
abbrev YJ:Stmt:=top 53
theorem Yoa:Qq ["_law_cell_here","_law_rows_here"] ["_law_cell_here","_law_rows_here"] (Qj YJ):=by walk_at "sc"
abbrev Xu:Stmt:=Q6a 25 3
theorem QNa:Qq ["self","number","told"] ["self","number"] (Qj Xu):=by walk_at "sc"
abbrev Zca:Stmt:=top 28
theorem Yx:Qq ["pages","level","entries","heads","part","page"] ["pages","level","entries"] (Qj Zca):=by walk_at "sc"
abbrev Xv:Stmt:=top 49
theorem YK:Qq ["_law_cell_here","_law_found","_law_k"] ["_law_cell_here"] (Qj Xv):=by walk_at "sc"
abbrev JPb:Stmt:=top 12
theorem QAa:Qq ["pages","root","key","path","number","page","at"] ["pages","root","key"] (Qj JPb):=by walk_at "sc"
abbrev Z6a:Stmt:=top 29
theorem Ye:Qq ["pages","level","heads","top","above"] ["pages","level","heads"] (Qj Z6a):=by walk_at "sc"
abbrev Z7a:Stmt:=top 38
theorem Yf:Qq ["pages","heads","number","under"] ["pages","heads"] (Qj Z7a):=by walk_at "sc"
abbrev Yy:Stmt:=top 51
theorem ZR:Qq ["_law_script","_law_cells_here","_law_many","_law_some","_law_cell_here"] ["_law_script"] (Qj Yy):=by walk_at "sc"
abbrev Qkb:Stmt:=top 30
theorem Zyb:Qq ["pages","rows","at"] ["pages","rows"] (Qj Qkb):=by walk_at "sc"
abbrev Qka:Stmt:=top 54
theorem Xw:Qq ["_law_found","_law_due","_law_one","_law_other"] ["_law_found","_law_due"] (Qj Qka):=by walk_at "sc"
abbrev YL:Stmt:=top 55
theorem Yh:Qq ["_law_found","_law_due","_law_one","_law_other"] ["_law_found","_law_due"] (Qj YL):=by walk_at "sc"
abbrev Xx:Stmt:=top 33
theorem ZF:Qq ["pages","number","row","page","at","way","heads","inner"] ["pages","number","row"] (Qj Xx):=by walk_at "sc"
abbrev Ypa:Stmt:=top 37
theorem Y3:Qq ["pages","left","right","one","entries","others","inner"] ["pages","left","right"] (Qj Ypa):=by walk_at "sc"
abbrev Zcc:Stmt:=top 32
theorem JQb:Qq ["pages","root","key","cells","row","level"] ["pages","root","key","cells"] (Qj Zcc):=by walk_at "sc"
abbrev Qla:Stmt:=top 56
theorem JX:Qq ["_law_pages","_law_number","_law_levels","_law_found","_law_level","_law_entries","_law_entry"] ["_law_pages","_law_number","_law_levels","_law_found"] (Qj Qla):=by walk_at "sc"
abbrev Qma:Stmt:=top 57
theorem Xy:Qq ["_law_pages","_law_root","_law_levels","_law_found"] ["_law_pages","_law_root"] (Qj Qma):=by walk_at "sc"
abbrev JO:Stmt:=top 36
theorem Zf:Qq ["pages","number","key","page","at","entries","inner"] ["pages","number","key"] (Qj JO):=by walk_at "sc"
abbrev JRb:Stmt:=top 35
theorem JBc:Qq ["pages","root","key"] ["pages","root","key"] (Qj JRb):=by walk_at "sc"
abbrev YM:Stmt:=top 59
theorem Jl:Qq ["_law_pages","_law_root","_law_key_here","_law_told","e"] ["_law_pages","_law_root","_law_key_here"] (Qj YM):=by walk_at "sc"
abbrev XEa:Stmt:=top 60
theorem Zv:Qq ["_law_script","_law_pages","_law_rows_here","_law_root","_law_trees","_law_some","_law_k","_law_cell_here","_law_key_here","_law_most","_law_levels","_law_found","_law_one","_law_read_here"] ["_law_script"] (Qj XEa):=by walk_at "sc"
structure Zs(mg:Str->Option Value):Prop where
 bool:mg "bool"=none
 dict:mg "dict"=none
 isinstance:mg "isinstance"=none
 len:mg "len"=none
 list:mg "list"=none
 max:mg "max"=none
 ord:mg "ord"=none
 range:mg "range"=none
 sorted:mg "sorted"=none
 str:mg "str"=none
 tuple:mg "tuple"=none
 zip:mg "zip"=none
 MODULUS:∃ t,mg "MODULUS"=some (.int (2147483647) t)
 TOP_LEVEL:∃ t,mg "TOP_LEVEL"=some (.int (6) t)
def Qed(i j:Nat):Bool:=([(0,0),(1,0),(1,1),(2,0),(2,2),(3,3)]:List (Nat×Nat)).contains (i,j)
structure Tx(K:W.Frag)(mg:Str->Option Value)(CT:Addr)(cs:Nat->Addr)(ob:Nat->Addr):Prop where
 mg_Page:mg "Page"=some (.ref (ob 0))
 mg_Leaf:mg "Leaf"=some (.ref (ob 1))
 mg_Twig:mg "Twig"=some (.ref (ob 2))
 mg_Pages:mg "Pages"=some (.ref (ob 3))
 ob_:∀ i,i < 4->ObC K (ob i) ["level","rows","heads","entries","told_by_number","number_by_told","count"]
 isa:∀ i j,i < 4->j < 4->W.kitOne K (.ref (ob i)) (.ref (ob j))=some (Qed i j)
 top:X6c K mg "TableError" CT
 mg_NoPage:mg "NoPage"=some (.ref (cs 0))
 mg_NotRising:mg "NotRising"=some (.ref (cs 1))
 mg_NoRow:mg "NoRow"=some (.ref (cs 2))
 cl:∀ i,i < 3->W.XCl K (cs i) CT
 no:∀ i,i < 3->∀ f∈(["number","key"]:List Str),Jh K (cs i) f
 tab:∀ i j,i < 3->j < 3->W.kitOne K (.ref (cs i)) (.ref (cs j))=some (decide (i=j))
 tv:∀ i,i < 3->W.kitOne K (.ref (cs i)) (.type "ValueError")=some true
seal PE PT PW PA PS PSs PI PG QY PGs PO in
theorem Yqa(Z:Zs mg)(T:Tx K mg CT cs ob)(F:Fun K "__init__" "NoPage.__init__" YG f fd):QF P w K mg base CX0 1 f fd ["self","number"] (QLc (cs 0) ["number"]):=by
 refine F.ok Yma (fun vs H Q E h=>?_) (fun cdv A outer s H vs Q E hr h=>?_)
 ·obtain⟨e,ws,rfl,hl,_⟩:=h;obtain⟨_,rfl⟩:=length_eq_one_iff.mp hl;rfl
 obtain⟨e,ws,rfl,hl,he,q⟩:=h;obtain⟨w0,rfl⟩:=length_eq_one_iff.mp hl;refine⟨_,(@Qa _ _ _ _ _ (ZK (Yaa T.top rfl (Qf (pv 0) (Qf (pv 1) Qe))))
  (Qg (JFb CT rfl (pv 0) (pv 1) rfl))),?_⟩
 refine Qn (σ:=[some (.ref e),some w0]) rfl ?_
 walk_at "rd";simp only[tBI,Jkc,Y7c];walk_at "rd";exact⟨e,cs 0,[w0],⟨rfl,rfl⟩,by show 1<=1000;decide,he,T.cl 0 (by decide),cs 0,he,T.cl 0 (by decide),(T.no 0 (by decide) _ (by decide)),fun d hd hne=>q d hd hne⟩
seal PE PT PW PA PS PSs PI PG QY PGs PO in
theorem ZJa(Z:Zs mg)(T:Tx K mg CT cs ob)(F:Fun K "__init__" "NotRising.__init__" Jt f fd):QF P w K mg base CX0 1 f fd ["self","key"] (QLc (cs 1) ["key"]):=by
 refine F.ok ZIa (fun vs H Q E h=>?_) (fun cdv A outer s H vs Q E hr h=>?_)
 ·obtain⟨e,ws,rfl,hl,_⟩:=h;obtain⟨_,rfl⟩:=length_eq_one_iff.mp hl;rfl
 obtain⟨e,ws,rfl,hl,he,q⟩:=h;obtain⟨w0,rfl⟩:=length_eq_one_iff.mp hl;refine⟨_,(@Qa _ _ _ _ _ (ZK (Yaa T.top rfl (Qf (pv 0) (Qf (pv 1) Qe))))
  (Qg (JFb CT rfl (pv 0) (pv 1) rfl))),?_⟩
 refine Qn (σ:=[some (.ref e),some w0]) rfl ?_
 walk_at "rd";simp only[tBI,Jkc,Y7c];walk_at "rd";exact⟨e,cs 1,[w0],⟨rfl,rfl⟩,by show 1<=1000;decide,he,T.cl 1 (by decide),cs 1,he,T.cl 1 (by decide),(T.no 1 (by decide) _ (by decide)),fun d hd hne=>q d hd hne⟩
seal PE PT PW PA PS PSs PI PG QY PGs PO in
theorem YUa(Z:Zs mg)(T:Tx K mg CT cs ob)(F:Fun K "__init__" "NoRow.__init__" Xj f fd):QF P w K mg base CX0 1 f fd ["self","key"] (QLc (cs 2) ["key"]):=by
 refine F.ok YOa (fun vs H Q E h=>?_) (fun cdv A outer s H vs Q E hr h=>?_)
 ·obtain⟨e,ws,rfl,hl,_⟩:=h;obtain⟨_,rfl⟩:=length_eq_one_iff.mp hl;rfl
 obtain⟨e,ws,rfl,hl,he,q⟩:=h;obtain⟨w0,rfl⟩:=length_eq_one_iff.mp hl;refine⟨_,(@Qa _ _ _ _ _ (ZK (Yaa T.top rfl (Qf (pv 0) (Qf (pv 1) Qe))))
  (Qg (JFb CT rfl (pv 0) (pv 1) rfl))),?_⟩
 refine Qn (σ:=[some (.ref e),some w0]) rfl ?_
 walk_at "rd";simp only[tBI,Jkc,Y7c];walk_at "rd";exact⟨e,cs 2,[w0],⟨rfl,rfl⟩,by show 1<=1000;decide,he,T.cl 2 (by decide),cs 2,he,T.cl 2 (by decide),(T.no 2 (by decide) _ (by decide)),fun d hd hne=>q d hd hne⟩
section
variable{K:W.Frag}
theorem Zzb:W.kitOne K (.type "int") (.type "tuple")=some false:=by rfl
theorem ZAb:W.kitOne K (.type "str") (.type "tuple")=some false:=by rfl
theorem ZBb:W.kitOne K (.type "NoneType") (.type "tuple")=some false:=by rfl
theorem Jna:W.kitOne K (.type "tuple") (.type "tuple")=some true:=by rfl
theorem ZCb:W.kitOne K (.type "list") (.type "list")=some true:=by rfl
theorem Qlb:W.kitOne K (.type "NoneType") (.type "bool")=some false:=by rfl
theorem Qmb:W.kitOne K (.type "str") (.type "bool")=some false:=by rfl
end
theorem JSb(v:V):[v].length<=sizeLine:=show 1<=sizeLine by decide
theorem Y4{n:Nat}(h:n<=1000):n<=sizeLine:=Vv (QO h)
theorem at0(x:V)(r:List V):atI (x::r) 0=some x:=Zb (j:=0) rfl
theorem at1(x y:V)(r:List V):atI (x::y::r) 1=some y:=Zb (j:=1) rfl
theorem XGb{P:V->Prop}{ys:List V}(py:∀ (i:Nat) y,ys[i]?=some y->P y):∀ v∈ys,P v:=fun v hv=>by
 obtain⟨i,hi,e⟩:=mem_iff_getElem.mp hv;exact py i v (by rw[Vb hi,e])
namespace M11
def p:Int:=2147483647
theorem JTb(cs:List Int):∀ (a:Int),0<=a->a < 2147483647->0<=cs.foldl (fun m c=>(m * 131+c) % 2147483647) a/\cs.foldl (fun m c=>(m * 131+c) % 2147483647) a < 2147483647:=by
 induction cs with
 | nil=>intro a h1 h2;exact⟨h1,h2⟩
 | cons c cs ih =>
  intro a h1 h2;simp only[foldl_cons]
  apply ih <;> omega
def lev:Nat->Int->Nat
 | 0,_=>0
 | n+1,m=>if m % 4=0 then lev n (m / 4)+1 else 0
theorem ZDb(n:Nat)(m:Int):lev (n+1) m=if m % 4=0 then lev n (m / 4)+1 else 0:=rfl
theorem Zdc:∀ (n:Nat) (m:Int),lev n m<=n
 | 0,_=>Ve _
 | n+1,m=>by
  unfold lev
  split
  ·have:=Zdc n (m / 4);omega
  ·omega
theorem Zec{n:Nat}{r:Int}{l:Nat}(h:l+lev (n - l) r=lev n m)(hl:l < n)(e:r % 4=0):(l+1)+lev (n - (l+1)) (r / 4)=lev n m:=by
 have e1:n - l=(n - (l+1))+1:=by omega
 rw[e1,ZDb,if_pos e]at h
 omega
theorem YUb{n:Nat}{r:Int}{l:Nat}(h:l+lev (n - l) r=lev n m)(hl:¬ (l < n/\r % 4=0))(hn:l<=n):l=lev n m:=by
 by_cases h1:l < n
 ·have h2:r % 4≠0:=fun e=>hl ⟨h1,e⟩
  have e1:n - l=(n - (l+1))+1:=by omega
  rw[e1,ZDb,if_neg h2]at h
  omega
 ·have e:n - l=0:=by omega
  rw[e]at h;simp only[lev]at h
  omega
end M11
def Q6:V->Prop
 | .int n => -(10 ^ 30) < n/\n < 10 ^ 30
 | .str z=>z.length<=40
 | _=>False
def Zda(z:Str):List Int:=z.cps.toList.map fun(c:Nat)=>(c:Int)
def Xoc:V->Int
 | .int n=>(n * 48271+11) % 2147483647
 | .str z=>(Zda z).foldl (fun m c=>(m * 131+c) % 2147483647) 7
 | _=>0
def Qnb(v:V):Int:=Builtin.bitXor (Xoc v) (Xoc v / 32768)
def QK(v:V):Nat:=M11.lev 6 (Qnb v)
theorem XHb{α β:Type}{l:List α}{c:α}{f:β->α->β}{a:β}(h:l[i]?=some c):(l.take (i+1)).foldl f a=f ((l.take i).foldl f a) c:=by
 rw[take_add_one,h];simp
theorem JCc{z:Str}{c:Nat}(h:z.cps.toList[i]?=some c):(Zda z)[i]?=some (c:Int):=by
 unfold Zda;rw[getElem?_map,h]
 rfl
theorem Zfc(z:Str):(Zda z).length=z.length:=by
 unfold Zda;rw[Vr];simp[Str.length]
theorem Qob{α:Type}{l:List α}{k:Int}(h0:0<=k)(h1:k < (l.length:Int)):∃ c,atI l k=some c:=by
 have hk:k.toNat < l.length:=by omega
 have ek:k=((k.toNat:Nat):Int):=by omega
 have h:=Zb (xs:=l) (j:=k.toNat) (Vb hk)
 rw[<- ek]at h;exact⟨_,h⟩
inductive Yi(u0_:W.Frag)(vs:List V)(H:Hp)(Q:VK)(E:XK):Prop
 | mk:∀ v,vs=[v]->Q6 v->Q (.int (Xoc v)) H->Yi u0_ vs H Q E
inductive Yra(u0_:W.Frag)(vs:List V)(H:Hp)(Q:VK)(E:XK):Prop
 | mk:∀ v,vs=[v]->Q6 v->Q (.int (Qnb v)) H->Yra u0_ vs H Q E
inductive Qna(u0_:W.Frag)(vs:List V)(H:Hp)(Q:VK)(E:XK):Prop
 | mk:∀ v,vs=[v]->Q6 v->Q (.int (QK v)) H->Qna u0_ vs H Q E
theorem Yz{K:W.Frag}:W.kitOne K (.type "int") (.type "str")=some false:=by rfl
theorem YA{K:W.Frag}:W.kitOne K (.type "str") (.type "str")=some true:=by rfl
seal PE PT PW PA PS PSs PI PG QY PGs PO in
theorem Ysa(Z:Zs mg)(T:Tx K mg CT cs ob)(F:Fun K "mixed_first" "mixed_first" YH f fd):QF P w K mg base CX0 1 f fd ["key"] (Yi K):=by
 refine F.ok Jk (fun vs H Q E h=>?_) (fun cdv A outer s H vs Q E hr h=>?_)
 ·walk_at "n"
 obtain⟨v,rfl,hv,q⟩:=h;refine⟨_,(@Qa _ _ _ _ _ (QN (Js (ZU (Qz Ze rfl (Z.isinstance) Q0 (Qf (pv 0) (Qf (Ju rfl (Z.str) J1a (v:=.ty "str") rfl) Qe))) (fun _=>rfl))) (Qg (Qm (Qk QD (Qk Q9 (Qk Z6 (pv 0) Qb) Qb) (XVa (Z.MODULUS) rfl)))) Qu)
  (@Qa _ _ _ _ _ (Ql (i:=1) Jk.nd rfl (Or.inl rfl) Qb)
  (@Qa _ _ _ _ _ (JM PassesOwn.never rfl (YQc (pv 0)) (Q7 (i:=2) Jk.nd rfl (Or.inl rfl)) (Qg (Ql (i:=1) Jk.nd rfl (Or.inl rfl) (Qk QD (Qk Q9 (Qk Z6 (pv 1) Qb) (Qz X2b rfl (Z.ord) YRc (Qf (pv 2) Qe))) (XVa (Z.MODULUS) rfl)))))
  (Qg (Qm (pv 1)))))),?_⟩
 refine Qn (σ:=[some v,none,none]) rfl ?_
 walk_at "rd";cases v with
 | int n =>
  refine ZM (.int n) Yz ⟨_,rfl,?_⟩
  walk_at "rd";walk_at "go";exact q
 | str z =>
  refine ZM (.str z) YA ⟨_,rfl,?_⟩
  walk_at "rd";refine Jcc (z:=z) (fun i σ' H'=>H'=H/\∃ x,σ'=[some (.str z),some (.int (((Zda z).take i).foldl (fun m c=>(m * 131+c) % 2147483647) 7)),x]) ⟨rfl,_,rfl⟩ ?_ ?_
  ·rintro i c σ' H' hc ⟨rfl,x,rfl⟩
   walk_at "rd";have hr:=M11.JTb ((Zda z).take i) 7 (by decide) (by decide)
   refine⟨by refine Jhb.ok ?_;unfold Jhb;omega,rfl,?_,_,rfl⟩
   rw[XHb (JCc hc)]
   rfl
  ·rintro σ' H' ⟨rfl,x,rfl⟩
   walk_at "rd";rw[take_of_length_le (by rw[Zfc];exact Ve _)]
   exact q
 | _=>exact hv.elim
seal PE PT PW PA PS PSs PI PG QY PGs PO in
theorem Zgc(Z:Zs mg)(T:Tx K mg CT cs ob)(YVa:Cal P w K mg base 1 "mixed_first" ["key"] (Yi K))(F:Fun K "mixed" "mixed" Qhb f fd):QF P w K mg base CX0 2 f fd ["key"] (Yra K):=by
 refine F.ok Zxb (fun vs H Q E h=>?_) (fun cdv A outer s H vs Q E hr h=>?_)
 ·walk_at "n"
 obtain⟨v,rfl,hv,q⟩:=h;refine⟨_,(@Qa _ _ _ _ _ (Ql (i:=1) Zxb.nd rfl (Or.inl rfl) (Qo YVa (k:=1) hr (by decide) rfl (Qf (pv 0) Qe)))
  (Qg (Qm (Qk XYb (pv 1) (Qk XXb (pv 1) Qb))))),?_⟩
 refine Qn (σ:=[some v,none]) rfl ?_
 walk_at "rd";refine⟨v,rfl,hv,?_⟩
 walk_at "rd";walk_at "go";exact q
seal PE PT PW PA PS PSs PI PG QY PGs PO in
theorem ZEb(Z:Zs mg)(T:Tx K mg CT cs ob)(JDc:Cal P w K mg base 2 "mixed" ["key"] (Yra K))(F:Fun K "level_of" "level_of" Zaa f fd):QF P w K mg base CX0 3 f fd ["key"] (Qna K):=by
 refine F.ok JG (fun vs H Q E h=>?_) (fun cdv A outer s H vs Q E hr h=>?_)
 ·walk_at "n"
 obtain⟨v,rfl,hv,q⟩:=h;refine⟨_,(@Qa _ _ _ _ _ (Ql (i:=1) JG.nd rfl (Or.inl rfl) (Qo JDc (k:=2) hr (by decide) rfl (Qf (pv 0) Qe)))
  (@Qa _ _ _ _ _ (Ql (i:=2) JG.nd rfl (Or.inl rfl) Qb)
  (@Qa _ _ _ _ _ (XV PassesOwn.never (PW.pt (YE (Qs JUa (pv 2) (XVa (Z.TOP_LEVEL) rfl) (Qw _)) (Jv (Qs Zk (Qk QD (pv 1) Qb) Qb (Qw _))))) (@Qa _ _ _ _ _ (Ql (i:=1) JG.nd rfl (Or.inl rfl) (Qk XXb (pv 1) Qb))
  (Qg (Ql (i:=2) JG.nd rfl (Or.inl rfl) (Qk Q9 (pv 2) Qb)))))
  (Qg (Qm (pv 2)))))),?_⟩
 refine Qn (σ:=[some v,none,none]) rfl ?_
 walk_at "rd";refine⟨v,rfl,hv,?_⟩
 walk_at "rd";refine⟨fun m σ' H'=>H'=H/\∃ (r:Int) (l:Nat),σ'=[some v,some (.int r),some (.int l)]/\l<=6/\m=6 - l/\l+M11.lev (6 - l) r=QK v,⟨6,rfl,Qnb v,0,rfl,by decide,rfl,by show 0+M11.lev 6 (Qnb v)=QK v;rw[Nat.zero_add];rfl⟩,?_⟩
 rintro m σ' H' ⟨rfl,r,l,rfl,hl,rfl,e⟩;walk_at "rd"
 by_cases h1:l < 6
 ·rw[if_pos (by omega)]
  walk_at "go"
  by_cases h2:r % 4=0
  ·rw[if_pos h2]
   refine⟨fun σ2 H2=>H2=H'/\σ2=[some v,some (.int (r / 4)),some (.int ((l+1:Nat):Int))],fun σ2 H2 ⟨a,b⟩=>⟨6 - (l+1),by omega,a,r / 4,l+1,b,by omega,rfl,M11.Zec e h1 h2⟩,?_⟩
   walk_at "rd";exact⟨rfl,by omega⟩
  ·rw[if_neg h2]
   have:=M11.YUb e (fun z=>h2 z.2) hl
   rw[this];exact q
 ·rw[if_neg (by omega)]
  have:=M11.YUb e (fun z=>h1 z.1) hl
  rw[this];exact q
def pgF(tw:Bool)(l:Int)(t:Addr):List (Str×V):=ZV (if tw=true then "heads" else "rows") (.ref t) (ZV "entries" (.ref t) (ZV "level" (.int l) []))
theorem ZFb{tw:Bool}:(if tw=true then 2 else 1) < 4:=by cases tw <;> decide
def PgD(ob:Nat->Addr)(H:Hp)(a:Addr)(l:Int)(es:List Dt):Prop :=
 ∃ tw dx t,tw=decide (l≠0)/\H a=some (.ins (ob (if tw=true then 2 else 1)) dx (pgF tw l t))/\TD H 7 (.t es) (.ref t)
theorem PgD.same(h:PgD ob H a l es)(s:Qp H H'):PgD ob H' a l es:=by
 obtain⟨tw,dx,t,e,h1,h2⟩:=h;exact⟨tw,dx,t,e,s _ _ h1,h2.same s⟩
section
variable{K:W.Frag}{mg:Str->Option Value}{CT:Addr}{cs ob:Nat->Addr}{a t dx:Addr}{tw:Bool}{l:Int}{i:Nat}{σ:St}{H:Hp}{Q:VK}
theorem Qoa(T:Tx K mg CT cs ob)(hs:σ[i]?=some (some (.ref a)))(ha:H a=some (.ins (ob (if tw=true then 2 else 1)) dx (pgF tw l t)))(q:Q (.int l) H):ZZc K (Xa i) "level" σ H Q :=
 Zu (T.ob_ _ ZFb) (by decide) hs ha (by cases tw <;> rfl) q
theorem Z9(T:Tx K mg CT cs ob)(hs:σ[i]?=some (some (.ref a)))(ha:H a=some (.ins (ob (if tw=true then 2 else 1)) dx (pgF tw l t)))(q:Q (.ref t) H):ZZc K (Xa i) "entries" σ H Q :=
 Zu (T.ob_ _ ZFb) (by decide) hs ha (by cases tw <;> rfl) q
end
theorem JEc(h:xs[0]?=some x):atI xs 0=some x:=Zb (j:=0) h
inductive Q4(u0_:W.Frag)(ob:Nat->Addr)(vs:List V)(H:Hp)(Q:VK)(E:XK):Prop
 | mk:∀ a l es,vs=[.ref a]->PgD ob H a l es->(∀ r H',Qp H H'->H r=none->TD H' 8 (Zc l es) (.ref r)->Q (.ref r) H')->Q4 u0_ ob vs H Q E
seal PE PT PW PA PS PSs PI PG QY PGs PO in
theorem Xz(Z:Zs mg)(T:Tx K mg CT cs ob)(F:Fun K "told" "Page.told" Qaa f fd):QF P w K mg base (CX1 P w) 1 f fd ["self"] (Q4 K ob):=by
 refine F.ok1 Qdb (fun vs H Q E h=>?_) (fun cdv A outer s H vs Q E hr h=>?_)
 ·walk_at "n"
 obtain⟨a,l,es,rfl,hP,q⟩:=h;refine⟨_,(Qg (Qm (Zm (Qf (QW (pv 0) rfl) (Qf (QW (pv 0) rfl) Qe))))),?_⟩
 refine Qn (σ:=[some (.ref a)]) rfl ?_
 walk_at "rd";obtain⟨tw,dx,t,_,ha,ht⟩:=hP;exact Qoa T rfl ha (Z9 T rfl ha ⟨Z8,fun p hp=>q p _ (Qh hp _) hp (TD.pair Qd (.ofV rfl) (ht.same (Qh hp _)))⟩)
inductive ZG(u0_:W.Frag)(ob:Nat->Addr)(vs:List V)(H:Hp)(Q:VK)(E:XK):Prop
 | mk:∀ a l k r es,vs=[.ref a]->PgD ob H a l (.t (.v k::r)::es)->Q k H->ZG u0_ ob vs H Q E
seal PE PT PW PA PS PSs PI PG QY PGs PO in
theorem YN(Z:Zs mg)(T:Tx K mg CT cs ob)(F:Fun K "first" "Page.first" Xk f fd):QF P w K mg base (CX1 P w) 1 f fd ["self"] (ZG K ob):=by
 refine F.ok1 YPa (fun vs H Q E h=>?_) (fun cdv A outer s H vs Q E hr h=>?_)
 ·walk_at "n"
 obtain⟨a,l,k,r,es,rfl,hP,q⟩:=h;refine⟨_,(Qg (Qm (QA QI (QA QI (QW (pv 0) rfl) Qb (fun _ _=>rfl)) Qb (fun _ _=>rfl)))),?_⟩
 refine Qn (σ:=[some (.ref a)]) rfl ?_
 walk_at "rd";obtain⟨tw,dx,t,_,ha,ht⟩:=hP;obtain⟨_,_,xs,_,e,ht',rt⟩:=ht.tup;cases e;cases rt with
 | cons r1 _ =>
  obtain⟨_,b,ys,_,rfl,hb,rb⟩:=r1.tup;cases rb with
  | cons r2 _ =>
   obtain⟨_,rfl⟩:=r2.flat;exact Z9 T rfl ha ⟨t,rfl,_,SqT.of ht',_,JEc rfl,b,rfl,_,SqT.of hb,_,JEc rfl,q⟩
inductive Jm(K:W.Frag)(ob:Nat->Addr)(vs:List V)(H:Hp)(Q:VK)(E:XK):Prop
 | mk:∀ a tw dx l e b xs,vs=[.ref a,.int l,.ref e]->H a=some (.ins (ob (if tw=true then 2 else 1)) dx [])->HE b H e xs->xs.length<=900->(∀ t H',H' a=some (.ins (ob (if tw=true then 2 else 1)) dx (ZV "entries" (.ref t) (ZV "level" (.int l) [])))->H' t=some (.tup xs)->(∀ fs,Qp (upd H a (.ins (ob (if tw=true then 2 else 1)) dx fs)) (upd H' a (.ins (ob (if tw=true then 2 else 1)) dx fs)))->Q .non H')->Jm K ob vs H Q E
seal PE PT PW PA PS PSs PI PG QY PGs PO in
theorem Qpb(Z:Zs mg)(T:Tx K mg CT cs ob)(F:Fun K "__init__" "Page.__init__" X9 f fd):QF P w K mg base CX0 1 f fd ["self","level","entries"] (Jm K ob):=by
 refine F.ok Qcb (fun vs H Q E h=>?_) (fun cdv A outer s H vs Q E hr h=>?_)
 ·walk_at "n"
 obtain⟨a,tw,dx,l,e,b,xs,rfl,ha,he,lx,q⟩:=h;refine⟨_,(@Qa _ _ _ _ _ (XX (pv 0) (pv 1) rfl)
  (Qg (XX (pv 0) (Zr QHa rfl (Z.tuple) Zta (Qf (pv 2) Qe)) rfl))),?_⟩
 refine Qn (σ:=[some (.ref a),some (.int l),some (.ref e)]) rfl ?_
 walk_at "rd";have c:=T.ob_ _ (ZFb (tw:=tw));generalize ob (if tw=true then 2 else 1)=C at *
 refine X6a c (by decide) rfl (y:=.int l) (H1:=H) (fun Q q=>q) ha (by decide) ?_
 have he1:HE b _ e xs:=HE.upd_ins (o:=.ins C dx (ZV "level" (.int l) [])) he ha;have last:∀ (t:Addr) (H1:Hp),H1 a=some (.ins C dx (ZV "level" (.int l) []))->H1 t=some (.tup xs)->(∀ fs,Qp (upd H a (.ins C dx fs)) (upd H1 a (.ins C dx fs)))->Q .non (upd H1 a (.ins C dx (ZV "entries" (.ref t) (ZV "level" (.int l) [])))):=by
  intro t H1 h1 ht hsame;have ta:t≠a:=fun z=>by rw[z,h1]at ht;cases ht
  exact q t _ Qd (by rw[Qi ta];exact ht) fun fs=>by rw[Y9];exact hsame fs
 cases b with
 | false =>
  refine⟨e,rfl,xs,.inl ⟨SqL.of he1,fun t ht=>⟨a,C,dx,_,rfl,Qh ht _ _ _ Qd,c.cl,c.no _ (by decide),show 1 < 1000 by decide,?_⟩⟩⟩
  have ta:t≠a:=fun z=>by rw[z,Qd]at ht;cases ht
  refine last t _ (Qh ht _ _ _ Qd) Qd fun fs=>?_
  rw[Zpb (Ne.symm ta),Y9,<- Zpb (Ne.symm ta)];exact Qh (by rw[Qi ta]at ht ⊢;exact ht) _
 | true =>
  refine⟨e,rfl,xs,.inr ⟨SqT.of he1,⟨a,C,dx,_,rfl,Qd,c.cl,c.no _ (by decide),show 1 < 1000 by decide,?_⟩⟩⟩
  exact last e _ Qd he1 fun fs=>by rw[Y9];exact Qp.refl _
theorem XFa{C dx C' dx':Addr}{fs fs':List (Str×V)}(ha:H a=some (.ins C dx fs))(s:Qp (upd H a (.ins C' dx' fs')) H'):Zl H H':=fun b xs e=>s _ _ (by rw[Qi (Jf e ha (by intro z;cases z))];exact e)
inductive JY(K:W.Frag)(ob:Nat->Addr)(vs:List V)(H:Hp)(Q:VK)(E:XK):Prop
 | mk:∀ a dx e b xs es,vs=[.ref a,.ref e]->H a=some (.ins (ob 1) dx [])->HE b H e xs->Paired (fun d v=>TD H 6 d v) es xs->xs.length<=900->(∀ dx fs H',Qp (upd H a (.ins (ob 1) dx fs)) H'->PgD ob H' a 0 es->Q .non H')->JY K ob vs H Q E
seal PE PT PW PA PS PSs PI PG QY PGs PO in
theorem Qqb(Z:Zs mg)(T:Tx K mg CT cs ob)(B_Page:BaI P w K mg base 1 "Page" (Jm K ob))(F:Fun K "__init__" "Leaf.__init__" Qha f fd):QF P w K mg base CX0 2 f fd ["self","rows"] (JY K ob):=by
 refine F.ok Qib (fun vs H Q E h=>?_) (fun cdv A outer s H vs Q E hr h=>?_)
 ·walk_at "n"
 obtain⟨a,dx,e,b,xs,es,rfl,ha,he,re,lx,q⟩:=h;refine⟨_,(@Qa _ _ _ _ _ (ZK (XAa B_Page (k:=1) hr (by decide) rfl (Qf (pv 0) (Qf Qb (Qf (pv 1) Qe)))))
  (Qg (XX (pv 0) (QW (pv 0) rfl) rfl))),?_⟩
 refine Qn (σ:=[some (.ref a),some (.ref e)]) rfl ?_
 walk_at "rd";have c:=T.ob_ 1 (by decide)
 refine⟨a,false,dx,0,e,b,xs,rfl,ha,he,lx,fun t H1 h1 ht hs=>?_⟩
 have ta:t≠a:=fun z=>by rw[z,h1]at ht;cases ht
 refine X6a c (by decide) rfl (y:=.ref t) (H1:=H1) (fun Q q=>Zu c (by decide) rfl h1 rfl q) h1 (show 2 < 1000 by decide) ?_
 exact q dx _ _ (hs _) ⟨false,dx,t,rfl,Qd,TD.ofT (by rw[Qi ta];exact ht) (TDs.sameT re (XFa ha (hs _)))⟩
inductive JZ(K:W.Frag)(ob:Nat->Addr)(vs:List V)(H:Hp)(Q:VK)(E:XK):Prop
 | mk:∀ a dx l e b xs es,vs=[.ref a,.int l,.ref e]->l≠0->H a=some (.ins (ob 2) dx [])->HE b H e xs->Paired (fun d v=>TD H 6 d v) es xs->xs.length<=900->(∀ dx fs H',Qp (upd H a (.ins (ob 2) dx fs)) H'->PgD ob H' a l es->Q .non H')->JZ K ob vs H Q E
seal PE PT PW PA PS PSs PI PG QY PGs PO in
theorem Qrb(Z:Zs mg)(T:Tx K mg CT cs ob)(B_Page:BaI P w K mg base 1 "Page" (Jm K ob))(F:Fun K "__init__" "Twig.__init__" Qia f fd):QF P w K mg base CX0 2 f fd ["self","level","heads"] (JZ K ob):=by
 refine F.ok Qjb (fun vs H Q E h=>?_) (fun cdv A outer s H vs Q E hr h=>?_)
 ·walk_at "n"
 obtain⟨a,dx,l,e,b,xs,es,rfl,hl,ha,he,re,lx,q⟩:=h;refine⟨_,(@Qa _ _ _ _ _ (ZK (XAa B_Page (k:=1) hr (by decide) rfl (Qf (pv 0) (Qf (pv 1) (Qf (pv 2) Qe)))))
  (Qg (XX (pv 0) (QW (pv 0) rfl) rfl))),?_⟩
 refine Qn (σ:=[some (.ref a),some (.int l),some (.ref e)]) rfl ?_
 walk_at "rd";have c:=T.ob_ 2 (by decide)
 refine⟨a,true,dx,l,e,b,xs,rfl,ha,he,lx,fun t H1 h1 ht hs=>?_⟩
 have ta:t≠a:=fun z=>by rw[z,h1]at ht;cases ht
 refine X6a c (by decide) rfl (y:=.ref t) (H1:=H1) (fun Q q=>Zu c (by decide) rfl h1 rfl q) h1 (show 2 < 1000 by decide) ?_
 exact q dx _ _ (hs _) ⟨true,dx,t,(decide_eq_true hl).symm,Qd,TD.ofT (by rw[Qi ta];exact ht) (TDs.sameT re (XFa ha (hs _)))⟩
inductive XA(u0_:W.Frag)(ob:Nat->Addr)(vs:List V)(H:Hp)(Q:VK)(E:XK):Prop
 | mk:∀ l e b xs es,vs=[.int l,.ref e]->HE b H e xs->Paired (fun d v=>TD H 6 d v) es xs->xs.length<=900->(∀ a H',Qp H H'->H a=none->PgD ob H' a l es->Q (.ref a) H')->XA u0_ ob vs H Q E
seal PE PT PW PA PS PSs PI PG QY PGs PO in
theorem JUb(Z:Zs mg)(T:Tx K mg CT cs ob)(JVb:MkV P w K mg base 2 "Twig" (ob 2) (JZ K ob))(JWb:MkV P w K mg base 2 "Leaf" (ob 1) (JY K ob))(F:Fun K "page_of" "page_of" Z5a f fd):QF P w K mg base CX0 4 f fd ["level","entries"] (XA K ob):=by
 refine F.ok JNb (fun vs H Q E h=>?_) (fun cdv A outer s H vs Q E hr h=>?_)
 ·walk_at "n"
 obtain⟨l,e,b,xs,es,rfl,he,re,lx,q⟩:=h;refine⟨_,(@Qa _ _ _ _ _ (QN (Qs Zk (pv 0) Qb (Qw _)) (Qg (Qm (Yhc JWb (k:=3) hr (by decide) rfl (Qf (pv 1) Qe)))) Qu)
  (Qg (Qm (Yhc JVb (k:=3) hr (by decide) rfl (Qf (pv 0) (Qf (pv 1) Qe)))))),?_⟩
 refine Qn (σ:=[some (.int l),some (.ref e)]) rfl ?_
 walk_at "rd";have sH:∀ (x dx:Addr) (o u:HO),H x=none->H dx=none->Qp H (upd (upd H dx u) x o):=fun x dx o u h1 h2=>JGa h1 h2 (Qp.refl _)
 refine Zg (fun h=>?_) fun h=>?_
 ·refine fun x dx hx hdx hne=>⟨x,dx,e,b,xs,es,rfl,Qd,he.same (sH _ _ _ _ hx hdx),TDs.sameT re (sH _ _ _ _ hx hdx).t,lx,fun dx' fs H' s' pg=>⟨rfl,q x H' ?_ hx ?_⟩⟩
  ·rw[Y9]at s';exact JGa hx hdx s'
  ·subst h;exact pg
 ·refine fun x dx hx hdx hne=>⟨x,dx,l,e,b,xs,es,rfl,h,Qd,he.same (sH _ _ _ _ hx hdx),TDs.sameT re (sH _ _ _ _ hx hdx).t,lx,fun dx' fs H' s' pg=>⟨rfl,q x H' ?_ hx pg⟩⟩
  rw[Y9]at s';exact JGa hx hdx s'
abbrev StL:=List (Int×Dt×Addr)
def stF(d1 d2:Addr)(c:Int):List (Str×V):=ZV "count" (.int c) (ZV "number_by_told" (.ref d2) (ZV "told_by_number" (.ref d1) []))
def Yta(x:Int×Dt×Addr):Key×V:=(.inl x.1,.ref x.2.2)
def Qpa(x:Int×Dt×Addr):Dt×Addr×V:=(x.2.1,x.2.2,.int x.1)
def Xpc(d:Dt):Prop:=∃ l k r,∃ es:List Dt,d=Zc l (.t (.v k::r)::es)/\hV k=true/\es.length < 900
structure QG(P:Program)(w:World)(ob:Nat->Addr)(H:Hp)(p d1 d2:Addr)(st:StL)(c:Int):Prop where
 obj:∃ dx,H p=some (.ins (ob 3) dx (stF d1 d2 c))
 num:H d1=some (.dK (st.map Yta))
 tol:H d2=some (dN P w d2 (st.map Qpa))
 td:∀ x∈st,TD H 8 x.2.1 (.ref x.2.2)
 sh:∀ x∈st,Xpc x.2.1
 lt:∀ x∈st,x.1 < c
 nn:(st.map (·.1)).Nodup
 nd:(st.map (·.2.1)).Nodup
 few:st.length<=1000000
section
variable{P:Program}{w:World}{K:W.Frag}{ob:Nat->Addr}{H H':Hp}{p d1 d2:Addr}{st:StL}{c:Int}
theorem QG.pd1(h:QG P w ob H p d1 d2 st c):p≠d1:=by
 obtain⟨dx,e⟩:=h.obj;exact Jf e h.num (by intro z;cases z)
theorem QG.pd2(h:QG P w ob H p d1 d2 st c):p≠d2:=by
 obtain⟨dx,e⟩:=h.obj;exact Jf e h.tol (by intro z;cases z)
theorem QG.d12(h:QG P w ob H p d1 d2 st c):d1≠d2:=Jf h.num h.tol (by intro z;cases z)
theorem QG.keep(h:QG P w ob H p d1 d2 st c)(s:Zl H H')(hp:H' p=H p)(h1:H' d1=H d1)(h2:H' d2=H d2):QG P w ob H' p d1 d2 st c :=
 ⟨by rw[hp];exact h.obj,by rw[h1];exact h.num,by rw[h2];exact h.tol,fun x hx=>TD.sameT s 8 (h.td x hx),h.sh,h.lt,h.nn,h.nd,h.few⟩
theorem QG.same(h:QG P w ob H p d1 d2 st c)(s:Qp H H'):QG P w ob H' p d1 d2 st c:=by
 obtain⟨dx,e⟩:=h.obj;exact h.keep s.t (by rw[s _ _ e,e]) (by rw[s _ _ h.num,h.num]) (by rw[s _ _ h.tol,h.tol])
theorem QG.dn(h:QG P w ob H p d1 d2 st c):Yha P w K H d2 (st.map Qpa):=⟨h.tol,fun x hx=>by
 obtain⟨y,hy,rfl⟩:=mem_map.mp hx;exact⟨(h.td y hy).rep,(h.td y hy).h⟩⟩
theorem QG.get(h:QG P w ob H p d1 d2 st c){x:Int×Dt×Addr}(hx:x∈st):ZI (st.map Yta) (.inl x.1)=some (.ref x.2.2):=by
 rw[XCa];have:(fun y:Int×Dt×Addr=>decide ((Yta y).1=(Sum.inl x.1:Key)))=fun y=>decide (y.1=x.1):=by
  funext y
  exact decide_eq_decide.mpr ⟨fun e=>by injection e,fun e=>by show Sum.inl _=_;rw[e]⟩
 rw[this,Y0 (fun y:Int×Dt×Addr=>y.1) h.nn hx];rfl
theorem QG.getN(h:QG P w ob H p d1 d2 st c){x:Int×Dt×Addr}(hx:x∈st):Q4a (st.map Qpa) x.2.1=some (.int x.1):=by
 rw[Zsb];have:=Y0 (fun y:Int×Dt×Addr=>y.2.1) h.nd hx
 rw[show(fun y:Int×Dt×Addr=>decide ((Qpa y).1=x.2.1))=fun y=>decide (y.2.1=x.2.1) from rfl,this];rfl
theorem QG.fun_(h:QG P w ob H p d1 d2 st c){n:Int}{d d':Dt}{t t':Addr}(h1:(n,d,t)∈st)(h2:(n,d',t')∈st):d=d'/\t=t':=by
 have e1:=Y0 (fun y:Int×Dt×Addr=>y.1) h.nn h1
 have e2:=Y0 (fun y:Int×Dt×Addr=>y.1) h.nn h2
 have e:=e1.symm.trans e2;injection e with e
 injection e with _ e
 injection e with a b
 exact⟨a,b⟩
theorem Ync(h:∀ x∈st,x.1≠n):ZI (st.map Yta) (.inl n)=none:=by
 rw[XCa];have:(fun y:Int×Dt×Addr=>decide ((Yta y).1=(Sum.inl n:Key)))=fun y=>decide (y.1=n):=by
  funext y
  exact decide_eq_decide.mpr ⟨fun e=>by injection e,fun e=>by show Sum.inl _=_;rw[e]⟩
 rw[this,YNb (fun y:Int×Dt×Addr=>y.1) h];rfl
theorem Zhc(h:∀ x∈st,x.2.1≠d):Q4a (st.map Qpa) d=none:=by
 rw[Zsb];have:=YNb (fun y:Int×Dt×Addr=>y.2.1) h
 rw[show(fun y:Int×Dt×Addr=>decide ((Qpa y).1=d))=fun y=>decide (y.2.1=d) from rfl,this];rfl
theorem Jn(h:QG P w ob H p d1 d2 st c)(s:QH [p,d1,d2] H H'):Zl H H':=fun b xs e=>s b _ (fun z=>by
 obtain⟨dx,eo⟩:=h.obj
 rcases mem_cons.mp z with z | z
 ·rw[z,eo]at e;cases e
 rcases mem_cons.mp z with z | z
 ·rw[z,h.num]at e;cases e
 ·rw[mem_singleton.mp z,h.tol]at e;cases e) e
end
inductive Jy(P:Program)(w:World)(ob:Nat->Addr)(vs:List V)(H:Hp)(Q:VK)(E:XK):Prop
 | mk:∀ p dx,vs=[.ref p]->H p=some (.ins (ob 3) dx [])->(∀ d1 d2 H' dx fs,H d1=none->H d2=none->Qp (upd H p (.ins (ob 3) dx fs)) H'->QG P w ob H' p d1 d2 [] 0->Q .non H')->Jy P w ob vs H Q E
seal PE PT PW PA PS PSs PI PG QY PGs PO in
theorem YWa(Z:Zs mg)(T:Tx K mg CT cs ob)(F:Fun K "__init__" "Pages.__init__" Xm f fd):QF P w K mg base CX0 1 f fd ["self"] (Jy P w ob):=by
 refine F.ok YSa (fun vs H Q E h=>?_) (fun cdv A outer s H vs Q E hr h=>?_)
 ·walk_at "n"
 obtain⟨a,dx,rfl,ha,q⟩:=h;refine⟨_,(@Qa _ _ _ _ _ (XX (pv 0) JXa rfl)
  (@Qa _ _ _ _ _ (XX (pv 0) Q4c rfl)
  (Qg (XX (pv 0) Qb rfl)))),?_⟩
 refine Qn (σ:=[some (.ref a)]) rfl ?_
 walk_at "rd";have c:=T.ob_ 3 (by decide)
 intro p hp;have pa:a≠p:=fun z=>by rw[<- z,ha]at hp;cases hp
 refine⟨a,ob 3,dx,_,rfl,by rw[Qi pa];exact ha,c.cl,c.no _ (by decide),by decide,?_⟩
 intro p2 hp2;have pa2:a≠p2:=fun z=>by rw[<- z,Qd]at hp2;cases hp2
 have hp2':upd H p (.dK []) p2=none:=by rw[Qi (Ne.symm pa2)]at hp2;exact hp2
 have pp:p2≠p:=fun z=>by rw[z,Qd]at hp2';cases hp2'
 have hp2'':H p2=none:=by rw[Qi pp]at hp2';exact hp2'
 refine⟨a,ob 3,dx,ZV "told_by_number" (.ref p) [],rfl,by rw[Qi pa2];exact Qd,c.cl,c.no _ (by decide),(show 1 < 1000 by decide),?_⟩
 refine⟨a,ob 3,dx,ZV "number_by_told" (.ref p2) (ZV "told_by_number" (.ref p) []),rfl,Qd,c.cl,c.no _ (by decide),(show 2 < 1000 by decide),?_⟩
 show Q V.non _;rw[Y9];refine q p p2 _ dx (stF p p2 0) hp hp2'' (fun b o hb=>?_) ⟨⟨dx,Qd⟩,?_,?_,(fun x hx=>nomatch hx),(fun x hx=>nomatch hx),(fun x hx=>nomatch hx),nodup_nil,nodup_nil,Vk _⟩
 ·by_cases e:b=a
  ·rw[e,Qd]at hb ⊢;exact hb
  ·rw[Qi e]at hb ⊢
   rw[Qi (Qy hb hp2''),Qi e,Qi (Qy hb hp)];exact hb
 ·rw[Qi (Ne.symm pa),Qi (Ne.symm pp),Qi (Ne.symm pa)];exact Qd
 ·rw[Qi (Ne.symm pa2)];exact Qd
inductive ZS(P:Program)(w:World)(cs ob:Nat->Addr)(vs:List V)(H:Hp)(Q:VK)(E:XK):Prop
 | mk:∀ p d1 d2 st c n,vs=[.ref p,.int n]->QG P w ob H p d1 d2 st c->(∀ d t,(n,d,t)∈st->Q (.ref t) H)->((∀ x∈st,x.1≠n)->∀ d,H d=none->E (.ref (cs 0)) (some d) (upd H d (xD d [("number",.int n)])))->ZS P w cs ob vs H Q E
seal PE PT PW PA PS PSs PI PG QY PGs PO in
theorem Z8a(Z:Zs mg)(T:Tx K mg CT cs ob)(Yua:MkX P w K mg base 1 "NoPage" (cs 0) CT ["number"])(F:Fun K "told_at" "Pages.told_at" JN f fd):QF P w K mg base (CX1 P w) 3 f fd ["self","number"] (ZS P w cs ob):=by
 refine F.ok1 Z4a (fun vs H Q E h=>?_) (fun cdv A outer s H vs Q E hr h=>?_)
 ·walk_at "n"
 obtain⟨p,d1,d2,st,c,n,rfl,hS,q1,q2⟩:=h;refine⟨_,(@Qa _ _ _ _ _ (QN (XNa (Xra hr.u1 (pv 1) (QW (pv 0) rfl))) (Qg (ZZa Yt rfl rfl rfl Yua (k:=2) hr (by decide) (Qf (pv 1) Qe))) Qu)
  (Qg (Qm (JBa hr.u1 (QW (pv 0) rfl) (pv 1) (fun _ _=>rfl))))),?_⟩
 refine Qn (σ:=[some (.ref p),some (.int n)]) rfl ?_
 walk_at "rd";obtain⟨dx,ho⟩:=hS.obj;have cc:=T.ob_ 3 (by decide)
 refine Zu cc (by decide) rfl ho rfl ⟨d1,rfl,_,QZa.k (k:=.inl n) hS.num,?_⟩
 by_cases hx:∃ x∈st,x.1=n
 ·obtain⟨⟨n',d,t⟩,hm,rfl⟩:=hx
  rw[hS.get hm];rw[if_neg (by simp)]
  exact Zu cc (by decide) rfl ho rfl ⟨d1,rfl,.ref t,by rw[<- hS.get hm];exact QZa.k (k:=.inl _) hS.num,q1 d t hm⟩
 ·have hx':∀ x∈st,x.1≠n:=fun x h e=>hx ⟨x,h,e⟩
  rw[Ync hx',if_pos (by decide)]
  exact⟨rfl,show 1<=1000 by decide,fun d hd=>q2 hx' d hd⟩
inductive Q1(P:Program)(w:World)(cs ob:Nat->Addr)(vs:List V)(H:Hp)(Q:VK)(E:XK):Prop
 | mk:∀ p d1 d2 st c n,vs=[.ref p,.int n]->QG P w ob H p d1 d2 st c->(∀ l es t,(n,Zc l es,t)∈st->∀ a H',Qp H H'->H a=none->PgD ob H' a l es->Q (.ref a) H')->((∀ x∈st,x.1≠n)->∀ d,H d=none->E (.ref (cs 0)) (some d) (upd H d (xD d [("number",.int n)])))->Q1 P w cs ob vs H Q E
seal PE PT PW PA PS PSs PI PG QY PGs PO in
theorem YXa(Z:Zs mg)(T:Tx K mg CT cs ob)(Z9a:Cal P w K mg base 4 "page_of" ["level","entries"] (XA K ob))(Zj:MeV P w K mg base 3 (ob 3) "told_at" (ZS P w cs ob))(F:Fun K "page" "Pages.page" Xu f fd):QF P w K mg base (CX1 P w) 5 f fd ["self","number"] (Q1 P w cs ob):=by
 refine F.ok1 QNa (fun vs H Q E h=>?_) (fun cdv A outer s H vs Q E hr h=>?_)
 ·walk_at "n"
 obtain⟨p,d1,d2,st,c,n,rfl,hS,q1,q2⟩:=h;refine⟨_,(@Qa _ _ _ _ _ (Ql (i:=2) QNa.nd rfl (Or.inl rfl) (PE1.pe (Zi (k:=4) (pv 0) hr rfl (Qf (pv 1) Qe)) Yt))
  (Qg (Qm (Qo Z9a (k:=4) hr (by decide) rfl (Qf (QA QI (pv 2) Qb (fun _ _=>rfl)) (Qf (QA QI (pv 2) Qb (fun _ _=>rfl)) Qe)))))),?_⟩
 refine Qn (σ:=[some (.ref p),some (.int n),none]) rfl ?_
 walk_at "rd";obtain⟨dx,ho⟩:=hS.obj;have cc:=T.ob_ 3 (by decide)
 refine X4 rfl ho rfl cc.cl (Zj.mono (by decide)) ⟨p,d1,d2,st,c,n,rfl,hS,fun d t hm=>?_,fun hx d hd=>q2 hx d hd⟩
 obtain⟨l,k,r,es,ed,hk,le⟩:=hS.sh _ hm;have td:=hS.td _ hm;dsimp only at ed td;subst ed;obtain⟨_,x,z,e,ht,t1,t2⟩:=td.pair_of;cases e;obtain⟨_,rfl⟩:=t1.flat;obtain⟨m,e',xs,em,rfl,he,re⟩:=t2.tup;obtain rfl:m=6:=by omega
 refine⟨t,rfl,_,SqT.of ht,.int l,rfl,⟨t,rfl,_,SqT.of ht,.ref e',rfl,?_⟩⟩
 exact⟨l,e',true,xs,_,rfl,he,re,by have:=Paired.length re;simp at this;omega,fun a H' s ha pg=>q1 l _ t hm a H' s ha pg⟩
inductive Jz(P:Program)(w:World)(ob:Nat->Addr)(vs:List V)(H:Hp)(Q:VK)(E:XK):Prop
 | mk:∀ p d1 d2 st c a l es,vs=[.ref p,.ref a]->QG P w ob H p d1 d2 st c->PgD ob H a l es->Xpc (Zc l es)->st.length < 1000000->(∀ n t,(n,Zc l es,t)∈st->∀ H',Qp H H'->Q (.int n) H')->((∀ x∈st,x.2.1≠Zc l es)->∀ t H',QH [p,d1,d2] H H'->QG P w ob H' p d1 d2 (st++[(c,Zc l es,t)]) (c+1)->Q (.int c) H')->Jz P w ob vs H Q E
seal PE PT PW PA PS PSs PI PG QY PGs PO in
theorem YYa(Z:Zs mg)(T:Tx K mg CT cs ob)(YB:MeV P w K mg base 1 (ob 0) "told" (Q4 K ob))(Jc:MeV P w K mg base 1 (ob 1) "told" (Q4 K ob))(Jd:MeV P w K mg base 1 (ob 2) "told" (Q4 K ob))(F:Fun K "kept" "Pages.kept" Xq f fd):QF P w K mg base (CX1 P w) 2 f fd ["self","page"] (Jz P w ob):=by
 refine F.ok1 YI (fun vs H Q E h=>?_) (fun cdv A outer s H vs Q E hr h=>?_)
 ·walk_at "n"
 obtain⟨p,d1,d2,st,c,a,l,es,rfl,hS,hP,hsh,few,q1,q2⟩:=h;refine⟨_,(@Qa _ _ _ _ _ (Ql (i:=2) YI.nd rfl (Or.inl rfl) (PE1.pe (Yea (k:=1) (pv 1) hr rfl) Yt))
  (@Qa _ _ _ _ _ (QN (XNa (Xic hr.u9 (pv 2) (QW (pv 0) rfl))) (Qg (Qm (Juc hr.u9 (QW (pv 0) rfl) (pv 2) (fun _ _=>rfl)))) Qu)
  (@Qa _ _ _ _ _ (Ql (i:=3) YI.nd rfl (Or.inl rfl) (QW (pv 0) rfl))
  (@Qa _ _ _ _ _ (JCa hr.u1 (QW (pv 0) rfl) (pv 3) (pv 2) rfl)
  (@Qa _ _ _ _ _ (Jvc hr.u9 (QW (pv 0) rfl) (pv 2) (pv 3) rfl)
  (@Qa _ _ _ _ _ (XX (pv 0) (Qk Q9 (pv 3) Qb) rfl)
  (Qg (Qm (pv 3))))))))),?_⟩
 refine Qn (σ:=[some (.ref p),some (.ref a),none,none]) rfl ?_
 walk_at "rd";obtain⟨dx,ho⟩:=hS.obj;have cc:=T.ob_ 3 (by decide)
 obtain⟨tw,dxa,t0,etw,ha,ht⟩:=id hP;have Mt:MeV P w K mg base 1 (ob (if tw=true then 2 else 1)) "told" (Q4 K ob):=by cases tw with | true=>exact Jd | false=>exact Jc
 refine Xza rfl ha (by cases tw <;> rfl) (T.ob_ _ ZFb).cl Mt ⟨a,l,es,rfl,hP,fun r H1 s1 hr1 t1=>?_⟩
 have hS1:=hS.same s1;have ho1:=s1 _ _ ho;refine Zu cc (by decide) rfl ho1 rfl ⟨d2,rfl,r,rfl,_,hS1.dn,Zc l es,t1.rep,t1.h,?_⟩
 by_cases hx:∃ x∈st,x.2.1=Zc l es
 ·obtain⟨⟨n,d,t⟩,hm,e⟩:=hx
  dsimp only at e;subst e;have g:=hS1.getN hm;dsimp only at g;rw[g,if_pos (show(some (V.int n)).isSome=true from rfl)]
  exact Zu cc (by decide) rfl ho1 rfl ⟨d2,rfl,r,rfl,_,hS1.dn,Zc l es,t1.rep,t1.h,_,g,q1 n t hm _ s1⟩
 ·have hx':∀ x∈st,x.2.1≠Zc l es:=fun x h e=>hx ⟨x,h,e⟩
  have hc:∀ x∈st,x.1≠c:=fun x h e=>by have:=hS.lt x h;omega
  rw[Zhc hx',if_neg (by decide)]
  refine Zu cc (by decide) rfl ho1 rfl ?_
  refine Zu cc (by decide) rfl ho1 rfl ⟨d1,rfl,_,XSa.k (k:=.inl c) hS1.num (by rw[Vr,sizeLine_eq];omega),?_⟩
  rw[Q4b _ (Ync hc)];have sx2:QH [p,d1,d2] H1 (upd H1 d1 (.dK (st.map Yta++[(.inl c,.ref r)]))):=(QH.refl _ _).upd (by simp)
  have st2:=Jn hS1 sx2;refine Zu cc (by decide) rfl (by rw[Qi hS.pd1];exact ho1) rfl ⟨d2,rfl,r,rfl,st.map Qpa,⟨by rw[Qi (Ne.symm hS.d12)];exact hS1.tol,fun x hx=>?_⟩,Zc l es,(TD.sameT st2 8 t1).rep,t1.h,Zhc hx',by rw[Vr,sizeLine_eq];omega,?_⟩
  ·obtain⟨y,hy,rfl⟩:=mem_map.mp hx
   exact⟨(TD.sameT st2 8 (hS1.td y hy)).rep,(hS1.td y hy).h⟩
  generalize e2:upd H1 d1 (.dK (st.map Yta++[(.inl c,.ref r)]))=H2 at sx2 st2;have sx3:QH [p,d1,d2] H1 (upd H2 d2 (dN P w d2 (st.map Qpa++[(Zc l es,r,.int c)]))):=sx2.upd (by simp)
  have p3:upd H2 d2 (dN P w d2 (st.map Qpa++[(Zc l es,r,.int c)])) p=some (.ins (ob 3) dx (stF d1 d2 c)):=by rw[Qi hS.pd2,<- e2,Qi hS.pd1];exact ho1
  refine X6a (fs:=stF d1 d2 c) cc (by decide) rfl (y:=.int (c+1)) (H1:=upd H2 d2 (dN P w d2 (st.map Qpa++[(Zc l es,r,.int c)]))) (fun Q q=>by
   simp only[tOp,Jcb,Jdb,tC,rI0];exact⟨c,1,rfl,rfl,q⟩) p3 (show 3 < 1000 by decide) ?_
  have sx4:QH [p,d1,d2] H1 (upd (upd H2 d2 (dN P w d2 (st.map Qpa++[(Zc l es,r,.int c)]))) p (.ins (ob 3) dx (stF d1 d2 (c+1)))):=sx3.upd (by simp)
  have st4:=Jn hS1 sx4;refine q2 hx' r _ ((s1.x _).trans sx4) ⟨⟨dx,Qd⟩,?_,?_,fun x hx=>?_,fun x hx=>?_,fun x hx=>?_,?_,?_,?_⟩
  ·rw[Qi (Ne.symm hS.pd1),Qi hS.d12,<- e2,Qd,map_append];rfl
  ·rw[Qi (Ne.symm hS.pd2),Qd,map_append];rfl
  ·rcases Vl.mp hx with h | h
   ·exact TD.sameT st4 8 (hS1.td x h)
   ·rw[mem_singleton.mp h];exact TD.sameT st4 8 t1
  ·rcases Vl.mp hx with h | h
   ·exact hS.sh x h
   ·rw[mem_singleton.mp h];exact hsh
  ·rcases Vl.mp hx with h | h
   ·have:=hS.lt x h;omega
   ·rw[mem_singleton.mp h];show c < c+1;omega
  ·rw[map_append,nodup_append]
   refine⟨hS.nn,by simp,fun a ha b hb e=>?_⟩
   obtain⟨y,hy,rfl⟩:=mem_map.mp ha;simp at hb;exact hc y hy (by rw[e,hb])
  ·rw[map_append,nodup_append]
   refine⟨hS.nd,by simp,fun a ha b hb e=>?_⟩
   obtain⟨y,hy,rfl⟩:=mem_map.mp ha;simp at hb;exact hx' y hy (by rw[e,hb])
  ·rw[Vs];show _+1<=1000000;omega
inductive YO(P:Program)(w:World)(cs ob:Nat->Addr)(vs:List V)(H:Hp)(Q:VK)(E:XK):Prop
 | mk:∀ p d1 d2 st c n,vs=[.ref p,.int n]->QG P w ob H p d1 d2 st c->(∀ l k r es t,(n,Zc l (.t (.v k::r)::es),t)∈st->∀ a H',Qp H H'->H a=none->TD H' 1 (.t [.v (.int l),.v k]) (.ref a)->Q (.ref a) H')->((∀ x∈st,x.1≠n)->∀ d,H d=none->E (.ref (cs 0)) (some d) (upd H d (xD d [("number",.int n)])))->YO P w cs ob vs H Q E
seal PE PT PW PA PS PSs PI PG QY PGs PO in
theorem YZa(Z:Zs mg)(T:Tx K mg CT cs ob)(Zj:MeV P w K mg base 3 (ob 3) "told_at" (ZS P w cs ob))(F:Fun K "card" "Pages.card" Xs f fd):QF P w K mg base (CX1 P w) 4 f fd ["self","number"] (YO P w cs ob):=by
 refine F.ok1 QLa (fun vs H Q E h=>?_) (fun cdv A outer s H vs Q E hr h=>?_)
 ·walk_at "n"
 obtain⟨p,d1,d2,st,c,n,rfl,hS,q1,q2⟩:=h;refine⟨_,(@Qa _ _ _ _ _ (Ql (i:=2) QLa.nd rfl (Or.inl rfl) (PE1.pe (Zi (k:=3) (pv 0) hr rfl (Qf (pv 1) Qe)) Yt))
  (Qg (Qm (Zm (Qf (QA QI (pv 2) Qb (fun _ _=>rfl)) (Qf (QA QI (QA QI (QA QI (pv 2) Qb (fun _ _=>rfl)) Qb (fun _ _=>rfl)) Qb (fun _ _=>rfl)) Qe)))))),?_⟩
 refine Qn (σ:=[some (.ref p),some (.int n),none]) rfl ?_
 walk_at "rd";obtain⟨dx,ho⟩:=hS.obj;have cc:=T.ob_ 3 (by decide)
 refine X4 rfl ho rfl cc.cl (Zj.mono (by decide)) ⟨p,d1,d2,st,c,n,rfl,hS,fun d t hm=>?_,fun hx d hd=>q2 hx d hd⟩
 obtain⟨l,k,r,es,ed,hk,le⟩:=hS.sh _ hm;have td:=hS.td _ hm;dsimp only at ed td;subst ed;obtain⟨_,x,z,e,ht,t1,t2⟩:=td.pair_of;cases e;obtain⟨_,rfl⟩:=t1.flat;obtain⟨m,e',xs,em,rfl,he,re⟩:=t2.tup;cases re with
 | cons r1 _ =>
  obtain⟨_,b,ys,_,rfl,hb,rb⟩:=r1.tup;cases rb with
  | cons r2 _ =>
   obtain⟨_,rfl⟩:=r2.flat;exact⟨t,rfl,_,SqT.of ht,.int l,rfl,t,rfl,_,SqT.of ht,.ref e',rfl,e',rfl,_,SqT.of he,.ref b,JEc rfl,b,rfl,_,SqT.of hb,_,JEc rfl,Z8,fun a ha=>q1 l _ _ _ t hm a _ (Qh ha _) ha (TD.pair Qd (.ofV rfl) (.ofV hk))⟩
inductive Zea(u0_:W.Frag)(vs:List V)(H:Hp)(Q:VK)(E:XK):Prop
 | mk:∀ v,vs=[v]->Zt v->(∀ p,H p=none->Q (.ref p) (upd H p (.tup (rk v))))->Zea u0_ vs H Q E
seal PE PT PW PA PS PSs PI PG QY PGs PO in
theorem JXb(Z:Zs mg)(T:Tx K mg CT cs ob)(F:Fun K "rank_of" "rank_of" Z3a f fd):QF P w K mg base CX0 1 f fd ["value"] (Zea K):=by
 refine F.ok JMb (fun vs H Q E h=>?_) (fun cdv A outer s H vs Q E hr h=>?_)
 ·walk_at "n"
 obtain⟨v,rfl,hv,q⟩:=h;refine⟨_,(@Qa _ _ _ _ _ (QN (Qs XPa (pv 0) JL (Qw _)) (Qg (Qm (Zm (Qf Qb (Qf Qb Qe))))) Qu)
  (@Qa _ _ _ _ _ (QN (ZU (Qz Ze rfl (Z.isinstance) Q0 (Qf (pv 0) (Qf (Ju rfl (Z.str) J1a (v:=.ty "str") rfl) Qe))) (fun _=>rfl)) (Qg (Qm (Zm (Qf Qb (Qf (pv 0) Qe))))) Qu)
  (Qg (Qm (Zm (Qf Qb (Qf (pv 0) Qe))))))),?_⟩
 refine Qn (σ:=[some v]) rfl ?_
 walk_at "rd";cases v with
 | non=>walk_at "rd";exact⟨by decide,q⟩
 | int n =>
  walk_at "rd";refine ZM (.int n) Yz ⟨_,rfl,?_⟩
  walk_at "rd";exact⟨by show 2<=sizeLine;decide,q⟩
 | str z =>
  walk_at "rd";refine ZM (.str z) YA ⟨_,rfl,?_⟩
  walk_at "rd";exact⟨by show 2<=sizeLine;decide,q⟩
 | _=>exact hv.elim
inductive QBa(u0_:W.Frag)(vs:List V)(H:Hp)(Q:VK)(E:XK):Prop
 | mk:∀ a b,vs=[a,b]->Zt a->Zt b->(∀ H',Qp H H'->Q (.bl (ltV a b)) H')->QBa u0_ vs H Q E
seal PE PT PW PA PS PSs PI PG QY PGs PO in
theorem XIb(Z:Zs mg)(T:Tx K mg CT cs ob)(XGa:Cal P w K mg base 1 "rank_of" ["value"] (Zea K))(F:Fun K "before" "before" Yna f fd):QF P w K mg base CX0 2 f fd ["one","other"] (QBa K):=by
 refine F.ok XFb (fun vs H Q E h=>?_) (fun cdv A outer s H vs Q E hr h=>?_)
 ·walk_at "n"
 obtain⟨a,b,rfl,ha,hb,q⟩:=h;refine⟨_,(Qg (Qm (Jxa (YOc (hr.units0)) (Qo XGa (k:=1) hr (by decide) rfl (Qf (pv 0) Qe)) (Qo XGa (k:=1) hr (by decide) rfl (Qf (pv 1) Qe)) (Qw _)))),?_⟩
 refine Qn (σ:=[some a,some b]) rfl ?_
 walk_at "rd";refine⟨a,rfl,ha,fun p hp=>?_⟩
 walk_at "rd";refine⟨b,rfl,hb,fun p2 hp2=>?_⟩
 walk_at "rd";exact⟨rk a,SqT.of (by rw[Qi (Qy Qd hp2)];exact Qd),rk b,SqT.of Qd,ltV a b,Y3c ha hb,q _ ((Qh hp _).trans (Qh hp2 _))⟩
def QFa(d:Dt):Prop:=∃ k r,d=.t (.v k::r)/\Q6 k
theorem ZGb(h:Q6 k):hV k=true:=by
 cases k with
 | int n=>rfl
 | str z=>rfl
 | _=>exact h.elim
theorem YQ(h:Q6 k):Pl.Zt k:=by
 cases k with
 | int n=>exact h
 | str z=>exact h
 | _=>exact h.elim
theorem Xqc(k:V):QK k<=6:=M11.Zdc 6 _
theorem Y5{d:Addr}{o:HO}(s:Qp H H')(n:H d=none):Qp H (upd H' d o):=fun b u hb=>by
 rw[Qi (Qy hb n)];exact s b u hb
structure J0(H:Hp)(p:Addr)(ps:List Addr)(parts:List (List V)):Prop where
 at_:H p=some (.lst (ps.map V.ref))
 len:ps.length=parts.length
 part:∀ (i:Nat) q l,ps[i]?=some q->parts[i]?=some l->H q=some (.lst l)
 nd:(p::ps).Nodup
section
variable{H:Hp}{p:Addr}{ps:List Addr}{parts:List (List V)}
theorem J0.more{q:Addr}{l:List V}(pa:J0 H p ps parts)(hq:H q=none):J0 (upd (upd H q (.lst l)) p (.lst ((ps++[q]).map V.ref))) p (ps++[q]) (parts++[l]):=by
 have qp:q≠p:=fun z=>by rw[z,pa.at_]at hq;cases hq
 have nps:q∉ps:=fun z=>by
  obtain⟨i,hi,e⟩:=mem_iff_getElem.mp z;have:=pa.part i q (parts[i]'(by rw[<- pa.len];exact hi)) (by rw[Vb hi,e]) (Vb _)
  rw[hq]at this;cases this
 have npp:p∉ps:=(nodup_cons.mp pa.nd).1;refine⟨Qd,by simp[pa.len],fun i r m e1 e2=>?_,?_⟩
 ·have rp:r≠p:=fun z=>by
   have hm:=Vm e1;rw[z]at hm
   rcases Vl.mp hm with w | w
   ·exact npp w
   ·exact qp (by simpa using w:p=q).symm
  rw[Qi rp]
  by_cases hl:i < ps.length
  ·rw[getElem?_append_left hl]at e1
   rw[getElem?_append_left (by rw[<- pa.len];exact hl)]at e2
   have rq:r≠q:=fun z=>nps (by rw[<- z];exact Vm e1)
   rw[Qi rq];exact pa.part i r m e1 e2
  ·rw[getElem?_append_right (by omega)]at e1
   rw[getElem?_append_right (by rw[<- pa.len];omega),<- pa.len]at e2
   have h0:i - ps.length=0:=by
    cases w:i - ps.length with
    | zero=>rfl
    | succ m=>rw[w]at e1;simp at e1
   rw[h0]at e1 e2;simp at e1 e2;subst e1 e2;exact Qd
 ·have:=pa.nd
  simp only[nodup_cons,nodup_append,Vl,mem_singleton]at this ⊢;refine⟨fun z=>z.elim npp fun z=>qp z.symm,this.2,by simp,fun a ha b hb=>?_⟩
  intro z;subst hb;subst z;exact nps ha
theorem J0.on{ini:List Addr}{q:Addr}{li:List (List V)}{last new:List V}(pa:J0 H p (ini++[q]) (li++[last])):J0 (upd H q (.lst new)) p (ini++[q]) (li++[new]):=by
 have nd:=pa.nd;have qp:p≠q:=fun z=>(nodup_cons.mp nd).1 (by rw[z];simp)
 have nq:q∉ini:=fun z=>by
  have:=(nodup_cons.mp nd).2;rw[nodup_append]at this;exact this.2.2 q z q (by simp) rfl
 have len:ini.length=li.length:=by have:=pa.len;simp at this;exact this
 refine⟨by rw[Qi qp];exact pa.at_,by simp[len],fun i r m e1 e2=>?_,nd⟩
 by_cases hl:i < ini.length
 ·rw[getElem?_append_left hl]at e1
  rw[getElem?_append_left (by omega)]at e2
  have rq:r≠q:=fun z=>nq (by rw[<- z];exact Vm e1)
  rw[Qi rq];exact pa.part i r m (by rw[getElem?_append_left hl];exact e1) (by rw[getElem?_append_left (by omega)];exact e2)
 ·rw[getElem?_append_right (by omega)]at e1
  rw[getElem?_append_right (by omega),<- len]at e2
  have h0:i - ini.length=0:=by
   cases w:i - ini.length with
   | zero=>rfl
   | succ m=>rw[w]at e1;simp at e1
  rw[h0]at e1 e2;simp at e1 e2;subst e1 e2;exact Qd
end
abbrev PP(H:Hp):List (List Dt)->List (List V)->Prop:=Paired fun ds vs=>Paired (fun d v=>TD H 6 d v) ds vs
theorem ZKa{α β:Type}{F:α->β->Prop}:∀ {xs:List α} {us:List β} {u:β},Paired F xs (us++[u])->∃ ys y,xs=ys++[y]/\Paired F ys us/\F y u
 | [],us,u,h=>by have:=Paired.length h;simp at this
 | x::xs,[],u,h=>by
  cases h with
  | cons r t=>cases t;exact⟨[],x,rfl,.nil,r⟩
 | x::xs,v::us,u,h=>by
  cases h with
  | cons r t =>
   obtain⟨ys,y,rfl,t',f⟩:=ZKa t;exact⟨x::ys,y,rfl,.cons r t',f⟩
structure JH(H H':Hp)(l:Int)(es:List Dt)(i:Nat)(p:Addr)(ps:List Addr)(parts:List (List V)):Prop where
 same:Qp H H'
 fresh:∀ q∈p::ps,H q=none
 pa:J0 H' p ps parts
 pp:PP H (QT QK l (es.take i)) parts
 lp:parts.length<=i
 lq:∀ part∈parts,part.length<=i
section
variable{H H':Hp}{l:Int}{es rr:List Dt}{i:Nat}{p p1 q1 e:Addr}{ps ini:List Addr}{parts li:List (List V)}{last:List V}{k:V}
theorem JH.start(hp:H p=none):JH H (upd H p (.lst [])) l es 0 p [] [] where
 same:=Qh hp _
 fresh:=fun r hr=>by
  have:r=p:=by simpa using hr
  rw[this];exact hp
 pa:=⟨Qd,rfl,fun i r m e=>by simp at e,by simp⟩
 pp:=.nil
 lp:=Vk _
 lq:=fun x hx=>nomatch hx
theorem Zic(hd:es[i]?=some (.t (.v k::rr))):QT QK l (es.take (i+1))=Tr.step QK l (QT QK l (es.take i)) (.t (.v k::rr)):=by rw[take_add_one,hd];exact J4 _ _
theorem JH.at1(c:JH H H' l es i p ps parts)(hp1:H' p1=none):upd (upd H' p1 (.lst [])) p (.lst (ps.map V.ref++[V.ref p1])) p1=some (.lst []):=by
 have p1p:p1≠p:=fun z=>by rw[z,c.pa.at_]at hp1;cases hp1
 rw[Qi p1p];exact Qd
theorem JH.atp(c:JH H H' l es i p ps parts)(hp1:H' p1=none):upd H' p1 (.lst []) p=some (.lst (ps.map V.ref)):=by
 have p1p:p1≠p:=fun z=>by rw[z,c.pa.at_]at hp1;cases hp1
 rw[Qi (Ne.symm p1p)];exact c.pa.at_
theorem JH.more(c:JH H H' l es i p ps parts)(hd:es[i]?=some (.t (.v k::rr)))(tx:TD H 6 (.t (.v k::rr)) (.ref e))(hp1:H' p1=none)(hc:QT QK l (es.take i)=[]\/l < (QK k:Int)) :
 JH H (upd (upd (upd H' p1 (.lst [])) p (.lst (ps.map V.ref++[V.ref p1]))) p1 (.lst ([]++[V.ref e]))) l es (i+1) p (ps++[p1]) (parts++[[.ref e]]):=by
 have np:=c.fresh p mem_cons_self;have np1:H p1=none:=by
  cases e:H p1 with
  | none=>rfl
  | some o=>rw[c.same _ _ e]at hp1;cases hp1
 have em:ps.map V.ref++[V.ref p1]=(ps++[p1]).map V.ref:=by simp
 refine⟨Y5 (Y5 (Y5 c.same np1) np) np1,fun r hr=>?_,?_,?_,?_,?_⟩
 ·rcases mem_cons.mp hr with z | z
  ·rw[z];exact np
  ·rcases Vl.mp z with z | z
   ·exact c.fresh r (Vo _ z)
   ·have:r=p1:=by simpa using z
    rw[this];exact np1
 ·rw[em];exact(c.pa.more (l:=[]) hp1).on (new:=[]++[.ref e])
 ·rw[Zic hd]
  unfold Tr.step;rw[if_pos (show _\/l < (QK (Qr (Dt.t (Dt.v k::rr))):Int) from hc)]
  exact Paired.snoc c.pp (.cons tx .nil)
 ·have:=c.lp;simp;omega
 ·intro part hp
  rcases Vl.mp hp with z | z
  ·have:=c.lq part z;omega
  ·rw[mem_singleton.mp z];simp
theorem JH.on(c:JH H H' l es i p (ini++[q1]) (li++[last]))(hd:es[i]?=some (.t (.v k::rr)))(tx:TD H 6 (.t (.v k::rr)) (.ref e))(hc:¬ l < (QK k:Int)) :
 JH H (upd H' q1 (.lst (last++[.ref e]))) l es (i+1) p (ini++[q1]) (li++[last++[.ref e]]):=by
 obtain⟨iniD,lastD,ec,co1,co2⟩:=ZKa c.pp;refine⟨Y5 c.same (c.fresh q1 (by simp)),c.fresh,c.pa.on,?_,?_,?_⟩
 ·rw[Zic hd,ec]
  unfold Tr.step;rw[if_neg (fun z=>z.elim (fun z=>by simp at z) fun z=>hc z)]
  simp only[dropLast_concat,getLast?_append,getLast?_singleton,Option.some_or,Option.getD_some]
  exact Paired.snoc co1 (Paired.snoc co2 tx)
 ·have:=c.lp;simp at this ⊢;omega
 ·intro part hp
  rcases Vl.mp hp with z | z
  ·have:=c.lq part (mem_append_left _ z);omega
  ·rw[mem_singleton.mp z]
   have:=c.lq last (by simp)
   simp;omega
theorem JH.end_(c:JH H H' l es i p ps parts)(h:ps≠[]):∃ ini q1 li last,ps=ini++[q1]/\parts=li++[last]/\H' q1=some (.lst last)/\last.length<=i:=by
 obtain⟨ini,q1,rfl⟩:=Zp h;obtain⟨li,last,rfl⟩:=Zp (xs:=parts) (fun z=>by have:=c.pa.len;rw[z]at this;simp at this)
 have len:ini.length=li.length:=by have:=c.pa.len;simp at this;exact this
 exact⟨ini,q1,li,last,rfl,rfl,c.pa.part ini.length q1 last (by simp) (by rw[len];simp),c.lq last (by simp)⟩
theorem JH.none_(c:JH H H' l es i p ps parts)(h:ps=[]):QT QK l (es.take i)=[]:=eq_nil_of_length_eq_zero (by rw[Paired.length c.pp,<- c.pa.len,h];rfl)
end
inductive JYb(K:W.Frag)(vs:List V)(H:Hp)(Q:VK)(E:XK):Prop
 | mk:∀ (a:Addr) (b:Bool) (l:Int) (xs:List V) (es:List Dt),vs=[.ref a,.int l]->SqE b K H a xs->xs.length<=900->Paired (fun d v=>TD H 6 d v) es xs->(∀ d∈es,QFa d)->(∀ p ps parts H',Qp H H'->(∀ q∈p::ps,H q=none)->J0 H' p ps parts->PP H (QT QK l es) parts->Q (.ref p) H')->JYb K vs H Q E
seal PE PT PW PA PS PSs PI PG QY PGs PO in
theorem Xrc(Z:Zs mg)(T:Tx K mg CT cs ob)(JZb:Cal P w K mg base 3 "level_of" ["key"] (Qna K))(F:Fun K "cut" "cut" Zbc f fd):QF P w K mg base CX0 4 f fd ["entries","level"] (JYb K):=by
 refine F.ok JOb (fun vs H Q E h=>?_) (fun cdv A outer s H vs Q E hr h=>?_)
 ·walk_at "n"
 obtain⟨a,b,l,xs,es,rfl,hS,h900,re,hent,q⟩:=h;refine⟨_,(@Qa _ _ _ _ _ (Ql (i:=2) JOb.nd rfl (Or.inl rfl) (Ji Qe))
  (@Qa _ _ _ _ _ (JM PassesOwn.never rfl (Xdc (pv 0)) (Q7 (i:=3) JOb.nd rfl (Or.inl rfl)) (@Qa _ _ _ _ _ (QN (PW.pt (JOa (Js (JWa (pv 2) (fun _=>rfl))) (QUa (Qs Jga (Qo JZb (k:=3) hr (by decide) rfl (Qf (QA QI (pv 3) Qb (fun _ _=>rfl)) Qe)) (pv 1) (Qw _))))) (Qg (ZK (Jja PySem.F.plainAttrs_list PySem.F.slot_list_append PySem.F.type_list_append Ja (pv 2) (Qf (Ji Qe) Qe)))) Qu)
  (Qg (ZK (Jja PySem.F.plainAttrs_list PySem.F.slot_list_append PySem.F.type_list_append Ja (QA Q2 (pv 2) (QYb JTa Qb) (fun _ _=>rfl)) (Qf (pv 3) Qe))))))
  (Qg (Qm (pv 2))))),?_⟩
 refine Qn (σ:=[some (.ref a),some (.int l),none,none]) rfl ?_
 walk_at "rd";refine⟨by decide,fun p hp=>?_⟩
 refine⟨b,⟨_,hS.same (Qh hp _)⟩,?_⟩
 have le:=Paired.length re;refine Jpc xs (fun i σ' H'=>∃ (ps:List Addr) (parts:List (List V)) (x3:Option V),σ'=[some (.ref a),some (.int l),some (.ref p),x3]/\JH H H' l es i p ps parts) ⟨[],[],_,rfl,.start hp⟩ ?_ ?_ ?_
 ·rintro i σ' H' _ ⟨_,_,_,_,c⟩
  exact hS.same c.same
 ·rintro i x σ' H' hx ⟨ps,parts,x3,rfl,c⟩
  have hi:=(Vc.mp hx).1
  have hd:es[i]?=some (es[i]'(by omega)):=Vb _
  have tx:=Qv re hd hx;obtain⟨k,rr,ed,hk⟩:=hent _ (Vm hd);generalize es[i]'(by omega)=d at hd tx ed
  subst ed;obtain⟨m,e,ws,_,rfl,he,rw_⟩:=id tx.tup;have lp:=c.lp;walk_at "rd";refine⟨_,.inl ⟨_,SqL.of c.pa.at_,rfl⟩,Zg (fun h=>?_) fun h=>?_⟩
  ·have hps:ps=[]:=by simpa using h
   refine⟨.inl ⟨rfl,_,SqL.of c.pa.at_⟩,by decide,fun p1 hp1=>?_⟩
   exact⟨_,c.atp hp1,QO (by rw[Vr,c.pa.len];omega),_,SqL.of Qd,.ref p1,XY _ _,.inl ⟨rfl,_,SqL.of (c.at1 hp1)⟩,p1,rfl,[],c.at1 hp1,by decide,_,_,c.more hd tx hp1 (.inl (c.none_ hps))⟩
  ·have hne:ps≠[]:=fun z=>h (by rw[z];rfl)
   cases rw_ with
   | @cons _ k' _ ws' r1 rw' =>
   obtain⟨_,rfl⟩:=r1.flat;refine⟨_,SqT.of (c.same _ _ he),_,at0 _ _,_,rfl,hk,_,rfl,Zg (fun h2=>?_) fun h2=>?_⟩
   ·refine⟨.inl ⟨rfl,_,SqL.of c.pa.at_⟩,by decide,fun p1 hp1=>?_⟩
    exact⟨_,c.atp hp1,QO (by rw[Vr,c.pa.len];omega),_,SqL.of Qd,.ref p1,XY _ _,.inl ⟨rfl,_,SqL.of (c.at1 hp1)⟩,p1,rfl,[],c.at1 hp1,by decide,_,_,c.more hd tx hp1 (.inr h2)⟩
   ·obtain⟨ini,q1,li,last,rfl,rfl,hq1,ll⟩:=c.end_ hne
    exact⟨_,SqL.of c.pa.at_,.ref q1,by rw[map_append];exact XY _ _,.inl ⟨rfl,_,SqL.of hq1⟩,q1,rfl,last,hq1,QO (by omega),_,_,c.on hd tx h2⟩
 ·rintro σ' H' ⟨ps,parts,x3,rfl,c⟩
  walk_at "rd";have co:=c.pp;rw[take_of_length_le (by omega)]at co
  exact q p ps parts H' c.same c.fresh c.pa co
def Qt(st:StL):List (Int×Dt):=st.map fun x=>(x.1,x.2.1)
theorem QG.fn{p:Addr}(h:QG P w ob H p d1 d2 st c):Fn (Qt st) where
 num:=fun n d d' h1 h2=>by
  obtain⟨⟨a,b,t⟩,m1,e1⟩:=mem_map.mp h1;obtain⟨⟨a',b',t'⟩,m2,e2⟩:=mem_map.mp h2;injection e1 with x1 y1
  injection e2 with x2 y2
  dsimp only at x1 y1 x2 y2;subst x1 y1 x2 y2;exact(h.fun_ m1 m2).1
 dat:=fun n n' d h1 h2=>by
  obtain⟨⟨a,b,t⟩,m1,e1⟩:=mem_map.mp h1;obtain⟨⟨a',b',t'⟩,m2,e2⟩:=mem_map.mp h2;injection e1 with x1 y1
  injection e2 with x2 y2
  dsimp only at x1 y1 x2 y2;subst x1 y1 x2 y2;have q1:=h.getN m1;have q2:=h.getN m2;dsimp only at q1 q2;rw[q1]at q2;injection q2 with q2
  injection q2
def HdD(d:Dt):Prop:=∃ k n,d=ZQ k n/\Q6 k
theorem HdD.ent(h:HdD d):QFa d:=by
 obtain⟨k,n,rfl,hk⟩:=h;exact⟨k,_,rfl,hk⟩
section
variable{P:Program}{w:World}{ob:Nat->Addr}{H H':Hp}{p d1 d2 a:Addr}{st:StL}{c l:Int}{es:List Dt}{Q:VK}{E:XK}
theorem JFc(hS:QG P w ob H p d1 d2 st c)(hP:PgD ob H a l es)(hsh:Xpc (Zc l es))(few:st.length < 1000000)
 (q:∀ n H3 st3 c3,QH [p,d1,d2] H H3->QG P w ob H3 p d1 d2 st3 c3->(n,Zc l es)∈Qt st3->(∀ x∈Qt st,x∈Qt st3)->st3.length<=st.length+1->Q (.int n) H3):Jz P w ob [.ref p,.ref a] H Q E :=
 ⟨p,d1,d2,st,c,a,l,es,rfl,hS,hP,hsh,few,fun n t hm H' s=>q n H' st c (s.x _) (hS.same s) (mem_map.mpr ⟨_,hm,rfl⟩) (fun x h=>h) (by omega),
  fun _ t H' s hS'=>q c H' _ _ s hS' (mem_map.mpr ⟨_,Vp _ (mem_singleton.mpr rfl),rfl⟩) (fun x hx=>by
   obtain⟨y,hy,ey⟩:=mem_map.mp hx;exact mem_map.mpr ⟨y,mem_append_left _ hy,ey⟩) (by rw[Vs];exact Ve _)⟩
end
structure ZHb(P:Program)(w:World)(ob:Nat->Addr)(H1 H':Hp)(p d1 d2 hh:Addr)(st:StL)(l:Int)(parts:List (List Dt))(i:Nat)(st':StL)(c':Int)(hs:List Dt)(ys:List V):Prop where
 sx:QH [p,d1,d2,hh] H1 H'
 tt:Zl H1 H'
 at_:H' hh=some (.lst ys)
 tys:Paired (fun d v=>TD H' 6 d v) hs ys
 ehs:∀ d∈hs,HdD d
 hds:QJ (Qt st') l (parts.take i) hs
 stA:QG P w ob H' p d1 d2 st' c'
 sub:∀ x∈Qt st,x∈Qt st'
 len:st'.length<=st.length+i
section
variable{P:Program}{w:World}{ob:Nat->Addr}{H1 H' H2 H3:Hp}{p d1 d2 hh u:Addr}{st st' st3:StL}{l c' c3 n:Int}{parts:List (List Dt)}{i:Nat}{hs rr rest:List Dt}{ys:List V}{k:V}
theorem ZHb.nhh(h:ZHb P w ob H1 H' p d1 d2 hh st l parts i st' c' hs ys):hh∉[p,d1,d2]:=fun z=>by
 obtain⟨dx,ho⟩:=h.stA.obj;simp only[mem_cons,not_mem_nil,or_false]at z
 rcases z with z | z | z
 ·exact Jf h.at_ ho (by intro z;cases z) z
 ·exact Jf h.at_ h.stA.num (by intro z;cases z) z
 ·exact Jf h.at_ h.stA.tol (by intro z;cases z) z
theorem ZHb.next(h:ZHb P w ob H1 H' p d1 d2 hh st l parts i st' c' hs ys)(hpd:parts[i]?=some (.t (.v k::rr)::rest))(hk:Q6 k)(s2:Qp H' H2)(s3:QH [p,d1,d2] H2 H3)(hS3:QG P w ob H3 p d1 d2 st3 c3)
 (hm:(n,Zc l (.t (.v k::rr)::rest))∈Qt st3) (sub3:∀ x∈Qt st',x∈Qt st3) (l3:st3.length<=st'.length+1) (hu:H3 u=none) :
 upd H3 u (.tup [k,.int n]) hh=some (.lst ys)/\ZHb P w ob H1 (upd (upd H3 u (.tup [k,.int n])) hh (.lst (ys++[.ref u]))) p d1 d2 hh st l parts (i+1) st3 c3 (hs++[ZQ k n]) (ys++[.ref u]):=by
 have hS2:=h.stA.same s2;have hh3:=s3 _ _ h.nhh (s2 _ _ h.at_);have hh4:upd H3 u (.tup [k,.int n]) hh=some (.lst ys):=Qh hu _ _ _ hh3;have uh:u≠hh:=fun z=>by rw[z,hh3]at hu;cases hu
 have t35:Zl H3 (upd (upd H3 u (.tup [k,.int n])) hh (.lst (ys++[.ref u]))):=(Qh hu _).t.trans (YZ hh4);have t25:=(Jn hS2 s3).trans t35;have len:=h.len;refine⟨hh4,h.sx.trans ((s2.x _).trans ((s3.mono (by simp)).trans (((Qh hu _).x _).upd (by simp)))),h.tt.trans (s2.t.trans t25),Qd,Paired.snoc (TDs.sameT h.tys (s2.t.trans t25)) (TD.pair (by rw[Qi uh];exact Qd) (.ofV (ZGb hk)) (.ofV rfl)),fun d hd=>?_,?_,?_,fun x hx=>sub3 x (h.sub x hx),by omega⟩
 ·rcases Vl.mp hd with z | z
  ·exact h.ehs d z
  ·rw[mem_singleton.mp z];exact⟨k,_,rfl,hk⟩
 ·rw[take_add_one,hpd]
  exact(h.hds.mono sub3).snoc hm
 ·obtain⟨dx3,ho3⟩:=hS3.obj
  exact hS3.keep t35 (by rw[Qi (Jf ho3 hh3 (by intro z;cases z)),Qi (Qy ho3 hu)]) (by rw[Qi (Jf hS3.num hh3 (by intro z;cases z)),Qi (Qy hS3.num hu)]) (by rw[Qi (Jf hS3.tol hh3 (by intro z;cases z)),Qi (Qy hS3.tol hu)])
theorem ZHb.few(h:ZHb P w ob H1 H' p d1 d2 hh st l parts i st' c' hs ys):ys.length<=i:=by
 have h1:=Paired.length h.tys;have h2:=h.hds.length;rw[length_take]at h2
 omega
end
theorem Jaa:(QT lv l es).length<=es.length:=by
 have h1:∀ (ls:List (List Dt)),(∀ x∈ls,x≠[])->ls.length<=ls.flatten.length:=by
  intro ls
  induction ls with
  | nil=>intro _;exact Ve _
  | cons y ys ih =>
   intro h;have:=ih fun x hx=>h x (Vo _ hx)
   have:0 < y.length:=length_pos_iff.mpr (h y mem_cons_self);simp only[length_cons,flatten_cons,Vs];omega
 have c:=JR (lv:=lv) l es;have:=h1 _ c.full;rw[c.flat]at this;exact this
theorem JGc{ps:List Addr}{parts:List (List V)}{H0:Hp}(pa:J0 H1 a ps parts)(pp:PP H0 (QT QK l es) parts)(hent:∀ d∈es,QFa d){i:Nat}{qa:Addr}(hqa:ps[i]?=some qa) :
 ∃ k rr rest part,(QT QK l es)[i]?=some (.t (.v k::rr)::rest)/\Q6 k/\H1 qa=some (.lst part)/\Paired (fun d v=>TD H0 6 d v) (.t (.v k::rr)::rest) part/\part.length<=es.length/\rest.length < es.length:=by
 have hi:=(Vc.mp hqa).1
 have li:i < parts.length:=by rw[<- pa.len];exact hi
 have lpp:=Paired.length pp;have cok:=JR (lv:=QK) l es;have hpt:parts[i]?=some parts[i]:=Vb li
 have hpd:(QT QK l es)[i]?=some ((QT QK l es)[i]'(by omega)):=Vb _
 have tp:=Qv pp hpd hpt;have full:=cok.full _ (Vm hpd);have mem:∀ d∈(QT QK l es)[i]'(by omega),d∈es:=fun d hd=>by rw[<- cok.flat];exact mem_flatten.mpr ⟨_,Vm hpd,hd⟩
 have h1:=(sublist_flatten_of_mem (Vm hpd)).length_le;rw[cok.flat]at h1;generalize (QT QK l es)[i]'(by omega)=partD at hpd tp full mem h1
 match partD,full,hpd,tp,mem,h1 with
 | d0::rest,_,hpd,tp,mem,h1 =>
  obtain⟨k,rr,ed,hk⟩:=hent d0 (mem d0 mem_cons_self);subst ed;have h2:=Paired.length tp;exact⟨k,rr,rest,_,hpd,hk,pa.part i qa _ hqa hpt,tp,by omega,by simp at h1;omega⟩
inductive QZ(P:Program)(w:World)(ob:Nat->Addr)(vs:List V)(H:Hp)(Q:VK)(E:XK):Prop
 | mk:∀ p d1 d2 st c l e b xs es,vs=[.ref p,.int l,.ref e]->QG P w ob H p d1 d2 st c->HE b H e xs->Paired (fun d v=>TD H 6 d v) es xs->(∀ d∈es,QFa d)->xs.length<=900->st.length+xs.length<=1000000->(∀ r H' st' c' hs ys,QH [p,d1,d2] H H'->H r=none->H' r=some (.lst ys)->Paired (fun d v=>TD H' 6 d v) hs ys->(∀ d∈hs,HdD d)->QJ (Qt st') l (QT QK l es) hs->QG P w ob H' p d1 d2 st' c'->(∀ x∈Qt st,x∈Qt st')->st'.length<=st.length+xs.length->Q (.ref r) H')->QZ P w ob vs H Q E
seal PE PT PW PA PS PSs PI PG QY PGs PO in
theorem ZIb(Z:Zs mg)(T:Tx K mg CT cs ob)(Qfd:Cal P w K mg base 4 "cut" ["entries","level"] (JYb K))(Z9a:Cal P w K mg base 4 "page_of" ["level","entries"] (XA K ob))(ZLa:MeV P w K mg base 1 (ob 0) "first" (ZG K ob))(XB:MeV P w K mg base 1 (ob 1) "first" (ZG K ob))(XC:MeV P w K mg base 1 (ob 2) "first" (ZG K ob))(XD:MeV P w K mg base 2 (ob 3) "kept" (Jz P w ob))(F:Fun K "heads_of" "heads_of" Zca f fd):QF P w K mg base CX0 5 f fd ["pages","level","entries"] (QZ P w ob):=by
 refine F.ok Yx (fun vs H Q E h=>?_) (fun cdv A outer s H vs Q E hr h=>?_)
 ·walk_at "n"
 obtain⟨p,d1,d2,st,c,l,e,b,xs,es,rfl,hS,he,re,hent,lx,few,q⟩:=h;refine⟨_,(@Qa _ _ _ _ _ (Ql (i:=3) Yx.nd rfl (Or.inl rfl) (Ji Qe))
  (@Qa _ _ _ _ _ (JM PassesOwn.never rfl (Jwa (Qo Qfd (k:=4) hr (by decide) rfl (Qf (pv 2) (Qf (pv 1) Qe)))) (Q7 (i:=4) Yx.nd rfl (Or.inl rfl)) (@Qa _ _ _ _ _ (Ql (i:=5) Yx.nd rfl (Or.inl rfl) (Qo Z9a (k:=4) hr (by decide) rfl (Qf (pv 1) (Qf (pv 4) Qe))))
  (Qg (ZK (Jja PySem.F.plainAttrs_list PySem.F.slot_list_append PySem.F.type_list_append Ja (pv 3) (Qf (Zm (Qf (PE1.pe (Yea (k:=4) (pv 5) hr rfl) ZP) (Qf (PE1.pe (Zi (k:=4) (pv 0) hr rfl (Qf (pv 5) Qe)) ZP) Qe))) Qe))))))
  (Qg (Qm (pv 3))))),?_⟩
 refine Qn (σ:=[some (.ref p),some (.int l),some (.ref e),none,none,none]) rfl ?_
 walk_at "rd";have cc:=T.ob_ 3 (by decide)
 have lre:=Paired.length re;refine⟨by decide,fun hh hhh=>?_⟩
 have s0:=Qh hhh (.lst []);have c_hh:upd H hh (.lst []) hh=some (.lst []):=Qd;generalize upd H hh (.lst [])=H0 at s0 c_hh ⊢;have hsq:SqE b K H0 e xs:=by
  have he0:=s0 _ _ he;cases b with
  | true=>exact SqT.of he0
  | false=>exact SqL.of he0
 refine⟨e,b,l,xs,es,rfl,hsq,lx,TDs.sameT re s0.t,hent,fun a ps parts H1 s1 fr pa pp=>⟨a,rfl,⟨_,SqL.of pa.at_⟩,?_⟩⟩
 have s01:=s0.trans s1;have hS1:=hS.same s01;obtain⟨dx1,ho1⟩:=hS1.obj;have hh1:=s1 _ _ c_hh;have nin:∀ q∈a::ps,∀ o,H1 q=some (.lst o)->q∉[p,d1,d2,hh]:=fun q hq o hqo z=>by
  simp only[mem_cons,not_mem_nil,or_false]at z
  rcases z with z | z | z | z
  ·exact Jf hqo ho1 (by intro z;cases z) z
  ·exact Jf hqo hS1.num (by intro z;cases z) z
  ·exact Jf hqo hS1.tol (by intro z;cases z) z
  ·exact Qy c_hh (fr q hq) z.symm
 have lpp:=Paired.length pp;have lpl:(QT QK l es).length<=es.length:=Jaa;refine Zua (ps.map V.ref) (fun i σ' H'=>∃ st' c' hs ys x4 x5,σ'=[some (.ref p),some (.int l),some (.ref e),some (.ref hh),x4,x5]/\ZHb P w ob H1 H' p d1 d2 hh st l (QT QK l es) i st' c' hs ys)
  ⟨st,c,[],[],_,_,rfl,QH.refl _ _,Zl.refl _,hh1,.nil,(fun d h=>nomatch h),.nil,hS1,(fun x h=>h),by omega⟩ (fun i σ' H' _ ⟨_,_,_,_,_,_,_,h⟩=>SqL.of (h.sx _ _ (nin a mem_cons_self _ pa.at_) pa.at_)) ?_ ?_
 ·rintro i x σ' H' hx ⟨st',c',hs,ys,x4,x5,rfl,hd⟩
  rw[getElem?_map]at hx
  obtain⟨qa,hqa,rfl⟩:=Option.map_eq_some_iff.mp hx;have hi:=(Vc.mp hqa).1
  have hlen:=hd.len;have hfew:=hd.few;have hpl:=pa.len;obtain⟨k,rr,rest,part,hpd,hk,hq1,tp,lpart,lrest⟩:=JGc pa pp hent hqa;have hqA:=hd.sx _ _ (nin qa (Vo _ (Vm hqa)) _ hq1) hq1;walk_at "rd";refine⟨l,qa,false,part,_,rfl,hqA,TDs.sameT tp (s1.t.trans hd.tt),by omega,fun pg H2 s2 hpg pgd=>?_⟩
  have hS2:=hd.stA.same s2;obtain⟨dx2,ho2⟩:=hS2.obj;obtain⟨tw,dxa,t0,etw,hpa,ht⟩:=id pgd;have Mf:MeV P w K mg base 1 (ob (if tw=true then 2 else 1)) "first" (ZG K ob):=by cases tw with | true=>exact XC | false=>exact XB
  refine⟨.inl ⟨rfl,_,SqL.of (s2 _ _ hd.at_)⟩,?_⟩
  refine Xza rfl hpa (by cases tw <;> rfl) (T.ob_ _ ZFb).cl (Mf.mono (by decide)) ⟨pg,l,k,rr,rest,rfl,pgd,?_⟩
  refine X4 rfl ho2 rfl cc.cl (XD.mono (by decide)) ?_
  simp only[Q0b,Jcb,Jdb,YIa];refine JFc hS2 pgd ⟨l,k,rr,rest,rfl,ZGb hk,by omega⟩ (by omega) fun n H3 st3 c3 s3 hS3 hm sub3 l3=>?_
  show _/\_;refine⟨Z8,fun u hu=>?_⟩
  obtain⟨hh4,hd'⟩:=hd.next hpd hk s2 s3 hS3 hm sub3 l3 hu;exact⟨ys,hh4,QO (by omega),st3,c3,_,_,_,_,⟨rfl,rfl⟩,hd'⟩
 ·rintro σ' H' ⟨st',c',hs,ys,x4,x5,rfl,hd⟩
  walk_at "rd";have hds:=hd.hds;have l':=hd.len;rw[Vr,take_of_length_le (by rw[lpp,<- pa.len];exact Ve _)]at hds
  rw[Vr,pa.len]at l';exact q hh H' st' c' hs ys (fun b o nb hb=>hd.sx b o (fun z=>by
   simp only[mem_cons,not_mem_nil,or_false]at z nb
   rcases z with z | z | z | z
   ·exact nb (.inl z)
   ·exact nb (.inr (.inl z))
   ·exact nb (.inr (.inr z))
   ·rw[z,hhh]at hb;cases hb) (s01 _ _ hb)) hhh hd.at_ hd.tys hd.ehs hds hd.stA hd.sub (by omega)
inductive Ups(lv:V->Nat)(tbl:List (Int×Dt))(j0:Nat)(hs0:List Dt):Nat->List Dt->Prop
 | refl:Ups lv tbl j0 hs0 j0 hs0
 | snoc {j:Nat} {hs hs':List Dt} (u:Ups lv tbl j0 hs0 j hs) (h1:1 < hs.length) (h2:QJ tbl ((j+1:Nat):Int) (QT lv ((j+1:Nat):Int) hs) hs'):Ups lv tbl j0 hs0 (j+1) hs'
theorem Ups.mono{tbl':List (Int×Dt)}{j0:Nat}{hs0 hs:List Dt}(u:Ups lv tbl j0 hs0 j hs)(s:∀ x∈tbl,x∈tbl'):Ups lv tbl' j0 hs0 j hs:=by
 induction u with
 | refl=>exact .refl
 | snoc _ h1 h2 ih=>exact .snoc ih h1 (h2.mono s)
theorem Ups.part{rows hs0:List Dt}(h0:QJ tbl 0 (QT lv 0 rows) hs0){j:Nat}{hs:List Dt}(u:Ups lv tbl 0 hs0 j hs):∃ L,Z2a lv tbl rows (j+1) L/\L (j+1)=hs:=by
 induction u with
 | refl=>exact⟨_,Z2a.start h0,rfl⟩
 | @snoc j hs hs' u h1 h2 ih =>
  obtain⟨L,p,e⟩:=ih;subst e;exact⟨_,p.next (fun x h=>h) (by omega) h1 h2,by show(if j+1+1=j+1+1 then hs' else _)=hs';rw[if_pos rfl]⟩
inductive XE(P:Program)(w:World)(ob:Nat->Addr)(vs:List V)(H:Hp)(Q:VK)(E:XK):Prop
 | mk:∀ p d1 d2 st c e hs ys,∀ j:Nat,vs=[.ref p,.int j,.ref e]->j<=6->QG P w ob H p d1 d2 st c->H e=some (.lst ys)->Paired (fun d v=>TD H 6 d v) hs ys->(∀ d∈hs,HdD d)->ys.length<=900->st.length+7 * ys.length<=1000000->(∀ H' st' c' m above v,QH [p,d1,d2] H H'->QG P w ob H' p d1 d2 st' c'->(∀ x∈Qt st,x∈Qt st')->st'.length<=st.length+7 * ys.length->Ups QK (Qt st') j hs m above->m<=7->((hs=[]/\v=.non)\/(hs≠[]/\∃ k n,above=[ZQ k n]/\v=.int n))->Q v H')->XE P w ob vs H Q E
seal PE PT PW PA PS PSs PI PG QY PGs PO in
theorem J0b(Z:Zs mg)(T:Tx K mg CT cs ob)(Q3:Cal P w K mg base 5 "heads_of" ["pages","level","entries"] (QZ P w ob))(F:Fun K "crowned" "crowned" Z6a f fd):QF P w K mg base CX0 6 f fd ["pages","level","heads"] (XE P w ob):=by
 refine F.ok Ye (fun vs H Q E h=>?_) (fun cdv A outer s H vs Q E hr h=>?_)
 ·walk_at "n"
 obtain⟨p,d1,d2,st,c,e,hs,ys,j,rfl,hj,hS,he,re,hhd,ly,few,q⟩:=h;refine⟨_,(@Qa _ _ _ _ _ (Ql (i:=3) Ye.nd rfl (Or.inl rfl) (pv 1))
  (@Qa _ _ _ _ _ (Ql (i:=4) Ye.nd rfl (Or.inl rfl) (pv 2))
  (@Qa _ _ _ _ _ (XV PassesOwn.never (Qs Jga (Qz QR rfl (Z.len) ZL (Qf (pv 4) Qe)) Qb (Qw _)) (@Qa _ _ _ _ _ (Ql (i:=3) Ye.nd rfl (Or.inl rfl) (Qk Q9 (pv 3) Qb))
  (Qg (Ql (i:=4) Ye.nd rfl (Or.inl rfl) (Qo Q3 (k:=5) hr (by decide) rfl (Qf (pv 0) (Qf (pv 3) (Qf (pv 4) Qe))))))))
  (Qg (Qm (QVb (JWa (pv 4) (fun _=>rfl)) (QA QI (QA Q2 (pv 4) Qb (fun _ _=>rfl)) Qb (fun _ _=>rfl)) JL)))))),?_⟩
 refine Qn (σ:=[some (.ref p),some (.int j),some (.ref e),none,none]) rfl ?_
 walk_at "rd";refine⟨fun m σ' H'=>∃ (t:Nat) (st':StL) (c':Int) (b:Addr) (above:List Dt) (zs:List V),σ'=[some (.ref p),some (.int j),some (.ref e),some (.int t),some (.ref b)]/\m=7 - t/\t<=7/\(t=7->above.length<=1)/\j<=t/\QH [p,d1,d2] H H'/\H' b=some (.lst zs)/\Paired (fun d v=>TD H' 6 d v) above zs/\(∀ d∈above,HdD d)/\zs.length<=ys.length/\QG P w ob H' p d1 d2 st' c'/\(∀ x∈Qt st,x∈Qt st')/\st'.length<=st.length+(t - j) * ys.length/\Ups QK (Qt st') j hs t above/\(hs=[]↔above=[]),
  ⟨_,j,st,c,e,hs,ys,rfl,rfl,by omega,fun z=>by omega,Ve _,QH.refl _ _,he,re,hhd,Ve _,hS,fun x h=>h,by omega,.refl,Iff.rfl⟩,?_⟩
 rintro m σ' H' ⟨t,st',c',b,above,zs,rfl,rfl,ht,h7,hjt,sx,hb,tz,hd,lz,hS',sub,l',ups,emp⟩;have laz:=Paired.length tz;have e1:((t+1:Nat):Int)=(t:Int)+1:=by omega
 walk_at "rd";refine⟨zs,.inl (SqL.of hb),Zg (fun h1=>?_) fun h1=>?_⟩
 ·have ht6:t<=6:=by
   rcases Nat.lt_or_ge t 7 with z | z
   ·omega
   ·have:=h7 (by omega);omega
  have hb1:(t - j) * ys.length<=6 * ys.length:=Nat.mul_le_mul_right _ (by omega)
  refine⟨fun σ2 H2=>∃ (t2:Nat) (st':StL) (c':Int) (b:Addr) (above:List Dt) (zs:List V),t2=t+1/\σ2=[some (.ref p),some (.int j),some (.ref e),some (.int t2),some (.ref b)]/\t2<=7/\(t2=7->above.length<=1)/\j<=t2/\QH [p,d1,d2] H H2/\H2 b=some (.lst zs)/\Paired (fun d v=>TD H2 6 d v) above zs/\(∀ d∈above,HdD d)/\zs.length<=ys.length/\QG P w ob H2 p d1 d2 st' c'/\(∀ x∈Qt st,x∈Qt st')/\st'.length<=st.length+(t2 - j) * ys.length/\Ups QK (Qt st') j hs t2 above/\(hs=[]↔above=[]),
   fun σ2 H2 hZ=>(by obtain⟨t2,a1,a2,a3,a4,a5,a6,a7,b1,b2,b3,b4,b5⟩:=hZ;exact⟨7 - t2,by omega,t2,a1,a2,a3,a7,rfl,b1,a4,b2,b3,b4,a5,b5⟩),?_⟩
  walk_at "rd";refine⟨p,d1,d2,st',c',(t:Int)+1,b,false,zs,above,rfl,hS',hb,tz,fun d h=>(hd d h).ent,by omega,by omega,fun r H2 st2 c2 hs2 ys2 sx2 hr hr2 tys2 hd2 heads2 hS2 sub2 l2=>?_⟩
  have ls2:=heads2.length;have lt2:=Paired.length tys2;have lc:=Jaa (lv:=QK) (l:=(t:Int)+1) (es:=above);have ane:above≠[]:=fun z=>by rw[z]at laz;simp at laz;omega
  refine⟨st2,c2,r,⟨by omega,rfl⟩,by omega,hs2,fun z=>?_,by omega,sx.trans sx2,ys2,hr2,tys2,hd2,by omega,hS2,fun x hx=>sub2 x (sub x hx),?_,.snoc (ups.mono sub2) (by omega) (by rw[e1];exact heads2),?_⟩
  ·obtain rfl:t=6:=by omega
   rw[ls2,Ztb ane (fun d _=>by have:=Xqc (Qr d);omega)]
   exact Ve _
  ·have:t+1 - j=(t - j)+1:=by omega
   rw[this,Nat.succ_mul]
   omega
  ·constructor
   ·intro z;exact absurd (emp.mp z) ane
   ·intro z
    rw[z]at ls2;exact absurd (length_eq_zero_iff.mp ls2.symm) (Qza ane)
 ·have hb1:(t - j) * ys.length<=7 * ys.length:=Nat.mul_le_mul_right _ (by omega)
  cases tz with
  | nil =>
   refine⟨false,.inl ⟨_,SqL.of hb,rfl⟩,?_⟩
   rw[if_neg (by decide)]
   exact q H' st' c' t [] .non sx hS' sub (by omega) ups ht (.inl ⟨emp.mpr rfl,rfl⟩)
  | @cons d z _ _ tz tz2 =>
   cases tz2 with
   | nil =>
    obtain⟨k,n,rfl,hk⟩:=hd d mem_cons_self;obtain⟨u,x1,x2,rfl,hu,u1,u2⟩:=TD.pair_of tz;obtain⟨_,rfl⟩:=u1.flat;obtain⟨_,rfl⟩:=u2.flat;refine⟨true,.inl ⟨_,SqL.of hb,rfl⟩,?_⟩
    rw[if_pos rfl];exact⟨_,SqL.of hb,.ref u,rfl,u,rfl,_,SqT.of hu,.int n,rfl,q H' st' c' t [ZQ x1 n] (.int n) sx hS' sub (by omega) ups ht (.inr ⟨(fun z=>by have:=emp.mp z;cases this),x1,n,rfl,rfl⟩)⟩
   | cons _ _=>simp at h1;omega
def JKa(ks:List V)(i:Nat)(k:V):Prop:=ks[i+1]?=some k/\(∀ j,j < i->∀ a b,ks[j]?=some a->ks[j+1]?=some b->Pl.ltV a b=true)/\∀ a,ks[i]?=some a->Pl.ltV a k=false
theorem Qsb(up:ks.Pairwise fun a b=>Pl.ltV a b=true){i:Nat}{k:V}(h:JKa ks i k):False:=by
 obtain⟨a1,b1⟩:=Vc.mp h.1
 have:=pairwise_iff_getElem.mp up i (i+1) (by omega) a1 (by omega)
 rw[b1,h.2.2 _ (Vb (show i < ks.length by omega))]at this
 cases this
inductive ZMa(P:Program)(w:World)(cs ob:Nat->Addr)(vs:List V)(H:Hp)(Q:VK)(E:XK):Prop
 | mk:∀ p d1 d2 st c e xs es,vs=[.ref p,.ref e]->QG P w ob H p d1 d2 st c->H e=some (.lst xs)->Paired (fun d v=>TD H 6 d v) es xs->(∀ d∈es,QFa d)->xs.length<=900->st.length+8 * xs.length<=1000000->(((es.map Qr).Pairwise (fun a b=>Pl.ltV a b=true)/\∀ H' st' c' v,QH [p,d1,d2] H H'->QG P w ob H' p d1 d2 st' c'->(∀ x∈Qt st,x∈Qt st')->st'.length<=st.length+8 * xs.length->((es=[]/\v=.non)\/(es≠[]/\∃ top L k n,top<=6/\X7 QK (Qt st') es top L/\L (top+1)=[ZQ k n]/\v=.int n))->Q v H')\/∃ i k,JKa (es.map Qr) i k/\∀ H' d,Qp H H'->H' d=none->E (.ref (cs 1)) (some d) (upd H' d (xD d [("key",k)])))->ZMa P w cs ob vs H Q E
seal PE PT PW PA PS PSs PI PG QY PGs PO in
theorem Zjc(Z:Zs mg)(T:Tx K mg CT cs ob)(Jba:Cal P w K mg base 6 "crowned" ["pages","level","heads"] (XE P w ob))(Q3:Cal P w K mg base 5 "heads_of" ["pages","level","entries"] (QZ P w ob))(Yva:Cal P w K mg base 2 "before" ["one","other"] (QBa K))(Qqa:MkX P w K mg base 1 "NotRising" (cs 1) CT ["key"])(F:Fun K "built" "built" Qkb f fd):QF P w K mg base (CX1 P w) 7 f fd ["pages","rows"] (ZMa P w cs ob):=by
 refine F.ok1 Zyb (fun vs H Q E h=>?_) (fun cdv A outer s H vs Q E hr h=>?_)
 ·walk_at "n"
 obtain⟨p,d1,d2,st,c,e,xs,es,rfl,hS,he,re,hent,lx,few,hq⟩:=h;refine⟨_,(@Qa _ _ _ _ _ (JM Qrd rfl (Y2b rfl (Z.range) (Qf Qb (Qf (Qz QR rfl (Z.len) ZL (Qf (pv 1) Qe)) Qe))) (Q7 (i:=2) Zyb.nd rfl (Or.inl rfl)) (Qg (QN (Js (ZU (Qo Yva (k:=6) hr (by decide) rfl (Qf (QA QI (QA Q2 (pv 1) (Qk Jg (pv 2) Qb) (fun _ _=>rfl)) Qb (fun _ _=>rfl)) (Qf (QA QI (QA Q2 (pv 1) (pv 2) (fun _ _=>rfl)) Qb (fun _ _=>rfl)) Qe))) (fun _=>rfl))) (Qg (ZZa Yt rfl rfl rfl Qqa (k:=6) hr (by decide) (Qf (QA QI (QA Q2 (pv 1) (pv 2) (fun _ _=>rfl)) Qb (fun _ _=>rfl)) Qe))) Qu)))
  (Qg (Qm (Qo Jba (k:=6) hr (by decide) rfl (Qf (pv 0) (Qf Qb (Qf (Qo Q3 (k:=6) hr (by decide) rfl (Qf (pv 0) (Qf Qb (Qf (pv 1) Qe)))) Qe))))))),?_⟩
 refine Qn (σ:=[some (.ref p),some (.ref e),none]) rfl ?_
 walk_at "rd";have le:=Paired.length re;refine⟨xs,.inl (SqL.of he),1,_,⟨rfl,rfl⟩,⟨by decide,by decide,by omega,by omega⟩,?_⟩
 refine Qxa (fun i σ' H'=>∃ x2,σ'=[some (.ref p),some (.ref e),x2]/\Qp H H'/\∀ i' k',JKa (es.map Qr) i' k'->i<=i') ⟨_,rfl,Qp.refl _,fun _ _ _=>Vk _⟩ ?_ ?_
 ·rintro i σ' H' hi ⟨x2,rfl,s1,nw⟩
  have hi':i+1 < xs.length:=by omega
  have row:∀ n,n < xs.length->∃ u k r,xs[n]?=some (.ref u)/\H' u=some (.tup (k::r))/\Q6 k/\(es.map Qr)[n]?=some k:=fun n hn=>by
   have hx:xs[n]?=some xs[n]:=Vb hn
   have hd:es[n]?=some (es[n]'(by omega)):=Vb _
   have tx:=Qv re hd hx;obtain⟨k,rr,ed,hk⟩:=hent _ (Vm hd);rw[ed]at tx;obtain⟨m,u,ws,_,eu,hu,rw_⟩:=tx.tup;cases rw_ with
   | @cons _ k' _ ws' r1 rw' =>
   obtain⟨_,rfl⟩:=r1.flat;exact⟨u,_,ws',by rw[hx,eu],s1 _ _ hu,hk,by rw[getElem?_map,hd,ed];rfl⟩
  obtain⟨u0,k0,r0,g0,t0,hk0,m0⟩:=row i (by omega)
  obtain⟨u1,k1,r1,g1,t1,hk1,m1⟩:=row (i+1) hi';walk_at "rd";refine⟨_,SqL.of (s1 _ _ he),.ref u0,by rw[show(1:Int)+(i:Int) - 1=((i:Nat):Int) by omega];exact Zb g0,u0,rfl,_,SqT.of t0,k0,at0 _ _,_,SqL.of (s1 _ _ he),.ref u1,by rw[show(1:Int)+(i:Int)=((i+1:Nat):Int) by omega];exact Zb g1,u1,rfl,_,SqT.of t1,k1,at0 _ _,k0,k1,rfl,YQ hk0,YQ hk1,fun H2 s2=>⟨_,rfl,?_⟩⟩
  rcases hq with ⟨up,q⟩ | ⟨iw,kw,⟨w1,w2,w3⟩,qe⟩
  ·have lt:Pl.ltV k0 k1=true:=by
    obtain⟨a0,b0⟩:=Vc.mp m0
    obtain⟨a1,b1⟩:=Vc.mp m1
    have:=pairwise_iff_getElem.mp up i (i+1) a0 a1 (by omega)
    rw[b0,b1]at this;exact this
   rw[lt,if_neg (by decide)]
   exact⟨s1.trans s2,fun i' k' h=>(Qsb up h).elim⟩
  ·have wk:i<=iw:=nw iw kw ⟨w1,w2,w3⟩
   have nxt:Pl.ltV k0 k1=true->∀ i' k',JKa (es.map Qr) i' k'->i+1<=i':=fun lt i' k' h=>by
    rcases Nat.lt_or_ge i i' with z | z
    ·omega
    ·have e:i'=i:=by have:=nw i' k' h;omega
     subst e;have h1:=h.1;rw[m1]at h1;cases h1;rw[h.2.2 _ m0]at lt;cases lt
   by_cases e:i=iw
   ·subst e
    rw[m1]at w1;cases w1;rw[w3 _ m0,if_pos rfl];exact⟨e,xs,_,.ref u1,rfl,rfl,SqL.of ((s1.trans s2) _ _ he),by rw[show(1:Int)+(i:Int)=((i+1:Nat):Int) by omega];exact Zb g1,u1,_,_,k1,rfl,rfl,SqT.of (s2 _ _ t1),at0 _ _,rfl,show 1<=1000 by decide,fun d hd=>qe _ d (s1.trans s2) hd⟩
   ·have lt:=w2 i (by omega) _ _ m0 m1
    rw[lt,if_neg (by decide)]
    exact⟨s1.trans s2,nxt lt⟩
 ·rintro σ' H' ⟨x2,rfl,s1,nw⟩
  rcases hq with ⟨up,q⟩ | ⟨iw,kw,hw,qe⟩
  case inr =>
   have h1:=nw iw kw hw;have h2:=(Vc.mp hw.1).1
   rw[Vr]at h2
   omega
  walk_at "rd";refine⟨p,d1,d2,st,c,0,e,false,xs,es,rfl,hS.same s1,s1 _ _ he,TDs.sameT re s1.t,hent,lx,by omega,fun r H2 st2 c2 hs ys sx hr hr2 tys hd heads hS2 sub l2=>?_⟩
  have lh:=heads.length;have lt:=Paired.length tys;have lc:=Jaa (lv:=QK) (l:=0) (es:=es);refine⟨p,d1,d2,st2,c2,r,hs,ys,0,rfl,by decide,hS2,hr2,tys,hd,by omega,by omega,fun H3 st3 c3 m above v sx3 hS3 sub3 l3 ups hm hv=>?_⟩
  refine q H3 st3 c3 v ((s1.x _).trans (sx.trans sx3)) hS3 (fun x hx=>sub3 x (sub x hx)) (by omega) ?_
  have emp:es=[]↔hs=[]:=by
   constructor
   ·intro z;exact length_eq_zero_iff.mp (by rw[lh,z];rfl)
   ·intro z
    rw[z]at lh;cases hes:es with
    | nil=>rfl
    | cons y ys'=>exact absurd (length_eq_zero_iff.mp lh.symm) (Qza (by rw[hes];simp))
  rcases hv with ⟨h1,h2⟩ | ⟨h1,k,n,ea,ev⟩
  ·exact .inl ⟨emp.mpr h1,h2⟩
  ·have hes:es≠[]:=fun z=>h1 (emp.mp z)
   obtain⟨L,pt,eL⟩:=ups.part (heads.mono sub3);have h1L:(L (m+1)).length=1:=by rw[eL,ea];rfl
   have m6:m<=6:=by
    rcases Nat.lt_or_ge m 7 with z | z
    ·omega
    ·have a:=pt.top Xqc hes (by omega)
     have b:=pt.two 7 (by omega) (by omega)
     omega
   exact .inr ⟨hes,m,L,k,n,m6,pt.chain h1L,by rw[eL,ea],ev⟩
theorem Y6{K:W.Frag}{k:Nat}{fd:FuncData}{ps:List Str}:QF P w K mg base CX k f fd ps (fun _ _ _ _=>False) :=
 ⟨fun _ _ _ _ h=>h.elim,fun _ _ _ _ _ _ _ _ _ _ _ _ _ h=>h.elim⟩
inductive YR(u0_:W.Frag)(ob:Nat->Addr)(vs:List V)(H:Hp)(Q:VK)(E:XK):Prop
 | mk:∀ a l es,vs=[.ref a]->PgD ob H a l es->l≠0->es.length<=900->(∀ d∈es,∃ k n,d=ZQ k n)->(∀ r H',Qp H H'->H r=none->H' r=some (.lst ((es.map ZEa).map V.int))->Q (.ref r) H')->YR u0_ ob vs H Q E
seal PE PT PW PA PS PSs PI PG QY PGs PO in
theorem Y0a(Z:Zs mg)(T:Tx K mg CT cs ob)(F:Fun K "under" "Twig.under" JT f fd):QF P w K mg base (CX1 P w) 1 f fd ["self"] (YR K ob):=by
 refine F.ok1 YRa (fun vs H Q E h=>?_) (fun cdv A outer s H vs Q E hr h=>?_)
 ·walk_at "n"
 obtain⟨a,l,es,rfl,hP,hl,lx,hh,q⟩:=h;refine⟨_,(Qg (Qm (YX ["self"] rfl (Jka (N:=["self"]) (dsc:=Qj JT) rfl rfl (by decide +kernel)) (Jgb (QW (pv 0) rfl)) (fun _ _ _ _ _=>Zsa) (fun _ _ _ _ _=>(QA (r:=Z4c K) QI (pv 0) Qb (fun _ _=>rfl)))))),?_⟩
 refine Qn (σ:=[some (.ref a)]) rfl ?_
 walk_at "rd";obtain⟨tw,dx,t,etw,ha,ht⟩:=hP;obtain rfl:tw=true:=by rw[etw];exact decide_eq_true hl
 obtain⟨m,t',xs,em,e,ht',rt⟩:=ht.tup;cases e;have le:=Paired.length rt;have hx:∀ (i:Nat) x,xs[i]?=some x->∃ b k n,x=.ref b/\H b=some (.tup [k,.int n])/\(es.map ZEa)[i]?=some n:=fun i x hi=>by
  have h2:=(Vc.mp hi).1
  have hd:es[i]?=some (es[i]'(by omega)):=Vb _
  have tx:=Qv rt hd hi;obtain⟨k,n,ed⟩:=hh _ (Vm hd);rw[ed]at tx;obtain rfl:m=6:=by omega
  obtain⟨b,x1,x2,eb,hb,w1,w2⟩:=TD.pair_of tx;obtain⟨_,rfl⟩:=w2.flat;exact⟨b,x1,n,eb,hb,by rw[getElem?_map,hd,ed];rfl⟩
 have hmap:xs.map (QXc H)=(es.map ZEa).map V.int:=by
  refine ext_getElem (by simp[le]) fun i g1 g2=>?_
  have b1:i < xs.length:=by simpa using g1
  obtain⟨b,k,n,ex,hb,hn⟩:=hx i _ (Vb b1)
  simp only[getElem_map];rw[ex,Zob hb];obtain⟨_,e⟩:=Vc.mp hn
  simp only[getElem_map]at e;rw[e]
 refine Zu (T.ob_ 2 (by decide)) (by decide) rfl ha rfl ⟨t,rfl,⟨_,SqT.of ht'⟩,YIb xs (fun _=>true) (QXc H) (SqT.of ht') (Y4 (by omega)) (fun i x H2 R _ _ r=>r) (fun i x H2 R hi _ s r=>?_) fun D H2 hD s2 hd=>?_⟩
 ·obtain⟨b,k,n,rfl,hb,_⟩:=hx i x hi
  walk_at "rd";exact⟨_,SqT.of (s _ _ hb),_,rfl,by rw[Zob hb]at r;exact r⟩
 ·exact q D H2 s2 hD (by rw[hd,filter_eq_self.mpr (fun _ _=>rfl),hmap])
inductive JA(u0_:W.Frag)(ob:Nat->Addr)(vs:List V)(H:Hp)(Q:VK)(E:XK):Prop
 | mk:∀ a,vs=[.ref a]->(∀ r H',Qp H H'->H r=none->H' r=some (.lst [])->Q (.ref r) H')->JA u0_ ob vs H Q E
seal PE PT PW PA PS PSs PI PG QY PGs PO in
theorem QOa(Z:Zs mg)(T:Tx K mg CT cs ob)(F:Fun K "under" "Page.under" Xl f fd):QF P w K mg base (CX1 P w) 1 f fd ["self"] (JA K ob):=by
 refine F.ok1 YQa (fun vs H Q E h=>?_) (fun cdv A outer s H vs Q E hr h=>?_)
 ·walk_at "n"
 obtain⟨a,rfl,q⟩:=h;refine⟨_,(Qg (Qm (Ji Qe))),?_⟩
 refine Qn (σ:=[some (.ref a)]) rfl ?_
 walk_at "rd";exact⟨by decide,fun p hp=>q p _ (Qh hp _) hp Qd⟩
theorem QC{α β:Type}{F:α->β->Prop}:∀ {xs ys:List α} {us vs:List β},Paired F xs us->Paired F ys vs->Paired F (xs++ys) (us++vs)
 | _,_,_,_,.nil,h=>h
 | _,_,_,_,.cons r t,h=>.cons r (QC t h)
def ZJ(st:StL)(es:List Dt)(v:V):Prop:=(es=[]/\v=.non)\/(es≠[]/\∃ top L k n,top<=6/\X7 QK (Qt st) es top L/\L (top+1)=[ZQ k n]/\v=.int n)
section
variable{P:Program}{w:World}{K:W.Frag}{ob:Nat->Addr}{H H':Hp}{p d1 d2:Addr}{st:StL}{c:Int}
theorem QG.off(h:QG P w ob H p d1 d2 st c){b:Addr}{o:HO}(hb:H b=some o)(h1:∀ C dx fs,o≠.ins C dx fs)(h2:∀ kvs,o≠.dK kvs)(h3:∀ φ,o≠.ext φ):b∉[p,d1,d2]:=fun z=>by
 obtain⟨dx,eo⟩:=h.obj;simp only[mem_cons,not_mem_nil,or_false]at z
 rcases z with z | z | z
 ·rw[z,eo]at hb;injection hb with hb;exact h1 _ _ _ hb.symm
 ·rw[z,h.num]at hb;injection hb with hb;exact h2 _ hb.symm
 ·rw[z,h.tol]at hb;injection hb with hb;exact h3 _ hb.symm
theorem QG.lst(h:QG P w ob H p d1 d2 st c)(s:QH [p,d1,d2] H H'){b:Addr}{xs:List V}(hb:H b=some (.lst xs)):H' b=some (.lst xs):=s _ _ (h.off hb (by intros;intro z;cases z) (by intros;intro z;cases z) (by intros;intro z;cases z)) hb
theorem QG.seq(h:QG P w ob H p d1 d2 st c)(s:QH [p,d1,d2] H H'){b:Addr}{xs:List V}(hb:SqL K H b xs):SqL K H' b xs:=by
 rcases hb with hb | hb
 ·rcases hb with hb | ⟨o,hb⟩
  ·exact .inl (.inl (h.lst s hb))
  ·exact .inl (.inr ⟨o,s _ _ (h.off hb (by intros;intro z;cases z) (by intros;intro z;cases z) (by intros;intro z;cases z)) hb⟩)
 ·exact .inr hb
theorem QG.updL(h:QG P w ob H p d1 d2 st c){b:Addr}{xs ys:List V}(hb:H b=some (.lst xs)):QG P w ob (upd H b (.lst ys)) p d1 d2 st c:=by
 have n:=h.off hb (by intros;intro z;cases z) (by intros;intro z;cases z) (by intros;intro z;cases z)
 have go:∀ {a},a∈[p,d1,d2]->upd H b (.lst ys) a=H a:=fun {a} ha=>Qi (fun z=>n (by rw[<- z];exact ha))
 exact h.keep (YZ hb) (go (by simp)) (go (by simp)) (go (by simp))
end
theorem ZJb{K:W.Frag}(hb:H b=some (.lst xs))(re:Paired (fun d v=>TD H 6 d v) es xs):Rep K H 7 (.l es) (.ref b):=.l (SqL.of hb) (Paired.length re) fun i d x h1 h2=>(Qv re h1 h2).rep
theorem XJb(xs:List V)(k:Nat):QU xs none (some (k:Int))=xs.take k:=by
 have e1:=HT.Jza xs.length xs.length k;have e2:HT.sIx xs.length 0 none=0:=rfl;unfold QU;rw[e1,e2,drop_zero,Nat.sub_zero]
 rcases Nat.le_total k xs.length with h | h
 ·rw[Nat.min_eq_left h]
 ·rw[Nat.min_eq_right h,take_of_length_le (Ve _),take_of_length_le h]
theorem ZKb(xs:List V)(k:Nat):QU xs (some (k:Int)) none=xs.drop k:=by
 have e1:=HT.Jza xs.length 0 k;have e2:HT.sIx xs.length xs.length none=xs.length:=rfl;unfold QU;rw[e1,e2]
 rcases Nat.le_total k xs.length with h | h
 ·rw[Nat.min_eq_left h,take_of_length_le (by rw[length_drop];exact Ve _)]
 ·rw[Nat.min_eq_right h,drop_of_length_le (Ve _),drop_of_length_le h];simp
theorem ZN{α β:Type}{F:α->β->Prop}:∀ {xs:List α} {us:List β} (n:Nat),Paired F xs us->Paired F (xs.take n) (us.take n)
 | _,_,0,_=>.nil
 | _,_,_+1,.nil=>.nil
 | _,_,n+1,.cons r t=>.cons r (ZN n t)
theorem Zx{α β:Type}{F:α->β->Prop}:∀ {xs:List α} {us:List β} (n:Nat),Paired F xs us->Paired F (xs.drop n) (us.drop n)
 | _,_,0,r=>r
 | _,_,_+1,.nil=>.nil
 | _,_,n+1,.cons _ t=>Zx n t
section
local macro_rules | `(tactic| obtain $p:rcasesPatMed := $e) => `(tactic| (refine dly fun g hg => ?_; rcases $e:term with $p; all_goals (refine hg ?_; clear hg g)))
def ltK(a b:V):Prop:=Q6 a/\Q6 b/\Pl.ltV a b=true
theorem ltK.irr(a:V):¬ ltK a a:=fun h=>by
 have h2:=h.2.2;rw[Pl.irr (YQ h.1)]at h2;exact Vf h2
theorem ltK.tr{a b c:V}(h:ltK a b)(h':ltK b c):ltK a c:=⟨h.1,h'.2.1,Pl.tr (YQ h.1) (YQ h.2.1) (YQ h'.2.1) h.2.2 h'.2.2⟩
theorem ltK.tri{a b:V}(ha:Q6 a)(hb:Q6 b):ltK a b\/a=b\/ltK b a:=by
 cases h1:Pl.ltV a b with
 | true=>exact .inl ⟨ha,hb,h1⟩
 | false =>
  cases h2:Pl.ltV b a with
  | true=>exact .inr (.inr ⟨hb,ha,h2⟩)
  | false=>exact .inr (.inl (Pl.tri (YQ ha) (YQ hb) h1 h2))
theorem Qtb{a b:V}(ha:Q6 a)(hb:Q6 b):XW a b=true:=by
 cases a with
 | int n=>cases b with
  | int m=>rfl
  | str z=>rfl
  | _=>exact hb.elim
 | str z=>cases b with
  | int m=>rfl
  | str z=>rfl
  | _=>exact hb.elim
 | _=>exact ha.elim
structure Qvd(H:Hp)(a:Addr)(xs:List V):Prop where
 at_:H a=some (.lst xs)
 pl:∀ v∈xs,Pl.Zt v
 up:xs.Pairwise fun a b=>Pl.ltV a b=true
 len:xs.length < 1000
inductive Qra(u0_:W.Frag)(vs:List V)(H:Hp)(Q:VK)(E:XK):Prop
 | mk:∀ (a:Addr) (xs:List V) (v:V),vs=[.ref a,v]->Qvd H a xs->Pl.Zt v->(∀ H' (lo:Nat),Qp H H'->lo<=xs.length->(∀ (i:Nat) x,i < lo->xs[i]?=some x->Pl.ltV x v=true)->(∀ (i:Nat) x,lo<=i->xs[i]?=some x->Pl.ltV x v=false)->Q (.int lo) H')->Qra u0_ vs H Q E
seal PE PT PW PA PS PSs PI PG QY PGs PO in
theorem ZLb(Z:Zs mg)(T:Tx K mg CT cs ob)(Yva:Cal P w K mg base 2 "before" ["one","other"] (QBa K))(F:Fun K "place_of" "place_of" Q9a f fd):QF P w K mg base CX0 3 f fd ["keys","key"] (Qra K):=by
 refine F.ok Jb (fun vs H Q E h=>?_) (fun cdv A outer s H vs Q E hr h=>?_)
 ·walk_at "n"
 obtain⟨a,xs,v,rfl,hk,pvv,q⟩:=h;refine⟨_,(@Qa _ _ _ _ _ (Ql (i:=2) Jb.nd rfl (Or.inl rfl) Qb)
  (@Qa _ _ _ _ _ (Ql (i:=3) Jb.nd rfl (Or.inl rfl) (Qz QR rfl (Z.len) ZL (Qf (pv 0) Qe)))
  (@Qa _ _ _ _ _ (XV PassesOwn.never (Qs JUa (pv 2) (pv 3) (Qw _)) (@Qa _ _ _ _ _ (Ql (i:=4) Jb.nd rfl (Or.inl rfl) (Qk Q8 (Qk Q9 (pv 2) (pv 3)) Qb))
  (Qg (QN (ZU (Qo Yva (k:=2) hr (by decide) rfl (Qf (QA Q2 (pv 0) (pv 4) (fun _ _=>rfl)) (Qf (pv 1) Qe))) (fun _=>rfl)) (Qg (Ql (i:=2) Jb.nd rfl (Or.inl rfl) (Qk Q9 (pv 4) Qb))) (Qg (Ql (i:=3) Jb.nd rfl (Or.inl rfl) (pv 4)))))))
  (Qg (Qm (pv 2)))))),?_⟩
 refine Qn (σ:=[some (.ref a),some v,none,none,none]) rfl ?_
 walk_at "rd";refine⟨xs,.inl (SqL.of hk.at_),fun m σ' H'=>∃ (lo hi:Nat) (x4:Option V),σ'=[some (.ref a),some v,some (.int lo),some (.int hi),x4]/\m=hi - lo/\lo<=hi/\hi<=xs.length/\Qp H H'/\(∀ (i:Nat) x,i < lo->xs[i]?=some x->Pl.ltV x v=true)/\∀ (i:Nat) x,hi<=i->xs[i]?=some x->Pl.ltV x v=false,
  ⟨_,0,xs.length,none,rfl,rfl,Vk _,Ve _,Qp.refl _,fun i x h=>absurd h (by omega),fun i x h e=>absurd (Vc.mp e).1 (by omega)⟩,?_⟩
 rintro m σ' H' ⟨lo,hi,x4,rfl,rfl,h1,h2,sm,ha,hb⟩;walk_at "rd"
 by_cases hlt:(lo:Int) < (hi:Int)
 ·rw[if_pos hlt]
  have em:((lo:Int)+hi) / 2=(((lo+hi) / 2:Nat):Int):=by omega
  have hm:(lo+hi) / 2 < xs.length:=by omega
  obtain⟨y,hy⟩:∃ y,xs[(lo+hi) / 2]?=some y:=⟨_,Vb hm⟩
  have py:Pl.Zt y:=hk.pl y (Vm hy);have upx:∀ (i j:Nat) x z,i < j->xs[i]?=some x->xs[j]?=some z->Pl.ltV x z=true:=fun i j x z hij hx hz=>by
   obtain⟨hi',ex⟩:=Vc.mp hx
   obtain⟨hj',ez⟩:=Vc.mp hz
   rw[<- ex,<- ez];exact pairwise_iff_getElem.mp hk.up i j hi' hj' hij
  refine⟨fun σ' H'=>∃ (lo' hi':Nat) (x4:Option V),σ'=[some (.ref a),some v,some (.int lo'),some (.int hi'),x4]/\hi' - lo' < hi - lo/\lo'<=hi'/\hi'<=xs.length/\Qp H H'/\(∀ (i:Nat) x,i < lo'->xs[i]?=some x->Pl.ltV x v=true)/\∀ (i:Nat) x,hi'<=i->xs[i]?=some x->Pl.ltV x v=false,
   fun σ' H2 ⟨lo',hi',x4',e,e1,e2,e3,e4,e5,e6⟩=>⟨_,e1,lo',hi',x4',e,rfl,e2,e3,e4,e5,e6⟩,by unfold J7;decide,xs,SqL.of (sm _ _ hk.at_),y,by rw[em];exact Zb hy,y,v,rfl,py,pvv,fun H2 s2=>⟨_,rfl,?_⟩⟩
  rw[em];cases hl:Pl.ltV y v with
  | true =>
   rw[if_pos rfl];refine⟨(lo+hi) / 2+1,hi,_,rfl,by omega,by omega,h2,sm.trans s2,fun i x hi' hx=>?_,hb⟩
   by_cases e:i=(lo+hi) / 2
   ·rw[e,hy]at hx;cases hx;exact hl
   ·have px:Pl.Zt x:=hk.pl x (Vm hx)
    exact Pl.tr px py pvv (upx i _ x y (by omega) hx hy) hl
  | false =>
   rw[if_neg Vf];refine⟨lo,(lo+hi) / 2,_,rfl,by omega,by omega,by omega,sm.trans s2,ha,fun i x hi' hx=>?_⟩
   by_cases e:i=(lo+hi) / 2
   ·rw[e,hy]at hx;cases hx;exact hl
   ·have px:Pl.Zt x:=hk.pl x (Vm hx)
    cases q:Pl.ltV x v with
    | false=>rfl
    | true=>rw[Pl.tr py px pvv (upx _ i y x (by omega) hy hx) q]at hl;cases hl
 ·rw[if_neg hlt]
  have e:lo=hi:=by omega
  subst e;exact q _ lo sm h2 ha hb
def XKb(es:List Dt)(k:V)(at':Int):Prop:=∃ a b,es=a++b/\at'=(a.length:Int) - 1/\(∀ x∈a,ltK (Qr x) k\/Qr x=k)/\∀ x∈b,ltK k (Qr x)
theorem QFa.key(h:QFa d):Q6 (Qr d):=by
 obtain⟨k,r,rfl,hk⟩:=h;exact hk
theorem JHc{lo:Nat}(hent:∀ d∈es,QFa d)(hk:Q6 k)(up:UpR ltK es)(hl:lo<=es.length)(h1:∀ (i:Nat) x,i < lo->(es.map Qr)[i]?=some x->Pl.ltV x k=true)(h2:∀ (i:Nat) x,lo<=i->(es.map Qr)[i]?=some x->Pl.ltV x k=false) :
 (∀ d,es[lo]?=some d->Qr d=k->XKb es k lo)/\((∀ d,es[lo]?=some d->Qr d≠k)->XKb es k ((lo:Int) - 1)):=by
 have lo1:∀ x∈es.take lo,ltK (Qr x) k:=fun x hx=>by
  obtain⟨i,hi,e⟩:=mem_iff_getElem.mp hx;rw[length_take]at hi;rw[getElem_take]at e;refine⟨(hent x (mem_of_mem_take hx)).key,hk,h1 i _ (by omega) ?_⟩
  rw[getElem?_map,Vb (by omega),e];rfl
 have hi1:∀ (i:Nat) d,lo<=i->es[i]?=some d->¬ ltK (Qr d) k:=fun i d hi hd z=>by
  have:=h2 i (Qr d) hi (by rw[getElem?_map,hd];rfl)
  rw[z.2.2]at this;cases this
 constructor
 ·intro d hd e
  obtain⟨hlt,ed⟩:=Vc.mp hd
  have es1:es=es.take lo++d::es.drop (lo+1):=by rw[<- ed,getElem_cons_drop,take_append_drop]
  refine⟨es.take lo++[d],es.drop (lo+1),by rw[Vq];exact es1,by simp;omega,fun x hx=>?_,fun x hx=>?_⟩
  ·rcases Vl.mp hx with z | z
   ·exact .inl (lo1 x z)
   ·rw[mem_singleton.mp z];exact .inr e
  ·rw[es1]at up
   rw[<- e];exact(pairwise_cons.mp up.right).1 x hx
 ·intro hn
  refine⟨es.take lo,es.drop lo,(take_append_drop _ _).symm,by simp;omega,fun x hx=>.inl (lo1 x hx),?_⟩
  cases hd:es[lo]? with
  | none =>
   intro x hx;rw[drop_of_length_le (List.getElem?_eq_none_iff.mp hd)]at hx
   cases hx
  | some d =>
   obtain⟨hlt,ed⟩:=Vc.mp hd
   have es2:es.drop lo=d::es.drop (lo+1):=by rw[<- ed,getElem_cons_drop]
   have kd:ltK k (Qr d):=by
    rcases ltK.tri hk (hent d (Vm hd)).key with z | z | z
    ·exact z
    ·exact absurd z.symm (hn d hd)
    ·exact absurd z (hi1 lo d (Ve _) hd)
   have up2:UpR ltK (es.drop lo):=up.sublist (drop_sublist _ _);rw[es2]at up2 ⊢;intro x hx
   rcases mem_cons.mp hx with z | z
   ·rw[z];exact kd
   ·exact ltK.tr kd ((pairwise_cons.mp up2).1 x z)
def YVb(H:Hp):V->V
 | .ref a=>match H a with
  | some (.tup (x::_))=>x
  | _=>.non
 | _=>.non
theorem ZMb{r:List V}(h:H a=some (.tup (k::r))):YVb H (.ref a)=k:=by
 simp only[YVb,h]
theorem Ywa(re:Paired (fun d v=>TD H 6 d v) es xs)(hent:∀ d∈es,QFa d){i:Nat}{x:V}(hx:xs[i]?=some x):∃ d b r,es[i]?=some d/\x=.ref b/\H b=some (.tup (Qr d::r))/\Q6 (Qr d)/\TD H 6 d x:=by
 have hi:=(Vc.mp hx).1
 have le:=Paired.length re;have hd:es[i]?=some (es[i]'(by omega)):=Vb _
 have tx:=Qv re hd hx;obtain⟨k,rr,ed,hk⟩:=hent _ (Vm hd);generalize es[i]'(by omega)=d at hd tx ed
 subst ed;obtain⟨m,b,ws,_,eb,hb,rw_⟩:=id tx.tup;cases rw_ with
 | cons r1 _ =>
  obtain⟨_,rfl⟩:=r1.flat;exact⟨_,b,_,hd,eb,hb,hk,tx⟩
inductive ZZ(u0_:W.Frag)(vs:List V)(H:Hp)(Q:VK)(E:XK):Prop
 | mk:∀ t xs es k,vs=[.ref t,k]->H t=some (.tup xs)->Paired (fun d v=>TD H 6 d v) es xs->(∀ d∈es,QFa d)->UpR ltK es->Q6 k->xs.length<=900->(∀ H' at',Qp H H'->XKb es k at'->Q (.int at') H')->ZZ u0_ vs H Q E
seal PE PT PW PA PS PSs PI PG QY PGs PO in
theorem Y1a(Z:Zs mg)(T:Tx K mg CT cs ob)(J1b:Cal P w K mg base 3 "place_of" ["keys","key"] (Qra K))(F:Fun K "last_up_to" "last_up_to" JW f fd):QF P w K mg base CX0 4 f fd ["entries","key"] (ZZ K):=by
 refine F.ok QKa (fun vs H Q E h=>?_) (fun cdv A outer s H vs Q E hr h=>?_)
 ·walk_at "n"
 obtain⟨t,xs,es,k,rfl,ht,re,hent,up,hk,lx,q⟩:=h;refine⟨_,(@Qa _ _ _ _ _ (Ql (i:=2) QKa.nd rfl (Or.inl rfl) (Qo J1b (k:=3) hr (by decide) rfl (Qf (YX ["entries","key","place"] rfl (Jka (N:=["entries","key","place"]) (dsc:=Qj JW) rfl rfl (by decide +kernel)) (Jgb (pv 0)) (fun _ _ _ _ _=>Zsa) (fun _ _ _ _ _=>(QA (r:=Z4c K) QI (pv 0) Qb (fun _ _=>rfl)))) (Qf (pv 1) Qe))))
  (@Qa _ _ _ _ _ (QN (PW.pt (YE (Qs JUa (pv 2) (Qz QR rfl (Z.len) ZL (Qf (pv 0) Qe)) (Qw _)) (Jv (Qs Zk (QA QI (QA QI (pv 0) (pv 2) (fun _ _=>rfl)) Qb (fun _ _=>rfl)) (pv 1) (Qw _))))) (Qg (Qm (pv 2))) Qu)
  (Qg (Qm (Qk Jg (pv 2) Qb))))),?_⟩
 refine Qn (σ:=[some (.ref t),some k,none]) rfl ?_
 walk_at "rd";have le:=Paired.length re;have hmap:xs.map (YVb H)=es.map Qr:=by
  refine ext_getElem (by simp[le]) fun i g1 g2=>?_
  have b1:i < xs.length:=by simpa using g1
  obtain⟨d,b,r,hd,ex,hb,_⟩:=Ywa re hent (Vb b1)
  simp only[getElem_map];rw[ex,ZMb hb];obtain⟨_,e⟩:=Vc.mp hd
  rw[e]
 refine⟨⟨_,SqT.of ht⟩,YIb xs (fun _=>true) (YVb H) (SqT.of ht) (Y4 (by omega)) (fun i x H2 R _ _ r=>r) (fun i x H2 R hi _ s r=>?_) fun D H2 hD s2 hd=>?_⟩
 ·obtain⟨d,b,r',_,rfl,hb,_⟩:=Ywa re hent hi
  walk_at "rd";exact⟨_,SqT.of (s _ _ hb),_,at0 _ _,by rw[ZMb hb]at r;exact r⟩
 rw[filter_eq_self.mpr (fun _ _=>rfl),hmap]at hd
 refine⟨D,es.map Qr,k,rfl,⟨hd,fun v hv=>?_,?_,by rw[Vr];omega⟩,YQ hk,fun H3 lo s3 hl h1 h2=>?_⟩
 ·obtain⟨d,hd,rfl⟩:=mem_map.mp hv
  exact YQ (hent d hd).key
 ·rw[pairwise_map]
  exact List.Pairwise.imp (fun {a b} h=>h.2.2) up
 rw[Vr]at hl;obtain⟨u1,u2⟩:=JHc hent hk up hl h1 h2;have s:=s2.trans s3;walk_at "rd";refine⟨_,.inr (SqT.of (s _ _ ht)),Zg (fun h=>?_) fun h=>?_⟩
 ·obtain⟨d,b,r,hd,ex,hb,hkd,_⟩:=Ywa re hent (Vb (show lo < xs.length by omega))
  refine⟨_,SqT.of (s _ _ ht),.ref b,by rw[<- ex];exact Zb (Vb (by omega)),b,rfl,_,SqT.of (s _ _ hb),_,at0 _ _,Qtb hkd hk,Zg (fun e=>?_) fun e=>?_⟩
  ·exact q _ _ s (u1 d hd e)
  ·exact q _ _ s (u2 fun d' hd' e'=>e (by rw[hd]at hd';cases hd';exact e'))
 ·exact q _ _ s (u2 fun d hd=>by have:=(Vc.mp hd).1;omega)
def Yj(d:Dt):Prop:=∃ k c,d=.t [.v k,.t c]/\Q6 k
theorem Yj.ent(h:Yj d):QFa d:=by obtain⟨k,c,rfl,hk⟩:=h;exact⟨k,_,rfl,hk⟩
inductive Qsa(u0_:W.Frag)(vs:List V)(H:Hp)(Q:VK)(E:XK):Prop
 | mk:∀ t xs,∀ at':Int,∀ k,vs=[.ref t,.int at',k]->H t=some (.tup xs)->Q6 k->((at' < 0/\Q .non H)\/∃ (i:Nat) (b:Addr) (k' cv:V),at'=(i:Int)/\xs[i]?=some (.ref b)/\H b=some (.tup [k',cv])/\Q6 k'/\Q (if k'=k then cv else .non) H)->Qsa u0_ vs H Q E
seal PE PT PW PA PS PSs PI PG QY PGs PO in
theorem ZNb(Z:Zs mg)(T:Tx K mg CT cs ob)(F:Fun K "cells_at" "cells_at" Q7a f fd):QF P w K mg base CX0 1 f fd ["rows","at","key"] (Qsa K):=by
 refine F.ok Zwb (fun vs H Q E h=>?_) (fun cdv A outer s H vs Q E hr h=>?_)
 ·walk_at "n"
 obtain⟨t,xs,at',k,rfl,ht,hk,hq⟩:=h;refine⟨_,(@Qa _ _ _ _ _ (QN (PW.pt (JOa (Qs JUa (pv 1) Qb (Qw _)) (QUa (Qs X0b (QA QI (QA QI (pv 0) (pv 1) (fun _ _=>rfl)) Qb (fun _ _=>rfl)) (pv 2) (Qw _))))) (Qg (Qm JL)) Qu)
  (Qg (Qm (QA QI (QA QI (pv 0) (pv 1) (fun _ _=>rfl)) Qb (fun _ _=>rfl))))),?_⟩
 refine Qn (σ:=[some (.ref t),some (.int at'),some k]) rfl ?_
 walk_at "rd"
 rcases hq with ⟨h,q⟩ | ⟨i,b,k',cv,rfl,hx,hb,hk',q⟩
 ·rw[if_pos h];exact q
 ·rw[if_neg (by omega)]
  refine⟨_,SqT.of ht,.ref b,Zb hx,b,rfl,_,SqT.of hb,_,at0 _ _,Qtb hk' hk,Zg (fun e=>?_) fun e=>?_⟩
  ·rw[if_neg (by simpa using e)]at q;exact q
  ·rw[if_pos (by simpa using e)]at q
   exact⟨_,SqT.of ht,.ref b,Zb hx,b,rfl,_,SqT.of hb,_,at1 _ _ _,q⟩
def Yoc(H:Hp)(es:List Dt)(k cv:V):Prop:=(∃ c,Dt.t [.v k,.t c]∈es/\TD H 5 (.t c) cv)\/((∀ d∈es,Qr d≠k)/\cv=.non)
def Zkc(st:StL)(k v:V)(ws:List Int):Prop:=(v=.non/\ws=[])\/∃ n,v=.int n/\Way ltK (Qt st) k n ws
structure XLb(es:List Dt):Prop where
 row:∀ d∈es,Yj d
 up:UpR ltK es
 len:es.length<=900
theorem Y7:∀ {l:Nat} {M part:List Dt},Tow QK tbl l M part->(∀ d∈M,Yj d)->UpR ltK M->(∀ d∈part,QFa d)/\UpR ltK part/\part.length<=M.length/\(1<=l->∀ d∈part,HdD d)
 | 0,M,part,t,h1,h2=>by
  rw[show part=M from t]
  exact⟨fun d hd=>(h1 d hd).ent,h2,Ve _,fun z=>by omega⟩
 | l+1,M,part,t,h1,h2=>by
  cases M with
  | nil =>
   have:=t.fst.1.mp rfl;subst this;exact⟨(fun d hd=>nomatch hd),List.Pairwise.nil,Ve _,fun _ d hd=>nomatch hd⟩
  | cons e r =>
   have ks:=t.keys;have hd:∀ d∈part,HdD d:=fun d hd=>by
    obtain⟨gs,a,b⟩:=t;obtain⟨p,hp,n,ed,_⟩:=b.mem hd;refine⟨_,n,ed,?_⟩
    have hk:Qr d∈Qr e::(r.map Qr).filter (fun k=>decide (l < QK k)):=by rw[<- ks];exact mem_map_of_mem hd
    rw[ed,JHa]at hk
    rcases mem_cons.mp hk with z | z
    ·rw[z];exact(h1 e (by simp)).ent.key
    ·obtain⟨x,hx,ex⟩:=mem_map.mp (mem_filter.mp z).1
     rw[<- ex];exact(h1 x (Vo _ hx)).ent.key
   refine⟨fun d h=>(hd d h).ent,?_,t.len0,fun _=>hd⟩
   have sub:(part.map Qr).Sublist ((e::r).map Qr):=by
    rw[ks,map_cons];exact List.Sublist.cons₂ _ filter_sublist
   have up:((e::r).map Qr).Pairwise ltK:=by rw[pairwise_map];exact h2
   have:=up.sublist sub;rw[pairwise_map]at this;exact this
theorem QG.find{p:Addr}(h:QG P w ob H p d1 d2 st c)(hm:(n,d)∈Qt st):∃ t,(n,d,t)∈st:=by
 obtain⟨⟨a,b,t⟩,m1,e1⟩:=mem_map.mp hm;injection e1 with x1 y1
 dsimp only at x1 y1;subst x1 y1;exact⟨t,m1⟩
theorem JIc{cs:Nat->Addr}{p:Addr}(hS:QG P w ob H p d1 d2 st c)(hm:(n,Zc l es)∈Qt st)(q:∀ a H',Qp H H'->H a=none->PgD ob H' a l es->Q (.ref a) H'):Q1 P w cs ob [.ref p,.int n] H Q E:=by
 obtain⟨t,ht⟩:=hS.find hm;refine⟨p,d1,d2,st,c,n,rfl,hS,fun l2 es2 t2 hm2 a H' s ha pg=>?_,fun z=>(z _ ht rfl).elim⟩
 obtain⟨el,ee⟩:=X6 (hS.fun_ ht hm2).1;subst el ee;exact q a H' s ha pg
theorem YC{K:W.Frag}{CT:Addr}{cs:Nat->Addr}{kk mm:Nat}{σ:St}{p:Addr}(T:Tx K mg CT cs ob)(M:MeV P w K mg base mm (ob 3) "page" (Q1 P w cs ob))(hk:mm<=kk)
 (hi:σ[i]?=some (some (.ref p))) (hj:σ[j]?=some (some (.int n))) (hS:QG P w ob H p d1 d2 st c) (hm:(n,Zc l es)∈Qt st) (q:∀ a H',Qp H H'->H a=none->PgD ob H' a l es->Q (.ref a) H'):Yda P w K mg base kk "page" (Xa i) (Q0b (Xa j) YIa) σ H Q E:=by
 obtain⟨dx,ho⟩:=hS.obj;refine X4 hi ho rfl (T.ob_ 3 (by decide)).cl (M.mono hk) (Zia hj ?_)
 simp only[YIa];exact JIc hS hm q
theorem QG.off_pg{p C dx t:Addr}{tw:Bool}(h:QG P w ob H p d1 d2 st c)(ha:H a=some (.ins C dx (pgF tw l t))):a∉[p,d1,d2]:=fun z=>by
 obtain⟨dx',ho⟩:=h.obj;simp only[mem_cons,not_mem_nil,or_false]at z
 rcases z with z | z | z
 ·rw[z,ho]at ha
  injection ha with ha
  injection ha with _ _ hf
  have:=congrArg (List.lookup ("level":Str)) hf;have e1:(stF d1 d2 c).lookup ("level":Str)=none:=rfl;have e2:(pgF tw l t).lookup ("level":Str)=some (.int l):=by cases tw <;> rfl
  rw[e1,e2]at this;cases this
 ·rw[z,h.num]at ha;cases ha
 ·rw[z,h.tol]at ha;cases ha
theorem QG.none_x{p:Addr}{c':Int}(_:QG P w ob H p d1 d2 st c)(s:QH [p,d1,d2] H H')(h':QG P w ob H' p d1 d2 st' c')(hb:H' b=none):H b=none:=by
 cases e:H b with
 | none=>rfl
 | some o =>
  have hn:b∉[p,d1,d2]:=fun z=>by
   obtain⟨dx',ho⟩:=h'.obj;simp only[mem_cons,not_mem_nil,or_false]at z
   rcases z with z | z | z
   ·rw[z,ho]at hb;cases hb
   ·rw[z,h'.num]at hb;cases hb
   ·rw[z,h'.tol]at hb;cases hb
  rw[s _ _ hn e]at hb;cases hb
theorem PgD.few{p:Addr}(hS:QG P w ob H p d1 d2 st c)(hm:(n,Zc l es)∈Qt st):es.length<=900:=by
 obtain⟨t,ht⟩:=hS.find hm;obtain⟨l3,k3,r3,es3,e3,_,h3⟩:=hS.sh _ ht;rw[(X6 e3).2];simp;omega
structure Mid(R M:List Dt)(k:V):Prop where
 ex:∃ A B,R=A++(M++B)/\(∀ a∈A,ltK (Qr a) k)/\∀ b∈B,ltK k (Qr b)
theorem Mid.refl(R:List Dt)(k:V):Mid R R k:=⟨[],[],by simp,(fun a h=>nomatch h),fun b h=>nomatch h⟩
theorem Mid.trans{N:List Dt}(h:Mid R M k)(h':Mid M N k):Mid R N k:=by
 obtain⟨A,B,e,h1,h2⟩:=h.ex;obtain⟨C,D,e',h3,h4⟩:=h'.ex;exact⟨A++C,D++B,by rw[e,e'];simp,fun a ha=>(Vl.mp ha).elim (h1 a) (h3 a),fun b hb=>(Vl.mp hb).elim (h4 b) (h2 b)⟩
theorem Mid.none_(h:Mid R M k)(n:∀ d∈M,Qr d≠k):∀ d∈R,Qr d≠k:=by
 obtain⟨A,B,e,h1,h2⟩:=h.ex;intro d hd z;rw[e]at hd
 rcases Vl.mp hd with y | y
 ·have:=h1 d y;rw[z]at this;exact ltK.irr _ this
 ·rcases Vl.mp y with y | y
  ·exact n d y z
  ·have:=h2 d y;rw[z]at this;exact ltK.irr _ this
theorem Mid.mem(h:Mid R M k){d:Dt}(hd:d∈M):d∈R:=by
 obtain⟨A,B,e,h1,h2⟩:=h.ex;rw[e];simp[hd]
theorem none_of{H0:Hp}(s:Qp H0 H1)(h:H1 b=none):H0 b=none:=by
 cases e:H0 b with
 | none=>rfl
 | some o=>rw[s _ _ e]at h;cases h
theorem XLb.mid(h:XLb R)(m:Mid R M k):(∀ d∈M,Yj d)/\UpR ltK M/\M.length<=900:=by
 obtain⟨A,B,e,_,_⟩:=m.ex;have up:=h.up;have l:=h.len;rw[e]at up l;simp only[Vs]at l;exact⟨fun d hd=>h.row d (m.mem hd),up.right.left,by omega⟩
theorem Yxa{l:Nat}{a b:List Dt}{h:Dt}(t:Tow QK tbl (l+1) M (a++h::b))(up:UpR ltK M)(le:ltK (Qr h) k\/Qr h=k)(hb:∀ x∈b,ltK k (Qr x)) :
 ∃ A N B n part,M=A++(N++B)/\Tow QK tbl (l+1) A a/\Tow QK tbl (l+1) B b/\h=ZQ (QS N) n/\(n,Zc (l:Int) part)∈tbl/\Tow QK tbl l N part/\N≠[]/\(A=[]\/l+1<=QK (QS N))/\(B=[]\/l+1<=QK (QS B))/\(∀ a∈A,ltK (Qr a) k)/\∀ b∈B,ltK k (Qr b):=by
 obtain⟨A,N,B,n,part,e,tA,tN,tB,eh,hm,tp,hN,h1,h2⟩:=t.at_;rw[eh,JHa]at le;rw[e]at up;refine⟨A,N,B,n,part,e,tA,tB,eh,hm,tp,hN,h1,h2,?_,?_⟩
 ·have u1:UpR ltK (A++N):=by rw[<- Vq]at up;exact up.left
  exact u1.ahead hN ltK.tr le
 ·refine up.right.behind ltK.tr ?_
  by_cases eB:B=[]
  ·exact .inl eB
  ·have hb0:=tB.ne eB
   cases b with
   | nil=>exact absurd rfl hb0
   | cons x r =>
    refine .inr ?_
    rw[<- tB.fst.2];exact hb x (by simp)
inductive Qub(P:Program)(w:World)(cs ob:Nat->Addr)(vs:List V)(H:Hp)(Q:VK)(E:XK):Prop
 | mk:∀ p d1 d2 st c v k es,vs=[.ref p,v,k]->QG P w ob H p d1 d2 st c->ZJ st es v->XLb es->Q6 k->(∀ r y H' cv ws,Qp H H'->H r=none->H' r=some (.tup [cv,.ref y])->H' y=some (.lst (ws.map V.int))->H y=none->Yoc H' es k cv->Zkc st k v ws->Q (.ref r) H')->Qub P w cs ob vs H Q E
seal PE PT PW PA PS PSs PI PG QY PGs PO in
theorem JJc(Z:Zs mg)(T:Tx K mg CT cs ob)(Jo:Cal P w K mg base 4 "last_up_to" ["entries","key"] (ZZ K))(J2b:Cal P w K mg base 1 "cells_at" ["rows","at","key"] (Qsa K))(Qx:MeV P w K mg base 5 (ob 3) "page" (Q1 P w cs ob))(F:Fun K "seek" "seek" JPb f fd):QF P w K mg base CX0 6 f fd ["pages","root","key"] (Qub P w cs ob):=by
 refine F.ok QAa (fun vs H Q E h=>?_) (fun cdv A outer s H vs Q E hr h=>?_)
 ·walk_at "n"
 obtain⟨p,d1,d2,st,c,v,k,es,rfl,hS,hT,hR,hk,q⟩:=h;refine⟨_,(@Qa _ _ _ _ _ (Ql (i:=3) QAa.nd rfl (Or.inl rfl) (Ji Qe))
  (@Qa _ _ _ _ _ (Ql (i:=4) QAa.nd rfl (Or.inl rfl) (pv 1))
  (@Qa _ _ _ _ _ (XV PassesOwn.never (Qs ZWc (pv 4) JL (Qw _)) (@Qa _ _ _ _ _ (ZK (Jja PySem.F.plainAttrs_list PySem.F.slot_list_append PySem.F.type_list_append Ja (pv 3) (Qf (pv 4) Qe)))
  (@Qa _ _ _ _ _ (Ql (i:=5) QAa.nd rfl (Or.inl rfl) (PE1.pe (Zi (k:=5) (pv 0) hr rfl (Qf (pv 4) Qe)) ZP))
  (@Qa _ _ _ _ _ (Ql (i:=6) QAa.nd rfl (Or.inl rfl) (Qo Jo (k:=5) hr (by decide) rfl (Qf (QW (pv 5) rfl) (Qf (pv 2) Qe))))
  (@Qa _ _ _ _ _ (QN (Qs Zk (QW (pv 5) rfl) Qb (Qw _)) (Qg (Qm (Zm (Qf (Qo J2b (k:=5) hr (by decide) rfl (Qf (QW (pv 5) rfl) (Qf (pv 6) (Qf (pv 2) Qe)))) (Qf (pv 3) Qe))))) Qu)
  (Qg (Ql (i:=4) QAa.nd rfl (Or.inl rfl) (QVb (Qs JZc (pv 6) Qb (Qw _)) (QA QI (QA QI (QW (pv 5) rfl) (pv 6) (fun _ _=>rfl)) Qb (fun _ _=>rfl)) JL))))))))
  (Qg (Qm (Zm (Qf JL (Qf (pv 3) Qe)))))))),?_⟩
 refine Qn (σ:=[some (.ref p),some v,some k,none,none,none,none]) rfl ?_
 walk_at "rd";refine⟨by decide,fun y hy=>?_⟩
 refine⟨fun m σ' H'=>∃ (nv:V) (ws:List Int) (x5 x6:Option V),σ'=[some (.ref p),some v,some k,some (.ref y),some nv,x5,x6]/\Qp H H'/\H' y=some (.lst (ws.map V.int))/\ws.length+m<=8 /\
  ((nv=.non/\(∀ d∈es,Qr d≠k)/\Zkc st k v ws)\/∃ n l M part,nv=.int n/\m=l+1/\(n,Zc ((l:Nat):Int) part)∈Qt st/\Tow QK (Qt st) l M part/\M≠[]/\Mid es M k/\∀ w',Way ltK (Qt st) k n w'->Zkc st k v (ws++w')),?_,?_⟩
 ·rcases hT with ⟨rfl,rfl⟩ | ⟨hne,top,L,kk,n,h6,ch,eL,rfl⟩
  ·exact⟨0,.non,[],none,none,rfl,Qh hy _,Qd,by simp,.inl ⟨rfl,(fun d hd=>nomatch hd),.inl ⟨rfl,rfl⟩⟩⟩
  ·obtain⟨part,hm,tp,_,_⟩:=(ch.toRoot hS.fn eL).page
   exact⟨top+1,.int n,[],none,none,rfl,Qh hy _,Qd,by simp;omega,.inr ⟨n,top,es,part,rfl,rfl,hm,tp,hne,Mid.refl _ _,fun w' hw=>.inr ⟨n,rfl,hw⟩⟩⟩
 rintro m σ' H' ⟨nv,ws,x5,x6,rfl,s1,hy1,lw,hcase⟩;walk_at "rd"
 rcases hcase with ⟨rfl,hno,hw⟩ | ⟨n,l,M,part,rfl,rfl,hm,tp,hM,hmid,hway⟩
 ·rw[if_neg (not_not_intro rfl)]
  exact⟨Z8,fun r hr=>q r y _ .non ws (s1.trans (Qh hr _)) (none_of s1 hr) Qd (Qh hr _ _ _ hy1) hy (.inr ⟨hno,rfl⟩) hw⟩
 rw[if_pos (fun z=>nomatch z)]
 refine⟨_,fun σ' H' h=>h,.inl ⟨rfl,_,SqL.of hy1⟩,_,hy1,QO (by rw[Vr];omega),?_⟩
 have s2:Qp H (upd H' y (.lst (ws.map V.int++[.int n]))):=Xxb s1 hy;have g2:upd H' y (.lst (ws.map V.int++[.int n])) y=some (.lst ((ws++[n]).map V.int)):=by rw[Qd,map_append];rfl
 generalize upd H' y (.lst (ws.map V.int++[.int n]))=H2 at s2 g2 ⊢;have hS2:=hS.same s2;obtain⟨dx,ho⟩:=hS2.obj;obtain⟨rowM,upM,lenM⟩:=hR.mid hmid;obtain⟨hent,up',lp,hhd⟩:=Y7 tp rowM upM;refine YC T Qx (by decide) rfl rfl hS2 hm fun pg H3 s3 hpg pgd=>?_
 obtain⟨tw,dxp,t,etw,hpa,ht⟩:=id pgd;obtain⟨mm,t',xs,em,e,ht',rt⟩:=ht.tup;cases e;obtain rfl:mm=6:=by omega
 have lxs:=Paired.length rt;refine Z9 T rfl hpa ⟨t,xs,part,k,rfl,ht',rt,hent,up',hk,by omega,fun H4 at' s4 hu=>?_⟩
 have hpa4:=s4 _ _ hpa;have s24:=s2.trans (s3.trans s4);have y4:=s4 _ _ (s3 _ _ g2);have rt4:=TDs.sameT rt s4.t;obtain⟨a,b,ep,ea,h1,h2⟩:=hu;refine Qoa T rfl hpa4 ⟨rfl,Zg (fun h0=>?_) fun h0=>?_⟩
 ·injection h0 with h0
  obtain rfl:l=0:=by omega
  obtain rfl:tw=false:=by rw[etw];rfl
  rw[show part=M from tp]at hm ep rt4 lxs
  refine Zu (T.ob_ 1 (by decide)) (by decide) rfl hpa4 rfl ?_
  have fin:∀ cv,Yoc H4 M k cv->[cv,V.ref y].length<=sizeLine/\∀ p:Addr,H4 p=none->Q (.ref p) (upd H4 p (.tup [cv,.ref y])):=fun cv hf=>by
   refine⟨Z8,fun r hr=>q r y _ cv (ws++[n]) (s24.trans (Qh hr _)) (none_of s24 hr) Qd (Qh hr _ _ _ y4) hy ?_ (hway [n] (.leaf hm))⟩
   rcases hf with ⟨c,hc,tc⟩ | ⟨hn,e⟩
   ·exact .inl ⟨c,hmid.mem hc,tc.same (Qh hr _)⟩
   ·exact .inr ⟨hmid.none_ hn,e⟩
  by_cases ea0:a=[]
  ·subst ea0
   refine⟨t,xs,at',k,rfl,s4 _ _ ht',hk,.inl ⟨by rw[ea];decide,fin _ (.inr ⟨fun d hd z=>?_,rfl⟩)⟩⟩
   rw[ep]at hd;have:=h2 d hd;rw[z]at this;exact ltK.irr _ this
  ·obtain⟨ini,x,rfl⟩:=Zp ea0
   have hx:M[ini.length]?=some x:=by rw[ep,Vq];simp
   have li:ini.length < xs.length:=by have:=(Vc.mp hx).1;omega
   have tx:=Qv rt4 hx (Vb li)
   obtain⟨kx,cx,rfl,hkx⟩:=rowM x (Vm hx);obtain⟨bb,v1,v2,eb,hb,w1,w2⟩:=TD.pair_of tx;obtain⟨_,rfl⟩:=w1.flat;refine⟨t,xs,at',k,rfl,s4 _ _ ht',hk,.inr ⟨ini.length,bb,v1,v2,by rw[ea];simp,by rw[Vb li,eb],hb,hkx,?_⟩⟩
   by_cases ek:v1=k
   ·rw[if_pos ek]
    subst ek;exact fin _ (.inl ⟨cx,Vm hx,w2⟩)
   ·rw[if_neg ek]
    refine fin _ (.inr ⟨fun d hd z=>?_,rfl⟩)
    rw[ep]at hd
    rcases Vl.mp hd with w | w
    ·rcases Vl.mp w with w | w
     ·have u:ltK (Qr d) v1:=by
       have:=upM;rw[ep]at this;exact this.left.across w (mem_singleton.mpr rfl)
      rw[z]at u
      rcases h1 _ (Vp _ (mem_singleton.mpr rfl)) with c | c
      ·exact ltK.irr _ (ltK.tr u c)
      ·exact ek c
     ·rw[mem_singleton.mp w]at z;exact ek z
    ·have:=h2 d w
     rw[z]at this;exact ltK.irr _ this
 ·have hl0:l≠0:=fun z=>h0 (by rw[z];rfl)
  obtain⟨l',rfl⟩:∃ l',l=l'+1:=⟨l - 1,by omega⟩
  obtain rfl:tw=true:=by rw[etw];exact decide_eq_true (by omega)
  refine⟨at',rfl,Zg (fun hi=>?_) fun hi=>?_⟩
  ·have ea0:a≠[]:=fun z=>by rw[z]at ea;simp at ea;omega
   obtain⟨ini,x,rfl⟩:=Zp ea0;have hx:part[ini.length]?=some x:=by rw[ep,Vq];simp
   have li:ini.length < xs.length:=by have:=(Vc.mp hx).1;omega
   have tx:=Qv rt4 hx (Vb li)
   have hle:=h1 x (Vp _ (mem_singleton.mpr rfl));rw[Vq]at ep;rw[ep]at tp hm;obtain⟨A,N,B,n',part',eM,tA,tB,ex,hm',tp',hN,_,_,hA,hB⟩:=Yxa tp upM hle h2;subst ex;obtain⟨bb,v1,v2,eb,hb,w1,w2⟩:=TD.pair_of tx;obtain⟨_,rfl⟩:=w2.flat;rw[JHa]at hle;refine Zu (T.ob_ 2 (by decide)) (by decide) rfl hpa4 rfl ⟨t,rfl,_,at',rfl,SqT.of (s4 _ _ ht'),.ref bb,by rw[ea,<- eb];simp;exact Zb (Vb li),bb,rfl,_,SqT.of hb,_,at1 _ _ _,l'+1,by omega,.int n',ws++[n],_,_,rfl,s24,y4,by simp;omega,.inr ⟨n',rfl,l',rfl,N,part',hm',tp',hN,hmid.trans ⟨A,B,eM,hA,hB⟩,fun w' hw=>?_⟩⟩
   have:=hway (n::w') (.go hm (fun z=>by rcases hle with c | c;exact ltK.irr _ (ltK.tr z c);rw[c]at z;exact ltK.irr _ z) h2 hw)
   rw[Vq];exact this
  ·have ea0:a=[]:=by
    cases a with
    | nil=>rfl
    | cons x r=>simp at ea;omega
   subst ea0;rw[nil_append]at ep;subst ep;refine⟨0,by omega,.non,ws++[n],_,_,rfl,s24,y4,by simp;omega,.inl ⟨rfl,hmid.none_ fun d hd z=>?_,hway [n] (.stop hm h2)⟩⟩
   have kf:ltK k (QS M):=by
    rw[<- tp.fst.2];have hne:=tp.ne hM;cases part with
    | nil=>exact absurd rfl hne
    | cons x r=>exact h2 x (by simp)
   have:=UpR.behind (M:=[]) (B:=M) upM ltK.tr (.inr kf) d hd;rw[z]at this;exact ltK.irr _ this
structure YWb(P:Program)(w:World)(ob:Nat->Addr)(H H':Hp)(p d1 d2:Addr)(st st':StL)(c':Int)(r:Addr)(l:Nat)(M hs:List Dt)(ys:List V):Prop where
 sx:QH [p,d1,d2] H H'
 fr:H r=none
 at_:H' r=some (.lst ys)
 ty:Paired (fun d v=>TD H' 6 d v) hs ys
 hd:∀ d∈hs,HdD d
 tow:Tow QK (Qt st') (l+1) M hs
 sA:QG P w ob H' p d1 d2 st' c'
 sub:∀ x∈Qt st,x∈Qt st'
section
variable{P:Program}{w:World}{ob:Nat->Addr}{H H0 H1:Hp}{p d1 d2 e:Addr}{st st1:StL}{c1:Int}{b:Bool}{xs:List V}{es M:List Dt}{l:Nat}{Q:VK}{E:XK}
theorem Yk(hS:QG P w ob H1 p d1 d2 st1 c1)(he:HE b H1 e xs)(re:Paired (fun d v=>TD H1 6 d v) es xs)(hent:∀ d∈es,QFa d)(lx:xs.length<=900)(few:st1.length+xs.length<=1000000)(t:Tow QK (Qt st1) l M es)(sx:QH [p,d1,d2] H H1)(sub:∀ x∈Qt st,x∈Qt st1)
 (q:∀ r H' st' c' hs ys,YWb P w ob H H' p d1 d2 st st' c' r l M hs ys->st'.length<=st1.length+xs.length->Q (.ref r) H') (fr:∀ r,H1 r=none->H r=none):QZ P w ob [.ref p,.int l,.ref e] H1 Q E :=
 ⟨p,d1,d2,st1,c1,l,e,b,xs,es,rfl,hS,he,re,hent,lx,few,fun r H' st' c' hs ys sx2 hr hr2 tys hd heads hS2 sub2 l2=>q r H' st' c' hs ys ⟨sx.trans sx2,fr r hr,hr2,tys,hd,(t.mono sub2).up heads,hS2,fun x hx=>sub2 x (sub x hx)⟩ l2⟩
end
theorem Jca{n:Nat}(h:n<=9000):n<=sizeLine:=Vj h (by rw[sizeLine_eq];decide)
section
variable{K:W.Frag}{H:Hp}{l l2 b:Addr}{xs zs bs:List V}{i j:Int}{v:V}{R:Addr->Hp->Prop}
theorem Qvb(R:Addr->Hp->Prop)(hl:H l=some (.lst xs))(hb:H b=some (.lst bs))(hl2:H l2=some (.lst zs))(lx:xs.length<=1000)(lz:zs.length<=1000)(lb:bs.length<=1000)(q:∀ r H',Qp H H'->H r=none->H' r=some (.lst (QU xs none (some i)++bs++QU zs (some j) none))->R r H') :
 ∃ x,SqL K H l x/\∀ p,H p=none->∃ x4,upd H p (.lst (QU x none (some i))) p=some (.lst x4)/\∃ x5,upd H p (.lst (QU x none (some i))) b=some (.lst x5)/\x4.length+x5.length<=sizeLine/\∀ p2,upd H p (.lst (QU x none (some i))) p2=none ->
  ∃ x6,SqL K (upd (upd H p (.lst (QU x none (some i)))) p2 (.lst (x4++x5))) l2 x6/\∀ p3,upd (upd H p (.lst (QU x none (some i)))) p2 (.lst (x4++x5)) p3=none ->
   ∃ x7,upd (upd (upd H p (.lst (QU x none (some i)))) p2 (.lst (x4++x5))) p3 (.lst (QU x6 (some j) none)) p2=some (.lst x7)/\∃ x8,upd (upd (upd H p (.lst (QU x none (some i)))) p2 (.lst (x4++x5))) p3 (.lst (QU x6 (some j) none)) p3=some (.lst x8)/\x7.length+x8.length<=sizeLine /\
    ∀ p4,upd (upd (upd H p (.lst (QU x none (some i)))) p2 (.lst (x4++x5))) p3 (.lst (QU x6 (some j) none)) p4=none->R p4 (upd (upd (upd (upd H p (.lst (QU x none (some i)))) p2 (.lst (x4++x5))) p3 (.lst (QU x6 (some j) none))) p4 (.lst (x7++x8))):=by
 have c1:=Zw xs none (some i);have c2:=Zw zs (some j) none;refine⟨xs,SqL.of hl,fun p hp=>⟨_,Qd,bs,Qh hp _ _ _ hb,Jca (by omega),fun p2 hp2=>?_⟩⟩
 have s2:=(Qh hp (.lst (QU xs none (some i)))).trans (Qh hp2 (.lst (QU xs none (some i)++bs)));refine⟨zs,SqL.of (s2 _ _ hl2),fun p3 hp3=>⟨_,Qh hp3 _ _ _ Qd,_,Qd,Jca (by rw[Vs];omega),fun p4 hp4=>?_⟩⟩
 have s3:=s2.trans (Qh hp3 (.lst (QU zs (some j) none)));exact q p4 _ (s3.trans (Qh hp4 _)) (none_of s3 hp4) Qd
theorem Qwb(R:Addr->Hp->Prop)(hl:H l=some (.lst xs))(lx:xs.length<=1000)(q:∀ r H',Qp H H'->H r=none->H' r=some (.lst (QU xs none (some i)++[v]++QU xs (some j) none))->R r H') :
 ∃ x,SqL K H l x/\∀ p,H p=none->[v].length<=sizeLine/\∀ p1,upd H p (.lst (QU x none (some i))) p1=none->∃ x4,upd (upd H p (.lst (QU x none (some i)))) p1 (.lst [v]) p=some (.lst x4)/\∃ x5,upd (upd H p (.lst (QU x none (some i)))) p1 (.lst [v]) p1=some (.lst x5)/\x4.length+x5.length<=sizeLine/\∀ p2,upd (upd H p (.lst (QU x none (some i)))) p1 (.lst [v]) p2=none ->
  ∃ x6,SqL K (upd (upd (upd H p (.lst (QU x none (some i)))) p1 (.lst [v])) p2 (.lst (x4++x5))) l x6/\∀ p3,upd (upd (upd H p (.lst (QU x none (some i)))) p1 (.lst [v])) p2 (.lst (x4++x5)) p3=none ->
   ∃ x7,upd (upd (upd (upd H p (.lst (QU x none (some i)))) p1 (.lst [v])) p2 (.lst (x4++x5))) p3 (.lst (QU x6 (some j) none)) p2=some (.lst x7)/\∃ x8,upd (upd (upd (upd H p (.lst (QU x none (some i)))) p1 (.lst [v])) p2 (.lst (x4++x5))) p3 (.lst (QU x6 (some j) none)) p3=some (.lst x8)/\x7.length+x8.length<=sizeLine /\
    ∀ p4,upd (upd (upd (upd H p (.lst (QU x none (some i)))) p1 (.lst [v])) p2 (.lst (x4++x5))) p3 (.lst (QU x6 (some j) none)) p4=none->R p4 (upd (upd (upd (upd (upd H p (.lst (QU x none (some i)))) p1 (.lst [v])) p2 (.lst (x4++x5))) p3 (.lst (QU x6 (some j) none))) p4 (.lst (x7++x8))):=by
 have c1:=Zw xs none (some i);have c2:=Zw xs (some j) none;have l1:[v].length=1:=rfl;refine⟨xs,SqL.of hl,fun p hp=>⟨JSb _,fun p1 hp1=>⟨_,Qh hp1 _ _ _ Qd,_,Qd,Jca (by omega),fun p2 hp2=>?_⟩⟩⟩
 have s2:=(Qh hp (.lst (QU xs none (some i)))).trans ((Qh hp1 (.lst [v])).trans (Qh hp2 (.lst (QU xs none (some i)++[v]))));refine⟨xs,SqL.of (s2 _ _ hl),fun p3 hp3=>⟨_,Qh hp3 _ _ _ Qd,_,Qd,Jca (by rw[Vs];omega),fun p4 hp4=>?_⟩⟩
 have s3:=s2.trans (Qh hp3 (.lst (QU xs (some j) none)));exact q p4 _ (s3.trans (Qh hp4 _)) (none_of s3 hp4) Qd
theorem Xsc(R:Addr->Hp->Prop)(hl:H l=some (.lst xs))(lx:xs.length<=1000)(q:∀ r H',Qp H H'->H r=none->H' r=some (.lst (QU xs none (some i)++QU xs (some j) none))->R r H') :
 ∃ x,SqL K H l x/\∀ p,H p=none->∃ x6,SqL K (upd H p (.lst (QU x none (some i)))) l x6/\∀ p3,upd H p (.lst (QU x none (some i))) p3=none ->
  ∃ x7,upd (upd H p (.lst (QU x none (some i)))) p3 (.lst (QU x6 (some j) none)) p=some (.lst x7)/\∃ x8,upd (upd H p (.lst (QU x none (some i)))) p3 (.lst (QU x6 (some j) none)) p3=some (.lst x8)/\x7.length+x8.length<=sizeLine /\
   ∀ p4,upd (upd H p (.lst (QU x none (some i)))) p3 (.lst (QU x6 (some j) none)) p4=none->R p4 (upd (upd (upd H p (.lst (QU x none (some i)))) p3 (.lst (QU x6 (some j) none))) p4 (.lst (x7++x8))):=by
 have c1:=Zw xs none (some i);have c2:=Zw xs (some j) none;refine⟨xs,SqL.of hl,fun p hp=>⟨xs,SqL.of (Qh hp _ _ _ hl),fun p3 hp3=>⟨_,Qh hp3 _ _ _ Qd,_,Qd,Jca (by omega),fun p4 hp4=>?_⟩⟩⟩
 have s3:=(Qh hp (.lst (QU xs none (some i)))).trans (Qh hp3 (.lst (QU xs (some j) none)));exact q p4 _ (s3.trans (Qh hp4 _)) (none_of s3 hp4) Qd
end
theorem Zlc{at':Int}(up:UpR ltK es)(h:XKb es k at') :
 (∀ (i:Nat) d,at'=(i:Int)->es[i]?=some d->Qr d=k->JS ltK k row es (es.take i++row::es.drop (i+1)))/\((∀ (i:Nat) d,at'=(i:Int)->es[i]?=some d->Qr d≠k)->∃ j:Nat,at'+1=(j:Int)/\j<=es.length/\JS ltK k row es (es.take j++row::es.drop j)):=by
 obtain⟨a,b,rfl,rfl,h1,h2⟩:=h
 constructor
 ·intro i d hi hd e
  have la:i < a.length:=by omega
  rw[getElem?_append_left la]at hd
  have ea:a=a.take i++[d]:=by
   have:a.drop i=[d]:=by
    rw[<- getElem_cons_drop la,drop_of_length_le (by omega)]
    rw[Vb la]at hd
    injection hd with hd
    rw[hd]
   rw[<- this,take_append_drop]
  have t1:(a++b).take i=a.take i:=by rw[take_append_of_le_length (by omega)]
  have t2:(a++b).drop (i+1)=b:=by rw[show i+1=a.length by omega,drop_left]
  rw[t1,t2];refine⟨a.take i,b,rfl,.inr ⟨d,?_,e⟩,fun x hx=>?_,h2⟩
  ·conv=>lhs;rw[ea]
   simp
  ·rw[ea,Vq]at up
   rw[<- e];exact up.across hx (by simp)
 ·intro hn
  refine⟨a.length,by omega,by simp,a,b,by simp,.inl rfl,fun x hx=>?_,h2⟩
  rcases h1 x hx with z | z
  ·exact z
  ·exfalso
   obtain⟨ini,last,rfl⟩:=Zp (xs:=a) (fun y=>by rw[y]at hx;cases hx)
   have hl:=hn ini.length last (by simp) (by rw[getElem?_append_left (by simp)];simp)
   rcases Vl.mp hx with y | y
   ·have u:=up.left.across y (mem_singleton.mpr rfl)
    rw[z]at u
    rcases h1 last (by simp) with v | v
    ·exact ltK.irr _ (ltK.tr u v)
    ·exact hl v
   ·rw[mem_singleton.mp y]at z;exact hl z
theorem JS.len{R':List Dt}(h:JS ltK k row R R'):R'.length<=R.length+1:=by
 obtain⟨A,C,e,e2,_⟩:=h
 rcases e2 with e2 | ⟨o,e2,_⟩ <;> rw[e,e2] <;> simp <;> omega
theorem Zmc{l:Nat}{part:List Dt}{at':Int}(t:Tow QK tbl (l+1) M part)(hM:M≠[])(up:UpR ltK M)(hu:XKb part k at') :
 ∃ ini h bs A N B n' part',part=ini++h::bs/\(if (0:Int) > at' then (0:Int) else at')=(ini.length:Int)/\M=A++(N++B)/\Tow QK tbl (l+1) A ini/\Tow QK tbl (l+1) B bs/\h=ZQ (QS N) n'/\(n',Zc (l:Int) part')∈tbl/\Tow QK tbl l N part'/\N≠[]/\(B=[]\/l+1<=QK (QS B))/\(∀ a∈A,ltK (Qr a) k)/\(∀ b∈B,ltK k (Qr b))/\(A=[]\/(l+1<=QK (QS N)/\(ltK (QS N) k\/QS N=k))):=by
 obtain⟨a,b,rfl,rfl,h1,h2⟩:=hu
 by_cases ea:a=[]
 ·subst ea
  cases b with
  | nil=>exact absurd rfl (t.ne hM)
  | cons h bs =>
   obtain⟨A,N,B,n,part',e,tA,tN,tB,eh,hm,tp,hN,c1,c2⟩:=(show Tow QK tbl (l+1) M ([]++h::bs) from t).at_
   have eA:A=[]:=tA.fst.1.mpr rfl;subst eA;rw[nil_append]at e;have kN:ltK k (QS N):=by have:=h2 h (by simp);rw[eh]at this;exact this
   refine⟨[],h,bs,[],N,B,n,part',rfl,rfl,by rw[e];rfl,tA,tB,eh,hm,tp,hN,c2,(fun a ha=>nomatch ha),fun b hb=>?_,.inl rfl⟩
   rw[e]at up;obtain⟨x,hx,ex⟩:=X8 hN;have:=up.across hx hb;rw[ex]at this;exact ltK.tr kN this
 ·obtain⟨ini,h,rfl⟩:=Zp ea
  rw[Vq]at t;have le:=h1 h (Vp _ (mem_singleton.mpr rfl));obtain⟨A,N,B,n,part',e,tA,tB,eh,hm,tp,hN,c1,c2,hA,hB⟩:=Yxa t up le h2;refine⟨ini,h,b,A,N,B,n,part',by rw[Vq];rfl,?_,e,tA,tB,eh,hm,tp,hN,c2,hA,hB,?_⟩
  ·rw[Vs,length_singleton,if_neg (by omega)];omega
  ·rw[eh,JHa]at le
   exact c1.imp_right fun z=>⟨z,le⟩
inductive XF(u0_:W.Frag)(vs:List V)(H:Hp)(Q:VK)(E:XK):Prop
 | mk:∀ l xs es,∀ at':Int,∀ rb row k,vs=[.ref l,.int at',.ref rb]->H l=some (.lst xs)->Paired (fun d v=>TD H 6 d v) es xs->(∀ d∈es,Yj d)->UpR ltK es->TD H 6 row (.ref rb)->Yj row->Qr row=k->XKb es k at'->xs.length<=800->(∀ r H' ys es',Qp H H'->H r=none->H' r=some (.lst ys)->Paired (fun d v=>TD H' 6 d v) es' ys->JS ltK k row es es'->ys.length<=xs.length+1->Q (.ref r) H')->XF u0_ vs H Q E
seal PE PT PW PA PS PSs PI PG QY PGs PO in
theorem Qxb(Z:Zs mg)(T:Tx K mg CT cs ob)(F:Fun K "rows_with" "rows_with" Qba f fd):QF P w K mg base CX0 1 f fd ["rows","at","row"] (XF K):=by
 refine F.ok Qeb (fun vs H Q E h=>?_) (fun cdv A outer s H vs Q E hr h=>?_)
 ·walk_at "n"
 obtain⟨l,xs,es,at',rb,row,k,rfl,hl,re,hrow,up,tr,hr0,ek,hu,lx,q⟩:=h;refine⟨_,(@Qa _ _ _ _ _ (QN (PW.pt (YE (Qs JZc (pv 1) Qb (Qw _)) (Jv (Qs Zk (QA QI (QA Q2 (pv 0) (pv 1) (fun _ _=>rfl)) Qb (fun _ _=>rfl)) (QA QI (pv 2) Qb (fun _ _=>rfl)) (Qw _))))) (Qg (Qm (Qk ZW (Qk ZW (Q5 Zo (pv 0) Zn (Zh (pv 1))) (Ji (Qf (pv 2) Qe))) (Q5 Zo (pv 0) (Zh (Qk Q9 (pv 1) Qb)) Zn)))) Qu)
  (Qg (Qm (Qk ZW (Qk ZW (Q5 Zo (pv 0) Zn (Zh (Qk Q9 (pv 1) Qb))) (Ji (Qf (pv 2) Qe))) (Q5 Zo (pv 0) (Zh (Qk Q9 (pv 1) Qb)) Zn))))),?_⟩
 refine Qn (σ:=[some (.ref l),some (.int at'),some (.ref rb)]) rfl ?_
 walk_at "rd";have le:=Paired.length re;obtain⟨u1,u2⟩:=Zlc (row:=row) up hu;obtain⟨kr,cr,erow,hkr⟩:=hr0;obtain⟨rb',v1,v2,e1,hrb,w1,w2⟩:=TD.pair_of (erow ▸ tr);cases e1;obtain⟨_,ev1⟩:=w1.flat;have ek1:v1=k:=by rw[ev1,<- ek,erow];rfl
 have skip:(∀ (i:Nat) d,at'=(i:Int)->es[i]?=some d->Qr d≠k)->∀ r H',Qp H H'->H r=none->H' r=some (.lst (QU xs none (some (at'+1))++[.ref rb]++QU xs (some (at'+1)) none))->Q (.ref r) H':=fun hn r H' s hr g=>by
  obtain⟨j,ej,lj,pj⟩:=u2 hn;rw[ej,XJb,ZKb,Vq]at g;refine q r H' _ _ s hr g (QC (ZN j (TDs.sameT re s.t)) (.cons (tr.same s) (Zx j (TDs.sameT re s.t)))) pj (by simp;omega)
 refine Zg (fun h0=>?_) fun h0=>?_
 ·obtain⟨i,ei⟩:∃ i:Nat,at'=(i:Int):=⟨at'.toNat,by omega⟩
  have hi:i < xs.length:=by
   obtain⟨a,b,e,ea,_⟩:=hu;have:es.length=a.length+b.length:=by rw[e,Vs]
   omega
  obtain⟨d,bb,r',hd,ex,hb,hkd,_⟩:=Ywa re (fun d hd=>(hrow d hd).ent) (Vb hi)
  refine⟨xs,SqL.of hl,.ref bb,by rw[ei,<- ex];exact Zb (Vb hi),bb,rfl,_,SqT.of hb,_,at0 _ _,_,SqT.of hrb,_,at0 _ _,Qtb hkd (by rw[ev1];exact hkr),Zg (fun e=>?_) fun e=>?_⟩
  ·refine Qwb (fun r H'=>Q (.ref r) H') hl (by omega) fun r H' s hr g=>?_
   rw[ei,show(i:Int)+1=((i+1:Nat):Int) by omega,XJb,ZKb,Vq]at g
   exact q r H' _ _ s hr g (QC (ZN i (TDs.sameT re s.t)) (.cons (tr.same s) (Zx (i+1) (TDs.sameT re s.t)))) (u1 i d ei hd (by rw[e,ek1])) (by simp;omega)
  ·exact Qwb (fun r H'=>Q (.ref r) H') hl (by omega) (skip fun i' d' ei' hd' z=>e (by
    obtain rfl:i'=i:=by omega
    rw[hd]at hd';cases hd';rw[ek1];exact z))
 ·exact Qwb (fun r H'=>Q (.ref r) H') hl (by omega) (skip fun i' d' ei' hd' z=>h0 (by omega))
inductive Qta(P:Program)(w:World)(_cs ob:Nat->Addr)(n:Nat)(vs:List V)(H:Hp)(Q:VK)(E:XK):Prop
 | mk:∀ p d1 d2 st c,∀ m:Int,∀ l:Nat,∀ part M rb row k,vs=[.ref p,.int m,.ref rb]->QG P w ob H p d1 d2 st c->(m,Zc (l:Int) part)∈Qt st->Tow QK (Qt st) l M part->M≠[]->(∀ d∈M,Yj d)->UpR ltK M->M.length<=800->l<=n->TD H 6 row (.ref rb)->Yj row->Qr row=k->st.length+(l+1) * (M.length+1)<=1000000->(∀ r H' st' c' M' hs ys,YWb P w ob H H' p d1 d2 st st' c' r l M' hs ys->JS ltK k row M M'->st'.length<=st.length+(l+1) * (M.length+1)->Q (.ref r) H')->Qta P w _cs ob n vs H Q E
def JB(P:Program)(w:World)(_cs ob:Nat->Addr):Nat->Sp
 | 0=>fun _ _ _ _=>False
 | n+1=>Qta P w _cs ob n
seal PE PT PW PA PS PSs PI PG QY PGs PO in
theorem Y2a(Z:Zs mg)(T:Tx K mg CT cs ob)(Jo:Cal P w K mg base 4 "last_up_to" ["entries","key"] (ZZ K))(Q3:Cal P w K mg base 5 "heads_of" ["pages","level","entries"] (QZ P w ob))(ZOb:Cal P w K mg base 1 "rows_with" ["rows","at","row"] (XF K))(Qx:MeV P w K mg base 5 (ob 3) "page" (Q1 P w cs ob)){n:Nat}(IH:Cal P w K mg base (6+n) "heads_with" ["pages","number","row"] (JB P w cs ob n))(F:Fun K "heads_with" "heads_with" Xx f fd):QF P w K mg base CX0 (6+n+1) f fd ["pages","number","row"] (JB P w cs ob (n+1)):=by
 refine F.ok ZF (fun vs H Q E h=>?_) (fun cdv A outer s H vs Q E hr h=>?_)
 ·walk_at "n"
 obtain⟨p,d1,d2,st,c,m,l,part,M,rb,row,k,rfl,hS,hm,tw,hM,hrow,up,lM,hl,trow,hr0,ek,few,q⟩:=h;refine⟨_,(@Qa _ _ _ _ _ (Ql (i:=3) ZF.nd rfl (Or.inl rfl) (PE1.pe (Zi (k:=(6+n)) (pv 0) hr rfl (Qf (pv 1) Qe)) ZP))
  (@Qa _ _ _ _ _ (Ql (i:=4) ZF.nd rfl (Or.inl rfl) (Qo Jo (k:=(6+n)) hr (by omega) rfl (Qf (QW (pv 3) rfl) (Qf (QA QI (pv 2) Qb (fun _ _=>rfl)) Qe))))
  (@Qa _ _ _ _ _ (QN (Qs Zk (QW (pv 3) rfl) Qb (Qw _)) (Qg (Qm (Qo Q3 (k:=(6+n)) hr (by omega) rfl (Qf (pv 0) (Qf Qb (Qf (Qo ZOb (k:=(6+n)) hr (by omega) rfl (Qf (Zr Zz rfl (Z.list) JQ (Qf (QW (pv 3) rfl) Qe)) (Qf (pv 4) (Qf (pv 2) Qe)))) Qe)))))) Qu)
  (@Qa _ _ _ _ _ (Ql (i:=5) ZF.nd rfl (Or.inl rfl) (Qz (Xfa rfl) rfl (Z.max) Qjc (Qf (pv 4) (Qf Qb Qe))))
  (@Qa _ _ _ _ _ (Ql (i:=6) ZF.nd rfl (Or.inl rfl) (Zr Zz rfl (Z.list) JQ (Qf (QW (pv 3) rfl) Qe)))
  (@Qa _ _ _ _ _ (Ql (i:=7) ZF.nd rfl (Or.inl rfl) (Qo IH (k:=(6+n)) hr (by omega) rfl (Qf (pv 0) (Qf (QA QI (QA Q2 (pv 6) (pv 5) (fun _ _=>rfl)) Qb (fun _ _=>rfl)) (Qf (pv 2) Qe)))))
  (Qg (Qm (Qo Q3 (k:=(6+n)) hr (by omega) rfl (Qf (pv 0) (Qf (QW (pv 3) rfl) (Qf (Qk ZW (Qk ZW (Q5 Zo (pv 6) Zn (Zh (pv 5))) (pv 7)) (Q5 Zo (pv 6) (Zh (Qk Q9 (pv 5) Qb)) Zn)) Qe)))))))))))),?_⟩
 refine Qn (σ:=[some (.ref p),some (.int m),some (.ref rb),none,none,none,none,none]) rfl ?_
 walk_at "rd";obtain⟨kr,cr,erow,hkr⟩:=id hr0;obtain⟨rb',v1,v2,e1,hrb,w1,w2⟩:=TD.pair_of (erow ▸ trow);cases e1;obtain⟨_,ev1⟩:=w1.flat;have ek1:v1=k:=by rw[ev1,<- ek,erow];rfl
 have hk:Q6 k:=by rw[<- ek1,ev1];exact hkr
 rw[ek1]at hrb;obtain⟨hent,up',lp,hhd⟩:=Y7 tw hrow up;refine YC T Qx (by omega) rfl rfl hS hm fun pg H1 s1 hpg pgd=>?_
 obtain⟨twg,dxp,t,etw,hpa,ht⟩:=id pgd;obtain⟨mm,t',xs,em,e,ht',rt⟩:=ht.tup;cases e;obtain rfl:mm=6:=by omega
 have lxs:=Paired.length rt;refine Z9 T rfl hpa ⟨_,SqT.of (s1 _ _ hrb),k,at0 _ _,t,xs,part,k,rfl,ht',rt,hent,up',hk,by omega,fun H2 at' s2 hu=>?_⟩
 have hpa2:=s2 _ _ hpa;have s12:=s1.trans s2;have rt2:=TDs.sameT rt s2.t;have hS2:=hS.same s12;refine Qoa T rfl hpa2 ⟨rfl,Zg (fun h0=>?_) fun h0=>?_⟩
 ·injection h0 with h0
  obtain rfl:l=0:=by omega
  obtain rfl:twg=false:=by rw[etw];rfl
  have ep:part=M:=tw;subst ep;refine Zu (T.ob_ 1 (by decide)) (by decide) rfl hpa2 rfl ⟨t,rfl,xs,.inr (SqT.of (s2 _ _ ht')),fun l1 hl1=>?_⟩
  have s3:=Qh hl1 (.lst xs);have g3:upd H2 l1 (.lst xs) l1=some (.lst xs):=Qd;generalize upd H2 l1 (.lst xs)=H3 at s3 g3 ⊢;have s13:=s12.trans s3;refine⟨l1,xs,part,at',rb,row,k,rfl,g3,TDs.sameT rt2 s3.t,hrow,up,trow.same s13,hr0,ek,hu,by omega,fun r H4 ys es' s4 hr4 g4 re4 hput lys=>?_⟩
  have s14:=s13.trans s4;refine Yk (l:=0) (b:=false) (hS.same s14) g4 re4 (fun d hd=>?_) (by omega) (by omega) (show Tow QK (Qt st) 0 es' es' from rfl) (s14.x _) (fun x h=>h) (fun r5 H5 st5 c5 hs5 ys5 h5 l5=>q r5 H5 st5 c5 es' hs5 ys5 h5 hput (by simp;omega)) fun r hr=>none_of s14 hr
  rcases(hput.mem ltK.irr d).mp hd with z | z
  ·rw[z];exact hr0.ent
  ·exact hent d z.1
 ·have hl0:l≠0:=fun z=>h0 (by rw[z];rfl)
  obtain⟨l',rfl⟩:∃ l',l=l'+1:=⟨l - 1,by omega⟩
  obtain rfl:twg=true:=by rw[etw];exact decide_eq_true (by omega)
  obtain⟨ini,h,bs,A,N,B,n',part',ep,ew,eM,tA,tB,eh,hm',tp',hN,cB,hA,hB,cA⟩:=Zmc tw hM up hu;subst eh;have hx:part[ini.length]?=some (ZQ (QS N) n'):=by rw[ep];simp
  have li:ini.length < xs.length:=by have:=(Vc.mp hx).1;omega
  have lM:M.length=A.length+(N.length+B.length):=by rw[eM];simp
  have lpt:part.length=ini.length+(bs.length+1):=by rw[ep];simp
  have lA:=tA.len0;have lB:=tB.len0;refine⟨at',0,⟨rfl,rfl⟩,?_⟩
  rw[ew];refine Zu (T.ob_ 2 (by decide)) (by decide) rfl hpa2 rfl ⟨t,rfl,xs,.inr (SqT.of (s2 _ _ ht')),fun l1 hl1=>?_⟩
  have s3:=Qh hl1 (.lst xs);have g3:upd H2 l1 (.lst xs) l1=some (.lst xs):=Qd;generalize upd H2 l1 (.lst xs)=H3 at s3 g3 ⊢;have s13:=s12.trans s3;have rt3:=TDs.sameT rt2 s3.t;have tx:=Qv rt3 hx (Vb li)
  obtain⟨bb,u1,u2,eb,hb,x1,x2⟩:=TD.pair_of tx;obtain⟨_,rfl⟩:=x2.flat;have bnd:(l'+1) * (N.length+1)<=(l'+1) * (M.length+1):=Nat.mul_le_mul_left _ (by omega)
  have bnd2:(l'+1+1) * (M.length+1)=(l'+1) * (M.length+1)+(M.length+1):=Nat.succ_mul _ _;obtain⟨n0,rfl⟩:∃ n0,n=n0+1:=⟨n - 1,by omega⟩
  have rowN:∀ d∈N,Yj d:=fun d hd=>hrow d (by rw[eM];simp[hd])
  have upN:UpR ltK N:=by rw[eM]at up;exact up.right.left
  refine⟨xs,SqL.of g3,.ref bb,by rw[<- eb];exact Zb (Vb li),bb,rfl,_,SqT.of hb,_,at1 _ _ _,p,d1,d2,st,c,n',l',part',N,rb,row,k,rfl,hS.same s13,hm',tp',hN,rowN,upN,by omega,by omega,trow.same s13,hr0,ek,by omega,fun r7 H7 st7 c7 N' hs7 ys7 h7 hput l7=>?_⟩
  have sx7:QH [p,d1,d2] H H7:=(s13.x _).trans h7.sx;have hS3:=hS.same s13;have t37:=Jn hS3 h7.sx;have hpa7:=h7.sx _ _ (hS3.off_pg (s3 _ _ hpa2)) (s3 _ _ hpa2);have g7:=hS3.lst h7.sx g3;have rt7:=TDs.sameT rt3 t37;refine Zu (T.ob_ 2 (by decide)) (by decide) rfl hpa7 rfl ?_
  walk_at "rd";have ly7:ys7.length<=N.length+1:=by
   have h1:=Paired.length h7.ty;have h2:=h7.tow.len0;have h3:=JS.len hput
   omega
  refine Qvb (fun r H'=>QZ P w ob [V.ref p,V.int ((l'+1:Nat):Int),V.ref r] H' Q E0) g7 h7.at_ g7 (by omega) (by omega) (by omega) fun r8 H8 s8 hr8 g8=>?_
  rw[show(ini.length:Int)+1=((ini.length+1:Nat):Int) by omega,XJb,ZKb]at g8
  have rt8:=TDs.sameT rt7 s8.t;have ei:part.take ini.length=ini:=by rw[ep];simp
  have eb8:part.drop (ini.length+1)=bs:=by rw[ep];simp
  have ri:=ZN ini.length rt8;have rb8:=Zx (ini.length+1) rt8;rw[ei]at ri;rw[eb8]at rb8;have re8:=QC (QC ri (TDs.sameT h7.ty s8.t)) rb8;have lr:=Paired.length re8;simp only[Vs]at lr;have tow8:Tow QK (Qt st7) (l'+1) (A++(N'++B)) (ini++hs7++bs):=by
   rw[Vq];refine(tA.mono h7.sub).mid h7.tow (tB.mono h7.sub) ?_ cB
   rcases cA with z | ⟨z1,z2⟩
   ·exact .inl z
   ·refine .inr (.inr ?_)
    rw[hput.fst ltK.irr ltK.tr ek hN z2];exact z1
  refine Yk (b:=false) (h7.sA.same s8) g8 re8 (fun d hd=>?_) (by rw[<- Paired.length re8];simp only[Vs];have:=Paired.length h7.ty;omega) (by rw[<- Paired.length re8];simp only[Vs];have:=Paired.length h7.ty;omega) tow8 (sx7.trans (s8.x _)) h7.sub (fun r9 H9 st9 c9 hs9 ys9 h9 l9=>?_) fun r hr=>?_
  ·rcases Vl.mp hd with z | z
   ·rcases Vl.mp z with z | z
    ·exact hent d (by rw[ep];simp[z])
    ·exact(h7.hd d z).ent
   ·exact hent d (by rw[ep];simp[z])
  ·refine q r9 H9 st9 c9 (A++(N'++B)) hs9 ys9 h9 (by rw[eM];exact hput.mid hA hB) ?_
   rw[<- Paired.length re8]at l9;simp only[Vs]at l9;have:=Paired.length h7.ty
   omega
  ·exact hS.none_x sx7 h7.sA (none_of s8 hr)
theorem Znc{top:Nat}(r:Y2 QK tbl R top n):top<=6:=by
 rcases Nat.lt_or_ge 6 top with h | h
 ·exfalso
  obtain⟨k,t⟩:=r.one;obtain⟨L,h0,h1,h2⟩:=t.levels;have t7:=Yc h0 h2 7 (by omega)
  have l7:=r.two 7 _ (by omega) (by omega) t7
  rw[t7.many (t.ne' (by simp))]at l7
  have:((R.map Qr).tail.filter fun k=>decide (6 < QK k))=[]:=filter_eq_nil_iff.mpr fun k _ z=>by
   have:=Xqc k;have:=of_decide_eq_true z
   omega
  rw[this]at l7;simp at l7
 ·omega
theorem ZJ.root{p:Addr}(hS:QG P w ob H p d1 d2 st c)(h:ZJ st es (.int n)):∃ top,top<=6/\Y2 QK (Qt st) es top n:=by
 rcases h with ⟨_,e⟩ | ⟨hne,top,L,k,n',h6,ch,eL,e⟩
 ·cases e
 ·cases e;exact⟨top,h6,ch.toRoot hS.fn eL⟩
theorem XHa{top:Nat}(r:Y2 QK (Qt st) es top n):ZJ st es (.int n):=by
 obtain⟨L,k,ch,e⟩:=r.chain;obtain⟨part,_,_,_,hne⟩:=r.page;exact .inr ⟨hne,top,L,k,n,Znc r,ch,e,rfl⟩
theorem Ups.root{hs:List Dt}{m:Nat}(f:Fn tbl)(t:Tow QK tbl (j+1) R hs)(two:∀ i gs,1<=i->i<=j->Tow QK tbl i R gs->1 < gs.length)(u:Ups QK tbl j hs m [ZQ k n]):Y2 QK tbl R m n:=by
 have key:∀ {m above},Ups QK tbl j hs m above->Tow QK tbl (m+1) R above/\∀ i gs,1<=i->i<=m->Tow QK tbl i R gs->1 < gs.length:=by
  intro m above u
  induction u with
  | refl=>exact⟨t,two⟩
  | @snoc m' hs1 hs2 u h1 h2 ih =>
   refine⟨⟨hs1,ih.1,h2⟩,fun i gs i1 i2 ti=>?_⟩
   by_cases e:i=m'+1
   ·subst e;rw[ti.det f ih.1];exact h1
   ·exact ih.2 i gs i1 (by omega) ti
 exact⟨⟨k,(key u).1⟩,(key u).2⟩
inductive Qyb(P:Program)(w:World)(_cs ob:Nat->Addr)(vs:List V)(H:Hp)(Q:VK)(E:XK):Prop
 | mk:∀ p d1 d2 st c v k cv cd es,vs=[.ref p,v,k,cv]->QG P w ob H p d1 d2 st c->ZJ st es v->XLb es->es.length<=700->Q6 k->TD H 5 (.t cd) cv->st.length+16 * (es.length+2)<=1000000->(∀ H' st' c' v' es',QH [p,d1,d2] H H'->QG P w ob H' p d1 d2 st' c'->(∀ x∈Qt st,x∈Qt st')->st'.length<=st.length+16 * (es.length+2)->JS ltK k (.t [.v k,.t cd]) es es'->ZJ st' es' v'->Q v' H')->Qyb P w _cs ob vs H Q E
seal PE PT PW PA PS PSs PI PG QY PGs PO in
theorem Xtc(Z:Zs mg)(T:Tx K mg CT cs ob)(Jba:Cal P w K mg base 6 "crowned" ["pages","level","heads"] (XE P w ob))(Qzb:JDb P w K mg base 7 "built" ["pages","rows"] (ZMa P w cs ob))(QAb:∀ n,Cal P w K mg base (6+n) "heads_with" ["pages","number","row"] (JB P w cs ob n))(XG:MeV P w K mg base 4 (ob 3) "card" (YO P w cs ob))(F:Fun K "put" "put" Zcc f fd):QF P w K mg base (CX1 P w) 15 f fd ["pages","root","key","cells"] (Qyb P w cs ob):=by
 refine F.ok1 JQb (fun vs H Q E h=>?_) (fun cdv A outer s H vs Q E hr h=>?_)
 ·walk_at "n"
 obtain⟨p,d1,d2,st,c,v,k,cv,cd,es,rfl,hS,hT,hR,l7,hk,tc,few,q⟩:=h;refine⟨_,(@Qa _ _ _ _ _ (Ql (i:=4) JQb.nd rfl (Or.inl rfl) (Zm (Qf (pv 2) (Qf (pv 3) Qe))))
  (@Qa _ _ _ _ _ (QN (Qs XPa (pv 1) JL (Qw _)) (Qg (Qm (PE1.pe (Zza Qzb (k:=14) hr (by decide) rfl rfl (Qf (pv 0) (Qf (Ji (Qf (pv 4) Qe)) Qe))) Yt))) Qu)
  (@Qa _ _ _ _ _ (Ql (i:=5) JQb.nd rfl (Or.inl rfl) (QA QI (PE1.pe (Zi (k:=14) (pv 0) hr rfl (Qf (pv 1) Qe)) Yt) Qb (fun _ _=>rfl)))
  (Qg (Qm (Qo Jba (k:=14) hr (by decide) rfl (Qf (pv 0) (Qf (pv 5) (Qf (Qo (QAb 8) (k:=14) hr (by decide) rfl (Qf (pv 0) (Qf (pv 1) (Qf (pv 4) Qe)))) Qe))))))))),?_⟩
 refine Qn (σ:=[some (.ref p),some v,some k,some cv,none,none]) rfl ?_
 walk_at "rd";refine⟨Z8,fun rb hrb=>?_⟩
 have s1:=Qh hrb (.tup [k,cv]);have g1:upd H rb (.tup [k,cv]) rb=some (.tup [k,cv]):=Qd;generalize upd H rb (.tup [k,cv])=H1 at s1 g1 ⊢;have trow:TD H1 6 (.t [.v k,.t cd]) (.ref rb):=TD.pair g1 (.ofV (ZGb hk)) (tc.same s1);have hrow:Yj (.t [.v k,.t cd]):=⟨k,cd,rfl,hk⟩;have hS1:=hS.same s1;refine Zg (fun hv=>?_) fun hv=>?_
 ·subst hv
  obtain rfl:es=[]:=by
   rcases hT with ⟨e,_⟩ | ⟨_,_,_,_,_,_,_,_,e⟩
   ·exact e
   ·cases e
  refine⟨JSb _,fun l1 hl1=>?_⟩
  have s2:=Qh hl1 (.lst [.ref rb]);have g2:upd H1 l1 (.lst [.ref rb]) l1=some (.lst [.ref rb]):=Qd;generalize upd H1 l1 (.lst [.ref rb])=H2 at s2 g2 ⊢;simp only[length_nil]at few;refine⟨p,d1,d2,st,c,l1,_,[.t [.v k,.t cd]],rfl,hS.same (s1.trans s2),g2,.cons (trow.same s2) .nil,(fun d hd=>by rw[mem_singleton.mp hd];exact hrow.ent),by simp,by simp;omega,.inl ⟨pairwise_singleton _ _,fun H3 st3 c3 v3 sx3 hS3 sub3 l3 ht3=>?_⟩⟩
  exact q H3 st3 c3 v3 [.t [.v k,.t cd]] (((s1.trans s2).x _).trans sx3) hS3 sub3 (by simp at l3 ⊢;omega) ⟨[],[],rfl,.inl rfl,(fun a ha=>nomatch ha),fun a ha=>nomatch ha⟩ ht3
 ·obtain⟨n,rfl⟩:∃ n,v=.int n:=by
   rcases hT with ⟨_,e⟩ | ⟨_,_,_,_,n,_,_,_,e⟩
   ·exact absurd e hv
   ·exact⟨n,e⟩
  obtain⟨top,h6,rt⟩:=hT.root hS;obtain⟨part,hm,tp,_,hne⟩:=rt.page;obtain⟨dx,ho⟩:=hS1.obj;obtain⟨t0,ht0⟩:=hS.find hm;refine X4 rfl ho rfl (T.ob_ 3 (by decide)).cl (XG.mono (by decide)) ⟨p,d1,d2,st,c,n,rfl,hS1,fun l2 k2 r2 es2 t2 hm2 a H2 s2 ha td2=>?_,fun z=>(z _ ht0 rfl).elim⟩
  obtain⟨el,_⟩:=X6 (hS.fun_ ht0 hm2).1;subst el;obtain⟨a',u1,u2,ea,hat,x1,x2⟩:=TD.pair_of td2;cases ea;obtain⟨_,rfl⟩:=x1.flat;have s12:=s1.trans s2;have b1:(top+1) * (es.length+1)<=7 * (es.length+1):=Nat.mul_le_mul_right _ (by omega)
  refine⟨a,rfl,_,SqT.of hat,_,at0 _ _,p,d1,d2,st,c,n,top,part,es,rb,_,k,rfl,hS.same s12,hm,tp,hne,hR.row,hR.up,by omega,(show top<=7 by omega),trow.same s2,hrow,rfl,by omega,fun r3 H3 st3 c3 es' hs3 ys3 h3 hput l3=>?_⟩
  have le':=JS.len hput;have l0:=h3.tow.len0;have ly:=Paired.length h3.ty;have hne':es'≠[]:=fun z=>by
   have:=(hput.mem ltK.irr (.t [.v k,.t cd])).mpr (.inl rfl);rw[z]at this;cases this
  have hsne:=h3.tow.ne hne';refine⟨p,d1,d2,st3,c3,r3,hs3,ys3,top,rfl,h6,h3.sA,h3.at_,h3.ty,h3.hd,by omega,by omega,fun H4 st4 c4 m above v4 sx4 hS4 sub4 l4 ups hm7 hv4=>?_⟩
  rcases hv4 with ⟨z,_⟩ | ⟨_,k4,n4,rfl,rfl⟩
  ·exact absurd z hsne
  refine q H4 st4 c4 (.int n4) es' ((s12.x _).trans (h3.sx.trans sx4)) hS4 (fun x hx=>sub4 x (h3.sub x hx)) (by omega) hput (XHa (Ups.root hS4.fn (h3.tow.mono sub4) (fun i gs i1 i2 ti=>?_) ups))
  obtain⟨k0,t0'⟩:=rt.one;obtain⟨L,q0,q1,q2⟩:=t0'.levels;have ti0:=Yc q0 q2 i (by omega)
  have two:=rt.two i _ i1 i2 ti0;obtain⟨i',rfl⟩:∃ i',i=i'+1:=⟨i - 1,by omega⟩
  have:=ti0.more ti hne (hput.sub rfl)
  omega
theorem ZNa{α β:Type}{F:α->β->Prop}:∀ {xs:List α} {x:α} {us:List β},Paired F (xs++[x]) us->∃ ys y,us=ys++[y]/\Paired F xs ys/\F x y
 | [],x,_,.cons r .nil=>⟨[],_,rfl,.nil,r⟩
 | z::xs,x,_,.cons r t=>by
  obtain⟨ys,y,e,a,b⟩:=ZNa t;exact⟨_::ys,y,by rw[e];rfl,.cons r a,b⟩
theorem QBb{α β:Type}{F:α->β->Prop}{xs:List α}{x:α}{us:List β}(h:Paired F (x::xs) us):∃ y ys,us=y::ys/\F x y/\Paired F xs ys:=by
 cases h with
 | cons r t=>exact⟨_,_,rfl,r,t⟩
theorem Qwd(xs:List V)(v:V):QU (xs++[v]) none (some (-1))=xs:=by
 have e2:HT.sIx (xs++[v]).length 0 none=0:=rfl;have e1:HT.sIx (xs++[v]).length (xs++[v]).length (some (-1))=xs.length:=by
  show(if (-1:Int) < 0 then ((-1:Int)+((xs++[v]).length:Int)).toNat else min (-1:Int).toNat (xs++[v]).length)=_
  rw[if_pos (by decide),Vs,length_singleton];omega
 unfold QU;rw[e1,e2,drop_zero,Nat.sub_zero];simp
inductive Yya(P:Program)(w:World)(_cs ob:Nat->Addr)(n:Nat)(vs:List V)(H:Hp)(Q:VK)(E:XK):Prop
 | mk:∀ p d1 d2 st c,∀ m1 m2:Int,∀ l:Nat,∀ pa pb M N,vs=[.ref p,.int m1,.int m2]->QG P w ob H p d1 d2 st c->(m1,Zc (l:Int) pa)∈Qt st->(m2,Zc (l:Int) pb)∈Qt st->Tow QK (Qt st) l M pa->Tow QK (Qt st) l N pb->M≠[]->N≠[]->(∀ d∈M,Yj d)->(∀ d∈N,Yj d)->UpR ltK M->UpR ltK N->M.length+N.length<=800->l<=n->st.length+(l+1) * (M.length+N.length)<=1000000->(∀ r H' st' c' hs ys,YWb P w ob H H' p d1 d2 st st' c' r l (M++N.tail) hs ys->st'.length<=st.length+(l+1) * (M.length+N.length)->Q (.ref r) H')->Yya P w _cs ob n vs H Q E
def QCa(P:Program)(w:World)(_cs ob:Nat->Addr):Nat->Sp
 | 0=>fun _ _ _ _=>False
 | n+1=>Yya P w _cs ob n
seal PE PT PW PA PS PSs PI PG QY PGs PO in
theorem XMb(Z:Zs mg)(T:Tx K mg CT cs ob)(Q3:Cal P w K mg base 5 "heads_of" ["pages","level","entries"] (QZ P w ob))(Qx:MeV P w K mg base 5 (ob 3) "page" (Q1 P w cs ob)){n:Nat}(IH:Cal P w K mg base (6+n) "joined" ["pages","left","right"] (QCa P w cs ob n))(F:Fun K "joined" "joined" Ypa f fd):QF P w K mg base CX0 (6+n+1) f fd ["pages","left","right"] (QCa P w cs ob (n+1)):=by
 refine F.ok Y3 (fun vs H Q E h=>?_) (fun cdv A outer s H vs Q E hr h=>?_)
 ·walk_at "n"
 obtain⟨p,d1,d2,st,c,m1,m2,l,pa,pb,M,N,rfl,hS,hm1,hm2,tM,tN,hM,hN,rM,rN,uM,uN,lMN,hl,few,q⟩:=h;refine⟨_,(@Qa _ _ _ _ _ (Ql (i:=3) Y3.nd rfl (Or.inl rfl) (PE1.pe (Zi (k:=(6+n)) (pv 0) hr rfl (Qf (pv 1) Qe)) ZP))
  (@Qa _ _ _ _ _ (Ql (i:=4) Y3.nd rfl (Or.inl rfl) (Zr Zz rfl (Z.list) JQ (Qf (QW (pv 3) rfl) Qe)))
  (@Qa _ _ _ _ _ (Ql (i:=5) Y3.nd rfl (Or.inl rfl) (Zr Zz rfl (Z.list) JQ (Qf (QW (PE1.pe (Zi (k:=(6+n)) (pv 0) hr rfl (Qf (pv 2) Qe)) ZP) rfl) Qe)))
  (@Qa _ _ _ _ _ (QN (Qs Zk (QW (pv 3) rfl) Qb (Qw _)) (Qg (Qm (Qo Q3 (k:=(6+n)) hr (by omega) rfl (Qf (pv 0) (Qf Qb (Qf (Qk ZW (pv 4) (Q5 Zo (pv 5) (Zh Qb) Zn)) Qe)))))) Qu)
  (@Qa _ _ _ _ _ (Ql (i:=6) Y3.nd rfl (Or.inl rfl) (Qo IH (k:=(6+n)) hr (by omega) rfl (Qf (pv 0) (Qf (QA QI (QA Q2 (pv 4) (QYb JTa Qb) (fun _ _=>rfl)) Qb (fun _ _=>rfl)) (Qf (QA QI (QA Q2 (pv 5) Qb (fun _ _=>rfl)) Qb (fun _ _=>rfl)) Qe)))))
  (Qg (Qm (Qo Q3 (k:=(6+n)) hr (by omega) rfl (Qf (pv 0) (Qf (QW (pv 3) rfl) (Qf (Qk ZW (Qk ZW (Q5 Zo (pv 4) Zn (Zh (QYb JTa Qb))) (pv 6)) (Q5 Zo (pv 5) (Zh Qb) Zn)) Qe))))))))))),?_⟩
 refine Qn (σ:=[some (.ref p),some (.int m1),some (.int m2),none,none,none,none]) rfl ?_
 walk_at "rd";obtain⟨entA,upA,lpA,hdA⟩:=Y7 tM rM uM;obtain⟨entB,upB,lpB,hdB⟩:=Y7 tN rN uN;refine YC T Qx (by omega) rfl rfl hS hm1 fun pg H1 s1 hpg pgd=>?_
 obtain⟨twg,dxp,t,etw,hpa,ht⟩:=id pgd;obtain⟨mm,t',xs,em,e,ht',rt⟩:=ht.tup;cases e;obtain rfl:mm=6:=by omega
 have lxs:=Paired.length rt;refine Z9 T rfl hpa ⟨t,rfl,xs,.inr (SqT.of ht'),fun la hla=>?_⟩
 have s2:=Qh hla (.lst xs);have g2:upd H1 la (.lst xs) la=some (.lst xs):=Qd;generalize upd H1 la (.lst xs)=H2 at s2 g2 ⊢;have s12:=s1.trans s2;have hS2:=hS.same s12;refine YC T Qx (by omega) rfl rfl hS2 hm2 fun pg2 H3 s3 hpg2 pgd2=>?_
 obtain⟨twg2,dx2,t2,etw2,hpa2,ht2⟩:=id pgd2;obtain⟨mm,t2',zs,em,e,ht2',rz⟩:=ht2.tup;cases e;obtain rfl:mm=6:=by omega
 have lzs:=Paired.length rz;refine⟨pg2,_,dx2,_,.ref t2,rfl,hpa2,(T.ob_ _ ZFb).cl,(T.ob_ _ ZFb).no _ (by decide),by cases twg2 <;> rfl,t2,rfl,zs,.inr (SqT.of ht2'),fun lb hlb=>?_⟩
 have s4:=Qh hlb (.lst zs);have g4:upd H3 lb (.lst zs) lb=some (.lst zs):=Qd;generalize upd H3 lb (.lst zs)=H4 at s4 g4 ⊢;have s34:=s3.trans s4;have s14:=s12.trans s34;have ga4:=s34 _ _ g2;have rt4:=TDs.sameT rt (s2.trans s34).t;have rz4:=TDs.sameT rz s4.t;have hS4:=hS.same s14;have hpa4:=(s2.trans s34) _ _ hpa;refine Qoa T rfl hpa4 ⟨rfl,Zg (fun h0=>?_) fun h0=>?_⟩
 ·injection h0 with h0
  obtain rfl:l=0:=by omega
  have ep:pa=M:=tM;have ep2:pb=N:=tN;subst ep ep2;refine⟨zs,SqL.of g4,fun p3 hp3=>⟨xs,Qh hp3 _ _ _ ga4,_,Qd,Jca (by have:=Zw zs (some 1) none;omega),fun p4 hp4=>?_⟩⟩
  have ec:QU zs (some 1) none=zs.drop 1:=ZKb zs 1;rw[ec]at hp4 ⊢;have s6:=s14.trans ((Qh hp3 (.lst (zs.drop 1))).trans (Qh hp4 (.lst (xs++zs.drop 1))));have s46:=(Qh hp3 (.lst (zs.drop 1))).trans (Qh hp4 (.lst (xs++zs.drop 1)));have g6:upd (upd H4 p3 (.lst (zs.drop 1))) p4 (.lst (xs++zs.drop 1)) p4=some (.lst (xs++zs.drop 1)):=Qd;generalize upd (upd H4 p3 (.lst (zs.drop 1))) p4 (.lst (xs++zs.drop 1))=H6 at s6 s46 g6 ⊢;have re6:=QC (TDs.sameT rt4 s46.t) (Zx 1 (TDs.sameT rz4 s46.t));rw[drop_one]at re6;have le6:=Paired.length re6;rw[drop_one]at le6;simp only[Vs,length_tail]at le6;refine Yk (l:=0) (b:=false) (hS.same s6) g6 (by rw[drop_one];rw[drop_one]at re6;exact re6) (fun d hd=>?_) (by simp;omega) (by simp;omega) (show Tow QK (Qt st) 0 (pa++pb.tail) (pa++pb.tail) from rfl) (s6.x _) (fun x h=>h) (fun r5 H5 st5 c5 hs5 ys5 h5 l5=>q r5 H5 st5 c5 hs5 ys5 h5 (by simp at l5;omega)) fun r hr=>none_of s6 hr
  rcases Vl.mp hd with z | z
  ·exact entA d z
  ·exact entB d (mem_of_mem_tail z)
 ·have hl0:l≠0:=fun z=>h0 (by rw[z];rfl)
  obtain⟨l',rfl⟩:∃ l',l=l'+1:=⟨l - 1,by omega⟩
  obtain rfl:twg=true:=by rw[etw];exact decide_eq_true (by omega)
  obtain⟨ini,h,rfl⟩:=Zp (tM.ne hM);obtain⟨h',bs,rfl⟩:∃ h' bs,pb=h'::bs:=by
   cases pb with
   | nil=>exact absurd rfl (tN.ne hN)
   | cons x r=>exact⟨x,r,rfl⟩
  obtain⟨A,M1,B0,n1,part1,eM,tA,_,tB0,eh,hm1',tp1,hM1,cA,_⟩:=tM.at_;obtain rfl:B0=[]:=tB0.fst.1.mpr rfl;rw[append_nil]at eM;obtain⟨A0,N1,B,n2,part2,eN,tA0,_,tB,eh',hm2',tp2,hN1,_,cB⟩:=(show Tow QK (Qt st) (l'+1) N ([]++h'::bs) from tN).at_
  obtain rfl:A0=[]:=tA0.fst.1.mpr rfl;rw[nil_append]at eN;subst eh eh';obtain⟨xi,xl,rfl,ri,rl⟩:=ZNa rt4;obtain⟨zl,zr,rfl,rzl,rzr⟩:=QBb rz4;obtain⟨b1,u1,u2,eb1,hb1,x1,x2⟩:=TD.pair_of rl;obtain⟨_,rfl⟩:=x2.flat;obtain⟨b2,v1,v2,eb2,hb2,y1,y2⟩:=TD.pair_of rzl;obtain⟨_,rfl⟩:=y2.flat;subst eb1 eb2;have lM:M.length=A.length+M1.length:=by rw[eM,Vs]
  have lN:N.length=N1.length+B.length:=by rw[eN,Vs]
  have bnd:(l'+1) * (M1.length+N1.length)<=(l'+1) * (M.length+N.length):=Nat.mul_le_mul_left _ (by omega)
  have bnd2:(l'+1+1) * (M.length+N.length)=(l'+1) * (M.length+N.length)+(M.length+N.length):=Nat.succ_mul _ _;obtain⟨n0,rfl⟩:∃ n0,n=n0+1:=⟨n - 1,by omega⟩
  refine⟨_,SqL.of ga4,.ref b1,XY _ _,b1,rfl,_,SqT.of hb1,_,at1 _ _ _,_,SqL.of g4,.ref b2,at0 _ _,b2,rfl,_,SqT.of hb2,_,at1 _ _ _,p,d1,d2,st,c,n1,n2,l',part1,part2,M1,N1,rfl,hS4,hm1',hm2',tp1,tp2,hM1,hN1,(fun d hd=>rM d (by rw[eM];simp[hd])),(fun d hd=>rN d (by rw[eN];simp[hd])),by rw[eM]at uM;exact uM.right,by rw[eN]at uN;exact uN.left,by omega,by omega,by omega,fun r7 H7 st7 c7 hs7 ys7 h7 l7=>?_⟩
  have sx7:QH [p,d1,d2] H H7:=(s14.x _).trans h7.sx;have t47:=Jn hS4 h7.sx;have hpa7:=h7.sx _ _ (hS4.off_pg hpa4) hpa4;have ga7:=hS4.lst h7.sx ga4;have gb7:=hS4.lst h7.sx g4;have hne1:M1++N1.tail≠[]:=fun z=>hM1 (append_eq_nil_iff.mp z).1
  have lt7:=h7.tow.len0;have ly7:=Paired.length h7.ty;have lri:=Paired.length ri;have lrz:=Paired.length rzr;have lA:=tA.len0;have lB:=tB.len0;have hN1p:0 < N1.length:=length_pos_iff.mpr hN1;simp only[Vs,length_tail]at lt7;refine Zu (T.ob_ 2 (by decide)) (by decide) rfl hpa7 rfl ?_
  walk_at "rd";refine Qvb (fun r H'=>QZ P w ob [V.ref p,V.int ((l'+1:Nat):Int),V.ref r] H' Q E0) ga7 h7.at_ gb7 (by rw[Vs,length_singleton];omega) (by rw[length_cons];omega) (by omega) fun r8 H8 s8 hr8 g8=>?_
  have ec:QU (V.ref b2::zr) (some 1) none=zr:=ZKb (V.ref b2::zr) 1;rw[Qwd,ec]at g8;have re8:=QC (QC (TDs.sameT ri (t47.trans s8.t)) (TDs.sameT h7.ty s8.t)) (TDs.sameT rzr (t47.trans s8.t));have eT:M++N.tail=A++((M1++N1.tail)++B):=by
   rw[eM,eN];cases N1 with
   | nil=>exact absurd rfl hN1
   | cons x r=>simp
  have tow8:Tow QK (Qt st7) (l'+1) (M++N.tail) (ini++hs7++bs):=by
   rw[eT,Vq ini];refine(tA.mono h7.sub).mid h7.tow (tB.mono h7.sub) ?_ cB
   rcases cA with z | z
   ·exact .inl z
   ·refine .inr (.inr ?_)
    cases M1 with
    | nil=>exact absurd rfl hM1
    | cons x r=>exact z
  refine Yk (b:=false) (h7.sA.same s8) g8 re8 (fun d hd=>?_) (by simp only[Vs];omega) (by simp only[Vs];omega) tow8 (sx7.trans (s8.x _)) h7.sub (fun r9 H9 st9 c9 hs9 ys9 h9 l9=>?_) fun r hr=>?_
  ·rcases Vl.mp hd with z | z
   ·rcases Vl.mp z with z | z
    ·exact entA d (by simp[z])
    ·exact(h7.hd d z).ent
   ·exact entB d (by simp[z])
  ·refine q r9 H9 st9 c9 hs9 ys9 h9 ?_
   simp only[Vs]at l9
   omega
  ·exact hS.none_x sx7 h7.sA (none_of s8 hr)
inductive YD(P:Program)(w:World)(_cs ob:Nat->Addr)(n:Nat)(vs:List V)(H:Hp)(Q:VK)(E:XK):Prop
 | mk:∀ p d1 d2 st c,∀ m:Int,∀ l:Nat,∀ part M k,vs=[.ref p,.int m,k]->QG P w ob H p d1 d2 st c->(m,Zc (l:Int) part)∈Qt st->Tow QK (Qt st) l M part->(∃ o∈M,Qr o=k)->(∀ d∈M,Yj d)->UpR ltK M->M.length<=700->l<=n->l<=7->Q6 k->st.length+(l+1) * M.length<=1000000->(∀ r H' st' c' M' hs ys,YWb P w ob H H' p d1 d2 st st' c' r l M' hs ys->QEa k M M'->st'.length<=st.length+(l+1) * M.length->Q (.ref r) H')->YD P w _cs ob n vs H Q E
def ZT(P:Program)(w:World)(_cs ob:Nat->Addr):Nat->Sp
 | 0=>fun _ _ _ _=>False
 | n+1=>YD P w _cs ob n
seal PE PT PW PA PS PSs PI PG QY PGs PO in
theorem Jda(Z:Zs mg)(T:Tx K mg CT cs ob)(Jo:Cal P w K mg base 4 "last_up_to" ["entries","key"] (ZZ K))(Q3:Cal P w K mg base 5 "heads_of" ["pages","level","entries"] (QZ P w ob))(Zoc:∀ n,Cal P w K mg base (6+n) "joined" ["pages","left","right"] (QCa P w cs ob n))(Qx:MeV P w K mg base 5 (ob 3) "page" (Q1 P w cs ob)){n:Nat}(IH:Cal P w K mg base (15+n) "heads_without" ["pages","number","key"] (ZT P w cs ob n))(F:Fun K "heads_without" "heads_without" JO f fd):QF P w K mg base CX0 (15+n+1) f fd ["pages","number","key"] (ZT P w cs ob (n+1)):=by
 refine F.ok Zf (fun vs H Q E h=>?_) (fun cdv A outer s H vs Q E hr h=>?_)
 ·walk_at "n"
 obtain⟨p,d1,d2,st,c,m,l,part,M,k,rfl,hS,hm,tw,hin,hrow,up,lM,hl,hl7,hk,few,q⟩:=h;refine⟨_,(@Qa _ _ _ _ _ (Ql (i:=3) Zf.nd rfl (Or.inl rfl) (PE1.pe (Zi (k:=(15+n)) (pv 0) hr rfl (Qf (pv 1) Qe)) ZP))
  (@Qa _ _ _ _ _ (Ql (i:=4) Zf.nd rfl (Or.inl rfl) (Qo Jo (k:=(15+n)) hr (by omega) rfl (Qf (QW (pv 3) rfl) (Qf (pv 2) Qe))))
  (@Qa _ _ _ _ _ (Ql (i:=5) Zf.nd rfl (Or.inl rfl) (Zr Zz rfl (Z.list) JQ (Qf (QW (pv 3) rfl) Qe)))
  (@Qa _ _ _ _ _ (QN (Qs Zk (QW (pv 3) rfl) Qb (Qw _)) (Qg (Qm (Qo Q3 (k:=(15+n)) hr (by omega) rfl (Qf (pv 0) (Qf Qb (Qf (Qk ZW (Q5 Zo (pv 5) Zn (Zh (pv 4))) (Q5 Zo (pv 5) (Zh (Qk Q9 (pv 4) Qb)) Zn)) Qe)))))) Qu)
  (@Qa _ _ _ _ _ (QN (PW.pt (YE (Qs Jga (pv 4) Qb (Qw _)) (Jv (Qs Zk (QA QI (QA Q2 (pv 5) (pv 4) (fun _ _=>rfl)) Qb (fun _ _=>rfl)) (pv 2) (Qw _))))) (@Qa _ _ _ _ _ (Ql (i:=6) Zf.nd rfl (Or.inl rfl) (Qo (Zoc 8) (k:=(15+n)) hr (by omega) rfl (Qf (pv 0) (Qf (QA QI (QA Q2 (pv 5) (Qk Jg (pv 4) Qb) (fun _ _=>rfl)) Qb (fun _ _=>rfl)) (Qf (QA QI (QA Q2 (pv 5) (pv 4) (fun _ _=>rfl)) Qb (fun _ _=>rfl)) Qe)))))
  (Qg (Qm (Qo Q3 (k:=(15+n)) hr (by omega) rfl (Qf (pv 0) (Qf (QW (pv 3) rfl) (Qf (Qk ZW (Qk ZW (Q5 Zo (pv 5) Zn (Zh (Qk Jg (pv 4) Qb))) (pv 6)) (Q5 Zo (pv 5) (Zh (Qk Q9 (pv 4) Qb)) Zn)) Qe))))))) Qu)
  (@Qa _ _ _ _ _ (Ql (i:=6) Zf.nd rfl (Or.inl rfl) (Qo IH (k:=(15+n)) hr (by omega) rfl (Qf (pv 0) (Qf (QA QI (QA Q2 (pv 5) (pv 4) (fun _ _=>rfl)) Qb (fun _ _=>rfl)) (Qf (pv 2) Qe)))))
  (Qg (Qm (Qo Q3 (k:=(15+n)) hr (by omega) rfl (Qf (pv 0) (Qf (QW (pv 3) rfl) (Qf (Qk ZW (Qk ZW (Q5 Zo (pv 5) Zn (Zh (pv 4))) (pv 6)) (Q5 Zo (pv 5) (Zh (Qk Q9 (pv 4) Qb)) Zn)) Qe)))))))))))),?_⟩
 refine Qn (σ:=[some (.ref p),some (.int m),some k,none,none,none,none]) rfl ?_
 refine YPb fun R hR=>?_
 walk_at "rd";have hM:M≠[]:=fun z=>by obtain⟨o,ho,_⟩:=hin;rw[z]at ho;cases ho
 obtain⟨hent,up',lp,hhd⟩:=Y7 tw hrow up;refine YC T Qx (by omega) rfl rfl hS hm fun pg H1 s1 hpg pgd=>?_
 obtain⟨twg,dxp,t,etw,hpa,ht⟩:=id pgd;obtain⟨mm,t',xs,em,e,ht',rt⟩:=ht.tup;cases e;obtain rfl:mm=6:=by omega
 have lxs:=Paired.length rt;refine Z9 T rfl hpa ⟨t,xs,part,k,rfl,ht',rt,hent,up',hk,by omega,fun H2 at' s2 hu=>?_⟩
 have hpa2:=s2 _ _ hpa;have s12:=s1.trans s2;have rt2:=TDs.sameT rt s2.t;refine Z9 T rfl hpa2 ⟨t,rfl,xs,.inr (SqT.of (s2 _ _ ht')),fun l1 hl1=>?_⟩
 have s3:=Qh hl1 (.lst xs);have g3:upd H2 l1 (.lst xs) l1=some (.lst xs):=Qd;generalize upd H2 l1 (.lst xs)=H3 at s3 g3 ⊢;have s13:=s12.trans s3;have rt3:=TDs.sameT rt2 s3.t;have hS3:=hS.same s13;have hpa3:=s3 _ _ hpa2;obtain⟨a,b,ep,ea,h1,h2⟩:=hu;have ea0:a≠[]:=fun z=>by
  subst z;rw[nil_append]at ep;subst ep;obtain⟨o,ho,eo⟩:=hin;have kf:ltK k (QS M):=by
   rw[<- tw.fst.2];have hne:=tw.ne hM;cases part with
   | nil=>exact absurd rfl hne
   | cons x r=>exact h2 x (by simp)
  have:=UpR.behind (M:=[]) (B:=M) up ltK.tr (.inr kf) o ho;rw[eo]at this;exact ltK.irr _ this
 obtain⟨ini,x,rfl⟩:=Zp ea0;rw[Vs,length_singleton]at ea;obtain rfl:at'=(ini.length:Int):=by omega
 rw[Vq,singleton_append]at ep;have hle:=h1 x (Vp _ (mem_singleton.mpr rfl));have hx:part[ini.length]?=some x:=by rw[ep];simp
 have li:ini.length < xs.length:=by have:=(Vc.mp hx).1;omega
 have ei:part.take ini.length=ini:=by rw[ep];simp
 have eb:part.drop (ini.length+1)=b:=by rw[ep];simp
 walk_at "rd";refine Qoa T rfl hpa3 ⟨rfl,Zg (fun h0=>?_) fun h0=>?_⟩
 ·injection h0 with h0
  obtain rfl:l=0:=by omega
  obtain rfl:part=M:=tw;have ex:Qr x=k:=by
   obtain⟨o,ho,eo⟩:=hin;rw[ep]at ho up
   rcases Vl.mp ho with z | z
   ·have u:=up.across z (mem_cons_self (a:=x) (l:=b))
    rw[eo]at u
    rcases hle with c | c
    ·exact absurd (ltK.tr u c) (ltK.irr _)
    ·exact c
   ·rcases mem_cons.mp z with z | z
    ·rw[<- z];exact eo
    ·have:=h2 o z
     rw[eo]at this;exact absurd this (ltK.irr _)
  refine Xsc (fun r H'=>QZ P w ob [V.ref p,V.int 0,V.ref r] H' Q E0) g3 (by omega) fun r4 H4 s4 hr4 g4=>?_
  rw[show(ini.length:Int)+1=((ini.length+1:Nat):Int) by omega,XJb,ZKb]at g4
  have rt4:=TDs.sameT rt3 s4.t;have re4:=QC (ZN ini.length rt4) (Zx (ini.length+1) rt4);rw[ei,eb]at re4;have lpt:part.length=ini.length+(b.length+1):=by rw[ep];simp
  have s14:=s13.trans s4;have le4:=Paired.length re4;simp only[Vs]at le4;refine Yk (l:=0) (b:=false) (hS.same s14) g4 re4 (fun d hd=>?_) (by simp only[Vs];omega) (by simp only[Vs];omega) (show Tow QK (Qt st) 0 (ini++b) (ini++b) from rfl) (s14.x _) (fun x h=>h) (fun r5 H5 st5 c5 hs5 ys5 h5 l5=>q r5 H5 st5 c5 (ini++b) hs5 ys5 h5 ⟨ini,x,b,ep,rfl,ex⟩ (by simp only[Vs]at l5;omega)) fun r hr=>none_of s14 hr
  refine hent d ?_
  rw[ep]
  rcases Vl.mp hd with z | z <;> simp[z]
 ·have hl0:l≠0:=fun z=>h0 (by rw[z];rfl)
  obtain⟨l',rfl⟩:∃ l',l=l'+1:=⟨l - 1,by omega⟩
  obtain rfl:twg=true:=by rw[etw];exact decide_eq_true (by omega)
  have tw':=tw;rw[ep]at tw';obtain⟨A,N,B,n',part',eM,tA,tB,ex,hm',tp',hN,cA,cB,hA,hB⟩:=Yxa tw' up hle h2;subst ex;have tx:=Qv rt3 hx (Vb li)
  obtain⟨bb,u1,u2,ebb,hb,x1,x2⟩:=TD.pair_of tx;obtain⟨_,ex1⟩:=x1.flat;obtain⟨_,rfl⟩:=x2.flat;subst ex1;have kN:Q6 (QS N):=by
   obtain⟨o,ho,eo⟩:=X8 hN;rw[<- eo];exact(hrow o (by rw[eM];simp[ho])).ent.key
  have rowN:∀ d∈N,Yj d:=fun d hd=>hrow d (by rw[eM];simp[hd])
  have upN:UpR ltK N:=by rw[eM]at up;exact up.right.left
  have lM':M.length=A.length+(N.length+B.length):=by rw[eM];simp
  have lpt:part.length=ini.length+(b.length+1):=by rw[ep];simp
  have lA:=tA.len0;have lB:=tB.len0;have bnd2:(l'+1+1) * M.length=(l'+1) * M.length+M.length:=Nat.succ_mul _ _;have atx:atI xs (ini.length:Int)=some (.ref bb):=by rw[<- ebb];exact Zb (Vb li)
  have tail:(A=[]\/QS N≠k)->R [some (.ref p),some (.int m),some k,some (.ref pg),some (.int (ini.length:Int)),some (.ref l1),none] H3:=fun hc=>by
   refine hR _ _ ?_
   clear hR;walk_at "rd";have hinN:∃ o∈N,Qr o=k:=by
    obtain⟨o,ho,eo⟩:=hin;rw[eM]at ho
    rcases Vl.mp ho with z | z
    ·have:=hA o z;rw[eo]at this;exact absurd this (ltK.irr _)
    ·rcases Vl.mp z with z | z
     ·exact⟨o,z,eo⟩
     ·have:=hB o z;rw[eo]at this;exact absurd this (ltK.irr _)
   have bnd:(l'+1) * N.length<=(l'+1) * M.length:=Nat.mul_le_mul_left _ (by omega)
   obtain⟨n0,rfl⟩:∃ n0,n=n0+1:=⟨n - 1,by omega⟩
   refine⟨xs,SqL.of g3,.ref bb,atx,bb,rfl,_,SqT.of hb,_,at1 _ _ _,p,d1,d2,st,c,n',l',part',N,k,rfl,hS3,hm',tp',hinN,rowN,upN,by omega,by omega,by omega,hk,by omega,fun r7 H7 st7 c7 N' hs7 ys7 h7 hdel l7=>?_⟩
   have sx7:QH [p,d1,d2] H H7:=(s13.x _).trans h7.sx;have t37:=Jn hS3 h7.sx;have hpa7:=h7.sx _ _ (hS3.off_pg hpa3) hpa3;have g7:=hS3.lst h7.sx g3;have rt7:=TDs.sameT rt3 t37;have lN':N'.length<=N.length:=by have:=hdel.sub.length_le;simpa using this
   have lt7:=h7.tow.len0;have ly7:=Paired.length h7.ty;refine Zu (T.ob_ 2 (by decide)) (by decide) rfl hpa7 rfl ?_
   walk_at "rd";refine Qvb (fun r H'=>QZ P w ob [V.ref p,V.int ((l'+1:Nat):Int),V.ref r] H' Q E0) g7 h7.at_ g7 (by omega) (by omega) (by omega) fun r8 H8 s8 hr8 g8=>?_
   rw[show(ini.length:Int)+1=((ini.length+1:Nat):Int) by omega,XJb,ZKb]at g8
   have rt8:=TDs.sameT rt7 s8.t;have ri:=ZN ini.length rt8;have rb8:=Zx (ini.length+1) rt8;rw[ei]at ri;rw[eb]at rb8;have re8:=QC (QC ri (TDs.sameT h7.ty s8.t)) rb8;have lr:=Paired.length re8;have tow8:Tow QK (Qt st7) (l'+1) (A++(N'++B)) (ini++hs7++b):=by
    rw[Vq ini];refine(tA.mono h7.sub).mid h7.tow (tB.mono h7.sub) ?_ cB
    rcases hc with z | z
    ·exact .inl z
    ·rcases cA with y | y
     ·exact .inl y
     ·exact .inr (.inr (by rw[(hdel.fst z).1];exact y))
   refine Yk (b:=false) (h7.sA.same s8) g8 re8 (fun d hd=>?_) (by rw[<- lr];simp only[Vs];omega) (by rw[<- lr];simp only[Vs];omega) tow8 (sx7.trans (s8.x _)) h7.sub (fun r9 H9 st9 c9 hs9 ys9 h9 l9=>?_) fun r hr=>?_
   ·rcases Vl.mp hd with z | z
    ·rcases Vl.mp z with z | z
     ·exact hent d (by rw[ep];simp[z])
     ·exact(h7.hd d z).ent
    ·exact hent d (by rw[ep];simp[z])
   ·refine q r9 H9 st9 c9 (A++(N'++B)) hs9 ys9 h9 (by rw[eM];exact hdel.mid) ?_
    rw[<- lr]at l9;simp only[Vs]at l9
    omega
   ·exact hS.none_x sx7 h7.sA (none_of s8 hr)
  refine Zg (fun hi=>?_) fun hi=>?_
  ·refine⟨xs,SqL.of g3,.ref bb,atx,bb,rfl,_,SqT.of hb,_,at0 _ _,Qtb kN hk,Zg (fun e=>?_) fun e=>tail (.inr e)⟩
   have hi0:ini≠[]:=fun z=>by rw[z]at hi;simp at hi
   obtain⟨ini2,y,rfl⟩:=Zp hi0;obtain⟨A2,N0,B0,n0,part0,eA,tA2,_,tB0,ey,hm0,tp0,hN0,cA2,_⟩:=tA.at_;obtain rfl:B0=[]:=tB0.fst.1.mpr rfl;rw[append_nil]at eA;subst ey;have hy:part[ini2.length]?=some (ZQ (QS N0) n0):=by rw[ep];simp
   have li2:ini2.length < xs.length:=by have:=(Vc.mp hy).1;omega
   have ty:=Qv rt3 hy (Vb li2)
   obtain⟨b0,z1,z2,eb0,hb0,y1,y2⟩:=TD.pair_of ty;obtain⟨_,rfl⟩:=y2.flat;have eL:((ini2++[ZQ (QS N0) n0]).length:Int) - 1=(ini2.length:Int):=by simp
   have lA2:A.length=A2.length+N0.length:=by rw[eA,Vs]
   have rowN0:∀ d∈N0,Yj d:=fun d hd=>hrow d (by rw[eM,eA];simp[hd])
   have upN0:UpR ltK N0:=by rw[eM]at up;have:=up.left;rw[eA]at this;exact this.right
   have bnd:(l'+1) * (N0.length+N.length)<=(l'+1) * M.length:=Nat.mul_le_mul_left _ (by omega)
   rw[eL];refine⟨xs,SqL.of g3,.ref b0,by rw[<- eb0];exact Zb (Vb li2),b0,rfl,_,SqT.of hb0,_,at1 _ _ _,xs,SqL.of g3,.ref bb,atx,bb,rfl,_,SqT.of hb,_,at1 _ _ _,p,d1,d2,st,c,n0,n',l',part0,part',N0,N,rfl,hS3,hm0,hm',tp0,tp',hN0,hN,rowN0,rowN,upN0,upN,by omega,(show l'<=7 by omega),by omega,fun r7 H7 st7 c7 hs7 ys7 h7 l7=>?_⟩
   have sx7:QH [p,d1,d2] H H7:=(s13.x _).trans h7.sx;have t37:=Jn hS3 h7.sx;have hpa7:=h7.sx _ _ (hS3.off_pg hpa3) hpa3;have g7:=hS3.lst h7.sx g3;have rt7:=TDs.sameT rt3 t37;have lt7:=h7.tow.len0;have ly7:=Paired.length h7.ty;have hNp:0 < N.length:=length_pos_iff.mpr hN;simp only[Vs,length_tail]at lt7;refine Zu (T.ob_ 2 (by decide)) (by decide) rfl hpa7 rfl ?_
   walk_at "rd";refine Qvb (fun r H'=>QZ P w ob [V.ref p,V.int ((l'+1:Nat):Int),V.ref r] H' Q E0) g7 h7.at_ g7 (by omega) (by omega) (by omega) fun r8 H8 s8 hr8 g8=>?_
   rw[show((ini2++[ZQ (QS N0) n0]).length:Int)+1=(((ini2++[ZQ (QS N0) n0]).length+1:Nat):Int) by omega,XJb,ZKb]at g8
   have rt8:=TDs.sameT rt7 s8.t;have ri:=ZN ini2.length rt8;have rb8:=Zx ((ini2++[ZQ (QS N0) n0]).length+1) rt8;rw[show part.take ini2.length=ini2 by rw[ep];simp]at ri
   rw[eb]at rb8;have re8:=QC (QC ri (TDs.sameT h7.ty s8.t)) rb8;have lr:=Paired.length re8;have lA2':=tA2.len0;have tow8:Tow QK (Qt st7) (l'+1) (A2++((N0++N.tail)++B)) (ini2++hs7++b):=by
    rw[Vq ini2];refine(tA2.mono h7.sub).mid h7.tow (tB.mono h7.sub) ?_ cB
    rcases cA2 with z | z
    ·exact .inl z
    ·refine .inr (.inr ?_)
     cases N0 with
     | nil=>exact absurd rfl hN0
     | cons x r=>exact z
   refine Yk (b:=false) (h7.sA.same s8) g8 re8 (fun d hd=>?_) (by rw[<- lr];simp only[Vs];omega) (by rw[<- lr];simp only[Vs];omega) tow8 (sx7.trans (s8.x _)) h7.sub (fun r9 H9 st9 c9 hs9 ys9 h9 l9=>?_) fun r hr=>?_
   ·rcases Vl.mp hd with z | z
    ·rcases Vl.mp z with z | z
     ·exact hent d (by rw[ep];simp[z])
     ·exact(h7.hd d z).ent
    ·exact hent d (by rw[ep];simp[z])
   ·refine q r9 H9 st9 c9 _ hs9 ys9 h9 ?_ ?_
    ·cases N with
     | nil=>exact absurd rfl hN
     | cons o r=>exact⟨A2++N0,o,r++B,by rw[eM,eA];simp,by simp,e⟩
    ·rw[<- lr]at l9
     simp only[Vs]at l9
     omega
   ·exact hS.none_x sx7 h7.sA (none_of s8 hr)
  ·refine tail (.inl (tA.fst.1.mpr ?_))
   cases ini with
   | nil=>rfl
   | cons y r=>simp at hi
inductive Zfa(P:Program)(w:World)(_cs ob:Nat->Addr)(vs:List V)(H:Hp)(Q:VK)(E:XK):Prop
 | mk:∀ p d1 d2 st c hb ys hs,∀ l:Nat,∀ M,vs=[.ref p,.ref hb]->QG P w ob H p d1 d2 st c->H hb=some (.lst ys)->Paired (fun d v=>TD H 6 d v) hs ys->Tow QK (Qt st) (l+1) M hs->hs.length<=1->(∀ d∈M,Yj d)->UpR ltK M->M.length<=900->(∀ H' v,Qp H H'->ZJ st M v->Q v H')->Zfa P w _cs ob vs H Q E
seal PE PT PW PA PS PSs PI PG QY PGs PO in
theorem J3b(Z:Zs mg)(T:Tx K mg CT cs ob)(ZOa:MeV P w K mg base 1 (ob 0) "under" (JA K ob))(XH:MeV P w K mg base 1 (ob 1) "under" (JA K ob))(XI:MeV P w K mg base 1 (ob 2) "under" (YR K ob))(Qx:MeV P w K mg base 5 (ob 3) "page" (Q1 P w cs ob))(F:Fun K "lowered" "lowered" Z7a f fd):QF P w K mg base CX0 6 f fd ["pages","heads"] (Zfa P w cs ob):=by
 refine F.ok Yf (fun vs H Q E h=>?_) (fun cdv A outer s H vs Q E hr h=>?_)
 ·walk_at "n"
 obtain⟨p,d1,d2,st,c,hb,ys,hs,l,M,rfl,hS,hH,ty,tw,l1,rM,uM,lM,q⟩:=h;refine⟨_,(@Qa _ _ _ _ _ (QN (Js (JWa (pv 1) (fun _=>rfl))) (Qg (Qm JL)) Qu)
  (@Qa _ _ _ _ _ (Ql (i:=2) Yf.nd rfl (Or.inl rfl) (QA QI (QA Q2 (pv 1) Qb (fun _ _=>rfl)) Qb (fun _ _=>rfl)))
  (@Qa _ _ _ _ _ (Ql (i:=3) Yf.nd rfl (Or.inl rfl) (PE1.pe (Q5a (k:=5) (Zi (k:=5) (pv 0) hr rfl (Qf (pv 2) Qe)) hr rfl) ZP))
  (@Qa _ _ _ _ _ (XV PassesOwn.never (Qs Zk (Qz QR rfl (Z.len) ZL (Qf (pv 3) Qe)) Qb (Qw _)) (@Qa _ _ _ _ _ (Ql (i:=2) Yf.nd rfl (Or.inl rfl) (QA Q2 (pv 3) Qb (fun _ _=>rfl)))
  (Qg (Ql (i:=3) Yf.nd rfl (Or.inl rfl) (PE1.pe (Q5a (k:=5) (Zi (k:=5) (pv 0) hr rfl (Qf (pv 2) Qe)) hr rfl) ZP)))))
  (Qg (Qm (pv 2))))))),?_⟩
 refine Qn (σ:=[some (.ref p),some (.ref hb),none,none]) rfl ?_
 walk_at "rd";have und:∀ {n:Int} {j:Nat} {part:List Dt} {pg:Addr} {H2:Hp} {Qc:VK},(n,Zc (j:Int) part)∈Qt st->Tow QK (Qt st) j M part->PgD ob H2 pg (j:Int) part->(∀ r H3,Qp H2 H3->H2 r=none->H3 r=some (.lst (if j=0 then [] else (part.map ZEa).map V.int))->Qc (.ref r) H3) ->
  ∃ a,V.ref pg=.ref a/\∃ C dx fs,H2 a=some (.ins C dx fs)/\fs.lookup ("under":Str)=none/\Cls K C/\∃ sp,MeV P w K mg base 5 C "under" sp/\sp [.ref pg] H2 Qc E0:=by
  intro n j part pg H2 Qc hm tp pgd qc;obtain⟨_,_,lp,hhd⟩:=Y7 tp rM uM;obtain⟨tw2,dx2,t0,etw2,hpa,ht0⟩:=id pgd;cases j with
  | zero =>
   obtain rfl:tw2=false:=by rw[etw2];rfl
   exact⟨pg,rfl,_,dx2,_,hpa,rfl,(T.ob_ 1 (by decide)).cl,_,XH.mono (by decide),pg,rfl,fun r H3 s3 h3 g3=>qc r H3 s3 h3 (by rw[if_pos rfl];exact g3)⟩
  | succ j' =>
   obtain rfl:tw2=true:=by rw[etw2];exact decide_eq_true (by omega)
   exact⟨pg,rfl,_,dx2,_,hpa,rfl,(T.ob_ 2 (by decide)).cl,_,XI.mono (by decide),pg,_,part,rfl,pgd,by omega,by omega,(fun d hd=>let ⟨k,n,e,_⟩:=hhd (by omega) d hd;⟨k,n,e⟩),fun r H3 s3 h3 g3=>qc r H3 s3 h3 (by rw[if_neg (by omega)];exact g3)⟩
 have lty:=Paired.length ty
 match hs,ys,ty,tw,l1,hH with
 | [],_,.nil,tw,_,hH =>
  refine⟨false,.inl ⟨_,SqL.of hH,rfl⟩,?_⟩
  rw[if_pos rfl];exact q H .non (Qp.refl _) (.inl ⟨tw.fst.1.mpr rfl,rfl⟩)
 | [d],_,.cons (b:=x) tx .nil,tw,_,hH =>
  obtain⟨n,part,ed,hm,tp,_⟩:=tw.one;subst ed;obtain⟨b1,u1,u2,eb,hb1,w1,w2⟩:=TD.pair_of tx;obtain⟨_,rfl⟩:=w2.flat;subst eb;refine⟨true,.inl ⟨_,SqL.of hH,rfl⟩,?_⟩
  rw[if_neg (by decide)]
  refine⟨_,SqL.of hH,.ref b1,at0 _ _,b1,rfl,_,SqT.of hb1,_,at1 _ _ _,?_⟩
  refine YC T Qx (by decide) rfl rfl hS hm fun pg H1 s1 hpg pgd=>?_
  refine und hm tp pgd fun r H2 s2 hr2 g2=>?_
  refine⟨fun m σ' H'=>∃ n part r k,σ'=[some (.ref p),some (.ref hb),some (.int n),some (.ref r)]/\Qp H H'/\Tow QK (Qt st) (m+1) M [ZQ k n]/\(n,Zc (m:Int) part)∈Qt st/\Tow QK (Qt st) m M part/\H' r=some (.lst (if m=0 then [] else (part.map ZEa).map V.int)),⟨l,n,part,r,_,rfl,s1.trans s2,tw,hm,tp,g2⟩,?_⟩
  clear g2 hr2 s2 pgd hpg s1 tx tp hm tw;rintro m σ' H' ⟨n,part,r,k,rfl,s1,tw,hm,tp,g2⟩;walk_at "rd";refine⟨_,.inl (SqL.of g2),Zg (fun h1=>?_) fun h1=>?_⟩
  ·have hm0:m≠0:=fun z=>by rw[if_pos z]at h1;simp at h1
   rw[if_neg hm0]at h1 g2;obtain⟨m',rfl⟩:∃ m',m=m'+1:=⟨m - 1,by omega⟩
   have l1:part.length=1:=by simp at h1;omega
   obtain⟨d,rfl⟩:=length_eq_one_iff.mp l1;obtain⟨n',part',ed,hm',tp',_⟩:=tp.one;subst ed;refine⟨_,fun σ' H' h=>h,_,SqL.of g2,.int n',at0 _ _,?_⟩
   refine YC T Qx (by decide) rfl rfl (hS.same s1) hm' fun pg H2 s2 hpg pgd=>?_
   exact und hm' tp' pgd fun r H3 s3 hr3 g3=>⟨m',by omega,n',part',r,rfl,s1.trans (s2.trans s3),_,tp,hm',tp',g3⟩
  ·refine q H' (.int n) s1 (XHa (Y2.of_two hS.fn tw tp ?_))
   by_cases hm0:m=0
   ·exact .inl hm0
   ·right
    rw[if_neg hm0]at h1;have hM:M≠[]:=tw.ne' (by simp)
    have:=length_pos_iff.mpr (tp.ne hM);simp at h1
    omega
 | d::d'::hs,_,_,_,l1,_=>simp at l1
inductive JLa(P:Program)(w:World)(cs ob:Nat->Addr)(vs:List V)(H:Hp)(Q:VK)(E:XK):Prop
 | mk:∀ p d1 d2 st c v k es,vs=[.ref p,v,k]->QG P w ob H p d1 d2 st c->ZJ st es v->XLb es->es.length<=700->Q6 k->st.length+8 * es.length<=1000000->((∃ d∈es,Qr d=k)->∀ H' st' c' v' es',QH [p,d1,d2] H H'->QG P w ob H' p d1 d2 st' c'->(∀ x∈Qt st,x∈Qt st')->st'.length<=st.length+8 * es.length->QEa k es es'->ZJ st' es' v'->Q v' H')->((∀ d∈es,Qr d≠k)->∀ H' d,Qp H H'->H' d=none->E (.ref (cs 2)) (some d) (upd H' d (xD d [("key",k)])))->JLa P w cs ob vs H Q E
seal PE PT PW PA PS PSs PI PG QY PGs PO in
theorem JKc(Z:Zs mg)(T:Tx K mg CT cs ob)(XNb:Cal P w K mg base 6 "lowered" ["pages","heads"] (Zfa P w cs ob))(Jua:∀ n,Cal P w K mg base (15+n) "heads_without" ["pages","number","key"] (ZT P w cs ob n))(Xuc:Cal P w K mg base 6 "seek" ["pages","root","key"] (Qub P w cs ob))(QCb:MkX P w K mg base 1 "NoRow" (cs 2) CT ["key"])(F:Fun K "take" "take" JRb f fd):QF P w K mg base (CX1 P w) 24 f fd ["pages","root","key"] (JLa P w cs ob):=by
 refine F.ok1 JBc (fun vs H Q E h=>?_) (fun cdv A outer s H vs Q E hr h=>?_)
 ·walk_at "n"
 obtain⟨p,d1,d2,st,c,v,k,es,rfl,hS,hT,hR,l7,hk,few,q1,q3⟩:=h;refine⟨_,(@Qa _ _ _ _ _ (QN (Qs XPa (QA QI (Qo Xuc (k:=23) hr (by decide) rfl (Qf (pv 0) (Qf (pv 1) (Qf (pv 2) Qe)))) Qb (fun _ _=>rfl)) JL (Qw _)) (Qg (ZZa Yt rfl rfl rfl QCb (k:=23) hr (by decide) (Qf (pv 2) Qe))) Qu)
  (Qg (Qm (Qo XNb (k:=23) hr (by decide) rfl (Qf (pv 0) (Qf (Qo (Jua 8) (k:=23) hr (by decide) rfl (Qf (pv 0) (Qf (pv 1) (Qf (pv 2) Qe)))) Qe)))))),?_⟩
 refine Qn (σ:=[some (.ref p),some v,some k]) rfl ?_
 walk_at "rd";refine⟨p,d1,d2,st,c,v,k,es,rfl,hS,hT,hR,hk,fun r y H1 cv ws s1 hr1 g1 gy hy hf _=>⟨r,rfl,_,SqT.of g1,_,at0 _ _,?_⟩⟩
 rcases hf with ⟨c0,hc,tc⟩ | ⟨hno,rfl⟩
 ·obtain⟨_,a0,_,_,rfl,_,_⟩:=tc.tup
  rw[if_neg (fun z=>nomatch z)]
  have hin:∃ d∈es,Qr d=k:=⟨_,hc,rfl⟩;obtain⟨n,rfl⟩:∃ n,v=.int n:=by
   rcases hT with ⟨e,_⟩ | ⟨_,_,_,_,n,_,_,_,e⟩
   ·rw[e]at hc;cases hc
   ·exact⟨n,e⟩
  obtain⟨top,h6,rt⟩:=hT.root hS;obtain⟨part,hm,tp,_,hne⟩:=rt.page;have b1:(top+1) * es.length<=8 * es.length:=Nat.mul_le_mul_right _ (by omega)
  refine⟨p,d1,d2,st,c,n,top,part,es,k,rfl,hS.same s1,hm,tp,hin,hR.row,hR.up,l7,(show top<=7 by omega),by omega,hk,by omega,fun r2 H2 st2 c2 es' hs2 ys2 h2 hdel l2=>?_⟩
  have hle:hs2.length<=1:=by
   by_cases e:es'=[]
   ·rw[h2.tow.fst.1.mp e];exact Vk _
   ·obtain⟨k0,t0⟩:=rt.one
    obtain⟨k',n',e'⟩:=t0.single h2.tow rfl e hdel.sub;rw[e'];exact Ve _
  have lN':es'.length<=es.length:=by have:=hdel.sub.length_le;simpa using this
  exact⟨p,d1,d2,st2,c2,r2,ys2,hs2,top,es',rfl,h2.sA,h2.at_,h2.ty,h2.tow,hle,(fun d hd=>hR.row d ((hdel.mem hR.up ltK.irr d).mp hd).1),hdel.up hR.up,by omega,fun H3 v3 s3 ht3=>q1 hin H3 st2 c2 v3 es' ((s1.x _).trans (h2.sx.trans (s3.x _))) (h2.sA.same s3) h2.sub (by omega) hdel ht3⟩
 ·rw[if_pos rfl]
  exact⟨rfl,show 1<=1000 by decide,fun d hd=>q3 hno H1 d s1 hd⟩
end
inductive J1(K:W.Frag)(vs:List V)(H:Hp)(Q:VK)(E:XK):Prop
 | mk:∀ (a:Addr) (ns:List Int) (k:Nat),vs=[.ref a,.int k]->SqL K H a (ns.map V.int)->(∀ c,Q (.int c) H)->J1 K vs H Q E
seal PE PT PW PA PS PSs PI PG QY PGs PO in
theorem QDb(Z:Zs mg)(T:Tx K mg CT cs ob)(F:Fun K "_law_cell" "_law_cell" Qca f fd):QF P w K mg base CX0 1 f fd ["_law_script","_law_k"] (J1 K):=by
 refine F.ok Qfb (fun vs H Q E h=>?_) (fun cdv A outer s H vs Q E hr h=>?_)
 ·walk_at "n"
 obtain⟨a,ns,k,rfl,hS,q⟩:=h;refine⟨_,(@Qa _ _ _ _ _ (QN (Qs JUa (pv 1) (Qz QR rfl (Z.len) ZL (Qf (pv 0) Qe)) (Qw _)) (Qg (Qm (QA Q2 (pv 0) (pv 1) (fun _ _=>rfl)))) Qu)
  (Qg (Qm Qb))),?_⟩
 refine Qn (σ:=[some (.ref a),some (.int k)]) rfl ?_
 walk_at "rd";refine⟨_,.inl hS,Zg (fun h=>?_) fun _=>q 0⟩
 rw[Vr]at h;have hk:k < ns.length:=by omega
 exact⟨_,hS,.int ns[k],Zb (j:=k) (by simp[hk]),q _⟩
def JI:V->Prop
 | .str z=>∃ a b:Nat,∀ c∈z.cps.toList,c=a\/c=b\/c=32
 | _=>True
inductive Zy(u0_:W.Frag)(vs:List V)(H:Hp)(Q:VK)(E:XK):Prop
 | mk:∀ c k:Int,vs=[.int c,.int k]->(∀ m,0<=m->m < 2147483647->Q (.int m) H)->Zy u0_ vs H Q E
seal PE PT PW PA PS PSs PI PG QY PGs PO in
theorem ZPb(Z:Zs mg)(T:Tx K mg CT cs ob)(F:Fun K "_law_mix" "_law_mix" Q8a f fd):QF P w K mg base CX0 1 f fd ["_law_cell_here","_law_k"] (Zy K):=by
 refine F.ok Qda (fun vs H Q E h=>?_) (fun cdv A outer s H vs Q E hr h=>?_)
 ·walk_at "n"
 obtain⟨c,k,rfl,q⟩:=h;refine⟨_,(@Qa _ _ _ _ _ (Ql (i:=2) Qda.nd rfl (Or.inl rfl) (Qk QD (Qk Q9 (Qk Q9 (Qk QD (pv 0) Qb) (Qk Z6 Qb (pv 1))) Qb) Qb))
  (@Qa _ _ _ _ _ (Ql (i:=2) Qda.nd rfl (Or.inl rfl) (Qk QD (Qk Z6 (pv 2) (pv 2)) Qb))
  (Qg (Qm (Qk QD (Qk Z6 (Qk Q9 (pv 2) (Qk Z6 Qb (pv 1))) Qb) Qb))))),?_⟩
 refine Qn (σ:=[some (.int c),some (.int k),none]) rfl ?_
 walk_at "rd";walk_at "go";exact q _ (Int.emod_nonneg _ (by decide)) (Int.emod_lt_of_pos _ (by decide))
theorem XOb:(Str.ofString " !\"#$&'()*+,-./0123456789:;<=>?@ABCDEFGHIJKLMNOPQRSTUVWXYZ[\\]^_`"++Str.ofString "abcdefghijklmnopqrstuvwxyz{|}~").cps.toList.length=94:=by decide +kernel
inductive XJ(u0_:W.Frag)(vs:List V)(H:Hp)(Q:VK)(E:XK):Prop
 | mk:∀ c:Int,vs=[.int c]->(∀ x:Nat,Q (.str { cps:=#[x] }) H)->XJ u0_ vs H Q E
seal PE PT PW PA PS PSs PI PG QY PGs PO in
theorem QEb(Z:Zs mg)(T:Tx K mg CT cs ob)(F:Fun K "_law_sign" "_law_sign" Qea f fd):QF P w K mg base CX0 1 f fd ["_law_cell_here"] (XJ K):=by
 refine F.ok Xn (fun vs H Q E h=>?_) (fun cdv A outer s H vs Q E hr h=>?_)
 ·walk_at "n"
 obtain⟨c,rfl,q⟩:=h;refine⟨_,(@Qa _ _ _ _ _ (Ql (i:=1) Xn.nd rfl (Or.inl rfl) Xb)
  (@Qa _ _ _ _ _ (Ql (i:=1) Xn.nd rfl (Or.inl rfl) (Qk QXa (pv 1) Xb))
  (Qg (Qm (QA Jqb (pv 1) (Qk QD (pv 0) Qb) (fun _ _=>rfl)))))),?_⟩
 refine Qn (σ:=[some (.int c),none]) rfl ?_
 walk_at "rd";obtain⟨x,hx⟩:=Qob (l:=(Str.ofString " !\"#$&'()*+,-./0123456789:;<=>?@ABCDEFGHIJKLMNOPQRSTUVWXYZ[\\]^_`"++Str.ofString "abcdefghijklmnopqrstuvwxyz{|}~").cps.toList) (k:=c % 94) (by omega) (by rw[XOb];omega)
 exact⟨by decide,by decide,x,hx,q _⟩
theorem XPb{zs:List Str}(h:∀ z∈zs,z.length=1):(Txt.join (Str.ofString "") zs).length=zs.length:=by
 show(Txt.join (Str.ofString "") zs).cps.size=_;rw[<- Array.length_toList,Xxa,length_flatMap];have:zs.map (fun z=>z.cps.toList.length)=zs.map fun _=>1:=map_congr_left fun z hz=>by
  rw[Array.length_toList];exact h z hz
 rw[this,map_const',sum_replicate_nat]
 omega
theorem Zpc{zs:List Str}(h:∀ z∈zs,z.length=1):(zs.map fun x=>x.length).sum=zs.length:=by
 have:zs.map (fun z=>z.length)=zs.map fun _=>1:=map_congr_left fun z hz=>h z hz
 rw[this,map_const',sum_replicate_nat]
 omega
inductive ZB(u0_:W.Frag)(vs:List V)(H:Hp)(Q:VK)(E:XK):Prop
 | mk:∀ (c:Int) (n:Nat),vs=[.int c,.int n]->n<=41->(∀ (z:Str) H',z.length=n->JI (.str z)->Qp H H'->Q (.str z) H')->ZB u0_ vs H Q E
seal PE PT PW PA PS PSs PI PG QY PGs PO in
theorem QFb(Z:Zs mg)(T:Tx K mg CT cs ob)(Joa:Cal P w K mg base 1 "_law_sign" ["_law_cell_here"] (XJ K))(QX:Cal P w K mg base 1 "_law_mix" ["_law_cell_here","_law_k"] (Zy K))(F:Fun K "_law_text" "_law_text" Yv f fd):QF P w K mg base CX0 2 f fd ["_law_cell_here","_law_size"] (ZB K):=by
 refine F.ok JU (fun vs H Q E h=>?_) (fun cdv A outer s H vs Q E hr h=>?_)
 ·walk_at "n"
 obtain⟨c,n,rfl,hn,q⟩:=h;refine⟨_,(@Qa _ _ _ _ _ (Ql (i:=2) JU.nd rfl (Or.inr rfl) (Qo Joa (k:=1) hr (by decide) rfl (Qf (Qo QX (k:=1) hr (by decide) rfl (Qf (pv 0) (Qf Qb Qe))) Qe)))
  (@Qa _ _ _ _ _ (Ql (i:=3) JU.nd rfl (Or.inl rfl) (Qk QD (Qo QX (k:=1) hr (by decide) rfl (Qf (pv 0) (Qf Qb Qe))) (Qz (Xfa rfl) rfl (Z.max) Qjc (Qf (pv 1) (Qf Qb Qe)))))
  (@Qa _ _ _ _ _ (Zab (j:=4) ["_law_cell_here","_law_size","_law_fill","_law_at","_law_signs"] rfl JU.nd rfl rfl (Jka (N:=["_law_cell_here","_law_size","_law_fill","_law_at","_law_signs"]) (dsc:=Qj Yv) rfl rfl (by decide +kernel)) (YU rfl (Z.range) (Qf (pv 1) Qe)) (fun _ _ _ _ _=>Zsa) (fun _ _ _ _ _=>(pv 3)))
  (@Qa _ _ _ _ _ (QN (Qs Jga (pv 1) Qb (Qw _)) (Qg (Jeb (Qo Joa (k:=1) hr (by decide) rfl (Qf (Qo QX (k:=1) hr (by decide) rfl (Qf (pv 0) (Qf Qb Qe))) Qe)) (Yzc (pv 4) (pv 3) X9b))) Qu)
  (Qg (Qm (Jja PySem.F.plainAttrs_str PySem.F.slot_str_join PySem.F.type_str_join Z8c Xb (Qf (pv 4) Qe)))))))),?_⟩
 refine Qn (σ:=[some (.int c),some (.int n),none,none,none]) rfl ?_
 walk_at "rd";refine⟨_,_,rfl,fun m _ _=>⟨_,rfl,fun x=>⟨_,_,rfl,fun m2 h0 _=>?_⟩⟩⟩
 refine⟨_,_,⟨rfl,rfl⟩,_,rfl,by split <;> omega,by omega,by omega,?_⟩
 have hat:0<=m2 % (if (1:Int) > (n:Int) then 1 else (n:Int))/\m2 % (if (1:Int) > (n:Int) then 1 else (n:Int)) < (if (1:Int) > (n:Int) then 1 else (n:Int)):=⟨Int.emod_nonneg _ (by split <;> omega),Int.emod_lt_of_pos _ (by split <;> omega)⟩
 generalize m2 % (if (1:Int) > (n:Int) then 1 else (n:Int))=at' at hat ⊢
 refine Xta (fun i v=>v=.str { cps:=#[x] }) (Vv (QO (by omega))) (fun i H2 R hi s2 hR=>?_) fun D H2 ys hD s2 hy ly py=>?_
 ·walk_at "rd"
  exact hR _ _ rfl (Qp.refl _)
 have ly:ys.length=n:=by omega
 have ey:ys=(List.replicate n ({ cps:=#[x] }:Str)).map V.str:=by
  refine ext_getElem (by simp[ly]) fun i g1 g2=>?_
  rw[py i _ (Vb g1)]
  simp
 have o1:∀ z∈List.replicate n ({ cps:=#[x] }:Str),z.length=1:=fun z hz=>by rw[(mem_replicate.mp hz).2];rfl
 have fin:∀ (y:Nat) (H3:Hp) (zs:List Str),zs.length=n->(∀ z∈zs,z.length=1)->(∀ z∈zs,z=({ cps:=#[x] }:Str)\/z={ cps:=#[y] })->Qp H H3->H3 D=some (.lst (zs.map V.str))->tyV K "str" (V.str (Str.ofString "")) H3/\∃ x,V.ref D=V.ref x/\∃ x_2,SqL K H3 x (List.map V.str x_2)/\(List.map (fun x=>x.length) x_2).sum+x_2.length * (Str.ofString "").length<=16777216/\Q (V.str (Txt.join (Str.ofString "") x_2)) H3:=fun y H3 zs lz oz th s3 h3 =>
  ⟨rfl,D,rfl,zs,SqL.of h3,by rw[Zpc oz,lz];have:(Str.ofString "").length=0:=rfl;rw[this];omega,q _ _ (by rw[XPb oz,lz]) ⟨x,y,fun c hc=>by
   rw[Xxa]at hc;obtain⟨z,hz,hc⟩:=mem_flatMap.mp hc
   rcases th z hz with rfl | rfl
   ·exact .inl (by simpa using hc)
   ·exact .inr (.inl (by simpa using hc))⟩ s3⟩
 refine Zg (fun hp=>?_) fun _=>fin x H2 _ (by simp) o1 (fun z hz=>.inl (mem_replicate.mp hz).2) s2 (by rw[hy,ey])
 refine⟨_,_,rfl,fun m _ _=>⟨_,rfl,fun y=>?_⟩⟩
 walk_at "rd";have hj:ixN ys.length at'=some at'.toNat:=by
  unfold ixN;rw[if_pos hat.1,if_pos (by rw[ly];have:=hat.2;rw[if_neg (by omega)]at this;exact this)]
 refine⟨D,ys,_,at'.toNat,rfl,rfl,hy,hj,?_⟩
 walk_at "rd";have g3:upd H2 D (.lst (ys.set at'.toNat (.str { cps:=#[y] }))) D=_:=Qd;have s3:Qp H (upd H2 D (.lst (ys.set at'.toNat (.str { cps:=#[y] })))):=fun b o hb=>by
  rw[Qi (fun z=>by rw[z,hD]at hb;cases hb)];exact s2 b o hb
 have fin2:=fin y _ ((List.replicate n ({ cps:=#[x] }:Str)).set at'.toNat { cps:=#[y] }) (by simp) (fun z hz=>by
  rcases mem_or_eq_of_mem_set hz with hz | rfl
  ·exact o1 z hz
  ·rfl) (fun z hz=>by
  rcases mem_or_eq_of_mem_set hz with hz | rfl
  ·exact .inl (mem_replicate.mp hz).2
  ·exact .inr rfl) s3 (by rw[g3,ey,map_set])
 obtain⟨f1,_,e,f2⟩:=fin2;cases e;exact⟨f1,f2⟩
theorem JLc{k:Int}(h1 : -(2 ^ 128) < k)(h2:k < 2 ^ 128):Builtin.Int.intBits k<=2 ^ 20:=by
 unfold Builtin.Int.intBits
 split
 ·exact Vk _
 ·have hn:k.natAbs < 2 ^ 128:=by omega
  have:k.natAbs.log2 < 128:=by
   rcases Nat.eq_zero_or_pos k.natAbs with h0 | hp
   ·rw[h0];decide
   ·exact(Nat.log2_lt (Nat.ne_of_gt hp)).mpr hn
  omega
theorem JMc{i j:Int}(h1 : -(2 ^ 64) < i)(h2:i < 2 ^ 64):IntMulOk i j:=.of_left (intBits_le_64 h1 h2)
theorem Qxd{i j:Int}(h1 : -(2 ^ 64) < j)(h2:j < 2 ^ 64):IntMulOk i j:=.of_right (intBits_le_64 h1 h2)
inductive JC(u0_:W.Frag)(vs:List V)(H:Hp)(Q:VK)(E:XK):Prop
 | mk:∀ c:Int,vs=[.int c]->(∀ i:Int,-(10 ^ 30) < i->i < 10 ^ 30->Q (.int i) H)->JC u0_ vs H Q E
seal PE PT PW PA PS PSs PI PG QY PGs PO in
theorem Y3a(Z:Zs mg)(T:Tx K mg CT cs ob)(F:Fun K "_law_great" "_law_great" Xo f fd):QF P w K mg base CX0 1 f fd ["_law_cell_here"] (JC K):=by
 refine F.ok YTa (fun vs H Q E h=>?_) (fun cdv A outer s H vs Q E hr h=>?_)
 ·walk_at "n"
 obtain⟨c,rfl,q⟩:=h;refine⟨_,(Qg (Qm (Qk Jg (Qk QD (Qk Z6 (Qk QD (pv 0) (Qk JSa Qb Qb)) Qb) (Qk Jg (Qk Z6 Qb (Qk JSa Qb Qb)) Qb)) (Qk Jg (Qk JSa Qb Qb) Qb)))),?_⟩
 refine Qn (σ:=[some (.int c)]) rfl ?_
 walk_at "rd";refine⟨by unfold QZb;decide,by decide,IntMulOk.of_bits (JLc (by omega) (by omega)) (by decide +kernel),by unfold QZb;decide,JMc (by decide) (by decide),by decide,by unfold QZb;decide,q _ (by omega) (by omega)⟩
inductive XL(u0_:W.Frag)(vs:List V)(H:Hp)(Q:VK)(E:XK):Prop
 | mk:∀ c:Int,vs=[.int c]->(∀ i H',-(10 ^ 30) < i->i < 10 ^ 30->Qp H H'->Q (.int i) H')->XL u0_ vs H Q E
seal PE PT PW PA PS PSs PI PG QY PGs PO in
theorem QGb(Z:Zs mg)(T:Tx K mg CT cs ob)(QX:Cal P w K mg base 1 "_law_mix" ["_law_cell_here","_law_k"] (Zy K))(F:Fun K "_law_tall" "_law_tall" Qja f fd):QF P w K mg base CX0 2 f fd ["_law_cell_here"] (XL K):=by
 refine F.ok JV (fun vs H Q E h=>?_) (fun cdv A outer s H vs Q E hr h=>?_)
 ·walk_at "n"
 obtain⟨c,rfl,q⟩:=h;refine⟨_,(@Qa _ _ _ _ _ (Ql (i:=1) JV.nd rfl (Or.inl rfl) (Qk QD (Qo QX (k:=1) hr (by decide) rfl (Qf (pv 0) (Qf Qb Qe))) Qb))
  (@Qa _ _ _ _ _ (Ql (i:=2) JV.nd rfl (Or.inl rfl) (Qk Z6 (Qk QD (Qk Q8 (pv 0) Qb) Qb) (QA Q2 (Ji (Qf Qb (Qf Qb (Qf Qb (Qf Qb (Qf Qb (Qf Qb Qe))))))) (Qk QD (pv 0) Qb) (fun _ _=>rfl))))
  (@Qa _ _ _ _ _ (Ql (i:=3) JV.nd rfl (Or.inl rfl) (Qk Q9 (Qk Z6 (pv 1) Qb) (Qk XYb (Qk QD (pv 1) Qb) (pv 2))))
  (Qg (Qm (Qk Q9 (Qk QD (Qk Z6 (Qk Jg (pv 3) Qb) Qb) Qb) (Qk Z6 Qb (Qk Jg (Qk QD (Qk Q8 (pv 0) Qb) Qb) Qb)))))))),?_⟩
 refine Qn (σ:=[some (.int c),none,none,none]) rfl ?_
 walk_at "rd";refine⟨_,_,rfl,fun m _ _=>⟨_,rfl,by unfold J7;decide,show 6<=sizeLine from Vv (QO (by omega)),fun p hp=>⟨_,SqL.of Qd,?_⟩⟩⟩
 have hx:∃ x,atI [V.int 4,V.int 16,V.int 64,V.int 256,V.int 1024,V.int 4096] (c % 6)=some (V.int x):=by
  have h:c % 6=0\/c % 6=1\/c % 6=2\/c % 6=3\/c % 6=4\/c % 6=5:=by omega
  rcases h with h | h | h | h | h | h <;> rw[h] <;> exact⟨_,rfl⟩
 obtain⟨x,hx⟩:=hx;exact⟨_,hx,_,rfl,JMc (by omega) (by omega),JMc (by omega) (by omega),Qxd (by decide) (by decide),by unfold J7;decide,JMc (by decide) (by decide),q _ _ (by omega) (by omega) (Qh hp _)⟩
inductive JJ(u0_:W.Frag)(vs:List V)(H:Hp)(Q:VK)(E:XK):Prop
 | mk:∀ c:Int,vs=[.int c]->(∀ v H',Q6 v->JI v->Qp H H'->Q v H')->JJ u0_ vs H Q E
seal PE PT PW PA PS PSs PI PG QY PGs PO in
theorem ZQb(Z:Zs mg)(T:Tx K mg CT cs ob)(JK:Cal P w K mg base 2 "_law_text" ["_law_cell_here","_law_size"] (ZB K))(ZRb:Cal P w K mg base 2 "_law_tall" ["_law_cell_here"] (XL K))(XM:Cal P w K mg base 1 "_law_great" ["_law_cell_here"] (JC K))(F:Fun K "_law_key" "_law_key" Zba f fd):QF P w K mg base CX0 3 f fd ["_law_cell_here"] (JJ K):=by
 refine F.ok Yw (fun vs H Q E h=>?_) (fun cdv A outer s H vs Q E hr h=>?_)
 ·walk_at "n"
 obtain⟨c,rfl,q⟩:=h;refine⟨_,(@Qa _ _ _ _ _ (Ql (i:=1) Yw.nd rfl (Or.inl rfl) (Qk Q8 (pv 0) Qb))
  (@Qa _ _ _ _ _ (QN (Qs Zk (Qk QD (pv 0) Qb) Qb (Qw _)) (Qg (Qm (Qk Jg (Qk QD (pv 1) Qb) Qb))) Qu)
  (@Qa _ _ _ _ _ (QN (Qs Zk (Qk QD (pv 0) Qb) Qb (Qw _)) (Qg (Qm (Qo ZRb (k:=2) hr (by decide) rfl (Qf (pv 1) Qe)))) Qu)
  (@Qa _ _ _ _ _ (QN (Qs Zk (Qk QD (pv 0) Qb) Qb (Qw _)) (Qg (Qm (Qo XM (k:=2) hr (by decide) rfl (Qf (pv 1) Qe)))) Qu)
  (@Qa _ _ _ _ _ (Ql (i:=2) Yw.nd rfl (Or.inl rfl) (Qk Q9 Qb (Qk QD (pv 1) Qb)))
  (@Qa _ _ _ _ _ (QN (Qs Zk (Qk QD (Qk Q8 (pv 1) Qb) Qb) Qb (Qw _)) (Qg (Ql (i:=2) Yw.nd rfl (Or.inl rfl) (Qk Q9 Qb (Qk QD (Qk Q8 (pv 1) Qb) Qb)))) Qu)
  (Qg (Qm (Qo JK (k:=2) hr (by decide) rfl (Qf (pv 1) (Qf (pv 2) Qe))))))))))),?_⟩
 refine Qn (σ:=[some (.int c),none,none]) rfl ?_
 walk_at "rd";have tx:∀ (a b:Int) (E:XK),0<=b->b<=40->ZB K [.int a,.int b] H Q E:=fun a b E h0 h1=>by
  obtain⟨n,rfl⟩:=Int.eq_ofNat_of_zero_le h0;exact⟨_,n,rfl,by omega,fun z H' hz th s=>q _ _ (show _<=_ by omega) th s⟩
 refine⟨by unfold J7;decide,Zg (fun _=>q _ _ (show _/\_ by omega) trivial (Qp.refl _)) fun _=>Zg (fun _=>⟨_,rfl,fun i H' h0 h1 s=>q _ _ (show _/\_ by omega) trivial s⟩) fun _=>Zg (fun _=>⟨_,rfl,fun i h0 h1=>q _ _ (show _/\_ by omega) trivial (Qp.refl _)⟩) fun _=>⟨by unfold J7;decide,Zg (fun _=>⟨by unfold J7;decide,tx _ _ _ (by omega) (by omega)⟩) fun _=>tx _ _ _ (by omega) (by omega)⟩⟩
inductive YS(u0_:W.Frag)(vs:List V)(H:Hp)(Q:VK)(E:XK):Prop
 | mk:∀ c:Int,vs=[.int c]->(∀ v H',Pl.Zt v->Qp H H'->Q v H')->YS u0_ vs H Q E
seal PE PT PW PA PS PSs PI PG QY PGs PO in
theorem Y4a(Z:Zs mg)(T:Tx K mg CT cs ob)(JK:Cal P w K mg base 2 "_law_text" ["_law_cell_here","_law_size"] (ZB K))(XM:Cal P w K mg base 1 "_law_great" ["_law_cell_here"] (JC K))(F:Fun K "_law_plain" "_law_plain" Xr f fd):QF P w K mg base CX0 3 f fd ["_law_cell_here"] (YS K):=by
 refine F.ok Jx (fun vs H Q E h=>?_) (fun cdv A outer s H vs Q E hr h=>?_)
 ·walk_at "n"
 obtain⟨c,rfl,q⟩:=h;refine⟨_,(@Qa _ _ _ _ _ (Ql (i:=1) Jx.nd rfl (Or.inl rfl) (Qk Q8 (pv 0) Qb))
  (@Qa _ _ _ _ _ (QN (Qs Zk (Qk QD (pv 0) Qb) Qb (Qw _)) (Qg (Qm (Qk Jg (Qk QD (pv 1) Qb) Qb))) Qu)
  (@Qa _ _ _ _ _ (QN (Qs Zk (Qk QD (pv 0) Qb) Qb (Qw _)) (Qg (Qm (Qo XM (k:=2) hr (by decide) rfl (Qf (pv 1) Qe)))) Qu)
  (@Qa _ _ _ _ _ (Ql (i:=2) Jx.nd rfl (Or.inl rfl) (Qk QD (pv 1) Qb))
  (@Qa _ _ _ _ _ (QN (Qs Zk (Qk QD (Qk Q8 (pv 1) Qb) Qb) Qb (Qw _)) (Qg (Ql (i:=2) Jx.nd rfl (Or.inl rfl) (Qk QD (Qk Q8 (pv 1) Qb) Qb))) Qu)
  (Qg (Qm (Qo JK (k:=2) hr (by decide) rfl (Qf (pv 1) (Qf (pv 2) Qe)))))))))),?_⟩
 refine Qn (σ:=[some (.int c),none,none]) rfl ?_
 walk_at "rd";have tx:∀ (a b:Int) (E:XK),0<=b->b<=40->ZB K [.int a,.int b] H Q E:=fun a b E h0 h1=>by
  obtain⟨n,rfl⟩:=Int.eq_ofNat_of_zero_le h0;exact⟨_,n,rfl,by omega,fun z H' hz _ s=>q _ _ (show _<=_ by omega) s⟩
 refine⟨by unfold J7;decide,Zg (fun _=>q _ _ (show _/\_ by omega) (Qp.refl _)) fun _=>Zg (fun _=>⟨_,rfl,fun i h0 h1=>q _ _ (show _/\_ by omega) (Qp.refl _)⟩) fun _=>⟨by unfold J7;decide,Zg (fun _=>⟨by unfold J7;decide,tx _ _ _ (by omega) (by omega)⟩) fun _=>tx _ _ _ (by omega) (by omega)⟩⟩
theorem Zqc(h:Pl.Zt v):hV v=true:=by
 cases v <;> first | rfl | exact h.elim
inductive YT(u0_:W.Frag)(vs:List V)(H:Hp)(Q:VK)(E:XK):Prop
 | mk:∀ c:Int,vs=[.int c]->(∀ v H',FzH H' 2 v->Qp H H'->Q v H')->YT u0_ vs H Q E
seal PE PT PW PA PS PSs PI PG QY PGs PO in
theorem Y5a(Z:Zs mg)(T:Tx K mg CT cs ob)(QHb:Cal P w K mg base 3 "_law_plain" ["_law_cell_here"] (YS K))(JK:Cal P w K mg base 2 "_law_text" ["_law_cell_here","_law_size"] (ZB K))(F:Fun K "_law_value" "_law_value" Xt f fd):QF P w K mg base CX0 4 f fd ["_law_cell_here"] (YT K):=by
 refine F.ok QMa (fun vs H Q E h=>?_) (fun cdv A outer s H vs Q E hr h=>?_)
 ·walk_at "n"
 obtain⟨c,rfl,q⟩:=h;refine⟨_,(@Qa _ _ _ _ _ (QN (Qs Zk (Qk QD (pv 0) Qb) Qb (Qw _)) (@Qa _ _ _ _ _ (Ql (i:=1) QMa.nd rfl (Or.inl rfl) (QA Q2 (Ji (Qf JL (Qf (Qk QD (Qk Q8 (pv 0) Qb) Qb) (Qf Xb (Qf Xb Qe))))) (Qk QD (Qk Q8 (pv 0) Qb) Qb) (fun _ _=>rfl)))
  (Qg (Qm (Zm (Qf (pv 1) (Qf (Zm (Qf (Qk QD (Qk Q8 (pv 0) Qb) Qb) (Qf (Qo JK (k:=3) hr (by decide) rfl (Qf (Qk Q8 (pv 0) Qb) (Qf (Qk QD (Qk Q8 (pv 0) Qb) Qb) Qe))) Qe))) Qe)))))) Qu)
  (Qg (Qm (Qo QHb (k:=3) hr (by decide) rfl (Qf (Qk Q8 (pv 0) Qb) Qe))))),?_⟩
 refine Qn (σ:=[some (.int c),none]) rfl ?_
 walk_at "rd";refine Zg (fun _=>?_) fun _=>⟨by unfold J7;decide,_,rfl,fun v H' h s=>q _ _ (.v (Zqc h)) s⟩
 refine⟨by unfold J7;decide,show 4<=sizeLine from Vv (QO (by omega)),fun p hp=>⟨by unfold J7;decide,_,SqL.of Qd,?_⟩⟩
 have hx:∃ x,atI [V.non,V.int (c / 6 % 100),V.str (Str.ofString ""),V.str (Str.ofString "b")] (c / 600 % 4)=some x/\hV x=true:=by
  have h:c / 600 % 4=0\/c / 600 % 4=1\/c / 600 % 4=2\/c / 600 % 4=3:=by omega
  rcases h with h | h | h | h <;> rw[h] <;> exact⟨_,rfl,rfl⟩
 obtain⟨x,hx,vx⟩:=hx;obtain⟨n,en⟩:=Int.eq_ofNat_of_zero_le (show 0<=c / 540 % 5 by omega)
 refine⟨_,hx,by unfold J7;decide,by unfold J7;decide,by unfold J7;decide,_,n,by rw[en],by omega,fun z H1 hz _ s1=>⟨Z8,fun p1 hp1=>⟨Z8,fun p2 hp2=>?_⟩⟩⟩
 exact q _ _ (FzH.pair Qd (.v vx) (FzH.pair (Qh hp2 _ _ _ Qd) (.v rfl) (.v rfl))) ((Qh hp _).trans (s1.trans ((Qh hp1 _).trans (Qh hp2 _))))
inductive Z0(u0_:W.Frag)(vs:List V)(H:Hp)(Q:VK)(E:XK):Prop
 | mk:∀ c:Int,vs=[.int c]->(∀ r H',Qp H H'->FzH H' 4 (.ref r)->Q (.ref r) H')->Z0 u0_ vs H Q E
seal PE PT PW PA PS PSs PI PG QY PGs PO in
theorem Y6a(Z:Zs mg)(T:Tx K mg CT cs ob)(QIb:Cal P w K mg base 4 "_law_value" ["_law_cell_here"] (YT K))(QX:Cal P w K mg base 1 "_law_mix" ["_law_cell_here","_law_k"] (Zy K))(F:Fun K "_law_cells" "_law_cells" Xv f fd):QF P w K mg base CX0 5 f fd ["_law_cell_here"] (Z0 K):=by
 refine F.ok YK (fun vs H Q E h=>?_) (fun cdv A outer s H vs Q E hr h=>?_)
 ·walk_at "n"
 obtain⟨c,rfl,q⟩:=h;refine⟨_,(@Qa _ _ _ _ _ (Ql (i:=1) YK.nd rfl (Or.inl rfl) (Ji Qe))
  (@Qa _ _ _ _ _ (JM PassesOwn.never rfl (YU rfl (Z.range) (Qf (Qk QD (pv 0) Qb) Qe)) (Q7 (i:=2) YK.nd rfl (Or.inl rfl)) (Qg (ZK (Jja PySem.F.plainAttrs_list PySem.F.slot_list_append PySem.F.type_list_append Ja (pv 1) (Qf (Zm (Qf (Qk QXa (QA Jqb Xb (pv 2) (fun _ _=>rfl)) (QA Jqb Xb (Qk QD (Qk Q8 (pv 0) Qb) Qb) (fun _ _=>rfl))) (Qf (Qo QIb (k:=4) hr (by decide) rfl (Qf (Qo QX (k:=4) hr (by decide) rfl (Qf (pv 0) (Qf (Qk Q9 Qb (pv 2)) Qe))) Qe)) Qe))) Qe)))))
  (Qg (Qm (Zr QHa rfl (Z.tuple) Zta (Qf (pv 1) Qe)))))),?_⟩
 refine Qn (σ:=[some (.int c),none,none]) rfl ?_
 walk_at "rd";refine⟨Vk _,fun p hp=>⟨by omega,by omega,?_⟩⟩
 have c0:=Yia.start (n:=3) hp;refine Qxa (fun i σ' H'=>∃ xs x,σ'=[some (.int c),some (.ref p),x]/\Yia H 3 p H' xs/\xs.length=i/\i<=3) ⟨_,_,rfl,c0,rfl,by omega⟩ ?_ ?_
 ·rintro i σ' H' hi ⟨xs,x,rfl,c1,l1,l2⟩
  walk_at "rd";obtain⟨x1,h1⟩:=Qob (l:=(Str.ofString "abc").cps.toList) (k:=0+(i:Int)) (by omega) (by rw[show(Str.ofString "abc").cps.toList.length=3 by decide];omega)
  obtain⟨x2,h2⟩:=Qob (l:=(Str.ofString "xyz").cps.toList) (k:=c / 4 % 3) (by omega) (by rw[show(Str.ofString "xyz").cps.toList.length=3 by decide];omega)
  refine⟨.inl ⟨rfl,_,SqL.of c1.at_⟩,by decide,x1,h1,by unfold J7;decide,by decide,x2,h2,show 2<=sizeLine from Vv (QO (by omega)),_,_,rfl,fun m _ _=>⟨_,rfl,fun v H2 hv s2=>⟨Z8,fun p1 hp1=>⟨xs,Qh hp1 _ _ _ (s2 _ _ c1.at_),QO (by omega),_,c1.more (s2.trans (Qh hp1 _)) (FzH.pair Qd (.v rfl) (hv.same (Qh hp1 _))),by simp[l1],by omega⟩⟩⟩⟩
 ·rintro σ' H' ⟨xs,x,rfl,c1,l1,l2⟩
  walk_at "rd";exact⟨_,.inl ⟨SqL.of c1.at_,fun r hr=>q r _ ((c1.same).trans (Qh hr _)) (.t Qd fun x hx=>(c1.fz x hx).same (Qh hr _))⟩⟩
theorem ZVa(h:Q6 v):∃ k:Key,v=kV k:=by
 cases v with
 | int n=>exact⟨.inl n,rfl⟩
 | str z=>exact⟨.inr z,rfl⟩
 | _=>exact h.elim
theorem XIa(h:Q6 v):Pl.Zt v:=by
 cases v with
 | int n=>exact h
 | str z=>exact h
 | _=>exact h.elim
theorem J4b{k:Key}(h:(kvs.map Prod.fst).Nodup):((ZX kvs k v).map Prod.fst).Nodup:=by
 unfold ZX
 split
 ·rw[map_map]
  have e:kvs.map (Prod.fst ∘ fun q=>if q.1=k then (q.1,v) else q)=kvs.map Prod.fst:=map_congr_left fun q _=>by
   show(if q.1=k then (q.1,v) else q).1=q.1
   split <;> rfl
  rw[e];exact h
 ·rename_i hn
  rw[map_append,nodup_append];refine⟨h,by simp,fun a ha b hb=>?_⟩
  have hb:b=k:=by simpa using hb
  subst hb;intro z;subst z;obtain⟨q,hq,e⟩:=mem_map.mp ha;exact hn (any_eq_true.mpr ⟨q,hq,decide_eq_true e⟩)
theorem Yza{a b:Key}(h:kV a=kV b):a=b:=by
 cases a <;> cases b <;> cases h <;> rfl
def Jea:V->Bool | .int _=>true | _=>false
def Zga:V->Bool | .str _=>true | _=>false
theorem J5b{l:List V}(h:∀ v∈l,Q6 v):(l.filter Jea++l.filter Zga).Perm l:=by
 have e:l.filter Zga=l.filter (fun v=>!Jea v):=filter_congr fun v hv=>by
  have:=h v hv;cases v <;> first | rfl | exact this.elim
 rw[e];exact filter_append_perm _ _
theorem XJa{K:W.Frag}{k:Key}(q:Q (.bl (Zga (kV k))) H):Jtb K [kV k,.ty "str"] H Q:=by
 cases k with
 | inl n=>exact ZM (.int n) Yz q
 | inr z=>exact ZM (.str z) YA q
theorem YAa{H2:Hp}{d:Addr}{x y:HO}(n:H1 d=some y)(s2:Qp (upd H1 d x) H2):Qp H1 (upd H2 d y):=fun b o hb=>by
 by_cases z:b=d
 ·subst z;rw[n]at hb;rw[Qd,hb]
 ·rw[Qi z];exact s2 b o (by rw[Qi z];exact hb)
theorem Ypc{ys:List V}(hk:∀ v∈ys,Q6 v)(ho:(∀ v∈ys,∃ n,v=.int n)\/∀ v∈ys,∃ z,v=.str z)(nd:ys.Nodup)(h:ys.Pairwise fun a b=>ltP b a=false):ys.Pairwise fun a b=>Pl.ltV a b=true:=by
 refine List.Pairwise.imp_of_mem (fun {a b} ha hb hab=>?_) (h.and nd)
 obtain⟨h1,h2⟩:=hab;have e:Pl.ltV b a=false:=by
  rcases ho with ho | ho
  ·obtain⟨x,rfl⟩:=ho a ha
   obtain⟨y,rfl⟩:=ho b hb;rw[Pl.Yyb];exact h1
  ·obtain⟨x,rfl⟩:=ho a ha
   obtain⟨y,rfl⟩:=ho b hb;rw[Pl.Yzb];exact h1
 cases e2:Pl.ltV a b with
 | true=>rfl
 | false=>exact(h2 (Pl.tri (XIa (hk a ha)) (XIa (hk b hb)) e2 e)).elim
structure Jfa(H:Hp)(kvs:List (Key×V))(ks xs:List V):Prop where
 len:xs.length=ks.length
 at_:∀ (i:Nat) x,xs[i]?=some x->∃ a k v,x=.ref a/\ks[i]?=some (kV k)/\H a=some (.tup [kV k,v])/\(k,v)∈kvs
 up:ks.Pairwise fun a b=>Pl.ltV a b=true
 perm:ks.Perm (kvs.map fun p=>kV p.1)
theorem Zrc{k:Key}{w':V}(h:(k,w')∈kvs):∃ w,ZI kvs k=some w/\(k,w)∈kvs:=by
 unfold ZI;cases e:kvs.find? fun kv=>decide (kv.1=k) with
 | none =>
  have:=find?_eq_none.mp e _ h
  simp at this
 | some p =>
  have h1:=find?_some e
  have h2:=mem_of_find?_eq_some e
  have h1:p.1=k:=by simpa using h1
  exact⟨p.2,rfl,by rw[<- h1];exact h2⟩
inductive Jp(K:W.Frag)(vs:List V)(H:Hp)(Q:VK)(E:XK):Prop
 | mk:∀ d kvs,vs=[.ref d]->H d=some (.dK kvs)->kvs.length<=130->(∀ p∈kvs,Q6 (kV p.1))->(kvs.map Prod.fst).Nodup->(∀ r H' xs ks,Qp H H'->H r=none->H' r=some (.lst xs)->Jfa H' kvs ks xs->Q (.ref r) H')->Jp K vs H Q E
seal PE PT PW PA PS PSs PI PG QY PGs PO in
theorem YBa(Z:Zs mg)(T:Tx K mg CT cs ob)(F:Fun K "_law_rising" "_law_rising" ZE f fd):QF P w K mg base CX0 1 f fd ["_law_some"] (Jp K):=by
 refine F.ok Yd (fun vs H Q E h=>?_) (fun cdv A outer s H vs Q E hr h=>?_)
 ·walk_at "n"
 obtain⟨d,kvs,rfl,g1,l1,k1,nd1,q⟩:=h;refine⟨_,(@Qa _ _ _ _ _ (Ql (i:=1) Yd.nd rfl (Or.inl rfl) (Qz ZCa rfl (Z.sorted) Xwa (Qf (YHb (YX ["_law_some","_law_keys"] rfl (Jka (N:=["_law_some","_law_keys"]) (dsc:=Qj ZE) rfl rfl (by decide +kernel)) (X5a (pv 0)) (fun _ _ _ _ _=>(XTa (Js (ZU (Qz (r:=Jtb K) Ze rfl (Z.isinstance) Q0 (Qf (pv 0) (Qf (Ju rfl (Z.str) J1a (v:=.ty "str") rfl) Qe))) (fun _=>rfl))))) (fun _ _ _ _ _=>(pv 0)))) Qe)))
  (@Qa _ _ _ _ _ (Ql (i:=1) Yd.nd rfl (Or.inl rfl) (Qk ZW (pv 1) (Qz ZCa rfl (Z.sorted) Xwa (Qf (YHb (YX ["_law_some","_law_keys"] rfl (Jka (N:=["_law_some","_law_keys"]) (dsc:=Qj ZE) rfl rfl (by decide +kernel)) (X5a (pv 0)) (fun _ _ _ _ _=>(XTa (ZU (Qz (r:=Jtb K) Ze rfl (Z.isinstance) Q0 (Qf (pv 0) (Qf (Ju rfl (Z.str) J1a (v:=.ty "str") rfl) Qe))) (fun _=>rfl)))) (fun _ _ _ _ _=>(pv 0)))) Qe))))
  (Qg (Qm (YX ["_law_some","_law_keys"] rfl (Jka (N:=["_law_some","_law_keys"]) (dsc:=Qj ZE) rfl rfl (by decide +kernel)) (Jwa (pv 1)) (fun _ _ _ _ _=>Zsa) (fun _ _ _ _ _=>(Zm (Qf (pv 0) (Qf (JBa hr.u1 (pv 1) (pv 0) (fun _ _=>rfl)) Qe))))))))),?_⟩
 refine Qn (σ:=[some (.ref d),none]) rfl ?_
 walk_at "rd";have kl:∀ v∈kvs.map fun q=>kV q.1,Q6 v:=fun v hv=>by
  obtain⟨r,hr,rfl⟩:=mem_map.mp hv;exact k1 r hr
 have ndl:(kvs.map fun q=>kV q.1).Nodup:=by
  have:=List.Pairwise.map (S:=(·≠·)) kV (fun a b h e=>h (Yza e)) nd1
  rw[map_map]at this;exact this
 refine⟨kvs,g1,fun ob nf=>Yca Jea (Y4 (by omega)) Qd (fun k v H3 R hm s3 hR=>?_) fun D H2 hD s2 hy=>?_⟩
 ·walk_at "rd"
  refine XJa ?_
  have e:(!Zga (kV k))=Jea (kV k):=by cases k <;> rfl
  exact⟨_,rfl,by rw[e];exact hR _ (Qp.refl _)⟩
 have dD:D≠d:=fun z=>by rw[z,Qd]at hD;cases hD
 have lf:∀ p:V->Bool,((kvs.map fun q=>kV q.1).filter p).length<=130:=fun p=>Vj (length_filter_le _ _) (by rw[Vr];omega)
 have kf:∀ p:V->Bool,∀ v∈(kvs.map fun q=>kV q.1).filter p,Q6 v/\p v=true:=fun p v hv=>by
  obtain⟨h1,h2⟩:=mem_filter.mp hv;exact⟨kl v h1,h2⟩
 have i1:∀ v∈(kvs.map fun q=>kV q.1).filter Jea,∃ n,v=.int n:=fun v hv=>by
  have:=(kf _ v hv).2;cases v <;> first | exact⟨_,rfl⟩ | cases this
 have i2:∀ v∈(kvs.map fun q=>kV q.1).filter Zga,∃ n,v=.str n:=fun v hv=>by
  have:=(kf _ v hv).2;cases v <;> first | exact⟨_,rfl⟩ | cases this
 have t2:Qp H (upd H2 d (.dK kvs)):=YAa g1 s2;refine⟨d,nf,ob,kvs,s2 _ _ Qd,D,_,ltP,rfl,SqL.of (by rw[Qi dD];exact hy),by have:=lf Jea;omega,QPc i1,fun D2 H3 ys s3 hD2 hy2 pm so=>?_⟩
 have g3:H3 d=some (.dK kvs):=s3 _ _ Qd;have dD2:D2≠d:=fun z=>by rw[z,g3]at hy2;cases hy2
 refine⟨kvs,g3,fun ob2 nf2=>Yca Zga (Y4 (by omega)) Qd (fun k v H3 R hm s3 hR=>?_) fun E1 H4 hE s4 hy4=>?_⟩
 ·walk_at "rd"
  exact XJa ⟨_,rfl,hR _ (Qp.refl _)⟩
 have dE:E1≠d:=fun z=>by rw[z,Qd]at hE;cases hE
 have t4:Qp H (upd H4 d (.dK kvs)):=(t2.trans s3).trans (YAa g3 s4);refine⟨d,nf2,ob2,kvs,s4 _ _ Qd,E1,_,ltP,rfl,SqL.of (by rw[Qi dE];exact hy4),by have:=lf Zga;omega,QQc i2,fun D3 H5 zs s5 hD3 hy5 pm2 so2=>?_⟩
 have l2:ys.length<=kvs.length:=by rw[pm.length_eq];exact Vj (length_filter_le _ _) (by rw[Vr];exact Ve _)
 have l3:zs.length<=kvs.length:=by rw[pm2.length_eq];exact Vj (length_filter_le _ _) (by rw[Vr];exact Ve _)
 have g5:H5 d=some (.dK kvs):=s5 _ _ Qd;have t5:=t4.trans s5;refine⟨D2,rfl,D3,rfl,ys,s5 _ _ (by rw[Qi dD2];exact s4 _ _ (by rw[Qi dD2];exact hy2)),zs,hy5,Y4 (by omega),fun p hp=>?_⟩
 have ks_perm:(ys++zs).Perm (kvs.map fun p=>kV p.1):=(pm.append pm2).trans (J5b kl)
 have up:(ys++zs).Pairwise fun a b=>Pl.ltV a b=true:=by
  rw[pairwise_append];refine⟨Ypc (fun v hv=>(kf _ v (pm.mem_iff.mp hv)).1) (.inl fun v hv=>i1 v (pm.mem_iff.mp hv)) (pm.nodup_iff.mpr (ndl.filter _)) so,Ypc (fun v hv=>(kf _ v (pm2.mem_iff.mp hv)).1) (.inr fun v hv=>i2 v (pm2.mem_iff.mp hv)) (pm2.nodup_iff.mpr (ndl.filter _)) so2,fun a ha b hb=>?_⟩
  obtain⟨x,rfl⟩:=i1 a (pm.mem_iff.mp ha);obtain⟨y,rfl⟩:=i2 b (pm2.mem_iff.mp hb);exact Pl.Qwc _ _
 have lk:(ys++zs).length<=130:=by rw[ks_perm.length_eq,Vr];exact l1
 generalize ys++zs=ks at ks_perm up lk ⊢;have s6:Qp H5 (upd H5 p (.lst ks)):=Qh hp _;have g6:upd H5 p (.lst ks) p=some (.lst ks):=Qd;have np:H p=none:=by
  cases e:H p with
  | none=>rfl
  | some o=>rw[t5 _ _ e]at hp;cases hp
 generalize upd H5 p (.lst ks)=H6 at s6 g6 ⊢;refine⟨⟨_,SqL.of g6⟩,Xkb ks (fun H' i v=>∃ a k w,v=.ref a/\ks[i]?=some (kV k)/\H' a=some (.tup [kV k,w])/\(k,w)∈kvs) (fun H H' i v st ⟨a,k,w,e1,e2,e3,e4⟩=>⟨a,k,w,e1,e2,st _ _ e3,e4⟩) (SqL.of g6) (Y4 (by omega)) (fun i x H7 R hx s7 hR=>?_) fun r H7 xs hr0 s7 hr7 le pe=>?_⟩
 ·obtain⟨⟨k,w'⟩,hm,ek⟩:=mem_map.mp (ks_perm.mem_iff.mp (Vm hx))
  obtain⟨w,hw,hmw⟩:=Zrc hm;subst ek;walk_at "rd";exact⟨w,hw ▸ QZa.k (k:=k) ((s6.trans s7) _ _ g5),Z8,fun q1 hq1=>hR _ _ ⟨q1,k,w,rfl,hx,Qd,hmw⟩ (Qh hq1 _)⟩
 ·refine q r H7 xs ks (t5.trans (s6.trans s7)) ?_ hr7 ⟨le,pe,up,ks_perm⟩
  cases e:H r with
  | none=>rfl
  | some o=>rw[(t5.trans s6) _ _ e]at hr0;cases hr0
theorem YCa{d:Addr}{o:HO}(h:H d=some (.dK kvs)):Zl H (upd H d o):=fun b xs hb=>by
 rw[Qi (Jf hb h (by intro z;cases z))];exact hb
structure JNc(H:Hp)(xs:List V):Prop where
 at_:∀ x∈xs,∃ a k w,x=.ref a/\H a=some (.tup [k,w])/\Q6 k/\FzH H 4 w
 up:xs.Pairwise fun x y=>∀ a b k k' w w',x=.ref a->y=.ref b->H a=some (.tup [k,w])->H b=some (.tup [k',w'])->Pl.ltV k k'=true
theorem Jfa.risen(h:Jfa H kvs ks xs)(ok:∀ p∈kvs,Q6 (kV p.1)/\FzH H 4 p.2):JNc H xs where
 at_:=fun x hx=>by
  obtain⟨i,hi⟩:=mem_iff_getElem?.mp hx;obtain⟨a,k,w,e,_,ha,hm⟩:=h.at_ i x hi;exact⟨a,kV k,w,e,ha,(ok _ hm).1,(ok _ hm).2⟩
 up:=by
  rw[pairwise_iff_getElem];intro i j hi hj hij a b k k' w w' ea eb ha hb;obtain⟨a1,k1,w1,e1,hk1,h1,_⟩:=h.at_ i _ (Vb hi)
  obtain⟨a2,k2,w2,e2,hk2,h2,_⟩:=h.at_ j _ (Vb hj)
  rw[ea]at e1;cases e1;rw[eb]at e2;cases e2;rw[ha]at h1;cases h1;rw[hb]at h2;cases h2;obtain⟨hi',e3⟩:=Vc.mp hk1
  obtain⟨hj',e4⟩:=Vc.mp hk2
  have:=pairwise_iff_getElem.mp h.up i j hi' hj' hij;rw[e3,e4]at this;exact this
theorem ZJ.mono(h:ZJ st es v)(s:∀ x∈Qt st,x∈Qt st'):ZJ st' es v:=by
 rcases h with h | ⟨a,top,L,k,n,b,c,d⟩
 ·exact .inl h
 ·exact .inr ⟨a,top,L,k,n,b,c.mono s,d⟩
theorem ZSb{K:W.Frag}(h:H a=some (.tup xs))(f:∀ x∈xs,J9 x=true):Rep K H 1 (.t (xs.map Dt.v)) (.ref a):=.t (SqT.of h) (by simp) fun i d x h1 h2=>by
 rw[getElem?_map,h2]at h1
 cases h1;exact .v (f x (Vm h2))
structure DkD(H:Hp)(kvs:List (Key×V))(es:List Dt):Prop where
 row:∀ d∈es,Yj d
 up:UpR ltK es
 nd:(kvs.map Prod.fst).Nodup
 to:∀ k w,(k,w)∈kvs->∃ c,TD H 5 (.t c) w/\Dt.t [.v (kV k),.t c]∈es
 of:∀ d∈es,∃ k w c,(k,w)∈kvs/\d=.t [.v (kV k),.t c]/\TD H 5 (.t c) w
 th:∀ k w,(k,w)∈kvs->JI (kV k)
theorem DkD.sameT(h:DkD H kvs es)(s:Zl H H'):DkD H' kvs es :=
 ⟨h.row,h.up,h.nd,fun k w hm=>let ⟨c,t,m⟩:=h.to k w hm;⟨c,TD.sameT s 5 t,m⟩,fun d hd=>let ⟨k,w,c,a,b,t⟩:=h.of d hd;⟨k,w,c,a,b,TD.sameT s 5 t⟩,h.th⟩
theorem DkD.key(h:DkD H kvs es){k:Key}{w:V}(hm:(k,w)∈kvs):Q6 (kV k):=by
 obtain⟨c,_,m⟩:=h.to k w hm;exact(h.row _ m).ent.key
theorem ZPa(nd:(kvs.map Prod.fst).Nodup){k:Key}{w:V}(h:(k,w)∈kvs):ZI kvs k=some w:=by
 have:=Y0 Prod.fst nd h;unfold ZI;rw[this];rfl
theorem JOc{k:Key}{w:V}(h:ZI kvs k=some w):(k,w)∈kvs:=by
 unfold ZI at h;rw[Option.map_eq_some_iff]at h;obtain⟨⟨k',w'⟩,h1,h2⟩:=h;have h3:=find?_some h1
 simp only[decide_eq_true_eq]at h3;dsimp only at h2;subst h2 h3;exact mem_of_find?_eq_some h1
theorem DkD.uniq(h:DkD H kvs es)(h':DkD H kvs es'):es=es':=by
 have go:∀ {a b:List Dt},DkD H kvs a->DkD H kvs b->∀ d∈a,d∈b:=fun {a b} ha hb d hd=>by
  obtain⟨k,w,c,hm,rfl,t⟩:=ha.of d hd;obtain⟨c',t',m⟩:=hb.to k w hm;have:=TD.det 5 t t';injection this with this
  rw[this];exact m
 exact UpR.ext ltK.irr ltK.tr h.up h'.up fun d=>⟨go h h' d,go h' h d⟩
theorem JPc(hrow:∀ d∈es,Yj d)(up:UpR ltK es)(hk:Q6 k):∃ es',JS ltK k row es es':=by
 induction es with
 | nil=>exact⟨[row],[],[],rfl,.inl rfl,(fun a h=>nomatch h),fun a h=>nomatch h⟩
 | cons x r ih =>
  have ur:=pairwise_cons.mp up
  rcases ltK.tri (hrow x (by simp)).ent.key hk with z | z | z
  ·obtain⟨es',A,C,e,e2,h1,h2⟩:=ih (fun d hd=>hrow d (Vo _ hd)) ur.2
   refine⟨x::es',x::A,C,by rw[e];rfl,?_,fun a ha=>?_,h2⟩
   ·rcases e2 with e2 | ⟨o,e2,ho⟩
    ·exact .inl (by rw[e2];rfl)
    ·exact .inr ⟨o,by rw[e2];rfl,ho⟩
   ·rcases mem_cons.mp ha with y | y
    ·rw[y];exact z
    ·exact h1 a y
  ·exact⟨row::r,[],r,rfl,.inr ⟨x,rfl,z⟩,(fun a h=>nomatch h),fun c hc=>by rw[<- z];exact ur.1 c hc⟩
  ·refine⟨row::x::r,[],x::r,rfl,.inl rfl,(fun a h=>nomatch h),fun c hc=>?_⟩
   rcases mem_cons.mp hc with y | y
   ·rw[y];exact z
   ·exact ltK.tr z (ur.1 c y)
theorem DkD.put{k:Key}{w:V}{c:List Dt}(h:DkD H kvs es)(hk:Q6 (kV k))(hth:JI (kV k))(t:TD H 5 (.t c) w)(p:JS ltK (kV k) (.t [.v (kV k),.t c]) es es'):DkD H (ZX kvs k w) es':=by
 have mem:∀ k' w',(k',w')∈ZX kvs k w↔(k'=k/\w'=w)\/(k'≠k/\(k',w')∈kvs):=fun k' w'=>by
  unfold ZX
  by_cases e:(kvs.any fun x=>decide (x.1=k))=true
  ·rw[if_pos e,mem_map]
   constructor
   ·rintro⟨⟨k2,w2⟩,hm,e2⟩
    dsimp only at e2
    split at e2
    ·rename_i z;injection e2 with a b;exact .inl ⟨by rw[<- a];exact z,b.symm⟩
    ·rename_i z;injection e2 with a b;subst a b;exact .inr ⟨z,hm⟩
   ·rintro(⟨rfl,rfl⟩ | ⟨hne,hm⟩)
    ·obtain⟨⟨k2,w2⟩,hm2,e2⟩:=any_eq_true.mp e
     have e2:k2=k':=by simpa using e2
     exact⟨(k2,w2),hm2,by dsimp only;rw[if_pos e2,e2]⟩
    ·exact⟨(k',w'),hm,by dsimp only;rw[if_neg hne]⟩
  ·rw[if_neg e,Vl,mem_singleton]
   constructor
   ·rintro(hm | e2)
    ·refine .inr ⟨fun z=>e ?_,hm⟩
     exact any_eq_true.mpr ⟨(k',w'),hm,by simpa using z⟩
    ·injection e2 with a b;exact .inl ⟨a,b⟩
   ·rintro(⟨rfl,rfl⟩ | ⟨_,hm⟩)
    ·exact .inr rfl
    ·exact .inl hm
 refine⟨fun d hd=>?_,p.up h.up rfl ltK.tr,J4b h.nd,fun k' w' hm=>?_,fun d hd=>?_,fun k' w' hm=>by
  rcases(mem k' w').mp hm with ⟨rfl,_⟩ | ⟨_,z⟩
  ·exact hth
  ·exact h.th k' w' z⟩
 ·rcases(p.mem ltK.irr d).mp hd with z | z
  ·rw[z];exact⟨_,c,rfl,hk⟩
  ·exact h.row d z.1
 ·rcases(mem k' w').mp hm with ⟨rfl,rfl⟩ | ⟨hne,hm⟩
  ·exact⟨c,t,(p.mem ltK.irr _).mpr (.inl rfl)⟩
  ·obtain⟨c',t',m'⟩:=h.to k' w' hm
   exact⟨c',t',(p.mem ltK.irr _).mpr (.inr ⟨m',fun z=>hne (Yza z)⟩)⟩
 ·rcases(p.mem ltK.irr d).mp hd with z | ⟨z,hne⟩
  ·exact⟨k,w,c,(mem k w).mpr (.inl ⟨rfl,rfl⟩),z,t⟩
  ·obtain⟨k',w',c',hm,rfl,t'⟩:=h.of d z
   exact⟨k',w',c',(mem k' w').mpr (.inr ⟨fun y=>hne (by rw[y];rfl),hm⟩),rfl,t'⟩
theorem DkD.drop{k:Key}(h:DkD H kvs es)(p:QEa (kV k) es es'):DkD H (XZ kvs k) es':=by
 have mem:∀ x,x∈XZ kvs k↔x∈kvs/\x.1≠k:=fun x=>by
  unfold XZ;rw[mem_filter];simp
 refine⟨fun d hd=>h.row d ((p.mem h.up ltK.irr d).mp hd).1,p.up h.up,?_,fun k' w' hm=>?_,fun d hd=>?_,fun k' w' hm=>h.th k' w' ((mem _).mp hm).1⟩
 ·unfold XZ
  exact(filter_sublist.map _).nodup h.nd
 ·obtain⟨h1,h2⟩:=(mem _).mp hm
  obtain⟨c',t',m'⟩:=h.to k' w' h1;exact⟨c',t',(p.mem h.up ltK.irr _).mpr ⟨m',fun z=>h2 (Yza z)⟩⟩
 ·obtain⟨h1,hne⟩:=(p.mem h.up ltK.irr d).mp hd
  obtain⟨k',w',c',hm,rfl,t'⟩:=h.of d h1;exact⟨k',w',c',(mem _).mpr ⟨hm,fun y=>hne (by rw[<- y];rfl)⟩,rfl,t'⟩
theorem Jfa.dk(h:Jfa H kvs ks xs)(nd:(kvs.map Prod.fst).Nodup)(hk:∀ p∈kvs,Q6 (kV p.1))(hth:∀ p∈kvs,JI (kV p.1))(hc:∀ p∈kvs,∃ c,TD H 5 (.t c) p.2):∃ es,DkD H kvs es/\Paired (fun d v=>TD H 6 d v) es xs:=by
 obtain⟨es,re,pd⟩:=TDs.of (H:=H) (n:=6) (Pd:=fun d=>∃ k w c,(k,w)∈kvs/\d=Dt.t [.v (kV k),.t c]/\TD H 5 (.t c) w) (xs:=xs) fun x hx=>by
  obtain⟨i,hi⟩:=mem_iff_getElem?.mp hx;obtain⟨a,k,w,rfl,_,ha,hm⟩:=h.at_ i x hi;obtain⟨c,t⟩:=hc _ hm;exact⟨_,TD.pair ha (.ofV (ZGb (hk _ hm))) t,k,w,c,hm,rfl,t⟩
 have le:=Paired.length re;have keyAt:∀ (i:Nat) d,es[i]?=some d->ks[i]?=some (Qr d):=fun i d hd=>by
  have hi:=(Vc.mp hd).1
  have hx:xs[i]?=some (xs[i]'(by omega)):=Vb _
  obtain⟨a,k,w,ex,hks,ha,hm⟩:=h.at_ i _ hx;have tx:=Qv re hd hx;obtain⟨k',w',c,_,rfl,_⟩:=pd d (Vm hd);obtain⟨a',u1,u2,ea,ha',x1,_⟩:=TD.pair_of (n:=5) tx;rw[ex]at ea;cases ea;rw[ha]at ha';cases ha';obtain⟨_,e⟩:=x1.flat;rw[hks,e];rfl
 refine⟨es,⟨fun d hd=>?_,?_,nd,fun k w hm=>?_,pd,fun k w hm=>hth _ hm⟩,re⟩
 ·obtain⟨k,w,c,hm,rfl,_⟩:=pd d hd
  exact⟨kV k,c,rfl,hk _ hm⟩
 ·refine pairwise_iff_getElem.mpr fun i j hi hj hij=>?_
  obtain⟨li,e1⟩:=Vc.mp (keyAt i _ (Vb hi))
  obtain⟨lj,e2⟩:=Vc.mp (keyAt j _ (Vb hj))
  have:=pairwise_iff_getElem.mp h.up i j li lj hij;rw[e1,e2]at this;have kk:∀ d∈es,Q6 (Qr d):=fun d hd=>by obtain⟨k,w,c,hm,rfl,_⟩:=pd d hd;exact hk _ hm
  exact⟨kk _ (getElem_mem hi),kk _ (getElem_mem hj),this⟩
 ·have:kV k∈ks:=h.perm.mem_iff.mpr (mem_map.mpr ⟨(k,w),hm,rfl⟩)
  obtain⟨i,hi,e⟩:=mem_iff_getElem.mp this;have lx:=h.len;have hd:es[i]?=some (es[i]'(by omega)):=Vb _
  have hk':=keyAt i _ hd;rw[Vb hi,e]at hk'
  obtain⟨k',w',c,hm',ed,t⟩:=pd _ (Vm hd);rw[ed]at hk';injection hk' with hk'
  have ek:k=k':=Yza hk';subst ek;have ew:w=w':=by have a:=ZPa nd hm;rw[ZPa nd hm']at a;injection a with a;exact a.symm
  subst ew;exact⟨c,t,by rw[<- ed];exact Vm hd⟩
inductive XN(u0_:W.Frag)(vs:List V)(H:Hp)(Q:VK)(E:XK):Prop
 | mk:∀ k n,vs=[k,.int n]->Q6 k->JI k->(∀ v,Q6 v->JI v->Q v H)->XN u0_ vs H Q E
seal PE PT PW PA PS PSs PI PG QY PGs PO in
theorem QJb(Z:Zs mg)(T:Tx K mg CT cs ob)(F:Fun K "_law_near" "_law_near" Qfa f fd):QF P w K mg base CX0 1 f fd ["_law_key_here","_law_way"] (XN K):=by
 refine F.ok Qgb (fun vs H Q E h=>?_) (fun cdv A outer s H vs Q E hr h=>?_)
 ·walk_at "n"
 obtain⟨k,n,rfl,hk,hth,q⟩:=h;refine⟨_,(@Qa _ _ _ _ _ (QN (ZU (Qz Ze rfl (Z.isinstance) Q0 (Qf (pv 0) (Qf (Ju rfl (Z.str) J1a (v:=.ty "str") rfl) Qe))) (fun _=>rfl)) (@Qa _ _ _ _ _ (QN (PW.pt (YE (Qs Zk (pv 1) Qb (Qw _)) (Jv (Qs JUa (Qz Zpa rfl (Z.len) ZL (Qf (pv 0) Qe)) Qb (Qw _))))) (Qg (Qm (Qk QXa (pv 0) Xb))) Qu)
  (@Qa _ _ _ _ _ (QN (PW.pt (YE (Qs Zk (pv 1) Qb (Qw _)) (Jv (Qs Jga (Qz Zpa rfl (Z.len) ZL (Qf (pv 0) Qe)) Qb (Qw _))))) (Qg (Qm (Q5 YVc (pv 0) Zn (Zh (QYb JTa Qb))))) Qu)
  (Qg (Qm (pv 0))))) Qu)
  (@Qa _ _ _ _ _ (QN (PW.pt (YE (Qs Zk (pv 1) Qb (Qw _)) (Jv (Qs JUa (pv 0) (Qk Jg (Qk JSa Qb Qb) Qb) (Qw _))))) (Qg (Qm (Qk Q9 (pv 0) Qb))) Qu)
  (@Qa _ _ _ _ _ (QN (PW.pt (YE (Qs Zk (pv 1) Qb (Qw _)) (Jv (Qs Jga (pv 0) (Qk Jg Qb (Qk JSa Qb Qb)) (Qw _))))) (Qg (Qm (Qk Jg (pv 0) Qb))) Qu)
  (Qg (Qm (pv 0)))))),?_⟩
 refine Qn (σ:=[some k,some (.int n)]) rfl ?_
 walk_at "rd";cases k with
 | str z =>
  have hz:z.length<=40:=hk;have hzz:z.length<=sizeLine:=Vv (QO (by omega))
  have e1:(Str.ofString " ").length=1:=rfl;have sl:Q6 (.str (Txt.slice z none (some (-1)))):=Vj (Txt.slice_le z none (some (-1))) hz;obtain⟨a,b,hab⟩:=id hth;have ts:JI (.str (Txt.slice z none (some (-1)))):=⟨a,b,fun c hc=>hab c (by
   rw[Jub]at hc;unfold YWc at hc;exact mem_of_mem_drop (mem_of_mem_take hc))⟩
  have ta:JI (.str (z++Str.ofString " ")):=⟨a,b,fun c hc=>by
   rw[W.KT.app_list]at hc
   rcases Vl.mp hc with h | h
   ·exact hab c h
   ·exact .inr (.inr (by simpa using (show c∈[32] from h)))⟩
  refine ZM (.str z) YA ⟨_,rfl,?_⟩
  rw[if_pos rfl];exact Zg (fun _=>⟨z,rfl,hzz,Zg (fun h=>⟨z,rfl,Vv (QO (by omega)),q _ (show(z++Str.ofString " ").length<=40 by rw[strLen_append,e1];omega) ta⟩) fun _=>Zg (fun _=>⟨z,rfl,hzz,Zg (fun _=>⟨z,rfl,hzz,q _ sl ts⟩) fun _=>q _ hk hth⟩) fun _=>q _ hk hth⟩) fun _=>Zg (fun _=>⟨z,rfl,hzz,Zg (fun _=>⟨z,rfl,hzz,q _ sl ts⟩) fun _=>q _ hk hth⟩) fun _=>q _ hk hth
 | int i =>
  have hi : -(10 ^ 30) < i/\i < 10 ^ 30:=hk;refine ZM (.int i) Yz ⟨_,rfl,?_⟩
  rw[if_neg Vf];exact Zg (fun _=>⟨by unfold QZb;decide,i,rfl,Zg (fun h=>⟨i,rfl,q _ (show _/\_ by omega) trivial⟩) fun _=>Zg (fun _=>⟨by unfold QZb;decide,i,rfl,Zg (fun h=>⟨i,rfl,q _ (show _/\_ by omega) trivial⟩) fun _=>q _ hk trivial⟩) fun _=>q _ hk trivial⟩) fun _=>Zg (fun _=>⟨by unfold QZb;decide,i,rfl,Zg (fun h=>⟨i,rfl,q _ (show _/\_ by omega) trivial⟩) fun _=>q _ hk trivial⟩) fun _=>q _ hk trivial
 | _=>exact hk.elim
inductive Yl(K:W.Frag)(vs:List V)(H:Hp)(Q:VK)(E:XK):Prop
 | mk:∀ (c:Int) (r:Addr) (xs:List V),vs=[.int c,.ref r]->H r=some (.lst xs)->xs.length<=1000->(∀ x∈xs,∃ b k w,x=.ref b/\H b=some (.tup (k::w))/\Q6 k/\JI k)->(∀ v H',Q6 v->JI v->Qp H H'->Q v H')->Yl K vs H Q E
seal PE PT PW PA PS PSs PI PG QY PGs PO in
theorem YDa(Z:Zs mg)(T:Tx K mg CT cs ob)(ZTb:Cal P w K mg base 1 "_law_near" ["_law_key_here","_law_way"] (XN K))(Zha:Cal P w K mg base 3 "_law_key" ["_law_cell_here"] (JJ K))(F:Fun K "_law_sought" "_law_sought" YJ f fd):QF P w K mg base CX0 4 f fd ["_law_cell_here","_law_rows_here"] (Yl K):=by
 refine F.ok Yoa (fun vs H Q E h=>?_) (fun cdv A outer s H vs Q E hr h=>?_)
 ·walk_at "n"
 obtain⟨c,r,xs,rfl,hr0,lx,hx,q⟩:=h;refine⟨_,(@Qa _ _ _ _ _ (QN (PW.pt (JOa (Qs Zk (Qz QR rfl (Z.len) ZL (Qf (pv 1) Qe)) Qb (Qw _)) (QUa (Qs Zk (Qk QD (pv 0) Qb) Qb (Qw _))))) (Qg (Qm (Qo Zha (k:=3) hr (by decide) rfl (Qf (Qk Q8 (pv 0) Qb) Qe)))) Qu)
  (Qg (Qm (Qo ZTb (k:=3) hr (by decide) rfl (Qf (QA QI (QA Q2 (pv 1) (Qk QD (Qk Q8 (pv 0) Qb) (Qz QR rfl (Z.len) ZL (Qf (pv 1) Qe))) (fun _ _=>rfl)) Qb (fun _ _=>rfl)) (Qf (Qk QD (pv 0) Qb) Qe)))))),?_⟩
 refine Qn (σ:=[some (.int c),some (.ref r)]) rfl ?_
 walk_at "rd";have kk:J7 c 4/\JJ K [.int (c / 4)] H Q E0:=⟨by unfold J7;decide,_,rfl,fun v H' hv th s=>q v H' hv th s⟩
 refine⟨xs,.inl (SqL.of hr0),Zg (fun _=>kk) fun hne=>Zg (fun _=>kk) fun _=>?_⟩
 have h1:=Int.emod_nonneg (c / 4) (show(xs.length:Int)≠0 by omega)
 have h2:=Int.emod_lt_of_pos (c / 4) (show(0:Int) < xs.length by omega)
 have hj:(c / 4 % (xs.length:Int)).toNat < xs.length:=by omega
 have hjx:=Zb (xs:=xs) (j:=(c / 4 % (xs.length:Int)).toNat) (Vb hj)
 rw[show(((c / 4 % (xs.length:Int)).toNat:Nat):Int)=c / 4 % (xs.length:Int) by omega]at hjx
 obtain⟨b,k,ws,eb,hb,hk,hth⟩:=hx _ (getElem_mem hj);rw[eb]at hjx;exact⟨by unfold J7;decide,xs,.inl (SqL.of hr0),by omega,xs,SqL.of hr0,_,hjx,b,rfl,_,SqT.of hb,k,at0 _ _,k,_,rfl,hk,hth,fun v hv th=>q v H hv th (Qp.refl _)⟩
theorem J6b(ns:List Int):∃ ms:List Int,QU (ns.map V.int) (some 3) (some 63)=ms.map V.int/\ms.length<=60:=by
 refine⟨_,by unfold QU;rw[<- map_drop,<- map_take],?_⟩
 have e1:HT.sIx (ns.map V.int).length 0 (some 3)=min 3 (ns.map V.int).length:=HT.Jza _ _ 3;have e2:HT.sIx (ns.map V.int).length (ns.map V.int).length (some 63)=min 63 (ns.map V.int).length:=HT.Jza _ _ 63;rw[length_take,e1,e2]
 omega
theorem QKb(h:Q6 k):∃ kk:Key,k=kV kk:=by
 cases k with
 | int n=>exact⟨.inl n,rfl⟩
 | str z=>exact⟨.inr z,rfl⟩
 | _=>exact h.elim
theorem JQc(ys:List V)(h:∀ y∈ys,∃ z:Int,y=.int z):∃ zs:List Int,ys=zs.map V.int:=by
 induction ys with
 | nil=>exact⟨[],rfl⟩
 | cons y ys ih =>
  obtain⟨z,ez⟩:=h y mem_cons_self;obtain⟨zs,e⟩:=ih fun y hy=>h y (Vo _ hy)
  exact⟨z::zs,by rw[ez,e];rfl⟩
theorem ZUb{r:Addr}(fz:FzH H 4 (.ref r)):∃ cd,TD H 4 (.t cd) (.ref r):=by
 obtain⟨d,td⟩:=fz.td;cases d with
 | v z=>obtain⟨hz,e⟩:=td.flat;rw[<- e]at hz;cases hz
 | l ds=>cases td.h
 | t cd=>exact⟨cd,td⟩
inductive XO(K:W.Frag)(vs:List V)(H:Hp)(Q:VK)(E:XK):Prop
 | mk:∀ (a:Addr) (ns:List Int),vs=[.ref a]->SqL K H a (ns.map V.int)->(∀ r H' xs es,Qp H H'->H r=none->H' r=some (.lst xs)->Paired (fun d v=>TD H' 6 d v) es xs->(∀ d∈es,Yj d)->(∀ d∈es,JI (Qr d))->UpR ltK es->es.length<=120->Q (.ref r) H')->XO K vs H Q E
seal PE PT PW PA PS PSs PI PG QY PGs PO in
theorem QLb(Z:Zs mg)(T:Tx K mg CT cs ob)(JD:Cal P w K mg base 1 "_law_rising" ["_law_some"] (Jp K))(XQ:Cal P w K mg base 5 "_law_cells" ["_law_cell_here"] (Z0 K))(Je:Cal P w K mg base 1 "_law_cell" ["_law_script","_law_k"] (J1 K))(Zha:Cal P w K mg base 3 "_law_key" ["_law_cell_here"] (JJ K))(QX:Cal P w K mg base 1 "_law_mix" ["_law_cell_here","_law_k"] (Zy K))(F:Fun K "_law_rows" "_law_rows" Yy f fd):QF P w K mg base CX0 6 f fd ["_law_script"] (XO K):=by
 refine F.ok ZR (fun vs H Q E h=>?_) (fun cdv A outer s H vs Q E hr h=>?_)
 ·walk_at "n"
 obtain⟨a,ns,rfl,hS0,q⟩:=h;refine⟨_,(@Qa _ _ _ _ _ (Ql (i:=1) ZR.nd rfl (Or.inl rfl) (Zr Zz rfl (Z.list) JQ (Qf (Q5 Zo (pv 0) (Zh Qb) (Zh Qb)) Qe)))
  (@Qa _ _ _ _ _ (QN (Qs Zk (Qk QD (Qo Je (k:=5) hr (by decide) rfl (Qf (pv 0) (Qf Qb Qe))) Qb) Qb (Qw _)) (@Qa _ _ _ _ _ (Ql (i:=2) ZR.nd rfl (Or.inl rfl) (Qk QD (Qk Q8 (Qo Je (k:=5) hr (by decide) rfl (Qf (pv 0) (Qf Qb Qe))) Qb) Qb))
  (Qg (Ql (i:=1) ZR.nd rfl (Or.inl rfl) (Qk ZW (pv 1) (YX ["_law_script","_law_cells_here","_law_many","_law_some","_law_cell_here"] rfl (Jka (N:=["_law_script","_law_cells_here","_law_many","_law_some","_law_cell_here"]) (dsc:=Qj Yy) rfl rfl (by decide +kernel)) (YU rfl (Z.range) (Qf (pv 2) Qe)) (fun _ _ _ _ _=>Zsa) (fun _ _ _ _ _=>(Qo QX (k:=5) hr (by decide) rfl (Qf (Qo Je (k:=5) hr (by decide) rfl (Qf (pv 1) (Qf Qb Qe))) (Qf (Qk Q9 Qb (pv 0)) Qe))))))))) Qu)
  (@Qa _ _ _ _ _ (Ql (i:=3) ZR.nd rfl (Or.inl rfl) JXa)
  (@Qa _ _ _ _ _ (JM PassesOwn.never rfl (Jwa (pv 1)) (Q7 (i:=4) ZR.nd rfl (Or.inl rfl)) (Qg (JCa hr.u1 (pv 3) (Qo Zha (k:=5) hr (by decide) rfl (Qf (pv 4) Qe)) (Qo XQ (k:=5) hr (by decide) rfl (Qf (Qo QX (k:=5) hr (by decide) rfl (Qf (pv 4) (Qf Qb Qe))) Qe)) rfl)))
  (Qg (Qm (Qo JD (k:=5) hr (by decide) rfl (Qf (pv 3) Qe)))))))),?_⟩
 refine Qn (σ:=[some (.ref a),none,none,none,none]) rfl ?_
 refine X8a fun R hR=>?_
 have go:∀ (l:Addr) (ms:List Int) x2 H1,Qp H H1->H1 l=some (.lst (ms.map V.int))->ms.length<=120->R [some (.ref a),some (.ref l),x2,none,none] H1:=by
  intro l ms x2 H1 s1 hl lm;refine hR _ _ ?_
  clear hR;walk_at "rd";intro p hp;have hp0:H p=none:=by
   cases e:H p with
   | none=>rfl
   | some o=>rw[s1 _ _ e]at hp;cases hp
  have s2:=Qh hp (.dK []);have g2:upd H1 p (.dK []) p=some (.dK []):=Qd;generalize upd H1 p (.dK [])=H2 at s2 g2 ⊢;have hl2:=s2 _ _ hl;refine⟨⟨_,SqL.of hl2⟩,Zua (ms.map V.int) (fun i σ' H'=>∃ kvs es x4,σ'=[some (.ref a),some (.ref l),x2,some (.ref p),x4]/\Qp H H'/\H' l=some (.lst (ms.map V.int))/\H' p=some (.dK kvs)/\DkD H' kvs es/\kvs.length<=i) ⟨[],[],_,rfl,s1.trans s2,hl2,g2,⟨fun d h=>(nomatch h),.nil,.nil,fun k w h=>(nomatch h),(fun d h=>(nomatch h)),fun k w h=>(nomatch h)⟩,Ve _⟩ (fun i σ' H' _ h=>by obtain⟨_,_,_,_,_,h,_⟩:=h;exact SqL.of h) ?_ ?_⟩
  ·rintro i x σ' H' hx ⟨kvs,es,x4,rfl,s',hl',g',dk,lk⟩
   have hi:=(Vc.mp hx).1
   rw[Vr]at hi;obtain⟨m,_,rfl⟩:=mem_map.mp (Vm hx);walk_at "rd";refine⟨m,0,rfl,fun m2 _ _=>⟨m2,rfl,fun r H3 s3 fz=>⟨m,rfl,fun kk H4 hk hth s4=>?_⟩⟩⟩
   obtain⟨k,rfl⟩:=QKb hk;obtain⟨cd,tc⟩:=ZUb fz;have g4:=(s3.trans s4) _ _ g';have dk4:=dk.sameT (s3.trans s4).t;have t5:Zl H4 (upd H4 p (.dK (ZX kvs k (.ref r)))):=YCa g4;obtain⟨es',pr⟩:=JPc (row:=.t [.v (kV k),.t cd]) dk4.row dk4.up hk;have l5:=JE kvs k (.ref r);refine⟨_,XSa.k (k:=k) g4 (QO (by omega)),Y5 (s'.trans (s3.trans s4)) hp0,by rw[Qi (Jf ((s3.trans s4) _ _ hl') g4 (by intro z;cases z))];exact(s3.trans s4) _ _ hl',ZX kvs k (.ref r),?_⟩
   have dk5:=(DkD.put dk4 hk hth (TD.mono 4 (by decide) (tc.same s4)) pr).sameT t5
   first | exact⟨Qd,⟨es',dk5⟩,by omega⟩ | exact⟨es',Qd,dk5,by omega⟩ | exact⟨Qd,es',dk5,by omega⟩
  ·rintro σ' H' ⟨kvs,es,x4,rfl,s',hl',g',dk,lk⟩
   rw[Vr]at lk;walk_at "rd";refine⟨p,kvs,rfl,g',by omega,(fun q hq=>dk.key (w:=q.2) hq),dk.nd,fun r H6 xs ks s6 hr6 g6 ra=>?_⟩
   obtain⟨es6,dk6,re6⟩:=ra.dk dk.nd (fun q hq=>dk.key (w:=q.2) hq) (fun q hq=>dk.th q.1 q.2 hq) fun q hq=>by obtain⟨c,t,_⟩:=dk.to q.1 q.2 hq;exact⟨c,t.same s6⟩
   have le6:=Paired.length re6;have lks:ks.length=kvs.length:=by rw[ra.perm.length_eq,Vr]
   have lxs:=ra.len;refine q r H6 xs es6 (s'.trans s6) ?_ g6 re6 dk6.row (fun d hd=>by obtain⟨k,w,c,hm,rfl,_⟩:=dk6.of d hd;exact dk6.th k w hm) dk6.up (by omega)
   cases e:H r with
   | none=>rfl
   | some o=>rw[s' _ _ e]at hr6;cases hr6
 clear hR;walk_at "rd";obtain⟨ms,em,lm⟩:=J6b ns;refine⟨_,hS0,fun p1 hp1=>?_⟩
 rw[em];refine⟨_,.inl (SqL.of Qd),fun l hl=>?_⟩
 have sA:=(Qh hp1 (.lst (ms.map V.int))).trans (Qh hl (.lst (ms.map V.int)));have gl:upd (upd H p1 (.lst (ms.map V.int))) l (.lst (ms.map V.int)) l=some (.lst (ms.map V.int)):=Qd;generalize upd (upd H p1 (.lst (ms.map V.int))) l (.lst (ms.map V.int))=H1 at sA gl ⊢;refine⟨a,ns,0,rfl,sA.seq hS0,fun c0=>⟨c0,rfl,Zg (fun _=>?_) fun _=>go l ms none _ sA gl (by omega)⟩⟩
 refine⟨a,ns,0,rfl,sA.seq hS0,fun c0=>⟨c0,rfl,by unfold J7;decide,by omega,by omega,?_⟩⟩
 refine Xta (fun i v=>∃ z:Int,v=.int z) (Vv (QO (by omega))) (fun i H2 R hi s2 hR=>?_) fun D H2 ys hD s2 hy ly py=>?_
 ·walk_at "rd"
  exact⟨a,ns,1,rfl,(sA.trans s2).seq hS0,fun c1=>⟨c1,_,rfl,fun m _ _=>hR _ _ ⟨m,rfl⟩ (Qp.refl _)⟩⟩
 obtain⟨zs,ez⟩:=JQc ys (XGb py);have lz:zs.length<=60:=by rw[ez,Vr]at ly;omega
 refine⟨D,rfl,_,s2 _ _ gl,_,hy,Vv (QO (by rw[ez,Vr,Vr];omega)),fun p2 hp2=>?_⟩
 exact go p2 (ms++zs) _ _ ((sA.trans s2).trans (Qh hp2 _)) (by rw[Qd,map_append,ez]) (by rw[Vs];omega)
theorem JRc{K:W.Frag}(p:hV v=true)(q:Q (.bl false) H):Jtb K [v,.ty "tuple"] H Q:=by
 cases v with
 | int n=>exact ZM (.int n) Zzb q
 | str z=>exact ZM (.str z) ZAb q
 | non=>exact ZM .non ZBb q
 | _=>cases p
theorem ZVb{K:W.Frag}(p:hV v=true)(q:Q (.bl false) H):Jtb K [v,.ty "bool"] H Q:=by
 cases v with
 | int n=>exact ZM (.int n) XWa q
 | str z=>exact ZM (.str z) Qmb q
 | non=>exact ZM .non Qlb q
 | _=>cases p
inductive QPa(u0_:W.Frag)(n:Nat)(vs:List V)(H:Hp)(Q:VK)(E:XK):Prop
 | mk:∀ x y d,vs=[x,y]->n<=60->TD H n d x->TD H n d y->(∀ H',Qp H H'->Q (.bl true) H')->QPa u0_ n vs H Q E
def J2(u0_:W.Frag):Nat->Sp
 | 0=>fun _ _ _ _=>False
 | n+1=>QPa u0_ n
seal PE PT PW PA PS PSs PI PG QY PGs PO in
theorem QMb(Z:Zs mg)(T:Tx K mg CT cs ob){n:Nat}(IH:Cal P w K mg base (1+n) "_law_same" ["_law_found","_law_due"] (J2 K n))(F:Fun K "_law_same" "_law_same" Qka f fd):QF P w K mg base CX0 (1+n+1) f fd ["_law_found","_law_due"] (J2 K (n+1)):=by
 refine F.ok Xw (fun vs H Q E h=>?_) (fun cdv A outer s H vs Q E hr h=>?_)
 ·walk_at "n"
 obtain⟨x,y,d,rfl,hn,hx,hy,q⟩:=h;refine⟨_,(@Qa _ _ _ _ _ (QN (ZU (Qz Ze rfl (Z.isinstance) Q0 (Qf (pv 1) (Qf (Ju rfl (Z.tuple) Zta (v:=.ty "tuple") rfl) Qe))) (fun _=>rfl)) (@Qa _ _ _ _ _ (QN (PW.pt (JOa (Js (ZU (Qz Ze rfl (Z.isinstance) Q0 (Qf (pv 0) (Qf (Ju rfl (Z.tuple) Zta (v:=.ty "tuple") rfl) Qe))) (fun _=>rfl))) (QUa (Qs X0b (Qz QR rfl (Z.len) ZL (Qf (pv 0) Qe)) (Qz QR rfl (Z.len) ZL (Qf (pv 1) Qe)) (Qw _))))) (Qg (Qm XT)) Qu)
  (@Qa _ _ _ _ _ (JM PassesOwn.never rfl (QAc true true rfl (Z.zip) (pv 0) (pv 1)) (JPa (n:=2) rfl (ZY (Q7 (i:=2) Xw.nd rfl (Or.inl rfl)) (ZY (Q7 (i:=3) Xw.nd rfl (Or.inl rfl)) Zja))) (Qg (QN (Js (ZU (Qo IH (k:=(1+n)) hr (by omega) rfl (Qf (pv 2) (Qf (pv 3) Qe))) (fun _=>rfl))) (Qg (Qm XT)) Qu)))
  (Qg (Qm XT)))) Qu)
  (Qg (Qm (Yxc (Jxa Zk (Qz Ze rfl (Z.isinstance) Q0 (Qf (pv 0) (Qf (Ju rfl (Z.bool) Yrb (v:=.ty "bool") rfl) Qe))) (Qz Ze rfl (Z.isinstance) Q0 (Qf (pv 1) (Qf (Ju rfl (Z.bool) Yrb (v:=.ty "bool") rfl) Qe))) (Qw _)) (Ywc (Jxa (QMc (hr.units)) (pv 0) (pv 1) (Qw _))))))),?_⟩
 refine Qn (σ:=[some x,some y,none,none]) rfl ?_
 walk_at "rd";cases d with
 | v z =>
  obtain⟨hz,rfl⟩:=hx.flat;obtain⟨_,e⟩:=hy.flat;rw[e];refine JRc hz ⟨_,rfl,?_⟩
  rw[if_neg Vf];refine ZVb hz (ZVb hz ⟨rfl,?_⟩)
  rw[if_pos rfl];exact Qbd hn hx hx (by rw[decide_eq_true rfl];exact q _ (Qp.refl _))
 | l ds =>
  cases hx.h
 | t ds =>
  obtain⟨m,a,xs,em,rfl,ha,rx⟩:=hx.tup;obtain⟨m',b,ys,em',rfl,hb,ry⟩:=hy.tup;obtain rfl:m'=m:=by omega
  subst em;have lx:=Paired.length rx;have ly:=Paired.length ry;refine ZM (.tup hb) Jna ⟨_,rfl,?_⟩
  rw[if_pos rfl];refine ZM (.tup ha) Jna ⟨_,rfl,?_⟩
  rw[if_neg (fun z=>Bool.noConfusion z)]
  refine⟨a,rfl,xs,.inr (SqT.of ha),b,rfl,ys,.inr (SqT.of hb),?_⟩
  rw[if_neg (fun z=>z (by omega))]
  refine⟨a,rfl,b,rfl,xs,ha,ys,hb,YCb (K:=K) xs ys (by omega) (fun i σ' H'=>Qp H H'/\∃ x2 x3,σ'=[some (.ref a),some (.ref b),x2,x3]) ⟨Qp.refl _,_,_,rfl⟩ (fun i σ' H' h=>⟨h.1 _ _ ha,h.1 _ _ hb⟩) ?_ ?_⟩
  ·rintro i x y T σ' H' hx' hy' ⟨sm,x2,x3,rfl⟩ hT
   have st:=sm.trans (Qh hT (.tup [x,y]));walk_at "rd";refine⟨[x,y],SqT.of Qd,rfl,x,[y],rfl,y,[],rfl,rfl,?_⟩
   have hi:=(Vc.mp hx').1
   have hd:ds[i]?=some (ds[i]'(by omega)):=Vb _
   exact⟨x,y,_,rfl,by omega,(Qv rx hd hx').same st,(Qv ry hd hy').same st,fun H2 s2=>⟨_,rfl,by rw[if_neg (fun z=>Bool.noConfusion z)];exact⟨st.trans s2,_,rfl⟩⟩⟩
  ·rintro σ' H' ⟨sm,x2,x3,rfl⟩
   walk_at "rd";exact q _ sm
inductive Ym(u0_:W.Frag)(vs:List V)(H:Hp)(Q:VK)(E:XK):Prop
 | mk:∀ a b xs ys ds,vs=[.ref a,.ref b]->H a=some (.lst xs)->H b=some (.lst ys)->Paired (TD H 7) ds xs->Paired (TD H 7) ds ys->(∀ H',Qp H H'->Q (.bl true) H')->Ym u0_ vs H Q E
seal PE PT PW PA PS PSs PI PG QY PGs PO in
theorem YEa(Z:Zs mg)(T:Tx K mg CT cs ob)(ZWb:∀ n,Cal P w K mg base (1+n) "_law_same" ["_law_found","_law_due"] (J2 K n))(F:Fun K "_law_listed" "_law_listed" YL f fd):QF P w K mg base CX0 10 f fd ["_law_found","_law_due"] (Ym K):=by
 refine F.ok Yh (fun vs H Q E h=>?_) (fun cdv A outer s H vs Q E hr h=>?_)
 ·walk_at "n"
 obtain⟨a,b,xs,ys,ds,rfl,ha,hb,rx,ry,q⟩:=h;refine⟨_,(@Qa _ _ _ _ _ (QN (PW.pt (JOa (Js (ZU (Qz Ze rfl (Z.isinstance) Q0 (Qf (pv 0) (Qf (Ju rfl (Z.list) JQ (v:=.ty "list") rfl) Qe))) (fun _=>rfl))) (QUa (Qs X0b (Qz QR rfl (Z.len) ZL (Qf (pv 0) Qe)) (Qz QR rfl (Z.len) ZL (Qf (pv 1) Qe)) (Qw _))))) (Qg (Qm XT)) Qu)
  (@Qa _ _ _ _ _ (JM PassesOwn.never rfl (QAc false false rfl (Z.zip) (pv 0) (pv 1)) (JPa (n:=2) rfl (ZY (Q7 (i:=2) Yh.nd rfl (Or.inl rfl)) (ZY (Q7 (i:=3) Yh.nd rfl (Or.inl rfl)) Zja))) (Qg (QN (Js (ZU (Qo (ZWb 8) (k:=9) hr (by decide) rfl (Qf (pv 2) (Qf (pv 3) Qe))) (fun _=>rfl))) (Qg (Qm XT)) Qu)))
  (Qg (Qm XT)))),?_⟩
 refine Qn (σ:=[some (.ref a),some (.ref b),none,none]) rfl ?_
 walk_at "rd";have lx:=Paired.length rx;have ly:=Paired.length ry;refine ZM (.lst ha) ZCb ⟨_,rfl,?_⟩
 rw[if_neg (fun z=>Bool.noConfusion z)]
 refine⟨xs,.inl (SqL.of ha),ys,.inl (SqL.of hb),?_⟩
 rw[if_neg (fun z=>z (by omega))]
 refine⟨xs,ha,ys,hb,YCb (K:=K) xs ys (by omega) (fun i σ' H'=>Qp H H'/\∃ x2 x3,σ'=[some (.ref a),some (.ref b),x2,x3]) ⟨Qp.refl _,_,_,rfl⟩ (fun i σ' H' h=>⟨h.1 _ _ ha,h.1 _ _ hb⟩) ?_ ?_⟩
 ·rintro i x y T σ' H' hx' hy' ⟨sm,x2,x3,rfl⟩ hT
  have st:=sm.trans (Qh hT (.tup [x,y]));walk_at "rd";refine⟨[x,y],SqT.of Qd,rfl,x,[y],rfl,y,[],rfl,rfl,?_⟩
  have hi:=(Vc.mp hx').1
  have hd:ds[i]?=some (ds[i]'(by omega)):=Vb _
  exact⟨x,y,_,rfl,by decide,(Qv rx hd hx').same st,(Qv ry hd hy').same st,fun H2 s2=>⟨_,rfl,by rw[if_neg (fun z=>Bool.noConfusion z)];exact⟨st.trans s2,_,rfl⟩⟩⟩
 ·rintro σ' H' ⟨sm,x2,x3,rfl⟩
  walk_at "rd";exact q _ sm
def lvK(ws:List (Int×Nat)):List (Key×V):=ws.map fun x=>(.inl x.1,.int (x.2:Int))
theorem JSc{l:Nat}(h:m∉us.map Prod.fst):ZX (lvK us) (.inl m) (.int (l:Int))=lvK (us++[(m,l)]):=by
 unfold ZX lvK;rw[if_neg]
 ·rw[map_append];rfl
 ·intro z
  obtain⟨x,hx,e⟩:=any_eq_true.mp z;obtain⟨y,hy,rfl⟩:=mem_map.mp hx;have e:Sum.inl y.1=(Sum.inl m:Key):=of_decide_eq_true e;injection e with e
  exact h (mem_map.mpr ⟨y,hy,e⟩)
theorem QG.xLD{p dl:Addr}{zs:List V}(h:QG P w ob H p d1 d2 st c)(hf:H f=some (.lst zs))(hd:H dl=some (.dK kvs))(hn:dl∉[p,d1,d2])(sx:QH [dl,f] H H'):QG P w ob H' p d1 d2 st c/\Zl H H':=by
 have n:=h.off hf (by intros;intro z;cases z) (by intros;intro z;cases z) (by intros;intro z;cases z)
 have t:Zl H H':=fun b xs e=>sx _ _ (fun z=>by
  simp only[mem_cons,not_mem_nil,or_false]at z
  rcases z with z | z
  ·rw[z,hd]at e;cases e
  ·rw[z,hf]at e;cases e) e
 have go:∀ {a o},a∈[p,d1,d2]->H a=some o->H' a=H a:=fun {a o} ha e=>by
  rw[e];refine sx _ _ (fun z=>?_) e
  simp only[mem_cons,not_mem_nil,or_false]at z
  rcases z with z | z
  ·exact hn (by rw[<- z];exact ha)
  ·exact n (by rw[<- z];exact ha)
 obtain⟨dx,ho⟩:=h.obj;exact⟨h.keep t (go (by simp) ho) (go (by simp) h.num) (go (by simp) h.tol),t⟩
def Qyd(st:StL)(p dl f u2:Addr)(m:Int)(l:Nat)(us q0:List (Int×Nat))(es rs:List Dt)(zs xs:List V)(H:Hp)(i:Nat)(σ':St)(H':Hp):Prop:=∃ a b dn rest r1 r2 ys x6,σ'=[some (.ref p),some (.int m),some (.ref dl),some (.ref f),some (.int (l:Int)),some (.ref u2),x6]/\es=a++b/\a.length=i/\q0=dn++rest/\rs=r1++r2/\((l=0/\rest=[]/\r2=b)\/∃ l',l=l'+1/\Zac (Wlk (Qt st) l') b rest r2)/\QH [dl,f] H H'/\H' dl=some (.dK (lvK (us++(m,l)::dn)))/\H' f=some (.lst (zs++ys))/\Paired (fun d v=>TD H' 6 d v) r1 ys/\H' u2=some (.tup xs)/\Paired (fun d v=>TD H' 6 d v) es xs
inductive QQa(P:Program)(w:World)(_cs ob:Nat->Addr)(n:Nat)(vs:List V)(H:Hp)(Q:VK)(E:XK):Prop
 | mk:∀ p d1 d2 st c,∀ m:Int,∀ l:Nat,∀ dl f us zs ws rs,vs=[.ref p,.int m,.ref dl,.ref f]->QG P w ob H p d1 d2 st c->Wlk (Qt st) l m ws rs->l<=n->H dl=some (.dK (lvK us))->dl∉[p,d1,d2]->H f=some (.lst zs)->((us++ws).map Prod.fst).Nodup->us.length+ws.length<=9000->zs.length+rs.length<=9000->(∀ H' ys,QH [dl,f] H H'->H' dl=some (.dK (lvK (us++ws)))->H' f=some (.lst (zs++ys))->Paired (fun d v=>TD H' 6 d v) rs ys->Q (.ref f) H')->QQa P w _cs ob n vs H Q E
def J3(P:Program)(w:World)(_cs ob:Nat->Addr):Nat->Sp
 | 0=>fun _ _ _ _=>False
 | n+1=>QQa P w _cs ob n
seal PE PT PW PA PS PSs PI PG QY PGs PO in
theorem QNb(Z:Zs mg)(T:Tx K mg CT cs ob)(YB:MeV P w K mg base 1 (ob 0) "told" (Q4 K ob))(Jc:MeV P w K mg base 1 (ob 1) "told" (Q4 K ob))(Jd:MeV P w K mg base 1 (ob 2) "told" (Q4 K ob))(Qx:MeV P w K mg base 5 (ob 3) "page" (Q1 P w cs ob)){n:Nat}(IH:Cal P w K mg base (8+n) "_law_walk" ["_law_pages","_law_number","_law_levels","_law_found"] (J3 P w cs ob n))(F:Fun K "_law_walk" "_law_walk" Qla f fd):QF P w K mg base CX0 (8+n+1) f fd ["_law_pages","_law_number","_law_levels","_law_found"] (J3 P w cs ob (n+1)):=by
 refine F.ok JX (fun vs H Q E h=>?_) (fun cdv A outer s H vs Q E hr h=>?_)
 ·walk_at "n"
 obtain⟨p,d1,d2,st,c,m,l,dl,f,us,zs,ws,rs,rfl,hS,hW,hl,hdl,hdn,hf,nd,lu,lz,q⟩:=h;refine⟨_,(@Qa _ _ _ _ _ (Jeb (PE1.pe (Q5a (k:=(8+n)) (Zi (k:=(8+n)) (pv 0) hr rfl (Qf (pv 1) Qe)) hr rfl) ZP) (JPa (n:=2) rfl (ZY (Q7 (i:=4) JX.nd rfl (Or.inl rfl)) (ZY (Q7 (i:=5) JX.nd rfl (Or.inl rfl)) Zja))))
  (@Qa _ _ _ _ _ (JCa hr.u1 (pv 2) (pv 1) (pv 4) rfl)
  (@Qa _ _ _ _ _ (JM PassesOwn.never rfl (Jgb (pv 5)) (Q7 (i:=6) JX.nd rfl (Or.inl rfl)) (Qg (QN (Qs Zk (pv 4) Qb (Qw _)) (Qg (ZK (Jja PySem.F.plainAttrs_list PySem.F.slot_list_append PySem.F.type_list_append Ja (pv 3) (Qf (pv 6) Qe)))) (Qg (ZK (Qo IH (k:=(8+n)) hr (by omega) rfl (Qf (pv 0) (Qf (QA QI (pv 6) Qb (fun _ _=>rfl)) (Qf (pv 2) (Qf (pv 3) Qe))))))))))
  (Qg (Qm (pv 3)))))),?_⟩
 refine Qn (σ:=[some (.ref p),some (.int m),some (.ref dl),some (.ref f),none,none,none]) rfl ?_
 refine X8a fun R hR=>?_
 have sh:∃ es q0,(m,Zc (l:Int) es)∈Qt st/\ws=(m,l)::q0/\((l=0/\q0=[]/\rs=es)\/∃ l',l=l'+1/\Zac (Wlk (Qt st) l') es q0 rs):=by
  match l,hW with
  | 0,⟨hm,e⟩=>exact⟨rs,[],hm,e,.inl ⟨rfl,rfl,rfl⟩⟩
  | l+1,⟨es,q0,hm,e,hq⟩=>exact⟨es,q0,hm,e,.inr ⟨l,rfl,hq⟩⟩
 obtain⟨es,q0,hm,ews,hc⟩:=sh;walk_at "rd";have few:=PgD.few hS hm;refine YC T Qx (by omega) rfl rfl hS hm fun pg H1 s1 hpg pgd=>?_
 obtain⟨tw,dxa,t0,etw,hpa,ht⟩:=id pgd;have Mt:MeV P w K mg base 1 (ob (if tw=true then 2 else 1)) "told" (Q4 K ob):=by cases tw with | true=>exact Jd | false=>exact Jc
 refine⟨pg,rfl,_,dxa,_,hpa,by cases tw <;> rfl,(T.ob_ _ ZFb).cl,_,Mt.mono (by omega),⟨pg,_,_,rfl,pgd,fun r H3 s3 hr3 t3=>?_⟩⟩
 obtain⟨_,xv,zv,ev,h3,v1,v2⟩:=TD.pair_of t3;cases ev;obtain⟨_,rfl⟩:=v1.flat;obtain⟨mm,u2,xs,em,rfl,hu2,rt⟩:=v2.tup;obtain rfl:mm=6:=by omega
 have lxs:=Paired.length rt;have s13:=s1.trans s3;have hm0:m∉us.map Prod.fst:=fun z=>by
  rw[ews,map_append]at nd;exact(nodup_append.mp nd).2.2 _ z m (by simp) rfl
 walk_at "rd";refine⟨_,SqT.of h3,rfl,_,_,rfl,_,_,rfl,rfl,_,XSa.k (k:=.inl m) (s13 _ _ hdl) (Nat.lt_of_le_of_lt (show(lvK us).length<=9000 by unfold lvK;rw[Vr];omega) (by rw[sizeLine_eq];decide)),?_⟩
 rw[JSc hm0];have dl3:=s13 _ _ hdl;have t4:Zl H3 (upd H3 dl (.dK (lvK (us++[(m,l)])))):=YCa dl3;have sx4:QH [dl,f] H (upd H3 dl (.dK (lvK (us++[(m,l)])))):=(s13.x _).upd (by simp)
 have g4:upd H3 dl (.dK (lvK (us++[(m,l)]))) dl=some (.dK (lvK (us++[(m,l)]))):=Qd;have nf:f≠dl:=fun z=>by rw[z,hdl]at hf;cases hf
 have f4:upd H3 dl (.dK (lvK (us++[(m,l)]))) f=some (.lst zs):=by rw[Qi nf];exact s13 _ _ hf
 generalize upd H3 dl (.dK (lvK (us++[(m,l)])))=H4 at t4 sx4 g4 f4 ⊢;have u4:=t4 _ _ hu2;have rt4:=TDs.sameT rt t4;refine hR _ _ ?_
 clear hR;walk_at "rd";refine⟨⟨_,SqT.of u4⟩,?_⟩
 refine Ysb xs (Qyd st p dl f u2 m l us q0 es rs zs xs H)
  ⟨[],es,[],q0,[],rs,[],_,rfl,rfl,rfl,rfl,rfl,hc.imp_left fun z=>z,sx4,g4,by rw[append_nil];exact f4,.nil,u4,rt4⟩ (fun _ _ _ _ h=>by obtain⟨_,_,_,_,_,_,_,_,_,_,_,_,_,_,_,_,_,_,h,_⟩:=h;exact SqT.of h) ?_ ?_
 ·rintro i x σ' H' hx ⟨a,b,dn,rest,r1,r2,ys,x6,rfl,ees,ea,eq0,ers,hc,sx,hdl',hf',pr,hu',rt'⟩
  obtain⟨hS',tt'⟩:=hS.xLD hf hdl hdn sx;have hi:=(Vc.mp hx).1
  match b,hc with
  | [],_=>rw[ees]at lxs;simp at lxs;omega
  | e::bs,hc =>
   have he:es[i]?=some e:=by rw[ees,<- ea];simp
   have tx:=Qv rt' he hx;walk_at "rd";have lys:ys.length=r1.length:=(Paired.length pr).symm;have lq:ws.length=1+(dn.length+rest.length):=by rw[ews,eq0];simp;omega
   have lr:rs.length=r1.length+r2.length:=by rw[ers];simp
   rcases hc with ⟨rfl,rfl,rfl⟩ | ⟨l',rfl,p1,q1,ra,rb,erest,er2,⟨k,n',ee,hp⟩,hq⟩
   ·rw[if_pos (show((0:Nat):Int)=0 from rfl)]
    simp at lr;refine⟨.inl ⟨rfl,_,SqL.of hf'⟩,_,hf',Nat.lt_of_le_of_lt (show(zs++ys).length<=9000 by rw[Vs];omega) (by rw[sizeLine_eq];decide),?_⟩
    have t5:Zl H' (upd H' f (.lst (zs++ys++[x]))):=YZ hf';refine⟨a++[e],bs,dn,[],r1++[e],bs,ys++[x],_,rfl,by rw[ees];simp,by simp;omega,eq0,by rw[ers];simp,.inl ⟨rfl,rfl,rfl⟩,sx.upd (by simp),by rw[Qi (Ne.symm nf)];exact hdl',by rw[Qd,Vq],QC (TDs.sameT pr t5) (.cons (TD.sameT t5 6 tx) .nil),t5 _ _ hu',TDs.sameT rt' t5⟩
   ·rw[if_neg (by omega)]
    rw[ee]at tx;obtain⟨bb,u1,u3,eb,hb,x1,x2⟩:=TD.pair_of tx;obtain⟨_,rfl⟩:=x2.flat;obtain⟨n,rfl⟩:∃ n0,n=n0+1:=⟨n - 1,by omega⟩
    subst er2;rw[erest]at lq eq0;simp at lr lq;refine⟨bb,eb,_,SqT.of hb,_,at1 _ _ _,p,d1,d2,st,c,n',l',dl,f,us++(m,l'+1)::dn,zs++ys,p1,ra,rfl,hS',hp,by omega,hdl',hdn,hf',?_,by simp;omega,by simp;omega,fun H7 ys2 sx7 d7 f7 pr7=>?_⟩
    ·rw[ews,eq0]at nd
     refine List.Nodup.sublist ?_ nd
     simp
    have t7:=(hS'.xLD hf' hdl' hdn sx7).2;refine⟨a++[e],bs,dn++p1,q1,r1++ra,rb,ys++ys2,_,rfl,by rw[ees];simp,by simp;omega,by rw[eq0];simp,by rw[ers];simp,.inr ⟨l',rfl,hq⟩,sx.trans sx7,by rw[d7];simp,by rw[f7,Vq],QC (TDs.sameT pr t7) pr7,t7 _ _ hu',TDs.sameT rt' t7⟩
 ·rintro σ' H' ⟨a,b,dn,rest,r1,r2,ys,x6,rfl,ees,ea,eq0,ers,hc,sx,hdl',hf',pr,hu',rt'⟩
  walk_at "rd";have eb:b=[]:=by
   rw[ees]at lxs;simp at lxs;exact eq_nil_of_length_eq_zero (by omega)
  subst eb;obtain⟨er,er2⟩:rest=[]/\r2=[]:=by
   rcases hc with ⟨_,z1,z2⟩ | ⟨_,_,z1,z2⟩
   ·exact⟨z1,z2⟩
   ·exact⟨z1,z2⟩
  subst er er2;rw[append_nil]at eq0 ers;subst eq0 ers;exact q H' ys sx (by rw[ews];exact hdl') hf' pr
theorem Jpa(s:Qp H H')(h:H' a=none):H a=none:=by
 cases e:H a with
 | none=>rfl
 | some o=>rw[s _ _ e]at h;cases h
def Qgd(st:StL)(es:List Dt)(v:V)(ws:List (Int×Nat)):Prop:=(v=.non/\ws=[]/\es=[])\/∃ (top:Nat) (n:Int),v=.int n/\top<=6/\Wlk (Qt st) top n ws es
inductive XR(P:Program)(w:World)(_cs ob:Nat->Addr)(vs:List V)(H:Hp)(Q:VK)(E:XK):Prop
 | mk:∀ p d1 d2 st c v es ws,vs=[.ref p,v]->QG P w ob H p d1 d2 st c->Qgd st es v ws->(ws.map Prod.fst).Nodup->ws.length<=9000->es.length<=9000->(∀ r dl f H' ys,Qp H H'->H dl=none->H f=none->H r=none->H' r=some (.tup [.ref dl,.ref f])->H' dl=some (.dK (lvK ws))->H' f=some (.lst ys)->Paired (fun d v=>TD H' 6 d v) es ys->Q (.ref r) H')->XR P w _cs ob vs H Q E
seal PE PT PW PA PS PSs PI PG QY PGs PO in
theorem QOb(Z:Zs mg)(T:Tx K mg CT cs ob)(ZXb:∀ n,Cal P w K mg base (8+n) "_law_walk" ["_law_pages","_law_number","_law_levels","_law_found"] (J3 P w cs ob n))(F:Fun K "_law_read" "_law_read" Qma f fd):QF P w K mg base CX0 17 f fd ["_law_pages","_law_root"] (XR P w cs ob):=by
 refine F.ok Xy (fun vs H Q E h=>?_) (fun cdv A outer s H vs Q E hr h=>?_)
 ·walk_at "n"
 obtain⟨p,d1,d2,st,c,v,es,ws,rfl,hS,hW,nd,lw,le,q⟩:=h;refine⟨_,(@Qa _ _ _ _ _ (Ql (i:=2) Xy.nd rfl (Or.inl rfl) JXa)
  (@Qa _ _ _ _ _ (QN (Qs XPa (pv 1) JL (Qw _)) (Qg (Qm (Zm (Qf (pv 2) (Qf (Ji Qe) Qe))))) Qu)
  (@Qa _ _ _ _ _ (Ql (i:=3) Xy.nd rfl (Or.inl rfl) (Qo (ZXb 8) (k:=16) hr (by decide) rfl (Qf (pv 0) (Qf (pv 1) (Qf (pv 2) (Qf (Ji Qe) Qe))))))
  (Qg (Qm (Zm (Qf (pv 2) (Qf (pv 3) Qe)))))))),?_⟩
 refine Qn (σ:=[some (.ref p),some v,none,none]) rfl ?_
 walk_at "rd";intro dl hdl;have s1:=Qh hdl (.dK []);have g1:upd H dl (.dK []) dl=some (.dK []):=Qd;generalize upd H dl (.dK [])=H1 at s1 g1 ⊢
 rcases hW with ⟨rfl,rfl,rfl⟩ | ⟨top,n,rfl,h6,hW⟩
 ·rw[if_pos rfl]
  refine⟨Vk _,fun f hf=>⟨Z8,fun r hr=>?_⟩⟩
  have s2:=Qh hf (.lst []);have s3:=Qh hr (.tup [.ref dl,.ref f]);exact q r dl f _ [] (s1.trans (s2.trans s3)) hdl (Jpa s1 hf) (Jpa (s1.trans s2) hr) Qd ((s2.trans s3) _ _ g1) (s3 _ _ Qd) .nil
 ·rw[if_neg (fun z=>nomatch z)]
  refine⟨Vk _,fun f hf=>?_⟩
  have s2:=Qh hf (.lst []);have g2:upd H1 f (.lst []) f=some (.lst []):=Qd;have h1:=s2 _ _ g1;generalize upd H1 f (.lst [])=H2 at s2 g2 h1 ⊢;have s12:=s1.trans s2;have hS2:=hS.same s12;have dn:dl∉[p,d1,d2]:=fun z=>by
   obtain⟨dx,ho⟩:=hS.obj;simp only[mem_cons,not_mem_nil,or_false]at z
   rcases z with z | z | z
   ·rw[z,ho]at hdl;cases hdl
   ·rw[z,hS.num]at hdl;cases hdl
   ·rw[z,hS.tol]at hdl;cases hdl
  refine⟨p,d1,d2,st,c,n,top,dl,f,[],[],ws,es,rfl,hS2,hW,Vj h6 (by decide),h1,dn,g2,by rw[nil_append];exact nd,by simp;omega,by simp;omega,fun H3 ys sx d3 f3 pr=>⟨Z8,fun r hr=>?_⟩⟩
  have s3:=Qh hr (.tup [.ref dl,.ref f]);have sx':Qp H H3:=fun b o e=>sx _ _ (fun z=>by
   simp only[mem_cons,not_mem_nil,or_false]at z
   rcases z with z | z
   ·rw[z,hdl]at e;cases e
   ·rw[z,Jpa s1 hf]at e;cases e) (s12 _ _ e)
  exact q r dl f _ ys (sx'.trans s3) hdl (Jpa s1 hf) (Jpa sx' hr) Qd (s3 _ _ d3) (s3 _ _ f3) (TDs.sameT pr s3.t)
theorem Zsc:(ZI (lvK us) (.inl n)).isSome=decide (n∈us.map Prod.fst):=by
 rw[<- YW]
 induction us with
 | nil=>rfl
 | cons x r ih =>
  rw[show lvK (x::r)=(.inl x.1,.int (x.2:Int))::lvK r from rfl,any_cons,ih]
  by_cases e:x.1=n
  ·simp[e]
  ·simp[e,show(Sum.inl x.1:Key)≠.inl n from fun z=>e (Sum.inl.inj z),show n≠x.1 from fun z=>e z.symm]
theorem Ztc(nd:(ws.map Prod.fst).Nodup):((lvK ws).map Prod.fst).Nodup:=by
 have e:(lvK ws).map Prod.fst=(ws.map Prod.fst).map Sum.inl:=by simp[lvK]
 rw[e];exact List.Pairwise.map _ (fun a b h z=>h (Sum.inl.inj z)) nd
def Zuc(ws us:List (Int×Nat))(j:Nat)(v:V):Bool:=ws.any fun x=>decide (v=.int x.1) && (x.2 == j && !decide (x.1∈us.map Prod.fst))
theorem YXb(nd:(ws.map Prod.fst).Nodup){x:Int×Nat}(hx:x∈ws):Zuc ws us j (.int x.1)=(x.2 == j && !decide (x.1∈us.map Prod.fst)):=by
 unfold Zuc
 induction ws with
 | nil=>cases hx
 | cons y r ih =>
  rw[map_cons]at nd;obtain⟨n1,n2⟩:=nodup_cons.mp nd;rw[any_cons]
  rcases mem_cons.mp hx with rfl | hx
  ·rw[decide_eq_true rfl,Bool.true_and,any_eq_false.mpr,Bool.or_false]
   intro z hz;rw[decide_eq_false (fun e=>n1 (by injection e with e;rw[e];exact mem_map.mpr ⟨z,hz,rfl⟩))]
   simp
  ·rw[ih n2 hx,decide_eq_false (fun e=>n1 (by injection e with e;rw[<- e];exact mem_map.mpr ⟨x,hx,rfl⟩)),Bool.false_and,Bool.false_or]
theorem Zvc(nd:(ws.map Prod.fst).Nodup):(((lvK ws).map fun q=>kV q.1).filter (Zuc ws us j)).length=(ws.filter fun x=>x.2 == j && !decide (x.1∈us.map Prod.fst)).length:=by
 have e:(lvK ws).map (fun q=>kV q.1)=ws.map fun x=>V.int x.1:=by simp[lvK,kV]
 rw[e,filter_map,Vr];exact congrArg List.length (filter_congr fun x hx=>YXb nd hx)
inductive Qua(u0_:W.Frag)(vs:List V)(H:Hp)(Q:VK)(E:XK):Prop
 | mk:∀ dl da ws us,∀ most:Nat,vs=[.ref dl,.ref da,.int most]->H dl=some (.dK (lvK ws))->H da=some (.dK (lvK us))->ws.length<=9000->(ws.map Prod.fst).Nodup->(∀ j:Nat,(ws.filter fun x=>x.2 == j && !decide (x.1∈us.map Prod.fst)).length<=most)->(∀ H',Qp H H'->Q (.bl true) H')->Qua u0_ vs H Q E
seal PE PT PW PA PS PSs PI PG QY PGs PO in
theorem ZYb(Z:Zs mg)(T:Tx K mg CT cs ob)(F:Fun K "_law_few" "_law_few" Xp f fd):QF P w K mg base CX0 1 f fd ["_law_levels","_law_ahead","_law_most"] (Qua K):=by
 refine F.ok Qga (fun vs H Q E h=>?_) (fun cdv A outer s H vs Q E hr h=>?_)
 ·walk_at "n"
 obtain⟨dl,da,ws,us,most,rfl,hdl,hda,lw,nd,few,q⟩:=h;refine⟨_,(@Qa _ _ _ _ _ (JM PassesOwn.never rfl (YU rfl (Z.range) (Qf Qb Qe)) (Q7 (i:=3) Qga.nd rfl (Or.inr rfl)) (@Qa _ _ _ _ _ (Joc (Zab (j:=4) ["_law_levels","_law_ahead","_law_most","_law_level","_law_some"] rfl Qga.nd rfl rfl (Jka (N:=["_law_levels","_law_ahead","_law_most","_law_level","_law_some"]) (dsc:=Qj Xp) rfl rfl (by decide +kernel)) (X5a (pv 0)) (fun _ _ _ _ _=>(XTa (PW.pt (YE (Qs Zk (JBa hr.u1 (pv 1) (pv 0) (fun _ _=>rfl)) (pv 4) (Qw _)) (Jv (XNa (Xra hr.u1 (pv 0) (pv 2)))))))) (fun _ _ _ _ _=>(pv 0))))
  (Qg (QN (Qs Jga (Qz QR rfl (Z.len) ZL (Qf (pv 4) Qe)) (pv 2) (Qw _)) (Qg (Qm XT)) Qu))))
  (Qg (Qm XT))),?_⟩
 refine Qn (σ:=[some (.ref dl),some (.ref da),some (.int most),none,none]) rfl ?_
 walk_at "rd";refine⟨by decide,by decide,?_⟩
 refine Qxa (fun i σ' H'=>∃ x3 x4,σ'=[some (.ref dl),some (.ref da),some (.int most),x3,x4]/\Qp H H') ⟨_,_,rfl,Qp.refl _⟩ ?_ ?_
 ·rintro i σ' H' hi ⟨x3,x4,rfl,sm⟩
  walk_at "rd";have hd':=sm _ _ hdl;have ll:(lvK ws).length<=sizeLine:=Vj (show(lvK ws).length<=9000 by unfold lvK;rw[Vr];exact lw) (by rw[sizeLine_eq];decide)
  refine⟨_,hd',fun ob nf=>Yca (Zuc ws us i) ll Qd (fun k v H2 R hm s2 hR=>?_) fun D H2 hD s2 hD2=>?_⟩
  ·obtain⟨x,hx,e⟩:=mem_map.mp hm
   injection e with e1 e2
   subst e1 e2;have fd:=s2 _ _ (show upd H' dl (.frz ob (.dK (lvK ws))) dl=some (.frz ob (.dK (lvK ws))) from Qd)
   have ra:Rd H2 da (.dK (lvK us)):=by
    by_cases ed:da=dl
    ·rw[ed,hdl]at hda
     injection hda with hda
     rw[ed,<- hda];exact .inr ⟨ob,fd⟩
    ·exact .inl (s2 _ _ (by rw[Qi ed];exact sm _ _ hda))
   walk_at "rd";refine⟨_,.inl ⟨lvK ws,.inl x.1,.inr ⟨ob,fd⟩,rfl,(ZPa (Ztc nd) hm).symm⟩,rfl,?_⟩
   have hp:=YXb (us:=us) (j:=i) nd hx;refine Zg (fun e=>⟨_,.inl ⟨lvK us,.inl x.1,ra,rfl,rfl⟩,?_⟩) fun e=>?_
   ·injection e with e
    rw[Zsc];have:=hR H2 (Qp.refl _);rw[show kV (Sum.inl x.1)=V.int x.1 from rfl,hp,show(x.2 == i)=true from beq_iff_eq.mpr (by omega),Bool.true_and]at this
    exact this
   ·have:=hR H2 (Qp.refl _)
    rw[show kV (Sum.inl x.1)=V.int x.1 from rfl,hp,show(x.2 == i)=false from beq_eq_false_iff_ne.mpr fun z=>e (by rw[z];congr 1;omega),Bool.false_and]at this
    exact this
  ·have fd:=s2 _ _ (show upd H' dl (.frz ob (.dK (lvK ws))) dl=some (.frz ob (.dK (lvK ws))) from Qd)
   have nD:D≠dl:=fun z=>by rw[z,Qd]at hD;cases hD
   have g3:upd H2 dl (.dK (lvK ws)) D=some (.lst (((lvK ws).map fun q=>kV q.1).filter (Zuc ws us i))):=by rw[Qi nD];exact hD2
   refine⟨dl,nf,ob,lvK ws,fd,D,rfl,_,.inl (SqL.of g3),?_⟩
   have:=few i;rw[Zvc nd,if_neg (by omega)]
   refine⟨_,_,⟨rfl,rfl⟩,fun b o e=>?_⟩
   by_cases eb:b=dl
   ·rw[eb,hdl]at e
    rw[eb,Qd];exact e
   ·rw[Qi eb]
    exact s2 _ _ (by rw[Qi eb];exact sm _ _ e)
 ·rintro σ' H' ⟨x3,x4,rfl,sm⟩
  walk_at "rd";exact q H' sm
inductive Yn(P:Program)(w:World)(_cs ob:Nat->Addr)(vs:List V)(H:Hp)(Q:VK)(E:XK):Prop
 | mk:∀ p d1 d2 st c v k es,vs=[.ref p,v,k]->QG P w ob H p d1 d2 st c->ZJ st es v->XLb es->es.length<=700->Q6 k->st.length+8 * es.length<=1000000->(∀ d∈es,Qr d≠k)->(∀ H',Qp H H'->Q (.bl true) H')->Yn P w _cs ob vs H Q E
seal PE PT PW PA PS PSs PI PG QY PGs PO in
theorem YFa(Z:Zs mg)(T:Tx K mg CT cs ob)(J7b:JDb P w K mg base 24 "take" ["pages","root","key"] (JLa P w cs ob))(F:Fun K "_law_no_row" "_law_no_row" YM f fd):QF P w K mg base CX0 25 f fd ["_law_pages","_law_root","_law_key_here"] (Yn P w cs ob):=by
 refine F.ok Jl (fun vs H Q E h=>?_) (fun cdv A outer s H vs Q E hr h=>?_)
 ·walk_at "n"
 obtain⟨p,d1,d2,st,c,v,k,es,rfl,hS,hT,hR,le,hk,ls,hno,q⟩:=h;refine⟨_,(@Qa _ _ _ _ _ (Ql (i:=3) Jl.nd rfl (Or.inl rfl) (Zm Qe))
  (@Qa _ _ _ _ _ (Jsc (i:=4) (QIc (Zza J7b (k:=24) hr (by decide) rfl rfl (Qf (pv 0) (Qf (pv 1) (Qf (pv 2) Qe))))) rfl rfl rfl rfl T.mg_NoRow (T.cl 2 (by decide)) Jl.nd rfl rfl (fun ea ok=>(Qg (Ql (i:=3) Jl.nd rfl (Or.inl rfl) (Zm (Qf (QYc CT (pv 4) rfl) Qe))))))
  (Qg (Qm (Jxa (QMc (hr.units)) (pv 3) (Zm (Qf (pv 2) Qe)) (Qw _)))))),?_⟩
 refine Qn (σ:=[some (.ref p),some v,some k,none,none]) rfl ?_
 walk_at "rd";refine⟨Vk _,fun t0 ht0=>?_⟩
 have s0:=Qh ht0 (.tup []);generalize upd H t0 (.tup [])=H0 at s0 ⊢;refine⟨p,d1,d2,st,c,v,k,es,rfl,hS.same s0,hT,hR,le,hk,ls,fun⟨d,hd,e⟩=>(hno d hd e).elim,fun _ H2 d s2 hd2=>⟨rfl,fun ea hea=>?_⟩⟩
 have hne:d≠ea:=fun z=>by rw[<- z,Qd]at hea;cases hea
 have xa:XAt (upd (upd H2 d (xD d [("key",k)])) ea (xC ea (cs 2) (some d))) ea (cs 2) [("key",k)]:=.inr ⟨d,Qd,by rw[Qi hne];exact Qd⟩
 have xc:=T.cl 2 (by decide)
 have s3:=s2.trans ((Qh hd2 (xD d [("key",k)])).trans (Qh hea (xC ea (cs 2) (some d))));generalize upd (upd H2 d (xD d [("key",k)])) ea (xC ea (cs 2) (some d))=H3 at xa s3 ⊢;refine⟨ea,cs 2,_,_,rfl,xa,xc,T.no 2 (by decide) _ (by decide),rfl,show 1<=sizeLine by decide,fun t1 ht1=>?_⟩
 simp only[ZH.gone];walk_at "rd";refine⟨show 1<=sizeLine by decide,fun t2 ht2=>?_⟩
 have s4:=Qh ht1 (.tup [k]);have s5:=Qh ht2 (.tup [k]);have fl:∀ x∈[k],J9 x=true:=fun x hx=>by rw[mem_singleton.mp hx];exact ZDa (ZGb hk)
 exact Jqc (n:=1) (by decide) (ZSb (s5 _ _ Qd) fl) (ZSb Qd fl) (q _ (s0.trans (s3.trans (s4.trans s5))))
theorem Zwc{k:Key}(h:k∉kvs.map Prod.fst):ZI kvs k=none:=by
 cases e:ZI kvs k with
 | none=>rfl
 | some w=>exact(h (mem_map.mpr ⟨_,JOc e,rfl⟩)).elim
theorem J8b(nd:(kvs.map Prod.fst).Nodup):YF [] kvs=kvs:=by
 suffices h:∀ (r p:List (Key×V)),((p++r).map Prod.fst).Nodup->YF p r=p++r by exact h kvs [] (by simpa using nd)
 intro r
 induction r with
 | nil=>intro p _;simp[YF]
 | cons x r ih =>
  intro p nd;have e:p++x::r=(p++[x])++r:=by simp
  have hx:x.1∉p.map Prod.fst:=by
   rw[map_append,map_cons]at nd;intro h;exact(nodup_append.mp nd).2.2 x.1 h x.1 (by simp) rfl
  show YF (ZX p x.1 x.2) r=_;rw[Q4b _ (Zwc hx),e];rw[e]at nd;exact ih _ nd
theorem ZZb:∀ {es:List Dt} {xs:List V},Paired (fun d v=>TD H 6 d v) es xs->(∀ d∈es,Yj d)->∃ kvs:List (Key×V),Paired (fun(kv:Key×V) y=>∃ t,y=.ref t/\H t=some (.tup [kV kv.1,kv.2])) kvs xs/\Paired (fun d (kv:Key×V)=>∃ c,d=.t [.v (kV kv.1),.t c]/\TD H 5 (.t c) kv.2) es kvs
 | _,_,.nil,_=>⟨[],.nil,.nil⟩
 | _,_,.cons (a:=d) (b:=x) r t,h=>by
  obtain⟨kvs,p1,p2⟩:=ZZb t fun d hd=>h d (Vo _ hd)
  obtain⟨k,c,ed,hk⟩:=h d mem_cons_self;rw[ed]at r;obtain⟨b,v1,v2,eb,hb,w1,w2⟩:=TD.pair_of r;obtain⟨_,rfl⟩:=w1.flat;obtain⟨kk,ek⟩:=QKb hk;subst ek;exact⟨(kk,v2)::kvs,.cons ⟨b,eb,hb⟩ p1,.cons ⟨c,ed,w2⟩ p2⟩
abbrev Zxc(H:Hp)(d:Dt)(kv:Key×V):Prop:=∃ c,d=.t [.v (kV kv.1),.t c]/\TD H 5 (.t c) kv.2
theorem Zyc(p:Paired (Zxc H) es kvs)(up:UpR ltK es):(kvs.map Prod.fst).Nodup:=by
 rw[List.Nodup,pairwise_map];have l:=Paired.length p;refine pairwise_iff_getElem.mpr fun i j hi hj hij e=>?_
 have h:=pairwise_iff_getElem.mp up i j (by omega) (by omega) hij
 obtain⟨c1,e1,_⟩:=Qv p (Vb (by omega)) (Vb hi)
 obtain⟨c2,e2,_⟩:=Qv p (Vb (by omega)) (Vb hj)
 rw[e1,e2,show Qr (.t [.v (kV kvs[i].1),.t c1])=kV kvs[i].1 from rfl,show Qr (.t [.v (kV kvs[j].1),.t c2])=kV kvs[j].1 from rfl,e]at h
 exact ltK.irr _ h
theorem JTc(p:Paired (Zxc H) es kvs)(row:∀ d∈es,Yj d)(th:∀ d∈es,JI (Qr d))(up:UpR ltK es):DkD H kvs es:=by
 have l:=Paired.length p;have at_:∀ k w,(k,w)∈kvs->∃ c,TD H 5 (.t c) w/\Dt.t [.v (kV k),.t c]∈es:=fun k w hm=>by
  obtain⟨i,hi,ei⟩:=mem_iff_getElem.mp hm;obtain⟨c,e,t⟩:=Qv p (Vb (by omega)) (Vc.mpr ⟨hi,ei⟩)
  exact⟨c,t,by rw[<- e];exact getElem_mem _⟩
 refine⟨row,up,Zyc p up,at_,fun d hd=>?_,fun k w hm=>?_⟩
 ·obtain⟨i,hi,ei⟩:=mem_iff_getElem.mp hd
  obtain⟨c,e,t⟩:=Qv p (Vc.mpr ⟨hi,ei⟩) (Vb (by omega))
  exact⟨_,_,c,getElem_mem (by omega),e,t⟩
 ·obtain⟨c,_,m⟩:=at_ k w hm
  exact th _ m
def WkT(st:StL)(es:List Dt)(v:V)(ws:List (Int×Nat)):Prop:=(v=.non/\ws=[]/\es=[])\/∃ (top:Nat) (n:Int),v=.int n/\top<=6/\Y2 QK (Qt st) es top n/\Wlk (Qt st) top n ws es/\WOk QK (Qt st) top es ws
theorem Wlk.mono{tbl':List (Int×Dt)}(s:∀ x∈tbl,x∈tbl'):∀ (l:Nat) {m:Int} {ws:List (Int×Nat)} {rs:List Dt},Wlk tbl l m ws rs->Wlk tbl' l m ws rs
 | 0,_,_,_,⟨h,e⟩=>⟨s _ h,e⟩
 | l+1,_,_,_,⟨es,q,h,e,w⟩=>by
  refine⟨es,q,s _ h,e,?_⟩
  clear h e;rename_i rs
  induction es generalizing q rs with
  | nil=>exact w
  | cons x r ih =>
   obtain⟨p,q',r1,r2,e1,e2,⟨k,n,ee,hp⟩,hq⟩:=w;exact⟨p,q',r1,r2,e1,e2,⟨k,n,ee,Wlk.mono s l hp⟩,ih _ _ hq⟩
theorem WkT.mono(f:Fn (Qt st'))(h:WkT st es v ws)(s:∀ x∈Qt st,x∈Qt st'):WkT st' es v ws:=by
 rcases h with h | ⟨top,n,ev,h6,r,w,ok⟩
 ·exact .inl h
 ·refine .inr ⟨top,n,ev,h6,r.mono f s,Wlk.mono s _ w,fun x hx=>?_,ok.nd,ok.len,fun j hs hj t=>?_⟩
  ·obtain⟨a,es,b,c⟩:=ok.pg x hx
   exact⟨a,es,s _ b,c⟩
  ·obtain⟨k,tr⟩:=r.one
   obtain⟨gs,tg⟩:=tr.below (j:=j+1) (by omega)
   rw[t.det f (tg.mono s)];exact ok.lev j gs hj tg
theorem WkT.of(h:WkT st es v ws):Qgd st es v ws/\(ws.map Prod.fst).Nodup/\ws.length<=7 * es.length:=by
 rcases h with ⟨a,b,c⟩ | ⟨top,n,ev,h6,r,w,ok⟩
 ·exact⟨.inl ⟨a,b,c⟩,by rw[b];exact nodup_nil,by rw[b];exact Vk _⟩
 ·refine⟨.inr ⟨top,n,ev,h6,w⟩,ok.nd,Vj ok.len (Nat.mul_le_mul_right _ (by omega))⟩
theorem Z0b{p:Addr}(hS:QG P w ob H p d1 d2 st c)(hT:ZJ st es v)(hrow:∀ d∈es,Yj d)(up:UpR ltK es):∃ ws,WkT st es v ws:=by
 have hT0:=hT
 rcases hT with ⟨e,ev⟩ | ⟨_,_,_,_,n,_,_,_,ev⟩
 ·exact⟨[],.inl ⟨ev,rfl,e⟩⟩
 subst ev;obtain⟨top,h6,r⟩:=hT0.root hS;obtain⟨ws,h1,h2⟩:=r.wlk hS.fn (by rw[List.Nodup,pairwise_map];exact List.Pairwise.imp (fun {a b} (h:ltK (Qr a) (Qr b)) (e:Qr a=Qr b)=>ltK.irr (Qr b) (by rw[e]at h;exact h)) up)
 exact⟨ws,.inr ⟨top,n,rfl,h6,r,h1,h2⟩⟩
theorem Zzc{v':V}{ws':List (Int×Nat)}{b:Nat}(f:Fn (Qt st))(h:WkT st es v ws)(h':WkT st es' v' ws')(w:Few b es es')(hb:1<=b)(h2:b<=2)(hs:(b=2/\es'.length<=es.length+1)\/(es'.map Qr).Sublist (es.map Qr))(j:Nat):(ws'.filter fun x=>x.2 == j && !decide (x.1∈ws.map Prod.fst)).length<=b:=by
 rcases h' with ⟨_,e,_⟩ | ⟨top',n',_,_,r',_,ok'⟩
 ·rw[e];exact Vk _
 rcases h with ⟨_,_,e⟩ | ⟨top,n,_,_,r,_,ok⟩
 ·obtain⟨k',t'⟩:=r'.one
  have hR':=(r'.page).choose_spec.2.2.2
  rcases hs with ⟨_,hl⟩ | hs
  ·rw[e]at hl
   have:(ws'.filter fun x=>x.2 == j && !decide (x.1∈ws.map Prod.fst)).length<=(ws'.filter fun x=>x.2 == j).length:=by
    have q:(ws'.filter fun x=>x.2 == j && !decide (x.1∈ws.map Prod.fst))=(ws'.filter fun x=>x.2 == j).filter fun x=>!decide (x.1∈ws.map Prod.fst):=by
     rw[filter_filter];exact filter_congr fun x _=>Bool.and_comm _ _
    rw[q];exact length_filter_le _ _
   refine Vj this ?_
   by_cases hj:j<=top'
   ·obtain⟨gs,tg⟩:=t'.below (j:=j+1) (by omega)
    have:=congrArg List.length (ok'.lev j gs hj tg);rw[Vr,Vr]at this;have:=tg.len0;simp at hl
    omega
   ·rw[filter_eq_nil_iff.mpr fun x hx=>by have:=(ok'.pg x hx).1;simp;omega]
    exact Vk _
  ·rw[e]at hs
   exact(hR' (map_eq_nil_iff.mp (sublist_nil.mp hs))).elim
 ·exact Jzc f r r' w hb h2 (hs.imp_left fun z=>z.1) ok ok' j
def ZAc(S:List Addr)(H:Hp)(T:List Dt×V×List (Int×Nat))(x:V):Prop:=∃ b rb dl f ys,x=.ref b/\H b=some (.tup [T.2.1,.ref rb])/\H rb=some (.tup [.ref dl,.ref f])/\H dl=some (.dK (lvK T.2.2))/\dl∉S/\H f=some (.lst ys)/\f∉S/\Paired (fun d v=>TD H 6 d v) T.1 ys
def NoT(S:List Addr)(H:Hp):Prop:=∀ a∈S,∀ xs,H a≠some (.tup xs)
theorem NoT.same{S:List Addr}(n:NoT S H)(s:QH S H H'):Zl H H':=fun b xs e=>s b _ (fun z=>n b z xs e) e
theorem ZAc.keep{S:List Addr}{T:List Dt×V×List (Int×Nat)}(h:ZAc S H T x)(n:NoT S H)(s:QH S H H'):ZAc S H' T x:=by
 have t:=n.same s;obtain⟨b,rb,dl,f,ys,e,h1,h2,h3,h4,h5,h6,h7⟩:=h;exact⟨b,rb,dl,f,ys,e,t _ _ h1,t _ _ h2,s _ _ h4 h3,h4,s _ _ h6 h5,h6,TDs.sameT h7 t⟩
abbrev T3:=List Dt×V×List (Int×Nat)
structure Lm(P:Program)(w:World)(K:W.Frag)(ob:Nat->Addr)(H:Hp)(a r x0 d1 d2 p tl:Addr)(ns:List Int)(xs0:List V)(es0:List Dt)(st:StL)(c:Int)(kvs:List (Key×V))(es:List Dt)(v:V)(ts:List V)(Ts:List T3)(i:Nat):Prop where
 sq:∀ H',QH [x0,d1,d2,p,tl] H H'->SqL K H' a (ns.map V.int)
 rw_:H r=some (.lst xs0)
 rn:r∉[x0,d1,d2,p,tl]
 rp:Paired (fun d v=>TD H 6 d v) es0 xs0
 sa:QG P w ob H x0 d1 d2 st c
 dp:H p=some (.dK kvs)
 tp:H tl=some (.lst ts)
 pn:p∉[x0,d1,d2]
 dk:DkD H kvs es
 tr:ZJ st es v
 lk:kvs.length<=120+i
 le:es.length<=120+i
 few:st.length<=960+i * 3000
 ta:Paired (ZAc [x0,d1,d2,p,tl] H) Ts ts
 ok:∀ T∈Ts,WkT st T.1 T.2.1 T.2.2/\T.1.length<=124
 lt:ts.length<=6
section
variable{P:Program}{w:World}{K:W.Frag}{ob:Nat->Addr}{H H':Hp}{a r x0 d1 d2 p tl:Addr}{ns:List Int}{xs0:List V}{es0:List Dt}{st st':StL}{c c':Int}{kvs kvs':List (Key×V)}{es es':List Dt}{v v':V}{ts:List V}{Ts:List T3}{i i':Nat}
theorem Lm.noT(h:Lm P w K ob H a r x0 d1 d2 p tl ns xs0 es0 st c kvs es v ts Ts i):NoT [x0,d1,d2,p,tl] H:=fun b hb xs e=>by
 obtain⟨dx,ho⟩:=h.sa.obj;simp only[mem_cons,not_mem_nil,or_false]at hb
 rcases hb with rfl | rfl | rfl | rfl | rfl
 ·rw[ho]at e;cases e
 ·rw[h.sa.num]at e;cases e
 ·rw[h.sa.tol]at e;cases e
 ·rw[h.dp]at e;cases e
 ·rw[h.tp]at e;cases e
theorem Lm.step(h:Lm P w K ob H a r x0 d1 d2 p tl ns xs0 es0 st c kvs es v ts Ts i)(sx:QH [x0,d1,d2,p,tl] H H')(hS:QG P w ob H' x0 d1 d2 st' c')(sub:∀ x∈Qt st,x∈Qt st')(dp:H' p=some (.dK kvs'))(tp:H' tl=some (.lst ts))(dk:DkD H' kvs' es')(tr:ZJ st' es' v')(lk:kvs'.length<=120+i')(le:es'.length<=120+i')(few:st'.length<=960+i' * 3000):Lm P w K ob H' a r x0 d1 d2 p tl ns xs0 es0 st' c' kvs' es' v' ts Ts i' :=
 ⟨fun H2 s2=>h.sq H2 (sx.trans s2),sx _ _ h.rn h.rw_,h.rn,TDs.sameT h.rp (h.noT.same sx),hS,dp,tp,h.pn,dk,tr,lk,le,few,Paired.mapP h.ta fun _ _ z=>z.keep h.noT sx,fun T hT=>⟨(h.ok T hT).1.mono hS.fn sub,(h.ok T hT).2⟩,h.lt⟩
theorem Lm.same(h:Lm P w K ob H a r x0 d1 d2 p tl ns xs0 es0 st c kvs es v ts Ts i)(s:Qp H H'):Lm P w K ob H' a r x0 d1 d2 p tl ns xs0 es0 st c kvs es v ts Ts i :=
 h.step (s.x _) (h.sa.same s) (fun _ z=>z) (s _ _ h.dp) (s _ _ h.tp) (h.dk.sameT s.t) h.tr h.lk h.le h.few
theorem Lm.rows(h:Lm P w K ob H a r x0 d1 d2 p tl ns xs0 es0 st c kvs es v ts Ts i):SqL K H a (ns.map V.int):=h.sq H (QH.refl _ _)
theorem Lm.dict(h:Lm P w K ob H a r x0 d1 d2 p tl ns xs0 es0 st c kvs es v ts Ts i)(kvs':List (Key×V)):QG P w ob (upd H p (.dK kvs')) x0 d1 d2 st c/\Zl H (upd H p (.dK kvs'))/\upd H p (.dK kvs') tl=some (.lst ts)/\QH [x0,d1,d2,p,tl] H (upd H p (.dK kvs')):=by
 have t:Zl H (upd H p (.dK kvs')):=YCa h.dp;have ne:∀ {x:Addr},x∈[x0,d1,d2]->upd H p (.dK kvs') x=H x:=fun {x} hx=>Qi fun z=>h.pn (by rw[<- z];exact hx)
 exact⟨h.sa.keep t (ne (by simp)) (ne (by simp)) (ne (by simp)),t,by rw[Qi (Jf h.tp h.dp (by intro z;cases z))];exact h.tp,(QH.refl _ _).upd (by simp)⟩
theorem Lm.edit{H5:Hp}(h:Lm P w K ob H a r x0 d1 d2 p tl ns xs0 es0 st c kvs es v ts Ts i)(sx:QH [x0,d1,d2] (upd H p (.dK kvs')) H5)(hS:QG P w ob H5 x0 d1 d2 st' c')(sub:∀ x∈Qt st,x∈Qt st')(dk:DkD H kvs' es')(tr:ZJ st' es' v')(lk:kvs'.length<=120+i')(le:es'.length<=120+i')(few:st'.length<=960+i' * 3000):Lm P w K ob H5 a r x0 d1 d2 p tl ns xs0 es0 st' c' kvs' es' v' ts Ts i':=by
 obtain⟨b1,b2,b3,b4⟩:=h.dict kvs';exact h.step (b4.trans (sx.mono fun a ha=>by simp only[mem_cons,not_mem_nil,or_false]at ha ⊢;rcases ha with z | z | z <;> simp[z])) hS sub (sx _ _ h.pn Qd) (b1.lst sx b3) (dk.sameT (b2.trans (Jn b1 sx))) tr lk le few
theorem Lm.risen{H6:Hp}(h:Lm P w K ob H a r x0 d1 d2 p tl ns xs0 es0 st c kvs es v ts Ts i)(s:Qp H H6)(ra:Jfa H6 kvs ks xs):Paired (fun d v=>TD H6 6 d v) es xs:=by
 obtain⟨es6,dk6,re6⟩:=ra.dk h.dk.nd (fun q hq=>h.dk.key (w:=q.2) hq) (fun q hq=>h.dk.th q.1 q.2 hq) fun q hq=>by obtain⟨c,t,_⟩:=h.dk.to q.1 q.2 hq;exact⟨c,t.same s⟩
 obtain rfl:es6=es:=dk6.uniq (h.dk.sameT s.t);exact re6
theorem Z1b(re:Paired (fun d v=>TD H 6 d v) es xs)(he:∀ d∈es,QFa d/\JI (Qr d)):∀ x∈xs,∃ b k w,x=.ref b/\H b=some (.tup (k::w))/\Q6 k/\JI k:=fun x hx=>by
 obtain⟨i,hi,ei⟩:=mem_iff_getElem.mp hx;obtain⟨d,b,ws,hd,ex,hb,hk,_⟩:=Ywa re (fun d hd=>(he d hd).1) (Vc.mpr ⟨hi,ei⟩)
 exact⟨b,_,ws,ex,hb,hk,(he d (Vm hd)).2⟩
theorem Lm.fresh{y:Addr}(h:Lm P w K ob H a r x0 d1 d2 p tl ns xs0 es0 st c kvs es v ts Ts i)(n:H y=none):y∉[x0,d1,d2,p,tl]:=fun hb=>by
 obtain⟨dx,ho⟩:=h.sa.obj;simp only[mem_cons,not_mem_nil,or_false]at hb
 rcases hb with rfl | rfl | rfl | rfl | rfl
 ·rw[ho]at n;cases n
 ·rw[h.sa.num]at n;cases n
 ·rw[h.sa.tol]at n;cases n
 ·rw[h.dp]at n;cases n
 ·rw[h.tp]at n;cases n
theorem Lm.more{T:T3}(h:Lm P w K ob H a r x0 d1 d2 p tl ns xs0 es0 st c kvs es v ts Ts i)(hx:ZAc [x0,d1,d2,p,tl] H T x)(hT:WkT st T.1 T.2.1 T.2.2/\T.1.length<=124)(l:ts.length<=5):Lm P w K ob (upd H tl (.lst (ts++[x]))) a r x0 d1 d2 p tl ns xs0 es0 st c kvs es v (ts++[x]) (Ts++[T]) i:=by
 have sx:QH [x0,d1,d2,p,tl] H (upd H tl (.lst (ts++[x]))):=(QH.refl _ _).upd (by simp)
 have t:=h.noT.same sx;refine⟨fun H2 s2=>h.sq H2 (sx.trans s2),sx _ _ h.rn h.rw_,h.rn,TDs.sameT h.rp t,h.sa.updL h.tp,by rw[Qi (Jf h.dp h.tp (by intro z;cases z))];exact h.dp,Qd,h.pn,h.dk.sameT t,h.tr,h.lk,h.le,h.few,?_,fun T' hT'=>?_,by simp;omega⟩
 ·exact QC (Paired.mapP h.ta fun _ _ z=>z.keep h.noT sx) (.cons (hx.keep h.noT sx) .nil)
 ·rcases Vl.mp hT' with z | z
  ·exact h.ok T' z
  ·rw[mem_singleton.mp z];exact hT
theorem Lm.ent(h:Lm P w K ob H a r x0 d1 d2 p tl ns xs0 es0 st c kvs es v ts Ts i):∀ d∈es,QFa d/\JI (Qr d):=fun d hd=>⟨(h.dk.row d hd).ent,by obtain⟨k,w,c,hm,rfl,_⟩:=h.dk.of d hd;exact h.dk.th k w hm⟩
end
def Qhd(P:Program)(w:World)(K:W.Frag)(ob:Nat->Addr)(a r x0 d1 d2 p tl:Addr)(ns:List Int)(xs0:List V)(es0:List Dt)(i:Nat)(σ':St)(H':Hp):Prop:=∃ st c kvs es v ts Ts ini ws x6 x7 x8 x9 x10 x11,σ'=[some (.ref a),some (.ref x0),some (.ref r),some v,some (.ref tl),some (.ref p),x6,x7,x8,x9,x10,x11,none,none]/\Lm P w K ob H' a r x0 d1 d2 p tl ns xs0 es0 st c kvs es v ts Ts i/\Ts=ini++[(es,v,ws)]/\ts.length<=i+1
inductive YGa(K:W.Frag)(vs:List V)(H:Hp)(Q:VK)(E:XK):Prop
 | mk:∀ (a:Addr) (ns:List Int),vs=[.ref a]->SqL K H a (ns.map V.int)->(∀ H',Q (.bl true) H')->YGa K vs H Q E
seal PE PT PW PA PS PSs PI PG QY PGs PO in
theorem Xvc(Z:Zs mg)(T:Tx K mg CT cs ob)(Z2b:Cal P w K mg base 6 "_law_rows" ["_law_script"] (XO K))(Qzb:JDb P w K mg base 7 "built" ["pages","rows"] (ZMa P w cs ob))(QRa:Cal P w K mg base 4 "_law_sought" ["_law_cell_here","_law_rows_here"] (Yl K))(QX:Cal P w K mg base 1 "_law_mix" ["_law_cell_here","_law_k"] (Zy K))(Qva:Cal P w K mg base 17 "_law_read" ["_law_pages","_law_root"] (XR P w cs ob))(Je:Cal P w K mg base 1 "_law_cell" ["_law_script","_law_k"] (J1 K))(JD:Cal P w K mg base 1 "_law_rising" ["_law_some"] (Jp K))(J7b:JDb P w K mg base 24 "take" ["pages","root","key"] (JLa P w cs ob))(XQ:Cal P w K mg base 5 "_law_cells" ["_law_cell_here"] (Z0 K))(Qid:JDb P w K mg base 15 "put" ["pages","root","key","cells"] (Qyb P w cs ob))(QSa:Cal P w K mg base 25 "_law_no_row" ["_law_pages","_law_root","_law_key_here"] (Yn P w cs ob))(Y7a:Cal P w K mg base 10 "_law_listed" ["_law_found","_law_due"] (Ym K))(J9b:Cal P w K mg base 1 "_law_few" ["_law_levels","_law_ahead","_law_most"] (Qua K))(QPb:MkV P w K mg base 1 "Pages" (ob 3) (Jy P w ob))(F:Fun K "law" "law" XEa f fd):QF P w K mg base CX0 26 f fd ["_law_script"] (YGa K):=by
 refine F.ok Zv (fun vs H Q E h=>?_) (fun cdv A outer s H vs Q E hr h=>?_)
 ·walk_at "n"
 obtain⟨a,ns,rfl,hS0,q⟩:=h;refine⟨_,(@Qa _ _ _ _ _ (Ql (i:=1) Zv.nd rfl (Or.inl rfl) (Xfc QPb (k:=25) hr (by decide) rfl))
  (@Qa _ _ _ _ _ (Ql (i:=2) Zv.nd rfl (Or.inl rfl) (Qo Z2b (k:=25) hr (by decide) rfl (Qf (pv 0) Qe)))
  (@Qa _ _ _ _ _ (Ql (i:=3) Zv.nd rfl (Or.inl rfl) (PE1.pe (Zza Qzb (k:=25) hr (by decide) rfl rfl (Qf (pv 1) (Qf (Zr Zz rfl (Z.list) JQ (Qf (pv 2) Qe)) Qe))) ZP))
  (@Qa _ _ _ _ _ (Ql (i:=4) Zv.nd rfl (Or.inl rfl) (Ji (Qf (Zm (Qf (pv 3) (Qf (Qo Qva (k:=25) hr (by decide) rfl (Qf (pv 1) (Qf (pv 3) Qe))) Qe))) Qe)))
  (@Qa _ _ _ _ _ (Ql (i:=5) Zv.nd rfl (Or.inl rfl) (Zr (JHb hr.hd) rfl (Z.dict) Jyc (Qf (pv 2) Qe)))
  (@Qa _ _ _ _ _ (JM PassesOwn.never rfl (YU rfl (Z.range) (Qf Qb Qe)) (Q7 (i:=6) Zv.nd rfl (Or.inl rfl)) (@Qa _ _ _ _ _ (Ql (i:=7) Zv.nd rfl (Or.inl rfl) (Qo QX (k:=25) hr (by decide) rfl (Qf (Qo Je (k:=25) hr (by decide) rfl (Qf (pv 0) (Qf Qb Qe))) (Qf (Qk Q9 Qb (pv 6)) Qe))))
  (@Qa _ _ _ _ _ (Ql (i:=8) Zv.nd rfl (Or.inl rfl) (Qo QRa (k:=25) hr (by decide) rfl (Qf (Qo QX (k:=25) hr (by decide) rfl (Qf (pv 7) (Qf Qb Qe))) (Qf (Qo JD (k:=25) hr (by decide) rfl (Qf (pv 5) Qe)) Qe))))
  (@Qa _ _ _ _ _ (Ql (i:=9) Zv.nd rfl (Or.inl rfl) Qb)
  (@Qa _ _ _ _ _ (QN (PW.pt (YE (Qs Zk (Qk QD (pv 7) Qb) Qb (Qw _)) (Jv (Qs Jga (Qz Xsa rfl (Z.len) ZL (Qf (pv 5) Qe)) Qb (Qw _))))) (@Qa _ _ _ _ _ (Ql (i:=9) Zv.nd rfl (Or.inl rfl) Qb)
  (@Qa _ _ _ _ _ (Ql (i:=8) Zv.nd rfl (Or.inl rfl) (QA Q2 (Zr (JIb hr.hd) rfl (Z.list) JQ (Qf (pv 5) Qe)) (Qk QD (Qk Q8 (pv 7) Qb) (Qz Xsa rfl (Z.len) ZL (Qf (pv 5) Qe))) (fun _ _=>rfl)))
  (@Qa _ _ _ _ _ (ZK (Qgc (pv 5) (pv 8) ⟨rfl,rfl,rfl,rfl⟩))
  (Qg (Ql (i:=3) Zv.nd rfl (Or.inl rfl) (PE1.pe (Zza J7b (k:=25) hr (by decide) rfl rfl (Qf (pv 1) (Qf (pv 3) (Qf (pv 8) Qe)))) ZP)))))) (@Qa _ _ _ _ _ (JCa hr.u1 (pv 5) (pv 8) (Qo XQ (k:=25) hr (by decide) rfl (Qf (Qo QX (k:=25) hr (by decide) rfl (Qf (pv 7) (Qf Qb Qe))) Qe)) rfl)
  (Qg (Ql (i:=3) Zv.nd rfl (Or.inl rfl) (PE1.pe (Zza Qid (k:=25) hr (by decide) rfl rfl (Qf (pv 1) (Qf (pv 3) (Qf (pv 8) (Qf (JBa hr.u1 (pv 5) (pv 8) (fun _ _=>rfl)) Qe))))) ZP)))))
  (@Qa _ _ _ _ _ (Jeb (Qo Qva (k:=25) hr (by decide) rfl (Qf (pv 1) (Qf (pv 3) Qe))) (JPa (n:=2) rfl (ZY (Q7 (i:=10) Zv.nd rfl (Or.inl rfl)) (ZY (Q7 (i:=11) Zv.nd rfl (Or.inl rfl)) Zja))))
  (@Qa _ _ _ _ _ (QN (PW.pt (JOa (Js (ZU (Qo Y7a (k:=25) hr (by decide) rfl (Qf (pv 11) (Qf (Qo JD (k:=25) hr (by decide) rfl (Qf (pv 5) Qe)) Qe))) (fun _=>rfl))) (QUa (Js (ZU (Qo J9b (k:=25) hr (by decide) rfl (Qf (pv 10) (Qf (QA QI (QA QI (QA Q2 (pv 4) (QYb JTa Qb) (fun _ _=>rfl)) Qb (fun _ _=>rfl)) Qb (fun _ _=>rfl)) (Qf (pv 9) Qe)))) (fun _=>rfl)))))) (Qg (Qm XT)) Qu)
  (Qg (ZK (Jja PySem.F.plainAttrs_list PySem.F.slot_list_append PySem.F.type_list_append Ja (pv 4) (Qf (Zm (Qf (pv 3) (Qf (Zm (Qf (pv 10) (Qf (pv 11) Qe))) Qe))) Qe)))))))))))
  (@Qa _ _ _ _ _ (Ql (i:=8) Zv.nd rfl (Or.inl rfl) (Qo QRa (k:=25) hr (by decide) rfl (Qf (Qo QX (k:=25) hr (by decide) rfl (Qf (Qo Je (k:=25) hr (by decide) rfl (Qf (pv 0) (Qf Qb Qe))) (Qf Qb Qe))) (Qf (pv 2) Qe))))
  (@Qa _ _ _ _ _ (QN (XNa (YMc hr.u1 (pv 8) (pv 5))) (Qg (Ql (i:=8) Zv.nd rfl (Or.inl rfl) Xb)) Qu)
  (@Qa _ _ _ _ _ (QN (PW.pt (JOa (Js (ZU (Qo QSa (k:=25) hr (by decide) rfl (Qf (pv 1) (Qf (pv 3) (Qf (pv 8) Qe)))) (fun _=>rfl))) (QUa (Js (ZU (Qo QSa (k:=25) hr (by decide) rfl (Qf (pv 1) (Qf JL (Qf (pv 8) Qe)))) (fun _=>rfl)))))) (Qg (Qm XT)) Qu)
  (@Qa _ _ _ _ _ (JM PassesOwn.never rfl (Jwa (pv 4)) (JPa (n:=2) rfl (ZY (Q7 (i:=12) Zv.nd rfl (Or.inl rfl)) (ZY (Q7 (i:=13) Zv.nd rfl (Or.inl rfl)) Zja))) (Qg (QN (Qs (JAc (hr.units)) (Qo Qva (k:=25) hr (by decide) rfl (Qf (pv 1) (Qf (pv 12) Qe))) (pv 13) (Qw _)) (Qg (Qm XT)) Qu)))
  (Qg (Qm XT)))))))))))),?_⟩
 refine Qn (σ:=[some (.ref a),none,none,none,none,none,none,none,none,none,none,none,none,none]) rfl ?_
 refine YPb fun R hR=>?_
 have go:∀ r x0 d1 d2 p tl xs0 es0 v H1,es0.length<=120->(∀ d∈es0,QFa d/\JI (Qr d))->Qhd P w K ob a r x0 d1 d2 p tl ns xs0 es0 0 [some (.ref a),some (.ref x0),some (.ref r),some v,some (.ref tl),some (.ref p),none,none,none,none,none,none,none,none] H1->R [some (.ref a),some (.ref x0),some (.ref r),some v,some (.ref tl),some (.ref p),none,none,none,none,none,none,none,none] H1:=by
  intro r x0 d1 d2 p tl xs0 es0 v0 H1 le0 hes0 hI;refine hR _ _ (YOb fun R1 hR1=>?_)
  clear hR;walk_at "rd";refine⟨by decide,by decide,Qxa (Qhd P w K ob a r x0 d1 d2 p tl ns xs0 es0) hI ?_ ?_⟩
  ·intro i σ' H' hi hI2
   clear hR1 hI;obtain⟨st,c,kvs,es,v,ts,Ts,ini,ws,x6,x7,x8,x9,x10,x11,rfl,lm,eT,lt⟩:=hI2;refine Jxc fun R4 hR4=>?_
   have go4:∀ (bm:Nat) v' es' st' c' kvs' H4 x7 x8,Lm P w K ob H4 a r x0 d1 d2 p tl ns xs0 es0 st' c' kvs' es' v' ts Ts (i+1)->Few bm es es'->1<=bm->bm<=2->((bm=2/\es'.length<=es.length+1)\/(es'.map Qr).Sublist (es.map Qr))->R4 [some (.ref a),some (.ref x0),some (.ref r),some v',some (.ref tl),some (.ref p),some (.int (0+(i:Int))),x7,x8,some (.int bm),x10,x11,none,none] H4:=by
    intro bm v' es' st' c' kvs' H4 x7 x8 lm4 fw b1 b2 hb;refine hR4 _ _ (YOb fun R5 hR5=>?_)
    clear hR4;walk_at "rd";have le4:=lm4.le;have lk4:=lm4.lk;obtain⟨ws',hws⟩:=Z0b lm4.sa lm4.tr lm4.dk.row lm4.dk.up;obtain⟨w1,w2,w3⟩:=hws.of;refine⟨x0,d1,d2,st',c',v',es',ws',rfl,lm4.sa,w1,w2,by omega,by omega,fun rb dl f H5 ys s5 ndl nf nrb grb gdl gf pf=>?_⟩
    have lm5:=lm4.same s5;refine⟨rb,rfl,_,SqT.of grb,rfl,_,_,rfl,_,_,rfl,rfl,hR5 _ _ ?_⟩
    clear hR5;walk_at "rd";refine⟨p,kvs',rfl,lm5.dp,by omega,(fun q hq=>lm5.dk.key (w:=q.2) hq),lm5.dk.nd,fun rr H6 xs6 ks s6 hr6 g6 ra=>?_⟩
    have re6:=lm5.risen s6 ra;refine⟨f,rr,ys,xs6,es',rfl,s6 _ _ gf,g6,TDs.mono (TDs.sameT pf s6.t) (by decide),TDs.mono re6 (by decide),fun H7 s7=>⟨_,rfl,?_⟩⟩
    rw[if_neg (fun z=>Bool.noConfusion z)]
    have s57:=s6.trans s7;have lm7:=lm5.same s57;have ta7:=lm7.ta;rw[eT]at ta7;obtain⟨u1,u2,eu,_,pu⟩:=ZFa ta7
    match u2,pu with
    | [xl],.cons hl .nil =>
    obtain⟨b0,rb0,dl0,f0,ys0,ex,g1,g2,g3,_,_,_,_⟩:=id hl;refine⟨_,SqL.of lm7.tp,xl,by rw[eu];exact XY _ _,b0,ex,_,SqT.of g1,_,at1 _ _ _,rb0,rfl,_,SqT.of g2,_,at0 _ _,dl,dl0,ws',ws,bm,rfl,s57 _ _ gdl,g3,by omega,w2,Zzc lm4.sa.fn (lm4.ok (es,v,ws) (by rw[eT];simp)).1 hws fw b1 b2 hb,fun H8 s8=>⟨_,rfl,?_⟩⟩
    rw[if_neg (fun z=>Bool.noConfusion z)]
    have lm8:=lm7.same s8;have s58:=s57.trans s8;refine⟨.inl ⟨rfl,_,SqL.of lm8.tp⟩,Z8,fun t1 ht1=>⟨Z8,fun t2 ht2=>?_⟩⟩
    have s9:=Qh ht1 (.tup [.ref dl,.ref f]);have k1:upd H8 t1 (.tup [.ref dl,.ref f]) t1=some (.tup [.ref dl,.ref f]):=Qd;have s10:=Qh ht2 (.tup [v',.ref t1]);have k2:upd (upd H8 t1 (.tup [.ref dl,.ref f])) t2 (.tup [v',.ref t1]) t2=some (.tup [v',.ref t1]):=Qd;have k3:=s10 _ _ k1;generalize upd (upd H8 t1 (.tup [.ref dl,.ref f])) t2 (.tup [v',.ref t1])=H9 at s10 k2 k3 ⊢;have lm9:=lm8.same (s9.trans s10);have s59:=s58.trans (s9.trans s10);refine⟨ts,lm9.tp,QO (by omega),st',c',kvs',es',v',ts++[.ref t2],Ts++[(es',v',ws')],Ts,ws',_,_,_,_,_,_,rfl,lm9.more (T:=(es',v',ws')) ⟨t2,t1,dl,f,ys,rfl,k2,k3,s59 _ _ gdl,lm4.fresh ndl,s59 _ _ gf,lm4.fresh nf,TDs.sameT pf s59.t⟩ ⟨hws,by show es'.length<=124;omega⟩ (by omega),rfl,by simp;omega⟩
   clear hR4;walk_at "rd";have le:=lm.le;have lk:=lm.lk;have fw:=lm.few;refine⟨a,ns,2,rfl,lm.rows,fun c2=>⟨c2,_,rfl,fun m _ _=>⟨m,_,rfl,fun m2 _ _=>⟨p,kvs,rfl,lm.dp,by omega,(fun q hq=>lm.dk.key (w:=q.2) hq),lm.dk.nd,fun rr H3 xs3 ks s3 hr3 g3 ra=>?_⟩⟩⟩⟩
   have re3:=lm.risen s3 ra;have lm3:=lm.same s3;have lx3:=Paired.length re3;refine⟨m2,rr,xs3,rfl,g3,by omega,Z1b re3 lm3.ent,fun kk H4 hk hth s4=>⟨m,rfl,?_⟩⟩
   have lm4:=lm3.same s4;obtain⟨k,rfl⟩:=QKb hk;have pt:Zy K [.int m,.int 8] H4 (fun x_4 H1=>Z0 K [x_4] H1 (fun v_1 H1=>∃ x_5,XSa H1 p (kV k) v_1 x_5/\∃ x_6,QZa x_5 p (kV k) (some x_6)/\Qyb P w cs ob [.ref x0,v,kV k,x_6] x_5 (fun x_7 H1=>R4 [some (.ref a),some (.ref x0),some (.ref r),some x_7,some (.ref tl),some (.ref p),some (.int (0+(i:Int))),some (.int m),some (kV k),some (.int 2),x10,x11,none,none] H1) E0) E0) E0:=by
    refine⟨m,8,rfl,fun m3 _ _=>⟨m3,rfl,fun rc H5 s5 fz=>?_⟩⟩
    have lm5:=lm4.same s5;obtain⟨cd,tc⟩:=ZUb fz;have tc5:=TD.mono 4 (m:=5) (by decide) tc
    obtain⟨b1,b2,b3,b4⟩:=lm5.dict (ZX kvs k (.ref rc));have gp:upd H5 p (.dK (ZX kvs k (.ref rc))) p=some (.dK (ZX kvs k (.ref rc))):=Qd;refine⟨_,XSa.k (k:=k) lm5.dp (QO (by omega)),.ref rc,by have:=QZa.k (k:=k) gp;rw[Qbc,if_pos rfl]at this;exact this,?_⟩
    refine⟨x0,d1,d2,st,c,v,kV k,.ref rc,cd,es,rfl,b1,lm5.tr,⟨lm5.dk.row,lm5.dk.up,by omega⟩,by omega,hk,TD.sameT b2 5 tc5,by omega,fun H6 st6 c6 v6 es6 sx hS6 sub few6 pr tr6=>?_⟩
    have l6:es6.length<=es.length+1:=by
     obtain⟨A,C,e,h | ⟨o,h,_⟩,_⟩:=pr <;> rw[e,h] <;> simp <;> omega
    have lp6:=JE kvs k (.ref rc);exact go4 2 v6 es6 st6 c6 (ZX kvs k (.ref rc)) H6 _ _ (lm5.edit sx hS6 sub (DkD.put lm5.dk hk hth tc5 pr) tr6 (by omega) (by omega) (by omega)) (pr.few rfl) (by decide) (by decide) (.inl ⟨rfl,l6⟩)
   refine Zg (fun hod=>⟨_,lm4.dp,Zg (fun hpos=>?_) fun _=>pt⟩) fun _=>pt
   refine⟨p,kvs,rfl,lm4.dp,by omega,fun D hD=>?_⟩
   have s5:=Qh hD (.lst (kvs.map fun p=>kV p.1))
   have g5:upd H4 D (.lst (kvs.map fun p=>kV p.1)) D=some (.lst (kvs.map fun p=>kV p.1)):=Qd
   generalize upd H4 D (.lst (kvs.map fun p=>kV p.1))=H5 at s5 g5 ⊢
   have lm5:=lm4.same s5;have h1:=Int.emod_nonneg (m / 2) (show(kvs.length:Int)≠0 by omega)
   have h2:=Int.emod_lt_of_pos (m / 2) (show(0:Int) < kvs.length by omega)
   have hj:(m / 2 % (kvs.length:Int)).toNat < kvs.length:=by omega
   have hjx:atI (kvs.map fun p=>kV p.1) (m / 2 % (kvs.length:Int))=some (kV (kvs[(m / 2 % (kvs.length:Int)).toNat]'hj).1):=by
    have e:m / 2 % (kvs.length:Int)=(((m / 2 % (kvs.length:Int)).toNat:Nat):Int):=by omega
    have:=Zb (xs:=kvs.map fun p=>kV p.1) (j:=(m / 2 % (kvs.length:Int)).toNat) (v:=kV (kvs[(m / 2 % (kvs.length:Int)).toNat]'hj).1) (by rw[getElem?_map,Vb hj];rfl)
    rw[<- e]at this;exact this
   obtain⟨⟨kj,wj⟩,ekj⟩:∃ q,kvs[(m / 2 % (kvs.length:Int)).toNat]'hj=q:=⟨_,rfl⟩;have hmj:(kj,wj)∈kvs:=by rw[<- ekj];exact getElem_mem hj
   rw[ekj]at hjx;obtain⟨cc,_,mem⟩:=lm5.dk.to kj wj hmj;obtain⟨b1,b2,b3,b4⟩:=lm5.dict (XZ kvs kj);refine⟨m,rfl,by unfold J7;decide,kvs,lm5.dp,hpos,D,rfl,_,SqL.of g5,_,hjx,.inl ⟨_,.inl lm5.dp⟩,kvs,lm5.dp,kj,rfl,wj,ZPa lm5.dk.nd hmj,x0,d1,d2,st,c,v,kV kj,es,rfl,b1,lm5.tr,⟨lm5.dk.row,lm5.dk.up,by omega⟩,by omega,lm5.dk.key (w:=wj) hmj,by omega,fun _ H6 st6 c6 v6 es6 sx hS6 sub few6 dl tr6=>?_,fun no=>(no _ mem rfl).elim⟩
   have l6:es6.length<=es.length:=by
    obtain⟨A,o,C,e,h,_⟩:=dl;rw[e,h];simp
   have lp6:=Q5b kvs kj;exact go4 1 v6 es6 st6 c6 (XZ kvs kj) H6 _ _ (lm5.edit sx hS6 sub (DkD.drop lm5.dk dl) tr6 (by omega) (by omega) (by omega)) dl.few (by decide) (by decide) (.inr dl.sub)
  ·intro σ' H' hI2
   obtain⟨st,c,kvs,es,v,ts,Ts,ini,ws,x6,x7,x8,x9,x10,x11,rfl,lm,eT,lt⟩:=hI2;refine hR1 _ _ (X8a fun R2 hR2=>?_)
   clear hR1 hI;have le:=lm.le;have fw:=lm.few;have go2:∀ key H3,Q6 key->(∀ d∈es,Qr d≠key)->Lm P w K ob H3 a r x0 d1 d2 p tl ns xs0 es0 st c kvs es v ts Ts 4->R2 [some (.ref a),some (.ref x0),some (.ref r),some v,some (.ref tl),some (.ref p),x6,x7,some key,x9,x10,x11,none,none] H3:=by
    intro key H3 hk hno lm3;refine hR2 _ _ ?_
    clear hR2;walk_at "rd";refine⟨x0,d1,d2,st,c,v,key,es,rfl,lm3.sa,lm3.tr,⟨lm3.dk.row,lm3.dk.up,by omega⟩,by omega,hk,by omega,hno,fun H4 s4=>⟨_,rfl,?_⟩⟩
    rw[if_neg (fun z=>Bool.noConfusion z)]
    have lm4:=lm3.same s4;refine⟨x0,d1,d2,st,c,.non,key,[],rfl,lm4.sa,.inl ⟨rfl,rfl⟩,⟨(fun d h=>nomatch h),.nil,Vk _⟩,Vk _,hk,by simp;omega,(fun d h=>nomatch h),fun H5 s5=>⟨_,rfl,?_⟩⟩
    rw[if_neg (fun z=>Bool.noConfusion z)]
    have lm5:=lm4.same s5;refine⟨⟨_,SqL.of lm5.tp⟩,Zua ts (fun i σ' H'=>∃ y12 y13,σ'=[some (.ref a),some (.ref x0),some (.ref r),some v,some (.ref tl),some (.ref p),x6,x7,some key,x9,x10,x11,y12,y13]/\Qp H5 H') ⟨_,_,rfl,Qp.refl _⟩ (fun i σ' H' _ h=>by obtain⟨_,_,_,h⟩:=h;exact SqL.of (h _ _ lm5.tp)) ?_ ?_⟩
    ·rintro i x σ' H6 hx ⟨y12,y13,rfl,s6⟩
     have lm6:=lm5.same s6;have lT:=Paired.length lm6.ta;have hi:=(Vc.mp hx).1
     have hT:Ts[i]?=some (Ts[i]'(by omega)):=Vb _
     obtain⟨b0,rb0,dl0,f0,ys0,ex,g1,g2,g3,_,g4,_,g5⟩:=Qv lm6.ta hT hx;obtain⟨hw,lt0⟩:=lm6.ok _ (Vm hT);obtain⟨w1,w2,w3⟩:=hw.of;generalize Ts[i]'(by omega)=T at g1 g2 g3 g4 g5 hw lt0 w1 w2 w3
     subst ex;walk_at "rd";refine⟨_,SqT.of g1,rfl,_,_,rfl,_,_,rfl,rfl,x0,d1,d2,st,c,T.2.1,T.1,T.2.2,rfl,lm6.sa,w1,w2,by omega,by omega,fun rb dl f H7 ys s7 _ _ _ grb gdl gf pf=>?_⟩
     refine⟨rb,rb0,dl,dl0,f,f0,lvK T.2.2,7,.l T.1,rfl,rfl,SqT.of grb,SqT.of (s7 _ _ g2),.inl gdl,.inl (s7 _ _ g3),(fun p hp=>?_),(fun p hp=>?_),Ztc w2,by decide,ZJb gf pf,ZJb (s7 _ _ g4) (TDs.sameT g5 s7.t),⟨_,rfl,?_⟩⟩
     ·obtain⟨x,_,rfl⟩:=mem_map.mp hp;exact⟨_,rfl⟩
     ·obtain⟨x,_,rfl⟩:=mem_map.mp hp;rfl
     rw[if_neg Vf];exact⟨_,_,⟨rfl,rfl⟩,s6.trans s7⟩
    ·rintro σ' H6 ⟨y12,y13,rfl,s6⟩
     walk_at "rd";exact q _
   clear hR2;walk_at "rd";have lx0:=Paired.length lm.rp;refine⟨a,ns,2,rfl,lm.rows,fun c2=>⟨c2,_,rfl,fun m _ _=>⟨m,r,xs0,rfl,lm.rw_,by omega,Z1b lm.rp hes0,fun kk H3 hk hth s3=>?_⟩⟩⟩
   obtain⟨k,rfl⟩:=QKb hk;have lm3:=lm.same s3;refine⟨_,QZa.k (k:=k) lm3.dp,Zg (fun hs=>go2 _ _ ?_ (fun d hd z=>?_) lm3) fun hs=>go2 _ _ hk (fun d hd z=>?_) lm3⟩
   ·show(Str.ofString "beside").length<=40
    decide
   ·have:=(lm3.ent d hd).2
    rw[z]at this;obtain⟨x,y,h⟩:=this;have h1:=h 98 (by decide)
    have h2:=h 101 (by decide)
    have h3:=h 115 (by decide)
    omega
   ·obtain⟨k',w',c',hm,rfl,_⟩:=lm3.dk.of d hd
    have ek:=Yza (show kV k'=kV k from z)
    subst ek;rw[ZPa lm3.dk.nd hm]at hs;exact hs rfl
 clear hR;walk_at "rd";intro x0 dx0 hx0 hdx0 hne0;refine⟨x0,dx0,rfl,Qd,fun d1 d2 H2 dx fs f1 f2 s1 st1=>?_⟩
 have S1:Qp H H2:=by rw[Y9]at s1;exact JGa hx0 hdx0 s1
 walk_at "rd";refine⟨a,ns,rfl,S1.seq hS0,fun r H3 xs es s3 hr3 g3 re3 hrow hthn up le=>⟨r,rfl,xs,.inl (SqL.of g3),fun l hl=>?_⟩⟩
 have s4:=Qh hl (.lst xs);have g4:upd H3 l (.lst xs) l=some (.lst xs):=Qd;generalize upd H3 l (.lst xs)=H4 at s4 g4 ⊢;have lx:=Paired.length re3;have hA4:=st1.same (s3.trans s4);have upk:(es.map Qr).Pairwise fun a b=>Pl.ltV a b=true:=by rw[pairwise_map];exact List.Pairwise.imp (fun {a b} h=>h.2.2) up
 refine⟨x0,d1,d2,[],0,l,xs,es,rfl,hA4,g4,TDs.sameT re3 s4.t,(fun d hd=>(hrow d hd).ent),by omega,by simp;omega,.inl ⟨upk,fun H5 st c v sx5 hS5 sub5 l5 ht5=>?_⟩⟩
 have ht5:ZJ st es v:=ht5;have t45:=Jn hA4 sx5;have re5:=TDs.sameT re3 (s4.t.trans t45);have r5:=hA4.lst sx5 (s4 _ _ g3);have q5:=hA4.seq sx5 ((S1.trans (s3.trans s4)).seq hS0);obtain⟨ws,hws⟩:=Z0b hS5 ht5 hrow up;obtain⟨w1,w2,w3⟩:=hws.of;refine⟨x0,d1,d2,st,c,v,es,ws,rfl,hS5,w1,w2,by omega,by omega,fun rb dl f H6 ys s6 ndl nf nrb grb gdl gf pf=>?_⟩
 try dsimp only
 refine⟨Z8,fun b hb=>⟨JSb _,fun tl htl=>?_⟩⟩
 have s7:=Qh hb (.tup [v,.ref rb]);have g7:upd H6 b (.tup [v,.ref rb]) b=some (.tup [v,.ref rb]):=Qd;have s8:=Qh htl (.lst [.ref b]);have g8:upd (upd H6 b (.tup [v,.ref rb])) tl (.lst [.ref b]) tl=some (.lst [.ref b]):=Qd;have h7:=s8 _ _ g7;have n7:=Jpa s7 htl;generalize upd (upd H6 b (.tup [v,.ref rb])) tl (.lst [.ref b])=H8 at s8 g8 h7 ⊢;have s58:=s6.trans (s7.trans s8);obtain⟨kvs,pk1,pk2⟩:=ZZb (TDs.sameT re5 s58.t) hrow;have pk2:Paired (Zxc H8) es kvs:=pk2;refine⟨r,xs,kvs,rfl,s58 _ _ r5,by omega,pk1,fun D hD=>?_⟩
 rw[J8b (Zyc pk2 up)];have lk:=Paired.length pk2;have s9:=Qh hD (.dK kvs);have gD:upd H8 D (.dK kvs) D=some (.dK kvs):=Qd;generalize upd H8 D (.dK kvs)=H9 at s9 gD ⊢;have s69:=(s7.trans s8).trans s9;have s59:=s6.trans s69;have nD5:=Jpa s58 hD;have nt5:=Jpa s6 n7;have st5:∀ {y:Addr},y∈[x0,d1,d2]->∃ o,H5 y=some o:=fun {y} hy=>by
  obtain⟨dx',ho⟩:=hS5.obj;simp only[mem_cons,not_mem_nil,or_false]at hy
  rcases hy with rfl | rfl | rfl
  ·exact⟨_,ho⟩
  ·exact⟨_,hS5.num⟩
  ·exact⟨_,hS5.tol⟩
 have off:∀ {y:Addr} {o:HO},H5 y=some o->y∉[x0,d1,d2]->y∉[x0,d1,d2,D,tl]:=fun {y o} hy n z=>by
  simp only[mem_cons,not_mem_nil,or_false]at z n
  rcases z with z | z | z | z | z
  ·exact n (.inl z)
  ·exact n (.inr (.inl z))
  ·exact n (.inr (.inr z))
  ·rw[z,nD5]at hy;cases hy
  ·rw[z,nt5]at hy;cases hy
 have fr:∀ {y:Addr},H5 y=none->y≠D->y≠tl->y∉[x0,d1,d2,D,tl]:=fun {y} hy n1 n2 z=>by
  have:y∈[x0,d1,d2]\/y=D\/y=tl:=by simpa[or_assoc]using z
  rcases this with z | z | z
  ·obtain⟨o,e⟩:=st5 z;rw[e]at hy;cases hy
  ·exact n1 z
  ·exact n2 z
 refine go r x0 d1 d2 D tl xs es v H9 (by omega) (fun d hd=>⟨(hrow d hd).ent,hthn d hd⟩) ⟨st,c,kvs,es,v,[.ref b],[(es,v,ws)],[],ws,_,_,_,_,_,_,rfl,⟨?_,s59 _ _ r5,?_,TDs.sameT re5 s59.t,hS5.same s59,gD,s9 _ _ g8,?_,(JTc pk2 hrow hthn up).sameT s9.t,ht5,by omega,by omega,by simp at l5;omega,?_,?_,by simp⟩,rfl,by simp⟩
 ·intro H' sx
  rcases q5 with h1 | h1
  ·rcases h1 with h1 | ⟨o,h1⟩
   ·exact .inl (.inl (sx _ _ (off h1 (hS5.off h1 (by intros;intro z;cases z) (by intros;intro z;cases z) (by intros;intro z;cases z))) (s59 _ _ h1)))
   ·exact .inl (.inr ⟨o,sx _ _ (off h1 (hS5.off h1 (by intros;intro z;cases z) (by intros;intro z;cases z) (by intros;intro z;cases z))) (s59 _ _ h1)⟩)
  ·exact .inr h1
 ·exact off r5 (hS5.off r5 (by intros;intro z;cases z) (by intros;intro z;cases z) (by intros;intro z;cases z))
 ·intro z
  obtain⟨o,e⟩:=st5 z;rw[e]at nD5;cases nD5
 ·refine .cons ⟨b,rb,dl,f,ys,rfl,s9 _ _ h7,s69 _ _ grb,s69 _ _ gdl,fr ndl (fun z=>?_) (fun z=>?_),s69 _ _ gf,fr nf (fun z=>?_) (fun z=>?_),TDs.sameT pf s69.t⟩ .nil
  ·rw[<- z,(s7.trans s8) _ _ gdl]at hD;cases hD
  ·rw[<- z,gdl]at n7;cases n7
  ·rw[<- z,(s7.trans s8) _ _ gf]at hD;cases hD
  ·rw[<- z,gf]at n7;cases n7
 ·intro T hT
  rw[mem_singleton.mp hT];exact⟨hws,by show es.length<=124;omega⟩
theorem Xwc{K:W.Frag}{ns:List Int}(hl:ns.length<=63)(_:∀ i∈ns,Builtin.Int.intBits i<=2 ^ 20)(hS:SqL K H a (ns.map V.int)):YGa K [.ref a] H (fun v _=>v=.bl true) fun _ _ _=>False :=
 ⟨a,ns,rfl,hS,fun _=>rfl⟩
theorem Jr{α:Type}{C:List α->Prop}(h:∀ a,C [a]):∀ us:List α,us.length=1->C us:=fun us hl=>by
 match us,hl with
 | [_],_=>exact h _
theorem ZO{α:Type}{C:List α->Prop}(h:∀ a b,C [a,b]):∀ us:List α,us.length=2->C us:=fun us hl=>by
 match us,hl with
 | [_,_],_=>exact h _ _
theorem Y8{α:Type}{C:List α->Prop}(h:∀ a b c,C [a,b,c]):∀ us:List α,us.length=3->C us:=fun us hl=>by
 match us,hl with
 | [_,_,_],_=>exact h _ _ _
theorem Yqc{α:Type}{C:List α->Prop}(h:∀ a b c d,C [a,b,c,d]):∀ us:List α,us.length=4->C us:=fun us hl=>by
 match us,hl with
 | [_,_,_,_],_=>exact h _ _ _ _
theorem cq0{P:Program}{w:World}{K:W.Frag}{mg:Str->Option Value}{base h:Heap}(X:K.In h)(G:h.Ns mainGlobals mg){k:Nat}{f:Addr}{fd:FuncData}{ps:List Str}{sp:Sp}{x:Str}(F:QF P w K mg base CX0 k f fd ps sp)(b:Jj K fd ps [])(kk:W.keepIn K (.ref f)=true)(a:W.nsIn K mainGlobals x=some (some (.ref f))):Cal P w K mg base k x ps sp:=⟨_,_,F,b,kk,W.mg_of X G a⟩
theorem cq1{P:Program}{w:World}{K:W.Frag}{mg:Str->Option Value}{base h:Heap}(X:K.In h)(G:h.Ns mainGlobals mg){k:Nat}{f:Addr}{fd:FuncData}{ps:List Str}{sp:Sp}{x:Str}(F:QF P w K mg base (CX1 P w) k f fd ps sp)(b:Jj K fd ps [])(kk:W.keepIn K (.ref f)=true)(a:W.nsIn K mainGlobals x=some (some (.ref f))):JDb P w K mg base k x ps sp:=⟨_,_,F,b,kk,W.mg_of X G a⟩
theorem mq1{P:Program}{w:World}{K:W.Frag}{mg:Str->Option Value}{base:Heap}{k:Nat}{C f:Addr}{fd:FuncData}{ps:List Str}{sp:Sp}{m:Str}(F:QF P w K mg base (CX1 P w) k f fd ps sp)(b:Jj K fd ps [])(a:W.findIn K (.ref C) m=some (some (.ref f)))(j:W.isFn K (.ref f)=true)(kk:W.keepIn K (.ref f)=true):MeV P w K mg base k C m sp:=⟨_,_,_,⟨a,j,kk⟩,F,b⟩
theorem Xxc{l:W.OpenLaw}{K:W.Frag}{h:Heap}{fa:Addr}(X:K.In h)(G:h.Ns mainGlobals mg)(hfa:mg "law"=some (.ref fa))
 {f1 f2 f3 f4 f5 f6 f7 f8 f9 f10 f11 f12 f13 f14 f15 f16 f17 f18 f19 f20 f21 f22 f23 f24 f25 f26 f27 f28 f29 f30 f31 f32 f33 f34 f35 f36 f37 f38 f39 f40 f41 f42 f43 f44 f45 f46 f47 f48 f49 f50 f51 f52 f53 f54 f55 f56 f57:Addr} {d1 d2 d3 d4 d5 d6 d7 d8 d9 d10 d11 d12 d13 d14 d15 d16 d17 d18 d19 d20 d21 d22 d23 d24 d25 d26 d27 d28 d29 d30 d31 d32 d33 d34 d35 d36 d37 d38 d39 d40 d41 d42 d43 d44 d45 d46 d47 d48 d49 d50 d51 d52 d53 d54 d55 d56 d57:FuncData}
 (ta:W.specialIn K (.builtin "object.__class__") "__get__"=some (some (.builtin "getset_descriptor.__get__"))) (tb:W.takesIn K (.builtin "object.__class__")=some true)
 {O0:Addr} (oa0:W.nsIn K mainGlobals "Page"=some (some (.ref O0))) (of0:W.Ya K O0 ["level","rows","heads","entries","told_by_number","number_by_told","count"]=true)
 {O1:Addr} (oa1:W.nsIn K mainGlobals "Leaf"=some (some (.ref O1))) (of1:W.Ya K O1 ["level","rows","heads","entries","told_by_number","number_by_told","count"]=true)
 (om1:W.makesIn K O1=true) (ok1:W.keepIn K (.ref O1)=true)
 {O2:Addr} (oa2:W.nsIn K mainGlobals "Twig"=some (some (.ref O2))) (of2:W.Ya K O2 ["level","rows","heads","entries","told_by_number","number_by_told","count"]=true)
 (om2:W.makesIn K O2=true) (ok2:W.keepIn K (.ref O2)=true)
 {O3:Addr} (oa3:W.nsIn K mainGlobals "Pages"=some (some (.ref O3))) (of3:W.Ya K O3 ["level","rows","heads","entries","told_by_number","number_by_told","count"]=true)
 (om3:W.makesIn K O3=true) (ok3:W.keepIn K (.ref O3)=true)
 (oo:W.QWc K [O0,O1,O2,O3] Qed=true)
 {CT:Addr} {thd:Bool} {ynm yq:Str} {yN:Addr} {ybs:List Value} {ysn:List Str} {ysub:List Value} {yab:Bool} {ycol:Option Bool} {ydd:Option Addr} {yk0 yk1 yk2 yk3 yk5:Option Value}
 (t1:W.nsIn K mainGlobals "TableError"=some (some (.ref CT))) (t2:K.lookup CT=some (excClassObj ynm yq CT yN ybs W.bmV thd ysn ysub yab ycol ydd yk0 yk1 yk2 yk3 yk5 "ValueError.__new__")) (t3:W.nsOkIn K yN=true) (t4:W.nsIn K yN "__init__"=some none) (t5:W.tailIn K W.bmV W.bmV=true)
 (t6:W.specialIn K (.ref CT) "__getattribute__"=some (some (.builtin "type.__getattribute__"))) (t7:W.readsIn K CT (.type "type")=true) (t8:W.findCls K (.ref CT) (.type "type") "__init__"=some (.val (.builtin "ValueError.__init__")))
 (t9:W.tailIn K W.bmV (.ref CT::W.bmV)=true)
 {C0:Addr} {v0nm v0q:Str} {v0N:Addr} {v0bs:List Value} {v0sn:List Str} {v0sub:List Value} {v0ab:Bool} {v0col:Option Bool} {v0dd:Option Addr} {v0k0 v0k1 v0k2 v0k3 v0k5:Option Value}
 (p0:W.nsIn K mainGlobals "NoPage"=some (some (.ref C0))) (q0:K.lookup C0=some (excClassObj v0nm v0q C0 v0N v0bs (.ref CT::W.bmV) true v0sn v0sub v0ab v0col v0dd v0k0 v0k1 v0k2 v0k3 v0k5 "ValueError.__new__")) (r0:W.nsOkIn K v0N=true) (u0:W.Q1a K C0 ["number","key"]=true)
 (o0:W.keepIn K (.ref C0)=true)
 {C1:Addr} {v1nm v1q:Str} {v1N:Addr} {v1bs:List Value} {v1sn:List Str} {v1sub:List Value} {v1ab:Bool} {v1col:Option Bool} {v1dd:Option Addr} {v1k0 v1k1 v1k2 v1k3 v1k5:Option Value}
 (p1:W.nsIn K mainGlobals "NotRising"=some (some (.ref C1))) (q1:K.lookup C1=some (excClassObj v1nm v1q C1 v1N v1bs (.ref CT::W.bmV) true v1sn v1sub v1ab v1col v1dd v1k0 v1k1 v1k2 v1k3 v1k5 "ValueError.__new__")) (r1:W.nsOkIn K v1N=true) (u1:W.Q1a K C1 ["number","key"]=true)
 (o1:W.keepIn K (.ref C1)=true)
 {C2:Addr} {v2nm v2q:Str} {v2N:Addr} {v2bs:List Value} {v2sn:List Str} {v2sub:List Value} {v2ab:Bool} {v2col:Option Bool} {v2dd:Option Addr} {v2k0 v2k1 v2k2 v2k3 v2k5:Option Value}
 (p2:W.nsIn K mainGlobals "NoRow"=some (some (.ref C2))) (q2:K.lookup C2=some (excClassObj v2nm v2q C2 v2N v2bs (.ref CT::W.bmV) true v2sn v2sub v2ab v2col v2dd v2k0 v2k1 v2k2 v2k3 v2k5 "ValueError.__new__")) (r2:W.nsOkIn K v2N=true) (u2:W.Q1a K C2 ["number","key"]=true)
 (o2:W.keepIn K (.ref C2)=true)
 (tt:W.QKc K [C0,C1,C2]=true) (tu:W.Xac K [C0,C1,C2]=true)
 (a1:W.findIn K (.ref C1) "__init__"=some (some (.ref f1))) (j1:W.isFn K (.ref f1)=true)
 (F1:Fun K "__init__" "NotRising.__init__" Jt f1 d1)
 (a2:W.findIn K (.ref C2) "__init__"=some (some (.ref f2))) (j2:W.isFn K (.ref f2)=true)
 (F2:Fun K "__init__" "NoRow.__init__" Xj f2 d2)
 (a3:W.findIn K (.ref C0) "__init__"=some (some (.ref f3))) (j3:W.isFn K (.ref f3)=true)
 (F3:Fun K "__init__" "NoPage.__init__" YG f3 d3)
 (a4:W.nsIn K mainGlobals "rank_of"=some (some (.ref f4)))
 (F4:Fun K "rank_of" "rank_of" Z3a f4 d4)
 (a5:W.nsIn K mainGlobals "cells_at"=some (some (.ref f5)))
 (F5:Fun K "cells_at" "cells_at" Q7a f5 d5)
 (a6:W.nsIn K mainGlobals "mixed_first"=some (some (.ref f6)))
 (F6:Fun K "mixed_first" "mixed_first" YH f6 d6)
 (a7_0:W.findIn K (.ref O0) "__init__"=some (some (.ref f7)))
 (j7:W.isFn K (.ref f7)=true)
 (F7:Fun K "__init__" "Page.__init__" X9 f7 d7)
 (e7:W.clI K O0 f7=true)
 (a8_0:W.findIn K (.ref O0) "told"=some (some (.ref f8)))
 (a8_1:W.findIn K (.ref O1) "told"=some (some (.ref f8)))
 (a8_2:W.findIn K (.ref O2) "told"=some (some (.ref f8)))
 (j8:W.isFn K (.ref f8)=true)
 (F8:Fun K "told" "Page.told" Qaa f8 d8)
 (a9_0:W.findIn K (.ref O0) "first"=some (some (.ref f9)))
 (a9_1:W.findIn K (.ref O1) "first"=some (some (.ref f9)))
 (a9_2:W.findIn K (.ref O2) "first"=some (some (.ref f9)))
 (j9:W.isFn K (.ref f9)=true)
 (F9:Fun K "first" "Page.first" Xk f9 d9)
 (a10_0:W.findIn K (.ref O0) "under"=some (some (.ref f10)))
 (a10_1:W.findIn K (.ref O1) "under"=some (some (.ref f10)))
 (j10:W.isFn K (.ref f10)=true)
 (F10:Fun K "under" "Page.under" Xl f10 d10)
 (a11_2:W.findIn K (.ref O2) "under"=some (some (.ref f11)))
 (j11:W.isFn K (.ref f11)=true)
 (F11:Fun K "under" "Twig.under" JT f11 d11)
 (a12_3:W.findIn K (.ref O3) "__init__"=some (some (.ref f12)))
 (j12:W.isFn K (.ref f12)=true)
 (F12:Fun K "__init__" "Pages.__init__" Xm f12 d12)
 (a13:W.nsIn K mainGlobals "rows_with"=some (some (.ref f13)))
 (F13:Fun K "rows_with" "rows_with" Qba f13 d13)
 (a14:W.nsIn K mainGlobals "_law_cell"=some (some (.ref f14)))
 (F14:Fun K "_law_cell" "_law_cell" Qca f14 d14)
 (a15:W.nsIn K mainGlobals "_law_mix"=some (some (.ref f15)))
 (F15:Fun K "_law_mix" "_law_mix" Q8a f15 d15)
 (a16:W.nsIn K mainGlobals "_law_sign"=some (some (.ref f16)))
 (F16:Fun K "_law_sign" "_law_sign" Qea f16 d16)
 (a17:W.nsIn K mainGlobals "_law_great"=some (some (.ref f17)))
 (F17:Fun K "_law_great" "_law_great" Xo f17 d17)
 (a18:W.nsIn K mainGlobals "_law_rising"=some (some (.ref f18)))
 (F18:Fun K "_law_rising" "_law_rising" ZE f18 d18)
 (a19:W.nsIn K mainGlobals "_law_near"=some (some (.ref f19)))
 (F19:Fun K "_law_near" "_law_near" Qfa f19 d19)
 (a20:W.nsIn K mainGlobals "_law_few"=some (some (.ref f20)))
 (F20:Fun K "_law_few" "_law_few" Xp f20 d20)
 (a21:W.nsIn K mainGlobals "before"=some (some (.ref f21)))
 (F21:Fun K "before" "before" Yna f21 d21)
 (a22:W.nsIn K mainGlobals "mixed"=some (some (.ref f22)))
 (F22:Fun K "mixed" "mixed" Qhb f22 d22)
 (a23_1:W.findIn K (.ref O1) "__init__"=some (some (.ref f23)))
 (j23:W.isFn K (.ref f23)=true)
 (F23:Fun K "__init__" "Leaf.__init__" Qha f23 d23)
 (a24_2:W.findIn K (.ref O2) "__init__"=some (some (.ref f24)))
 (j24:W.isFn K (.ref f24)=true)
 (F24:Fun K "__init__" "Twig.__init__" Qia f24 d24)
 (a25_3:W.findIn K (.ref O3) "kept"=some (some (.ref f25)))
 (j25:W.isFn K (.ref f25)=true)
 (F25:Fun K "kept" "Pages.kept" Xq f25 d25)
 (a26:W.nsIn K mainGlobals "_law_text"=some (some (.ref f26)))
 (F26:Fun K "_law_text" "_law_text" Yv f26 d26)
 (a27:W.nsIn K mainGlobals "_law_tall"=some (some (.ref f27)))
 (F27:Fun K "_law_tall" "_law_tall" Qja f27 d27)
 (a28:W.nsIn K mainGlobals "place_of"=some (some (.ref f28)))
 (F28:Fun K "place_of" "place_of" Q9a f28 d28)
 (a29:W.nsIn K mainGlobals "level_of"=some (some (.ref f29)))
 (F29:Fun K "level_of" "level_of" Zaa f29 d29)
 (a30_3:W.findIn K (.ref O3) "told_at"=some (some (.ref f30)))
 (j30:W.isFn K (.ref f30)=true)
 (F30:Fun K "told_at" "Pages.told_at" JN f30 d30)
 (a31:W.nsIn K mainGlobals "_law_key"=some (some (.ref f31)))
 (F31:Fun K "_law_key" "_law_key" Zba f31 d31)
 (a32:W.nsIn K mainGlobals "_law_plain"=some (some (.ref f32)))
 (F32:Fun K "_law_plain" "_law_plain" Xr f32 d32)
 (a33:W.nsIn K mainGlobals "last_up_to"=some (some (.ref f33)))
 (F33:Fun K "last_up_to" "last_up_to" JW f33 d33)
 (a34:W.nsIn K mainGlobals "page_of"=some (some (.ref f34)))
 (F34:Fun K "page_of" "page_of" Z5a f34 d34)
 (a35_3:W.findIn K (.ref O3) "card"=some (some (.ref f35)))
 (j35:W.isFn K (.ref f35)=true)
 (F35:Fun K "card" "Pages.card" Xs f35 d35)
 (a36:W.nsIn K mainGlobals "cut"=some (some (.ref f36)))
 (F36:Fun K "cut" "cut" Zbc f36 d36)
 (a37:W.nsIn K mainGlobals "_law_value"=some (some (.ref f37)))
 (F37:Fun K "_law_value" "_law_value" Xt f37 d37)
 (a38:W.nsIn K mainGlobals "_law_sought"=some (some (.ref f38)))
 (F38:Fun K "_law_sought" "_law_sought" YJ f38 d38)
 (a39_3:W.findIn K (.ref O3) "page"=some (some (.ref f39)))
 (j39:W.isFn K (.ref f39)=true)
 (F39:Fun K "page" "Pages.page" Xu f39 d39)
 (a40:W.nsIn K mainGlobals "heads_of"=some (some (.ref f40)))
 (F40:Fun K "heads_of" "heads_of" Zca f40 d40)
 (a41:W.nsIn K mainGlobals "_law_cells"=some (some (.ref f41)))
 (F41:Fun K "_law_cells" "_law_cells" Xv f41 d41)
 (a42:W.nsIn K mainGlobals "seek"=some (some (.ref f42)))
 (F42:Fun K "seek" "seek" JPb f42 d42)
 (a43:W.nsIn K mainGlobals "crowned"=some (some (.ref f43)))
 (F43:Fun K "crowned" "crowned" Z6a f43 d43)
 (a44:W.nsIn K mainGlobals "lowered"=some (some (.ref f44)))
 (F44:Fun K "lowered" "lowered" Z7a f44 d44)
 (a45:W.nsIn K mainGlobals "_law_rows"=some (some (.ref f45)))
 (F45:Fun K "_law_rows" "_law_rows" Yy f45 d45)
 (a46:W.nsIn K mainGlobals "built"=some (some (.ref f46)))
 (F46:Fun K "built" "built" Qkb f46 d46)
 (a47:W.nsIn K mainGlobals "_law_same"=some (some (.ref f47)))
 (F47:Fun K "_law_same" "_law_same" Qka f47 d47)
 (a48:W.nsIn K mainGlobals "_law_listed"=some (some (.ref f48)))
 (F48:Fun K "_law_listed" "_law_listed" YL f48 d48)
 (a49:W.nsIn K mainGlobals "heads_with"=some (some (.ref f49)))
 (F49:Fun K "heads_with" "heads_with" Xx f49 d49)
 (a50:W.nsIn K mainGlobals "joined"=some (some (.ref f50)))
 (F50:Fun K "joined" "joined" Ypa f50 d50)
 (a51:W.nsIn K mainGlobals "put"=some (some (.ref f51)))
 (F51:Fun K "put" "put" Zcc f51 d51)
 (a52:W.nsIn K mainGlobals "_law_walk"=some (some (.ref f52)))
 (F52:Fun K "_law_walk" "_law_walk" Qla f52 d52)
 (a53:W.nsIn K mainGlobals "_law_read"=some (some (.ref f53)))
 (F53:Fun K "_law_read" "_law_read" Qma f53 d53)
 (a54:W.nsIn K mainGlobals "heads_without"=some (some (.ref f54)))
 (F54:Fun K "heads_without" "heads_without" JO f54 d54)
 (a55:W.nsIn K mainGlobals "take"=some (some (.ref f55)))
 (F55:Fun K "take" "take" JRb f55 d55)
 (a56:W.nsIn K mainGlobals "_law_no_row"=some (some (.ref f56)))
 (F56:Fun K "_law_no_row" "_law_no_row" YM f56 d56)
 (a57:W.nsIn K mainGlobals "law"=some (some (.ref f57)))
 (F57:Fun K "law" "law" XEa f57 d57)
 (z1:W.nsIn K mainGlobals "bool"=some none)
 (z2:W.nsIn K mainGlobals "dict"=some none)
 (z3:W.nsIn K mainGlobals "isinstance"=some none)
 (z4:W.nsIn K mainGlobals "len"=some none)
 (z5:W.nsIn K mainGlobals "list"=some none)
 (z6:W.nsIn K mainGlobals "max"=some none)
 (z7:W.nsIn K mainGlobals "ord"=some none)
 (z8:W.nsIn K mainGlobals "range"=some none)
 (z9:W.nsIn K mainGlobals "sorted"=some none)
 (z10:W.nsIn K mainGlobals "str"=some none)
 (z11:W.nsIn K mainGlobals "tuple"=some none)
 (z12:W.nsIn K mainGlobals "zip"=some none)
 {tk1:Tok} (g1:W.nsIn K mainGlobals "MODULUS"=some (some (.int (2147483647) tk1)))
 {tk2:Tok} (g2:W.nsIn K mainGlobals "TOP_LEVEL"=some (some (.int (6) tk2)))
 : ∃ fd:FuncData,(∀ (s:Shared) (v:Value),BindsTo s fd ⟨[v],[]⟩ [("_law_script",v)])/\∀ base:Heap,K.In base->base.Ns mainGlobals mg->QF l.prog w K mg base CX0 26 fa fd ["_law_script"] (YGa K):=by
 have e:=hfa.symm.trans (W.mg_of X G a57);cases e;have k1:=F1.kp;have b1:=F1.binds (ps:=["self","key"]) fun _ _ _ _ _ _=>ZO fun _ _=>rfl
 have k2:=F2.kp;have b2:=F2.binds (ps:=["self","key"]) fun _ _ _ _ _ _=>ZO fun _ _=>rfl
 have k3:=F3.kp;have b3:=F3.binds (ps:=["self","number"]) fun _ _ _ _ _ _=>ZO fun _ _=>rfl
 have k7:=F7.kp;have b7:=F7.binds (ps:=["self","level","entries"]) fun _ _ _ _ _ _=>Y8 fun _ _ _=>rfl
 have k8:=F8.kp;have b8:=F8.binds (ps:=["self"]) fun _ _ _ _ _ _=>Jr fun _=>rfl
 have k9:=F9.kp;have b9:=F9.binds (ps:=["self"]) fun _ _ _ _ _ _=>Jr fun _=>rfl
 have k10:=F10.kp;have b10:=F10.binds (ps:=["self"]) fun _ _ _ _ _ _=>Jr fun _=>rfl
 have k11:=F11.kp;have b11:=F11.binds (ps:=["self"]) fun _ _ _ _ _ _=>Jr fun _=>rfl
 have k12:=F12.kp;have b12:=F12.binds (ps:=["self"]) fun _ _ _ _ _ _=>Jr fun _=>rfl
 have k23:=F23.kp;have b23:=F23.binds (ps:=["self","rows"]) fun _ _ _ _ _ _=>ZO fun _ _=>rfl
 have k24:=F24.kp;have b24:=F24.binds (ps:=["self","level","heads"]) fun _ _ _ _ _ _=>Y8 fun _ _ _=>rfl
 have k25:=F25.kp;have b25:=F25.binds (ps:=["self","page"]) fun _ _ _ _ _ _=>ZO fun _ _=>rfl
 have k30:=F30.kp;have b30:=F30.binds (ps:=["self","number"]) fun _ _ _ _ _ _=>ZO fun _ _=>rfl
 have k35:=F35.kp;have b35:=F35.binds (ps:=["self","number"]) fun _ _ _ _ _ _=>ZO fun _ _=>rfl
 have k39:=F39.kp;have b39:=F39.binds (ps:=["self","number"]) fun _ _ _ _ _ _=>ZO fun _ _=>rfl
 have k47:=F47.kp;have b47:=F47.binds (ps:=["_law_found","_law_due"]) fun _ _ _ _ _ _=>ZO fun _ _=>rfl
 have k49:=F49.kp;have b49:=F49.binds (ps:=["pages","number","row"]) fun _ _ _ _ _ _=>Y8 fun _ _ _=>rfl
 have k50:=F50.kp;have b50:=F50.binds (ps:=["pages","left","right"]) fun _ _ _ _ _ _=>Y8 fun _ _ _=>rfl
 have k52:=F52.kp;have b52:=F52.binds (ps:=["_law_pages","_law_number","_law_levels","_law_found"]) fun _ _ _ _ _ _=>Yqc fun _ _ _ _=>rfl
 have k54:=F54.kp;have b54:=F54.binds (ps:=["pages","number","key"]) fun _ _ _ _ _ _=>Y8 fun _ _ _=>rfl
 have Z:Zs mg:=⟨W.mg_none_of X G z1,W.mg_none_of X G z2,W.mg_none_of X G z3,W.mg_none_of X G z4,W.mg_none_of X G z5,W.mg_none_of X G z6,W.mg_none_of X G z7,W.mg_none_of X G z8,W.mg_none_of X G z9,W.mg_none_of X G z10,W.mg_none_of X G z11,W.mg_none_of X G z12,⟨_,W.mg_of X G g1⟩,⟨_,W.mg_of X G g2⟩⟩;have X0:W.XCl K C0 CT:=W.XCl.of ⟨v0nm,v0q,v0N,v0bs,v0sn,v0sub,v0ab,v0col,v0dd,v0k0,v0k1,v0k2,v0k3,v0k5,q0,r0⟩ t9 u0 ta tb;have X1:W.XCl K C1 CT:=W.XCl.of ⟨v1nm,v1q,v1N,v1bs,v1sn,v1sub,v1ab,v1col,v1dd,v1k0,v1k1,v1k2,v1k3,v1k5,q1,r1⟩ t9 u1 ta tb;have X2:W.XCl K C2 CT:=W.XCl.of ⟨v2nm,v2q,v2N,v2bs,v2sn,v2sub,v2ab,v2col,v2dd,v2k0,v2k1,v2k2,v2k3,v2k5,q2,r2⟩ t9 u2 ta tb;have T:Tx K mg CT (fun i=>[C0,C1,C2].getD i 0) (fun i=>[O0,O1,O2,O3].getD i 0):=⟨W.mg_of X G oa0,
  W.mg_of X G oa1,
  W.mg_of X G oa2,
  W.mg_of X G oa3,
  fun i hi=>match i,hi with | 0,_=>ObC.of of0 ta tb | 1,_=>ObC.of of1 ta tb | 2,_=>ObC.of of2 ta tb | 3,_=>ObC.of of3 ta tb | m+4,h=>absurd h (by omega),
  W.Xec oo,
  ⟨W.mg_of X G t1,⟨⟨ynm,yq,yN,ybs,thd,ysn,ysub,yab,ycol,ydd,yk0,yk1,yk2,yk3,yk5,t2,t3,t4⟩,t5⟩,t6,t7,t8⟩,
  W.mg_of X G p0,
  W.mg_of X G p1,
  W.mg_of X G p2,
  fun i hi=>match i,hi with | 0,_=>X0 | 1,_=>X1 | 2,_=>X2 | m+3,h=>absurd h (by omega),
  fun i hi=>match i,hi with | 0,_=>fun f hf=>W.ZYa u0 hf | 1,_=>fun f hf=>W.ZYa u1 hf | 2,_=>fun f hf=>W.ZYa u2 hf | m+3,h=>absurd h (by omega),
  W.Jlc tt,
  W.Xbc tu⟩
 have FL:=F57;obtain⟨_,_,kV,dc,pm,an,cdv,ct,_,rfl,_,_⟩:=FL.ex;refine⟨W.fnOf "law" "law" (Zqa XEa) (Xd XEa) (Qj XEa) .none kV dc pm an cdv ct,fun s v=>.of_eq rfl,fun base _ _=>?_⟩
 have c0:=@cq0 l.prog w K mg base h X G;have c1:=@cq1 l.prog w K mg base h X G;have m1:=@mq1 l.prog w K mg base;have Qqa:MkX l.prog w K mg base 1 "NotRising" C1 CT ["key"]:=⟨_,_,_,ZJa Z T F1,b1,X1,a1,j1,o1,W.mg_of X G p1⟩;have QCb:MkX l.prog w K mg base 1 "NoRow" C2 CT ["key"]:=⟨_,_,_,YUa Z T F2,b2,X2,a2,j2,o2,W.mg_of X G p2⟩;have Yua:MkX l.prog w K mg base 1 "NoPage" C0 CT ["number"]:=⟨_,_,_,Yqa Z T F3,b3,X0,a3,j3,o0,W.mg_of X G p0⟩;have XQb:=c0 (JXb Z T  F4) (F4.binds fun _ _ _ _ _ _=>Jr fun _=>rfl) F4.kp a4
 have Yab:=c0 (ZNb Z T  F5) (F5.binds fun _ _ _ _ _ _=>Y8 fun _ _ _=>rfl) F5.kp a5
 have Y8a:=c0 (Ysa Z T  F6) (F6.binds fun _ _ _ _ _ _=>Jr fun _=>rfl) F6.kp a6
 have B_Page:BaI l.prog w K mg base 1 "Page" (Jm K (fun i=>[O0,O1,O2,O3].getD i 0)):=⟨O0,_,_,_,W.mg_of X G oa0,ClI.of e7,k7,Qpb Z T  F7,b7⟩
 have YB:=m1 (Xz Z T  F8) b8 a8_0 j8 k8;have Jc:=m1 (Xz Z T  F8) b8 a8_1 j8 k8;have Jd:=m1 (Xz Z T  F8) b8 a8_2 j8 k8;have ZLa:=m1 (YN Z T  F9) b9 a9_0 j9 k9;have XB:=m1 (YN Z T  F9) b9 a9_1 j9 k9;have XC:=m1 (YN Z T  F9) b9 a9_2 j9 k9;have ZOa:=m1 (QOa Z T  F10) b10 a10_0 j10 k10;have XH:=m1 (QOa Z T  F10) b10 a10_1 j10 k10;have XI:=m1 (Y0a Z T  F11) b11 a11_2 j11 k11;have QPb:MkV l.prog w K mg base 1 "Pages" O3 (Jy l.prog w (fun i=>[O0,O1,O2,O3].getD i 0)):=⟨_,_,_,⟨om3,a12_3,j12,ok3⟩,YWa Z T  F12,b12,W.mg_of X G oa3⟩
 have Z3b:=c0 (Qxb Z T  F13) (F13.binds fun _ _ _ _ _ _=>Y8 fun _ _ _=>rfl) F13.kp a13
 have Jqa:=c0 (QDb Z T  F14) (F14.binds fun _ _ _ _ _ _=>ZO fun _ _=>rfl) F14.kp a14
 have Yo:=c0 (ZPb Z T  F15) (F15.binds fun _ _ _ _ _ _=>ZO fun _ _=>rfl) F15.kp a15
 have Z4b:=c0 (QEb Z T  F16) (F16.binds fun _ _ _ _ _ _=>Jr fun _=>rfl) F16.kp a16
 have ZQa:=c0 (Y3a Z T  F17) (F17.binds fun _ _ _ _ _ _=>Jr fun _=>rfl) F17.kp a17
 have QTa:=c0 (YBa Z T  F18) (F18.binds fun _ _ _ _ _ _=>Jr fun _=>rfl) F18.kp a18
 have Z5b:=c0 (QJb Z T  F19) (F19.binds fun _ _ _ _ _ _=>ZO fun _ _=>rfl) F19.kp a19
 have Ybb:=c0 (ZYb Z T  F20) (F20.binds fun _ _ _ _ _ _=>Y8 fun _ _ _=>rfl) F20.kp a20
 have Z6b:=c0 (XIb Z T XQb F21) (F21.binds fun _ _ _ _ _ _=>ZO fun _ _=>rfl) F21.kp a21
 have JUc:=c0 (Zgc Z T Y8a F22) (F22.binds fun _ _ _ _ _ _=>Jr fun _=>rfl) F22.kp a22
 have JWb:MkV l.prog w K mg base 2 "Leaf" O1 (JY K (fun i=>[O0,O1,O2,O3].getD i 0)):=⟨_,_,_,⟨om1,a23_1,j23,ok1⟩,Qqb Z T B_Page F23,b23,W.mg_of X G oa1⟩
 have JVb:MkV l.prog w K mg base 2 "Twig" O2 (JZ K (fun i=>[O0,O1,O2,O3].getD i 0)):=⟨_,_,_,⟨om2,a24_2,j24,ok2⟩,Qrb Z T B_Page F24,b24,W.mg_of X G oa2⟩
 have XD:=m1 (YYa Z T YB Jc Jd F25) b25 a25_3 j25 k25;have Qwa:=c0 (QFb Z T Z4b Yo F26) (F26.binds fun _ _ _ _ _ _=>ZO fun _ _=>rfl) F26.kp a26
 have Z7b:=c0 (QGb Z T Yo F27) (F27.binds fun _ _ _ _ _ _=>Jr fun _=>rfl) F27.kp a27
 have Ycb:=c0 (ZLb Z T Z6b F28) (F28.binds fun _ _ _ _ _ _=>ZO fun _ _=>rfl) F28.kp a28
 have Ydb:=c0 (ZEb Z T JUc F29) (F29.binds fun _ _ _ _ _ _=>Jr fun _=>rfl) F29.kp a29
 have Zj:=m1 (Z8a Z T Yua F30) b30 a30_3 j30 k30;have YHa:=c0 (ZQb Z T Qwa Z7b ZQa F31) (F31.binds fun _ _ _ _ _ _=>Jr fun _=>rfl) F31.kp a31
 have QQb:=c0 (Y4a Z T Qwa ZQa F32) (F32.binds fun _ _ _ _ _ _=>Jr fun _=>rfl) F32.kp a32
 have XS:=c0 (Y1a Z T Ycb F33) (F33.binds fun _ _ _ _ _ _=>ZO fun _ _=>rfl) F33.kp a33
 have XKa:=c0 (JUb Z T JVb JWb F34) (F34.binds fun _ _ _ _ _ _=>ZO fun _ _=>rfl) F34.kp a34
 have XG:=m1 (YZa Z T Zj F35) b35 a35_3 j35 k35;have Qjd:=c0 (Xrc Z T Ydb F36) (F36.binds fun _ _ _ _ _ _=>ZO fun _ _=>rfl) F36.kp a36
 have QRb:=c0 (Y5a Z T QQb Qwa F37) (F37.binds fun _ _ _ _ _ _=>Jr fun _=>rfl) F37.kp a37
 have Y9a:=c0 (YDa Z T Z5b YHa F38) (F38.binds fun _ _ _ _ _ _=>ZO fun _ _=>rfl) F38.kp a38
 have Qx:=m1 (YXa Z T XKa Zj F39) b39 a39_3 j39 k39;have Yp:=c0 (ZIb Z T Qjd XKa ZLa XB XC XD F40) (F40.binds fun _ _ _ _ _ _=>Y8 fun _ _ _=>rfl) F40.kp a40
 have ZRa:=c0 (Y6a Z T QRb Yo F41) (F41.binds fun _ _ _ _ _ _=>Jr fun _=>rfl) F41.kp a41
 have Xyc:=c0 (JJc Z T XS Yab Qx F42) (F42.binds fun _ _ _ _ _ _=>Y8 fun _ _ _=>rfl) F42.kp a42
 have XLa:=c0 (J0b Z T Yp F43) (F43.binds fun _ _ _ _ _ _=>Y8 fun _ _ _=>rfl) F43.kp a43
 have XRb:=c0 (J3b Z T ZOa XH XI Qx F44) (F44.binds fun _ _ _ _ _ _=>ZO fun _ _=>rfl) F44.kp a44
 have Z8b:=c0 (QLb Z T QTa ZRa Jqa YHa Yo F45) (F45.binds fun _ _ _ _ _ _=>Jr fun _=>rfl) F45.kp a45
 have YYb:=c1 (Zjc Z T XLa Yp Z6b Qqa F46) (F46.binds fun _ _ _ _ _ _=>ZO fun _ _=>rfl) F46.kp a46
 have Z9b:∀ n,Cal l.prog w K mg base (1+n) "_law_same" ["_law_found","_law_due"] (J2 K n):=fun n=>by
  induction n with
  | zero=>exact c0 Y6 b47 k47 a47
  | succ n ih=>exact c0 (QMb Z T  ih F47) b47 k47 a47
 have Xaa:=c0 (YEa Z T Z9b F48) (F48.binds fun _ _ _ _ _ _=>ZO fun _ _=>rfl) F48.kp a48
 have QSb:∀ n,Cal l.prog w K mg base (6+n) "heads_with" ["pages","number","row"] (JB l.prog w (fun i=>[C0,C1,C2].getD i 0) (fun i=>[O0,O1,O2,O3].getD i 0) n):=fun n=>by
  induction n with
  | zero=>exact c0 Y6 b49 k49 a49
  | succ n ih=>exact c0 (Y2a Z T XS Yp Z3b Qx ih F49) b49 k49 a49
 have ZBc:∀ n,Cal l.prog w K mg base (6+n) "joined" ["pages","left","right"] (QCa l.prog w (fun i=>[C0,C1,C2].getD i 0) (fun i=>[O0,O1,O2,O3].getD i 0) n):=fun n=>by
  induction n with
  | zero=>exact c0 Y6 b50 k50 a50
  | succ n ih=>exact c0 (XMb Z T Yp Qx ih F50) b50 k50 a50
 have Qkd:=c1 (Xtc Z T XLa YYb QSb XG F51) (F51.binds fun _ _ _ _ _ _=>Yqc fun _ _ _ _=>rfl) F51.kp a51
 have Jab:∀ n,Cal l.prog w K mg base (8+n) "_law_walk" ["_law_pages","_law_number","_law_levels","_law_found"] (J3 l.prog w (fun i=>[C0,C1,C2].getD i 0) (fun i=>[O0,O1,O2,O3].getD i 0) n):=fun n=>by
  induction n with
  | zero=>exact c0 Y6 b52 k52 a52
  | succ n ih=>exact c0 (QNb Z T YB Jc Jd Qx ih F52) b52 k52 a52
 have Jbb:=c0 (QOb Z T Jab F53) (F53.binds fun _ _ _ _ _ _=>ZO fun _ _=>rfl) F53.kp a53
 have Jva:∀ n,Cal l.prog w K mg base (15+n) "heads_without" ["pages","number","key"] (ZT l.prog w (fun i=>[C0,C1,C2].getD i 0) (fun i=>[O0,O1,O2,O3].getD i 0) n):=fun n=>by
  induction n with
  | zero=>exact c0 Y6 b54 k54 a54
  | succ n ih=>exact c0 (Jda Z T XS Yp ZBc Qx ih F54) b54 k54 a54
 have ZCc:=c1 (JKc Z T XRb Jva Xyc QCb F55) (F55.binds fun _ _ _ _ _ _=>Y8 fun _ _ _=>rfl) F55.kp a55
 have Xba:=c0 (YFa Z T ZCc F56) (F56.binds fun _ _ _ _ _ _=>Y8 fun _ _ _=>rfl) F56.kp a56
 exact Xvc Z T Z8b YYb Y9a Yo Jbb Jqa QTa ZCc ZRa Qkd Xba Xaa Ybb QPb F57
end My
namespace PySem.W.Fast
def tw10362847614075342298:Nat:=0
def tw16849131483265020997:Nat:=0
def tw1700170053721673960:Nat:=0
def tw16287386823941688391:Nat:=0
def tw16498177142562632930:Nat:=0
def tw10320046194163934611:Nat:=0
def tw17557097019994610054:Nat:=0
def tw1619445607757553611:Nat:=0
def tw15473031432892788616:Nat:=0
def tw17983723787211670194:Nat:=0
def tw5554804727939816987:Nat:=0
def tw16043735828560879468:Nat:=0
def tw10335396992380437832:Nat:=0
def tw13402114803515994045:Nat:=0
def tw14393983026642522290:Nat:=0
def tw12514957983279967996:Nat:=0
def tw15263758553181394773:Nat:=0
def tw4233958921525091300:Nat:=0
def tw3848001277298855309:Nat:=0
def tw18295694664802272626:Nat:=0
def tw15211844329769668482:Nat:=0
def tw16832758600056873423:Nat:=0
def tw9848431848566672347:Nat:=0
def tw6860316388718893301:Nat:=0
def tw6905832668664023676:Nat:=0
def tw6323990801562121728:Nat:=0
def tw3173406505248155950:Nat:=0
def tw3609491189107620195:Nat:=0
def tw3750797815045717004:Nat:=0
def tw3777887456188659259:Nat:=0
def tw17851485635369293723:Nat:=0
def tw15242205168475649491:Nat:=0
def tw5650241496283802060:Nat:=0
def tw11463828159830486040:Nat:=0
def tw11786044017032932337:Nat:=0
def tw15173583070233752936:Nat:=0
def tw4041488437207080460:Nat:=0
def tw5862306264330359382:Nat:=0
def tw9790007916483696998:Nat:=0
def tw18029022976375259639:Nat:=0
def tw10287518870202843547:Nat:=0
def tw1456201680450986533:Nat:=0
def tw7231829046622738468:Nat:=0
def tw13993664597950936268:Nat:=0
def tw13048690373343583067:Nat:=0
def tw14208887350956963996:Nat:=0
def tw16092568408091102058:Nat:=0
def tw1185388162627002823:Nat:=0
def tw3793026431428238291:Nat:=0
def tw5677974994550300558:Nat:=0
def tw523341737431213445:Nat:=0
def tw16189155395287078239:Nat:=0
def tw11491992744284257678:Nat:=0
def tw3671708085049702761:Nat:=0
def tw15818540986846675077:Nat:=0
def tw6456388712803779599:Nat:=0
def tw9280039132884310017:Nat:=0
def tw6875593891509130812:Nat:=0
def tw468622846704611302:Nat:=0
def tw6912274176040163910:Nat:=0
def tw18413212444336545355:Nat:=0
def tw16623526322769566594:Nat:=0
def tw171973232187648305:Nat:=0
def tw10348007782314165006:Nat:=0
def tw5065987422838587538:Nat:=0
def tw2061619935807837600:Nat:=0
def tw8217076768587040106:Nat:=0
def tw14794559051126948064:Nat:=0
def tw13124212305456223844:Nat:=0
def tw6092943147969754512:Nat:=0
def tw13190551999841323434:Nat:=0
def tw6349961667388941643:Nat:=0
def tw16175030195555677722:Nat:=0
def tw3509336544732040101:Nat:=0
def tw5527457263242804761:Nat:=0
def tw6195938341568515563:Nat:=0
def tw14309699418911860868:Nat:=0
def tw7885499051082108334:Nat:=0
def tw5437758428787819114:Nat:=0
def tw2041281805451403640:Nat:=0
def tw12347612729203329001:Nat:=0
def tw10124146927102418710:Nat:=0
def tw12695355359908744849:Nat:=0
def tw10394863869375906657:Nat:=0
def tw12621267026407067719:Nat:=0
def tw11403470889942459333:Nat:=0
def tw5855391097030392566:Nat:=0
def tw13429509507547862786:Nat:=0
def tw13845148551274310719:Nat:=0
def tw11418262332125142460:Nat:=0
def tw4258827169695205953:Nat:=0
def tw10286332198045642199:Nat:=0
def tw11472324008963604224:Nat:=0
def tw4017047477990260352:Nat:=0
def tw12389782909709287554:Nat:=0
def tw702595869644460223:Nat:=0
def tw181691885536190736:Nat:=0
def tw756714582472101346:Nat:=0
def tw12550046245533208321:Nat:=0
def tw8097104748585726136:Nat:=0
def tw6388062563718878614:Nat:=0
def tw6007993281813487700:Nat:=0
def tw17047598536980568598:Nat:=0
def tw16596182469107132092:Nat:=0
def tw12679570932507699304:Nat:=0
def tw8416757960854332134:Nat:=0
def tw9410235982297472141:Nat:=0
def tw17834918285838376733:Nat:=0
def tw656845875236212033:Nat:=0
def tw15631875902294242702:Nat:=0
def tw9326368265291783207:Nat:=0
def tw5851028890902792189:Nat:=0
def tw3970037438237095708:Nat:=0
def tw3406654307050107307:Nat:=0
def tw6294833196726669744:Nat:=0
def tw15372959061353308370:Nat:=0
def tw15622765721629302683:Nat:=0
def tw7148142913135979737:Nat:=0
def tw12132971523149318611:Nat:=0
def tw13299842611520561381:Nat:=0
def tw763549158995403672:Nat:=0
def tw10779149717168519698:Nat:=0
def tw7680490278181665229:Nat:=0
def tw178816279008078181:Nat:=0
def tw3866133388527857156:Nat:=0
def tw4996450997362201093:Nat:=0
def tw11440660720765042021:Nat:=0
def tw10106977055988739039:Nat:=0
def tw12809766167582945208:Nat:=0
def tw1250442448721853639:Nat:=0
def tw598928319950544631:Nat:=0
def tw12199063215733484529:Nat:=0
def tw7502706762671461346:Nat:=0
def tw5847537362962109045:Nat:=0
def tw13743670393006522545:Nat:=0
def tw8216340763351219222:Nat:=0
def tw4244350413547148498:Nat:=0
def tw8168207279060374974:Nat:=0
def tw9745457473999015157:Nat:=0
def tw3455438614017528334:Nat:=0
def tw1736803418058678556:Nat:=0
def tw17103177342858674750:Nat:=0
def tw9782380477369264141:Nat:=0
def tw6885573421639139558:Nat:=0
def tw16775431357508405019:Nat:=0
def tw1249806876569880263:Nat:=0
def tw15809521824090577960:Nat:=0
def tw4593137473096111809:Nat:=0
def tw4118354642659439462:Nat:=0
def tw14144776200068486620:Nat:=0
def tw2994248367858007705:Nat:=0
def tw17919430418716710643:Nat:=0
def tw451430264310698097:Nat:=0
def tw5835446707970709343:Nat:=0
def tw4206806693085291602:Nat:=0
def tw4298115688715157518:Nat:=0
def tw5192232982067689451:Nat:=0
def tw15420276192087846211:Nat:=0
def tw4736086064582566358:Nat:=0
def tw16788974088688132575:Nat:=0
def tw17268247131311303750:Nat:=0
def tw69815470656360466:Nat:=0
def tw1232147827875995129:Nat:=0
def tw16726053896013475222:Nat:=0
def tw2936025142075917479:Nat:=0
def tw4862484831521539778:Nat:=0
def tw14055039129126248679:Nat:=0
def tw11807531500220836369:Nat:=0
def tw10068888105872712938:Nat:=0
def tw11847529038616398846:Nat:=0
def tw1246511753553349289:Nat:=0
def tw3507380415347831078:Nat:=0
def tw5340610775257330482:Nat:=0
def tw5934009077147976512:Nat:=0
def tw11536451566501852638:Nat:=0
def tw13256385010809447130:Nat:=0
def tw11557392215792612596:Nat:=0
def tw3403038300610615562:Nat:=0
def tw7789495470505525784:Nat:=0
def tw3747563841728999789:Nat:=0
def tw8865664321736968939:Nat:=0
def tw13546774630651111846:Nat:=0
def tw1812510355911757315:Nat:=0
def tw17564511713324670164:Nat:=0
def tw649208756861792245:Nat:=0
def tw14722616759213543192:Nat:=0
def tw2640215124604897106:Nat:=0
def tw2284472363753173697:Nat:=0
def tw5517596924826359300:Nat:=0
def tw10744328465477575838:Nat:=0
def tw681615380118143953:Nat:=0
def tw12529591626320564616:Nat:=0
def tw10592375237269904528:Nat:=0
def tw9476237133593157709:Nat:=0
def tw14147252225293081502:Nat:=0
def tw8458614930106241265:Nat:=0
def tw1598302524168690311:Nat:=0
def tw5263081252042378486:Nat:=0
def tw15000681041857437405:Nat:=0
def tw2889238323612809997:Nat:=0
def tw7700444779799049819:Nat:=0
def tw3606652232630368218:Nat:=0
def tw3094093227176772503:Nat:=0
def tw2660590427341500581:Nat:=0
def tw17312002476185977046:Nat:=0
def tw447571259472252316:Nat:=0
def tw9420812375193105669:Nat:=0
def tw12312825476922409903:Nat:=0
def tw11755039531331308532:Nat:=0
def tw8347655748442936556:Nat:=0
def tw13869537339068099751:Nat:=0
def tw13363277813800169244:Nat:=0
def tw18184637072363314308:Nat:=0
def tw18313056195938401534:Nat:=0
def tw2159457052075797228:Nat:=0
def tw3568046304849371424:Nat:=0
def tw11185229362805178066:Nat:=0
def tw9050278543209821957:Nat:=0
def tw10621271130945184983:Nat:=0
def tw11039027345449174063:Nat:=0
def tw11376400031174980761:Nat:=0
def tw903061869961651021:Nat:=0
def tw16858961259751058794:Nat:=0
def tw15466082024021518476:Nat:=0
def tw10906016723951599791:Nat:=0
def tw11280240949160071516:Nat:=0
def tw7345559008104502469:Nat:=0
def tw15345234860926062556:Nat:=0
def tw5941924990389080522:Nat:=0
def tw923768340594041322:Nat:=0
def tw3740048098312029633:Nat:=0
def tw15804914235981092317:Nat:=0
def tw2675025134894533030:Nat:=0
def tw14845394793948526561:Nat:=0
def tw14913145768765078479:Nat:=0
def tw9586336314853330935:Nat:=0
def tw6529140390206071714:Nat:=0
def tw15885715057342502983:Nat:=0
def tw17939970626260263618:Nat:=0
def tw15984832437180306432:Nat:=0
def tw8168296187839964333:Nat:=0
def tw14487033240007851984:Nat:=0
def tw7246300302282113237:Nat:=0
def tw6834958973660862892:Nat:=0
def tw18265401294572748448:Nat:=0
def tw1749847837119363514:Nat:=0
def tw11670473204323544003:Nat:=0
def tw845275801249167599:Nat:=0
def tw7924090400723833011:Nat:=0
def tw13944961689501570751:Nat:=0
def tw1330979301599135847:Nat:=0
def tw11243119071406997255:Nat:=0
def tw2561983109313046143:Nat:=0
def tw14056409423855300254:Nat:=0
def tw14009586475406832938:Nat:=0
def tw16962980740843355157:Nat:=0
def tw5218967421517002047:Nat:=0
def tw1852463448678188219:Nat:=0
def tw3029770466940817301:Nat:=0
def tw12361008679945242729:Nat:=0
def tw3014647222966907949:Nat:=0
def tw6726369556256190516:Nat:=0
def tw4464591794559772084:Nat:=0
def tw1417507575093784311:Nat:=0
def tw8817518197402501700:Nat:=0
def tw4899122355294676789:Nat:=0
def tw7387244054013799134:Nat:=0
def tw6094433960651490057:Nat:=0
def tw17971011462115487881:Nat:=0
def tw10484829628060257175:Nat:=0
def tw17410342859715623825:Nat:=0
def tw6844994600975698740:Nat:=0
def tw11215763112775419383:Nat:=0
def tw7554285223489129358:Nat:=0
def tw5163125319522293339:Nat:=0
def tw9184390446799954287:Nat:=0
def tw18186907740805637006:Nat:=0
def tw12844134141233918180:Nat:=0
def tw3367100324530059640:Nat:=0
def tw3920337591377116585:Nat:=0
def tw13306373068833681074:Nat:=0
def tw15602100516525429063:Nat:=0
def tw14731553077587399846:Nat:=0
def tw4098596027725299360:Nat:=0
def tw1807872508686695710:Nat:=0
def tw6031351604024921772:Nat:=0
def tw5015963941914698332:Nat:=0
def tw5090088910879445791:Nat:=0
def tw17912938349400161529:Nat:=0
def tw7745536624189369384:Nat:=0
def tw10916945875864587964:Nat:=0
def tw15814300606705108994:Nat:=0
def tw1602885288414529004:Nat:=0
def tw9392010117385157720:Nat:=0
def tw2830023394960165825:Nat:=0
def tw4042856191327646381:Nat:=0
def tw15164666613353681793:Nat:=0
def tw10326822555339014990:Nat:=0
def tw14647521078826237880:Nat:=0
def tw4086311740158134529:Nat:=0
def tw13882829591724806137:Nat:=0
def tw6434333801416222237:Nat:=0
def tw10603667736818119498:Nat:=0
def tw7628764710931456159:Nat:=0
def tw18395444532233740489:Nat:=0
def tw14493512948196590836:Nat:=0
def tw5209675799222953126:Nat:=0
def tw6468892167028626589:Nat:=0
def tw15465613103424430154:Nat:=0
def tw10187575944681140790:Nat:=0
def tw289138820911190439:Nat:=0
def tw15369744424426235962:Nat:=0
def tw13709040691266019311:Nat:=0
def tw2714836993007044935:Nat:=0
def tw13874873899758362533:Nat:=0
def tw4884269309911068800:Nat:=0
def tw13744195739833091825:Nat:=0
def tw776398115090332645:Nat:=0
def tw9486515419181077534:Nat:=0
def tw8946109198021044602:Nat:=0
def tw873914925229272853:Nat:=0
def tw5260134949767582351:Nat:=0
def tw5678082375995772966:Nat:=0
def tw11953603749862421893:Nat:=0
def tw18313186468059611946:Nat:=0
def tw1154351444532681435:Nat:=0
def tw15842426743978681852:Nat:=0
def tw2618048049281189219:Nat:=0
def tw18270874132227213106:Nat:=0
def tw1551411687447514834:Nat:=0
def tw9293863671353470129:Nat:=0
def tw11030978293846683705:Nat:=0
def tw5274318819387873263:Nat:=0
def tw4943409901013621327:Nat:=0
def tw8491444095876399446:Nat:=0
def tw9179401758506491290:Nat:=0
def tw10755710234955646715:Nat:=0
def tw11866332408098880328:Nat:=0
def tw3091414691340122466:Nat:=0
def tw7660029833055689807:Nat:=0
def tw12811738735375166747:Nat:=0
def tw7858970465772786482:Nat:=0
end PySem.W.Fast
open PySem PySem.W PyProof.Rows
local macro_rules | `(tactic| walk_at "fn") => `(tactic| exact L2.YKc (by k_is) (by k_is) (by k_is))
set_option maxRecDepth 100000 in
set_option maxHeartbeats 0 in
theorem PySem.Challenge.cw_twigtable_k25_few_new_pages_holds : PySem.Challenge.rw_twigtable_k25_few_new_pages.Holds := by
 w_on;o_law;k_head;(case hw=>w_witness2)
 k_fill
 refine L2.Qkc (l:=PySem.Challenge.rw_twigtable_k25_few_new_pages) (n:=63) (k:=26) (x:="_law_script") (CX:=fun _=>L2.CX0) (sp:=My.YGa) rfl (by decide) rfl ⟨rfl,by decide,by decide⟩ (fun w h Y=>W.kIn_of Y) ?F ?S ?C
 case F =>
  intro w mg fa h KX G hmg;refine' My.Xxc KX G hmg ?ta ?tb ?oa0 ?of0 ?oa1 ?of1 ?om1 ?ok1 ?oa2 ?of2 ?om2 ?ok2 ?oa3 ?of3 ?om3 ?ok3 ?oo ?t1 ?t2 ?t3 ?t4 ?t5 ?t6 ?t7 ?t8 ?t9 ?p0 ?q0 ?r0 ?u0 ?o0 ?p1 ?q1 ?r1 ?u1 ?o1 ?p2 ?q2 ?r2 ?u2 ?o2 ?tt ?tu ?a1 ?j1 ?F1 ?a2 ?j2 ?F2 ?a3 ?j3 ?F3 ?a4 ?F4 ?a5 ?F5 ?a6 ?F6 ?a7_0 ?j7 ?F7 ?e7 ?a8_0 ?a8_1 ?a8_2 ?j8 ?F8 ?a9_0 ?a9_1 ?a9_2 ?j9 ?F9 ?a10_0 ?a10_1 ?j10 ?F10 ?a11_2 ?j11 ?F11 ?a12_3 ?j12 ?F12 ?a13 ?F13 ?a14 ?F14 ?a15 ?F15 ?a16 ?F16 ?a17 ?F17 ?a18 ?F18 ?a19 ?F19 ?a20 ?F20 ?a21 ?F21 ?a22 ?F22 ?a23_1 ?j23 ?F23 ?a24_2 ?j24 ?F24 ?a25_3 ?j25 ?F25 ?a26 ?F26 ?a27 ?F27 ?a28 ?F28 ?a29 ?F29 ?a30_3 ?j30 ?F30 ?a31 ?F31 ?a32 ?F32 ?a33 ?F33 ?a34 ?F34 ?a35_3 ?j35 ?F35 ?a36 ?F36 ?a37 ?F37 ?a38 ?F38 ?a39_3 ?j39 ?F39 ?a40 ?F40 ?a41 ?F41 ?a42 ?F42 ?a43 ?F43 ?a44 ?F44 ?a45 ?F45 ?a46 ?F46 ?a47 ?F47 ?a48 ?F48 ?a49 ?F49 ?a50 ?F50 ?a51 ?F51 ?a52 ?F52 ?a53 ?F53 ?a54 ?F54 ?a55 ?F55 ?a56 ?F56 ?a57 ?F57 ?z1 ?z2 ?z3 ?z4 ?z5 ?z6 ?z7 ?z8 ?z9 ?z10 ?z11 ?z12 ?g1 ?g2
  (case ta=>(first | rfl | kernel_rfl | decide +kernel))
  (case tb=>(first | rfl | kernel_rfl | decide +kernel))
  (case oa0=>k_is)
  (case of0=>(first | rfl | kernel_rfl | decide +kernel))
  (case oa1=>k_is)
  (case of1=>(first | rfl | kernel_rfl | decide +kernel))
  (case om1|ok1|oa2=>k_is)
  (case of2=>(first | rfl | kernel_rfl | decide +kernel))
  (case om2|ok2|oa3=>k_is)
  (case of3=>(first | rfl | kernel_rfl | decide +kernel))
  (case om3|ok3=>k_is)
  (case oo=>(first | rfl | kernel_rfl | decide +kernel))
  (case t1|t2=>k_is)
  (case t3=>(first | rfl | kernel_rfl | decide +kernel))
  (case t4=>(first | rfl | kernel_rfl | decide +kernel))
  (case t5=>(first | rfl | kernel_rfl | decide +kernel))
  (case t6=>(first | rfl | kernel_rfl | decide +kernel))
  (case t7=>(first | rfl | kernel_rfl | decide +kernel))
  (case t8=>(first | rfl | kernel_rfl | decide +kernel))
  (case t9=>(first | rfl | kernel_rfl | decide +kernel))
  (case p0|q0=>k_is)
  (case r0=>(first | rfl | kernel_rfl | decide +kernel))
  (case u0=>(first | rfl | kernel_rfl | decide +kernel))
  (case o0|p1|q1=>k_is)
  (case r1=>(first | rfl | kernel_rfl | decide +kernel))
  (case u1=>(first | rfl | kernel_rfl | decide +kernel))
  (case o1|p2|q2=>k_is)
  (case r2=>(first | rfl | kernel_rfl | decide +kernel))
  (case u2=>(first | rfl | kernel_rfl | decide +kernel))
  (case o2=>k_is)
  (case tt=>(first | rfl | kernel_rfl | decide +kernel))
  (case tu=>(first | rfl | kernel_rfl | decide +kernel))
  (case a1|j1|a2|j2|a3|j3|a4|a5|a6|a7_0|j7=>k_is)
  (case e7=>(first | rfl | kernel_rfl | decide +kernel))
  (case a8_0|a8_1|a8_2|j8|a9_0|a9_1|a9_2|j9|a10_0|a10_1|j10|a11_2|j11|a12_3|j12|a13|a14|a15|a16|a17|a18|a19|a20|a21|a22|a23_1|j23|a24_2|j24|a25_3|j25|a26|a27|a28|a29|a30_3|j30|a31|a32|a33|a34|a35_3|j35|a36|a37|a38|a39_3|j39|a40|a41|a42|a43|a44|a45|a46|a47|a48|a49|a50|a51|a52|a53|a54|a55|a56|a57|z1|z2|z3|z4|z5|z6|z7|z8|z9|z10|z11|z12|g1|g2=>k_is)
  (case F1 | F2 | F3 | F4 | F5 | F6 | F7 | F8 | F9 | F10 | F11 | F12 | F13 | F14 | F15 | F16 | F17 | F18 | F19 | F20 | F21 | F22 | F23 | F24 | F25 | F26 | F27 | F28 | F29 | F30 | F31 | F32 | F33 | F34 | F35 | F36 | F37 | F38 | F39 | F40 | F41 | F42 | F43 | F44 | F45 | F46 | F47 | F48 | F49 | F50 | F51 | F52 | F53 | F54 | F55 | F56 | F57=>walk_at "fn")
 case S=>exact fun w H a ns hl hb hO hS=>My.Xwc hl hb hS
 case C=>exact fun _ _ _ _ _ z=>z
end
