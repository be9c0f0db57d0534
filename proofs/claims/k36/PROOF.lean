import PyProof.Rows.All
import Wide.All
import OpenK.AllK
import Wide.FinOn
import Lean
import PyProof.EqAt
import PyProof.EqKinds
import PyProof.TupleCall
import PyProof.NeKinds
import PyProof.StrOps2
import PySem.Challenge.RW_twigtable_k36_whole_moved_to_and_fro
local macro_rules | `(#[0]) => `(by lia)
local macro_rules | `(#[1]) => `(by decide)
local macro_rules | `(#[2]) => `(by simp)
abbrev YQ_:=PySem.Value->PySem.Shared->Prop
abbrev YP_:=List (PySem.Addr×PySem.Obj)
open List
open Array renaming length_toList → V7,getElem_mem → Io,toList_append → IE,toList_push → IF,toList_reverse → IL,size_extract → IP,getElem?_toList → IR,toList_map → IW,forIn_toList → Lj
open Bool renaming false_ne_true → Uc,eq_iff_iff → Uv,false_eq_true → OU,and_eq_true → OZ,and_false → LD
open Classical renaming byContradiction → L7
open False renaming elim → V8
open ForInStep renaming yield → OT
open Int renaming emod_nonneg → Dm
open Lean renaming mkIdent → L9
open List renaming range → VC,filterMap_cons → VM,mem_cons_self → VN,mem_cons_of_mem → VO,mem_append_left → VS,iter → Uf,mem_append_right → Ur,size_toArray → Ux,length_cons → UB,lookup → UG,map_cons → UH,length_map → UJ,append_nil → UV,length_take → Oa,getElem?_append_right → Oc,getElem?_append_left → Od,getElem?_map → Oe,take_sublist → Of,mem_of_getElem? → Og,length_append → Oh,length_drop → On,length_singleton → Ow,map_nil → Oy,find?_cons → OC,cons_append → OE,length_nil → OF,length_filter_le → OI,lookup_cons → OS,all_eq_true → O8,mem_of_mem_take → Ie,take_append_drop → Ir,drop_sublist → Iu,append_assoc → Iv,perm_append_comm → Iw,take_of_length_le → Ix,drop_eq_getElem_cons → Iy,getElem_of_mem → Iz,reverse_append → IM,ext_getElem? → IQ,drop_of_length_le → IU,getElem_mem → IY,getD_eq_getElem?_getD → IZ,getElem?_eq_getElem → I0,ext_getElem → La,toArray → Lc,pairwise_singleton → Lh,take_succ → Lo,mem_of_getLast? → Lp,mem_append → Lq,take_length → Lr,filter_append → Ls,contains_cons → LB,nil_append → LJ,getElem?_eq_none → LL,map_append → LM,flatten_append → LQ,flatten_cons → LR,mem_cons → LW,not_mem_nil → LX,take_add_one → LZ,dropLast_concat → L3,append_of_mem → L6,nodup_append → Db,pairwise_map → Di,mem_singleton → Ds,mem_range → Du,getElem_cons_drop → Dv,nodup_nil → Dw,reverse_reverse → Dx,any_cons → Dz,foldl_cons → DA,drop_zero → DB
open List.Pairwise renaming nil → Ic,imp → Dj,sublist → Dp
open List.Perm renaming refl → Li
open List.Sublist renaming append_left → L4,refl → L5,nodup → L8
open List.cons renaming injEq → IT
open Nat renaming lt_of_lt_of_le → Vz,lt_irrefl → VA,ne_of_lt → VB,le_trans → VJ,le_of_lt → VL,ne_of_gt → Ud,le_refl → Um,zero_le → Us,lt_succ_self → UM,le_succ → U0,zero_add → IN,add_assoc → IS,lt_or_ge → Df,mul_le_mul_right → Dg,succ_mul → Dh,mul_le_mul_left → Dk
open Ne renaming symm → VR
open Option renaming some → Vo,none → Vp,map_some → OD,map_eq_some_iff → Dl
open Option.some renaming inj → Vr,injEq → OV
open Or renaming inl → OB
open Prod renaming fst → Do
open PyProof.Rows renaming IsTup → Vt,AllBare → VI,callWith_type1 → Uq,envOfC → U9,Keyed → Ig,SortSt → Ih,SortKind → Ii,wpS_pure → Ij,arrOf → Ik,wpS_bind → Il,wpS_get → Im,wpS_mono → Ip,wpS_forRange → Iq,pendingOf → IC,failedOf → ID,wpS_lift → IG,gallopOf → IJ,wpS_modify → IK,seqObj → Lb,get?_update_seq → Le,listUpdate_at → Lf,seqEpoch_at → Lg,listItems_at → Lk,lt_str → DC,fill → DD
open PyProof.Rows.SortSt renaming mk' → IA
open PySem renaming Value → Va,World → Vb,Program → Vg,Addr → Vh,Paired → Vm,Heap → Vq,sizeLine → Vs,sysModules → Vu,tupleKind → Vv,Within → Vx,mainGlobals → VE,bootBuiltins → VF,Around → VG,Shared → VH,GenState → VQ,Model → VT,wpAny → VV,model → VW,eval → VX,backTo → VY,starEach → VZ,Stmt → V0,wpAny_mono → V1,compareOp → V2,behindInMarks → V3,wpAny_truthy_bool → V4,standAt → V5,holding → V6,wpAny_execs_nil → V9,swapsWith → Ua,wpAny_passesOwn → Ub,letOwnedTupleGo → Ue,wpAny_pure → Ug,wpAny_bind → Uh,rawInt → Ui,IsRangeIter → Uj,call → Ut,binaryOp → Uu,sizeLine_eq → Uw,getMethod → UA,Result → UC,codeAny → UE,attributeBase → UN,cLine → UR,FuncData → UU,wpAny_call → UW,codeAny_mono → UX,wpAny_Call_Name_kw → UY,Keyword → U2,backToKw → U3,keywordEach → U4,wpAny_standAt → U5,NameKind → U6,bindL → U7,bindC → U8,mem_of_lookup → Ob,typeLookup → Ol,getItem → Om,subscripted → Oo,sliceBounds → Op,callerA → OA,valueAt → OG,atKey → OJ,tupleKind_room_in1 → OL,call_meetsIn → OM,wpAny_specialOf → OO,merged → OP,Builtin → OW,richCompare_meets_room → OX,wpAny_rule → II,wpAny_attempt → IX,wpAny_newList → Lm,wpAny_holding → Ln,wpAny_field → Lw,excClassObj → Lx,codeAny_call_builtin → LF,wpAny_loadPart_at → LG,callWith → LH,wpAny_typeOf → LO,typeLookup_type → LS,builtinLookup_eq_fast → LU,wpAny_ite_split → LV,plainId_quiet → LY,refuseLoop_ref → Dy
open PySem.Builtin.Int renaming intBits → Ia
open PySem.Builtin.List renaming listTooLong → Ov,listExtendWith → LN
open PySem.Builtin.Range renaming rangeSize → Uo
open PySem.Builtin.Tuple renaming tupleHashOf → LP
open PySem.Calls renaming spliced_nil → US,spliced_cons → UT,callWith_builtin → Oq,evalArgs_plain → Os
open PySem.F renaming slot_dict_pop → ON,plainAttrs_list → Dc,slot_list_append → Dd,type_list_append → De
open PySem.Heap renaming lt_size → Vy,get?_none_of_le → VP,SameBut → VU,get?_push_of_some → Uk,get?_push_size → Ul,size_push → UL,get?_update_other → Ou,get?_update_self → Lv
open PySem.Heap.SameBut renaming update → Ld
open PySem.NameKind renaming free → OQ,cell → OR
open PySem.Obj renaming mapSeq → Ot,mapFields → Lu
open PySem.Paired renaming length → Vn,snoc → OH
open PySem.PassesOwn renaming never → Da
open PySem.SeqAt renaming EqAt → Oj
open PySem.Str renaming ofString → Ll
open PySem.Value renaming int → Vd,str → Vf,none → Vi,bool → Vj,ref → Vk,type → Vl,notImplemented → OY,builtin → LC
open PySem.Value.type renaming inj → LK
open PySem.W renaming instObj → Vw,Frag → VD,findIn → Uy,isFn → Uz,makesIn → UD,emptyDict → UF,keepIn → UI,specialIn → UO,kitOne → UP,kia_one → UQ,callWith_K → UZ,callWith_K0 → U1,fnOf → Oi,kas_item → IV,nsOkIn → Ly,nsIn → Lz,methodCall_KW → LI,mg_of → Dq,mg_none_of → Dr
open PySem.W.WData renaming int → Ox,weightAll → O9,weight → Ib
open Sum renaming inl → Vc,inr → Ve
open True renaming intro → UK
set_option Elab.async false
set_option linter.all false
set_option maxRecDepth 100000
set_option maxHeartbeats 4000000
section
namespace L2
open PySem PySem.Spec PyProof.Rows
abbrev Key:=Sum Int Str
def Zwa:Key->Va->Bool
 | .inl k,v=>Value.isInt k v
 | .inr x,v=>Value.isStrOf x v
def Zdd(w:Vb):Key->Int
 | .inl k=>hashInt k
 | .inr x=>hashStr w x
theorem Zn:∀ {k:Key} {v:Va},Zwa k v=true->(∃ i t,k=Vc i/\v=Vd i t)\/(∃ x t,k=Ve x/\v=Vf x t)
 | .inl i,v,h=>by
  obtain⟨t,e⟩:=Value.isInt_shape (k:=i) (v:=v) h;exact .inl ⟨i,t,rfl,e⟩
 | .inr x,v,h=>by
  obtain⟨t,e⟩:=Value.isStrOf_shape (x:=x) (v:=v) h;exact .inr ⟨x,t,rfl,e⟩
theorem XVb(i:Int)(t:Tok):Zwa (.inl i) (.int i t)=true:=by simp[Zwa,Value.isInt]
theorem XWb(x:Str)(t:Tok):Zwa (.inr x) (.str x t)=true:=by simp[Zwa,Value.isStrOf]
theorem Xsc(a b:Int):decide ((Vc a:Key)=Vc b)=(a == b):=by
 by_cases e:a=b
 ·subst e;simp
 ·have h:¬ (Vc a:Key)=Vc b:=λq=>e (Sum.inl.inj q)
  rw[decide_eq_false h];exact(beq_eq_false_iff_ne.mpr e).symm
theorem Xtc(a b:Str):decide ((Ve a:Key)=Ve b)=decide (a=b):=by
 by_cases e:a=b
 ·subst e;simp
 ·have h:¬ (Ve a:Key)=Ve b:=λq=>e (Sum.inr.inj q)
  rw[decide_eq_false h,decide_eq_false e]
theorem Xuc(a:Int)(b:Str):decide ((Vc a:Key)=Ve b)=false:=decide_eq_false (λq=>nomatch q)
theorem Xvc(a:Str)(b:Int):decide ((Ve a:Key)=Vc b)=false:=decide_eq_false (λq=>nomatch q)
def Q3(prog:Vg)(w:Vb):PySem.KeyKind prog w Key where
 is:=Zwa
 hash:=Zdd w
 inj:=λv a b ha hb=>by
  rcases Zn ha with ⟨i,t,rfl,rfl⟩ | ⟨x,t,rfl,rfl⟩
  ·rcases Zn hb with ⟨j,u,rfl,e⟩ | ⟨y,u,rfl,e⟩
   ·injection e with e1 _;rw[e1]
   ·exact nomatch e
  ·rcases Zn hb with ⟨j,u,rfl,e⟩ | ⟨y,u,rfl,e⟩
   ·exact nomatch e
   ·injection e with e1 _;rw[e1]
 byValue:=λk v h=>by
  rcases Zn h with ⟨i,t,rfl,rfl⟩ | ⟨x,t,rfl,rfl⟩ <;> rfl
 pyHash:=λhv h=>by
  rcases Zn hv with ⟨i,t,rfl,rfl⟩ | ⟨x,t,rfl,rfl⟩
  ·exact wpAny_pyHash_int h
  ·exact wpAny_pyHash_str h
 eqBool:=λhu hv h=>by
  rcases Zn hu with ⟨i,t,rfl,rfl⟩ | ⟨x,t,rfl,rfl⟩
  ·rcases Zn hv with ⟨j,u,rfl,rfl⟩ | ⟨y,u,rfl,rfl⟩
   ·rw[Xsc]at h;exact wpAny_eqBool_int h
   ·rw[Xuc]at h;exact SeqAt.EqAt.int_str i t y u _ _ _ _ h
  ·rcases Zn hv with ⟨j,u,rfl,rfl⟩ | ⟨y,u,rfl,rfl⟩
   ·rw[Xvc]at h;exact SeqAt.EqAt.str_int x t j u _ _ _ _ h
   ·rw[Xtc]at h;exact wpAny_eqBool_str h
 «strs»:=λk x t v h=>by
  rcases Zn h with ⟨i,u,rfl,e⟩ | ⟨y,u,rfl,e⟩
  ·exact nomatch e
  ·injection e with e1 _
   subst e1;cases v <;> rfl
theorem ZMb(prog:Vg)(w:Vb)(i:Int)(t:Tok):(Q3 prog w).is (.inl i) (.int i t)=true:=XVb i t
theorem ZNb(prog:Vg)(w:Vb)(x:Str)(t:Tok):(Q3 prog w).is (.inr x) (.str x t)=true:=XWb x t
inductive V where
 | non | bl (b:Bool) | int (i:Int) | str (x:Str) | byt (b:Array UInt8) | flt (b:UInt64) | ref (a:Vh) | ty (n:String)
 deriving DecidableEq
def QB:V->Va->Prop
 | .non,u=>u=Vi
 | .bl b,u=>u=Vj b
 | .int i,u=>∃ t,u=Vd i t
 | .str x,u=>∃ t,u=Vf x t
 | .byt b,u=>∃ t,u=Value.bytes b t
 | .flt b,u=>∃ t,u=Value.float b t
 | .ref a,u=>u=Vk a
 | .ty n,u=>u=Vl n
abbrev QG:List V->List Va->Prop:=Vm QB
theorem QG.length{xs:List V}{us:List Va}(r:QG xs us):xs.length=us.length:=Vn r
theorem QG.get:∀ {xs:List V} {us:List Va} {i:Nat} {x:V},QG xs us->xs[i]?=Vo x->∃ u,us[i]?=Vo u/\QB x u
 | _,_,_,_,.nil,e=>by simp at e
 | _,_,0,_,.cons r _,e=>by simp at e;subst e;exact⟨_,rfl,r⟩
 | _,_,i+1,x,.cons _ t,e=>by
  obtain⟨u,h1,h2⟩:=QG.get (i:=i) (x:=x) t (by simpa using e)
  exact⟨u,by simpa using h1,h2⟩
theorem QG.append:∀ {xs ys:List V} {us ws:List Va},QG xs us->QG ys ws->QG (xs++ys) (us++ws)
 | _,_,_,_,.nil,s=>s
 | _,_,_,_,.cons r t,s=>.cons r (QG.append t s)
theorem QG.take:∀ {xs:List V} {us:List Va} (n:Nat),QG xs us->QG (xs.take n) (us.take n)
 | _,_,0,_=>.nil
 | _,_,_+1,.nil=>.nil
 | _,_,n+1,.cons r t=>.cons r (QG.take n t)
theorem QG.drop:∀ {xs:List V} {us:List Va} (n:Nat),QG xs us->QG (xs.drop n) (us.drop n)
 | _,_,0,r=>r
 | _,_,_+1,.nil=>.nil
 | _,_,n+1,.cons _ t=>QG.drop n t
theorem QG.none_of:∀ {xs:List V} {us:List Va} {i:Nat},QG xs us->xs[i]?=Vp->us[i]?=Vp:=λ{xs us i} r e=>by
 have h1:=r.length;have h2:xs.length<=i:=List.getElem?_eq_none_iff.mp e
 exact List.getElem?_eq_none_iff.mpr #[0]
def Yu:Option V->Option Va->Prop
 | some v,Vo u=>QB v u
 | none,Vp=>True
 | _,_=>False
def KV{κ:Type}:List (κ×V)->List (κ×Va)->Prop:=Vm λ(p:κ×V) (q:κ×Va)=>p.1=q.1/\QB p.2 q.2
def kV:Key->V
 | .inl i=>.int i
 | .inr x=>.str x
inductive HO where
 | lst (xs:List V)
 | tup (xs:List V)
 | dK (ae:List (Key×V)) | dT (ae:List (List Key×V))
 | set (S:Int->Bool) (n:Nat)
 | ins (C dx:Vh) (fs:List (Str×V))
 | own (x:Vh)
 | xd (fs:List (Str×V))
 | met (f x:Vh)
 | rng (lo hi:Int)
 | frz (o:Obj) (u:HO)
 | tbl (ps:Array Va)
 | ext (φ:Vq->Prop)
abbrev Hp:=Vh->Option HO
def upd(H:Hp)(a:Vh)(o:HO):Hp:=λb=>if b=a then Vo o else H b
theorem Qa{H:Hp}{a:Vh}{o:HO}:upd H a o a=Vo o:=by unfold upd;rw[if_pos rfl]
theorem Qk{H:Hp}{a b:Vh}{o:HO}(h:b≠a):upd H a o b=H b:=by unfold upd;rw[if_neg h]
theorem ZY{H:Hp}{a:Vh}{o u:HO}:upd (upd H a o) a u=upd H a u:=by
 funext b;unfold upd;split <;> rfl
theorem Yt{H:Hp}{a b:Vh}{o u:HO}(h:H a=Vo o)(h':H b=Vo u)(d:o≠u):a≠b:=by
 intro e;subst e;rw[h]at h';exact d (Vr h')
theorem Qy{H:Hp}{a b:Vh}{o:HO}(h:H a=Vo o)(h':H b=Vp):a≠b:=by
 intro e;subst e;rw[h]at h';cases h'
section
variable(P:Vg)(w:Vb)
def QR(H:Hp)(h:Vq)(a:Vh):HO->Prop
 | .lst xs=>xs.length<=Vs/\∃ (ah:List Va) (n:Nat),QG xs ah/\h.get? a=Vo { cls:=.type "list",data:=.seq ah.toArray n }
 | .tup xs=>(xs.length<=Vs/\∃ o,h.get? a=Vo o/\o.dict=Vp)/\∃ ah:List Va,QG xs ah/\Vt h a ah.toArray
 | .dK ae=>ae.length<=Vs/\(a == Vu)=false/\∃ vs,KV ae vs/\h.DictOf (Q3 P w) a vs
 | .dT ae=>ae.length<=Vs/\(a == Vu)=false/\∃ xs:List (List Key×Vh×Va),
  Vm (λ(p:List Key×V) (q:List Key×Vh×Va)=>p.1=q.1/\H q.2.1=Vo (.tup (p.1.map kV))/\QB p.2 q.2.2) ae xs /\
  ∃ o es ep,h.get? a=Vo o/\o.ExactDict/\o.data=.dict es ep/\es.toList=xs.map (entryOfKey (Vv (Q3 P w)))/\(xs.map (·.1)).Nodup
 | .set S n=>h.SetOf (intKind P w) a S n
 | .ins C dx fs=>H dx=Vo (.own a)/\fs.length<=1000/\dx≠a/\h.get? a=Vo (Vw C dx) /\
  ∃ mA,h.Ns1 dx mA/\(∀ f,Yu (fs.lookup f) (mA f))/\Vx mA (fs.map (·.1))
 | .own _=>∃ o,h.get? a=Vo o
 | .xd fs=>∃ mA,h.Ns1 a mA/\∀ f,Yu (fs.lookup f) (mA f)
 | .rng lo hi=>∃ t u v,h.get? a=Vo { cls:=.type "range",data:=.fields #[.int lo t,.int hi u,.int 1 v] }
 | .frz o u=>h.get? a=Vo o/\QR H h a u
 | .tbl ps=>h.get? a=Vo { cls:=.none,data:=.fields ps }
 | .met f x=>h.get? a=Vo (W.methodObj (.ref f) (.ref x))
 | .ext φ=>φ h/\(∃ o,h.get? a=Vo o)/\∀ h1 h2:Vq,φ h1->(∀ o,h1.get? a=Vo o->h2.get? a=Vo o)->φ h2
def HOk(H:Hp)(h:Vq):Prop:=∀ a o,H a=Vo o->QR P w H h a o
end
section
variable{P:Vg}{w:Vb}{H H':Hp}{h h':Vq}{a:Vh}{o:HO}
theorem QR.lt(x:QR P w H h a o):a < h.objs.size:=by
 cases o with
 | lst xs=>obtain⟨_,_,_,_,e⟩:=x;exact Vy e
 | tup xs=>obtain⟨_,_,_,p⟩:=x;exact p.lt
 | dK ae=>obtain⟨_,_,_,_,o,_,_,e,_⟩:=x;exact Vy e
 | dT ae=>obtain⟨_,_,_,_,o,_,_,e,_⟩:=x;exact Vy e
 | set S n=>obtain⟨o,_,_,_,e,_⟩:=x;exact Vy e
 | ins C dx fs=>obtain⟨_,_,_,e,_⟩:=x;exact Vy e
 | own y=>obtain⟨_,e⟩:=x;exact Vy e
 | xd fs=>obtain⟨_,⟨_,_,_,e,_⟩,_⟩:=x;exact Vy e
 | rng lo hi=>obtain⟨_,_,_,e⟩:=x;exact Vy e
 | frz ob u=>obtain⟨e,_⟩:=x;exact Vy e
 | tbl ps=>exact Vy (show h.get? a=Vo _ from x)
 | met f y=>exact Vy (show h.get? a=Vo _ from x)
 | ext φ=>obtain⟨_,⟨_,e⟩,_⟩:=x;exact Vy e
theorem Paired.mapP{α β:Type}{F G:α->β->Prop}:∀ {l₁:List α} {l₂:List β},Vm F l₁ l₂->(∀ a b,F a b->G a b)->Vm G l₁ l₂
 | _,_,.nil,_=>.nil
 | _,_,.cons r t,f=>.cons (f _ _ r) (Paired.mapP t f)
theorem QR.stay(x:QR P w H h a o)(k:∀ b u,(b=a\/H b=Vo (.own a))->h.get? b=Vo u->h'.get? b=Vo u)
 (ho:∀ b,H b=Vo (.own a)->H' b=Vo (.own a)) (ht:∀ b xs,H b=Vo (.tup xs)->H' b=Vo (.tup xs)):QR P w H' h' a o:=by
 induction o with
 | lst xs=>obtain⟨z,ah,n,r,e⟩:=x;exact⟨z,ah,n,r,k _ _ (.inl rfl) e⟩
 | tup xs=>obtain⟨⟨z,o1,e1,d1⟩,ah,r,ob,e,c⟩:=x;exact⟨⟨z,o1,k _ _ (.inl rfl) e1,d1⟩,ah,r,ob,k _ _ (.inl rfl) e,c⟩
 | dK ae=>obtain⟨z,y,vs,r,ob,es,ep,e,c⟩:=x;exact⟨z,y,vs,r,ob,es,ep,k _ _ (.inl rfl) e,c⟩
 | dT ae =>
  obtain⟨z,y,xs,r,ob,es,ep,e,c⟩:=x;exact⟨z,y,xs,Paired.mapP r λp q z=>⟨z.1,ht _ _ z.2.1,z.2.2⟩,ob,es,ep,k _ _ (.inl rfl) e,c⟩
 | set S n=>obtain⟨ob,es,ep,t,e,c⟩:=x;exact⟨ob,es,ep,t,k _ _ (.inl rfl) e,c⟩
 | ins C dx fs =>
  obtain⟨d,z,ne,e,mA,⟨od,es,ep,e2,c⟩,r⟩:=x;exact⟨ho _ d,z,ne,k _ _ (.inl rfl) e,mA,⟨od,es,ep,k _ _ (.inr d) e2,c⟩,r⟩
 | own y=>obtain⟨ob,e⟩:=x;exact⟨ob,k _ _ (.inl rfl) e⟩
 | xd fs=>obtain⟨mA,⟨od,es,ep,e,c⟩,r⟩:=x;exact⟨mA,⟨od,es,ep,k _ _ (.inl rfl) e,c⟩,r⟩
 | rng lo hi=>obtain⟨t,u,v,e⟩:=x;exact⟨t,u,v,k _ _ (.inl rfl) e⟩
 | frz ob u ih=>obtain⟨e,q⟩:=x;exact⟨k _ _ (.inl rfl) e,ih q⟩
 | tbl ps =>
  have e:h.get? a=Vo { cls:=.none,data:=.fields ps }:=x;show h'.get? a=Vo { cls:=.none,data:=.fields ps };exact k a _ (.inl rfl) e
 | met f y =>
  have e:h.get? a=Vo (W.methodObj (.ref f) (.ref y)):=x;show h'.get? a=Vo (W.methodObj (.ref f) (.ref y));exact k a _ (.inl rfl) e
 | ext φ=>obtain⟨p,⟨o,e⟩,st⟩:=x;exact⟨st _ _ p λo q=>k _ _ (.inl rfl) q,⟨o,k _ _ (.inl rfl) e⟩,st⟩
theorem HOk.lt(x:HOk P w H h)(e:H a=Vo o):a < h.objs.size:=(x a o e).lt
theorem HOk.fresh(x:HOk P w H h)(e:h.objs.size<=a):H a=Vp:=by
 cases q:H a with
 | none=>rfl
 | some u=>exact absurd (Vz (x.lt q) e) (VA _)
theorem HOk.kept(x:HOk P w H h)(k:∀ b u,h.get? b=Vo u->h'.get? b=Vo u):HOk P w H h':=λa o e =>
 (x a o e).stay (λb u _ q=>k b u q) (λ_ q=>q) λ_ _ q=>q
theorem HOk.laid(x:HOk P w H h)(k:∀ b u,h.get? b=Vo u->h'.get? b=Vo u)(hp:h.objs.size<=a)(new:QR P w (upd H a o) h' a o):HOk P w (upd H a o) h':=λb u e=>by
 have hn:=x.fresh hp
 by_cases hb:b=a
 ·subst hb;rw[Qa]at e;cases e;exact new
 ·rw[Qk hb]at e
  exact(x b u e).stay (λc v _ q=>k c v q) (λc q=>by rw[Qk (Qy q hn)];exact q) λc xs q=>by rw[Qk (Qy q hn)];exact q
end
def Rd(H:Hp)(a:Vh)(u:HO):Prop:=H a=Vo u\/∃ o,H a=Vo (.frz o u)
theorem Rd.ok{P:Vg}{w:Vb}{H:Hp}{h:Vq}{a:Vh}{u:HO}(r:Rd H a u)(x:HOk P w H h):QR P w H h a u:=by
 rcases r with r | ⟨o,r⟩
 ·exact x a u r
 ·obtain⟨_,q⟩:=x a _ r
  exact q
def Mut:Option HO->Prop
 | some (.lst _)=>True
 | some (.dK _)=>True
 | some (.dT _)=>True
 | some (.set _ _)=>True
 | some (.ins _ _ _)=>True
 | some (.ext _)=>True
 | _=>False
section
variable{P:Vg}{w:Vb}{H:Hp}{h h':Vq}{x e:Vh}{o':HO}
theorem HOk.write(ok:HOk P w H h)(mu:Mut (H x))(he:e=x\/H e=Vo (.own x))(k:∀ b u,b≠e->h.get? b=Vo u->h'.get? b=Vo u)(i5:∃ u,h'.get? e=Vo u)
 (new:QR P w (upd H x o') h' x o'):HOk P w (upd H x o') h':=λb u q=>by
 have jI:∀ c y,H c=Vo (.own y)->c≠x:=λc y r z=>by subst z;rw[r]at mu;exact mu
 have pD:∀ c xs,H c=Vo (.tup xs)->c≠x:=λc xs r z=>by subst z;rw[r]at mu;exact mu
 by_cases hb:b=x
 ·subst hb;rw[Qa]at q;cases q;exact new
 ·rw[Qk hb]at q
  by_cases hbe:b=e
  ·have q':H b=Vo (.own x):=by
    rcases he with z | z
    ·exact absurd (hbe.trans z) hb
    ·rw[hbe];exact z
   rw[q]at q';cases q';obtain⟨v,hv⟩:=i5;exact⟨v,by rw[hbe];exact hv⟩
  ·refine(ok b u q).stay (λc v hc r=>k c v ?_ r) (λc r=>by rw[Qk (jI c b r)];exact r) λc xs r=>by rw[Qk (pD c xs r)];exact r
   rcases hc with rfl | hc
   ·exact hbe
   ·rintro rfl
    rcases he with z | z
    ·exact jI c b hc z
    ·rw[hc]at z;cases z;exact hb rfl
end
structure Un(fs ex:List Vh)(H H':Hp)(h h':Vq):Prop where
 keep:∀ b o,h.get? b=Vo o->H b=Vp->b∉fs->b∉ex->h'.get? b=Vo o
 slot:∀ b o,h.get? b=Vo o->H b=Vp->b∈fs->b∉ex->∃ sl,h'.get? b=Vo { o with slots:=sl }
 free:∀ b o,h.get? b=Vo o->H b=Vp->b∉ex->H' b=Vp
 there:∀ b o,h.get? b=Vo o->b∉ex->∃ o',h'.get? b=Vo o'
 tups:∀ b xs,H b=Vo (.tup xs)->H' b=Vo (.tup xs)
 frzs:∀ b o u,H b=Vo (.frz o u)->H' b=Vo (.frz o u)
 tbls:∀ b ps,H b=Vo (.tbl ps)->∃ more,H' b=Vo (.tbl (ps++more))
section
variable{fs fm ex ye:List Vh}{H H1 H2:Hp}{h h1 h2 h':Vq}{a x e:Vh}{o:HO}
theorem Un.any(u:Un fs ex H H1 h h1){b:Vh}{ob:Obj}(q:h.get? b=Vo ob)(n:H b=Vp)(hx:b∉ex):∃ sl,h1.get? b=Vo { ob with slots:=sl }:=by
 by_cases hb:b∈fs
 ·exact u.slot b ob q n hb hx
 ·exact⟨ob.slots,u.keep b ob q n hb hx⟩
theorem Un.kept(k:∀ b u,h.get? b=Vo u->h'.get? b=Vo u):Un fs ex H H h h' :=
 ⟨λb ob q _ _ _=>k b ob q,λb ob q _ _ _=>⟨ob.slots,k b ob q⟩,λ_ _ _ n _=>n,λb ob q _=>⟨ob,k b ob q⟩,λ_ _ q=>q,λ_ _ _ q=>q,λ_ ps q=>⟨#[],by rw[q];simp⟩⟩
theorem Un.refl:Un fs ex H H h h:=Un.kept λ_ _ q=>q
theorem Un.laid(k:∀ b u,h.get? b=Vo u->h'.get? b=Vo u)(hp:h.objs.size<=a)(hn:H a=Vp):Un fs ex H (upd H a o) h h' where
 keep:=λb u q _ _ _=>k b u q
 slot:=λb u q _ _ _=>⟨u.slots,k b u q⟩
 free:=λb u q n _=>by rw[Qk (VB (Vz (Vy q) hp))];exact n
 there:=λb u q _=>⟨u,k b u q⟩
 tups:=λb xs q=>by rw[Qk (Qy q hn)];exact q
 frzs:=λb u xs q=>by rw[Qk (Qy q hn)];exact q
 tbls:=λb ps q=>⟨#[],by rw[Qk (Qy q hn),q];simp⟩
theorem Un.write(mu:Mut (H x))(he:e=x\/H e=Vo (.own x))(k:∀ b u,b≠e->h.get? b=Vo u->h'.get? b=Vo u)(i5:∃ u,h'.get? e=Vo u):Un fs ex H (upd H x o) h h':=by
 have hx:∀ b,H b=Vp->b≠x:=λb n z=>by subst z;rw[n]at mu;exact mu
 have hb:∀ b,H b=Vp->b≠e:=λb n z=>by
  subst z
  rcases he with r | r
  ·exact hx b n r
  ·rw[n]at r;cases r
 have hm:∀ b u,H b=Vo u->¬ Mut (Vo u)->b≠x:=λb u q nm z=>by subst z;rw[q]at mu;exact nm mu
 refine⟨λb u q n _ _=>k b u (hb b n) q,λb u q n _ _=>⟨u.slots,k b u (hb b n) q⟩,λb u q n _=>by rw[Qk (hx b n)];exact n,λb u q _=>?_,
  λb xs q=>by rw[Qk (hm b _ q λz=>z)];exact q,λb u xs q=>by rw[Qk (hm b _ q λz=>z)];exact q,λb ps q=>⟨#[],by rw[Qk (hm b _ q λz=>z),q];simp⟩⟩
 by_cases hbe:b=e
 ·subst hbe;exact i5
 ·exact⟨u,k b u hbe q⟩
end
def trk(h:Vq)(H:Hp):List Vh:=(VC h.objs.size).filter λa=>(H a).isSome
def QRb(h:Vq)(H:Hp):Vq:=W.hideAll h (trk h H)
theorem XXb(h:Vq)(H:Hp):(QRb h H).objs.size=h.objs.size:=W.hideAll_size _ _
theorem QVc{h:Vq}{H:Hp}{b:Vh}{o:Obj}(e:h.get? b=Vo o)(n:H b=Vp):(QRb h H).get? b=Vo o :=
 W.hideAll_get _ e λhm=>by
  have q:(H b).isSome=true:=(mem_filter.mp hm).2;rw[n]at q;simp at q
theorem JVc{h:Vq}{H:Hp}{b:Vh}{o:Obj}(e:(QRb h H).get? b=Vo o):h.get? b=Vo o/\H b=Vp:=by
 have e':h.get? b=Vo o:=W.of_hideAll (trk h H) e;refine⟨e',?_⟩
 cases q:H b with
 | none=>rfl
 | some x =>
  have hm:b∈trk h H:=mem_filter.mpr ⟨mem_range.mpr (Vy e'),by simp[q]⟩
  have z:(QRb h H).get? b=Vp:=W.hideAll_none (trk h H) hm;rw[z]at e;cases e
def JWc(g h:Vq)(L:Vh):YP_:=(VC h.objs.size).filterMap λa=>if a=L\/(g.get? a).isSome=true then Vp else (h.get? a).map λo=>(a,o)
def rest(g h:Vq)(L d:Vh):YP_:=(JWc g h L).filter λp=>decide (p.1≠d)
structure Mod(K:VD)(mg:Str->Option Va)(base:Vq):Prop where
 kin:K.In base
 glob:base.Ns VE mg
 blt:∃ mb,base.Ns builtinsNs mb/\∀ x:Str,x≠"__name__"->mb x=VF x
 nolimit:base.NoLimit
structure Cx where
 prog:Vg
 w:Vb
 K:VD
 mg:Str->Option Va
 base:Vq
 A:VG
 N:List Str
 s₀:VH
 H₀:Hp
 env:Env
 outer:List Env
 stack:List Env
 ex:List Vh
 fn:Str->Bool
 calm:Bool
 pn:YP_
 xe:YQ_
def frs(l:List Env):List Vh:=l.filterMap (·.frame)
abbrev Cx.fs(X:Cx):List Vh:=frs X.outer
def Vis(sc:Scope)(x:Str):Prop:=sc.names.lookup x=Vo .local\/sc.names.lookup x=Vo .cell\/sc.names.lookup x=Vo .free
def Loc(sc:Scope)(x:Str):Prop:=sc.names.lookup x=Vo .local\/sc.names.lookup x=Vo .cell
def Zed(env:Env)(h:Vq)(m:Str->Option Va)(x:Str)(u:Va):Prop :=
 (env.kindOf x=Vo .local/\m x=Vo u)\/((env.kindOf x=Vo .cell\/env.kindOf x=Vo .free)/\∃ c,env.cells.lookup x=Vo c/\h.IsCell c (Vo u))
structure Cx.Ok(X:Cx):Prop where
 mod:Mod X.K X.mg X.base
 kind:X.env.scope.kind=.function
 glob:X.env.globals=VE
 blt:X.env.builtins=builtinsNs
 above:X.s₀.heap.objs.size<=X.env.locals
 inj:∀ x y c,X.env.cells.lookup x=Vo c->X.env.cells.lookup y=Vo c->x=y
 has:∀ x,(X.env.kindOf x=Vo .cell\/X.env.kindOf x=Vo .free)->∃ c,X.env.cells.lookup x=Vo c
 cab:∀ x c,X.fn x=true->X.env.cells.lookup x=Vo c->X.s₀.heap.objs.size<=c
 hd:X.calm=true->X.A.handled=Vp
 frames:X.A.frames=Vo X.stack
 stk:X.stack=X.outer\/(X.stack=X.env::X.outer/\X.env.frame=Vo X.env.locals)
 exf:∀ b∈X.ex,b≠X.env.locals/\∀ x c,X.env.cells.lookup x=Vo c->c≠b
 bs:∀ b o,X.base.get? b=Vo o->X.s₀.heap.get? b=Vo o/\X.H₀ b=Vp
 bsz:X.base.objs.size<=X.s₀.heap.objs.size
 noex:∀ b o,X.base.get? b=Vo o->b∉X.ex
 exfs:∀ b∈X.ex,b∉X.fs
 funs:X.s₀.heap.FunFrames X.base X.outer
 frf:∀ b∈X.fs,X.H₀ b=Vp
structure Inv(X:Cx)(aa:YP_)(σ:List (Option V))(H:Hp)(s:VH):Prop where
 ok:X.Ok
 os:s.os=X.s₀.os
 bare:VI s.gens
 base:Un X.fs X.ex X.H₀ H X.s₀.heap s.heap
 loc:∃ m,s.heap.Ns X.env.locals m/\∀ (i:Nat) (x:Str) (v:V),X.N[i]?=Vo x->σ[i]?=Vo (Vo v)->Vis X.env.scope x->∃ u,QB v u/\Zed X.env s.heap m x u
 cell:∀ x c,X.env.cells.lookup x=Vo c->∃ v,s.heap.IsCell c v
 free:H X.env.locals=Vp
 freeC:∀ x c,X.env.cells.lookup x=Vo c->H c=Vp
 pin:∀ p∈X.pn++aa,s.heap.get? p.1=Vo p.2/\H p.1=Vp/\p.1≠X.env.locals/\p.1∉X.fs/\∀ v,p.2.data≠.cell v
 hok:HOk X.prog X.w H s.heap
 len:σ.length=X.N.length
section
variable{X:Cx}{aa:YP_}{σ:List (Option V)}{H H':Hp}{s:VH}{h':Vq}
theorem Cx.Ok.nofr(ok:X.Ok){b:Vh}{o:Obj}(e:X.base.get? b=Vo o):b∉X.fs:=λhb=>by
 have:=(ok.funs.mem hb).1;rw[e]at this;cases this
theorem Inv.bs(I:Inv X aa σ H s):∀ b o,X.base.get? b=Vo o->s.heap.get? b=Vo o/\H b=Vp:=λb o e =>
 ⟨I.base.keep b o (I.ok.bs b o e).1 (I.ok.bs b o e).2 (I.ok.nofr e) (I.ok.noex b o e),I.base.free b o (I.ok.bs b o e).1 (I.ok.bs b o e).2 (I.ok.noex b o e)⟩
theorem Inv.bk(I:Inv X aa σ H s):∀ b o,X.base.get? b=Vo o->s.heap.get? b=Vo o:=λb o e=>(I.bs b o e).1
theorem Inv.mod(I:Inv X aa σ H s):Mod X.K X.mg X.base:=I.ok.mod
theorem Inv.kIn(I:Inv X aa σ H s):X.K.In s.heap:=I.ok.mod.kin.keeps I.bk
theorem Inv.lt(I:Inv X aa σ H s):X.env.locals < s.heap.objs.size:=let ⟨_,hn,_⟩:=I.loc;hn.lt
theorem Inv.sz(I:Inv X aa σ H s):X.s₀.heap.objs.size<=s.heap.objs.size:=VJ I.ok.above (VL I.lt)
theorem Inv.nofs(I:Inv X aa σ H s){a:Vh}(h:s.heap.objs.size<=a):a∉X.fs:=λhb=>by
 obtain⟨_,o,ho,_⟩:=I.ok.funs.mem hb;exact absurd (Vz (Vy ho) (VJ I.sz h)) (VA _)
theorem Inv.cne(I:Inv X aa σ H s):∀ x c,X.env.cells.lookup x=Vo c->c≠X.env.locals:=λx c e z=>by
 obtain⟨v,o,ho,hd⟩:=I.cell x c e;obtain⟨m,⟨o',es,ep,bf,bo,_⟩,_⟩:=I.loc;rw[z,bf]at ho;cases ho;rw[bo]at hd;cases hd
theorem Inv.funs(I:Inv X aa σ H s):s.heap.FunFrames X.base X.outer:=by
 have all:∀ (l:List Env),(∀ b∈frs l,b∈X.fs)->X.s₀.heap.FunFrames X.base l->s.heap.FunFrames X.base l:=by
  intro l
  induction l with
  | nil=>intro _ _;trivial
  | cons env r ih =>
   intro hs hl;obtain⟨hk,⟨L,o,hf,hn,ho,hd⟩,hr⟩:=hl;have hL:L∈X.fs:=hs L (by unfold frs;rw[VM,hf];exact VN)
   obtain⟨sl,e⟩:=I.base.slot L o ho (I.ok.frf L hL) hL λz=>I.ok.exfs L z hL
   exact⟨hk,⟨L,_,hf,hn,e,hd⟩,ih (λb hb=>hs b (by unfold frs;rw[VM,hf];exact VO _ hb)) hr⟩
 exact all X.outer (λ_ hb=>hb) I.ok.funs
theorem Inv.stack(I:Inv X aa σ H s):s.heap.FunFrames X.base X.stack:=by
 rcases I.ok.stk with e | ⟨e,hf⟩
 ·rw[e];exact I.funs
 ·rw[e]
  obtain⟨m,hn,_⟩:=I.loc;refine .cons (by rw[I.ok.kind];decide) hf hn ?_ I.funs
  exact VP (VJ I.ok.bsz I.ok.above)
theorem Inv.stkSub(I:Inv X aa σ H s):∀ b∈frs X.stack,b∈X.env.locals::X.fs:=λb hb=>by
 rcases I.ok.stk with e | ⟨e,hf⟩
 ·rw[e]at hb;exact VO _ hb
 ·rw[e]at hb
  unfold frs at hb;rw[VM,hf]at hb;exact hb
theorem Inv.stkFree(I:Inv X aa σ H s):∀ b∈frs X.stack,H b=Vp:=λb hb=>by
 rcases mem_cons.mp (I.stkSub b hb) with e | hb
 ·rw[e];exact I.free
 ·obtain⟨_,o,ho,_⟩:=I.ok.funs.mem hb
  exact I.base.free b o ho (I.ok.frf b hb) λz=>I.ok.exfs b z hb
theorem Inv.step{g':Array VQ}{t':Nat}{d':Drawn}{ch:List Vh}(I:Inv X aa σ H s)
 (bJ:∀ b∈ch,(b∈X.ex\/X.s₀.heap.objs.size<=b)/\b≠X.env.locals/\(∀ x c,X.env.cells.lookup x=Vo c->c≠b)/\∀ p∈X.pn++aa,p.1≠b)
 (keep:∀ b o,b≠X.env.locals->b∉X.fs->b∉ch->s.heap.get? b=Vo o->H b=Vp->h'.get? b=Vo o)
 (slot:∀ b o,b≠X.env.locals->b∈X.fs->b∉ch->s.heap.get? b=Vo o->H b=Vp->∃ sl,h'.get? b=Vo { o with slots:=sl }) (free:∀ b o,b∉ch->s.heap.get? b=Vo o->H b=Vp->H' b=Vp)
 (there:∀ b o,b∉ch->s.heap.get? b=Vo o->∃ o',h'.get? b=Vo o')
 (tups:∀ b xs,H b=Vo (.tup xs)->H' b=Vo (.tup xs)) (frzs:∀ b o u,H b=Vo (.frz o u)->H' b=Vo (.frz o u)) (tbls:∀ b ps,H b=Vo (.tbl ps)->∃ more,H' b=Vo (.tbl (ps++more)))
 (ns:∀ m,s.heap.Ns X.env.locals m->h'.Ns X.env.locals m) (hok:HOk X.prog X.w H' h') (hg:VI g') :
 Inv X aa σ H' { s with heap:=h',gens:=g',drawn:=d',toks:=t' }:=by
 have uF:∀ b o,X.s₀.heap.get? b=Vo o->b≠X.env.locals:=λb o e=>VB (Vz (Vy e) I.ok.above)
 have nW:∀ b o,X.s₀.heap.get? b=Vo o->b∉X.ex->b∉ch:=λb o e hx hb=>by
  rcases(bJ b hb).1 with z | z
  ·exact hx z
  ·exact absurd (Vz (Vy e) z) (VA _)
 have gk:∀ x c,X.env.cells.lookup x=Vo c->∀ v,s.heap.IsCell c v->h'.IsCell c v:=λx c e v ⟨o,ho,hd⟩=>by
  have jJ:c∉ch:=λz=>(bJ c z).2.2.1 x c e rfl
  by_cases hc:c∈X.fs
  ·obtain⟨sl,q⟩:=slot c o (I.cne x c e) hc jJ ho (I.freeC x c e)
   exact⟨_,q,hd⟩
  ·exact⟨o,keep c o (I.cne x c e) hc jJ ho (I.freeC x c e),hd⟩
 refine⟨I.ok,I.os,hg,⟨λb o e n hb hx=>?_,λb o e n hb hx=>?_,λb o e n hx=>?_,λb o e hx=>?_,λb xs e=>tups b xs (I.base.tups b xs e),λb o xs e=>frzs b o xs (I.base.frzs b o xs e),λb ps e=>?_⟩,?_,λx c e=>?_,?_,λx c e=>?_,λp hp=>?_,hok,I.len⟩
 ·exact keep b o (uF b o e) hb (nW b o e hx) (I.base.keep b o e n hb hx) (I.base.free b o e n hx)
 ·obtain⟨sl,e1⟩:=I.base.slot b o e n hb hx
  obtain⟨pE,e2⟩:=slot b _ (uF b o e) hb (nW b o e hx) e1 (I.base.free b o e n hx);exact⟨pE,e2⟩
 ·obtain⟨o',e1⟩:=I.base.there b o e hx
  exact free b o' (nW b o e hx) e1 (I.base.free b o e n hx)
 ·obtain⟨o',e1⟩:=I.base.there b o e hx
  exact there b o' (nW b o e hx) e1
 ·obtain⟨m1,e1⟩:=I.base.tbls b ps e
  obtain⟨m2,e2⟩:=tbls b _ e1;exact⟨m1++m2,by rw[e2,Array.append_assoc]⟩
 ·obtain⟨m,hn,hl⟩:=I.loc
  refine⟨m,ns m hn,λi x v e1 e2 e3=>?_⟩
  obtain⟨u,r,l⟩:=hl i x v e1 e2 e3;refine⟨u,r,?_⟩
  rcases l with l | ⟨k,c,e,z⟩
  ·exact .inl l
  ·exact .inr ⟨k,c,e,gk x c e _ z⟩
 ·obtain⟨v,z⟩:=I.cell x c e
  exact⟨v,gk x c e v z⟩
 ·obtain⟨m,⟨o,_,_,ho,_⟩,_⟩:=I.loc
  exact free _ o (λz=>(bJ _ z).2.1 rfl) ho I.free
 ·obtain⟨v,o,ho,hd⟩:=I.cell x c e
  exact free c o (λz=>(bJ c z).2.2.1 x c e rfl) ho (I.freeC x c e)
 ·obtain⟨e,n,ne,nf,d⟩:=I.pin p hp
  have jJ:p.1∉ch:=λz=>(bJ p.1 z).2.2.2 p hp rfl
  exact⟨keep p.1 p.2 ne nf jJ e n,free p.1 p.2 jJ e n,ne,nf,d⟩
theorem Inv.un{t':Nat}(I:Inv X aa σ H s)(u:Un X.fs [] H H' s.heap h')(hok:HOk X.prog X.w H' h'):Inv X aa σ H' { s with heap:=h',toks:=t' }:=by
 obtain⟨m,⟨o,es,ep,ho,r⟩,_⟩:=id I.loc;obtain⟨sl,hL⟩:=u.any ho I.free #[2]
 exact I.step (g':=s.gens) (d':=s.drawn) (ch:=[]) (λ_ z=>nomatch z) (λb o _ hb _ e n=>u.keep b o e n hb #[2]) (λb o _ hb _ e n=>u.slot b o e n hb #[2]) (λb o _ e n=>u.free b o e n #[2]) (λb o _ e=>u.there b o e #[2]) u.tups u.frzs u.tbls (λm' hm=>by
  obtain⟨o',aj,nX,bf,r'⟩:=hm;rw[ho]at bf;cases bf;exact⟨_,aj,nX,hL,r'⟩) hok I.bare
theorem Inv.call{g':Array VQ}{t':Nat}{d':Drawn}{ch:List Vh}(I:Inv X aa σ H s)(u:Un (frs X.stack) ch H H' s.heap h')(hok:HOk X.prog X.w H' h')(hg:VI g')
 (bJ:∀ b∈ch,(b∈X.ex\/X.s₀.heap.objs.size<=b)/\b≠X.env.locals/\(∀ x c,X.env.cells.lookup x=Vo c->c≠b)/\∀ p∈X.pn++aa,p.1≠b) :
 Inv X aa σ H' { s with heap:=h',gens:=g',drawn:=d',toks:=t' }:=by
 obtain⟨m,⟨o,es,ep,ho,r⟩,_⟩:=id I.loc;obtain⟨sl,hL⟩:=u.any ho I.free λz=>(bJ _ z).2.1 rfl
 exact I.step (ch:=ch) bJ (λb o hL hb hc e n=>u.keep b o e n (λz=>(mem_cons.mp (I.stkSub b z)).elim hL hb) hc) (λb o _ _ hc e n=>u.any e n hc) (λb o hc e n=>u.free b o e n hc) (λb o hc e=>u.there b o e hc) u.tups u.frzs u.tbls (λm' hm=>by
  obtain⟨o',aj,nX,bf,r'⟩:=hm;rw[ho]at bf;cases bf;exact⟨_,aj,nX,hL,r'⟩) hok hg
theorem Inv.turned{t':Nat}{it:Vh}(I:Inv X aa σ H s)(k:∀ b o,b≠it->s.heap.get? b=Vo o->h'.get? b=Vo o)(hn:H it=Vp)(hL:it≠X.env.locals)
 (h1:it∈X.ex\/X.s₀.heap.objs.size<=it) (h2:∀ x c,X.env.cells.lookup x=Vo c->c≠it) (h3:∀ p∈X.pn++aa,p.1≠it):Inv X aa σ H { s with heap:=h',toks:=t' }:=by
 have fC:∀ b u,H b=Vo u->b≠it:=λb u e z=>by rw[z,hn]at e;cases e
 refine I.step (g':=s.gens) (d':=s.drawn) (ch:=[it]) (λb hb=>?_) (λb o _ _ hc e _=>k b o (λz=>hc (by simp[z])) e) (λb o _ _ hc e _=>⟨o.slots,k b o (λz=>hc (by simp[z])) e⟩) (λ_ _ _ _ n=>n)
  (λb o hc e=>⟨o,k b o (λz=>hc (by simp[z])) e⟩) (λ_ _ e=>e) (λ_ _ _ e=>e) (λb ps e=>⟨#[],by rw[e];simp⟩) (λm hm=>?_) (λb u e=>?_) I.bare
 ·have e:b=it:=by simpa using hb
  subst e;exact⟨h1,hL,h2,h3⟩
 ·obtain⟨o,es,ep,ho,r⟩:=hm
  exact⟨o,es,ep,k _ o (VR hL) ho,r⟩
 ·refine(I.hok b u e).stay (λc v hc q=>k c v ?_ q) (λ_ q=>q) λ_ _ q=>q
  rcases hc with z | z
  ·rw[z];exact fC b u e
  ·exact fC c _ z
theorem Inv.tok(I:Inv X aa σ H s)(t:Nat):Inv X aa σ H { s with toks:=t }:=I.un (h':=s.heap) (t':=t) Un.refl I.hok
theorem Inv.kept{t':Nat}(I:Inv X aa σ H s)(k:∀ b u,s.heap.get? b=Vo u->h'.get? b=Vo u):Inv X aa σ H { s with heap:=h',toks:=t' }:=I.un (Un.kept k) (I.hok.kept k)
theorem Inv.laid{a:Vh}{o:HO}{t':Nat}(I:Inv X aa σ H s)(k:∀ b u,s.heap.get? b=Vo u->h'.get? b=Vo u)(hp:s.heap.objs.size<=a)(new:QR X.prog X.w (upd H a o) h' a o) :
 Inv X aa σ (upd H a o) { s with heap:=h',toks:=t' }:=I.un (Un.laid k hp (I.hok.fresh hp)) (I.hok.laid k hp new)
theorem Inv.write{x e:Vh}{o:HO}{t':Nat}(I:Inv X aa σ H s)(mu:Mut (H x))(he:e=x\/H e=Vo (.own x))(k:∀ b u,b≠e->s.heap.get? b=Vo u->h'.get? b=Vo u)(i5:∃ u,h'.get? e=Vo u)
 (new:QR X.prog X.w (upd H x o) h' x o):Inv X aa σ (upd H x o) { s with heap:=h',toks:=t' }:=I.un (Un.write mu he k i5) (I.hok.write mu he k i5 new)
theorem Inv.pins_of{gm:YP_}(I:Inv X aa σ H s)(h:∀ p∈gm,s.heap.get? p.1=Vo p.2/\H p.1=Vp/\p.1≠X.env.locals/\p.1∉X.fs/\∀ v,p.2.data≠.cell v):Inv X gm σ H s :=
 ⟨I.ok,I.os,I.bare,I.base,I.loc,I.cell,I.free,I.freeC,λp hp=>(mem_append.mp hp).elim (λz=>I.pin p (VS _ z)) (h p),I.hok,I.len⟩
theorem ZOb{N:List Str}(hN:N.Nodup){i j:Nat}{x:Str}(a:N[i]?=Vo x)(b:N[j]?=Vo x):i=j:=by
 obtain⟨h1,e1⟩:=List.getElem?_eq_some_iff.mp a
 obtain⟨h2,e2⟩:=List.getElem?_eq_some_iff.mp b
 exact(getElem_inj hN).mp (e1.trans e2.symm)
theorem Qib{M:VT}{A:VG}{E:YQ_}{i:Nat}{x:Str}{v:V}{u:Va}{Q:Unit->VH->Prop}(I:Inv X aa σ H s)(hN:X.N.Nodup)(hi:X.N[i]?=Vo x)(hx:Loc X.env.scope x)(r:QB v u)
 (h:∀ s',Inv X aa (σ.set i (Vo v)) H s'->(∃ a,VU a s.heap s'.heap/\(a=X.env.locals\/X.env.cells.lookup x=Vo a))->Q () s') (hf:X.fn x=true\/X.env.scope.names.lookup x=Vo .local:=by first | exact .inl rfl | exact .inr rfl | assumption):VV M A (storeName X.env x u) Q E s:=by
 obtain⟨m,hn,hl⟩:=id I.loc;have pF:(X.env.scope.kind == .class || (X.env.scope.kind == .module && X.env.locals != X.env.globals))=false:=by rw[I.ok.kind];rfl
 have uG:i < σ.length:=by rw[I.len];exact(List.getElem?_eq_some_iff.mp hi).1
 have cne:=I.cne;have de:∀ {a:Vh} {h':Vq},(∃ o,s.heap.get? a=Vo o/\H a=Vp)->VU a s.heap h'->HOk X.prog X.w H h':=λ{a h'} ha hs b ob e=>by
  obtain⟨_,_,gn⟩:=ha;refine(I.hok b ob e).stay (λc w' hc q=>(hs.2 c ?_).trans q) (λ_ q=>q) λ_ _ q=>q
  rintro rfl
  rcases hc with rfl | hc
  ·rw[gn]at e;cases e
  ·rw[gn]at hc;cases hc
 rcases hx with hk | hk
 ·refine wpAny_storeName_local hk hn (λh' gq hs=>?_) pF
  obtain⟨oL,_,_,b6,_⟩:=id hn;refine h _ ⟨I.ok,I.os,I.bare,⟨λb o e n hb hx=>?_,λb o e n hb hx=>?_,I.base.free,λb o e hx=>?_,I.base.tups,I.base.frzs,I.base.tbls⟩,⟨_,gq,λj y v' e1 e2 e3=>?_⟩,λy c e=>?_,I.free,I.freeC,λp hp=>?_,de ⟨oL,b6,I.free⟩ hs,by simpa using I.len⟩ ⟨_,hs,.inl rfl⟩
  ·exact(hs.2 b (VB (Vz (Vy e) I.ok.above))).trans (I.base.keep b o e n hb hx)
  ·obtain⟨sl,e1⟩:=I.base.slot b o e n hb hx
   exact⟨sl,(hs.2 b (VB (Vz (Vy e) I.ok.above))).trans e1⟩
  ·obtain⟨o',e1⟩:=I.base.there b o e hx
   exact⟨o',(hs.2 b (VB (Vz (Vy e) I.ok.above))).trans e1⟩
  ·by_cases hj:j=i
   ·subst hj
    rw[hi]at e1;cases e1;rw[getElem?_set_self uG]at e2
    cases e2;exact⟨u,r,.inl ⟨hk,by simp⟩⟩
   ·rw[getElem?_set_ne (VR hj)]at e2
    obtain⟨u',r',q⟩:=hl j y v' e1 e2 e3;refine⟨u',r',?_⟩
    rcases q with ⟨k,e⟩ | ⟨k,c,e,z⟩
    ·refine .inl ⟨k,?_⟩
     have:y≠x:=λe=>hj (ZOb hN e1 (e ▸ hi))
     simp[this,e]
    ·exact .inr ⟨k,c,e,z.sameBut hs (cne y c e)⟩
  ·obtain⟨w',z⟩:=I.cell y c e
   exact⟨w',z.sameBut hs (cne y c e)⟩
  ·obtain⟨e,n,ne,nf,d⟩:=I.pin p hp
   exact⟨(hs.2 p.1 ne).trans e,n,ne,nf,d⟩
 ·have fE:X.fn x=true:=by
   rcases hf with z | z
   ·exact z
   ·rw[z]at hk;cases hk
  obtain⟨c,hc⟩:=I.ok.has x (.inl hk);obtain⟨w',z⟩:=I.cell x c hc;refine wpAny_storeName_cell I.ok.kind hk hc z (λh' bQ hs=>?_)
  obtain⟨oc,uH,pG⟩:=id z;refine h { s with heap:=h' } ⟨I.ok,I.os,I.bare,⟨λb o e n hb hx=>?_,λb o e n hb hx=>?_,I.base.free,λb o e hx=>?_,I.base.tups,I.base.frzs,I.base.tbls⟩,⟨m,hn.sameBut hs (VR (cne x c hc)),λj y v' e1 e2 e3=>?_⟩,λy c' e=>?_,I.free,I.freeC,λp hp=>?_,de ⟨oc,uH,I.freeC x c hc⟩ hs,by simpa using I.len⟩ ⟨c,hs,.inr hc⟩
  ·exact(hs.2 b (VB (Vz (Vy e) (I.ok.cab x c fE hc)))).trans (I.base.keep b o e n hb hx)
  ·obtain⟨sl,e1⟩:=I.base.slot b o e n hb hx
   exact⟨sl,(hs.2 b (VB (Vz (Vy e) (I.ok.cab x c fE hc)))).trans e1⟩
  ·obtain⟨o',e1⟩:=I.base.there b o e hx
   exact⟨o',(hs.2 b (VB (Vz (Vy e) (I.ok.cab x c fE hc)))).trans e1⟩
  ·by_cases hj:j=i
   ·subst hj
    rw[hi]at e1;cases e1;rw[getElem?_set_self uG]at e2
    cases e2;exact⟨u,r,.inr ⟨.inl hk,c,hc,bQ⟩⟩
   ·rw[getElem?_set_ne (VR hj)]at e2
    obtain⟨u',r',q⟩:=hl j y v' e1 e2 e3;refine⟨u',r',?_⟩
    rcases q with q | ⟨k,c',e,z'⟩
    ·exact .inl q
    ·refine .inr ⟨k,c',e,z'.sameBut hs ?_⟩
     rintro rfl;exact hj (ZOb hN e1 (I.ok.inj _ _ _ e hc ▸ hi))
  ·by_cases hcc:c'=c
   ·subst hcc;exact⟨_,bQ⟩
   ·obtain⟨w2,z2⟩:=I.cell y c' e
    exact⟨w2,z2.sameBut hs hcc⟩
  ·obtain⟨e,n,ne,nf,d⟩:=I.pin p hp
   refine⟨(hs.2 p.1 ?_).trans e,n,ne,nf,d⟩
   intro q;rw[q,uH]at e;have q':oc=p.2:=Vr e;exact d w' (by rw[<- q'];exact pG)
theorem ZPb{M:VT}{A:VG}{E:YQ_}{i:Nat}{x:Str}{v:V}{u:Va}{Q:Unit->VH->Prop}(I:Inv X aa σ H s)(hN:X.N.Nodup)(hi:X.N[i]?=Vo x)(hx:Loc X.env.scope x)(r:QB v u)
 (h:∀ s',Inv X aa (σ.set i (Vo v)) H s'->Q () s') (hf:X.fn x=true\/X.env.scope.names.lookup x=Vo .local:=by first | exact .inl rfl | exact .inr rfl | assumption):VV M A (storeName X.env x u) Q E s :=
 Qib I hN hi hx r (λs' I' _=>h s' I') hf
theorem Inv.call'{s':VH}{ch:List Vh}(I:Inv X aa σ H s)(ho:s'.os=s.os)(u:Un (frs X.stack) ch H H' s.heap s'.heap)(hok:HOk X.prog X.w H' s'.heap)(hg:VI s'.gens)
 (bJ:∀ b∈ch,(b∈X.ex\/X.s₀.heap.objs.size<=b)/\b≠X.env.locals/\(∀ x c,X.env.cells.lookup x=Vo c->c≠b)/\∀ p∈X.pn++aa,p.1≠b):Inv X aa σ H' s':=by
 obtain⟨h',g',d',t',o'⟩:=s';have e:o'=s.os:=ho;subst e;exact I.call (g':=g') (t':=t') (d':=d') u hok hg bJ
end
abbrev XK:=Va->Option Vh->Hp->Prop
abbrev St:=List (Option V)
abbrev VK:=V->Hp->Prop
abbrev TE:=St->Hp->VK->Prop
abbrev TT:=St->Hp->(Bool->Hp->Prop)->Prop
abbrev TA:=St->Hp->(List V->Hp->Prop)->Prop
structure JR where
 nx:St->Hp->Prop
 rt:VK
 bk:St->Hp->Prop:=λ_ _=>False
 ct:St->Hp->Prop:=λ_ _=>False
abbrev TS:=JR->St->Hp->Prop
inductive EP(X:Cx)(aa:YP_)(σ:St)(Q:VK)(u:Va)(s':VH):Prop
 | mk (v:V) (H':Hp) (i:Inv X aa σ H' s') (r:QB v u) (q:Q v H'):EP X aa σ Q u s'
inductive TP(X:Cx)(aa:YP_)(σ:St)(Q:Bool->Hp->Prop)(b:Bool)(s':VH):Prop
 | mk (H':Hp) (i:Inv X aa σ H' s') (q:Q b H'):TP X aa σ Q b s'
inductive AP(X:Cx)(aa:YP_)(σ:St)(Q:List V->Hp->Prop)(us:List Va)(s':VH):Prop
 | mk (vs:List V) (H':Hp) (i:Inv X aa σ H' s') (r:QG vs us) (q:Q vs H'):AP X aa σ Q us s'
def SP(X:Cx)(aa:YP_)(D:JR)(f:Flow)(s':VH):Prop :=
 match f with
 | .next=>∃ σ' H',Inv X aa σ' H' s'/\D.nx σ' H'
 | .brk=>∃ σ' H',Inv X aa σ' H' s'/\D.bk σ' H'
 | .cont=>∃ σ' H',Inv X aa σ' H' s'/\D.ct σ' H'
 | .ret u=>∃ v σ' H',Inv X aa σ' H' s'/\QB v u/\D.rt v H'
def PE(X:Cx)(e:Expr)(t:TE):Prop :=
 ∀ (aa:YP_) (s:VH) (σ:St) (H:Hp) (Q:VK),Inv X aa σ H s->t σ H Q->VV (VW X.prog X.w) X.A (VX e X.env) (EP X aa σ Q) X.xe s
def PT(X:Cx)(e:Expr)(t:TT):Prop :=
 ∀ (aa:YP_) (s:VH) (σ:St) (H:Hp) (Q:Bool->Hp->Prop),Inv X aa σ H s->t σ H Q->VV (VW X.prog X.w) X.A (isTrue e X.env (VX e X.env)) (TP X aa σ Q) X.xe s
def PW(X:Cx)(e:Expr)(t:TT):Prop :=
 ∀ (bw:Sem Va) (aa:YP_) (s:VH) (σ:St) (H:Hp) (Q:Bool->Hp->Prop),Inv X aa σ H s->t σ H Q->VV (VW X.prog X.w) X.A (isTrue e X.env bw) (TP X aa σ Q) X.xe s
theorem PW.pt{X:Cx}{e:Expr}{t:TT}(h:PW X e t):PT X e t:=h _
def PA(X:Cx)(es:List Expr)(t:TA):Prop :=
 ∀ (pos:Pos) (aa:YP_) (s:VH) (σ:St) (H:Hp) (Q:List V->Hp->Prop),Inv X aa σ H s->t σ H Q->VV (VW X.prog X.w) X.A (spliced (VY pos (VZ es X.env))) (AP X aa σ Q) X.xe s
def PS(X:Cx)(st:V0)(t:TS):Prop :=
 ∀ (aa:YP_) (s:VH) (σ:St) (H:Hp) (D:JR),Inv X aa σ H s->t D σ H->VV (VW X.prog X.w) X.A (exec st X.env) (SP X aa D) X.xe s
def PSs(X:Cx)(st:List V0)(t:TS):Prop :=
 ∀ (aa:YP_) (s:VH) (σ:St) (H:Hp) (D:JR),Inv X aa σ H s->t D σ H->VV (VW X.prog X.w) X.A (execs st X.env) (SP X aa D) X.xe s
theorem thn{α:Type}{t:Sem α}{Q Q':α->VH->Prop}{M:VT}{A:VG}{E:YQ_}{s:VH}(h:VV M A t Q E s)(hQ:∀ a s,Q a s->Q' a s):VV M A t Q' E s:=V1 h hQ λ_ _ x=>x
section
variable{X:Cx}
def Yv(i:Nat):TE:=λσ H Q=>match σ[i]? with | some (Vo v)=>Q v H | _=>False
theorem JXc{i:Nat}{σ:St}{H:Hp}{Q:VK}(h:Yv i σ H Q):∃ v,σ[i]?=Vo (Vo v)/\Q v H:=by
 unfold Yv at h
 split at h
 ·exact⟨_,‹_›,h⟩
 ·exact h.elim
theorem Yw{i:Nat}{σ:St}{H:Hp}{Q:VK}{v:V}(e:σ[i]?=Vo (Vo v))(q:Q v H):Yv i σ H Q:=by
 unfold Yv;rw[e];exact q
theorem J6b{σ:St}{H:Hp}{Q:VK}{v:V}:Yv 0 (Vo v::σ) H Q=Q v H:=rfl
theorem J7b{σ:St}{H:Hp}{Q:VK}{i:Nat}{x:Option V}:Yv (i+1) (x::σ) H Q=Yv i σ H Q:=rfl
def tC(v:V):TE:=λ_ H Q=>Q v H
theorem Xwc{i:Nat}{x:Str}{pos:Pos}(hN:X.N[i]?=Vo x)(hv:Vis X.env.scope x)(hd:(x == ("__debug__":Str))=false:=by decide)(b7:(x == ("__classdict__":Str))=false:=by decide):PE X (.Name x pos) (Yv i):=by
 intro aa s σ H Q I h;obtain⟨v,e,h⟩:=JXc h;obtain⟨m,hn,hl⟩:=I.loc;obtain⟨u,r,l⟩:=hl i x v hN e hv;have fin:EP X aa σ Q u s:=⟨v,H,I,r,h⟩
 rcases l with ⟨hk,hm⟩ | ⟨hk,c,hc,gu⟩
 ·exact wpAny_Name (wpAny_loadName_local I.ok.kind hk hn hm fin) hd
 ·rcases hk with hk | hk
  ·exact wpAny_Name (wpAny_loadName_cell I.ok.kind hk hc gu fin) hd
  ·exact wpAny_Name (wpAny_loadName_free I.ok.kind hk hc gu fin b7) hd
theorem Qd{i j pos}:PE X (.Constant (.int i) j pos) (tC (.int i)):=λ_ _ _ H _ I h=>wpAny_Constant_int ⟨.int i,H,I.tok _,⟨_,rfl⟩,h⟩
theorem Qjb{b j pos}:PE X (.Constant (.bool b) j pos) (tC (.bl b)):=λ_ _ _ H _ I h=>Constant_bool ⟨.bl b,H,I,rfl,h⟩
theorem Zz{j pos}:PE X (.Constant .none j pos) (tC .non):=λ_ _ _ H _ I h=>Constant_none ⟨.non,H,I,rfl,h⟩
theorem JW{x j pos}:PE X (.Constant (.str x) j pos) (tC (.str x)):=λ_ _ _ H _ I h=>Calls.Constant_str ⟨.str x,H,I.tok _,⟨_,rfl⟩,h⟩
def Gl(X:Cx)(x:Str):Prop:=X.env.kindOf x=Vo .globalImplicit
theorem YZ{E:YQ_}{aa:YP_}{s:VH}{σ:St}{H:Hp}{x:Str}{u:Va}{pos:Pos}{Q:YQ_}(I:Inv X aa σ H s)(hg:Gl X x)(hm:X.mg x=Vo u)(h:Q u s)
 (hd:(x == ("__debug__":Str))=false:=by decide):VV (VW X.prog X.w) X.A (VX (.Name x pos) X.env) Q E s :=
 Calls.Name_function_global I.ok.kind hg (Calls.loadGlobal_global (by rw[I.ok.glob];exact I.mod.glob.keeps I.bk) hm h) hd
theorem XA{E:YQ_}{aa:YP_}{s:VH}{σ:St}{H:Hp}{x:Str}{u:Va}{pos:Pos}{Q:YQ_}(I:Inv X aa σ H s)(hg:Gl X x)(hm:X.mg x=Vp)(hv:VF x=Vo u)(h:Q u s)
 (hn:x≠"__name__":=by decide) (hd:(x == ("__debug__":Str))=false:=by decide):VV (VW X.prog X.w) X.A (VX (.Name x pos) X.env) Q E s:=by
 obtain⟨mb,h1,h2⟩:=I.mod.blt;exact Calls.Name_function_global I.ok.kind hg (Calls.loadGlobal_builtin (by rw[I.ok.glob];exact I.mod.glob.keeps I.bk) hm (by rw[I.ok.blt];exact h1.keeps I.bk) ((h2 x hn).trans hv) h) hd
theorem Y7b{x:Str}{v:V}{u:Va}{pos:Pos}(hg:Gl X x)(hm:X.mg x=Vo u)(r:QB v u)(hd:(x == ("__debug__":Str))=false:=by decide):PE X (.Name x pos) (tC v) :=
 λ_ _ _ H _ I h=>YZ I hg hm ⟨v,H,I,r,h⟩ hd
theorem Yua{x:Str}{v:V}{u:Va}{pos:Pos}(hg:Gl X x)(hm:X.mg x=Vp)(hv:VF x=Vo u)(r:QB v u)(hn:x≠"__name__":=by decide)(hd:(x == ("__debug__":Str))=false:=by decide):PE X (.Name x pos) (tC v) :=
 λ_ _ _ H _ I h=>XA I hg hm hv ⟨v,H,I,r,h⟩ hn hd
variable{a b:Expr}{ta tb:TE}{pos:Pos}
def PC(X:Cx)(op:CmpOp)(a b:Expr)(t:TE):Prop :=
 ∀ (aa:YP_) (s:VH) (σ:St) (H:Hp) (Q:VK),Inv X aa σ H s->t σ H Q ->
  VV (VW X.prog X.w) X.A (VX a X.env) (λv s₁=>VV (VW X.prog X.w) X.A (VX b X.env) (λu s₂=>VV (VW X.prog X.w) X.A (V2 op v u) (EP X aa σ Q) X.xe s₂) X.xe s₁) X.xe s
def tB(t:TE):TT:=λσ H Q=>t σ H λx H1=>∃ c,x=.bl c/\Q c H1
theorem J8b{op:CmpOp}{t:TE}(h:PC X op a b t)(h1:V3 op b=false:=by first | exact nobehind _ #[1] #[1] | rfl):PT X (.Compare a [op] [b] pos) (tB t):=by
 intro aa s σ H Q I hw;refine wpAny_isTrue_Compare1 (thn (h aa s σ H _ I hw) λv s1 h1=>thn h1 λu s2 h2=>thn h2 λc s3 hZ=>?_) h1
 obtain⟨x,H1,I1,r1,q1⟩:=hZ;obtain⟨d,rfl,q⟩:=q1;cases r1;exact V4 ⟨H1,I1,q⟩
theorem Qwa{e:Expr}{t:TE}(h:PE X e t)(he:∀ bw,isTrue e X.env bw=(do let v <- bw;V5 e.pos;V6 [v] (truthy v)):=by intro _;rfl):PT X e (tB t):=by
 intro aa s σ H Q I hw;refine isTrue_plain (thn (h aa s σ H _ I hw) λv s1 hZ=>?_) (he _)
 obtain⟨x,H1,I1,r1,q1⟩:=hZ;obtain⟨d,rfl,q⟩:=q1;cases r1;exact V4 ⟨H1,I1,q⟩
variable{tA jK:TT}{rest:List Expr}
def QDd(t u:TT):TT:=λσ H Q=>t σ H λc H1=>if c=true then u σ H1 Q else Q false H1
def tOr(t u:TT):TT:=λσ H Q=>t σ H λc H1=>if c=true then Q true H1 else u σ H1 Q
def QEd(t:TT):TT:=λσ H Q=>t σ H λc H1=>Q (!c) H1
theorem Zea(ha:PT X a tA):PW X (.BoolOp .And [a] pos) tA:=by
 intro wh aa s σ H Q I h;refine isTrue_and (thn (ha aa s σ H Q I h) λc s1 e=>?_)
 cases c with
 | true=>exact isTrue_and_nil e
 | false=>exact e
theorem YKa(ha:PT X a tA):PW X (.BoolOp .Or [a] pos) tA:=by
 intro wh aa s σ H Q I h;refine isTrue_or (thn (ha aa s σ H Q I h) λc s1 e=>?_)
 cases c with
 | false=>exact isTrue_or_nil e
 | true=>exact e
theorem JIa(ha:PT X a tA)(hb:PW X (.BoolOp .And (b::rest) pos) jK):PW X (.BoolOp .And (a::b::rest) pos) (QDd tA jK):=by
 intro wh aa s σ H Q I h;refine isTrue_and (thn (ha aa s σ H _ I h) λc s1 hZ=>?_)
 obtain⟨H1,I1,q1⟩:=hZ;cases c with
 | true=>exact hb wh aa s1 σ H1 Q I1 q1
 | false=>exact⟨H1,I1,q1⟩
theorem ZQb(ha:PT X a tA)(hb:PW X (.BoolOp .Or (b::rest) pos) jK):PW X (.BoolOp .Or (a::b::rest) pos) (tOr tA jK):=by
 intro wh aa s σ H Q I h;refine isTrue_or (thn (ha aa s σ H _ I h) λc s1 hZ=>?_)
 obtain⟨H1,I1,q1⟩:=hZ;cases c with
 | true=>exact⟨H1,I1,q1⟩
 | false=>exact hb wh aa s1 σ H1 Q I1 q1
theorem YLa(ha:PT X a tA):PT X (.UnaryOp .Not a pos) (QEd tA):=by
 intro aa s σ H Q I h;exact isTrue_not (thn (ha aa s σ H (λc H1=>Q (!c) H1) I h) λ_ _ hZ=>by obtain⟨H1,I1,q1⟩:=hZ;exact⟨H1,I1,q1⟩)
def Y0c(ta tb:TE):TE:=λσ H Q=>ta σ H λx H1=>∃ c,x=.bl c/\if c=true then tb σ H1 Q else Q (.bl false) H1
theorem Xxc{op}{t:TE}(h:PE X a t):PE X (.BoolOp op [a] pos) t:=λaa s σ H Q I hw=>BoolOp_one (h aa s σ H Q I hw)
theorem Xyc(ha:PE X a ta)(hb:PE X (.BoolOp .And (b::rest) pos) tb):PE X (.BoolOp .And (a::b::rest) pos) (Y0c ta tb):=by
 intro aa s σ H Q I h;refine BoolOp_and (thn (ha aa s σ H _ I h) λv s1 hZ=>?_)
 obtain⟨x,H1,I1,r1,q1⟩:=hZ;obtain⟨c,rfl,q1⟩:=q1;cases r1;refine V4 ?_
 cases c with
 | true=>exact hb aa s1 σ H1 Q I1 q1
 | false=>exact⟨.bl false,H1,I1,rfl,q1⟩
def tIf(t:TT)(ta tb:TE):TE:=λσ H Q=>t σ H λc H1=>if c=true then ta σ H1 Q else tb σ H1 Q
theorem YMa{c:Expr}(hc:PT X c tA)(ha:PE X a ta)(hb:PE X b tb):PE X (.IfExp c a b pos) (tIf tA ta tb):=by
 intro aa s σ H Q I h;refine wpAny_IfExp (thn (hc aa s σ H _ I h) λd s1 hZ=>?_)
 obtain⟨H1,I1,q1⟩:=hZ;cases d with
 | true=>exact ha aa s1 σ H1 Q I1 q1
 | false=>exact hb aa s1 σ H1 Q I1 q1
end
def SqL(K:VD)(H:Hp)(a:Vh)(xs:List V):Prop :=
 Rd H a (.lst xs) \/
  ∃ (o:Obj) (ah:Array Va) (n:Nat),K.lookup a=Vo o/\o.cls=.type "list"/\o.dict=Vp/\o.data=.seq ah n/\ah.size<=Vs/\QG xs ah.toList
def SqT(K:VD)(H:Hp)(a:Vh)(xs:List V):Prop :=
 Rd H a (.tup xs) \/
  ∃ (o:Obj) (ah:Array Va) (n:Nat),K.lookup a=Vo o/\o.cls=.type "tuple"/\o.data=.seq ah n/\ah.size<=Vs/\QG xs ah.toList
def Zfd:Va->Option V
 | .none=>Vo .non
 | .bool b=>Vo (.bl b)
 | .int i _=>Vo (.int i)
 | .str x _=>Vo (.str x)
 | .bytes b _=>Vo (.byt b)
 | .float b _=>Vo (.flt b)
 | .ref a=>Vo (.ref a)
 | .type n=>Vo (.ty n)
 | _=>Vp
theorem QB.abs{x:V}{u:Va}(r:QB x u):Zfd u=Vo x:=by
 cases x with
 | non=>cases r;rfl
 | bl _=>cases r;rfl
 | int _=>obtain⟨t,rfl⟩:=r;rfl
 | str _=>obtain⟨t,rfl⟩:=r;rfl
 | byt _=>obtain⟨t,rfl⟩:=r;rfl
 | flt _=>obtain⟨t,rfl⟩:=r;rfl
 | ref _=>cases r;rfl
 | ty _=>cases r;rfl
theorem QB.inj{x y:V}{u:Va}(r:QB x u)(q:QB y u):x=y:=Vr (r.abs.symm.trans q.abs)
theorem QG.inj:∀ {xs ys:List V} {us:List Va},QG xs us->QG ys us->xs=ys
 | _,_,_,.nil,.nil=>rfl
 | _,_,_,.cons r t,.cons r' t'=>by rw[r.inj r',QG.inj t t']
section
variable{X:Cx}{aa:YP_}{σ:St}{H:Hp}{s:VH}{a:Vh}{xs ys:List V}
theorem SqL.of{K:VD}(h:H a=Vo (.lst xs)):SqL K H a xs:=.inl (.inl h)
theorem SqT.of{K:VD}(h:H a=Vo (.tup xs)):SqT K H a xs:=.inl (.inl h)
theorem Inv.list(I:Inv X aa σ H s)(h:SqL X.K H a xs):∃ ah:List Va,QG xs ah/\PlainL s.heap a ah.toArray/\xs.length<=Vs:=by
 rcases h with h | ⟨o,ah,n,hk,hc,hd,hs,hz,r⟩
 ·obtain⟨z,ah,n,r,e⟩:=h.ok I.hok
  exact⟨ah,r,⟨_,n,e,rfl,rfl,rfl⟩,z⟩
 ·refine⟨ah.toList,r,⟨o,n,I.kIn a o hk,hc,hd,by simpa using hs⟩,?_⟩
  have e:=r.length;simp only[V7]at e
  lia
theorem Inv.tuple(I:Inv X aa σ H s)(h:SqT X.K H a xs):∃ ah:List Va,QG xs ah/\Vt s.heap a ah.toArray/\xs.length<=Vs:=by
 rcases h with h | ⟨o,ah,n,hk,hc,hs,hz,r⟩
 ·obtain⟨⟨z,_⟩,ah,r,p⟩:=h.ok I.hok
  exact⟨ah,r,p,z⟩
 ·refine⟨ah.toList,r,⟨o,I.kIn a o hk,hc,n,by simpa using hs⟩,?_⟩
  have e:=r.length;simp only[V7]at e
  lia
theorem Inv.list_inj(I:Inv X aa σ H s)(h:SqL X.K H a xs)(h':SqL X.K H a ys):xs=ys:=by
 obtain⟨ah,r,⟨o,n,e,_,_,d⟩,_⟩:=I.list h;obtain⟨its',r',⟨o',n',e',_,_,d'⟩,_⟩:=I.list h';rw[e]at e';cases e';rw[d]at d';injection d' with d1 _
 have:ah=its':=by simpa using congrArg Array.toList d1
 subst this;exact r.inj r'
theorem Inv.tuple_inj(I:Inv X aa σ H s)(h:SqT X.K H a xs)(h':SqT X.K H a ys):xs=ys:=by
 obtain⟨ah,r,⟨o,e,_,n,d⟩,_⟩:=I.tuple h;obtain⟨its',r',⟨o',e',_,n',d'⟩,_⟩:=I.tuple h';rw[e]at e';cases e';rw[d]at d';injection d' with d1 _
 have:ah=its':=by simpa using congrArg Array.toList d1
 subst this;exact r.inj r'
end
abbrev Cx.wish(X:Cx)(E:YQ_):Cx:={ X with xe:=E }
abbrev Cx.nox(X:Cx):Cx:=X.wish λ_ _=>False
theorem Cx.Ok.wish{X:Cx}(ok:X.Ok)(E:YQ_):(X.wish E).Ok :=
 ⟨ok.mod,ok.kind,ok.glob,ok.blt,ok.above,ok.inj,ok.has,ok.cab,ok.hd,ok.frames,ok.stk,ok.exf,ok.bs,ok.bsz,ok.noex,ok.exfs,ok.funs,ok.frf⟩
theorem Cx.Ok.unwish{X:Cx}{E:YQ_}(ok:(X.wish E).Ok):X.Ok :=
 ⟨ok.mod,ok.kind,ok.glob,ok.blt,ok.above,ok.inj,ok.has,ok.cab,ok.hd,ok.frames,ok.stk,ok.exf,ok.bs,ok.bsz,ok.noex,ok.exfs,ok.funs,ok.frf⟩
section
variable{X:Cx}{aa:YP_}{σ:St}{H:Hp}{s:VH}{E:YQ_}
theorem Inv.wish(I:Inv X aa σ H s)(E:YQ_):Inv (X.wish E) aa σ H s:=⟨I.ok.wish E,I.os,I.bare,I.base,I.loc,I.cell,I.free,I.freeC,I.pin,I.hok,I.len⟩
theorem Inv.unwish(I:Inv (X.wish E) aa σ H s):Inv X aa σ H s:=⟨I.ok.unwish,I.os,I.bare,I.base,I.loc,I.cell,I.free,I.freeC,I.pin,I.hok,I.len⟩
theorem SP.unwish{D:JR}{f:Flow}{s':VH}(h:SP (X.wish E) aa D f s'):SP X aa D f s':=by
 cases f with
 | next=>obtain⟨σ',H',I,q⟩:=h;exact⟨σ',H',I.unwish,q⟩
 | brk=>obtain⟨σ',H',I,q⟩:=h;exact⟨σ',H',I.unwish,q⟩
 | cont=>obtain⟨σ',H',I,q⟩:=h;exact⟨σ',H',I.unwish,q⟩
 | ret u=>obtain⟨v,σ',H',I,r,q⟩:=h;exact⟨v,σ',H',I.unwish,r,q⟩
theorem PSs.nox{st:List V0}{t:TS}(h:PSs X.nox st t):PSs X st t:=λaa s σ H D I hw =>
 V1 (h aa s σ H D (I.wish _) hw) (λ_ _ q=>q.unwish) λ_ _ z=>V8 z
end
section
variable{X:Cx}{st:V0}{rest:List V0}{t u:TS}{e:Expr}{te:TE}{pos:Pos}
def Y1c:TS:=λD σ H=>D.nx σ H
def ZOa(t u:TS):TS:=λD σ H=>t { D with nx:=u D } σ H
theorem Qw:PSs X [] Y1c:=λ_ _ σ H _ I h=>V9 ⟨σ,H,I,h⟩
theorem Qb(h1:PS X st t)(h2:PSs X rest u):PSs X (st::rest) (ZOa t u):=by
 intro aa s σ H D I h;refine wpAny_execs_cons (thn (h1 aa s σ H { D with nx:=u D } I h) λf s1 q=>?_)
 cases f with
 | next =>
  obtain⟨σ',H',I',q⟩:=q;exact h2 aa s1 σ' H' D I' q
 | ret v=>exact q
 | brk=>exact q
 | cont=>exact q
theorem Qg(h1:PS X st t):PSs X [st] t:=by
 intro aa s σ H D I h;refine wpAny_execs_cons (thn (h1 aa s σ H D I h) λf s1 q=>?_)
 cases f with
 | next=>exact V9 q
 | ret v=>exact q
 | brk=>exact q
 | cont=>exact q
theorem Inv.quiet{aa:YP_}{σ:St}{H:Hp}{s:VH}(I:Inv X aa σ H s):interactive X.env=false:=by simp[interactive,I.ok.kind]
def Y2c(te:TE):TS:=λD σ H=>te σ H λ_ H1=>D.nx σ H1
theorem Zh(he:PE X e te)(hs:Ua e Vp pos.line X.env=pure false:=by rfl):PS X (.Expr e pos) (Y2c te):=by
 intro aa s σ H D I h;exact wpAny_Expr_any (thn (he aa s σ H _ I h) λv s1 ⟨x,H1,I1,r1,q1⟩=>⟨σ,H1,I1,q1⟩) I.quiet hs
def QFd(te:TE):TS:=λD σ H=>te σ H D.rt
theorem Qo(he:PE X e te):PS X (.Return (Vo e) pos) (QFd te):=by
 intro aa s σ H D I h;exact wpAny_Return_some (thn (he aa s σ H _ I h) λv s1 ⟨x,H1,I1,r1,q1⟩=>⟨x,σ,H1,I1,r1,q1⟩)
def QGd(c:TT)(t u:TS):TS:=λD σ H=>c σ H λb H1=>if b=true then t D σ H1 else u D σ H1
theorem QK{c:Expr}{a b:List V0}{tc:TT}(hc:PT X c tc)(ha:PSs X a t)(hb:PSs X b u):PS X (.If c a b pos) (QGd tc t u):=by
 intro aa s σ H D I h;refine wpAny_If (thn (hc aa s σ H _ I h) λd s1 hZ=>?_)
 obtain⟨H1,I1,q1⟩:=hZ;cases d with
 | true=>exact ha aa s1 σ H1 D I1 q1
 | false=>exact hb aa s1 σ H1 D I1 q1
end
abbrev TG:=V->St->Hp->(St->Hp->Prop)->Prop
abbrev TGs:=List V->St->Hp->(St->Hp->Prop)->Prop
def PG(X:Cx)(a9:Expr)(t:TG):Prop :=
 ∀ (aa:YP_) (s:VH) (σ:St) (H:Hp) (v:V) (u:Va) (Q:St->Hp->Prop),Inv X aa σ H s->QB v u->t v σ H Q ->
  VV (VW X.prog X.w) X.A (assign a9 X.env u) (λ_ s'=>∃ σ' H',Inv X aa σ' H' s'/\Q σ' H') X.xe s
def PGs(X:Cx)(ts:List Expr)(t:TGs):Prop :=
 ∀ (aa:YP_) (s:VH) (σ:St) (H:Hp) (vs:List V) (us:List Va) (Q:St->Hp->Prop),Inv X aa σ H s->QG vs us->t vs σ H Q ->
  VV (VW X.prog X.w) X.A (assignInOrder ((assignEach ts X.env).map (·.2)) us) (λ_ s'=>∃ σ' H',Inv X aa σ' H' s'/\Q σ' H') X.xe s
section
variable{X:Cx}{pos:Pos}
def ZRb(i:Nat):TG:=λv σ H Q=>Q (σ.set i (Vo v)) H
theorem ZF{i:Nat}{x:Str}(hN:X.N.Nodup)(hi:X.N[i]?=Vo x)(hx:Loc X.env.scope x)(hf:X.fn x=true\/X.env.scope.names.lookup x=Vo .local:=by first | exact .inl rfl | exact .inr rfl | assumption):PG X (.Name x pos) (ZRb i):=by
 intro aa s σ H v u Q I r h;exact wpAny_assign_Name (ZPb I hN hi hx r (λs' I'=>⟨_,H,I',h⟩) hf)
def Xzc(te:TE)(g:TG):TS:=λD σ H=>te σ H λx H1=>g x σ H1 D.nx
theorem XAc{i:Nat}{x:Str}{e:Expr}{te:TE}{aI:Pos}(hN:X.N.Nodup)(hi:X.N[i]?=Vo x)(hx:Loc X.env.scope x)(he:PE X e te)(hs:Ua e (Vo (.Name x aI)) pos.line X.env=pure false:=by rfl)(hf:X.fn x=true\/X.env.scope.names.lookup x=Vo .local:=by first | exact .inl rfl | exact .inr rfl | assumption) :
 PS X (.Assign [.Name x aI] e pos) (Xzc te (ZRb i)):=by
 intro aa s σ H D I h;refine wpAny_Assign_Name (thn (he aa s σ H _ I h) λv s1 hZ=>?_) hs
 obtain⟨y,H1,I1,r1,q1⟩:=hZ;exact ZPb I1 hN hi hx r1 (λs2 I2=>⟨_,H1,I2,q1⟩) hf
end
section
variable{X:Cx}{pos:Pos}
def XBc(c:TT)(tb:TS):TS:=λD σ H=>∃ W:Nat->St->Hp->Prop,(∃ m,W m σ H)/\∀ m σ H,W m σ H ->
 c σ H λb H1=>if b=true then ∃ N:St->Hp->Prop,(∀ σ' H',N σ' H'->∃ m',m' < m/\W m' σ' H')/\tb { D with nx:=N,ct:=N,bk:=D.nx } σ H1 else D.nx σ H1
theorem Qxa{c:Expr}{body:List V0}{tc:TT}{tb:TS}(hp:PassesOwn (VW X.prog X.w) X.A X.env X.xe)(hc:PT X c tc)(hb:PSs X body tb):PS X (.While c body [] pos) (XBc tc tb):=by
 intro aa s σ H D I h;obtain⟨W,⟨m0,w0⟩,turn⟩:=h;refine wpAny_While (codeAny_whileLoop (λn s'=>∃ σ' H',Inv X aa σ' H' s'/\W n σ' H') ?_ m0 ⟨σ,H,I,w0⟩)
 rintro n s1 ⟨σ1,H1,I1,w1⟩;refine Ub hp (thn (hc aa s1 σ1 H1 _ I1 (turn n σ1 H1 w1)) λb s2 hZ=>?_)
 obtain⟨H2,I2,q2⟩:=hZ;cases b with
 | true =>
  obtain⟨N,hN,q2⟩:=q2;rw[if_pos rfl];refine Ub hp (thn (hb aa s2 σ1 H2 _ I2 q2) λf s3 q3=>?_)
  cases f with
  | next =>
   obtain⟨σ3,H3,I3,n3⟩:=q3;obtain⟨m',hm,w3⟩:=hN σ3 H3 n3;exact⟨m',hm,σ3,H3,I3,w3⟩
  | cont =>
   obtain⟨σ3,H3,I3,n3⟩:=q3;obtain⟨m',hm,w3⟩:=hN σ3 H3 n3;exact⟨m',hm,σ3,H3,I3,w3⟩
  | brk=>exact q3
  | ret v=>exact q3
 | false =>
  rw[if_neg Uc];exact V9 ⟨σ1,H2,I2,q2⟩
end
structure It where
 go:Nat->Hp->Prop
 yld:Nat->Hp->V->Hp->Prop
 stop:Nat->Hp->Prop
def Y7(X:Cx)(aa:YP_)(H:Hp)(b:Vh):Prop :=
 H b=Vp/\b≠X.env.locals/\b∉X.fs/\(b∈X.ex\/X.s₀.heap.objs.size<=b)/\(∀ x c,X.env.cells.lookup x=Vo c->c≠b)/\∀ p∈X.pn++aa,p.1≠b
theorem Inv.fpOk{X:Cx}{aa:YP_}{σ:St}{H H':Hp}{s:VH}{b:Vh}(I:Inv X aa σ H s)(hb:s.heap.objs.size<=b)(hn:H' b=Vp):Y7 X aa H' b:=by
 refine⟨hn,Ud (Vz I.lt hb),I.nofs hb,.inr (VJ I.sz hb),λx c e z=>?_,λp hp z=>?_⟩
 ·obtain⟨v,q⟩:=I.cell x c e
  exact absurd (Vz q.lt (by rw[z];exact hb)) (VA _)
 ·exact absurd (Vz (Vy (I.pin p hp).1) (by rw[z];exact hb)) (VA _)
structure ZSb(P:Vg)(w:Vb)(K:VD)(tg:Expr)(J:It)(fp:List Vh)(it:Vh)(tn:Nat->Vq->Prop):Prop where
 mem:it∈fp
 obj:∀ i h,tn i h->∀ b∈fp,∃ o,h.get? b=Vo o/\∀ v,o.data≠.cell v
 keep:∀ i h h',tn i h->(∀ b∈fp,∀ o,h.get? b=Vo o->h'.get? b=Vo o)->tn i h'
 item:∀ (X:Cx),X.prog=P->X.w=w->X.K=K->X.calm=true->∀ (i:Nat) (aa:YP_) (s:VH) (σ:St) (H:Hp) (E:YQ_),Inv X aa σ H s->(∀ b∈fp,Y7 X aa H b)->tn i s.heap->J.go i H ->
  VV (VW P w) X.A (pyNext (.ref it)) (λr s1=>∃ u,r=Vo u /\
   VV (VW P w) X.A (Ue tg (.ref it) u) (λ_ s2=>∃ x H',Inv X aa σ H' s2/\QB x u/\J.yld i H x H'/\tn (i+1) s2.heap/\∀ b∈fp,H' b=Vp) E s1) E s
 done:∀ (X:Cx),X.prog=P->X.w=w->X.K=K->X.calm=true->∀ (i:Nat) (aa:YP_) (s:VH) (σ:St) (H:Hp) (E:YQ_),Inv X aa σ H s->(∀ b∈fp,Y7 X aa H b)->tn i s.heap->J.stop i H ->
  VV (VW P w) X.A (pyNext (.ref it)) (λr s1=>r=Vp/\Inv X aa σ H s1) E s
 self:∀ (A:VG) (i:Nat) (s:VH) (Q:YQ_) (E:YQ_),tn i s.heap->Q (.ref it) s->VV (VW P w) A (pyIter (.ref it)) Q E s
abbrev TI:=St->Hp->(It->Hp->Prop)->Prop
def PIE(X:Cx)(aa:YP_)(σ:St)(tg:Expr)(R:It->Hp->Prop)(pH:Va)(s2:VH):Prop :=
 ∃ (it:Vh) (fp:List Vh) (tn:Nat->Vq->Prop) (J:It) (H':Hp),pH=.ref it/\Inv X aa σ H' s2/\ZSb X.prog X.w X.K tg J fp it tn/\tn 0 s2.heap/\(∀ b∈fp,Y7 X aa H' b)/\R J H'
def PI(X:Cx)(tg Uf:Expr)(wi:TI):Prop :=
 ∀ (aa:YP_) (s:VH) (σ:St) (H:Hp) (R:It->Hp->Prop),Inv X aa σ H s->wi σ H R ->
  VV (VW X.prog X.w) X.A (VX Uf X.env) (λv s1=>VV (VW X.prog X.w) X.A (pyIter v) (PIE X aa σ tg R) X.xe s1) X.xe s
theorem YNa{M:VT}{A:VG}{E:YQ_}{s:VH}{tg:Expr}{it:Vh}{u:Va}{o:Obj}{n:String}{vs:Array Va}{Q:Unit->VH->Prop}(ho:s.heap.get? it=Vo o)(hc:o.cls=.type n)(hd:o.data=.fields vs)
 (hn:["enumerate","zip","dict_itemiterator","dict_reverseitemiterator","odict_iterator","itertools.zip_longest","itertools.pairwise"].contains n=false) (hQ:Q () s):VV M A (Ue tg (.ref it) u) Q E s:=by
 unfold Ue;cases tg <;> first
  | exact Ug hQ
  | (cases u <;> first
   | exact Ug hQ
   | (refine Uh (wpAny_load ho ?_)
      rw[hc,hd];show VV M A (if (["enumerate","zip","dict_itemiterator","dict_reverseitemiterator","odict_iterator","itertools.zip_longest","itertools.pairwise"].contains n && vs[0]? == Vo (Ui _))=true then _ else _) Q E s
      rw[if_neg (by intro h;rw[hn,Bool.false_and]at h;cases h)]
      exact Ug hQ))
def Itl(K:VD)(a:Vh):It :=
 ⟨λi H=>∃ xs x,SqL K H a xs/\xs[i]?=Vo x,λi H x H'=>H'=H/\∀ xs,SqL K H a xs->xs[i]?=Vo x,λi H=>∃ xs,SqL K H a xs/\xs.length<=i⟩
def Itt(K:VD)(a:Vh):It :=
 ⟨λi H=>∃ xs x,SqT K H a xs/\xs[i]?=Vo x,λi H x H'=>H'=H/\∀ xs,SqT K H a xs->xs[i]?=Vo x,λi H=>∃ xs,SqT K H a xs/\xs.length<=i⟩
def Itr(lo:Int)(n:Nat):It:=⟨λi _=>i < n,λi H x H'=>H'=H/\x=.int (lo+i),λi _=>n<=i⟩
theorem Qkb{P:Vg}{w:Vb}{K:VD}{tg:Expr}(a it:Vh):ZSb P w K tg (Itl K a) [it] it (λi h=>h.IsListIter it a i) where
 mem:=by simp
 obj:=λi h st b hb=>by
  have e:b=it:=by simpa using hb
  subst e;obtain⟨o,e,c,d⟩:=st;exact⟨o,e,λv z=>by rw[d]at z;cases z⟩
 keep:=λi h h' st k=>st.at λo e=>k it #[2] o e
 item:=by
  intro X hP hw hK hc i aa s σ H E I hf st hg;subst hP hw hK;obtain⟨xs,x,hq,hx⟩:=hg;obtain⟨ah,rv,p,hz⟩:=I.list hq;obtain⟨u,hu,ru⟩:=rv.get hx;obtain⟨f0,f1,f2,f3,f4,f5⟩:=hf it #[2]
  refine wpAny_pyNext_list_item st p.isList (x:=u) (by simpa using hu) λh' ag sb=>?_
  have I1:Inv X aa σ H { s with heap:=h' }:=I.turned (t':=s.toks) (λb o hb e=>(sb.2 b hb).trans e) f0 f1 f3 f4 f5
  obtain⟨o,e,c,d⟩:=id ag;exact⟨u,rfl,YNa (s:={ s with heap:=h' }) e c d #[1] ⟨x,H,I1,ru,⟨rfl,λys hy=>by rw[I.list_inj hy hq];exact hx⟩,ag,λb hb=>(hf b hb).1⟩⟩
 done:=by
  intro X hP hw hK hc i aa s σ H E I hf st hg;subst hP hw hK;obtain⟨xs,hq,hx⟩:=hg;obtain⟨ah,rv,p,hz⟩:=I.list hq;obtain⟨f0,f1,f2,f3,f4,f5⟩:=hf it #[2]
  have hl:=rv.length;exact wpAny_pyNext_list_end (I.ok.hd hc) st p.isList (by simp;lia) λh' eb=>⟨rfl,I.turned (t':=s.toks) (λb o hb e=>eb b o hb e) f0 f1 f3 f4 f5⟩
 self:=λ_ _ _ _ _ st h=>wpAny_pyIter_listiter st h
theorem YOa{P:Vg}{w:Vb}{K:VD}{tg:Expr}(a it:Vh):ZSb P w K tg (Itt K a) [it] it (λi h=>h.IsTupleIter it a i) where
 mem:=by simp
 obj:=λi h st b hb=>by
  have e:b=it:=by simpa using hb
  subst e;obtain⟨o,e,c,d⟩:=st;exact⟨o,e,λv z=>by rw[d]at z;cases z⟩
 keep:=λi h h' st k=>st.at λo e=>k it #[2] o e
 item:=by
  intro X hP hw hK hc i aa s σ H E I hf st hg;subst hP hw hK;obtain⟨xs,x,hq,hx⟩:=hg;obtain⟨ah,rv,p,hz⟩:=I.tuple hq;obtain⟨u,hu,ru⟩:=rv.get hx;obtain⟨f0,f1,f2,f3,f4,f5⟩:=hf it #[2]
  refine wpAny_pyNext_tuple_item st (show s.heap.IsTuple a ah.toArray from p) (x:=u) (by simpa using hu) λh' ag sb=>?_
  have I1:Inv X aa σ H { s with heap:=h' }:=I.turned (t':=s.toks) (λb o hb e=>(sb.2 b hb).trans e) f0 f1 f3 f4 f5
  obtain⟨o,e,c,d⟩:=id ag;exact⟨u,rfl,YNa (s:={ s with heap:=h' }) e c d #[1] ⟨x,H,I1,ru,⟨rfl,λys hy=>by rw[I.tuple_inj hy hq];exact hx⟩,ag,λb hb=>(hf b hb).1⟩⟩
 done:=by
  intro X hP hw hK hc i aa s σ H E I hf st hg;subst hP hw hK;obtain⟨xs,hq,hx⟩:=hg;obtain⟨ah,rv,p,hz⟩:=I.tuple hq;obtain⟨f0,f1,f2,f3,f4,f5⟩:=hf it #[2]
  have hl:=rv.length;exact wpAny_pyNext_tuple_end (I.ok.hd hc) st (show s.heap.IsTuple a ah.toArray from p) (by simp;lia) λh' eb=>⟨rfl,I.turned (t':=s.toks) (λb o hb e=>eb b o hb e) f0 f1 f3 f4 f5⟩
 self:=λ_ _ _ _ _ st h=>wpAny_pyIter_tupleiter st h
theorem J9b{P:Vg}{w:Vb}{K:VD}{tg:Expr}(it:Vh)(lo:Int)(n:Nat):ZSb P w K tg (Itr lo n) [it] it (λi h=>Uj h it (lo+(i:Nat) * 1) ((n:Int) - (i:Nat)) 1) where
 mem:=by simp
 obj:=λi h st b hb=>by
  have e:b=it:=by simpa using hb
  subst e;exact⟨_,st,λv z=>by
   have z':Data.fields _=Data.cell v:=z;cases z'⟩
 keep:=λi h h' st k=>k it #[2] _ st
 item:=by
  intro X hP hw hK hc i aa s σ H E I hf st hg;subst hP hw hK;obtain⟨f0,f1,f2,f3,f4,f5⟩:=hf it #[2]
  have W:=Walks.range (prog:=X.prog) (w:=X.w) (I.ok.hd hc) it lo 1 n;refine W.item i s _ _ hg st λv h' tk hv ag kk=>?_
  obtain⟨t,rfl⟩:=hv;have I1:Inv X aa σ H { s with heap:=h',toks:=tk }:=I.turned (λb o hb e=>kk b o (by simpa using hb) e) f0 f1 f3 f4 f5
  refine⟨_,rfl,YNa (s:={ s with heap:=h',toks:=tk }) (n:="range_iterator") ag rfl rfl #[1] ⟨.int (lo+i),H,I1,⟨t,?_⟩,⟨rfl,rfl⟩,ag,λb hb=>(hf b hb).1⟩⟩
  rw[Int.mul_one]
 done:=by
  intro X hP hw hK hc i aa s σ H E I hf st hg;subst hP hw hK;obtain⟨f0,f1,f2,f3,f4,f5⟩:=hf it #[2]
  exact wpAny_pyNext_range_end (I.ok.hd hc) st (by have:n<=i:=hg;lia) λh' eb=>⟨rfl,I.turned (t':=s.toks) (λb o hb e=>eb b o hb e) f0 f1 f3 f4 f5⟩
 self:=λ_ _ _ _ _ st h=>wpAny_pyIter_rangeiter st h
section
variable{X:Cx}{tg:Expr}
def QWc(K:VD)(tl:TE):TI:=λσ H R=>tl σ H λx H1=>∃ a,x=.ref a/\(∃ xs,SqL K H1 a xs)/\R (Itl K a) H1
def XCc(K:VD)(tl:TE):TI:=λσ H R=>tl σ H λx H1=>∃ a,x=.ref a/\(∃ xs,SqT K H1 a xs)/\R (Itt K a) H1
theorem ZZ{l:Expr}{tl:TE}(hl:PE X l tl):PI X tg l (QWc X.K tl):=by
 intro aa s σ H R I h;refine thn (hl aa s σ H _ I h) λv s1 hZ=>?_
 obtain⟨x,H1,I1,r1,q1⟩:=hZ;obtain⟨a,e,⟨xs,hq⟩,q⟩:=q1;subst e;cases r1;obtain⟨ah,rv,p,hz⟩:=I1.list hq;refine wpAny_pyIter_list p.isList ?_
 refine⟨s1.heap.objs.size,[s1.heap.objs.size],_,_,H1,rfl,I1.kept (t':=s1.toks) λb o e=>Uk _ e,Qkb a _,⟨_,Ul _ rfl,rfl,rfl⟩,λb hb=>?_,q⟩
 have e:b=s1.heap.objs.size:=by simpa using hb
 subst e;exact I1.fpOk (Um _) (I1.hok.fresh (Um _))
theorem QXc{l:Expr}{tl:TE}(hl:PE X l tl):PI X tg l (XCc X.K tl):=by
 intro aa s σ H R I h;refine thn (hl aa s σ H _ I h) λv s1 hZ=>?_
 obtain⟨x,H1,I1,r1,q1⟩:=hZ;obtain⟨a,e,⟨xs,hq⟩,q⟩:=q1;subst e;cases r1;obtain⟨ah,rv,p,hz⟩:=I1.tuple hq;refine wpAny_pyIter_tuple (show s1.heap.IsTuple a ah.toArray from p) ?_
 refine⟨s1.heap.objs.size,[s1.heap.objs.size],_,_,H1,rfl,I1.kept (t':=s1.toks) λb o e=>Uk _ e,YOa a _,⟨_,Ul _ rfl,rfl,rfl⟩,λb hb=>?_,q⟩
 have e:b=s1.heap.objs.size:=by simpa using hb
 subst e;exact I1.fpOk (Um _) (I1.hok.fresh (Um _))
theorem ZTb{aa:YP_}{σ:St}{H:Hp}{s:VH}{R:It->Hp->Prop}{E:YQ_}{lo hi:Int}{t u v:Tok}{tk:Nat}(I:Inv X aa σ H s)(h1 : -(2 ^ 62)<=lo)(h2:lo < 2 ^ 62)(h3 : -(2 ^ 62)<=hi)(h4:hi < 2 ^ 62)
 (q:R (Itr lo (hi - lo).toNat) H):VV (VW X.prog X.w) X.A (pyIter (.ref s.heap.objs.size)) (PIE X aa σ tg R) E { s with heap:=s.heap.push { cls:=.type "range",data:=.fields #[.int lo t,.int hi u,.int 1 v] },toks:=tk }:=by
 refine wpAny_pyIter_range (IsRange.new ..) (small_one h1 h2 h3 h4) ?_
 have I1:Inv X aa σ H { s with heap:=s.heap.push { cls:=.type "range",data:=.fields #[.int lo t,.int hi u,.int 1 v] },toks:=tk }:=I.kept λb o e=>Uk _ e
 refine⟨(s.heap.push { cls:=.type "range",data:=.fields #[.int lo t,.int hi u,.int 1 v] }).objs.size,[(s.heap.push { cls:=.type "range",data:=.fields #[.int lo t,.int hi u,.int 1 v] }).objs.size],_,_,H,rfl,
  I1.kept (t':=tk) λb o e=>Uk _ e,J9b _ lo (hi - lo).toNat,?_,λb hb=>?_,q⟩
 ·have e1:lo+((0:Nat):Int) * 1=lo:=by simp
  have e2:(((hi - lo).toNat:Nat):Int) - ((0:Nat):Int)=Uo lo hi 1:=by rw[rangeSize_one];split <;> lia
  show Uj _ _ (lo+((0:Nat):Int) * 1) ((((hi - lo).toNat:Nat):Int) - ((0:Nat):Int)) 1;rw[e1,e2];exact Ul _ rfl
 ·have e:b=(s.heap.push { cls:=.type "range",data:=.fields #[.int lo t,.int hi u,.int 1 v] }).objs.size:=by simpa using hb
  subst e;exact I1.fpOk (Um _) (I1.hok.fresh (Um _))
def QYc(ta:TA):TI:=λσ H R=>ta σ H λvs H1=>∃ j:Int,vs=[.int j] /\ -(2 ^ 62)<=j/\j < 2 ^ 62/\R (Itr 0 j.toNat) H1
def QZc(ta:TA):TI:=λσ H R=>ta σ H λvs H1=>∃ i j:Int,vs=[.int i,.int j]/\(-(2 ^ 62)<=i/\i < 2 ^ 62 /\ -(2 ^ 62)<=j/\j < 2 ^ 62)/\R (Itr i (j - i).toNat) H1
theorem Qlb{a:Expr}{ta:TA}{p pos:Pos}(hg:Gl X "range")(hm:X.mg "range"=Vp)(ha:PA X [a] ta)(hs:VZ [a] X.env=[(false,VX a X.env)]:=by rfl):PI X tg (.Call (.Name "range" p) [a] [] pos) (QYc ta):=by
 intro aa s σ H R I h;refine Call_ (XA I hg hm boot_range (Uq (thn (ha pos aa s σ H _ I h) λus s1 hZ=>?_) hs rfl))
 obtain⟨vs,H1,I1,r1,q1⟩:=hZ;obtain⟨j,e,q1,q2,q⟩:=q1;subst e;cases r1 with
 | cons r rr =>
  cases rr;obtain⟨t,rfl⟩:=r;exact call_range_1 (ZTb I1 #[0] #[0] q1 q2 (by simpa using q))
theorem XYb{a b:Expr}{ta:TA}{p pos:Pos}(hg:Gl X "range")(hm:X.mg "range"=Vp)(ha:PA X [a,b] ta)(hs:VZ [a,b] X.env=[(false,VX a X.env),(false,VX b X.env)]:=by rfl)(cf:VZ [b] X.env=[(false,VX b X.env)]:=by rfl) :
 PI X tg (.Call (.Name "range" p) [a,b] [] pos) (QZc ta):=by
 intro aa s σ H R I h;refine Call_ (XA I hg hm boot_range (Uq (thn (ha pos aa s σ H _ I h) λus s1 ⟨vs,H1,I1,r1,q1⟩=>?_) (by rw[hs,cf]) (by rw[cf];rfl)))
 obtain⟨i,j,e,⟨q1,q2,q3,q4⟩,q⟩:=q1;subst e;cases r1 with
 | cons r rr =>
  cases rr with
  | cons r' rr =>
   cases rr;obtain⟨t,rfl⟩:=r;obtain⟨t',rfl⟩:=r';exact call_range_2 (ZTb I1 q1 q2 q3 q4 q)
def QSb(wi:TI)(g:TG)(tb:TS):TS:=λD σ H=>wi σ H λJ H1=>∃ W:Nat->Nat->St->Hp->Prop,(∃ m,W 0 m σ H1)/\∀ i m σ H,W i m σ H ->
 (J.stop i H/\D.nx σ H)\/(J.go i H/\∃ N:St->Hp->Prop,(∀ σ' H',N σ' H'->∃ m',m' < m/\W (i+1) m' σ' H')/\∀ x H',J.yld i H x H'->g x σ H' λσ2 H2=>tb { D with nx:=N,ct:=N,bk:=D.nx } σ2 H2)
def YPa(fp:List Vh)(h:Vq):YP_:=fp.filterMap λb=>(h.get? b).map λo=>(b,o)
theorem XB{fp:List Vh}{h:Vq}{b:Vh}{o:Obj}(hb:b∈fp)(e:h.get? b=Vo o):(b,o)∈YPa fp h:=mem_filterMap.mpr ⟨b,hb,by rw[e];rfl⟩
theorem XZb{fp:List Vh}{h:Vq}{p:Vh×Obj}(hp:p∈YPa fp h):p.1∈fp/\h.get? p.1=Vo p.2:=by
 obtain⟨b,hb,e⟩:=mem_filterMap.mp hp;cases q:h.get? b with
 | none=>rw[q]at e;cases e
 | some o =>
  rw[q]at e;have e':(b,o)=p:=Vr e;subst e';exact⟨hb,q⟩
theorem Inv.pinned{aa:YP_}{σ:St}{H:Hp}{s:VH}{fp:List Vh}(I:Inv X aa σ H s)(hf:∀ b∈fp,Y7 X aa H b)(ho:∀ b∈fp,∃ o,s.heap.get? b=Vo o/\∀ v,o.data≠.cell v):Inv X (aa++YPa fp s.heap) σ H s :=
 I.pins_of λp hp=>(mem_append.mp hp).elim (λz=>I.pin p (Ur _ z)) λz=>by
  obtain⟨hb,e⟩:=XZb z;obtain⟨f0,f1,f2,_⟩:=hf p.1 hb;obtain⟨o,e',d⟩:=ho p.1 hb;rw[e]at e';cases e';exact⟨e,f0,f1,f2,d⟩
theorem Inv.unpinned{aa pl:YP_}{σ:St}{H:Hp}{s:VH}(I:Inv X (aa++pl) σ H s):Inv X aa σ H s:=I.pins_of λp hp=>I.pin p (Ur _ (VS _ hp))
theorem Jm{Uf:Expr}{body:List V0}{wi:TI}{g:TG}{tb:TS}{pos:Pos}(hp:PassesOwn (VW X.prog X.w) X.A X.env X.xe)(hc:X.calm=true)(hi:PI X tg Uf wi)(hg:PG X tg g)(hb:PSs X body tb)
 (hs:∀ x,foldedSetIterable Uf X.env x=pure x:=by intro _;rfl):PS X (.For tg Uf body [] pos) (QSb wi g tb):=by
 intro aa s σ H D I h;refine wpAny_For (thn (hi aa s σ H _ I h) λv s1 h1=>thn h1 λpH s2 h2=>?_) hs
 obtain⟨it,fp,tn,J,H2,e,I2,T,bR,f2,W,⟨m0,w0⟩,turn⟩:=h2;subst e;have gZ:∀ {H':Hp},(∀ b∈fp,H' b=Vp)->∀ b∈fp,Y7 X aa H' b:=λhn b hb=>⟨hn b hb,(f2 b hb).2⟩
 refine codeAny_forLoop_any (λn s'=>∃ i σ' H',Inv X aa σ' H' s'/\tn i s'.heap/\(∀ b∈fp,H' b=Vp)/\W i n σ' H') ?_ m0 ⟨0,σ,H2,I2,bR,λb hb=>(f2 b hb).1,w0⟩
 rintro n s3 ⟨i,σ3,H3,I3,aZ,uI,w3⟩
 rcases turn i n σ3 H3 w3 with ⟨stop,qn⟩ | ⟨go,N,hN,step⟩
 ·refine Ub hp (thn (T.done X rfl rfl rfl hc i aa s3 σ3 H3 X.xe I3 (gZ uI) aZ stop) λr s4 hZ=>?_)
  obtain⟨hr,I4⟩:=hZ;subst hr;exact V9 ⟨σ3,H3,I4,qn⟩
 ·refine Ub hp (thn (T.item X rfl rfl rfl hc i aa s3 σ3 H3 X.xe I3 (gZ uI) aZ go) λr s4 hZ=>?_)
  obtain⟨u,hr,h4⟩:=hZ;subst hr;refine Ub hp (thn h4 λ_ s5 hZ=>?_)
  obtain⟨x,H5,I5,r5,y5,cK,pI⟩:=hZ;have pJ:=I5.pinned (gZ pI) (T.obj _ _ cK);refine Ub hp (thn (hg _ s5 σ3 H5 x u _ pJ r5 (step x H5 y5)) λ_ s6 hZ=>?_)
  obtain⟨σ6,H6,I6,q6⟩:=hZ;refine Ub hp (thn (hb _ s6 σ6 H6 _ I6 q6) λf s7 q7=>?_)
  have again:∀ {σ7:St} {H7:Hp},Inv X (aa++YPa fp s5.heap) σ7 H7 s7->N σ7 H7->∃ m,m < n/\∃ i σ' H',Inv X aa σ' H' s7/\tn i s7.heap/\(∀ b∈fp,H' b=Vp)/\W i m σ' H':=λ{σ7 H7} I7 n7=>by
   obtain⟨m',hm,w7⟩:=hN σ7 H7 n7;refine⟨m',hm,i+1,σ7,H7,I7.unpinned,T.keep _ _ _ cK λb hb o e=>(I7.pin (b,o) (Ur _ (Ur _ (XB hb e)))).1,λb hb=>?_,w7⟩
   obtain⟨o,e,d⟩:=T.obj _ _ cK b hb;exact(I7.pin (b,o) (Ur _ (Ur _ (XB hb e)))).2.1
  cases f with
  | next=>obtain⟨σ7,H7,I7,n7⟩:=q7;exact again I7 n7
  | cont=>obtain⟨σ7,H7,I7,n7⟩:=q7;exact again I7 n7
  | brk=>obtain⟨σ7,H7,I7,q7⟩:=q7;exact⟨σ7,H7,I7.unpinned,q7⟩
  | ret v=>obtain⟨x7,σ7,H7,I7,r7,q7⟩:=q7;exact⟨x7,σ7,H7,I7.unpinned,r7,q7⟩
end
theorem Q0c{K:VD}{a:Vh}{xs:List V}{g:TG}{tb:TS}{D:JR}{σ:St}{H:Hp}(Pv:Nat->St->Hp->Prop)(h0:Pv 0 σ H)(hl:∀ i σ H,i<=xs.length->Pv i σ H->SqL K H a xs)
 (hs:∀ i x σ H,xs[i]?=Vo x->Pv i σ H->g x σ H λσ2 H2=>tb { D with nx:=Pv (i+1),ct:=Pv (i+1),bk:=D.nx } σ2 H2) (hd:∀ σ H,Pv xs.length σ H->D.nx σ H) :
 ∃ W:Nat->Nat->St->Hp->Prop,(∃ m,W 0 m σ H)/\∀ i m σ H,W i m σ H ->
  ((Itl K a).stop i H/\D.nx σ H)\/((Itl K a).go i H/\∃ N:St->Hp->Prop,(∀ σ' H',N σ' H'->∃ m',m' < m/\W (i+1) m' σ' H')/\∀ x H',(Itl K a).yld i H x H'->g x σ H' λσ2 H2=>tb { D with nx:=N,ct:=N,bk:=D.nx } σ2 H2):=by
 refine⟨λi m σ H=>m=xs.length - i/\i<=xs.length/\Pv i σ H,⟨xs.length,by simp,Us _,h0⟩,?_⟩
 rintro i m σ H ⟨rfl,hi,p⟩;have q:=hl i σ H hi p
 by_cases aG:i < xs.length
 ·refine .inr ⟨⟨xs,xs[i],q,by simp[aG]⟩,Pv (i+1),λσ' H' p'=>⟨xs.length - (i+1),by lia,rfl,aG,p'⟩,λx H' y=>?_⟩
  obtain⟨e,y⟩:=y;subst e;exact hs i x σ _ (y xs q) p
 ·have e:i=xs.length:=by lia
  subst e;exact .inl ⟨⟨xs,q,Um _⟩,hd σ H p⟩
theorem JYc{K:VD}{a:Vh}{xs:List V}{g:TG}{tb:TS}{D:JR}{σ:St}{H:Hp}(Pv:Nat->St->Hp->Prop)(h0:Pv 0 σ H)(hl:∀ i σ H,i<=xs.length->Pv i σ H->SqT K H a xs)
 (hs:∀ i x σ H,xs[i]?=Vo x->Pv i σ H->g x σ H λσ2 H2=>tb { D with nx:=Pv (i+1),ct:=Pv (i+1),bk:=D.nx } σ2 H2) (hd:∀ σ H,Pv xs.length σ H->D.nx σ H) :
 ∃ W:Nat->Nat->St->Hp->Prop,(∃ m,W 0 m σ H)/\∀ i m σ H,W i m σ H ->
  ((Itt K a).stop i H/\D.nx σ H)\/((Itt K a).go i H/\∃ N:St->Hp->Prop,(∀ σ' H',N σ' H'->∃ m',m' < m/\W (i+1) m' σ' H')/\∀ x H',(Itt K a).yld i H x H'->g x σ H' λσ2 H2=>tb { D with nx:=N,ct:=N,bk:=D.nx } σ2 H2):=by
 refine⟨λi m σ H=>m=xs.length - i/\i<=xs.length/\Pv i σ H,⟨xs.length,by simp,Us _,h0⟩,?_⟩
 rintro i m σ H ⟨rfl,hi,p⟩;have q:=hl i σ H hi p
 by_cases aG:i < xs.length
 ·refine .inr ⟨⟨xs,xs[i],q,by simp[aG]⟩,Pv (i+1),λσ' H' p'=>⟨xs.length - (i+1),by lia,rfl,aG,p'⟩,λx H' y=>?_⟩
  obtain⟨e,y⟩:=y;subst e;exact hs i x σ _ (y xs q) p
 ·have e:i=xs.length:=by lia
  subst e;exact .inl ⟨⟨xs,q,Um _⟩,hd σ H p⟩
theorem X0b{lo:Int}{n:Nat}{g:TG}{tb:TS}{D:JR}{σ:St}{H:Hp}(Pv:Nat->St->Hp->Prop)(h0:Pv 0 σ H)
 (hs:∀ i σ H,i < n->Pv i σ H->g (.int (lo+i)) σ H λσ2 H2=>tb { D with nx:=Pv (i+1),ct:=Pv (i+1),bk:=D.nx } σ2 H2) (hd:∀ σ H,Pv n σ H->D.nx σ H) :
 ∃ W:Nat->Nat->St->Hp->Prop,(∃ m,W 0 m σ H)/\∀ i m σ H,W i m σ H ->
  ((Itr lo n).stop i H/\D.nx σ H)\/((Itr lo n).go i H/\∃ N:St->Hp->Prop,(∀ σ' H',N σ' H'->∃ m',m' < m/\W (i+1) m' σ' H')/\∀ x H',(Itr lo n).yld i H x H'->g x σ H' λσ2 H2=>tb { D with nx:=N,ct:=N,bk:=D.nx } σ2 H2):=by
 refine⟨λi m σ H=>m=n - i/\i<=n/\Pv i σ H,⟨n,by simp,Us _,h0⟩,?_⟩
 rintro i m σ H ⟨rfl,hi,p⟩
 by_cases aG:i < n
 ·refine .inr ⟨aG,Pv (i+1),λσ' H' p'=>⟨n - (i+1),by lia,rfl,aG,p'⟩,λx H' y=>?_⟩
  obtain⟨e,y⟩:=y;subst e y;exact hs i σ _ aG p
 ·have e:i=n:=by lia
  subst e;exact .inl ⟨Um _,hd σ H p⟩
abbrev R2:=V->V->Hp->VK->Prop
def OpR(X:Cx)(f:Va->Va->Sem Va)(r:R2):Prop :=
 ∀ (aa:YP_) (s:VH) (σ:St) (H:Hp) (x y:V) (v u:Va) (Q:VK),Inv X aa σ H s->QB x v->QB y u->r x y H Q ->
  VV (VW X.prog X.w) X.A (f v u) (EP X aa σ Q) X.xe s
def UnR(X:Cx)(f:Va->Sem Va)(r:V->Hp->VK->Prop):Prop :=
 ∀ (aa:YP_) (s:VH) (σ:St) (H:Hp) (x:V) (v:Va) (Q:VK),Inv X aa σ H s->QB x v->r x H Q ->
  VV (VW X.prog X.w) X.A (f v) (EP X aa σ Q) X.xe s
def Qoa(X:Cx)(f:Va)(r:List V->Hp->VK->Prop):Prop :=
 ∀ (aa:YP_) (s:VH) (σ:St) (H:Hp) (xs:List V) (us:List Va) (Q:VK),Inv X aa σ H s->QG xs us->r xs H Q ->
  VV (VW X.prog X.w) X.A (Ut f us) (EP X aa σ Q) X.xe s
def Zgd(X:Cx)(r:V->Hp->(Bool->Hp->Prop)->Prop):Prop :=
 ∀ (aa:YP_) (s:VH) (σ:St) (H:Hp) (x:V) (v:Va) (Q:Bool->Hp->Prop),Inv X aa σ H s->QB x v->r x H Q ->
  VV (VW X.prog X.w) X.A (truthy v) (TP X aa σ Q) X.xe s
def tOp(r:R2)(ta tb:TE):TE:=λσ H Q=>ta σ H λx H1=>tb σ H1 λy H2=>r x y H2 Q
def tUn(r:V->Hp->VK->Prop)(ta:TE):TE:=λσ H Q=>ta σ H λx H1=>r x H1 Q
def rI(C:Int->Int->Prop)(g:Int->Int->V):R2:=λx y H Q=>∃ i j,x=.int i/\y=.int j/\C i j/\Q (g i j) H
def rI0(g:Int->Int->V):R2:=λx y H Q=>∃ i j,x=.int i/\y=.int j/\Q (g i j) H
def rU(g:Int->V):V->Hp->VK->Prop:=λx H Q=>∃ i,x=.int i/\Q (g i) H
section
variable{X:Cx}{a b c:Expr}{ta tb tc:TE}{pos:Pos}
theorem XDc(ha:PE X a ta)(hb:PE X b tb){aa:YP_}{s:VH}{σ:St}{H:Hp}{R:V->V->Hp->Prop}(I:Inv X aa σ H s)
 (h:ta σ H λx H1=>tb σ H1 λy H2=>R x y H2) {Q:YQ_} {f:Va->Va->Sem Va}
 (hf:∀ v u s2 x y H2,Inv X aa σ H2 s2->QB x v->QB y u->R x y H2->VV (VW X.prog X.w) X.A (f v u) Q X.xe s2) :
 VV (VW X.prog X.w) X.A (VX a X.env) (λv s₁=>VV (VW X.prog X.w) X.A (VX b X.env) (λu s₂=>VV (VW X.prog X.w) X.A (f v u) Q X.xe s₂) X.xe s₁) X.xe s:=by
 refine thn (ha aa s σ H _ I h) λv s1 hZ=>?_
 obtain⟨x,H1,I1,r1,q1⟩:=hZ;refine thn (hb aa s1 σ H1 _ I1 q1) λu s2 hZ=>?_
 obtain⟨y,H2,I2,r2,q2⟩:=hZ;exact hf v u s2 x y H2 I2 r1 r2 q2
theorem Ql{op:Operator}{r:R2}(ho:OpR X (Uu op) r)(ha:PE X a ta)(hb:PE X b tb):PE X (.BinOp a op b pos) (tOp r ta tb):=by
 intro aa s σ H Q I h;exact wpAny_BinOp (XDc ha hb I h λv u s2 x y H2 I2 rx ry q=>ho aa s2 σ H2 x y v u Q I2 rx ry q)
theorem YQa{op:UnaryOp}{r:V->Hp->VK->Prop}(ho:UnR X (unaryOp op) r)(ha:PE X a ta):PE X (.UnaryOp op a pos) (tUn r ta):=by
 intro aa s σ H Q I h;exact UnaryOp_ (thn (ha aa s σ H _ I h) λv s1 ⟨x,H1,I1,r1,q1⟩=>ho aa s1 σ H1 x v Q I1 r1 q1)
theorem opI{f:Va->Va->Sem Va}{C:Int->Int->Prop}{g:Int->Int->Int}
 (rule:∀ (i j:Int) (t u:Tok) (s:VH) (Q:YQ_) (E:YQ_),C i j->Q (.int (g i j) s.toks) { s with toks:=s.toks+1 }->VV (VW X.prog X.w) X.A (f (.int i t) (.int j u)) Q E s) :
 OpR X f (rI C λi j=>.int (g i j)):=by
 intro aa s σ H x y v u Q I rx ry h;obtain⟨i,j,rfl,rfl,hc,q⟩:=h;obtain⟨t,rfl⟩:=rx;obtain⟨t',rfl⟩:=ry;exact rule i j t t' s _ _ hc ⟨.int (g i j),H,I.tok _,⟨_,rfl⟩,q⟩
theorem XEc{f:Va->Va->Sem Va}{g:Int->Int->Int}
 (rule:∀ (i j:Int) (t u:Tok) (s:VH) (Q:YQ_) (E:YQ_),Q (.int (g i j) s.toks) { s with toks:=s.toks+1 }->VV (VW X.prog X.w) X.A (f (.int i t) (.int j u)) Q E s) :
 OpR X f (rI0 λi j=>.int (g i j)):=by
 intro aa s σ H x y v u Q I rx ry h;obtain⟨i,j,rfl,rfl,q⟩:=h;obtain⟨t,rfl⟩:=rx;obtain⟨t',rfl⟩:=ry;exact rule i j t t' s _ _ ⟨.int (g i j),H,I.tok _,⟨_,rfl⟩,q⟩
theorem XFc{f:Va->Va->Sem Va}{g:Int->Int->Bool}
 (rule:∀ (i j:Int) (t u:Tok) (s:VH) (Q:YQ_) (E:YQ_),Q (.bool (g i j)) s->VV (VW X.prog X.w) X.A (f (.int i t) (.int j u)) Q E s) :
 OpR X f (rI0 λi j=>.bl (g i j)):=by
 intro aa s σ H x y v u Q I rx ry h;obtain⟨i,j,rfl,rfl,q⟩:=h;obtain⟨t,rfl⟩:=rx;obtain⟨t',rfl⟩:=ry;exact rule i j t t' s _ _ ⟨.bl (g i j),H,I,rfl,q⟩
def Zua(i j:Int):Prop:=0 < j/\j < 1073741824
def XGc(i j:Int):Prop:=0<=j/\j<=1000000/\i.natAbs < 2 ^ 64
def Yab(i j:Int):Prop:=(-(2 ^ 64) < i/\i < 2 ^ 64)\/(-(2 ^ 64) < j/\j < 2 ^ 64)
theorem Yab.ok{i j:Int}(h:Yab i j):IntMulOk i j:=by
 rcases h with ⟨h1,h2⟩ | ⟨h1,h2⟩
 ·exact .of_left (intBits_le_64 h1 h2)
 ·exact .of_right (intBits_le_64 h1 h2)
theorem Ybb(k:Nat):(0:Int)<=2 ^ k:=by
 rw[two_pow_cast];exact Int.natCast_nonneg _
theorem Zk:OpR X (Uu .Add) (rI0 λi j=>.int (i+j)):=XEc λ_ _ _ _ _ _ _ q=>add_int q
theorem Jx:OpR X (Uu .Sub) (rI0 λi j=>.int (i - j)):=XEc λ_ _ _ _ _ _ _ q=>sub_int q
theorem QL:OpR X (Uu .FloorDiv) (rI Zua λi j=>.int (i / j)):=opI λi j _ _ _ _ _ hc q=>by
 have h1:(0:Int) < j:=hc.1;have h2:j < 1073741824:=hc.2;exact floordiv_int #[0] (by rw[Int.fdiv_eq_ediv_of_nonneg i #[0]];exact q) (.inl (PyProof.noPylong_small #[0]))
theorem QO:OpR X (Uu .Mod) (rI (λ_ j=>0 < j) λi j=>.int (i % j)):=opI λi j _ _ _ _ _ hc q=>by
 have h1:(0:Int) < j:=hc;exact mod_int' #[0] (by rw[Int.fmod_eq_emod_of_nonneg i #[0]];exact q)
theorem YRa:OpR X (Uu .Pow) (rI XGc λi j=>.int (i ^ j.toNat)):=opI λ_ _ _ _ _ _ _ hc q=>pow_int_small hc.1 hc.2.1 hc.2.2 q
theorem XHc:OpR X (Uu .LShift) (rI XGc λi j=>.int (i * 2 ^ j.toNat)):=opI λ_ _ _ _ _ _ _ hc q=>lshift_int_small hc.1 hc.2.1 hc.2.2 q
theorem Ycb:OpR X (Uu .RShift) (rI (λ_ j=>0<=j) λi j=>.int (i / 2 ^ j.toNat)):=opI λi j _ _ _ _ _ hc q =>
 rshift_int hc (by rw[Int.fdiv_eq_ediv_of_nonneg i (Ybb _)];exact q)
theorem Q1c:OpR X (Uu .BitXor) (rI0 λi j=>.int (Builtin.bitXor i j)):=XEc λ_ _ _ _ _ _ _ q=>xor_int q
theorem unI{f:Va->Sem Va}{g:Int->Int}
 (rule:∀ (i:Int) (t:Tok) (s:VH) (Q:YQ_) (E:YQ_),Q (.int (g i) s.toks) { s with toks:=s.toks+1 }->VV (VW X.prog X.w) X.A (f (.int i t)) Q E s) :
 UnR X f (rU λi=>.int (g i)):=by
 intro aa s σ H x v Q I rx h;obtain⟨i,rfl,q⟩:=h;obtain⟨t,rfl⟩:=rx;exact rule i t s _ _ ⟨.int (g i),H,I.tok _,⟨_,rfl⟩,q⟩
theorem ZPa:UnR X (unaryOp .USub) (rU λi=>.int (-i)):=unI λ_ _ _ _ _ q=>neg_int q
end
def Qva:V->V->Bool
 | .non,.non=>true | .non,.int _=>true | .int _,.non=>true | .non,.bl _=>true | .bl _,.non=>true | .non,.str _=>true | .str _,.non=>true
 | .int _,.int _=>true | .bl _,.bl _=>true | .str _,.str _=>true | .byt _,.byt _=>true
 | .int _,.str _=>true | .str _,.int _=>true | .bl _,.str _=>true | .str _,.bl _=>true
 | _,_=>false
theorem JZc:Qva .non .non=true:=rfl
theorem J0c{b:Int}:Qva .non (.int b)=true:=rfl
theorem J1c{a:Int}:Qva (.int a) .non=true:=rfl
theorem J2c{b:Bool}:Qva .non (.bl b)=true:=rfl
theorem J3c{a:Bool}:Qva (.bl a) .non=true:=rfl
theorem J4c{b:Str}:Qva .non (.str b)=true:=rfl
theorem J5c{a:Str}:Qva (.str a) .non=true:=rfl
theorem J6c{a:Int}{b:Int}:Qva (.int a) (.int b)=true:=rfl
theorem J7c{a:Bool}{b:Bool}:Qva (.bl a) (.bl b)=true:=rfl
theorem J8c{a:Str}{b:Str}:Qva (.str a) (.str b)=true:=rfl
theorem J9c{a:Int}{b:Str}:Qva (.int a) (.str b)=true:=rfl
theorem Yac{a:Str}{b:Int}:Qva (.str a) (.int b)=true:=rfl
theorem Ybc{a:Bool}{b:Str}:Qva (.bl a) (.str b)=true:=rfl
theorem Ycc{a:Str}{b:Bool}:Qva (.str a) (.bl b)=true:=rfl
def rEq:R2:=λx y H Q=>Qva x y=true/\Q (.bl (decide (x=y))) H
def rNe:R2:=λx y H Q=>Qva x y=true/\Q (.bl (!decide (x=y))) H
theorem Y8b{i j:Int}:decide (V.int i=V.int j)=(i == j):=by
 rw[Uv];simp
theorem Q2c{i j:Bool}:decide (V.bl i=V.bl j)=(i == j):=by
 rw[Uv];simp
theorem Y9b{i j:Str}:decide (V.str i=V.str j)=(i == j):=by
 rw[Uv];simp
theorem Xab{i j:Array UInt8}:decide (V.byt i=V.byt j)=(i.toList == j.toList):=by
 rw[Uv];cases i;cases j;simp
section
variable{X:Cx}{a b c:Expr}{ta tb tc:TE}{pos:Pos}
theorem Q0{aa:YP_}{σ:St}{H:Hp}{s:VH}{Q:VK}{k k':Bool}(I:Inv X aa σ H s)(q:Q (.bl k) H)(e:k=k'):EP X aa σ Q (.bool k') s:=by
 subst e;exact⟨.bl k,H,I,rfl,q⟩
theorem ZJ:OpR X (V2 .Eq) rEq:=by
 intro aa s σ H x y v u Q I rx ry h;obtain⟨hs,q⟩:=h;cases x with
 | non =>
  cases rx;cases y with
  | non=>cases ry;exact PySem.EqNone.eq_none_none (Q0 I q #[2])
  | bl j=>cases ry;exact PySem.EqNone.eq_none_bool (Q0 I q #[2])
  | int j=>obtain⟨t',rfl⟩:=ry;exact PySem.EqNone.eq_none_int (Q0 I q #[2])
  | str j=>obtain⟨t',rfl⟩:=ry;exact PySem.EqNone.eq_none_str (Q0 I q #[2])
  | _=>exact absurd (show false=true from hs) Uc
 | bl i =>
  cases rx;cases y with
  | non=>cases ry;exact PySem.EqNone.eq_bool_none (Q0 I q #[2])
  | bl j=>cases ry;exact eq_bool (Q0 I q Q2c)
  | str j=>obtain⟨t',rfl⟩:=ry;exact PySem.EqMixed.eq_bool_str (Q0 I q #[2])
  | _=>exact absurd (show false=true from hs) Uc
 | int i =>
  obtain⟨t,rfl⟩:=rx;cases y with
  | non=>cases ry;exact PySem.EqNone.eq_int_none (Q0 I q #[2])
  | int j=>obtain⟨t',rfl⟩:=ry;exact eq_int (Q0 I q Y8b)
  | str j=>obtain⟨t',rfl⟩:=ry;exact PySem.EqMixed.eq_int_str (Q0 I q #[2])
  | _=>exact absurd (show false=true from hs) Uc
 | str i =>
  obtain⟨t,rfl⟩:=rx;cases y with
  | non=>cases ry;exact PySem.EqNone.eq_str_none (Q0 I q #[2])
  | bl j=>cases ry;exact PySem.EqMixed.eq_str_bool (Q0 I q #[2])
  | int j=>obtain⟨t',rfl⟩:=ry;exact PySem.EqMixed.eq_str_int (Q0 I q #[2])
  | str j=>obtain⟨t',rfl⟩:=ry;exact eq_str (Q0 I q Y9b)
  | _=>exact absurd (show false=true from hs) Uc
 | byt i =>
  obtain⟨t,rfl⟩:=rx;cases y with
  | byt j=>obtain⟨t',rfl⟩:=ry;exact W.eq_bytes (Q0 I q Xab)
  | _=>exact absurd (show false=true from hs) Uc
 | _=>cases y <;> exact absurd (show false=true from hs) Uc
theorem YSa:OpR X (V2 .NotEq) rNe:=by
 intro aa s σ H x y v u Q I rx ry h;obtain⟨hs,q⟩:=h;cases x with
 | non =>
  cases rx;cases y with
  | non=>cases ry;exact PySem.EqNone.ne_none_none (Q0 I q #[2])
  | bl j=>cases ry;exact PySem.EqNone.ne_none_bool (Q0 I q #[2])
  | int j=>obtain⟨t',rfl⟩:=ry;exact PySem.EqNone.ne_none_int (Q0 I q #[2])
  | str j=>obtain⟨t',rfl⟩:=ry;exact PySem.EqNone.ne_none_str (Q0 I q #[2])
  | _=>exact absurd (show false=true from hs) Uc
 | bl i =>
  cases rx;cases y with
  | non=>cases ry;exact PySem.EqNone.ne_bool_none (Q0 I q #[2])
  | bl j=>cases ry;exact ne_bool (Q0 I q (congrArg not Q2c))
  | str j=>obtain⟨t',rfl⟩:=ry;exact PySem.EqMixed.ne_bool_str (Q0 I q #[2])
  | _=>exact absurd (show false=true from hs) Uc
 | int i =>
  obtain⟨t,rfl⟩:=rx;cases y with
  | non=>cases ry;exact PySem.EqNone.ne_int_none (Q0 I q #[2])
  | int j=>obtain⟨t',rfl⟩:=ry;exact ne_int (Q0 I q (congrArg not Y8b))
  | str j=>obtain⟨t',rfl⟩:=ry;exact PySem.EqMixed.ne_int_str (Q0 I q #[2])
  | _=>exact absurd (show false=true from hs) Uc
 | str i =>
  obtain⟨t,rfl⟩:=rx;cases y with
  | non=>cases ry;exact PySem.EqNone.ne_str_none (Q0 I q #[2])
  | bl j=>cases ry;exact PySem.EqMixed.ne_str_bool (Q0 I q #[2])
  | int j=>obtain⟨t',rfl⟩:=ry;exact PySem.EqMixed.ne_str_int (Q0 I q #[2])
  | str j=>obtain⟨t',rfl⟩:=ry;exact ne_str (Q0 I q (congrArg not Y9b))
  | _=>exact absurd (show false=true from hs) Uc
 | byt i =>
  obtain⟨t,rfl⟩:=rx;cases y with
  | byt j=>obtain⟨t',rfl⟩:=ry;exact W.ne_bytes (Q0 I q (congrArg not Xab))
  | _=>exact absurd (show false=true from hs) Uc
 | _=>cases y <;> exact absurd (show false=true from hs) Uc
theorem ZUb:OpR X (V2 .Lt) (rI0 λi j=>.bl (decide (i < j))):=XFc λ_ _ _ _ _ _ _ q=>lt_int q
theorem Xbb:OpR X (V2 .Gt) (rI0 λi j=>.bl (decide (j < i))):=XFc λ_ _ _ _ _ _ _ q=>gt_int q
theorem Y3c:OpR X (V2 .GtE) (rI0 λi j=>.bl (decide (j<=i))):=XFc λ_ _ _ _ _ _ _ q=>ge_int q
theorem Y8:OpR X (V2 .Is) (λx y H Q=>y=.non/\Q (.bl (decide (x=.non))) H):=by
 intro aa s σ H x y v u Q I rx ry h;obtain⟨rfl,q⟩:=h;cases ry;refine is_none_gen (Q0 I q ?_)
 cases x <;> first
  | (cases rx;rfl)
  | (obtain⟨t,rfl⟩:=rx;rfl)
theorem Xcb:OpR X (V2 .IsNot) (λx y H Q=>y=.non/\Q (.bl (!decide (x=.non))) H):=by
 intro aa s σ H x y v u Q I rx ry h;obtain⟨rfl,q⟩:=h;cases ry;refine isnot_none_gen (Q0 I q ?_)
 cases x <;> first
  | (cases rx;rfl)
  | (obtain⟨t,rfl⟩:=rx;rfl)
theorem Qu(b:Expr){op:CmpOp}(h:op≠.In:=by decide)(h2:op≠.NotIn:=by decide):V3 op b=false:=by
 have e1:(op == CmpOp.In)=false:=by cases op <;> first | rfl | exact absurd rfl h
 have e2:(op == CmpOp.NotIn)=false:=by cases op <;> first | rfl | exact absurd rfl h2
 cases b <;> simp[V3,e1,e2]
theorem Yva{op:CmpOp}{r:R2}(ho:OpR X (V2 op) r)(ha:PE X a ta)(hb:PE X b tb)(hm:V3 op b=false):PE X (.Compare a [op] [b] pos) (tOp r ta tb):=by
 intro aa s σ H Q I h;exact wpAny_Compare1 (XDc ha hb I h λv u s2 x y H2 I2 rx ry q=>ho aa s2 σ H2 x y v u Q I2 rx ry q) hm
def Y4c(t:TE):TT:=λσ H Q=>t σ H λx H'=>∃ k,x=.bl k/\Q k H'
theorem Qq{op:CmpOp}{r:R2}(ho:OpR X (V2 op) r)(ha:PE X a ta)(hb:PE X b tb)(hm:V3 op b=false):PT X (.Compare a [op] [b] pos) (Y4c (tOp r ta tb)):=by
 intro aa s σ H Q I h;refine wpAny_isTrue_Compare1 (thn (ha aa s σ H _ I h) λv s1 ⟨x,H1,I1,r1,q1⟩=>thn (hb aa s1 σ H1 _ I1 q1) λu s2 ⟨y,H2,I2,r2,q2⟩ =>
  thn (ho aa s2 σ H2 x y v u _ I2 r1 r2 q2) λc s3 ⟨z,H3,I3,r3,k,e,q3⟩=>?_) hm
 subst e;cases r3;exact V4 ⟨H3,I3,q3⟩
def QHd(K:VD)(x:V)(H:Hp)(k:Bool):Prop :=
 match x with
 | .non=>k=false
 | .bl b=>k=b
 | .int i=>k=(i != 0)
 | .str y=>y.length<=Vs/\k=((y.length:Int) != 0)
 | .byt y=>y.size<=Vs/\k=((y.size:Int) != 0)
 | .ref p=>(∃ xs,SqL K H p xs/\k=!xs.isEmpty)\/(∃ xs,SqT K H p xs/\k=!xs.isEmpty)\/∃ ae,H p=Vo (.dK ae)/\k=!ae.isEmpty
 | _=>False
theorem Ydb{κ:Type}{ae:List (κ×V)}{vs:List (κ×Va)}(r:KV ae vs):(!vs.isEmpty)=!ae.isEmpty:=by
 cases r <;> rfl
theorem YTa{xs:List V}{ah:List Va}(r:QG xs ah):(!ah.toArray.isEmpty)=!xs.isEmpty:=by
 cases r <;> simp
theorem YUa:(Vs:Nat) < 2 ^ 63:=by rw[Uw];decide
theorem XIc:Zgd X (λx H Q=>∃ k,QHd X.K x H k/\Q k H):=by
 intro aa s σ H x v Q I rx h;obtain⟨k,e,q⟩:=h;have hl:=YUa;have hs:Vs=16777216:=Uw;cases x with
 | non =>
  cases rx;have e':k=false:=e;subst e';exact truthy_none ⟨H,I,q⟩
 | bl b =>
  cases rx;have e':k=b:=e;subst e';exact V4 ⟨H,I,q⟩
 | int i =>
  obtain⟨t,rfl⟩:=rx;have e':k=(i != 0):=e;subst e';exact PySem.P.truthy_int ⟨H,I,q⟩
 | str y =>
  obtain⟨t,rfl⟩:=rx;obtain⟨hy,e'⟩:y.length<=Vs/\k=((y.length:Int) != 0):=e;subst e';exact PySem.P.truthy_str #[0] ⟨H,I.tok _,q⟩
 | byt y =>
  obtain⟨t,rfl⟩:=rx;obtain⟨hy,e'⟩:y.size<=Vs/\k=((y.size:Int) != 0):=e;subst e';exact W.truthy_bytes #[0] ⟨H,I.tok _,q⟩
 | ref p =>
  cases rx;have e':(∃ xs,SqL X.K H p xs/\k=!xs.isEmpty)\/(∃ xs,SqT X.K H p xs/\k=!xs.isEmpty)\/∃ ae,H p=Vo (.dK ae)/\k=!ae.isEmpty:=e
  rcases e' with ⟨xs,hx,e'⟩ | ⟨xs,hx,e'⟩ | ⟨ae,hx,e'⟩
  ·subst e'
   obtain⟨ah,r,pl,hz⟩:=I.list hx;have aA:=r.length;exact wpAny_truthy_list pl.isList (by simp only[Ux];lia) ⟨H,I.tok _,by rw[YTa r];exact q⟩
  ·subst e'
   obtain⟨ah,r,pl,hz⟩:=I.tuple hx;have aA:=r.length;exact truthy_tuple pl (by simp only[Ux];lia) ⟨H,I.tok _,by rw[YTa r];exact q⟩
  ·subst e'
   obtain⟨hz,hS,vs,r,m⟩:ae.length<=Vs/\(p == Vu)=false/\∃ vs,KV ae vs/\s.heap.DictOf (Q3 X.prog X.w) p vs:=I.hok p _ hx;have aA:ae.length=vs.length:=Vn r;exact wpAny_truthy_dict hS m #[0] ⟨H,I.tok _,by rw[Ydb r];exact q⟩
 | _=>exact(show False from e).elim
theorem Z9a(ha:PE X a ta)(he:∀ bw,isTrue a X.env bw=(do let v <- bw;V5 a.pos;V6 [v] (truthy v))) :
 PT X a (λσ H Q=>ta σ H λx H'=>∃ k,QHd X.K x H' k/\Q k H'):=by
 intro aa s σ H Q I h;exact isTrue_plain (thn (ha aa s σ H _ I h) λv s1 ⟨x,H1,I1,r1,q1⟩=>XIc aa s1 σ H1 x v Q I1 r1 q1) (he _)
theorem XC:OpR X (Uu .Add) (λx y H Q=>∃ i j,x=.str i/\y=.str j/\i.length+j.length<=Vs/\Q (.str (i++j)) H):=by
 intro aa s σ H x y v u Q I rx ry h;obtain⟨i,j,rfl,rfl,hz,q⟩:=h;obtain⟨t,rfl⟩:=rx;obtain⟨t',rfl⟩:=ry;exact add_str (λt' tk=>⟨.str (i++j),H,I.tok _,⟨_,rfl⟩,q⟩) hz
theorem Zxa{x:V}{us:List Va}(r:QG [x] us):∃ u,us=[u]/\QB x u:=by
 cases r with
 | cons r1 r2=>cases r2;exact⟨_,rfl,r1⟩
theorem Y5c{x y:V}{us:List Va}(r:QG [x,y] us):∃ u w',us=[u,w']/\QB x u/\QB y w':=by
 cases r with
 | cons r1 r2 =>
  cases r2 with
  | cons r3 r4=>cases r4;exact⟨_,_,rfl,r1,r3⟩
theorem X1b(hc:X.calm=true):Qoa X (.builtin "max") (λxs H Q=>∃ i j,xs=[.int i,.int j]/\Q (.int (if j > i then j else i)) H):=by
 intro aa s σ H xs us Q I r h;obtain⟨i,j,rfl,q⟩:=h;obtain⟨u,w',rfl,⟨t,rfl⟩,⟨t',rfl⟩⟩:=Y5c r;refine max_two_ints (I.ok.hd hc) λh' tk k=>⟨_,H,I.kept k,?_,q⟩
 by_cases hj:j > i
 ·rw[if_pos hj,if_pos hj];exact⟨_,rfl⟩
 ·rw[if_neg hj,if_neg hj];exact⟨_,rfl⟩
theorem QTb:Qoa X (.type "str") (λxs H Q=>∃ i,xs=[.int i]/\i.natAbs.log2 < 1920/\Q (.str (toString i)) H):=by
 intro aa s σ H xs us Q I r h;obtain⟨i,rfl,hz,q⟩:=h;obtain⟨u,rfl,t,rfl⟩:=Zxa r;exact PySem.P.str_of_int hz ⟨.str _,H,I.tok _,⟨_,rfl⟩,q⟩
theorem Q3c:Qoa X (.builtin "ord") (λxs H Q=>∃ x,xs=[.str x]/\x.length=1/\Q (.int (x.cps.getD 0 0:Nat)) H):=by
 intro aa s σ H xs us Q I r h;obtain⟨x,rfl,hz,q⟩:=h;obtain⟨u,rfl,t,rfl⟩:=Zxa r;exact ord_of_one hz ⟨.int _,H,I.tok _,⟨_,rfl⟩,q⟩
end
structure Yeb(h:Vq)(x dx C:Vh)(mA:Str->Option Va):Prop where
 obj:h.get? x=Vo (Vw C dx)
 ns:h.Ns1 dx mA
 ne:dx≠x
theorem X2b{h:Vq}{dx:Vh}{mA:Str->Option Va}(n:h.Ns1 dx mA):∃ od,h.get? dx=Vo od/\∀ name,W.lookIn name od=Vo (mA name):=by
 obtain⟨o,es,ep,ho,hd,hk,_,hm⟩:=n;refine⟨o,ho,λname=>?_⟩
 have e:=hm name;unfold nsFind findBy at e;rw[<- Array.find?_toList]at e
 unfold W.lookIn;rw[hd];dsimp only
 split
 ·rename_i y q
  rw[q]at e;exact congrArg Vo e
 ·rename_i q
  rw[q]at e;have a:es.toList.any (·.refKey)=false:=by
   rw[any_eq_false];intro y hy;obtain⟨z,t,aP⟩:=hk y (Array.mem_toList_iff.mp hy);simp[DictEntry.refKey,aP]
  have a':¬ es.toList.any (·.refKey)=true:=by rw[a];exact Uc
  rw[if_neg a'];exact congrArg Vo e
theorem Yeb.look{h:Vq}{x dx C:Vh}{mA:Str->Option Va}(I:Yeb h x dx C mA):∃ od,W.InstAt h x (Vw C dx) C (Vo od)/\∀ name,W.lookIn name od=Vo (mA name) :=
 let ⟨od,ho,hl⟩:=X2b I.ns
 ⟨od,⟨I.obj,rfl,rfl,ho⟩,hl⟩
section
variable{prog:Vg}{w:Vb}{A:VG}{E:YQ_}{s:VH}{K:VD}{x dx C f:Vh}{mA:Str->Option Va}{name:Str}{v:Va}
theorem Ydc{fF:Bool}{Q:YQ_}(X:K.In s.heap)(I:Yeb s.heap x dx C mA)(hg:W.plainGet K C name=true)(hh:W.hasDictIn K C=true)
 (ha:Uy K (.ref C) name=Vo Vp) (hv:mA name=Vo v) (jL:W.handedIn v=true) (h:Q v { s with toks:=s.toks+1 }) :
 VV (VW prog w) A (getAttr (.ref x) name fF) Q E s:=by
 obtain⟨od,J,hl⟩:=I.look;exact W.get_value X J (W.plainGet_of hg).1 (W.findObj_own hh ha rfl (by rw[hl,hv])) jL h
theorem Q4c{pl:Sem Bool}{Q:Va×List Va->VH->Prop}(X:K.In s.heap)(I:Yeb s.heap x dx C mA)(hg:W.plainGet K C name=true)
 (hf:Uy K (.ref C) name=Vo (Vo (.ref f))) (ht:Uz K (.ref f)=true) (hv:mA name=Vp) (h:Q (.ref f,[.ref x]) s) :
 VV (VW prog w) A (UA (.ref x) name pl) Q E s:=by
 obtain⟨od,J,hl⟩:=I.look;exact W.method_fn X J (W.plainGet_of hg).1 (W.plainGet_of hg).2 hf (beq_iff_eq.mp ht) (by show(W.lookIn name od).map (·.isSome)=Vo false;rw[hl,hv];rfl) h
theorem Yec{ns:List Str}{Q:Unit->VH->Prop}(X:K.In s.heap)(I:Yeb s.heap x dx C mA)
 (hs:Uy K (.ref C) "__setattr__"=Vo (Vo (.builtin "object.__setattr__"))) (hp:W.plainOver K C=true) (ht:W.takerIn K C name=Vo Vp) (hh:W.hasDictIn K C=true)
 (hw:Vx mA ns) (hsz:ns.length<=Vs)
 (h:∀ h',Yeb h' x dx C (λy=>if y=name then Vo v else mA y)->VU dx s.heap h'->Q () { s with heap:=h',toks:=s.toks+2 }) :
 VV (VW prog w) A (setAttr (.ref x) name v) Q E s:=by
 obtain⟨od,J,hl⟩:=I.look;refine W.set_plain X J hs (W.osa_open (s:={ s with toks:=s.toks+1 }) (r:=Vp) X J hp ht λb=>?_)
 obtain⟨cd,hc,bo⟩:=W.any_some hh;have hx:s.heap.get? x=Vo ⟨.ref C,Vo dx,.plain,#[]⟩:=I.obj;refine Uh (Ug (Uh (Uh (wpAny_loadPart hx (Uh (W.Looks.here (s:={ s with toks:=s.toks+1 }) (W.looks_clsIn X hc) ?_))))))
 rw[bo];refine Ug (a:=Vo dx) (Uh (Ug (Uh ?_)))
 refine wpAny_nsSet1 (s:={ s with toks:=s.toks+1 }) I.ns λh' dQ cf=>?_
 obtain⟨oD,yf,yg,pK,pL,pM⟩:=dQ.count (PySem.Within.cons name v hw);refine Uh (wpAny_lookBehind pK (by rw[pL];exact pastItsLine_dict (VJ pM (by rw[UB];lia))) ?_)
 exact Ug (h _ ⟨(cf.2 _ (VR I.ne)).trans I.obj,dQ,I.ne⟩ cf)
theorem Q5c{R:UC->VH->Prop}{vs:List Va}{kw:List (Str×Va)}(X:K.In s.heap)(hm:UD K C=true)
 (hi:Uy K (.ref C) "__init__"=Vo (Vo (.ref f))) (hf:W.typeIn K (.ref f)=Vo (.type "function"))
 (h:UE (VW prog w) (A.under (.builtin "type.__call__" ⟨.ref C::vs,kw⟩)) (.call (.ref f) ⟨.ref (s.heap.objs.size+1)::vs,kw⟩) (W.InitBack (s.heap.objs.size+1) R)
  { s with heap:=(s.heap.push UF).push (Vw C s.heap.objs.size) }) :
 UE (VW prog w) A (.call (.ref C) ⟨vs,kw⟩) R s:=by
 obtain⟨hh,g,d,t,os⟩:=s;exact W.make_core (W.makes_of X hm) (W.looks_findIn X hi) (λself=>W.bind_fn X self hf) (.inl rfl) h
end
def Z3(f:Str)(v:V):List (Str×V)->List (Str×V)
 | []=>[(f,v)]
 | (g,x)::r=>if g=f then (g,v)::r else (g,x)::Z3 f v r
theorem Yca(f g:Str)(v:V):∀ fs:List (Str×V),(Z3 f v fs).lookup g=if g=f then Vo v else fs.lookup g
 | []=>by
  show UG g [(f,v)]=_
  by_cases h:g=f
  ·have hb:(g == f)=true:=beq_iff_eq.mpr h
   simp only[UG,hb,if_pos h]
  ·have hb:(g == f)=false:=beq_eq_false_iff_ne.mpr h
   simp only[UG,hb,if_neg h]
 | (k,x)::r=>by
  have ih:=Yca f g v r;rw[show Z3 f v ((k,x)::r)=(if k=f then (k,v)::r else (k,x)::Z3 f v r) from rfl]
  by_cases hk:k=f
  ·rw[if_pos hk]
   by_cases h:g=k
   ·have hb:(g == k)=true:=beq_iff_eq.mpr h
    simp only[UG,hb,if_pos (h.trans hk)]
   ·have hb:(g == k)=false:=beq_eq_false_iff_ne.mpr h
    simp only[UG,hb,if_neg (λe:g=f=>h (e.trans hk.symm))]
  ·rw[if_neg hk]
   by_cases h:g=k
   ·have hb:(g == k)=true:=beq_iff_eq.mpr h
    simp only[UG,hb,if_neg (λe:g=f=>hk (h.symm.trans e))]
   ·have hb:(g == k)=false:=beq_eq_false_iff_ne.mpr h
    simp only[UG,hb];exact ih
theorem JJa(f:Str)(v:V):∀ fs:List (Str×V),f∈(Z3 f v fs).map (·.1)/\∀ g,g∈fs.map (·.1)->g∈(Z3 f v fs).map (·.1)
 | []=>⟨by simp[Z3],λg h=>by simp at h⟩
 | (k,x)::r=>by
  obtain⟨i1,i2⟩:=JJa f v r;rw[show Z3 f v ((k,x)::r)=(if k=f then (k,v)::r else (k,x)::Z3 f v r) from rfl]
  by_cases hk:k=f
  ·rw[if_pos hk]
   subst hk;exact⟨by simp,λg h=>by simpa using h⟩
  ·rw[if_neg hk]
   refine⟨?_,λg h=>?_⟩
   ·rw[UH]
    exact VO _ i1
   ·rw[UH]at h ⊢
    rcases mem_cons.mp h with e | e
    ·exact mem_cons.mpr (.inl e)
    ·exact VO _ (i2 g e)
theorem Yda(f:Str)(v:V):∀ fs:List (Str×V),(Z3 f v fs).length<=fs.length+1
 | []=>by simp[Z3]
 | (k,x)::r=>by
  have ih:=Yda f v r;rw[show Z3 f v ((k,x)::r)=(if k=f then (k,v)::r else (k,x)::Z3 f v r) from rfl]
  by_cases hk:k=f
  ·rw[if_pos hk,UB,UB];lia
  ·rw[if_neg hk,UB,UB];lia
theorem Yu.some_of{v:V}{o:Option Va}(r:Yu (Vo v) o):∃ u,o=Vo u/\QB v u:=by
 cases o with
 | none=>exact(show False from r).elim
 | some u=>exact⟨u,rfl,r⟩
theorem Yu.none_of{o:Option Va}(r:Yu Vp o):o=Vp:=by
 cases o with
 | none=>rfl
 | some u=>exact(show False from r).elim
theorem X3b{v:V}{u:Va}(r:QB v u):W.handedIn u=true:=by
 cases v with
 | non=>cases (show u=Vi from r);rfl
 | bl b=>cases (show u=Vj b from r);rfl
 | int i=>obtain⟨t,e⟩:=(show ∃ t,u=Vd i t from r);cases e;rfl
 | str x=>obtain⟨t,e⟩:=(show ∃ t,u=Vf x t from r);cases e;rfl
 | byt b=>obtain⟨t,e⟩:=(show ∃ t,u=Value.bytes b t from r);cases e;rfl
 | flt b=>obtain⟨t,e⟩:=(show ∃ t,u=Value.float b t from r);cases e;rfl
 | ref a=>cases (show u=Vk a from r);rfl
 | ty n=>cases (show u=Vl n from r);rfl
section
variable{P:Vg}{w:Vb}{H H':Hp}{h h':Vq}{a C dx:Vh}{fs fm:List (Str×V)}
theorem Ywa(hok:HOk P w H h)(e:H a=Vo (.ins C dx fs)):∃ mA,Yeb h a dx C mA/\(∀ f,Yu (fs.lookup f) (mA f))/\Vx mA (fs.map (·.1))/\fs.length<=1000/\H dx=Vo (.own a):=by
 obtain⟨d,z,ne,ob,mA,n,r,q⟩:=(show QR P w H h a (.ins C dx fs) from hok a _ e)
 exact⟨mA,⟨ob,n,ne⟩,r,q,z,d⟩
end
structure Cls(K:VD)(C:Vh):Prop where
 pg:W.plainGet K C Str.empty=true
 hd:W.hasDictIn K C=true
 po:W.plainOver K C=true
 sa:Uy K (.ref C) "__setattr__"=Vo (Vo (.builtin "object.__setattr__"))
theorem Cls.get{K:VD}{C:Vh}(c:Cls K C)(f:Str):W.plainGet K C f=true:=c.pg
def JX(K:VD)(C:Vh)(f:Str):Prop:=Uy K (.ref C) f=Vo Vp
theorem JX.taker{K:VD}{C:Vh}{f:Str}(n:JX K C f):W.takerIn K C f=Vo Vp:=by
 unfold W.takerIn;rw[show Uy K (.ref C) f=Vo Vp from n]
 rfl
structure QId(K:VD)(C:Vh)(m:Str)(f:Vh):Prop where
 at_:Uy K (.ref C) m=Vo (Vo (.ref f))
 fn:Uz K (.ref f)=true
 kp:UI K (.ref f)=true
section
variable{X:Cx}{aa:YP_}{σ:St}{H:Hp}{s:VH}{a C dx:Vh}{fs:List (Str×V)}{f:Str}{v:V}{A:VG}{E:YQ_}
theorem Yfb{b:Bool}{Q:YQ_}(I:Inv X aa σ H s)(e:H a=Vo (.ins C dx fs))(c:Cls X.K C)(n:JX X.K C f)(l:fs.lookup f=Vo v)
 (h:∀ u s',Inv X aa σ H s'->QB v u->Q u s'):VV (VW X.prog X.w) A (getAttr (.ref a) f b) Q E s:=by
 obtain⟨mA,O,r,_,_,_⟩:=Ywa I.hok e;obtain⟨u,hu,ru⟩:=Yu.some_of (v:=v) (o:=mA f) (by rw[<- l];exact r f)
 exact Ydc I.kIn O (c.get f) c.hd n hu (X3b ru) (h u _ (I.tok _) ru)
theorem YI{m:Str}{g:Vh}{pl:Sem Bool}{Q:Va×List Va->VH->Prop}(I:Inv X aa σ H s)(e:H a=Vo (.ins C dx fs))(c:Cls X.K C)(k:QId X.K C m g)(l:fs.lookup m=Vp)
 (h:Q (.ref g,[.ref a]) s):VV (VW X.prog X.w) A (UA (.ref a) m pl) Q E s:=by
 obtain⟨mA,O,r,_,_,_⟩:=Ywa I.hok e;have hn:mA m=Vp:=Yu.none_of (by rw[<- l];exact r m)
 exact Q4c I.kIn O (c.get m) k.at_ k.fn hn h
theorem Ygb{y:V}{u:Va}{Q:Unit->VH->Prop}(I:Inv X aa σ H s)(e:H a=Vo (.ins C dx fs))(c:Cls X.K C)(n:JX X.K C f)(hl:fs.length < 1000)(ry:QB y u)
 (h:∀ s',Inv X aa σ (upd H a (.ins C dx (Z3 f y fs))) s'->Q () s'):VV (VW X.prog X.w) A (setAttr (.ref a) f u) Q E s:=by
 obtain⟨mA,O,r,wi,_,ho⟩:=Ywa I.hok e;have hz:(fs.map (·.1)).length<=Vs:=by rw[UJ,Uw];lia
 refine Yec I.kIn O c.sa c.po n.taker c.hd wi hz λh' O' sb=>h _ ?_
 have hd:∃ o,h'.get? dx=Vo o:=let ⟨o,_,_,e',_⟩:=O'.ns;⟨o,e'⟩
 refine I.write (x:=a) (e:=dx) (by rw[e];exact UK) (.inr ho) (λb q hb z=>(sb.2 b hb).trans z) hd ?_
 refine⟨by rw[Qk O.ne];exact ho,?_,O.ne,O'.obj,_,O'.ns,λg=>?_,λg hg=>?_⟩
 ·have:=Yda f y fs;lia
 ·show Yu ((Z3 f y fs).lookup g) (if g=f then Vo u else mA g)
  rw[Yca]
  by_cases q:g=f
  ·rw[if_pos q,if_pos q];exact ry
  ·rw[if_neg q,if_neg q];exact r g
 ·by_cases q:g=f
  ·rw[q];exact(JJa f y fs).1
  ·refine(JJa f y fs).2 g (wi g λz=>hg ?_)
   show(if g=f then Vo u else mA g)=Vp
   rw[if_neg q];exact z
theorem Inv.made(I:Inv X aa σ H s):Inv X aa σ (upd (upd H s.heap.objs.size (.own (s.heap.objs.size+1))) (s.heap.objs.size+1) (.ins C s.heap.objs.size []))
 { s with heap:=(s.heap.push UF).push (Vw C s.heap.objs.size) }:=by
 have e1:(s.heap.push UF).get? s.heap.objs.size=Vo UF:=Ul s.heap rfl
 have e2:((s.heap.push UF).push (Vw C s.heap.objs.size)).get? (s.heap.objs.size+1)=Vo (Vw C s.heap.objs.size):=by
  have:=Ul (s.heap.push UF) (o:=Vw C s.heap.objs.size) rfl
  rwa [UL]at this
 have e3:(s.heap.push UF).Ns s.heap.objs.size (λ_=>Vp):=⟨UF,#[],_,e1,rfl,(λe he=>absurd he #[2]),λ_=>rfl⟩
 have I1:=I.laid (a:=s.heap.objs.size) (o:=.own (s.heap.objs.size+1)) (h':=s.heap.push UF) (t':=s.toks) (λb u q=>Uk _ q) (Um _) ⟨_,e1⟩
 refine I1.laid (a:=s.heap.objs.size+1) (o:=.ins C s.heap.objs.size []) (t':=s.toks) (λb u q=>Uk _ q) (Nat.le_of_eq (UL _ _)) ?_
 have ne:s.heap.objs.size≠s.heap.objs.size+1:=VB (UM _);refine⟨by rw[Qk ne,Qa],Us _,ne,e2,λ_=>Vp,(Heap.Ns1.of_empty e3).at λo q=>Uk _ q,λ_=>UK,λy hy=>absurd rfl hy⟩
theorem Yfc{prog:Vg}{w:Vb}{env:Env}{e:Expr}{f:Str}{pos:Pos}{s:VH}{Q:YQ_}(hb:UN e f env (VX e env)=VX e env)
 (h:VV (VW prog w) A (VX e env) (λo s₁=>VV (VW prog w) A (getAttr o f true) Q E s₁) E s):VV (VW prog w) A (VX (.Attribute e f pos) env) Q E s :=
 Attribute_any_ h (by rw[arm_eval_Attribute,hb])
end
def Q6c(K:VD)(ta:TE)(f:Str):TE:=λσ H Q=>ta σ H λx H1=>∃ a C dx fs v,x=.ref a/\H1 a=Vo (.ins C dx fs)/\Cls K C/\JX K C f/\fs.lookup f=Vo v/\Q v H1
def QJd(K:VD)(ta tv:TE)(f:Str):TS:=λD σ H=>tv σ H λy H1=>ta σ H1 λx H2=>∃ a C dx fs,x=.ref a/\H2 a=Vo (.ins C dx fs)/\Cls K C/\JX K C f/\fs.length < 1000 /\
 D.nx σ (upd H2 a (.ins C dx (Z3 f y fs)))
section
variable{X:Cx}{o e value:Expr}{f:Str}{pos aI hG:Pos}{ta tv:TE}
theorem Qz(he:PE X e ta)(hb:UN e f X.env (VX e X.env)=VX e X.env):PE X (.Attribute e f pos) (Q6c X.K ta f):=by
 intro aa s σ H Q I h;refine Yfc hb (thn (he aa s σ H _ I h) λu s1 hZ=>?_)
 obtain⟨x,H1,I1,rx,a,C,dx,fs,v,ex,ea,c,n,l,q⟩:=hZ;subst ex;obtain rfl:u=Vk a:=rx;exact Yfb I1 ea c n l λu' s2 I2 ru=>⟨v,H1,I2,ru,q⟩
theorem Jy(ha:PE X o ta)(hv:PE X value tv)(hs:Ua value (Vo (.Attribute o f aI)) pos.line X.env=pure false):PS X (.Assign [.Attribute o f aI] value pos) (QJd X.K ta tv f):=by
 intro aa s σ H D I h;refine plainObj_wpAny_Assign_Attribute (thn (hv aa s σ H _ I h) λu s1 ⟨y,H1,I1,ry,q⟩=>thn (ha aa s1 σ H1 _ I1 q) λov s2 hZ=>?_) hs
 obtain⟨x,H2,I2,rx,a,C,dx,fs,ex,ea,c,n,l,q2⟩:=hZ;subst ex;obtain rfl:ov=Vk a:=rx;exact Ygb I2 ea c n l ry λs3 I3=>⟨σ,_,I3,q2⟩
end
section
variable{X:Cx}{aa:YP_}{σ:St}{H:Hp}{s:VH}{A:VG}{E:YQ_}{Q:YQ_}{c:Va}{b:Bool}
inductive Jaa(K:VD)(H:Hp):V->Va->Prop where
 | non:Jaa K H .non (.type "NoneType")
 | bl (x:Bool):Jaa K H (.bl x) (.type "bool")
 | int (i:Int):Jaa K H (.int i) (.type "int")
 | str (x:Str):Jaa K H (.str x) (.type "str")
 | flt (x:UInt64):Jaa K H (.flt x) (.type "float")
 | lst {a:Vh} {xs:List V} (e:H a=Vo (.lst xs)):Jaa K H (.ref a) (.type "list")
 | frz {a:Vh} {o:Obj} {xs:List V} (e:H a=Vo (.frz o (.lst xs))):Jaa K H (.ref a) (.type "list")
 | tup {a:Vh} {xs:List V} (e:H a=Vo (.tup xs)):Jaa K H (.ref a) (.type "tuple")
 | dK {a:Vh} {ae:List (Key×V)} (e:H a=Vo (.dK ae)):Jaa K H (.ref a) (.type "dict")
 | dT {a:Vh} {ae:List (List Key×V)} (e:H a=Vo (.dT ae)):Jaa K H (.ref a) (.type "dict")
 | ins {a C dx:Vh} {fs:List (Str×V)} (e:H a=Vo (.ins C dx fs)) (cl:Cls K C) (ha:Uy K (.ref C) "__class__"=Vo (Vo (.builtin "object.__class__")))
  (hn:UO K (.builtin "object.__class__") "__get__"=Vo (Vo (.builtin "getset_descriptor.__get__"))) (uJ:W.takesIn K (.builtin "object.__class__")=Vo true)
  (hm:W.mroIn K C (.type "object")=Vo true):Jaa K H (.ref a) (.ref C)
theorem X4b{x:V}{u t:Va}(I:Inv X aa σ H s)(rx:QB x u)(ty:Jaa X.K H x t)(e:UP X.K t c=Vo b)(h:∀ tk,Q (.bool b) { s with toks:=tk }) :
 VV (VW X.prog X.w) A (Ut (.builtin "isinstance") [u,c]) Q E s:=by
 cases ty with
 | non=>cases (show u=Vi from rx);exact UQ W.kitx_none I.kIn UK e (λz=>nomatch z) h
 | bl y=>cases (show u=Vj y from rx);exact UQ W.kitx_bool I.kIn UK e (λz=>nomatch z) h
 | int i=>obtain⟨t,q⟩:=(show ∃ t,u=Vd i t from rx);cases q;exact UQ W.kitx_int I.kIn UK e (λz=>nomatch z) h
 | str y=>obtain⟨t,q⟩:=(show ∃ t,u=Vf y t from rx);cases q;exact UQ W.kitx_str I.kIn UK e (λz=>nomatch z) h
 | flt y=>obtain⟨t,q⟩:=(show ∃ t,u=Value.float y t from rx);cases q;exact UQ W.kitx_float I.kIn UK e (λz=>nomatch z) h
 | @lst a xs ea =>
  cases (show u=Vk a from rx)
  obtain⟨_,_,n,_,h1⟩:=(show QR X.prog X.w H s.heap a (.lst xs) from I.hok a _ ea)
  exact UQ W.kitx_list I.kIn ⟨_,h1,rfl⟩ e (λz=>nomatch z) h
 | @frz a ob xs ea =>
  cases (show u=Vk a from rx)
  obtain⟨_,_,_,n,_,h1⟩:=(show QR X.prog X.w H s.heap a (.frz ob (.lst xs)) from I.hok a _ ea)
  exact UQ W.kitx_list I.kIn ⟨_,h1,rfl⟩ e (λz=>nomatch z) h
 | @tup a xs ea =>
  cases (show u=Vk a from rx)
  obtain⟨_,_,_,p⟩:=(show QR X.prog X.w H s.heap a (.tup xs) from I.hok a _ ea)
  obtain⟨o,h1,h2,_⟩:=p;exact UQ W.kitx_tuple I.kIn ⟨o,h1,h2⟩ e (λz=>nomatch z) h
 | @dK a ae ea =>
  cases (show u=Vk a from rx)
  obtain⟨_,_,vs,_,p⟩:=(show QR X.prog X.w H s.heap a (.dK ae) from I.hok a _ ea)
  obtain⟨o,es,ep,h1,h2,_⟩:=p;exact UQ W.kitx_dict I.kIn ⟨o,h1,h2.1⟩ e (λz=>nomatch z) h
 | @dT a ae ea =>
  cases (show u=Vk a from rx)
  obtain⟨_,_,xs,_,o,es,ep,h1,h2,_⟩:=(show QR X.prog X.w H s.heap a (.dT ae) from I.hok a _ ea)
  exact UQ W.kitx_dict I.kIn ⟨o,h1,h2.1⟩ e (λz=>nomatch z) h
 | @ins a C dx fs ea cl ha hn uJ hm =>
  cases (show u=Vk a from rx)
  obtain⟨mA,O,_⟩:=Ywa I.hok ea;obtain⟨od,J,_⟩:=O.look;exact UQ (W.kitx_own (cl.get _) cl.hd ha hn uJ hm) I.kIn J e (λz=>nomatch z) h
end
structure Zi(k:Nat)(A:VG):Prop where
 hd:A.handled=Vp
 dp:A.depth+3 * k+5 < recursionLimit
 un:A.units+16 * k+200 < UR
theorem Zi.mono{j k:Nat}{A:VG}(r:Zi k A)(h:j<=k):Zi j A:=⟨r.hd,by have:=r.dp;lia,by have:=r.un;lia⟩
theorem Zi.deeper{k:Nat}{A:VG}(r:Zi (k+1) A)(env:Env):Zi k (A.deeper env) :=
 ⟨r.hd,by have:=r.dp;show A.depth+1+3 * k+5 < _;lia,by have:=r.un;show A.units+3+16 * k+200 < _;lia⟩
theorem Zi.in1{k:Nat}{A:VG}(r:Zi (k+1) A):Zi k A.in1 :=
 ⟨r.hd,by have:=r.dp;show A.depth+3 * k+5 < _;lia,by have:=r.un;show A.units+1+16 * k+200 < _;lia⟩
theorem Yhb{A:VG}{C:Vh}{us:List Va}{kw:List (Str×Va)}:(A.under (.builtin "type.__call__" ⟨.ref C::us,kw⟩)).depth=A.depth+1:=by
 first | rfl | simp[Around.under,Code.weight,Code.isCreation,Code.isGuard,Code.isCaller,Code.frames,Code.isFrame,guardIds]
theorem Yib{A:VG}{C:Vh}{us:List Va}{kw:List (Str×Va)}:(A.under (.builtin "type.__call__" ⟨.ref C::us,kw⟩)).units=A.units+1:=by
 first | rfl | simp[Around.under,Code.cUnits,Code.frames,Code.isFrame]
theorem Zi.make{k:Nat}{A:VG}(r:Zi (k+1) A)(C:Vh)(us:List Va)(kw:List (Str×Va)):Zi k (A.under (.builtin "type.__call__" ⟨.ref C::us,kw⟩)) :=
 ⟨r.hd,by have:=r.dp;rw[Yhb];lia,by have:=r.un;rw[Yib];lia⟩
theorem Zi.depth{k:Nat}{A:VG}(r:Zi k A):A.depth < recursionLimit:=by have:=r.dp;lia
theorem Zi.units{k:Nat}{A:VG}(r:Zi k A):A.units+64 < UR:=by have:=r.un;lia
theorem Zi.units0{k:Nat}{A:VG}(r:Zi k A):A.units < UR:=by have:=r.un;lia
def Jba:TA:=λ_ H Q=>Q [] H
def YVa(ta:TE)(tr:TA):TA:=λσ H Q=>ta σ H λx H1=>tr σ H1 λxs H2=>Q (x::xs) H2
section
variable{X:Cx}{e:Expr}{es:List Expr}{te:TE}{t:TA}{pos:Pos}
theorem Qe:PA X [] Jba:=λ_ _ _ _ H Q I h=>US ⟨[],H,I,.nil,h⟩
theorem Xdb(ha:PE X e te)(hr:PA X es t)(hs:VZ (e::es) X.env=(false,VX e X.env)::VZ es X.env:=by rfl):PA X (e::es) (YVa te t):=by
 intro pos aa s σ H Q I h;rw[hs];show VV _ _ (spliced ((false,VX e X.env)::VY pos (VZ es X.env))) _ _ s;refine UT (thn (ha aa s σ H _ I h) λu s1 hZ=>?_)
 obtain⟨x,H1,I1,r1,q1⟩:=hZ;exact thn (hr pos aa s1 σ H1 _ I1 q1) λus s2 ⟨xs,H2,I2,r2,q2⟩=>⟨x::xs,H2,I2,.cons r1 r2,q2⟩
def QKd(t:TA):TE:=λσ H Q=>t σ H λxs H1=>xs.length<=Vs/\∀ p,H1 p=Vp->Q (.ref p) (upd H1 p (.tup xs))
def QLd(t:TA):TE:=λσ H Q=>t σ H λxs H1=>xs.length<=Vs/\∀ p,H1 p=Vp->Q (.ref p) (upd H1 p (.lst xs))
theorem ZM{x1}(h:PA X es t):PE X (.Tuple es x1 pos) (QKd t):=by
 intro aa s σ H Q I hq;refine wpAny_Tuple_spliced (thn (h pos aa s σ H _ I hq) λus s1 ⟨xs,H1,I1,r,z,q⟩=>⟨by rw[<- r.length];exact z,?_⟩)
 have hf:H1 s1.heap.objs.size=Vp:=I1.hok.fresh (Um _);refine⟨.ref s1.heap.objs.size,upd H1 s1.heap.objs.size (.tup xs),I1.laid (t':=s1.toks) (λb u e=>Uk _ e) (Um _) ?_,rfl,q _ hf⟩
 exact⟨⟨z,_,Ul _ rfl,rfl⟩,us,r,⟨_,Ul _ rfl,rfl,_,rfl⟩⟩
theorem ZA(h:PA X es t):PE X (.List es pos) (QLd t):=by
 intro aa s σ H Q I hq;refine wpAny_List_spliced (thn (h pos aa s σ H _ I hq) λus s1 ⟨xs,H1,I1,r,z,q⟩=>⟨by rw[<- r.length];exact z,?_⟩)
 have hf:H1 s1.heap.objs.size=Vp:=I1.hok.fresh (Um _);refine⟨.ref s1.heap.objs.size,upd H1 s1.heap.objs.size (.lst xs),I1.laid (t':=s1.toks) (λb u e=>Uk _ e) (Um _) ?_,rfl,q _ hf⟩
 exact⟨z,us,0,r,Ul _ rfl⟩
end
abbrev Sp:=List V->Hp->VK->XK->Prop
abbrev CXT:=List Env->Hp->VH->XK->YQ_
structure Yjb(P:Vg)(w:Vb)(K:VD)(mg:Str->Option Va)(base:Vq)(A:VG)(outer:List Env)(s:VH)(H:Hp):Prop where
 frames:A.frames=Vo outer
 mod:Mod K mg base
 bs:∀ b o,base.get? b=Vo o->s.heap.get? b=Vo o/\H b=Vp
 bsz:base.objs.size<=s.heap.objs.size
 funs:s.heap.FunFrames base outer
 frf:∀ b∈frs outer,H b=Vp
 hok:HOk P w H s.heap
 bare:VI s.gens
def CE(outer:List Env)(P:Vg)(w:Vb)(H:Hp)(s:VH)(Q:VK)(u:Va)(s':VH):Prop :=
 ∃ v H',s'.os=s.os/\VI s'.gens/\Un (frs outer) [] H H' s.heap s'.heap/\HOk P w H' s'.heap/\QB v u/\Q v H'
def CR(CX:CXT)(outer:List Env)(P:Vg)(w:Vb)(H:Hp)(s:VH)(Q:VK)(E:XK)(r:UC)(s':VH):Prop :=
 match r with
 | .ok (.ret u)=>CE outer P w H s Q u s'
 | .ok _=>False
 | .error e=>CX outer H s E e s'
structure QE(P:Vg)(w:Vb)(K:VD)(mg:Str->Option Va)(base:Vq)(CX:CXT)(k:Nat)(f:Vh)(fd:UU)(ps:List Str)(sp:Sp):Prop where
 len:∀ vs H Q E,sp vs H Q E->vs.length=ps.length
 run:∀ (A:VG) (outer:List Env) (s:VH) (H:Hp) (args:Args) (us:List Va) (vs:List V) (Q:VK) (E:XK),Zi k A->Yjb P w K mg base A outer s H->BindsTo s fd args (ps.zip us)->QG vs us->sp vs H Q E ->
  UE (VW P w) A (.call (.ref f) args) (CR CX outer P w H s Q E) s
theorem QE.mono{P:Vg}{w:Vb}{K:VD}{mg:Str->Option Va}{base:Vq}{CX:CXT}{j k:Nat}{f:Vh}{fd:UU}{ps:List Str}{sp:Sp}(F:QE P w K mg base CX j f fd ps sp)(h:j<=k) :
 QE P w K mg base CX k f fd ps sp:=⟨F.len,λA outer s H args us vs Q E hr=>F.run A outer s H args us vs Q E (hr.mono h)⟩
theorem Yjb.make{P:Vg}{w:Vb}{K:VD}{mg:Str->Option Va}{base:Vq}{A:VG}{outer:List Env}{s:VH}{H:Hp}(e:Yjb P w K mg base A outer s H)(C:Vh)(us:List Va)(kw:List (Str×Va)) :
 Yjb P w K mg base (A.under (.builtin "type.__call__" ⟨.ref C::us,kw⟩)) outer s H:=⟨by first | exact e.frames | (simpa[Around.under,Code.envs,Code.isFrame,pushEnvs]using e.frames),e.mod,e.bs,e.bsz,e.funs,e.frf,e.hok,e.bare⟩
section
variable{X:Cx}{aa:YP_}{σ:St}{H:Hp}{s s':VH}
theorem Inv.env0(I:Inv X aa σ H s):Yjb X.prog X.w X.K X.mg X.base X.A X.stack s H :=
 ⟨I.ok.frames,I.ok.mod,I.bs,VJ I.ok.bsz I.sz,I.stack,I.stkFree,I.hok,I.bare⟩
theorem Inv.after{Q:VK}{u:Va}(I:Inv X aa σ H s)(h:CE X.stack X.prog X.w H s Q u s'):EP X aa σ Q u s':=by
 obtain⟨v,H',os,bare,un,hok,r,q⟩:=h;obtain⟨hh,g,d,t,yh⟩:=s';obtain rfl:yh=s.os:=os;exact⟨v,H',I.call (h':=hh) (g':=g) (d':=d) (t':=t) (ch:=[]) un hok bare (λb z=>absurd z #[2]),r,q⟩
end
def ZVb(sp:Sp)(bY:List V)(E:XK)(t:TA):TE:=λσ H Q=>t σ H λvs H1=>sp (vs++bY) H1 Q E
def Xeb(C:Vh)(sp:Sp)(bY:List V)(E:XK)(t:TA):TE:=λσ H Q=>t σ H λvs H1=>∀ x dx,H1 x=Vp->H1 dx=Vp->dx≠x ->
 sp (.ref x::(vs++bY)) (upd (upd H1 dx (.own x)) x (.ins C dx [])) (λv H2=>v=.non/\Q (.ref x) H2) E
def Z4(K:VD)(fd:UU)(ps:List Str)(ds:List Va):Prop :=
 ∀ (s:VH) (us:List Va),K.In s.heap->(us++ds).length=ps.length->BindsTo s fd ⟨us,[]⟩ (ps.zip (us++ds))
theorem Z4.all{K:VD}{fd:UU}{ps:List Str}(h:∀ us:List Va,us.length=ps.length->bindArgs fd ⟨us,[]⟩=pure (ps.zip us)):Z4 K fd ps []:=λs us _ hl=>by
 rw[UV]at hl ⊢;exact .of_eq (h us hl)
def JKa(CX:CXT)(X:Cx)(E:XK):Prop:=∀ (aa:YP_) (σ:St) (H:Hp) (s:VH) (e:Va) (s':VH),Inv X aa σ H s->CX X.stack H s E e s'->X.xe e s'
section
variable{X:Cx}{CX:CXT}{k:Nat}{f C:Vh}{fd:UU}{ps:List Str}{sp:Sp}{bY:List V}{ds:List Va}{E:XK}{x m:Str}{p pos ao:Pos}{e o:Expr}{es:List Expr}{ta:TE}{t:TA}
theorem Q7c{aa:YP_}{σ:St}{H:Hp}{s:VH}{Q:VK}{us:List Va}{vs:List V}(F:QE X.prog X.w X.K X.mg X.base CX k f fd ps sp)(hr:Zi k X.A)(hb:Z4 X.K fd ps ds)(hd:QG bY ds)(hx:JKa CX X E)
 (I:Inv X aa σ H s) (r:QG vs us) (h:sp (vs++bY) H Q E):VV (VW X.prog X.w) X.A (Ut (.ref f) us) (EP X aa σ Q) X.xe s:=by
 have r2:QG (vs++bY) (us++ds):=r.append hd;have hl:(us++ds).length=ps.length:=by rw[<- r2.length];exact F.len _ _ _ _ h
 refine UW (UX (F.run X.A X.stack s H ⟨us,[]⟩ (us++ds) (vs++bY) Q E hr I.env0 (hb s us I.kIn hl) r2 h) λr s' hq=>?_)
 cases r with
 | error e=>exact hx aa σ H s e s' I hq
 | ok fl =>
  cases fl with
  | ret u=>exact I.after hq
  | next=>exact V8 hq
  | brk=>exact V8 hq
  | cont=>exact V8 hq
theorem Ygc(F:QE X.prog X.w X.K X.mg X.base CX k f fd ps sp)(hr:Zi k X.A)(hg:Gl X x)(hm:X.mg x=Vo (.ref f))(hk:UI X.K (.ref f)=true)(hb:Z4 X.K fd ps ds)(hd:QG bY ds)(hx:JKa CX X E)
 (ha:PA X (e::es) t) (aV:(x == ("__debug__":Str))=false:=by decide) (he:VZ (e::es) X.env=(false,VX e X.env)::VZ es X.env:=by rfl) (aN:(VY pos (VZ es X.env)).any (·.1)=false:=by rfl) :
 PE X (.Call (.Name x p) (e::es) [] pos) (ZVb sp bY E t):=by
 intro aa s σ H Q I h;refine UY (YZ I hg hm ?_ aV)
 refine UZ (h₀:=X.base) I.ok.mod.kin hk (thn (ha pos aa s σ H _ I h) λus s1 ⟨vs,H1,I1,r,q⟩=>⟨I1.kIn,?_⟩) he aN
 exact Q7c F hr hb hd hx I1 r q
structure Mk(K:VD)(C f:Vh):Prop where
 makes:UD K C=true
 init:Uy K (.ref C) "__init__"=Vo (Vo (.ref f))
 fn:Uz K (.ref f)=true
 kp:UI K (.ref C)=true
theorem ZWb{aa:YP_}{σ:St}{H:Hp}{s:VH}{Q:VK}{us:List Va}{vs:List V}(M:Mk X.K C f)(F:QE X.prog X.w X.K X.mg X.base CX k f fd ps sp)(hr:Zi (k+1) X.A)(hb:Z4 X.K fd ps ds)(hd:QG bY ds)
 (hx:JKa CX X E) (I:Inv X aa σ H s) (r:QG vs us)
 (h:∀ x dx,H x=Vp->H dx=Vp->dx≠x->sp (.ref x::(vs++bY)) (upd (upd H dx (.own x)) x (.ins C dx [])) (λv H2=>v=.non/\Q (.ref x) H2) E) :
 VV (VW X.prog X.w) X.A (Ut (.ref C) us) (EP X aa σ Q) X.xe s:=by
 have hq:=h (s.heap.objs.size+1) s.heap.objs.size (I.hok.fresh (U0 _)) (I.hok.fresh (Um _)) (VB (UM _));have I2:=Inv.made (C:=C) I;have r2:QG (V.ref (s.heap.objs.size+1)::(vs++bY)) (Vk (s.heap.objs.size+1)::(us++ds)):=.cons rfl (r.append hd);have hl:(Vk (s.heap.objs.size+1)::us++ds).length=ps.length:=by
  have e:=r2.length;rw[F.len _ _ _ _ hq]at e;exact e.symm
 refine UW (Q5c (f:=f) I.kIn M.makes M.init (beq_iff_eq.mp M.fn) (UX (F.run _ X.stack _ _ ⟨Vk (s.heap.objs.size+1)::us,[]⟩ (Vk (s.heap.objs.size+1)::(us++ds)) _ _ E (hr.make C us [])
  (I2.env0.make C us []) (hb _ (Vk (s.heap.objs.size+1)::us) I2.kIn hl) r2 hq) λr s' jM=>?_))
 cases r with
 | error e=>exact hx aa σ _ _ e s' I2 jM
 | ok fl =>
  cases fl with
  | ret u =>
   obtain⟨v,H',I3,rv,ev,q3⟩:=I2.after jM;subst ev;exact⟨rv,⟨V.ref (s.heap.objs.size+1),H',I3,rfl,q3⟩⟩
  | next=>exact V8 jM
  | brk=>exact V8 jM
  | cont=>exact V8 jM
theorem Yhc(M:Mk X.K C f)(F:QE X.prog X.w X.K X.mg X.base CX k f fd ps sp)(hr:Zi (k+1) X.A)(hg:Gl X x)(hm:X.mg x=Vo (.ref C))(hb:Z4 X.K fd ps ds)(hd:QG bY ds)(hx:JKa CX X E)
 (ha:PA X (e::es) t) (aV:(x == ("__debug__":Str))=false:=by decide) (he:VZ (e::es) X.env=(false,VX e X.env)::VZ es X.env:=by rfl) (aN:(VY pos (VZ es X.env)).any (·.1)=false:=by rfl) :
 PE X (.Call (.Name x p) (e::es) [] pos) (Xeb C sp bY E t):=by
 intro aa s σ H Q I h;refine UY (YZ I hg hm ?_ aV)
 refine UZ (h₀:=X.base) I.ok.mod.kin M.kp (thn (ha pos aa s σ H _ I h) λus s1 ⟨vs,H1,I1,r,q⟩=>⟨I1.kIn,?_⟩) he aN
 exact ZWb M F hr hb hd hx I1 r q
theorem Q8c(M:Mk X.K C f)(F:QE X.prog X.w X.K X.mg X.base CX k f fd ps sp)(hr:Zi (k+1) X.A)(hg:Gl X x)(hm:X.mg x=Vo (.ref C))(hb:Z4 X.K fd ps ds)(hd:QG bY ds)(hx:JKa CX X E)
 (aV:(x == ("__debug__":Str))=false:=by decide):PE X (.Call (.Name x p) [] [] pos) (Xeb C sp bY E Jba):=by
 intro aa s σ H Q I h;refine UY (YZ I hg hm ?_ aV)
 exact U1 I.kIn M.kp (ZWb (us:=[]) M F hr hb hd hx I .nil h)
end
def PK(X:Cx)(i6:List U2)(t:TA):Prop :=
 ∀ (pos:Pos) (aa:YP_) (s:VH) (σ:St) (H:Hp) (Q:List V->Hp->Prop),Inv X aa σ H s->t σ H Q->VV (VW X.prog X.w) X.A (evalAll ((U3 pos (U4 i6 X.env)).map (·.2))) (AP X aa σ Q) X.xe s
section
variable{X:Cx}{CX:CXT}{k:Nat}{f C:Vh}{fd:UU}{ps ks:List Str}{sp:Sp}{E:XK}{x m:Str}{p pos ao eE:Pos}{e o:Expr}{es:List Expr}{i6:List U2}{te ta:TE}{t tk:TA}{nm:Option Str}
theorem XJc:PK X [] Jba:=λ_ _ _ _ H Q I h=>wpAny_evalAll_nil ⟨[],H,I,.nil,h⟩
theorem Yic(ha:PE X e te)(hr:PK X i6 t):PK X (⟨nm,e,eE⟩::i6) (YVa te t):=by
 intro pos aa s σ H Q I h;show VV _ _ (evalAll ((do let v <- VX e X.env;V5 pos;pure v)::(U3 pos (U4 i6 X.env)).map (·.2))) _ _ s
 refine wpAny_evalAll_cons (Uh (thn (ha aa s σ H _ I h) λu s1 ⟨x,H1,I1,r1,q1⟩=>Uh (U5 (Ug ?_))))
 exact thn (hr pos aa s1 σ H1 _ I1 q1) λus s2 ⟨xs,H2,I2,r2,q2⟩=>⟨x::xs,H2,I2,.cons r1 r2,q2⟩
variable{g:List Va->List Va->List Va}{gV:List V->List V->List V}
end
structure Qp(N P:List Str)(sc:Scope):Prop where
 kind:sc.kind=.function
 co:sc.isCoroutine=false
 gen:sc.isGenerator=false
 nd:N.Nodup
 pre:N.take P.length=P
 par:∀ x∈P,sc.names.lookup x=Vo .local\/sc.names.lookup x=Vo .cell
 nofree:∀ y∈sc.names,y.2≠.free
theorem Qmb{kindOf:Str->Option U6}{x:Str}:∀ {binds:List (Str×Va)} {m:Str->Option Va},(∀ v,(x,v)∉binds)->U7 kindOf binds m x=m x
 | [],_,_=>rfl
 | (n,v)::r,m,h=>by
  unfold U7;rw[Qmb λw hw=>h w (VO _ hw)]
  split
  ·have:x≠n:=by rintro rfl;exact h v VN
   simp[this]
  ·rfl
theorem Qnb{kindOf:Str->Option U6}{x:Str}:∀ {binds:List (Str×Va)} {m:Str->Option Va},(∀ v,(x,v)∉binds)->U8 kindOf binds m x=m x
 | [],_,_=>rfl
 | (n,v)::r,m,h=>by
  unfold U8;rw[Qnb λw hw=>h w (VO _ hw)]
  split
  ·rfl
  ·have:x≠n:=by rintro rfl;exact h v VN
   simp[this]
theorem Qob{kindOf:Str->Option U6}{x:Str}{v:Va}:∀ {P:List Str} {vs:List Va} {i:Nat} {m:Str->Option Va},P.Nodup->P[i]?=Vo x->vs[i]?=Vo v->kindOf x=Vo .local ->
 U7 kindOf (P.zip vs) m x=Vo v
 | [],_,_,_,_,h,_,_=>by simp at h
 | _::_,[],_,_,_,_,h,_=>by simp at h
 | p::P,w::vs,0,m,nd,h1,h2,hk=>by
  simp at h1 h2;subst h1;subst h2;show U7 kindOf ((p,w)::P.zip vs) m p=_;unfold U7;rw[Qmb λv hv=>(nodup_cons.mp nd).1 (of_mem_zip hv).1,if_pos hk]
  simp
 | p::P,w::vs,i+1,m,nd,h1,h2,hk=>by
  show U7 kindOf ((p,w)::P.zip vs) m x=_;unfold U7;exact Qob (i:=i) (nodup_cons.mp nd).2 (by simpa using h1) (by simpa using h2) hk
theorem Qpb{kindOf:Str->Option U6}{x:Str}{v:Va}:∀ {P:List Str} {vs:List Va} {i:Nat} {m:Str->Option Va},P.Nodup->P[i]?=Vo x->vs[i]?=Vo v->kindOf x≠Vo .local ->
 U8 kindOf (P.zip vs) m x=Vo v
 | [],_,_,_,_,h,_,_=>by simp at h
 | _::_,[],_,_,_,_,h,_=>by simp at h
 | p::P,w::vs,0,m,nd,h1,h2,hk=>by
  simp at h1 h2;subst h1;subst h2;show U8 kindOf ((p,w)::P.zip vs) m p=_;unfold U8;rw[Qnb λv hv=>(nodup_cons.mp nd).1 (of_mem_zip hv).1,if_neg hk]
  simp
 | p::P,w::vs,i+1,m,nd,h1,h2,hk=>by
  show U8 kindOf ((p,w)::P.zip vs) m x=_;unfold U8;exact Qpb (i:=i) (nodup_cons.mp nd).2 (by simpa using h1) (by simpa using h2) hk
def Jca(N:List Str)(vs:List V):St:=vs.map Vo++List.replicate (N.length - vs.length) Vp
def Jda(CX:CXT)(P:Vg)(w:Vb)(K:VD)(mg:Str->Option Va)(base:Vq)(N:List Str)(qual:Str)(scope:Scope)(f:Vh)(cd:Va)(A:VG)(outer:List Env)(s:VH)(H:Hp)(E:XK):Cx where
 prog:=P
 w:=w
 K:=K
 mg:=mg
 base:=base
 A:=A.deeper (U9 qual scope s.heap.objs.size f cd)
 N:=N
 s₀:=s
 H₀:=H
 env:=U9 qual scope s.heap.objs.size f cd
 outer:=outer
 stack:=U9 qual scope s.heap.objs.size f cd::outer
 ex:=[]
 calm:=true
 fn:=λ_=>true
 pn:=[]
 xe:=λe s'=>VV (VW P w) (A.deeper (U9 qual scope s.heap.objs.size f cd)) (leaving (U9 qual scope s.heap.objs.size f cd) e) (λ_ dA=>CX outer H s E e dA) (λe' dA=>CX outer H s E e' dA) s'
theorem ZXb{sc:Scope}{n:Nat}{x:Str}(h:sc.names.lookup x=Vo .cell):∃ c,(cellsFrom n sc.names []).lookup x=Vo c:=by
 have q:=W.cellsFrom_some sc.names n [] (.inl h);exact Option.isSome_iff_exists.mp q
theorem X5b{CX:CXT}{P:Vg}{w:Vb}{K:VD}{mg:Str->Option Va}{base:Vq}{N ps:List Str}{qual:Str}{scope:Scope}{f:Vh}{cd:Va}{A:VG}{outer:List Env}{s s1:VH}{H:Hp}{E:XK}{us:List Va}{vs:List V}
 (S:Qp N ps scope) (hd:A.handled=Vp) (e0:Yjb P w K mg base A outer s H) (hl:vs.length=ps.length) (r:QG vs us)
 (x:InCallC s s.heap.objs.size (U7 (U9 qual scope s.heap.objs.size f cd).kindOf (ps.zip us) λ_=>Vp) (cellsFrom (s.heap.objs.size+1) scope.names []) (U8 (U9 qual scope s.heap.objs.size f cd).kindOf (ps.zip us) λ_=>Vp) s1) :
 Inv (Jda CX P w K mg base N qual scope f cd A outer s H E) [] (Jca N vs) H s1:=by
 have aN:ps.length<=N.length:=by have:=congrArg List.length S.pre;rw[Oa]at this;lia
 obtain⟨h1,tk,rfl,hk⟩:=x.done;have jN:∀ b:Vh,b∉(Jda CX P w K mg base N qual scope f cd A outer s H E).ex:=λb z=>absurd (show b∈([]:List Vh) from z) #[2]
 refine⟨⟨e0.mod,S.kind,rfl,rfl,Um _,λy z c h1 h2=>?_,λy hy=>?_,λy c _ h=>?_,λ_=>hd,Around.frames_deeper e0.frames,.inr ⟨rfl,rfl⟩,λb z=>absurd z (jN b),e0.bs,e0.bsz,λb _ _=>jN b,λb z=>absurd z (jN b),e0.funs,e0.frf⟩,
  rfl,e0.bare,Un.kept hk,⟨_,x.toInCall.ns,λi y v h1 h2 h3=>?_⟩,λy c h=>⟨_,x.cell y c h⟩,e0.hok.fresh (Um _),λy c h=>?_,λp hp=>absurd (show p∈([]:YP_) from hp) #[2],e0.hok.kept hk,?_⟩
 ·exact name_of_addr x.apart (Ob h1) (Ob h2)
 ·have hy:scope.names.lookup y=Vo .cell\/scope.names.lookup y=Vo .free:=hy
  rcases hy with hy | hy
  ·exact ZXb hy
  ·exact absurd rfl (S.nofree _ (Ob hy))
 ·exact VL (x.above y c (Ob h))
 ·have hi:i < vs.length:=by
   unfold Jca at h2
   by_cases hi:i < vs.length
   ·exact hi
   ·rw[Oc (by simpa using hi)]at h2
    rw[getElem?_replicate]at h2
    split at h2 <;> cases h2
  have ha:vs[i]?=Vo v:=by
   unfold Jca at h2;rw[Od (by simpa using hi),Oe]at h2
   cases e:vs[i]? with
   | none=>rw[e]at h2;cases h2
   | some a=>rw[e]at h2;cases h2;rfl
  obtain⟨u,hu,rv⟩:=r.get ha;have hp:ps[i]?=Vo y:=by
   rw[<- S.pre,getElem?_take_of_lt #[0]];exact h1
  have uK:ps.Nodup:=by rw[<- S.pre];exact S.nd.sublist (Of _ _)
  refine⟨u,rv,?_⟩
  rcases S.par y (Og hp) with k | k
  ·exact .inl ⟨k,Qob uK hp hu k⟩
  ·obtain⟨c,e⟩:=ZXb (n:=s.heap.objs.size+1) k
   refine .inr ⟨.inl k,c,e,?_⟩
   have q:=x.cell y c e;rw[Qpb uK hp hu (by show scope.names.lookup y≠_;rw[k];decide)]at q
   exact q
 ·exact e0.hok.fresh (VL (x.above y c (Ob h)))
 ·unfold Jca
  show _=N.length;rw[Oh,UJ,length_replicate]
  lia
theorem Y6c{CX:CXT}{P:Vg}{w:Vb}{K:VD}{mg:Str->Option Va}{base:Vq}{k:Nat}{f:Vh}{name qual:Str}{params:Arguments}{body:List V0}{scope:Scope}{dV kV bS pm ap ct oc:Va}{an od:Option Vh}
 {dR:Array (Option Va)} {N ps:List Str} {sp:Sp} (lk:K.lookup f=Vo ⟨oc,od,.func (Oi name qual params body scope dV kV bS pm an ap ct),dR⟩) (b7:W.codeIn K ap qual=true) (S:Qp N ps scope)
 (len:∀ vs H Q E,sp vs H Q E->vs.length=ps.length)
 (ck:∀ (A:VG) (outer:List Env) (s:VH) (H:Hp) (vs:List V) (Q:VK) (E:XK),Zi k (A.deeper (U9 qual scope s.heap.objs.size f ap))->sp vs H Q E ->
  ∃ t,PSs (Jda CX P w K mg base N qual scope f ap A outer s H E) body t/\t { nx:=λ_ H'=>Q .non H',rt:=Q } (Jca N vs) H) :
 QE P w K mg base CX (k+1) f (Oi name qual params body scope dV kV bS pm an ap ct) ps sp:=by
 refine⟨len,λA outer s H args us vs Q E hr e0 hb r dB=>?_⟩
 have hl:=len _ _ _ _ dB;have KX:K.In s.heap:=e0.mod.kin.keeps λb o e=>(e0.bs b o e).1
 have yi:s.heap.NoLimit:=e0.mod.nolimit.keeps λb o e=>(e0.bs b o e).1
 have jO:∀ y∈ps.zip us,scope.names.lookup y.1=Vo .local\/(scope.names.lookup y.1=Vo .cell/\((cellsFrom (s.heap.objs.size+1) scope.names []).lookup y.1).isSome=true):=λ⟨n,v⟩ hy=>by
  rcases S.par n (of_mem_zip hy).1 with q | q
  ·exact .inl q
  ·exact .inr ⟨q,W.cellsFrom_some _ _ _ (.inl q)⟩
 refine codeAny_call_function hr.depth (KX _ _ lk) rfl S.co S.gen rfl (W.codeRec_of KX b7) (hb _ _ _ _ ?_)
 refine wpAny_newFunctionEnv_cells S.kind jO λenv he s1 x=>?_
 subst he;refine⟨yi.keeps x.toInCall.keep,codeAny_func ?_⟩
 obtain⟨t,ht,hq⟩:=ck A outer s H vs Q E (hr.deeper _) dB;have I:Inv (Jda CX P w K mg base N qual scope f ap A outer s H E) [] (Jca N vs) H s1:=X5b S hr.hd e0 hl r x;refine V1 (ht [] s1 (Jca N vs) H _ I hq) (λfl s' hs=>?_) λe s' hs=>hs
 have fin:∀ {σ':St} {H':Hp} {v:V} {u:Va},Inv (Jda CX P w K mg base N qual scope f ap A outer s H E) [] σ' H' s'->QB v u->Q v H'->CE outer P w H s Q u s' :=
  λ{σ' H' v u} J rv q=>⟨v,H',J.os,J.bare,J.base,J.hok,rv,q⟩
 cases fl with
 | ret u =>
  obtain⟨v,σ',H',J,rv,q⟩:=hs;exact fin J rv q
 | next =>
  obtain⟨σ',H',J,q⟩:=hs;exact fin (v:=V.non) (u:=Vi) J rfl q
 | brk =>
  obtain⟨_,_,_,q⟩:=hs;exact V8 q
 | cont =>
  obtain⟨_,_,_,q⟩:=hs;exact V8 q
section
variable{X:Cx}{x:Str}{p pos:Pos}{e:Expr}{es:List Expr}{t:TA}{id T:String}{r:List V->Hp->VK->Prop}
def tCB(r:List V->Hp->VK->Prop)(t:TA):TE:=λσ H Q=>t σ H λvs H1=>r vs H1 Q
theorem Q5(hc:Qoa X (.builtin id) r)(hg:Gl X x)(hm:X.mg x=Vp)(hv:VF x=Vo (.builtin id))(ha:PA X (e::es) t)(hn:x≠"__name__":=by decide)(aV:(x == ("__debug__":Str))=false:=by decide)
 (he:VZ (e::es) X.env=(false,VX e X.env)::VZ es X.env:=by rfl) (aN:(VY pos (VZ es X.env)).any (·.1)=false:=by rfl):PE X (.Call (.Name x p) (e::es) [] pos) (tCB r t):=by
 intro aa s σ H Q I h;refine UY (XA I hg hm hv ?_ hn aV)
 exact PyProof.Rows.callWith_builtin1 (thn (ha pos aa s σ H _ I h) λus s1 ⟨vs,H1,I1,r1,q1⟩=>hc aa s1 σ H1 vs us Q I1 r1 q1) he aN
theorem QS(hc:Qoa X (.type T) r)(hg:Gl X x)(hm:X.mg x=Vp)(hv:VF x=Vo (.type T))(ha:PA X (e::es) t)(hn:x≠"__name__":=by decide)(aV:(x == ("__debug__":Str))=false:=by decide)
 (he:VZ (e::es) X.env=(false,VX e X.env)::VZ es X.env:=by rfl) (aN:(VY pos (VZ es X.env)).any (·.1)=false:=by rfl):PE X (.Call (.Name x p) (e::es) [] pos) (tCB r t):=by
 intro aa s σ H Q I h;refine UY (XA I hg hm hv ?_ hn aV)
 exact Uq (thn (ha pos aa s σ H _ I h) λus s1 ⟨vs,H1,I1,r1,q1⟩=>hc aa s1 σ H1 vs us Q I1 r1 q1) he aN
end
end L2
namespace HT
open PySem PyProof.Rows
theorem Q9c(A:VG)(s:VH)(a:Int)(t:Tok)(c:Int)(u:Tok):∃ e,Oj A s (.int a t) (.int c u) e/\(e=true↔a=c) :=
 ⟨(a == c),SeqAt.EqAt.int_int a t c u,by simp⟩
theorem Zac(A:VG)(s:VH)(a:Int)(t:Tok)(c:Int)(u:Tok)(prog:Vg)(w:Vb)(E:YQ_)(Q:YQ_)(h:Q (.bool (decide (a < c))) s) :
 VV (VW prog w) A (richCompare .Lt (.int a t) (.int c u)) Q E s :=
 (PyProof.Rows.lt_int h:VV (VW prog w) A (V2 .Lt (.int a t) (.int c u)) Q E s)
section
open PySem.SeqAt
open PySem.AutoSeq1 (wpAny_loadPart')
open PySem.MeetsSeq PySem.MeetsSeq2 PySem.MeetsSeq3
end
section
variable{prog:Vg}{w:Vb}{A:VG}{E:YQ_}{s:VH}
def sIx(n d:Nat):Option Int->Nat
 | none=>d
 | some v=>if v < 0 then (v+(n:Int)).toNat else min v.toNat n
theorem Xfb(n d k:Nat):sIx n d (Vo (k:Int))=min k n:=by
 show(if (k:Int) < 0 then ((k:Int)+(n:Int)).toNat else min (k:Int).toNat n)=min k n
 rw[if_neg #[0],Int.toNat_natCast]
end
end HT
namespace L2
open PySem PySem.Spec PyProof.Rows
abbrev TO:=St->Hp->(Option Int->Hp->Prop)->Prop
def PO(X:Cx)(e:Option Expr)(t:TO):Prop :=
 ∀ (aa:YP_) (s:VH) (σ:St) (H:Hp) (Q:Option Int->Hp->Prop),Inv X aa σ H s->t σ H Q ->
  VV (VW X.prog X.w) X.A (evalPart e X.env) (λu s'=>∃ o H',Inv X aa σ H' s'/\IsPart u o/\Q o H') X.xe s
def Y0:TO:=λ_ H Q=>Q Vp H
def Yea(t:TE):TO:=λσ H Q=>t σ H λx H1=>∃ i,x=.int i/\Q (Vo i) H1
section
variable{X:Cx}{e:Expr}{te:TE}{lo hi:Option Expr}{tl th:TO}{pos p2:Pos}
theorem Zd:PO X Vp Y0:=by
 intro aa s σ H Q I h;rw[evalPart_none];exact Ug ⟨Vp,H,I,.none,h⟩
theorem QY(h:PE X e te):PO X (Vo e) (Yea te):=by
 intro aa s σ H Q I hw;rw[evalPart_some];refine thn (h aa s σ H _ I hw) λu s1 hZ=>?_
 obtain⟨x,H1,I1,r1,q1⟩:=hZ;obtain⟨i,rfl,q⟩:=q1;obtain⟨t,rfl⟩:=r1;exact⟨Vo i,H1,I1,.int i t,q⟩
def SlR(X:Cx)(r:V->Option Int->Option Int->Hp->VK->Prop):Prop :=
 ∀ (aa:YP_) (s:VH) (σ:St) (H:Hp) (x:V) (v vl vu:Va) (lo hi:Option Int) (sl:Vh) (Q:VK),Inv X aa σ H s->QB x v->s.heap.IsSliceOf sl vl vu .none->IsPart vl lo->IsPart vu hi->r x lo hi H Q ->
  ∃ T id,Ol (.type T) "__getitem__"=pure (Vo (.builtin id))/\s.TypeIs v T/\VV (VW X.prog X.w) X.A (Om v (.ref sl)) (EP X aa σ Q) X.xe s
def tSl(r:V->Option Int->Option Int->Hp->VK->Prop)(te:TE)(tl th:TO):TE:=λσ H Q=>te σ H λx H1=>tl σ H1 λl H2=>th σ H2 λu H3=>r x l u H3 Q
theorem QP{r:V->Option Int->Option Int->Hp->VK->Prop}(hr:SlR X r)(he:PE X e te)(hl:PO X lo tl)(hu:PO X hi th):PE X (.Subscript e (.Slice lo hi Vp p2) pos) (tSl r te tl th):=by
 intro aa s σ H Q I h;refine Subscript_ (thn (he aa s σ H _ I h) λv s1 hZ=>?_)
 obtain⟨x,H1,I1,r1,q1⟩:=hZ;refine wpAny_Slice (thn (hl aa s1 σ H1 _ I1 q1) λvl s2 ⟨l,H2,I2,pl,q2⟩=>thn (hu aa s2 σ H2 _ I2 q2) λvu s3 hZ=>?_)
 obtain⟨u,H3,I3,pu,q3⟩:=hZ;rw[evalPart_none];refine Ug ?_
 have I4:Inv X aa σ H3 { s3 with heap:=s3.heap.push { cls:=.type "slice",data:=.fields #[vl,vu,.none] } }:=I3.kept (t':=s3.toks) λb ob q=>Uk _ q
 obtain⟨T,id,hT,ht,hg⟩:=hr aa { s3 with heap:=s3.heap.push { cls:=.type "slice",data:=.fields #[vl,vu,.none] } } σ H3 x v vl vu l u s3.heap.objs.size Q I4 r1 (Heap.IsSliceOf.new ..) pl pu q3
 show VV (VW X.prog X.w) X.A (subscriptTail e (.Slice lo hi Vp p2) v (.ref s3.heap.objs.size)) (EP X aa σ Q) X.xe { s3 with heap:=s3.heap.push { cls:=.type "slice",data:=.fields #[vl,vu,.none] } }
 exact tail_any (ops:=[.ref s3.heap.objs.size,v]) ht hT hg (by with_unfolding_all rfl)
def Yd(xs:List V)(lo hi:Option Int):List V:=(xs.drop (HT.sIx xs.length 0 lo)).take (HT.sIx xs.length xs.length hi - HT.sIx xs.length 0 lo)
theorem Yfa(xs:List V)(lo hi:Option Int):(Yd xs lo hi).length<=xs.length:=by
 unfold Yd;rw[Oa,On]
 lia
end
def ixN(n:Nat)(i:Int):Option Nat:=if 0<=i then (if i < n then Vo i.toNat else Vp) else if -(n:Int)<=i then Vo (i+n).toNat else Vp
def atI{α:Type}(xs:List α)(i:Int):Option α:=(ixN xs.length i).bind λj=>xs[j]?
theorem Yjc{n:Nat}{i:Int}{j:Nat}(h:ixN n i=Vo j):seqIndex? i n=Vo j/\j < n /\ -(n:Int)<=i/\i < n:=by
 unfold ixN at h
 by_cases h0:0<=i
 ·rw[if_pos h0]at h
  by_cases h1:i < n
  ·rw[if_pos h1]at h
   have e:i.toNat=j:=Vr h;exact⟨by rw[seqIndex_of h0 h1,e],by lia,by lia,h1⟩
  ·rw[if_neg h1]at h;cases h
 ·rw[if_neg h0]at h
  by_cases h1 : -(n:Int)<=i
  ·rw[if_pos h1]at h
   have e:(i+n).toNat=j:=Vr h;exact⟨by rw[seqIndex_neg #[0] h1,e],by lia,h1,by lia⟩
  ·rw[if_neg h1]at h;cases h
theorem QUb{α:Type}{xs:List α}{i:Int}{v:α}(h:atI xs i=Vo v):∃ j,seqIndex? i xs.length=Vo j/\xs[j]?=Vo v/\j < xs.length /\ -(xs.length:Int)<=i/\i < xs.length:=by
 unfold atI at h;cases e:ixN xs.length i with
 | none=>rw[e]at h;cases h
 | some j =>
  rw[e]at h;obtain⟨h1,h2,h3,h4⟩:=Yjc e;exact⟨j,h1,h,h2,h3,h4⟩
theorem Zx{α:Type}{xs:List α}{j:Nat}{v:α}(h:xs[j]?=Vo v):atI xs (j:Int)=Vo v:=by
 have hj:j < xs.length:=(List.getElem?_eq_some_iff.mp h).1
 have e:ixN xs.length (j:Int)=Vo j:=by
  unfold ixN;rw[if_pos #[0],if_pos #[0]];simp
 unfold atI;rw[e];exact h
theorem Qya{α:Type}(xs:List α)(v:α):atI (xs++[v]) (-1)=Vo v:=by
 have hl:(xs++[v]).length=xs.length+1:=by simp
 have e:ixN (xs++[v]).length (-1)=Vo xs.length:=by
  unfold ixN;rw[hl,if_neg #[1],if_pos #[0]]
  congr 1
  lia
 unfold atI;rw[e];show(xs++[v])[xs.length]?=Vo v;simp
def Ykc(b:Expr):Prop:=∀ o i,Oo b false o i=operate [o,i] (Om o i)
def IxR(X:Cx)(r:R2):Prop :=
 ∀ (value aU:Expr) (aa:YP_) (s:VH) (σ:St) (H:Hp) (x y:V) (v u:Va) (Q:VK),Inv X aa σ H s->QB x v->QB y u->r x y H Q ->
  Oo aU false v u=operate [v,u] (Om v u)->VV (VW X.prog X.w) X.A (subscriptTail value aU v u) (EP X aa σ Q) X.xe s
def MtR(X:Cx)(id:String)(r:V->List V->Hp->VK->Prop):Prop :=
 ∀ (aa:YP_) (s:VH) (σ:St) (H:Hp) (x:V) (xs:List V) (v:Va) (us:List Va) (Q:VK),Inv X aa σ H s->QB x v->QG xs us->r x xs H Q ->
  VV (VW X.prog X.w) X.A (Ut (.builtin id) (v::us)) (EP X aa σ Q) X.xe s
section
variable{X:Cx}{a b:Expr}{ta tb:TE}{pos:Pos}
theorem QA{r:R2}(hr:IxR X r)(ha:PE X a ta)(hb:PE X b tb)(hs:Ykc b):PE X (.Subscript a b pos) (tOp r ta tb):=by
 intro aa s σ H Q I h;exact Subscript_ (XDc ha hb I h λv u s2 x y H2 I2 rx ry q=>hr a b aa s2 σ H2 x y v u Q I2 rx ry q (hs _ _))
def QMd(K:VD):R2:=λx y H Q=>∃ p xs i v,x=.ref p/\y=.int i/\SqL K H p xs/\atI xs i=Vo v/\Q v H
def X6b(K:VD):R2:=λx y H Q=>∃ p xs i v,x=.ref p/\y=.int i/\SqT K H p xs/\atI xs i=Vo v/\Q v H
def QNd:R2:=λx y H Q=>∃ z i c,x=.str z/\y=.int i/\z.length<=Vs/\atI z.cps.toList i=Vo c/\Q (.str ⟨#[c]⟩) H
theorem Zl:IxR X (QMd X.K):=by
 intro value aU aa s σ H x y v u Q I rx ry h hs;obtain⟨p,xs,i,z,rfl,rfl,hq,he,q⟩:=h;cases rx;obtain⟨t,rfl⟩:=ry;obtain⟨ah,r,pl,hz⟩:=I.list hq;obtain⟨j,h1,h2,h3,h4,h5⟩:=QUb he;obtain⟨w,ew,bx⟩:=r.get h2;have hl:=r.length;have hn:=YUa;have fin:EP X aa σ Q w s:=⟨z,H,I,bx,q⟩
 by_cases h0:0<=i
 ·have hj:i.toNat=j:=by
   rw[seqIndex_of h0 h5]at h1;exact Vr h1
  exact item_listR pl.isList h0 #[0] (by rw[hj];simpa using ew) fin hs
 ·have hj:(i+(ah.toArray.size:Int)).toNat=j:=by
   rw[seqIndex_neg #[0] h4]at h1
   rw[Ux,<- hl];exact Vr h1
  exact subscriptTail_builtinR (x:=w) pl.isList.typeIs slot_list_getitem.lookup
   (wpAny_getItem_list_neg (Q:=λr s'=>r=w/\EP X aa σ Q r s') pl.isList #[0] (by rw[Ux] <;> lia) #[0] (by rw[hj];simpa using ew) ⟨rfl,fin⟩) hs
theorem QC:IxR X (X6b X.K):=by
 intro value aU aa s σ H x y v u Q I rx ry h hs;obtain⟨p,xs,i,z,rfl,rfl,hq,he,q⟩:=h;cases rx;obtain⟨t,rfl⟩:=ry;obtain⟨ah,r,pl,hz⟩:=I.tuple hq;obtain⟨j,h1,h2,h3,h4,h5⟩:=QUb he;obtain⟨w,ew,bx⟩:=r.get h2;have hl:=r.length;have hn:=YUa;have fin:EP X aa σ Q w s:=⟨z,H,I,bx,q⟩;exact subscriptTail_builtinR (x:=w) pl.typeIs slot_tuple_getitem.lookup
  (getItem_tuple (j:=j) (Q:=λr s'=>r=w/\EP X aa σ Q r s') pl #[0] #[0] (by rw[Ux,<- hl];exact h1) (by simpa using ew) ⟨rfl,fin⟩) hs
theorem XKc:IxR X QNd:=by
 intro value aU aa s σ H x y v u Q I rx ry h hs;obtain⟨z,i,c,rfl,rfl,hz,he,q⟩:=h;obtain⟨t,rfl⟩:=rx;obtain⟨t',rfl⟩:=ry;obtain⟨j,h1,h2,h3,h4,h5⟩:=QUb he;have hl:z.cps.toList.length=z.length:=by simp[Str.length]
 rw[hl]at h1 h4 h5;have hn:=YUa;exact tail_any (typeIs_str s z t) slot_str_getitem.lookup (getItem_str (c:=c) (by
  have e1:decide (i < -(2 ^ 63:Int))=false:=decide_eq_false #[0]
  have e2:decide (i >= 2 ^ 63)=false:=decide_eq_false #[0]
  rw[e1,e2,Bool.or_false]) (by rw[h1];simpa using h2) ⟨.str ⟨#[c]⟩,H,I.tok _,⟨_,rfl⟩,q⟩) hs
theorem QVb(lo hi:Option Int)(n:Nat):(Op lo hi Vp n).1=((HT.sIx n 0 lo:Nat):Int)/\(Op lo hi Vp n).2.1=((HT.sIx n n hi:Nat):Int)/\(Op lo hi Vp n).2.2=1:=by
 refine⟨?_,?_,rfl⟩
 ·cases lo with
  | none=>simp[Op,HT.sIx]
  | some i =>
   simp only[Op,HT.sIx,Option.getD_none,show(1:Int) > 0 by decide,if_true]
   by_cases h:i < 0
   ·simp only[h,if_true] <;> lia
   ·simp only[h,if_false] <;> lia
 ·cases hi with
  | none=>simp[Op,HT.sIx]
  | some i =>
   simp only[Op,HT.sIx,Option.getD_none,show(1:Int) > 0 by decide,if_true]
   by_cases h:i < 0
   ·simp only[h,if_true] <;> lia
   ·simp only[h,if_false] <;> lia
theorem XTa(ah:List Va)(lo hi:Option Int):slicePick ah.toArray lo hi Vp=((ah.drop (HT.sIx ah.length 0 lo)).take (HT.sIx ah.length ah.length hi - HT.sIx ah.length 0 lo)).toArray:=by
 obtain⟨h1,h2,h3⟩:=QVb lo hi ah.toArray.size;unfold slicePick;rw[h1,h2,h3];simp only[sliceRange_one,pick_run,Ux] <;> rfl
def ZYb(K:VD):V->Option Int->Option Int->Hp->VK->Prop:=λx lo hi H Q=>∃ a xs,x=.ref a/\SqL K H a xs/\∀ p,H p=Vp->Q (.ref p) (upd H p (.lst (Yd xs lo hi)))
theorem Q7:SlR X (ZYb X.K):=by
 intro aa s σ H x v vl vu lo hi sl Q I rx hs pl pu h;obtain⟨a,xs,rfl,hx,q⟩:=h;cases rx;obtain⟨ah,r,ht,hz⟩:=I.list hx;have aA:=r.length;refine⟨"list",_,slot_list_getitem.lookup,ht.isList.typeIs,?_⟩
 refine wpAny_getItem_list_slice ht.isList hs pl pu .none #[2] ?_ (by rw[Ux] <;> lia)
 rw[XTa,<- aA];refine⟨.ref s.heap.objs.size,_,I.laid (t':=s.toks) (o:=.lst (Yd xs lo hi)) (λb ob q=>Uk _ q) (Um _) ?_,rfl,q _ (I.hok.fresh (Um _))⟩
 exact⟨VJ (Yfa xs lo hi) hz,_,0,(r.drop (HT.sIx xs.length 0 lo)).take (HT.sIx xs.length xs.length hi - HT.sIx xs.length 0 lo),Ul _ rfl⟩
def Zya:V->Bool
 | .non=>true
 | .bl _=>true
 | .int _=>true
 | .str _=>true
 | _=>false
def eqV:V->V->Bool
 | .non,.non=>true
 | .bl a,.bl b=>a == b
 | .bl a,.int b=>(if a then 1 else 0) == b
 | .int a,.bl b=>a == (if b then 1 else 0)
 | .int a,.int b=>a == b
 | .str a,.str b=>a == b
 | _,_=>false
theorem Ykb{A:VG}{s:VH}{y x:V}{u v:Va}(ry:QB y u)(rx:QB x v)(fy:Zya y=true)(fx:Zya x=true):Oj A s u v (eqV y x):=by
 cases y with
 | non =>
  cases ry;cases x with
  | non=>cases rx;exact SeqAt.EqAt.same _
  | bl b=>cases rx;exact SeqAt.EqAt.none_bool b
  | int b=>obtain⟨t,rfl⟩:=rx;exact SeqAt.EqAt.none_int b t
  | str b=>obtain⟨t,rfl⟩:=rx;exact SeqAt.EqAt.none_str b t
  | _=>exact absurd (show false=true from fx) Uc
 | bl a =>
  cases ry;cases x with
  | non=>cases rx;exact SeqAt.EqAt.bool_none a
  | bl b=>cases rx;exact SeqAt.EqAt.bool_bool a b
  | int b=>obtain⟨t,rfl⟩:=rx;exact SeqAt.EqAt.bool_int a b t
  | str b=>obtain⟨t,rfl⟩:=rx;exact SeqAt.EqAt.bool_str a b t
  | _=>exact absurd (show false=true from fx) Uc
 | int a =>
  obtain⟨t',rfl⟩:=ry;cases x with
  | non=>cases rx;exact SeqAt.EqAt.int_none a t'
  | bl b=>cases rx;exact SeqAt.EqAt.int_bool a t' b
  | int b=>obtain⟨t,rfl⟩:=rx;exact SeqAt.EqAt.int_int a t' b t
  | str b=>obtain⟨t,rfl⟩:=rx;exact SeqAt.EqAt.int_str a t' b t
  | _=>exact absurd (show false=true from fx) Uc
 | str a =>
  obtain⟨t',rfl⟩:=ry;cases x with
  | non=>cases rx;exact SeqAt.EqAt.str_none a t'
  | bl b=>cases rx;exact SeqAt.EqAt.str_bool a t' b
  | int b=>obtain⟨t,rfl⟩:=rx;exact SeqAt.EqAt.str_int a t' b t
  | str b=>obtain⟨t,rfl⟩:=rx;exact SeqAt.EqAt.str_str a t' b t
  | _=>exact absurd (show false=true from fx) Uc
 | _=>exact absurd (show false=true from fy) Uc
theorem Q8:Qoa X (.builtin "len") (λxs H Q=>∃ p ys,xs=[.ref p]/\(SqL X.K H p ys\/SqT X.K H p ys)/\Q (.int ys.length) H):=by
 intro aa s σ H xs us Q I r h;obtain⟨p,ys,rfl,hq,q⟩:=h;obtain⟨u,rfl,rx⟩:=Zxa r;cases rx;have hn:=YUa
 rcases hq with hq | hq
 ·obtain⟨ah,r',pl,hz⟩:=I.list hq
  have aA:=r'.length;exact Calls.call_len_list pl.isList (by simp only[Ux] <;> lia) ⟨.int ys.length,H,I.tok _,⟨s.toks+1,by rw[Ux,aA]⟩,q⟩
 ·obtain⟨ah,r',pl,hz⟩:=I.tuple hq
  have aA:=r'.length;exact len_tuple pl (by simp only[Ux] <;> lia) ⟨.int ys.length,H,I.tok _,⟨s.toks+1,by rw[Ux,aA]⟩,q⟩
theorem Q9:Qoa X (.type "list") (λxs H Q=>∃ p ys,xs=[.ref p]/\(SqL X.K H p ys\/SqT X.K H p ys)/\∀ l,H l=Vp->Q (.ref l) (upd H l (.lst ys))):=by
 intro aa s σ H xs us Q I r h;obtain⟨p,ys,rfl,hq,q⟩:=h;obtain⟨u,rfl,rx⟩:=Zxa r;cases rx;have fin:∀ (ah:List Va),QG ys ah->ys.length<=Vs->∀ (h':Vq) (c':Nat),(∀ b o',s.heap.get? b=Vo o'->h'.get? b=Vo o') ->
  h'.get? s.heap.objs.size=Vo { cls:=.type "list",dict:=Vp,data:=.seq ah.toArray c',slots:=#[] }->EP X aa σ Q (.ref s.heap.objs.size) { s with heap:=h' }:=λah r' hz h' c' kp e =>
  ⟨.ref s.heap.objs.size,_,I.laid (t':=s.toks) kp (Um _) (show QR X.prog X.w _ h' _ (.lst ys) from⟨hz,ah,c',r',e⟩),rfl,q _ (I.hok.fresh (Um _))⟩
 rcases hq with hq | hq
 ·obtain⟨ah,r',pl,hz⟩:=I.list hq
  have aA:=r'.length;obtain⟨o,ho,hc,n,hd⟩:=pl.isList;exact call_list_seq p (.inl rfl) ho hc hd (λh' c' kp e=>fin ah r' hz h' c' kp e) (by simp only[Ux] <;> lia)
 ·obtain⟨ah,r',pl,hz⟩:=I.tuple hq
  have aA:=r'.length;obtain⟨o,ho,hc,n,hd⟩:=pl;exact call_list_seq p (.inr rfl) ho hc hd (λh' c' kp e=>fin ah r' hz h' c' kp e) (by simp only[Ux] <;> lia)
theorem Zza:Qoa X (.type "tuple") (λxs H Q=>∃ p ys,xs=[.ref p]/\((SqL X.K H p ys/\∀ l,H l=Vp->Q (.ref l) (upd H l (.tup ys)))\/(SqT X.K H p ys/\Q (.ref p) H))):=by
 intro aa s σ H xs us Q I r h;obtain⟨p,ys,rfl,h⟩:=h;obtain⟨u,rfl,rx⟩:=Zxa r;cases rx
 rcases h with ⟨hq,q⟩ | ⟨hq,q⟩
 ·obtain⟨ah,r',pl,hz⟩:=I.list hq
  have aA:=r'.length;refine call_tuple_list pl.isList (λh' kp=>?_) (by simp only[Ux] <;> lia)
  have I1:Inv X aa σ H { s with heap:=h' }:=I.kept (t':=s.toks) kp
  have I2:Inv X aa σ (upd H h'.objs.size (.tup ys)) { s with heap:=h'.push { cls:=.type "tuple",data:=.seq ah.toArray } } :=
   I1.laid (t':=s.toks) (λb o e=>Uk _ e) (Um _) (show QR X.prog X.w _ _ _ (.tup ys) from⟨⟨hz,_,Ul _ rfl,rfl⟩,ah,r',IsTup.new _ _⟩)
  exact⟨.ref h'.objs.size,_,I2,rfl,q _ (I1.hok.fresh (Um _))⟩
 ·obtain⟨ah,r',pl,hz⟩:=I.tuple hq
  exact call_tuple_same pl ⟨.ref p,H,I,rfl,q⟩
def tyV(K:VD)(T:String)(x:V)(H:Hp):Prop:=match x with
 | .str _=>T="str"
 | .int _=>T="int"
 | .ref p=>(T="list"/\∃ xs,SqL K H p xs)\/(T="tuple"/\∃ o,K.lookup p=Vo o/\o.cls=.type "tuple"/\o.dict=Vp) \/
  (T="dict"/\((∃ ae,H p=Vo (.dK ae))\/∃ ae,H p=Vo (.dT ae)))\/(T="set"/\∃ S n,H p=Vo (.set S n))
 | _=>False
theorem XLc{aa:YP_}{σ:St}{H:Hp}{s:VH}{T:String}{x:V}{v:Va}(I:Inv X aa σ H s)(r:QB x v)(ty:tyV X.K T x H) :
 s.TypeIs v T/\∀ a,v=.ref a->∃ ob,s.heap.get? a=Vo ob/\ob.dict=Vp:=by
 cases x with
 | str z =>
  obtain⟨t,rfl⟩:=r;cases (show T="str" from ty)
  exact⟨typeIs_str s z t,λ_ e=>nomatch e⟩
 | int i =>
  obtain⟨t,rfl⟩:=r;cases (show T="int" from ty)
  exact⟨typeIs_int s i t,λ_ e=>nomatch e⟩
 | ref p =>
  cases r
  rcases ty with ⟨rfl,xs,hq⟩ | ⟨rfl,o,hk,hc,hd⟩ | ⟨rfl,hk⟩ | ⟨rfl,S,n,hk⟩
  ·obtain⟨ah,_,pl,_⟩:=I.list hq
   refine⟨pl.isList.typeIs,λa e=>?_⟩
   cases e;obtain⟨o,n,e,c,hd,_⟩:=pl;exact⟨o,e,hd⟩
  ·refine⟨⟨o,I.kIn p o hk,hc⟩,λa e=>?_⟩
   cases e;exact⟨o,I.kIn _ o hk,hd⟩
  ·have z:∃ o,s.heap.get? p=Vo o/\o.ExactDict:=by
    rcases hk with ⟨ae,hk⟩ | ⟨ae,hk⟩
    ·obtain⟨_,_,_,_,o,_,_,e,ex,_⟩:=I.hok p _ hk
     exact⟨o,e,ex⟩
    ·obtain⟨_,_,_,_,o,_,_,e,ex,_⟩:=I.hok p _ hk
     exact⟨o,e,ex⟩
   obtain⟨o,e,ex⟩:=z;refine⟨⟨o,e,ex.1⟩,λa e2=>?_⟩
   cases e2;exact⟨o,e,ex.2.1⟩
  ·obtain⟨o,_,_,_,e,ex,_⟩:=I.hok p _ hk
   refine⟨⟨o,e,ex.1⟩,λa e2=>?_⟩
   cases e2;exact⟨o,e,ex.2.1⟩
 | _=>exact V8 ty
def tBM(K:VD)(T:String)(r:V->List V->Hp->VK->Prop)(to:TE)(t:TA):TE:=λσ H Q=>to σ H λx H1=>tyV K T x H1/\t σ H1 λxs H2=>r x xs H2 Q
variable{o e:Expr}{es:List Expr}{to:TE}{t:TA}{name:Str}{ao ay:Pos}{T id:String}{r:V->List V->Hp->VK->Prop}
theorem Qza(pa:PlainAttrs T)(slot:Slot T name id)(yj:typeOf (.builtin id)=pure (.type "method_descriptor"))(hm:MtR X id r)(ho:PE X o to)(ha:PA X (e::es) t)
 (eF:UN o name X.env (VX o X.env)=VX o X.env:=by rfl)
 (jP:((VY ay (VZ (e::es) X.env)).all (λx=>!x.1) && (U3 ay (U4 [] X.env)).all (λx=>x.1.isSome)
  && decide ((e::es).length+([]:List U2).length+(if ([]:List U2).isEmpty then 0 else 1) < 30))=true:=by rfl)
 (jQ:(ao.endLine == ay.line)=true:=by rfl) (hs:VZ (e::es) X.env=(false,VX e X.env)::VZ es X.env:=by rfl) (hW:(VY ay (VZ es X.env)).any (·.1)=false:=by rfl) :
 PE X (.Call (.Attribute o name ao) (e::es) [] ay) (tBM X.K T r to t):=by
 intro aa s σ H Q I h;refine wpAny_Call_method_late eF jP jQ rfl (thn (ho aa s σ H _ I h) λv s1 hZ=>?_)
 obtain⟨x,H1,I1,r1,ty,q1⟩:=hZ;obtain⟨h1,h2⟩:=XLc I1 r1 ty;refine⟨T,id,pa,slot,yj,h1,h2,?_⟩
 have hA:=ha ay aa s1 σ H1 _ I1 q1;rw[hs]at hA ⊢;refine Oq (by show(false || (VY ay (VZ es X.env)).any (·.1))=false;rw[hW] <;> rfl) (Os ?_)
 exact thn hA λus s2 ⟨vs,H2,I2,r2,q2⟩=>hm aa s2 σ H2 x vs v us Q I2 r1 r2 q2
end
def MtM(X:Cx)(id:String)(r:V->List V->Hp->VK->Prop):Prop :=
 ∀ (aa:YP_) (s:VH) (σ:St) (H:Hp) (x:V) (xs:List V) (v:Va) (us:List Va) (Q:VK),Inv X aa σ H s->QB x v->QG xs us->r x xs H Q ->
  VV (VW X.prog X.w) X.A (Ut (.builtin id) (v::us)) (EP X aa σ Q) X.xe s
theorem QG.one:∀ {x:V} {us:List Va},QG [x] us->∃ u,us=[u]/\QB x u
 | _,_,.cons r .nil=>⟨_,rfl,r⟩
theorem QG.reverse{xs:List V}{us:List Va}(h:QG xs us):QG xs.reverse us.reverse:=by
 induction h with
 | nil=>exact .nil
 | cons r t ih=>rw[reverse_cons,reverse_cons];exact QG.append ih (.cons r .nil)
section
variable{X:Cx}{aa:YP_}{σ:St}{H:Hp}{s:VH}{l b:Vh}{xs ys zs:List V}
theorem Inv.lset{ah its':List Va}{n:Nat}{f:Array Va->Array Va}{t':Nat}(I:Inv X aa σ H s)(hH:H l=Vo (.lst xs))
 (e:s.heap.get? l=Vo { cls:=.type "list",data:=.seq ah.toArray n }) (hf:f ah.toArray=its'.toArray) (hv:QG ys its') (hz:ys.length<=Vs) :
 Inv X aa σ (upd H l (.lst ys)) { s with heap:=s.heap.update l (Ot f),toks:=t' }:=by
 have q:=PySem.IsL.update e f;rw[hf]at q;refine I.write (x:=l) (e:=l) (by rw[hH];exact trivial) (.inl rfl) (λb' u hb hu=>(Ou s.heap (Ot f) (VR hb)).trans hu) ⟨_,q⟩ ?_
 exact⟨hz,its',_,hv,q⟩
theorem Inv.lnew{ah:List Va}{t':Nat}(I:Inv X aa σ H s)(hv:QG ys ah)(hz:ys.length<=Vs) :
 Inv X aa σ (upd H s.heap.objs.size (.lst ys)) { s with heap:=s.heap.push { cls:=.type "list",data:=.seq ah.toArray },toks:=t' } :=
 I.laid (λ_ _ q=>Uk _ q) (Um _) ⟨hz,ah,0,hv,Ul _ rfl⟩
theorem Inv.fresh(I:Inv X aa σ H s):H s.heap.objs.size=Vp:=I.hok.fresh (Um _)
theorem Inv.lstM(I:Inv X aa σ H s)(hH:H l=Vo (.lst xs)):xs.length<=Vs/\∃ (ah:List Va) (n:Nat),QG xs ah/\xs.length=ah.length/\s.heap.get? l=Vo { cls:=.type "list",data:=.seq ah.toArray n }:=by
 obtain⟨z,ah,n,r,e⟩:=I.hok l _ hH;exact⟨z,ah,n,r,r.length,e⟩
theorem Zbc{n:Nat}(h:n<=Vs):Ov n=false:=by
 unfold Ov;exact decide_eq_false #[0]
end
section
variable{X:Cx}
def Xgb:V->List V->Hp->VK->Prop:=λx vs H Q=>∃ l xs y,x=.ref l/\vs=[y]/\H l=Vo (.lst xs)/\xs.length < Vs/\Q .non (upd H l (.lst (xs++[y])))
theorem ZS:MtM X "list.append" Xgb:=by
 intro aa s σ H x vs v us Q I rx rv h;obtain⟨l,xs,y,rfl,rfl,hH,hz,q⟩:=h;cases rx;obtain⟨u,rfl,ru⟩:=rv.one;obtain⟨z,ah,n,r,hl,e⟩:=I.lstM hH;refine call_meets F.slot_list_append ⟨_,e,rfl⟩ F.entry_list_append (F.args_list_append_2 _ _) (PySem.list_append l ah.toArray n u (by rw[Ux];lia)) ⟨e,?_⟩
 refine⟨.non,_,I.lset (its':=ah++[u]) hH e #[2] (r.append (.cons ru .nil)) ?_,rfl,q⟩
 rw[Oh,Ow]
 lia
def Ylb:R2:=λx y H Q=>∃ l b xs zs,x=.ref l/\y=.ref b/\H l=Vo (.lst xs)/\H b=Vo (.lst zs)/\xs.length+zs.length<=Vs/\∀ p,H p=Vp->Q (.ref p) (upd H p (.lst (xs++zs)))
theorem ZH:OpR X (Uu .Add) Ylb:=by
 intro aa s σ H x y v u Q I rx ry h;obtain⟨l,b,xs,zs,rfl,rfl,hH,hB,hz,q⟩:=h;cases rx;cases ry;obtain⟨z,ah,n,r,hl,e⟩:=I.lstM hH;obtain⟨z2,aQ,n2,r2,jR,e2⟩:=I.lstM hB;refine PySem.P.add_list e e2 ?_ (by rw[Ux,Ux];lia)
 have ea:ah.toArray++aQ.toArray=(ah++aQ).toArray:=by simp
 rw[ea];exact⟨.ref _,_,I.lnew (t':=s.toks) (r.append r2) (by rw[Oh];lia),rfl,q _ I.fresh⟩
end
section
variable{prog:Vg}{w:Vb}{A:VG}{E:YQ_}{s:VH}
end
section
variable{X:Cx}
end
end L2
namespace Att
open PySem PySem.W PySem.Calls PyProof.Rows
theorem Yka{P:Params}{h:Vq}:∀ (ns:List Int) (vs:List Va),WellAll P h vs (ns.map Ox)->IntsAre vs ns:=by
 intro ns
 induction ns with
 | nil =>
  intro vs w;rw[Oy]at w;cases w;exact .nil
 | cons n ns ih =>
  intro vs w;rw[UH]at w;cases w with
  | cons a b =>
   cases a;exact .cons _ _ (ih _ b)
theorem X7b{l:OpenLaw}{n:Nat}(hn:l.most=Vo n){P:Params}{h:Vq}{args:List WData}{hX:List Va}
 (fG:l.row.toRowW.claim.pre args=true) (pN:WellAll P h hX args) :
 ∃ a vs ns,hX=[Vk a]/\args=[WData.list (ns.map Ox)]/\h.get? a=Vo { cls:=.type "list",data:=.seq vs.toArray }/\IntsAre vs ns/\ns.length<=n:=by
 have jS:WShape.hasAll [] args [.list .int]=true:=(pre_splitW fG).1;have hc:l.pre.holds [] { args:=args }=true:=(pre_splitW fG).2;obtain⟨d,r,rfl,h1,h2⟩:=hasAllW_cons jS;obtain rfl:=hasAllW_nil h2;obtain⟨xs,rfl,h3⟩:=hasW_list h1;obtain⟨ns,rfl⟩:=items_int h3;have aA:ns.length<=n:=by
  unfold OpenLaw.pre at hc;have h4:(WTm.not (.lt (.lit (.int (n:Int))) (.len (.arg 0)))).holds [] { args:=[.list (ns.map .int)] }=true:=by
   have h4:=(holds_andW hc).1;rw[hn]at h4;exact h4
  have h5:=condW_of h4 (w_not (w_lt w_lit (w_len_list (w_arg rfl))));rw[UJ]at h5;refine Nat.le_of_not_lt λq=>?_
  have q':(n:Int) < ((ns.length:Nat):Int):=by lia
  first
   | (rw[decide_eq_true q']at h5;exact absurd h5 #[1])
   | (simp at h5;lia)
 cases pN with
 | cons w1 w2 =>
  cases w2;cases w1 with
  | list ho hall=>exact⟨_,_,ns,rfl,rfl,ho,Yka ns _ hall,aA⟩
theorem X8b(l:OpenLaw)(args:List WData):l.row.toRowW.claim.post args (.bool true) args=true :=
 postW_of (r:=l.row.toRowW) (X:=(true == true))
  (show WShape.has [] (.bool true) .bool=true by first | rfl | decide | simp[WShape.has,WShape.arms,WShape.armsAll])
  (show(WTm.eq .res (.lit (.bool true))).value [] { args:=args,res:=Vo (.bool true),after:=args }=Vo (.bool (true == true)) from w_eq_bool (w_res rfl) w_lit) rfl
section
variable{prog:Vg}{w:Vb}{A:VG}{E:YQ_}{s:VH}{K:VD}
end
end Att
namespace L2
open PySem PySem.Spec PyProof.Rows
theorem Qqb:∀ {vs:List Va} {ns:List Int},IntsAre vs ns->QG (ns.map V.int) vs
 | _,_,.nil=>.nil
 | _,_,.cons n t h=>.cons ⟨t,rfl⟩ (Qqb h)
def XMc(H:Hp):Prop:=∀ b,H b=Vp\/∃ o xs,H b=Vo (.frz o (.lst xs))
theorem Zcc{P:Vg}{w:Vb}{K:VD}{mg mb:Str->Option Va}{CX:CXT}{k:Nat}{fa a:Vh}{fd:UU}{x:Str}{sp:Sp}{s₁:VH}{vs:List Va}{ns:List Int}
 (KX:K.In s₁.heap) (nY:s₁.heap.Ns VE mg) (hb:s₁.heap.Ns builtinsNs mb) (yk:∀ x:Str,x≠"__name__"->mb x=VF x) (pO:s₁.heap.NoLimit) (hg:s₁.gens=#[])
 (ha:s₁.heap.get? a=Vo { cls:=.type "list",data:=.seq vs.toArray }) (hi:IntsAre vs ns) (hl:ns.length<=Vs) (hr:Zi k OA)
 (F:∀ base:Vq,K.In base->base.Ns VE mg->QE P w K mg base CX k fa fd [x] sp) (jT:∀ (s:VH) (u:Va),BindsTo s fd ⟨[u],[]⟩ [(x,u)])
 (dB:∀ H:Hp,XMc H->SqL K H a (ns.map V.int)->sp [.ref a] H (λv _=>v=.bl true) λ_ _ _=>False)
 (pP:∀ H e s',CX [] H s₁ (λ_ _ _=>False) e s'->False) :
 UE (VW P w) OA (.call (.ref fa) ⟨[.ref a],[]⟩) (λr s'=>r=.ok (.ret (.bool true))/\OldK s₁.heap s'.heap/\s'.os=s₁.os/\VI s'.gens) s₁:=by
 have rv:=Qqb hi;have pQ:=hi.length;have fH:∀ H:Hp,XMc H->SqL K H a (ns.map V.int)->HOk P w H s₁.heap->(∀ b,H b≠Vp->b=a)->(H a≠Vp->K.lookup a=Vp) ->
  UE (VW P w) OA (.call (.ref fa) ⟨[.ref a],[]⟩) (λr s'=>r=.ok (.ret (.bool true))/\OldK s₁.heap s'.heap/\s'.os=s₁.os/\VI s'.gens) s₁:=by
  intro H hO hS hok hA hK;have dg:∀ {b:Vh} {o:Obj},s₁.heap.get? b=Vo o->H b=Vp->(QRb s₁.heap H).get? b=Vo o:=λe n=>QVc e n
  have jN:∀ {b:Vh} {o:Obj} {es:Array DictEntry} {ep:Nat},s₁.heap.get? b=Vo o->o.data=.dict es ep->H b=Vp:=λ{b o es ep} e d=>by
   cases q:H b with
   | none=>rfl
   | some u =>
    have e':b=a:=hA b (by rw[q];simp)
    subst e';rw[ha]at e;cases e;have d':Data.seq vs.toArray _=Data.dict es ep:=d;cases d'
  have nZ:∀ {b:Vh} {m:Str->Option Va},s₁.heap.Ns b m->(QRb s₁.heap H).Ns b m:=λ{b m} ⟨o,es,ep,e,d,r⟩=>⟨o,es,ep,dg e (jN e d),d,r⟩
  have uL:K.In (QRb s₁.heap H):=λb o e=>dg (KX b o e) (by
   cases q:H b with
   | none=>rfl
   | some u =>
    have e':b=a:=hA b (by rw[q];simp)
    subst e';rw[hK (by rw[q];simp)]at e;cases e)
  have hM:Mod K mg (QRb s₁.heap H):=⟨uL,nZ nY,⟨mb,nZ hb,yk⟩,let ⟨mc,h1,h2⟩:=pO;⟨mc,nZ h1,h2⟩⟩
  have e0:Yjb P w K mg (QRb s₁.heap H) OA [] s₁ H:=⟨rfl,hM,λb o e=>JVc e,Nat.le_of_eq (XXb _ _),trivial,λb hb=>absurd (show b∈([]:List Vh) from hb) #[2],hok,.of_eq hg⟩
  refine UX ((F _ uL (nZ nY)).run OA [] s₁ H ⟨[.ref a],[]⟩ [.ref a] [.ref a] _ _ hr e0 (jT s₁ (.ref a)) (.cons rfl .nil) (dB H hO hS)) λr s' h=>?_
  cases r with
  | error e=>exact(pP H e s' h).elim
  | ok fl =>
   cases fl with
   | next=>exact V8 h
   | brk=>exact V8 h
   | cont=>exact V8 h
   | ret u =>
    obtain⟨v,H',os,bare,un,pR,r',q⟩:=h;have q':v=.bl true:=q;subst q';obtain rfl:u=Vj true:=r';refine⟨rfl,OldK.of_keep λb o e=>?_,os,bare⟩
    cases q:H b with
    | none=>exact un.keep b o e q (by intro z;exact absurd (show b∈([]:List Vh) from z) #[2]) #[2]
    | some u =>
     rcases hO b with z | ⟨ob,xs,z⟩
     ·rw[q]at z;cases z
     ·have z2:=un.frzs b ob _ z
      obtain⟨e1,_⟩:=hok b _ z;obtain⟨e2,_⟩:=pR b _ z2;rw[e]at e1;cases e1;exact e2
 cases hk:K.lookup a with
 | some o =>
  have e:=KX a o hk;rw[ha]at e;cases e;refine fH (λ_=>Vp) (λ_=>.inl rfl) (.inr ⟨_,vs.toArray,_,hk,rfl,rfl,rfl,by rw[Ux,pQ];exact hl,by simpa using rv⟩) (λb u z=>by have z':(Vp:Option HO)=Vo u:=z;cases z') (λb z=>absurd rfl z) λz=>absurd rfl z
 | none =>
  refine fH (λb=>if b=a then Vo (.frz { cls:=.type "list",data:=.seq vs.toArray } (.lst (ns.map V.int))) else Vp) (λb=>?_) (.inl (.inr ⟨{ cls:=.type "list",data:=.seq vs.toArray },if_pos rfl⟩)) (λb u z=>?_) (λb z=>?_) λ_=>hk
  ·by_cases hb:b=a
   ·exact .inr ⟨_,_,if_pos hb⟩
   ·exact .inl (if_neg hb)
  ·by_cases hb:b=a
   ·have z':=(if_pos hb).symm.trans z
    cases z';subst hb;exact⟨ha,by rw[UJ];exact hl,vs,_,rv,ha⟩
   ·have z':=(if_neg hb).symm.trans z
    cases z'
  ·by_cases hb:b=a
   ·exact hb
   ·exact absurd (if_neg hb) z
def Jea(s:V0):Arguments:=match s with
 | .FunctionDef _ a _ _ _ _ _ _ _ _=>a
 | _=>{ posonlyargs:=[],args:=[],vararg:=Vp,kwonlyargs:=[],kw_defaults:=[],kwarg:=Vp,defaults:=[] }
def XD(s:V0):List V0:=match s with
 | .FunctionDef _ _ b _ _ _ _ _ _ _=>b
 | _=>[]
def Qj(s:V0):Scope:=match s with
 | .FunctionDef _ _ _ _ _ _ sc _ _ _=>sc
 | _=>{ kind:=.function,names:=[],isGenerator:=false,isCoroutine:=false }
abbrev CX0:CXT:=λ_ _ _ _ _ _=>False
abbrev E0:XK:=λ_ _ _=>False
theorem Xhb{X:Cx}:JKa CX0 X E0:=λ_ _ _ _ _ _ _ h=>h.elim
structure Fun(K:VD)(x qual:Str)(st:V0)(f:Vh)(fd:UU):Prop where
 ex:∃ (oc:Va) (od:Option Vh) (kV bS pm:Va) (an:Option Vh) (ap ct:Va) (dR:Array (Option Va)),
  fd=Oi x qual (Jea st) (XD st) (Qj st) .none kV bS pm an ap ct/\K.lookup f=Vo ⟨oc,od,.func fd,dR⟩/\W.codeIn K ap qual=true
 kp:UI K (.ref f)=true
section
variable{P:Vg}{w:Vb}{K:VD}{mg:Str->Option Va}{base:Vq}
theorem Fun.ok{x qual:Str}{st:V0}{f:Vh}{fd:UU}{N ps:List Str}{k:Nat}{sp:Sp}(F:Fun K x qual st f fd)(S:Qp N ps (Qj st))(len:∀ vs H Q E,sp vs H Q E->vs.length=ps.length)
 (ck:∀ (ap:Va) (A:VG) (outer:List Env) (s:VH) (H:Hp) (vs:List V) (Q:VK) (E:XK),Zi k (A.deeper (U9 qual (Qj st) s.heap.objs.size f ap))->sp vs H Q E ->
  ∃ t,PSs (Jda CX0 P w K mg base N qual (Qj st) f ap A outer s H E).nox (XD st) t/\t { nx:=λ_ H'=>Q .non H',rt:=Q } (Jca N vs) H):QE P w K mg base CX0 (k+1) f fd ps sp:=by
 obtain⟨oc,od,kV,bS,pm,an,ap,ct,dR,rfl,lk,b7⟩:=F.ex;refine Y6c lk b7 S len λA outer s H vs Q E hr dB=>?_
 obtain⟨t,h,q⟩:=ck ap A outer s H vs Q E hr dB;exact⟨t,h.nox,q⟩
theorem Fun.binds{x qual:Str}{st:V0}{f:Vh}{fd:UU}{ps:List Str}(F:Fun K x qual st f fd)
 (h:∀ (kV bS pm:Va) (an:Option Vh) (ap ct:Va) (us:List Va),us.length=ps.length->bindArgs (Oi x qual (Jea st) (XD st) (Qj st) .none kV bS pm an ap ct) ⟨us,[]⟩=pure (ps.zip us)):Z4 K fd ps []:=by
 obtain⟨oc,od,kV,bS,pm,an,ap,ct,dR,rfl,lk,b7⟩:=F.ex;exact .all (h kV bS pm an ap ct)
theorem XNc{x qual:Str}{st:V0}{f:Vh}{oc:Va}{od an:Option Vh}{dR:Array (Option Va)}{kV bS pm ap ct:Va}(l:K.lookup f=Vo ⟨oc,od,.func (Oi x qual (Jea st) (XD st) (Qj st) .none kV bS pm an ap ct),dR⟩)
 (c:W.codeIn K ap qual=true) (k:UI K (.ref f)=true):Fun K x qual st f (Oi x qual (Jea st) (XD st) (Qj st) .none kV bS pm an ap ct):=⟨⟨oc,od,kV,bS,pm,an,ap,ct,dR,rfl,l,c⟩,k⟩
end
theorem QD{n:Nat}(h:n<=1000):n < Vs:=Nat.lt_of_le_of_lt h #[1]
section
variable{X:Cx}
theorem pv(i:Nat){x:Str}{pos:Pos}(hN:X.N[i]?=Vo x:=by rfl)(hv:Vis X.env.scope x:=by first | exact OB rfl | exact Or.inr (OB rfl) | exact Or.inr (Or.inr rfl))(hd:(x == ("__debug__":Str))=false:=by decide)
 (b7:(x == ("__classdict__":Str))=false:=by decide):PE X (.Name x pos) (Yv i):=Xwc hN hv hd b7
end
theorem QOd{A B:Prop}(h:A):if true=true then A else B:=by
 rw[if_pos rfl];exact h
theorem ZL{c A B:Prop}[Decidable c](h1:c->A)(h2:¬ c->B):if c then A else B:=by
 by_cases h:c
 ·rw[if_pos h]
  exact h1 h
 ·rw[if_neg h]
  exact h2 h
def Qn(H H':Hp):Prop:=∀ b o,H b=Vo o->H' b=Vo o
theorem Qn.refl(H:Hp):Qn H H:=λ_ _ h=>h
theorem Qn.trans{H H1 H2:Hp}(a:Qn H H1)(b:Qn H1 H2):Qn H H2:=λc o h=>b c o (a c o h)
theorem Qn.seq{K:VD}{H H':Hp}{a:Vh}{xs:List V}(e:Qn H H')(h:SqL K H a xs):SqL K H' a xs:=by
 rcases h with (h | ⟨o,h⟩) | h
 ·exact .inl (.inl (e _ _ h))
 ·exact .inl (.inr ⟨o,e _ _ h⟩)
 ·exact .inr h
section
variable(P:Vg)(w:Vb)
end
section
variable{P:Vg}{w:Vb}{H H':Hp}{h h':Vq}{a:Vh}{o:HO}
end
section
variable{P:Vg}{w:Vb}{H:Hp}{h h':Vq}{x e:Vh}{o':HO}
end
section
variable{fs fm ex ye:List Vh}{H H1 H2:Hp}{h h1 h2 h':Vq}{a x e:Vh}{o:HO}
end
section
variable{X:Cx}{aa:YP_}{σ:List (Option V)}{H H':Hp}{s:VH}{h':Vq}
end
section
variable{X:Cx}
variable{a b:Expr}{ta tb:TE}{pos:Pos}
variable{tA jK:TT}{rest:List Expr}
end
section
variable{X:Cx}{aa:YP_}{σ:St}{H:Hp}{s:VH}{a:Vh}{xs ys:List V}
end
section
variable{X:Cx}{aa:YP_}{σ:St}{H:Hp}{s:VH}{E:YQ_}
end
section
variable{X:Cx}{st:V0}{rest:List V0}{t u:TS}{e:Expr}{te:TE}{pos:Pos}
end
section
variable{X:Cx}{pos:Pos}
end
section
variable{X:Cx}{pos:Pos}
end
section
variable{X:Cx}{tg:Expr}
end
section
variable{X:Cx}{a b c:Expr}{ta tb tc:TE}{pos:Pos}
end
section
variable{X:Cx}{a b c:Expr}{ta tb tc:TE}{pos:Pos}
end
section
variable{prog:Vg}{w:Vb}{A:VG}{E:YQ_}{s:VH}{K:VD}{x dx C f:Vh}{mA:Str->Option Va}{name:Str}{v:Va}
end
section
variable{P:Vg}{w:Vb}{H H':Hp}{h h':Vq}{a C dx:Vh}{fs fm:List (Str×V)}
end
section
variable{X:Cx}{aa:YP_}{σ:St}{H:Hp}{s:VH}{a C dx:Vh}{fs:List (Str×V)}{f:Str}{v:V}{A:VG}{E:YQ_}
end
section
variable{X:Cx}{o e value:Expr}{f:Str}{pos aI hG:Pos}{ta tv:TE}
end
section
variable{X:Cx}{aa:YP_}{σ:St}{H:Hp}{s:VH}{A:VG}{E:YQ_}{Q:YQ_}{c:Va}{b:Bool}
end
section
variable{X:Cx}{e:Expr}{es:List Expr}{te:TE}{t:TA}{pos:Pos}
end
section
variable{X:Cx}{aa:YP_}{σ:St}{H:Hp}{s s':VH}
end
section
variable{X:Cx}{CX:CXT}{k:Nat}{f C:Vh}{fd:UU}{ps:List Str}{sp:Sp}{bY:List V}{ds:List Va}{E:XK}{x m:Str}{p pos ao:Pos}{e o:Expr}{es:List Expr}{ta:TE}{t:TA}
end
section
variable{X:Cx}{CX:CXT}{k:Nat}{f C:Vh}{fd:UU}{ps ks:List Str}{sp:Sp}{E:XK}{x m:Str}{p pos ao eE:Pos}{e o:Expr}{es:List Expr}{i6:List U2}{te ta:TE}{t tk:TA}{nm:Option Str}
variable{g:List Va->List Va->List Va}{gV:List V->List V->List V}
end
section
variable{X:Cx}{x:Str}{p pos:Pos}{e:Expr}{es:List Expr}{t:TA}{id T:String}{r:List V->Hp->VK->Prop}
end
section
variable{κ:Type}[DecidableEq κ]
def ZB(ae:List (κ×V))(k:κ):Option V:=(ae.find? λkv=>decide (kv.1=k)).map (·.2)
def JY(ae:List (κ×V))(k:κ)(v:V):List (κ×V) :=
 if (ae.any λkv=>decide (kv.1=k))=true then ae.map (λkv=>if kv.1=k then (kv.1,v) else kv) else ae++[(k,v)]
def Qpa(ae:List (κ×V))(k:κ):List (κ×V):=ae.filter λkv=>decide (kv.1≠k)
theorem Z5{p:κ×V}{r:List (κ×V)}{k:κ}(e:p.1=k):ZB (p::r) k=Vo p.2:=by simp[ZB,OC,e]
theorem Z6{p:κ×V}{r:List (κ×V)}{k:κ}(e:¬ p.1=k):ZB (p::r) k=ZB r k:=by simp[ZB,OC,e]
theorem QAa(k:κ):∀ ae:List (κ×V),(ae.any λkv=>decide (kv.1=k))=(ZB ae k).isSome
 | []=>rfl
 | p::r=>by
  rw[Dz]
  by_cases e:p.1=k
  ·simp only[Z5 e,decide_eq_true e,Bool.true_or,Option.isSome_some]
  ·rw[Z6 e,decide_eq_false e,Bool.false_or];exact QAa k r
theorem ZZb(k j:κ)(y:V):∀ ae:List (κ×V),ZB (ae.map λkv=>if kv.1=k then (kv.1,y) else kv) j=(ZB ae j).map λx=>if j=k then y else x
 | []=>rfl
 | p::r=>by
  have ih:=ZZb k j y r;rw[UH]
  by_cases h:p.1=k
  ·rw[if_pos h]
   by_cases e:p.1=j
   ·rw[Z5 (p:=(p.1,y)) e,Z5 e,OD,if_pos (e.symm.trans h)]
   ·rw[Z6 (p:=(p.1,y)) e,Z6 e,ih]
  ·rw[if_neg h]
   by_cases e:p.1=j
   ·rw[Z5 (p:=p) e,Z5 e,OD,if_neg (λz=>h (e.trans z))]
   ·rw[Z6 (p:=p) e,Z6 e,ih]
theorem Qrb(k j:κ)(y:V):∀ ae:List (κ×V),ZB ae k=Vp->ZB (ae++[(k,y)]) j=if j=k then Vo y else ZB ae j
 | [],_=>by
  by_cases e:k=j
  ·rw[if_pos e.symm];exact Z5 (p:=(k,y)) e
  ·rw[if_neg (λz=>e z.symm)];exact Z6 (p:=(k,y)) e
 | p::r,hn=>by
  rw[OE];have hk:¬ p.1=k:=λz=>by rw[Z5 z]at hn;cases hn
  rw[Z6 hk]at hn;have ih:=Qrb k j y r hn
  by_cases e:p.1=j
  ·rw[Z5 e,Z5 e,if_neg (λz=>hk (e.trans z))]
  ·rw[Z6 e,Z6 e,ih]
theorem Zdc(ae:List (κ×V))(k j:κ)(y:V):ZB (JY ae k y) j=if j=k then Vo y else ZB ae j:=by
 unfold JY
 by_cases a:(ae.any λkv=>decide (kv.1=k))=true
 ·rw[if_pos a,ZZb]
  rw[QAa]at a
  by_cases e:j=k
  ·obtain⟨x,hx⟩:=Option.isSome_iff_exists.mp a
   rw[if_pos e,e,hx,OD,if_pos rfl]
  ·rw[if_neg e]
   cases ZB ae j with
   | none=>rfl
   | some x=>rw[OD,if_neg e]
 ·rw[if_neg a]
  refine Qrb k j y ae ?_
  rw[QAa]at a;cases q:ZB ae k with
  | none=>rfl
  | some x=>rw[q]at a;exact(a rfl).elim
theorem ZG(ae:List (κ×V))(k:κ)(v:V):(JY ae k v).length<=ae.length+1:=by
 unfold JY
 split
 ·rw[UJ];lia
 ·rw[Oh,UB,OF];lia
theorem Z0b{ae:List (κ×V)}{k:κ}(v:V)(h:ZB ae k=Vp):JY ae k v=ae++[(k,v)]:=by
 unfold JY;rw[QAa,h];exact if_neg #[1]
theorem Yu.isSome_eq{o:Option V}{u:Option Va}(r:Yu o u):o.isSome=u.isSome:=by
 cases o with
 | none=>cases u with
  | none=>rfl
  | some _=>exact(show False from r).elim
 | some _=>cases u with
  | none=>exact(show False from r).elim
  | some _=>rfl
theorem Yu.getD{o:Option V}{u:Option Va}{d:V}{d':Va}(r:Yu o u)(rd:QB d d'):QB (o.getD d) (u.getD d'):=by
 cases o with
 | none=>cases u with
  | none=>exact rd
  | some _=>exact(show False from r).elim
 | some _=>cases u with
  | none=>exact(show False from r).elim
  | some _=>exact r
theorem KV.val{ae:List (κ×V)}{vs:List (κ×Va)}(r:KV ae vs)(k:κ):Yu (ZB ae k) (OG vs k):=by
 unfold KV at r
 induction r with
 | nil=>exact UK
 | @cons p q ps qs h t ih =>
  obtain⟨h1,h2⟩:=h
  by_cases e:p.1=k
  ·have e':q.1=k:=h1.symm.trans e
   have b:OG (q::qs) k=Vo q.2:=by simp[OG,OC,e']
   rw[Z5 e,b];exact h2
  ·have e':¬ q.1=k:=λz=>e (h1.trans z)
   have b:OG (q::qs) k=OG qs k:=by simp[OG,OC,e']
   rw[Z6 e,b];exact ih
theorem KV.any{ae:List (κ×V)}{vs:List (κ×Va)}(r:KV ae vs)(k:κ):(ae.any λkv=>decide (kv.1=k))=vs.any λkv=>decide (kv.1=k):=by
 unfold KV at r
 induction r with
 | nil=>rfl
 | cons h t ih=>rw[Dz,Dz,ih,h.1]
theorem KV.repl{ae:List (κ×V)}{vs:List (κ×Va)}(r:KV ae vs)(k:κ){y:V}{u:Va}(ry:QB y u) :
 KV (ae.map λkv=>if kv.1=k then (kv.1,y) else kv) (vs.map λkv=>if kv.1=k then (kv.1,u) else kv):=by
 unfold KV at r ⊢
 induction r with
 | nil=>exact .nil
 | @cons p q ps qs h t ih =>
  rw[UH,UH];refine .cons ?_ ih
  obtain⟨h1,h2⟩:=h
  by_cases e:p.1=k
  ·rw[if_pos e,if_pos (h1.symm.trans e)];exact⟨h1,ry⟩
  ·rw[if_neg e,if_neg (λz=>e (h1.trans z))];exact⟨h1,h2⟩
theorem KV.put{ae:List (κ×V)}{vs:List (κ×Va)}(r:KV ae vs)(k:κ){y:V}{u:Va}(ry:QB y u):KV (JY ae k y) (stored vs k u):=by
 unfold JY stored;rw[r.any k]
 by_cases e:(vs.any λkv=>decide (kv.1=k))=true
 ·rw[if_pos e,if_pos e];exact r.repl k ry
 ·rw[if_neg e,if_neg e];exact OH r ⟨rfl,ry⟩
theorem KV.drop{ae:List (κ×V)}{vs:List (κ×Va)}(r:KV ae vs)(k:κ):KV (Qpa ae k) (without vs k):=by
 unfold KV at r ⊢;unfold Qpa without
 induction r with
 | nil=>exact .nil
 | @cons p q ps qs h t ih =>
  obtain⟨h1,h2⟩:=h;rw[filter_cons,filter_cons]
  by_cases e:p.1=k
  ·have a:¬ decide (p.1≠k)=true:=by simp[e]
   have b:¬ decide (q.1≠k)=true:=by simp[h1.symm.trans e]
   rw[if_neg a,if_neg b];exact ih
  ·have e':¬ q.1=k:=λz=>e (h1.trans z)
   have a:decide (p.1≠k)=true:=by simp[e]
   have b:decide (q.1≠k)=true:=by simp[e']
   rw[if_pos a,if_pos b];exact .cons ⟨h1,h2⟩ ih
theorem KV.length{ae:List (κ×V)}{vs:List (κ×Va)}(r:KV ae vs):ae.length=vs.length:=Vn r
theorem YWa(ae:List (κ×V))(k:κ):(Qpa ae k).length<=ae.length:=OI _ _
end
theorem YXa{P:Vg}{w:Vb}{k:Key}{u:Va}(r:QB (kV k) u):(Q3 P w).is k u=true:=by
 cases k with
 | inl i=>obtain⟨t,e⟩:=(show ∃ t,u=Vd i t from r);subst e;exact ZMb P w i t
 | inr x=>obtain⟨t,e⟩:=(show ∃ t,u=Vf x t from r);subst e;exact ZNb P w x t
theorem Qsb{P:Vg}{w:Vb}:∀ {ks:List Key} {us:List Va},QG (ks.map kV) us->ItemsAre (Q3 P w) ks us
 | [],_,r=>by rw[Oy]at r;cases r;exact .nil
 | k::ks,_,r=>by
  rw[UH]at r;cases r with
  | cons h t=>exact .cons (YXa h) (Qsb t)
abbrev KT(H:Hp):List (List Key×V)->List (List Key×Vh×Va)->Prop:=Vm λp q=>p.1=q.1/\H q.2.1=Vo (.tup (p.1.map kV))/\QB p.2 q.2.2
theorem KT.val{H:Hp}{ae:List (List Key×V)}{xs:List (List Key×Vh×Va)}(r:KT H ae xs)(k:List Key):Yu (ZB ae k) ((OJ xs k).map (·.2)):=by
 induction r with
 | nil=>exact UK
 | @cons p q ps qs h t ih =>
  obtain⟨h1,_,h2⟩:=h
  by_cases e:p.1=k
  ·have e':q.1=k:=h1.symm.trans e
   have b:OJ (q::qs) k=Vo q.2:=by simp[OJ,OC,e']
   rw[Z5 e,b];exact h2
  ·have e':¬ q.1=k:=λz=>e (h1.trans z)
   have b:OJ (q::qs) k=OJ qs k:=by simp[OJ,OC,e']
   rw[Z6 e,b];exact ih
theorem KT.repl{H:Hp}{ae:List (List Key×V)}{xs:List (List Key×Vh×Va)}(r:KT H ae xs)(k:List Key){y:V}{u:Va}(ry:QB y u) :
 KT H (ae.map λkv=>if kv.1=k then (kv.1,y) else kv) (xs.map (putAt k u)):=by
 induction r with
 | nil=>exact .nil
 | @cons p q ps qs h t ih =>
  rw[UH,UH];refine .cons ?_ ih
  obtain⟨h1,h2,h3⟩:=h;unfold putAt
  by_cases e:p.1=k
  ·rw[if_pos e,if_pos (h1.symm.trans e)];exact⟨h1,h2,ry⟩
  ·rw[if_neg e,if_neg (λz=>e (h1.trans z))];exact⟨h1,h2,h3⟩
theorem KT.put{H:Hp}{ae:List (List Key×V)}{xs:List (List Key×Vh×Va)}(r:KT H ae xs)(k:List Key){b:Vh}{y:V}{u:Va}(hb:H b=Vo (.tup (k.map kV)))(ry:QB y u) :
 KT H (JY ae k y) (storedH xs k b u):=by
 have e:(ae.any λkv=>decide (kv.1=k))=(OJ xs k).isSome:=by
  rw[QAa,(r.val k).isSome_eq,Option.isSome_map]
 unfold JY storedH;rw[e]
 by_cases q:(OJ xs k).isSome=true
 ·rw[if_pos q,if_pos q];exact r.repl k ry
 ·rw[if_neg q,if_neg q];exact OH r ⟨rfl,hb,ry⟩
theorem KT.keeps{H H':Hp}{ae:List (List Key×V)}{xs:List (List Key×Vh×Va)}(r:KT H ae xs)(ht:∀ b ys,H b=Vo (.tup ys)->H' b=Vo (.tup ys)):KT H' ae xs :=
 Paired.mapP r λ_ _ z=>⟨z.1,ht _ _ z.2.1,z.2.2⟩
section
variable{P:Vg}{w:Vb}{H:Hp}{h:Vq}{a:Vh}
theorem Y7c{u:HO}(ok:HOk P w H h)(e:Rd H a u):QR P w H h a u:=e.ok ok
theorem Qtb{ae:List (Key×V)}(ok:HOk P w H h)(e:Rd H a (.dK ae)):ae.length<=Vs/\(a == Vu)=false/\∃ vs,KV ae vs/\h.DictOf (Q3 P w) a vs :=
 show QR P w H h a (.dK ae) from Y7c ok e
theorem Zec{ae:List (Key×V)}(ok:HOk P w H h)(e:H a=Vo (.dK ae)):ae.length<=Vs/\(a == Vu)=false/\∃ vs,KV ae vs/\h.DictOf (Q3 P w) a vs:=Qtb ok (.inl e)
theorem QBa{ks:List Key}(ok:HOk P w H h)(e:H a=Vo (.tup (ks.map kV))):(Vv (Q3 P w)).is h ks a:=by
 obtain⟨_,ah,r,o,h1,h2,n,h3⟩:=(show QR P w H h a (.tup (ks.map kV)) from ok a _ e)
 exact⟨o,ah.toArray,n,h1,h2,h3,by simpa using Qsb r⟩
theorem Qub{ae:List (List Key×V)}(ok:HOk P w H h)(e:Rd H a (.dT ae)):ae.length<=Vs/\(a == Vu)=false /\
 ∃ xs,KT H ae xs/\h.DictOfH (Vv (Q3 P w)) a xs:=by
 obtain⟨z,y,xs,r,o,es,ep,h1,h2,h3,h4,h5⟩:=(show QR P w H h a (.dT ae) from Y7c ok e)
 refine⟨z,y,xs,r,o,es,ep,h1,h2,h3,h4,λx hx=>?_,h5⟩
 have all:∀ {l:List (List Key×V)} {m:List (List Key×Vh×Va)},KT H l m->∀ x∈m,(Vv (Q3 P w)).is h x.1 x.2.1:=by
  intro l m q
  induction q with
  | nil=>intro x hx;exact nomatch hx
  | @cons p q ps qs hq t ih =>
   intro x hx
   rcases mem_cons.mp hx with e | hx
   ·subst e
    exact QBa ok (by rw[<- hq.1];exact hq.2.1)
   ·exact ih x hx
 exact all r x hx
theorem QPd{ae:List (List Key×V)}(ok:HOk P w H h)(e:H a=Vo (.dT ae)):ae.length<=Vs/\(a == Vu)=false /\
 ∃ xs,KT H ae xs/\h.DictOfH (Vv (Q3 P w)) a xs:=Qub ok (.inl e)
end
def QCa(H:Hp)(a:Vh)(y:V)(r:Option V):Prop :=
 (∃ ae k,Rd H a (.dK ae)/\y=kV k/\r=ZB ae k)\/∃ ae k b,Rd H a (.dT ae)/\y=.ref b/\H b=Vo (.tup (k.map kV))/\r=ZB ae k
def YYa(H:Hp)(a:Vh)(y v:V)(H':Hp):Prop :=
 (∃ ae k,H a=Vo (.dK ae)/\y=kV k/\ae.length < Vs/\H'=upd H a (.dK (JY ae k v))) \/
 ∃ ae k b,H a=Vo (.dT ae)/\y=.ref b/\H b=Vo (.tup (k.map kV))/\ae.length < Vs/\H'=upd H a (.dT (JY ae k v))
theorem QCa.k{H:Hp}{a:Vh}{ae:List (Key×V)}{k:Key}(e:H a=Vo (.dK ae)):QCa H a (kV k) (ZB ae k):=.inl ⟨ae,k,.inl e,rfl,rfl⟩
theorem YYa.k{H:Hp}{a:Vh}{ae:List (Key×V)}{k:Key}{v:V}(e:H a=Vo (.dK ae))(hl:ae.length < Vs):YYa H a (kV k) v (upd H a (.dK (JY ae k v))):=.inl ⟨ae,k,e,rfl,hl,rfl⟩
section
variable{X:Cx}{aa:YP_}{σ:St}{H:Hp}{s:VH}{a:Vh}{y v:V}{u r:Va}{o:Option V}{A:VG}{E:YQ_}
theorem Inv.big(I:Inv X aa σ H s):Vu < s.heap.objs.size:=by
 have h:VE < s.heap.objs.size:=(I.mod.glob.keeps I.bk).lt;exact Nat.lt_trans #[1] h
theorem X9b{Q:YQ_}(hu:A.units+1 < UR)(I:Inv X aa σ H s)(g:QCa H a y (Vo v))(ry:QB y u)(h:∀ w' s',Inv X aa σ H s'->QB v w'->Q w' s') :
 VV (VW X.prog X.w) A (Om (.ref a) u) Q E s:=by
 rcases g with ⟨ae,k,e,ey,l⟩ | ⟨ae,k,b,e,ey,eb,l⟩
 ·subst ey
  obtain⟨z,hd,vs,aR,dd⟩:=Qtb I.hok e;obtain⟨w',hw,bx⟩:=Yu.some_of (v:=v) (o:=OG vs k) (by rw[l];exact aR.val k)
  exact wpAny_getItem_of (YXa ry) dd.mapOf hw (h w' _ (I.tok _) bx)
 ·subst ey
  cases (show u=Vk b from ry)
  obtain⟨z,hd,xs,aR,dd⟩:=Qub I.hok e;obtain⟨w',hw,bx⟩:=Yu.some_of (v:=v) (o:=(OJ xs k).map (·.2)) (by rw[l];exact aR.val k)
  obtain⟨p,hp,bM⟩:=Option.map_eq_some_iff.mp hw;refine wpAny_getItem_heap (OL hu) (QBa I.hok eb) dd hp ?_
  rw[bM];exact h w' _ (I.tok _) bx
theorem Ylc{Q:YQ_}(hu:A.units+1 < UR)(I:Inv X aa σ H s)(g:QCa H a y o)(ry:QB y u)(h:∀ s',Inv X aa σ H s'->Q (.bool (!o.isSome)) s') :
 VV (VW X.prog X.w) A (V2 .NotIn u (.ref a)) Q E s:=by
 rcases g with ⟨ae,k,e,ey,l⟩ | ⟨ae,k,b,e,ey,eb,l⟩
 ·subst ey
  obtain⟨z,hd,vs,aR,dd⟩:=Qtb I.hok e;refine wpAny_notIn_of (YXa ry) hd dd.mapOf ?_
  rw[<- (aR.val k).isSome_eq,<- l];exact h _ (I.tok _)
 ·subst ey
  cases (show u=Vk b from ry)
  obtain⟨z,hd,xs,aR,dd⟩:=Qub I.hok e;refine wpAny_notIn_heap (OL hu) (QBa I.hok eb) hd dd ?_
  have q:=(aR.val k).isSome_eq;rw[Option.isSome_map]at q;rw[<- q,<- l];exact h _ (I.tok _)
theorem Yxa{h':Vq}{t':Nat}{ob:HO}(I:Inv X aa σ H s)(mu:Mut (H a))(hs:VU a s.heap h')(he:∃ q,h'.get? a=Vo q)(new:QR X.prog X.w (upd H a ob) h' a ob) :
 Inv X aa σ (upd H a ob) { s with heap:=h',toks:=t' } :=
 I.write (x:=a) (e:=a) mu (.inl rfl) (λb q hb z=>(hs.2 b hb).trans z) he new
theorem Zfc{P:Vg}{w:Vb}{H':Hp}{h':Vq}{ae:List (Key×V)}{vs:List (Key×Va)}(z:ae.length<=Vs)(hd:(a == Vu)=false)(aR:KV ae vs)(dd:h'.DictOf (Q3 P w) a vs) :
 QR P w H' h' a (.dK ae):=⟨z,hd,vs,aR,dd⟩
theorem Qac{H':Hp}{Q:Unit->VH->Prop}(hu:A.units+1 < UR)(I:Inv X aa σ H s)(g:YYa H a y v H')(ry:QB y u)(rv:QB v r)(h:∀ s',Inv X aa σ H' s'->Q () s') :
 VV (VW X.prog X.w) A (setItem (.ref a) u r) Q E s:=by
 rcases g with ⟨ae,k,e,ey,l,eH⟩ | ⟨ae,k,b,e,ey,eb,l,eH⟩
 ·subst ey eH
  obtain⟨z,hd,vs,aR,dd⟩:=Zec I.hok e;have hz:vs.length<=Vs:=by rw[<- aR.length];exact z
  have hl:(JY ae k v).length<=Vs:=by have:=ZG ae k v;lia
  refine wpAny_setItem_pairs (hsz:=hz) (YXa ry) dd λh' fq hs=>h _ ?_
  have he:∃ q,h'.get? a=Vo q:=let ⟨q,_,_,hq,_⟩:=fq;⟨q,hq⟩
  exact Yxa I (by rw[e];exact UK) hs he (Zfc hl hd (aR.put k rv) fq)
 ·subst ey eH
  cases (show u=Vk b from ry)
  obtain⟨z,hd,xs,aR,dd⟩:=QPd I.hok e;have hz:xs.length<=Vs:=by rw[<- Vn aR];exact z
  have hl:(JY ae k v).length<=Vs:=by have:=ZG ae k v;lia
  refine wpAny_setItem_heap (hsz:=hz) (OL hu) (QBa I.hok eb) dd λh' fq hs=>h _ ?_
  obtain⟨q,es,ep,hq,h2,h3,h4,_,h5⟩:=fq;refine Yxa I (by rw[e];exact UK) hs ⟨q,hq⟩ ⟨hl,hd,_,(aR.put k eb rv).keeps λc ys ec=>?_,q,es,ep,hq,h2,h3,h4,h5⟩
  rw[Qk (Yt ec e (λz=>nomatch z))]
  exact ec
end
section
variable{X:Cx}{aa:YP_}{σ:St}{H:Hp}{s:VH}{a:Vh}{ae:List (Key×V)}{k:Key}{u:Va}{A:VG}{E:YQ_}
theorem Y8c{v:V}{more:List Va}{Q:YQ_}(I:Inv X aa σ H s)(e:H a=Vo (.dK ae))(ry:QB (kV k) u)(l:ZB ae k=Vo v)(hm:more=[]\/∃ x,more=[x])
 (h:∀ w' s',Inv X aa σ (upd H a (.dK (Qpa ae k))) s'->QB v w'->Q w' s'):VV (VW X.prog X.w) A (Ut (.builtin "dict.pop") (.ref a::u::more)) Q E s:=by
 obtain⟨z,hd,vs,aR,dd⟩:=Zec I.hok e;obtain⟨w',hw,bx⟩:=Yu.some_of (v:=v) (o:=OG vs k) (by rw[<- l];exact aR.val k)
 have hp:(keyPart u).isSome=true:=by
  cases k with
  | inl i=>obtain⟨t,q⟩:=(show ∃ t,u=Vd i t from ry);subst q;rfl
  | inr x=>obtain⟨t,q⟩:=(show ∃ t,u=Vf x t from ry);subst q;rfl
 have ha:argsOk "dict.pop" ⟨.ref a::u::more,[]⟩:=by
  rcases hm with q | ⟨x,q⟩
  ·subst q;exact F.args_dict_pop_2 _ _
  ·subst q;exact F.args_dict_pop_3 _ _ _
 refine OM ON dd.typeIs F.entry_dict_pop ha (meets_dict_pop_there (Q3 X.prog X.w) a (YXa ry) more hm hp)
  ⟨vs,w',dd,by rw[<- aR.length];exact z,hw,λh' fq hs=>h w' _ ?_ bx⟩
 have he:∃ q,h'.get? a=Vo q:=let ⟨q,_,_,hq,_⟩:=fq;⟨q,hq⟩
 exact Yxa I (by rw[e];exact UK) hs he (Zfc (VJ (YWa ae k) z) hd (aR.drop k) fq)
theorem XOc{r:Va}{Q:YQ_}(I:Inv X aa σ H s)(e:H a=Vo (.dK ae))(ry:QB (kV k) u)(l:ZB ae k=Vp)(h:∀ s',Inv X aa σ H s'->Q r s') :
 VV (VW X.prog X.w) A (Ut (.builtin "dict.pop") [.ref a,u,r]) Q E s:=by
 obtain⟨z,hd,vs,aR,dd⟩:=Zec I.hok e;have hn:OG vs k=Vp:=Yu.none_of (by rw[<- l];exact aR.val k)
 have hp:(keyPart u).isSome=true:=by
  cases k with
  | inl i=>obtain⟨t,q⟩:=(show ∃ t,u=Vd i t from ry);subst q;rfl
  | inr x=>obtain⟨t,q⟩:=(show ∃ t,u=Vf x t from ry);subst q;rfl
 exact OM ON dd.typeIs F.entry_dict_pop (F.args_dict_pop_3 _ _ _) (meets_dict_pop_default (Q3 X.prog X.w) a (YXa ry) hd hp r) ⟨vs,dd,hn,h _ (I.tok _)⟩
end
def XPc(i:Expr):Prop:=∀ ov iv,Oo i false ov iv=operate [ov,iv] (Om ov iv)
theorem Xib{prog:Vg}{w:Vb}{A:VG}{E:YQ_}{s:VH}{env:Env}{value aU:Expr}{pos:Pos}{T id:String}{Q:YQ_}
 (hl:Ol (.type T) "__getitem__"=pure (Vo (.builtin id))) (hs:XPc aU)
 (h:VV (VW prog w) A (VX value env) (λo s₁=>VV (VW prog w) A (VX aU env) (λi s₂=>s₂.TypeIs o T/\VV (VW prog w) A (Om o i) Q E s₂) E s₁) E s) :
 VV (VW prog w) A (VX (.Subscript value aU pos) env) Q E s:=by
 refine Subscript_ (V1 h (λo s₁ h₁=>V1 h₁ (λi s₂ h₂=>?_) λ_ _ x=>x) λ_ _ x=>x)
 obtain⟨hT,h₂⟩:=h₂;unfold subscriptTail;refine Uh ?_
 rw[getitemInPython_of_ne hT.not_modules];refine Uh (OO hT hl ?_)
 have fin:VV (VW prog w) A (Oo aU false o i) (λr s₃=>VV (VW prog w) A (letTemporaryGo value o r >>= λ_=>pure r) Q E s₃) E s₂:=by
  rw[hs o i];exact wpAny_operating (V1 h₂ (λr s₃ h₃=>Uh (wpAny_letTemporaryGo (Ug h₃))) λ_ _ x=>x)
 first
  | exact Ug (Uh fin)
  | exact Uh (Ug (Uh fin))
  | exact Uh fin
theorem Z1b{X:Cx}{aa:YP_}{σ:St}{H:Hp}{s:VH}{a:Vh}{y:V}{o:Option V}(I:Inv X aa σ H s)(g:QCa H a y o):s.TypeIs (.ref a) "dict":=by
 rcases g with ⟨ae,k,e,_,_⟩ | ⟨ae,k,b,e,_,_,_⟩
 ·obtain⟨_,_,vs,_,dd⟩:=Qtb I.hok e
  exact dd.typeIs
 ·obtain⟨_,_,xs,_,dd⟩:=Qub I.hok e
  exact dd.typeIs
def Y9c(td ty:TE):TE:=λσ H Q=>td σ H λx H1=>ty σ H1 λy H2=>∃ a v,x=.ref a/\QCa H2 a y (Vo v)/\Q v H2
def Xjb(ty td:TE):TE:=λσ H Q=>ty σ H λy H1=>td σ H1 λx H2=>∃ a o,x=.ref a/\QCa H2 a y o/\Q (.bl (!o.isSome)) H2
def Xac(td ty tv:TE):TS:=λD σ H=>tv σ H λv H1=>td σ H1 λx H2=>ty σ H2 λy H3=>∃ a H4,x=.ref a/\YYa H3 a y v H4/\D.nx σ H4
section
variable{X:Cx}{o i e value:Expr}{pos aI hG:Pos}{td ty tv:TE}
theorem Xkb(hu:X.A.units+1 < UR)(ho:PE X o td)(hi:PE X i ty)(hs:XPc i):PE X (.Subscript o i pos) (Y9c td ty):=by
 intro aa s σ H Q I h;refine Xib F.slot_dict_getitem.lookup hs (thn (ho aa s σ H _ I h) λu s1 ⟨x,H1,I1,rx,q1⟩=>thn (hi aa s1 σ H1 _ I1 q1) λiv s2 hZ=>?_)
 obtain⟨y,H2,I2,ry,a,v,ex,g,q2⟩:=hZ;subst ex;obtain rfl:u=Vk a:=rx;exact⟨Z1b I2 g,X9b hu I2 g ry λw' s3 I3 bx=>⟨v,H2,I3,bx,q2⟩⟩
theorem Qvb(hu:X.A.units+1 < UR)(hi:PE X i ty)(ho:PE X o td):PC X .NotIn i o (Xjb ty td):=by
 intro aa s σ H Q I h;refine thn (hi aa s σ H _ I h) λiv s1 ⟨y,H1,I1,ry,q1⟩=>thn (ho aa s1 σ H1 _ I1 q1) λu s2 hZ=>?_
 obtain⟨x,H2,I2,rx,a,ov,ex,g,q2⟩:=hZ;subst ex;obtain rfl:u=Vk a:=rx;exact Ylc hu I2 g ry λs3 I3=>⟨.bl (!ov.isSome),H2,I3,rfl,q2⟩
theorem XE(hu:X.A.units+1 < UR)(ho:PE X o td)(hi:PE X i ty)(hv:PE X value tv)(hs:Ua value (Vo (.Subscript o i aI)) pos.line X.env=pure false) :
 PS X (.Assign [.Subscript o i aI] value pos) (Xac td ty tv):=by
 intro aa s σ H D I h;refine wpAny_Assign_Subscript (thn (hv aa s σ H _ I h) λr s1 ⟨v,H1,I1,rv,q1⟩=>thn (ho aa s1 σ H1 _ I1 q1) λu s2 ⟨x,H2,I2,rx,q2⟩=>thn (hi aa s2 σ H2 _ I2 q2) λiv s3 hZ=>?_) hs
 obtain⟨y,H3,I3,ry,a,H4,ex,g,q3⟩:=hZ;subst ex;obtain rfl:u=Vk a:=rx;exact Qac hu I3 g ry rv λs4 I4=>⟨σ,H4,I4,q3⟩
end
theorem Zgc{P:Vg}{w:Vb}{H:Hp}(h:Vq)(hb:Vu < h.objs.size):QR P w H (h.push { cls:=.type "dict",data:=.dict #[] }) h.objs.size (.dK []) :=
 ⟨Us _,beq_eq_false_iff_ne.mpr (VR (VB hb)),[],.nil,Heap.DictOf.new h⟩
def Zhc:TE:=λ_ H Q=>∀ p,H p=Vp->Q (.ref p) (upd H p (.dK []))
section
variable{X:Cx}{pos:Pos}
theorem YZa:PE X (.Dict [] [] pos) Zhc:=λaa s σ H Q I h =>
 wpAny_Dict_empty ⟨.ref s.heap.objs.size,_,I.laid (a:=s.heap.objs.size) (o:=.dK []) (t':=s.toks) (λ_ _ q=>Uk _ q) (Um _) (Zgc s.heap I.big),rfl,h _ (I.hok.fresh (Um _))⟩
end
def Y9(ae more:List (Key×V)):List (Key×V):=more.foldl (λaO kv=>JY aO kv.1 kv.2) ae
theorem KV.merge:∀ {more:List (Key×V)} {rs:List (Key×Va)} {ae:List (Key×V)} {vs:List (Key×Va)},KV more rs->KV ae vs->KV (Y9 ae more) (OP vs rs):=by
 intro more rs ae vs r;unfold KV at r
 induction r generalizing ae vs with
 | nil=>intro q;exact q
 | @cons p q ps qs h t ih =>
  intro r0;have e:KV (JY ae p.1 p.2) (stored vs q.1 q.2):=by
   have:=r0.put p.1 h.2;rw[<- h.1];exact this
  exact ih e
theorem ZAa:∀ (more ae:List (Key×V)),(Y9 ae more).length<=ae.length+more.length
 | [],ae=>by show ae.length<=ae.length+0;lia
 | p::r,ae=>by
  have h1:=ZAa r (JY ae p.1 p.2);have h2:=ZG ae p.1 p.2;show(Y9 (JY ae p.1 p.2) r).length<=_;rw[UB];lia
structure M1(X:Cx)(o:Expr)(m:Str)(ao:Pos)(e:Expr)(ay:Pos):Prop where
 base:UN o m X.env (VX o X.env)=VX o X.env
 few:((VY ay (VZ [e] X.env)).all (λx=>!x.1) && (U3 ay (U4 [] X.env)).all (λx=>x.1.isSome)
  && decide (([e]:List Expr).length+([]:List U2).length+(if ([]:List U2).isEmpty then 0 else 1) < 30))=true
 line:(ao.endLine == ay.line)=true
 trees:VY ay (VZ [e] X.env)=[(false,VX e X.env)]
structure M2(X:Cx)(o:Expr)(m:Str)(ao:Pos)(e f:Expr)(ay:Pos):Prop where
 base:UN o m X.env (VX o X.env)=VX o X.env
 few:((VY ay (VZ [e,f] X.env)).all (λx=>!x.1) && (U3 ay (U4 [] X.env)).all (λx=>x.1.isSome)
  && decide (([e,f]:List Expr).length+([]:List U2).length+(if ([]:List U2).isEmpty then 0 else 1) < 30))=true
 line:(ao.endLine == ay.line)=true
 trees:VY ay (VZ [e,f] X.env)=[(false,VX e X.env),(false,VX f X.env)]
def IsD(H:Hp)(a:Vh):Prop:=(∃ ae,Rd H a (.dK ae))\/∃ ae,Rd H a (.dT ae)
theorem Ymb{X:Cx}{aa:YP_}{σ:St}{H:Hp}{s:VH}{a:Vh}(I:Inv X aa σ H s)(d:IsD H a) :
 s.TypeIs (.ref a) "dict"/\(∀ b,Vk a=.ref b->∃ ob,s.heap.get? b=Vo ob/\ob.dict=Vp)/\(a == Vu)=false:=by
 rcases d with ⟨ae,e⟩ | ⟨ae,e⟩
 ·obtain⟨_,hd,vs,_,dd⟩:=Qtb I.hok e
  refine⟨dd.typeIs,λb q=>?_,hd⟩
  cases q;obtain⟨ob,_,_,h1,h2,_⟩:=dd;exact⟨ob,h1,h2.2.1⟩
 ·obtain⟨_,hd,xs,_,dd⟩:=Qub I.hok e
  refine⟨dd.typeIs,λb q=>?_,hd⟩
  cases q;obtain⟨ob,_,_,h1,h2,_⟩:=dd;exact⟨ob,h1,h2.2.1⟩
section
variable{X:Cx}{aa:YP_}{σ:St}{H:Hp}{s:VH}{a:Vh}{y d:V}{u r:Va}{o:Option V}{A:VG}{E:YQ_}
theorem XQc{Q:YQ_}(hu:A.units+1 < UR)(I:Inv X aa σ H s)(g:QCa H a y o)(ry:QB y u)(h:∀ w' s',Inv X aa σ H s'->QB (o.getD .non) w'->Q w' s') :
 VV (VW X.prog X.w) A (Ut (.builtin "dict.get") [.ref a,u]) Q E s:=by
 rcases g with ⟨ae,k,e,ey,l⟩ | ⟨ae,k,b,e,ey,eb,l⟩
 ·subst ey
  obtain⟨z,hd,vs,aR,dd⟩:=Qtb I.hok e;refine OM F.slot_dict_get dd.typeIs F.entry_dict_get (F.args_dict_get_2 _ _) (meets_dict_get (Q3 X.prog X.w) a (YXa ry) hd) ⟨_,dd.mapOf,h _ _ (I.tok _) ?_⟩
  rw[l];exact(aR.val k).getD rfl
 ·subst ey
  cases (show u=Vk b from ry)
  obtain⟨z,hd,xs,aR,dd⟩:=Qub I.hok e;refine OM F.slot_dict_get dd.typeIs F.entry_dict_get (F.args_dict_get_2 _ _) (meetsH_dict_get (Vv (Q3 X.prog X.w)) a b hd) ⟨OL hu,k,xs,QBa I.hok eb,dd,h _ _ (I.tok _) ?_⟩
  rw[l];exact(aR.val k).getD rfl
end
def Zic(td ty:TE):TE:=λσ H Q=>td σ H λx H1=>∃ a,x=.ref a/\IsD H1 a/\ty σ H1 λy H2=>∃ o,QCa H2 a y o/\Q (o.getD .non) H2
def Zjc(td ty:TE):TE:=λσ H Q=>td σ H λx H1=>∃ a,x=.ref a/\IsD H1 a/\ty σ H1 λy H2=>∃ ae k v,H2 a=Vo (.dK ae)/\y=kV k/\ZB ae k=Vo v/\Q v (upd H2 a (.dK (Qpa ae k)))
def Zkc(td ty tx:TE):TE:=λσ H Q=>td σ H λx H1=>∃ a,x=.ref a/\IsD H1 a/\ty σ H1 λy H2=>tx σ H2 λz H3=>∃ ae k,H3 a=Vo (.dK ae)/\y=kV k /\
 (∀ v,ZB ae k=Vo v->Q v (upd H3 a (.dK (Qpa ae k))))/\(ZB ae k=Vp->Q z H3)
section
variable{X:Cx}{o e f:Expr}{ao ay:Pos}{td ty tx:TE}
theorem Jfa(hu:X.A.units+1 < UR)(ho:PE X o td)(he:PE X e ty)(m:M1 X o "get" ao e ay):PE X (.Call (.Attribute o "get" ao) [e] [] ay) (Zic td ty):=by
 intro aa s σ H Q I h;refine wpAny_Call_method m.base m.few m.line F.plainAttrs_dict F.slot_dict_get F.type_dict_get (thn (ho aa s σ H _ I h) λu s1 hZ=>?_)
 obtain⟨x,H1,I1,rx,a,ex,d,q1⟩:=hZ;subst ex;obtain rfl:u=Vk a:=rx;obtain⟨t1,t2,_⟩:=Ymb I1 d;refine⟨t1,t2,?_⟩
 rw[m.trees];refine Oq rfl (Os (UT (thn (he aa s1 σ H1 _ I1 q1) λiv s2 ⟨y,H2,I2,ry,ov,g,q2⟩=>US ?_)))
 exact XQc hu I2 g ry λw' s3 I3 bx=>⟨_,H2,I3,bx,q2⟩
theorem Zlc(ho:PE X o td)(he:PE X e ty)(m:M1 X o "pop" ao e ay):PE X (.Call (.Attribute o "pop" ao) [e] [] ay) (Zjc td ty):=by
 intro aa s σ H Q I h;refine wpAny_Call_method m.base m.few m.line F.plainAttrs_dict ON F.type_dict_pop (thn (ho aa s σ H _ I h) λu s1 hZ=>?_)
 obtain⟨x,H1,I1,rx,a,ex,d,q1⟩:=hZ;subst ex;obtain rfl:u=Vk a:=rx;obtain⟨t1,t2,_⟩:=Ymb I1 d;refine⟨t1,t2,?_⟩
 rw[m.trees];refine Oq rfl (Os (UT (thn (he aa s1 σ H1 _ I1 q1) λiv s2 ⟨y,H2,I2,ry,ae,k,v,ea,ey,l,q2⟩=>US ?_)))
 subst ey;exact Y8c I2 ea ry l (.inl rfl) λw' s3 I3 bx=>⟨v,_,I3,bx,q2⟩
theorem Zmc(ho:PE X o td)(he:PE X e ty)(hf:PE X f tx)(m:M2 X o "pop" ao e f ay):PE X (.Call (.Attribute o "pop" ao) [e,f] [] ay) (Zkc td ty tx):=by
 intro aa s σ H Q I h;refine wpAny_Call_method m.base m.few m.line F.plainAttrs_dict ON F.type_dict_pop (thn (ho aa s σ H _ I h) λu s1 hZ=>?_)
 obtain⟨x,H1,I1,rx,a,ex,d,q1⟩:=hZ;subst ex;obtain rfl:u=Vk a:=rx;obtain⟨t1,t2,_⟩:=Ymb I1 d;refine⟨t1,t2,?_⟩
 rw[m.trees];refine Oq rfl (Os (UT (thn (he aa s1 σ H1 _ I1 q1) λiv s2 ⟨y,H2,I2,ry,q2⟩ =>
  UT (thn (hf aa s2 σ H2 _ I2 q2) λfv s3 ⟨z,H3,I3,rz,ae,k,ea,ey,q3,q4⟩=>US ?_))))
 subst ey;cases l:ZB ae k with
 | some v=>exact Y8c I3 ea ry l (.inr ⟨fv,rfl⟩) λw' s4 I4 bx=>⟨v,_,I4,bx,q3 v l⟩
 | none=>exact XOc I3 ea ry l λs4 I4=>⟨z,H3,I4,rz,q4 l⟩
end
section
variable{X:Cx}{aa:YP_}{σ:St}{H:Hp}{s:VH}{a:Vh}{ae:List (Key×V)}{A:VG}{E:YQ_}
end
section
variable{X:Cx}{aa:YP_}{σ:St}{H:Hp}{s:VH}{a:Vh}{y:V}{u:Va}{A:VG}{E:YQ_}
end
end L2
namespace Att
open PySem PySem.W PySem.Calls PyProof.Rows
section
variable{prog:Vg}{w:Vb}{A:VG}{E:YQ_}{s:VH}{K:VD}
end
end Att
namespace L2
open PySem PySem.Spec PyProof.Rows
section
variable{P:Vg}{w:Vb}{K:VD}{mg:Str->Option Va}{base:Vq}
end
section
variable{X:Cx}
end
section
variable{κ:Type}[DecidableEq κ]
end
theorem QDa(env:Env):∀ (l:List (Str×U6)) (x:Str),
 (l.map λ(n,k)=>if (k == OQ && env.scope.kind == .function && env.kindOf n == Vo .cell) then (n,OR) else (n,k)).lookup x
  = (l.lookup x).map λk=>if (k == OQ && env.scope.kind == .function && env.kindOf x == Vo .cell) then OR else k
 | [],_=>rfl
 | (n,k)::r,x=>by
  have ih:=QDa env r x;show UG x ((if (k == OQ && env.scope.kind == .function && env.kindOf n == Vo .cell)=true then (n,OR) else (n,k))::_)=_
  cases hx:x == n with
  | true =>
   have e:x=n:=by simpa using hx
   subst e
   by_cases hc:(k == OQ && env.scope.kind == .function && env.kindOf x == Vo .cell)=true
   ·rw[if_pos hc];simp only[OS,hx,OD,hc,if_true]
   ·rw[if_neg hc];simp only[OS,hx,OD,if_neg hc]
  | false =>
   by_cases hc:(k == OQ && env.scope.kind == .function && env.kindOf n == Vo .cell)=true
   ·rw[if_pos hc];simp only[OS,hx];exact ih
   ·rw[if_neg hc];simp only[OS,hx];exact ih
theorem ZQa{env:Env}:∀ (l:List (Str×U6)) (aO:List (Str×Vh)),(∀ y∈l,y.2=.free->∃ c,env.cells.lookup y.1=Vo c)->(∀ y c,aO.lookup y=Vo c->env.cells.lookup y=Vo c) ->
 ∃ cl,(forIn l aO λx (cs:List (Str×Vh))=>(if (x.2 == OQ)=true then (do let a <- cellOf env x.1;pure (OT ((x.1,a)::cs))) else pure (OT cs):Sem (ForInStep (List (Str×Vh)))))=pure cl/\(∀ y c,cl.lookup y=Vo c->env.cells.lookup y=Vo c)/\(∀ y c,aO.lookup y=Vo c->∃ c',cl.lookup y=Vo c') /\
  ∀ y∈l,y.2=.free->∃ c,cl.lookup y.1=Vo c
 | [],aO,_,h2=>⟨aO,rfl,h2,λ_ c h=>⟨c,h⟩,λ_ h=>nomatch h⟩
 | (n,k)::r,aO,h1,h2=>by
  by_cases hk:k=.free
  ·subst hk
   obtain⟨c,hc⟩:=h1 (n,.free) VN rfl;have gv:∀ y c',((n,c)::aO).lookup y=Vo c'->env.cells.lookup y=Vo c':=λy c' h=>by
    rw[OS]at h;cases hy:y == n with
    | true=>rw[hy]at h;have e:y=n:=by simpa using hy
            subst e;cases h;exact hc
    | false=>rw[hy]at h;exact h2 y c' h
   obtain⟨cl,e,q1,q2,q3⟩:=ZQa r ((n,c)::aO) (λy hy=>h1 y (VO _ hy)) gv
   refine⟨cl,?_,q1,λy c' h=>?_,λy hy hf=>?_⟩
   ·rw[forIn_cons]
    simp only[beq_self_eq_true,if_true];unfold cellOf;rw[hc];exact e
   ·cases hy:y == n with
    | true=>exact q2 y c (by rw[OS,hy])
    | false=>exact q2 y c' (by rw[OS,hy];exact h)
   ·rcases mem_cons.mp hy with e' | hy
    ·subst e'
     exact q2 n c (by simp[OS])
    ·exact q3 y hy hf
  ·have hb:(k == OQ)=false:=by simpa using hk
   obtain⟨cl,e,q1,q2,q3⟩:=ZQa r aO (λy hy=>h1 y (VO _ hy)) h2
   refine⟨cl,?_,q1,q2,λy hy hf=>?_⟩
   ·rw[forIn_cons]
    simp only[hb,OU,if_false];exact e
   ·rcases mem_cons.mp hy with e' | hy
    ·subst e';exact absurd hf hk
    ·exact q3 y hy hf
theorem Y0a(env:Env)(sc:Scope)(h:∀ y∈sc.names,y.2=.free->∃ c,env.cells.lookup y.1=Vo c) :
 ∃ cl,closureFor sc env=pure cl/\(∀ y c,cl.lookup y=Vo c->env.cells.lookup y=Vo c)/\∀ y∈sc.names,y.2=.free->∃ c,cl.lookup y.1=Vo c:=by
 obtain⟨cl,e,q1,_,q3⟩:=ZQa (env:=env) sc.names [] h (λy c z=>by simp at z)
 refine⟨cl,?_,q1,q3⟩
 unfold closureFor;rw[<- e];simp only[bind_pure]
def blk(X:Cx)(sc:Scope)(x:Str)(M:List Str)(cl:List (Str×Vh))(C:Vh)(s:VH)(H:Hp)(fp:List Vh):Cx :=
 { X with N:=x::M,s₀:=s,H₀:=H,env:=compEnvC sc cl C X.env,outer:=X.stack,ex:=fp,fn:=λ_=>false,pn:=[],xe:=λ_ _=>False }
structure Z2b(X:Cx)(sc:Scope)(x:Str)(M:List Str):Prop where
 kind:sc.kind=.function
 nocell:∀ y∈sc.names,y.2≠.cell
 names:∀ y∈sc.names,y.2=.local->sc.names.lookup y.1=Vo .local
 own:sc.names.lookup x=Vo .local
 nd:(x::M).Nodup
 len:M.length=X.N.length
 free:∀ y∈sc.names,y.2=.free->X.env.kindOf y.1=Vo .cell\/X.env.kindOf y.1=Vo .free
 same:∀ (i:Nat) (y:Str),M[i]?=Vo y->sc.names.lookup y=Vo .free->X.N[i]?=Vo y
 noloc:∀ y∈M,sc.names.lookup y≠Vo .local
section
variable{X:Cx}
theorem Inv.toBlk{aa:YP_}{σ:St}{H:Hp}{s:VH}{sc:Scope}{x:Str}{M:List Str}{cl:List (Str×Vh)}{fp:List Vh}{h₁:Vq}{tk:Nat}
 (I:Inv X aa σ H s) (B:Z2b X sc x M) (q1:∀ y c,cl.lookup y=Vo c->X.env.cells.lookup y=Vo c) (q3:∀ y∈sc.names,y.2=.free->∃ c,cl.lookup y.1=Vo c)
 (jU:∀ b∈fp,Y7 X aa H b) (n5:∀ b∈fp,b < s.heap.objs.size) {m:Str->Option Va} (hn:h₁.Ns s.heap.objs.size m) (keep:∀ b o,s.heap.get? b=Vo o->h₁.get? b=Vo o) :
 Inv (blk X sc x M cl s.heap.objs.size s H fp) [] (Vp::σ) H { s with heap:=h₁,toks:=tk }:=by
 have bT:∀ y,(blk X sc x M cl s.heap.objs.size s H fp).env.kindOf y=(sc.names.lookup y).map λk=>if (k == OQ && X.env.scope.kind == .function && X.env.kindOf y == Vo .cell) then OR else k:=λy=>QDa X.env sc.names y
 have cL:∀ y,((blk X sc x M cl s.heap.objs.size s H fp).env.kindOf y=Vo .cell\/(blk X sc x M cl s.heap.objs.size s H fp).env.kindOf y=Vo .free)->sc.names.lookup y=Vo .free:=λy hy=>by
  rw[bT]at hy;cases e:sc.names.lookup y with
  | none=>rw[e]at hy;simp at hy
  | some k =>
   rw[e]at hy
   by_cases hk:k=.free
   ·rw[hk]
   ·exfalso
    have hb:(k == OQ)=false:=by simpa using hk
    simp only[hb,Bool.false_and,OD,OU,if_false,OV]at hy
    rcases hy with z | z
    ·exact B.nocell (y,k) (Ob e) z
    ·exact hk z
 have ncell:∀ y c,X.env.cells.lookup y=Vo c->c < s.heap.objs.size:=λy c e=>by
  obtain⟨v,o,ho,_⟩:=I.cell y c e;exact Vy ho
 have below:∀ b∈fp,Y7 X aa H b:=jU;refine⟨⟨I.ok.mod,B.kind,I.ok.glob,I.ok.blt,Um _,λy z c h1 h2=>I.ok.inj y z c (q1 y c h1) (q1 z c h2),λy hy=>q3 _ (Ob (cL y hy)) rfl,λy c h _=>absurd (show false=true from h) Uc,I.ok.hd,I.ok.frames,.inl rfl,
  λb hb=>?_,I.bs,VJ I.ok.bsz I.sz,λb o e hb=>?_,λb hb z=>?_,I.stack,I.stkFree⟩,rfl,I.bare,Un.kept keep,⟨_,hn,λi y v e1 e2 e3=>?_⟩,λy c h=>?_,I.hok.fresh (Um _),λy c h=>I.freeC y c (q1 y c h),λp hp=>absurd (show p∈([]:YP_) from hp) #[2],I.hok.kept keep,?_⟩
 ·exact⟨VB (n5 b hb),λy c h=>(jU b hb).2.2.2.2.1 y c (q1 y c h)⟩
 ·rcases(jU b hb).2.2.2.1 with z | z
  ·exact I.ok.noex b o e z
  ·exact absurd (Vz (Vy e) (VJ I.ok.bsz z)) (VA _)
 ·rcases mem_cons.mp (I.stkSub b z) with e | z
  ·exact(jU b hb).2.1 e
  ·exact(jU b hb).2.2.1 z
 ·cases i with
  | zero=>simp at e2
  | succ i =>
   have uO:M[i]?=Vo y:=e1;have ym:σ[i]?=Vo (Vo v):=e2;have hy:sc.names.lookup y=Vo .free:=by
    rcases e3 with z | z | z
    ·exfalso
     have z':(blk X sc x M cl s.heap.objs.size s H fp).env.kindOf y=Vo .local:=z;rw[bT]at z';cases e:sc.names.lookup y with
     | none=>rw[e]at z';simp at z'
     | some k =>
      rw[e]at z';simp only[OD,OV]at z'
      split at z'
      ·cases z'
      ·subst z'
       exact B.noloc y (Og uO) e
    ·exact cL y (.inl z)
    ·exact cL y (.inr z)
   have hk:=B.free _ (Ob hy) rfl;obtain⟨m0,hn0,hl⟩:=I.loc;obtain⟨u,r,l⟩:=hl i y v (B.same i y uO hy) ym (hk.elim (λz=>.inr (.inl z)) λz=>.inr (.inr z))
   refine⟨u,r,.inr ⟨?_,?_⟩⟩
   ·rcases e3 with z | z | z
    ·exfalso
     have z':(blk X sc x M cl s.heap.objs.size s H fp).env.kindOf y=Vo .local:=z;rw[bT,hy]at z';simp only[OD,OV]at z'
     split at z' <;> cases z'
    ·exact .inl z
    ·exact .inr z
   ·rcases l with ⟨k,_⟩ | ⟨_,c,e,hc⟩
    ·rcases hk with z | z <;> (have z':X.env.kindOf y=_:=z;rw[k]at z';cases z')
    ·obtain⟨c',e'⟩:=q3 _ (Ob hy) rfl
     have uP:=q1 y c' e';rw[e]at uP;cases uP;obtain⟨o,ho,hd⟩:=hc;exact⟨c,e',o,keep c o ho,hd⟩
 ·obtain⟨v,o,ho,hd⟩:=I.cell y c (q1 y c h)
  exact⟨v,o,keep c o ho,hd⟩
 ·show(Vp::σ).length=(x::M).length
  rw[UB,UB,I.len,B.len]
end
def QT(X:Cx)(cm:List Expr)(t:TT):Prop :=
 ∀ (aa:YP_) (s:VH) (σ:St) (H:Hp) (Q:Bool->Hp->Prop),Inv X aa σ H s->t σ H Q ->
  VV (VW X.prog X.w) X.A (forIn cm true λc r=>if r=true then do let ok <- isTrue c X.env (VX c X.env);pure (OT ok) else pure (OT r)) (TP X aa σ Q) X.xe s
def Z3b:TT:=λ_ H Q=>Q true H
theorem Jga{X:Cx}:QT X [] Z3b:=λ_ _ _ H _ I h=>wpAny_tests_nil ⟨H,I,h⟩
theorem QWb{X:Cx}{c:Expr}{t:TT}(h:PT X c t):QT X [c] t:=λaa s σ H Q I q=>wpAny_tests_one (h aa s σ H Q I q)
section
variable{prog:Vg}{w:Vb}{A:VG}{E:YQ_}{R:UC->VH->Prop}{s:VH}
theorem Z4b{cM a9 Uf:Expr}{cm:List Expr}{scope:Scope}{pos:Pos}{it aO:Va}{env:Env}(I:Nat->VH->Prop)
 (turn:∀ n s,I n s->VV (VW prog w) A (pyNext it) (λr s₁=>match r with
  | none=>R (.ok .next) s₁
  | some v=>VV (VW prog w) A (Ue a9 it v) (λ_ s₁=>VV (VW prog w) A (assign a9 env v) (λ_ s₂ =>
   VV (VW prog w) A (forIn cm true λc r=>if r=true then do let ok <- isTrue c env (VX c env);pure (OT ok) else pure (OT r)) (λok s₃ =>
    if ok=true then VV (VW prog w) A (VX cM env) (λx s₄ =>
     VV (VW prog w) A (Ut (.builtin "list.append") [aO,x]) (λ_ s₅=>∃ m,m < n/\I m s₅) (λ_ _=>False) s₄) (λ_ _=>False) s₃
    else ∃ m,m < n/\I m s₃) (λ_ _=>False) s₂) (λ_ _=>False) s₁) (λ_ _=>False) s₁) (λ_ _=>False) s)
 (n:Nat) (h:I n s) :
 UE (VW prog w) A (.compLoop (.ListComp cM [⟨a9,Uf,cm,0⟩] scope pos) 0 it aO env) R s:=by
 refine codeAny_loop rfl I (λn s hI=>?_) n h
 show VV _ A ((compTurn (.ListComp cM [⟨a9,Uf,cm,0⟩] scope pos) 0 it aO env).onRaise (λx=>do noteFrame x env;theTreesLotGoes x)) _ _ s
 refine wpAny_noted ?_
 rw[compTurn_list];refine Uh (U5 (Uh (V1 (turn n s hI) (λr s₁ h₁=>?_) λ_ _ h'=>h'.elim)))
 cases r with
 | none=>exact Ug h₁
 | some v =>
  refine Uh (V1 h₁ (λ_ s₁ h₁=>?_) λ_ _ h'=>h'.elim)
  refine Uh (V1 h₁ (λ_ s₂ h₂=>Uh (V1 h₂ (λok s₃ h₃=>?_) λ_ _ h'=>h'.elim)) λ_ _ h'=>h'.elim)
  cases ok with
  | false=>exact Ug ⟨rfl,h₃⟩
  | true =>
   exact Uh (Uh (V1 h₃ (λx s₄ h₄=>Uh (V1 h₄ (λ_ s₅ h₅=>Ug (Ug ⟨rfl,h₅⟩)) λ_ _ h'=>h'.elim)) λ_ _ h'=>h'.elim))
end
def tLc(wi:TI)(tt:TT)(te:TE):TE:=λσ H Q=>wi σ H λJ H1=>∀ D,H1 D=Vp->∃ W:Nat->Nat->List V->Hp->Prop,(∃ m,W 0 m [] (upd H1 D (.lst [])))/\∀ i m ys H,W i m ys H ->
 H D=Vo (.lst ys)/\((J.stop i H/\Q (.ref D) H)\/(J.go i H/\ys.length < Vs/\∀ x H',J.yld i H x H'->tt (Vo x::σ) H' λb H2=>if b=true then te (Vo x::σ) H2 λv H3 =>
  H3 D=Vo (.lst ys)/\∃ m',m' < m/\W (i+1) m' (ys++[v]) (upd H3 D (.lst (ys++[v]))) else ∃ m',m' < m/\W (i+1) m' ys H2))
section
variable{X:Cx}
theorem Y1a{sc:Scope}{x:Str}{px pos:Pos}{Uf cM:Expr}{cm:List Expr}{M:List Str}{wi:TI}{tt:TT}{te:TE}{cl:List (Str×Vh)}{RR:Va->Vh->UC->VH->Prop}{aa:YP_}{s:VH}{σ:St}{H:Hp}{Q:VK}
 (hc:X.calm=true) (B:Z2b X sc x M) (hi:PI X (.Name x px) Uf wi) (ht:∀ C s H fp,QT (blk X sc x M cl C s H fp) cm tt) (he:∀ C s H fp,PE (blk X sc x M cl C s H fp) cM te)
 (q1:∀ y c,cl.lookup y=Vo c->X.env.cells.lookup y=Vo c) (q3:∀ y∈sc.names,y.2=.free->∃ c,cl.lookup y.1=Vo c)
 (I:Inv X aa σ H s) (h:tLc wi tt te σ H Q)
 (yn:∀ (D C:Vh) (s':VH) (m:Str->Option Va) (H':Hp),Inv X aa σ H' s'->s'.heap.Ns C m->Y7 X aa H' C->Q (.ref D) H'->RR (.ref D) C (.ok .next) s') :
 VV (VW X.prog X.w) X.A (VX Uf X.env) (λxv s₁=>VV (VW X.prog X.w) X.A (pyIter xv) (λit s₂=>VV (VW X.prog X.w) X.A (newList []) (λaO s₃ =>
  VV (VW X.prog X.w) X.A (newFunctionEnv sc X.env.globals cl [] X.env.qual Vp .none (Vo X.env)) (λjV s₄ =>
   UE (VW X.prog X.w) X.A (.compStart (.ListComp cM [⟨.Name x px,Uf,cm,0⟩] sc pos) 0 it aO { jV with scope:=relabel sc X.env }) (RR aO jV.locals) s₄) X.xe s₃) X.xe s₂) X.xe s₁) X.xe s:=by
 refine thn (hi aa s σ H _ I h) λv s1 h1=>thn h1 λpH s2 h2=>?_
 obtain⟨it,fp,tn,J,H2,rfl,I2,T,bR,f2,q2⟩:=h2;refine wpAny_newObj_type (wpAny_newFunctionEnv B.nocell (by intro y hy;simp at hy) (λh₁ ie ig=>?_) B.kind)
 dsimp only at ie ig ⊢;obtain⟨W,⟨m0,w0⟩,turn⟩:=q2 s2.heap.objs.size I2.fresh;have I3:Inv X aa σ (upd H2 s2.heap.objs.size (.lst [])) { s2 with heap:=s2.heap.push { cls:=.type "list",data:=.seq ([]:List Va).toArray },toks:=s2.toks }:=I2.lnew .nil (Us _)
 generalize n6:({ s2 with heap:=s2.heap.push { cls:=.type "list",data:=.seq ([]:List Va).toArray },toks:=s2.toks }:VH)=s3 at I3
 have eh:s2.heap.push { cls:=.type "list",dict:=Vp,data:=.seq ([]:List Va).toArray }=s3.heap:=by rw[<- n6]
 have n5:∀ b∈fp,b < s2.heap.objs.size:=λb hb=>by
  obtain⟨o,e,_⟩:=T.obj _ _ bR b hb;exact Vy e
 have sz:s3.heap.objs.size=s2.heap.objs.size+1:=by rw[<- eh,UL]
 have jW:∀ b∈fp,b < s3.heap.objs.size:=λb hb=>by rw[sz];exact Nat.lt_succ_of_lt (n5 b hb)
 have ii:∀ b∈fp,Y7 X aa (upd H2 s2.heap.objs.size (.lst [])) b:=λb hb=>⟨by rw[Qk (VB (n5 b hb))];exact(f2 b hb).1,(f2 b hb).2⟩
 rw[eh]at ie ig ⊢;have keep:∀ b o,s3.heap.get? b=Vo o->h₁.get? b=Vo o:=λb o e=>ig.extBut b o (VB (Vy e)) (Uk _ e)
 have IB:=I3.toBlk (tk:=s2.toks+([]:List (Str×Va)).length) B q1 q3 ii jW ie keep;have dS:tn 0 h₁:=T.keep _ _ _ bR λb hb o e=>keep b o (by rw[<- eh];exact Uk _ e)
 have es:({ s3 with heap:=h₁,toks:=s2.toks+([]:List (Str×Va)).length }:VH)={ s2 with heap:=h₁,toks:=s2.toks+([]:List (Str×Va)).length }:=by rw[<- n6]
 rw[es]at IB;have bG:(blk X sc x M cl s3.heap.objs.size s3 (upd H2 s2.heap.objs.size (.lst [])) fp).env.scope.names.lookup x=Vo .local:=lookup_relabel_local B.own;have hg:PG (blk X sc x M cl s3.heap.objs.size s3 (upd H2 s2.heap.objs.size (.lst [])) fp) (.Name x px) (ZRb 0):=ZF B.nd rfl (.inl bG) (.inr bG);have jX:=he s3.heap.objs.size s3 (upd H2 s2.heap.objs.size (.lst [])) fp;have bH:=ht s3.heap.objs.size s3 (upd H2 s2.heap.objs.size (.lst [])) fp;have jY:∀ s₄:VH,s₄={ s2 with heap:=h₁,toks:=s2.toks+([]:List (Str×Va)).length } ->
  UE (VW X.prog X.w) X.A (.compLoop (.ListComp cM [⟨.Name x px,Uf,cm,0⟩] sc pos) 0 (.ref it) (.ref s2.heap.objs.size) (compEnvC sc cl s3.heap.objs.size X.env)) (RR (.ref s2.heap.objs.size) s3.heap.objs.size) s₄:=by
  rintro s₄ rfl;refine Z4b (λn s'=>∃ i ys o H',Inv (blk X sc x M cl s3.heap.objs.size s3 (upd H2 s2.heap.objs.size (.lst [])) fp) [] (o::σ) H' s'/\tn i s'.heap/\(∀ b∈fp,H' b=Vp)/\W i n ys H') ?_ m0
   ⟨0,[],Vp,_,IB,dS,λb hb=>(ii b hb).1,w0⟩
  rintro n s' ⟨i,ys,o,H',I',ag,uQ,w'⟩;have pS:∀ {H':Hp} {pl:YP_},(∀ b∈fp,H' b=Vp)->∀ b∈fp,Y7 (blk X sc x M cl s3.heap.objs.size s3 (upd H2 s2.heap.objs.size (.lst [])) fp) [] H' b:=λ{H' pl} hn b hb =>
   ⟨hn b hb,VB (jW b hb),λz=>I'.ok.exfs b hb z,.inl hb,λy c hy=>(ii b hb).2.2.2.2.1 y c (q1 y c hy),λp hp=>absurd (show p∈([]:YP_) from hp) #[2]⟩
  obtain⟨hD,⟨stop,q⟩ | ⟨go,aA,step⟩⟩:=turn i n ys H' w'
  ·refine V1 (T.done (blk X sc x M cl s3.heap.objs.size s3 (upd H2 s2.heap.objs.size (.lst [])) fp) rfl rfl rfl hc i [] s' (o::σ) H' (λ_ _=>False) I' (pS (pl:=[]) uQ) ag stop) (λr s4 hZ=>?_) λ_ _ f=>f.elim
   obtain⟨hr,I4⟩:=hZ;subst hr;obtain⟨m,hn,_⟩:=I4.loc;refine yn _ _ s4 m H' (I3.call' (ch:=fp) I4.os I4.base I4.hok I4.bare λb hb=>⟨(ii b hb).2.2.2.1,(ii b hb).2.1,(ii b hb).2.2.2.2.1,(ii b hb).2.2.2.2.2⟩) hn (I3.fpOk (Um _) I4.free) q
  ·refine V1 (T.item (blk X sc x M cl s3.heap.objs.size s3 (upd H2 s2.heap.objs.size (.lst [])) fp) rfl rfl rfl hc i [] s' (o::σ) H' (λ_ _=>False) I' (pS (pl:=[]) uQ) ag go) (λr s4 hZ=>?_) λ_ _ f=>f.elim
   obtain⟨u,hr,h4⟩:=hZ;subst hr;refine V1 h4 (λ_ s5 hZ=>?_) λ_ _ f=>f.elim
   obtain⟨y,H5,I5,r5,y5,cK,pI⟩:=hZ;have pJ:=I5.pinned (pS (pl:=[]) pI) (T.obj _ _ cK);refine V1 (hg _ s5 (o::σ) H5 y u (λσ' H'=>σ'=Vo y::σ/\H'=H5) pJ r5 ⟨rfl,rfl⟩) (λ_ s6 hZ=>?_) λ_ _ f=>f.elim
   obtain⟨σ6,H6,I6,e6,yo⟩:=hZ;subst e6 yo;have again:∀ {H7:Hp} {s7:VH} {zs:List V} {m':Nat},Inv (blk X sc x M cl s3.heap.objs.size s3 (upd H2 s2.heap.objs.size (.lst [])) fp) ([]++YPa fp s5.heap) (Vo y::σ) H7 s7->m' < n->W (i+1) m' zs H7 ->
    ∃ m,m < n/\∃ i ys o H',Inv (blk X sc x M cl s3.heap.objs.size s3 (upd H2 s2.heap.objs.size (.lst [])) fp) [] (o::σ) H' s7/\tn i s7.heap/\(∀ b∈fp,H' b=Vp)/\W i m ys H':=λ{H7 s7 zs m'} I7 hm w7=>by
    refine⟨m',hm,i+1,zs,Vo y,H7,I7.unpinned,T.keep _ _ _ cK λb hb o e=>(I7.pin (b,o) (Ur _ (Ur _ (XB hb e)))).1,λb hb=>?_,w7⟩
    obtain⟨o,e,d⟩:=T.obj _ _ cK b hb;exact(I7.pin (b,o) (Ur _ (Ur _ (XB hb e)))).2.1
   refine V1 (bH _ s6 (Vo y::σ) H6 _ I6 (step y H6 y5)) (λb s7 hZ=>?_) λ_ _ f=>f.elim
   obtain⟨H7,I7,q7⟩:=hZ;cases b with
   | false =>
    rw[if_neg Uc]at q7 ⊢;obtain⟨m',hm,w7⟩:=q7;exact again I7 hm w7
   | true =>
    rw[if_pos rfl]at q7 ⊢;refine V1 (jX _ s7 (Vo y::σ) H7 _ I7 q7) (λu8 s8 hZ=>?_) λ_ _ f=>f.elim
    obtain⟨v8,H8,I8,r8,yp,m',hm,w8⟩:=hZ;refine V1 (ZS (X:=blk X sc x M cl s3.heap.objs.size s3 (upd H2 s2.heap.objs.size (.lst [])) fp) _ s8 (Vo y::σ) H8 (.ref s2.heap.objs.size) [v8] (.ref s2.heap.objs.size) [u8] (λ_ H9=>H9=upd H8 s2.heap.objs.size (.lst (ys++[v8]))) I8 rfl (.cons r8 .nil) ⟨_,ys,v8,rfl,rfl,yp,aA,rfl⟩) (λ_ s9 hZ=>?_) λ_ _ f=>f.elim
    obtain⟨_,H9,I9,_,e9⟩:=hZ;subst e9;exact again I9 hm w8
 exact codeAny_compStart_list (jY _ rfl) (T.self X.A 0 _ _ _ dS (jY _ rfl))
theorem YJ{sc:Scope}{x:Str}{px pos:Pos}{Uf cM:Expr}{cm:List Expr}(M:List Str){wi:TI}{tt:TT}{te:TE}(hc:X.calm=true)(B:Z2b X sc x M)(hi:PI X (.Name x px) Uf wi)
 (ht:∀ cl C s H fp,QT (blk X sc x M cl C s H fp) cm tt) (he:∀ cl C s H fp,PE (blk X sc x M cl C s H fp) cM te) (hs:∀ x,foldedSetIterable Uf X.env x=pure x:=by intro _;rfl) :
 PE X (.ListComp cM [⟨.Name x px,Uf,cm,0⟩] sc pos) (tLc wi tt te):=by
 intro aa s σ H Q I h;obtain⟨cl,ij,q1,q3⟩:=Y0a X.env sc (λy hy hf=>I.ok.has y.1 (B.free y hy hf))
 rw[eval_ListComp];refine wpAny_comprehension_free (use:=Vp) rfl hs ij B.kind B.names (Y1a (RR:=λaO C=>compPost (VW X.prog X.w) X.A X.xe Vp (EP X aa σ Q) aO C) hc B hi (ht cl) (he cl) q1 q3 I h ?_)
 intro D C s' m H' I' hn dC q;exact⟨m,hn,λh' sb=>⟨.ref D,H',I'.turned (t':=s'.toks) (λb o hb e=>sb.extBut b o hb e) dC.1 dC.2.1 dC.2.2.2.1 dC.2.2.2.2.1 dC.2.2.2.2.2,rfl,q⟩⟩
def Znc(j:Nat)(wi:TI)(tt:TT)(te:TE):TS:=λD σ H=>tLc wi tt te σ H λv H'=>D.nx (σ.set j (Vo v)) H'
theorem Zoc{sc:Scope}{x y:Str}{px py pos jZ:Pos}{Uf cM:Expr}{cm:List Expr}{j:Nat}(M:List Str){wi:TI}{tt:TT}{te:TE}(hc:X.calm=true)(hN:X.N.Nodup)(hj:X.N[j]?=Vo y)(hy:X.env.scope.names.lookup y=Vo .local)
 (B:Z2b X sc x M) (hi:PI X (.Name x px) Uf wi)
 (ht:∀ cl C s H fp,QT (blk X sc x M cl C s H fp) cm tt) (he:∀ cl C s H fp,PE (blk X sc x M cl C s H fp) cM te)
 (yr:Ua (.ListComp cM [⟨.Name x px,Uf,cm,0⟩] sc pos) (Vo (.Name y py)) jZ.line X.env=pure true:=by rfl) (hs:∀ x,foldedSetIterable Uf X.env x=pure x:=by intro _;rfl) :
 PS X (.Assign [.Name y py] (.ListComp cM [⟨.Name x px,Uf,cm,0⟩] sc pos) jZ) (Znc j wi tt te):=by
 intro aa s σ H D I h;obtain⟨cl,ij,q1,q3⟩:=Y0a X.env sc (λy hy hf=>I.ok.has y.1 (B.free y hy hf))
 rw[exec_Assign_Name_used _ _ _ _ yr];refine Uh (U5 (Uh ?_))
 show VV _ X.A (do let _ <- comprehension (.ListComp cM [⟨.Name x px,Uf,cm,0⟩] sc pos) sc X.env _ (newList []) false (VX Uf X.env) (Vo (assign (.Name y py) X.env))) _ _ s
 refine Uh (V1 (wpAny_comprehension_free (use:=Vo (assign (.Name y py) X.env)) (Q:=λ_ s'=>SP X aa D .next s') rfl hs ij B.kind B.names
  (Y1a (RR:=λaO C=>compPost (VW X.prog X.w) X.A X.xe (Vo (assign (.Name y py) X.env)) (λ_ s'=>SP X aa D .next s') aO C) hc B hi (ht cl) (he cl) q1 q3 I h ?_)) (λ_ s' hq=>Ug (Ug hq)) λ_ _ e=>e)
 intro A C s' m H' I' hn dC q;show VV _ X.A (assign (.Name y py) X.env (.ref A)) _ _ s';refine wpAny_assign_Name (Qib I' hN hj (.inl hy) (v:=.ref A) rfl (λdA pT hZ=>?_) (.inr hy))
 obtain⟨a,sb,ha⟩:=hZ;have ax:C≠a:=by
  rcases ha with e | e
  ·rw[e];exact dC.2.1
  ·exact λz=>dC.2.2.2.2.1 y a e z.symm
 exact⟨m,hn.sameBut sb ax,λh' yt=>⟨_,H',pT.turned (t':=dA.toks) (λb o hb e=>yt.extBut b o hb e) dC.1 dC.2.1 dC.2.2.2.1 dC.2.2.2.2.1 dC.2.2.2.2.2,q⟩⟩
end
end L2
end
section
namespace HT
open PySem PyProof.Rows L2
def Ye:List V->List V->Option Bool
 | [],[]=>Vo false
 | [],_::_=>Vo true
 | _::_,[]=>Vo false
 | .int i::xs,.int j::ys=>if i=j then Ye xs ys else Vo (decide (i < j))
 | .str i::xs,.str j::ys=>if i=j then Ye xs ys else Vo (decide (i.cps.toList < j.cps.toList))
 | _::_,_::_=>Vp
theorem Jha:Ye [] []=Vo false:=rfl
theorem ZBa(y:V)(ys:List V):Ye [] (y::ys)=Vo true:=rfl
theorem ZCa(x:V)(xs:List V):Ye (x::xs) []=Vo false:=by cases x <;> rfl
theorem Zpc(A:VG)(s:VH)(a:Str)(t:Tok)(c:Str)(u:Tok)(prog:Vg)(w:Vb)(E:YQ_)(Q:YQ_)(h:Q (.bool (decide (a.cps.toList < c.cps.toList))) s) :
 VV (VW prog w) A (richCompare .Lt (.str a t) (.str c u)) Q E s :=
 (DC h:VV (VW prog w) A (V2 .Lt (.str a t) (.str c u)) Q E s)
section
open PySem.SeqAt
open PySem.AutoSeq1 (wpAny_loadPart')
open PySem.MeetsSeq PySem.MeetsSeq2 PySem.MeetsSeq3
theorem Ynb(l b:Vh)(ai aB:Array Va)(n n2:Nat)(dd pU:Option Vh)(sl i7:Array (Option Va))(xs ys:List V)(hi:QG xs ai.toList)(hj:QG ys aB.toList)(r:Bool)(hr:Ye xs ys=Vo r) :
 Meets (OW.«tuple.__lt__» ⟨[.ref l,.ref b],[]⟩)
  (λ_ R s=>s.heap.get? l=Vo { cls:=.type "tuple",dict:=dd,data:=.seq ai n,slots:=sl }/\s.heap.get? b=Vo { cls:=.type "tuple",dict:=pU,data:=.seq aB n2,slots:=i7 } /\
   R (.ok (.ret (.bool r))) s) :=
 .of_wp λprog w A R s h=>by
  obtain⟨hp,g,d,tk,os⟩:=s;obtain⟨hl,hb,h⟩:=h;have f2:=AutoSeq1.sub_tuple_tuple;have z1:ai.size=xs.length:=by rw[hi.length];simp
  have z2:aB.size=ys.length:=by rw[hj.length];simp
  wp_walk using wpAny_loadPart' hl,wpAny_loadPart' hb,wpAny_forIn_list _ (λrest b s'=>b.1=Vp/\s'=⟨hp,g,d,tk,os⟩/\∃ (vs ws:List Va) (cn gw:List V),rest=vs.zip ws /\
   QG cn vs/\QG gw ws/\cn.length+aB.size=gw.length+ai.size/\Ye cn gw=Vo r) _
  case turn =>
   rintro⟨y,x⟩ rest b s' ⟨n8,rfl,vs,ws,cn,gw,hz,j6,n9,aA,hR⟩;cases j6 with
   | nil=>rw[zip_nil_left]at hz;cases hz
   | cons ra j7 =>
    cases n9 with
    | nil=>rw[zip_nil_right]at hz;cases hz
    | cons rb kc =>
     rename_i a1 v1 l1 l2 a2 v2 l3 l4;rw[zip_cons_cons]at hz;injection hz with hyx gx
     injection hyx with hy hx
     subst hy hx;simp only[UB]at aA;cases a1 with
     | int i =>
      cases a2 with
      | int j =>
       obtain⟨t,rfl⟩:=ra;obtain⟨u,rfl⟩:=rb;simp only[Ye]at hR;obtain⟨e,he,ke⟩:=Q9c A.in1 ⟨hp,g,d,tk,os⟩ i t j u;refine Uh (he prog w _ _ ?_)
       cases e with
       | true =>
        rw[if_pos (ke.mp rfl)]at hR
        wp_walk
        exact⟨rfl,rfl,_,_,_,_,gx,j7,kc,by lia,hR⟩
       | false =>
        rw[if_neg (λq=>absurd (ke.mpr q) Uc)]at hR
        cases hR;have pV:=Zac A.in1 ⟨hp,g,d,tk,os⟩ i t j u prog w
        wp_walk using pV
        exact⟨_,rfl,by simpa using h⟩
      | _=>simp[Ye]at hR
     | str i =>
      cases a2 with
      | str j =>
       obtain⟨t,rfl⟩:=ra;obtain⟨u,rfl⟩:=rb;simp only[Ye]at hR;refine Uh (SeqAt.EqAt.str_str (A:=A.in1) (s:=⟨hp,g,d,tk,os⟩) i t j u prog w _ _ ?_)
       cases e:(i == j) with
       | true =>
        rw[if_pos (by simpa using e)]at hR
        wp_walk
        exact⟨rfl,rfl,_,_,_,_,gx,j7,kc,by lia,hR⟩
       | false =>
        rw[if_neg (by simpa using e)]at hR
        cases hR;have pV:=Zpc A.in1 ⟨hp,g,d,tk,os⟩ i t j u prog w
        wp_walk using pV
        exact⟨_,rfl,by simpa using h⟩
      | _=>simp[Ye]at hR
     | _=>cases a2 <;> simp[Ye]at hR
  case fin =>
   rintro⟨b1,b2⟩ s' ⟨n8,rfl,vs,ws,cn,gw,hz,j6,n9,aA,hR⟩;simp only at n8;subst n8;have hv:r=decide (ai.size < aB.size):=by
    cases j6 with
    | nil =>
     cases n9 with
     | nil =>
      simp only[OF]at aA;rw[Jha]at hR;cases hR;exact(decide_eq_false #[0]).symm
     | cons c hw =>
      simp only[OF,UB]at aA;rw[ZBa]at hR;cases hR;exact(decide_eq_true #[0]).symm
    | cons a hv =>
     cases n9 with
     | nil =>
      simp only[OF,UB]at aA;rw[ZCa]at hR;cases hR;exact(decide_eq_false #[0]).symm
     | cons c hw =>
      rw[zip_cons_cons]at hz;cases hz
   rw[hv]at h
   wp_walk
   exact⟨_,rfl,by simpa[Builtin.Tuple.tupleCompareSizes]using h⟩
  case h =>
   exact⟨rfl,rfl,ai.toList,aB.toList,xs,ys,rfl,hi,hj,by lia,hr⟩
end
section
variable{prog:Vg}{w:Vb}{A:VG}{E:YQ_}{s:VH}
theorem Ymc{l b:Vh}{ai aB:Array Va}{xs ys:List V}{r:Bool}{Q:YQ_}(hl:Vt s.heap l ai)(hb:Vt s.heap b aB)(hi:QG xs ai.toList)(hj:QG ys aB.toList)(hr:Ye xs ys=Vo r)
 (hu:A.units < UR) (h:Q (.bool r) s):VV (VW prog w) A (V2 .Lt (.ref l) (.ref b)) Q E s:=by
 obtain⟨⟨cls,dd,data,sl⟩,ho,hc,n,hd⟩:=id hl;obtain⟨⟨cls2,pU,data2,i7⟩,oa,dF,n2,ik⟩:=id hb;simp only at hc hd dF ik;subst hc hd dF ik;exact OX (op:=.Lt) ⟨_,ho,rfl⟩ ⟨_,oa,rfl⟩ F.slot_tuple_lt F.entry_tuple_lt (F.args_tuple_lt_2 _ _) (Ynb l b ai aB n n2 dd pU sl i7 xs ys hi hj r hr)
  ⟨ho,oa,show Vj r≠OY/\Q (.bool r) s from⟨(λx=>nomatch x),h⟩⟩ hu
end
end HT
namespace L2
open PySem PySem.Spec PyProof.Rows
section
variable{X:Cx}
def QQd:V->Option Va
 | .ty n=>Vo (.type n)
 | .ref a=>Vo (.ref a)
 | _=>Vp
def Qbc(K:VD):List V->Hp->VK->Prop:=λxs H Q=>∃ x c t cv b,xs=[x,c]/\QQd c=Vo cv/\Jaa K H x t/\UP K t cv=Vo b/\Q (.bl b) H
theorem Y1:Qoa X (.builtin "isinstance") (Qbc X.K):=by
 intro aa s σ H xs us Q I r h;obtain⟨x,c,t,cv,b,rfl,hc,ty,e,q⟩:=h;obtain⟨u,w',rfl,rx,rc⟩:=Y5c r;have ec:w'=cv:=by
  cases c <;> simp[QQd]at hc
  ·subst hc;exact rc
  ·subst hc;exact rc
 subst ec;exact X4b I rx ty e λtk=>⟨.bl b,H,I.tok tk,rfl,q⟩
def QRd(K:VD):R2:=λx y H Q=>∃ a b xs ys r,x=.ref a/\y=.ref b/\SqT K H a xs/\SqT K H b ys/\HT.Ye xs ys=Vo r/\Q (.bl r) H
theorem XRc(hu:X.A.units < UR):OpR X (V2 .Lt) (QRd X.K):=by
 intro aa s σ H x y v u Q I rx ry h;obtain⟨a,b,xs,ys,r,rfl,rfl,ha,hb,e,q⟩:=h;cases rx;cases ry;obtain⟨ah,r1,p1,_⟩:=I.tuple ha;obtain⟨aQ,r2,p2,_⟩:=I.tuple hb;exact HT.Ymc p1 p2 (by simpa using r1) (by simpa using r2) e hu ⟨.bl r,H,I,rfl,q⟩
def Its(z:Str):It:=⟨λi _=>i < z.length,λi H x H'=>H'=H/\∃ c,z.cps[i]?=Vo c/\x=.str ⟨#[c]⟩,λi _=>z.length<=i⟩
theorem Qcc{P:Vg}{w:Vb}{K:VD}{tg:Expr}(it:Vh)(z:Str)(t:Tok):ZSb P w K tg (Its z) [it] it (λi h=>h.IsStrIter it "str_ascii_iterator" z t i) where
 mem:=by simp
 obj:=λi h st b hb=>by
  have e:b=it:=by simpa using hb
  subst e;obtain⟨o,e,c,d⟩:=st;exact⟨o,e,λv z=>by rw[d]at z;cases z⟩
 keep:=λi h h' st k=>let ⟨o,ho,r⟩:=st;⟨o,k it #[2] o ho,r⟩
 item:=by
  intro X hP hw hK hc i aa s σ H E I hf st hg;subst hP hw hK;obtain⟨f0,f1,f2,f3,f4,f5⟩:=hf it #[2]
  have W:=Walks.strAscii (prog:=X.prog) (w:=X.w) (I.ok.hd hc) it z t;refine W.item i s _ _ hg st λv h' tk hv ag kk=>?_
  obtain⟨c,u,pW,rfl⟩:=hv;have I1:Inv X aa σ H { s with heap:=h',toks:=tk }:=I.turned (λb o hb e=>kk b o (by simpa using hb) e) f0 f1 f3 f4 f5
  obtain⟨o,e,c',d⟩:=id ag;exact⟨_,rfl,YNa (s:={ s with heap:=h',toks:=tk }) e c' d #[1] ⟨.str ⟨#[c]⟩,H,I1,⟨_,rfl⟩,⟨rfl,c,pW,rfl⟩,ag,λb hb=>(hf b hb).1⟩⟩
 done:=by
  intro X hP hw hK hc i aa s σ H E I hf st hg;subst hP hw hK;obtain⟨f0,f1,f2,f3,f4,f5⟩:=hf it #[2]
  have pY:z.length<=i:=hg;exact wpAny_pyNext_ascii_end (I.ok.hd hc) st (by simpa[Str.length]using pY) λh' eb=>⟨rfl,I.turned (t':=s.toks) (λb o hb e=>eb b o hb e) f0 f1 f3 f4 f5⟩
 self:=λ_ _ _ _ _ st h=>wpAny_pyIter_striter_ascii st h
theorem Qdc{P:Vg}{w:Vb}{K:VD}{tg:Expr}(it:Vh)(z:Str)(t:Tok):ZSb P w K tg (Its z) [it] it (λi h=>h.IsStrIter it "str_iterator" z t i) where
 mem:=by simp
 obj:=λi h st b hb=>by
  have e:b=it:=by simpa using hb
  subst e;obtain⟨o,e,c,d⟩:=st;exact⟨o,e,λv z=>by rw[d]at z;cases z⟩
 keep:=λi h h' st k=>let ⟨o,ho,r⟩:=st;⟨o,k it #[2] o ho,r⟩
 item:=by
  intro X hP hw hK hc i aa s σ H E I hf st hg;subst hP hw hK;obtain⟨f0,f1,f2,f3,f4,f5⟩:=hf it #[2]
  have W:=Walks.strWide (prog:=X.prog) (w:=X.w) (I.ok.hd hc) it z t;refine W.item i s _ _ hg st λv h' tk hv ag kk=>?_
  obtain⟨c,u,pW,rfl⟩:=hv;have I1:Inv X aa σ H { s with heap:=h',toks:=tk }:=I.turned (λb o hb e=>kk b o (by simpa using hb) e) f0 f1 f3 f4 f5
  obtain⟨o,e,c',d⟩:=id ag;exact⟨_,rfl,YNa (s:={ s with heap:=h',toks:=tk }) e c' d #[1] ⟨.str ⟨#[c]⟩,H,I1,⟨_,rfl⟩,⟨rfl,c,pW,rfl⟩,ag,λb hb=>(hf b hb).1⟩⟩
 done:=by
  intro X hP hw hK hc i aa s σ H E I hf st hg;subst hP hw hK;obtain⟨f0,f1,f2,f3,f4,f5⟩:=hf it #[2]
  have pY:z.length<=i:=hg;exact wpAny_pyNext_wide_end (I.ok.hd hc) st (by simpa[Str.length]using pY) λh' eb=>⟨rfl,I.turned (t':=s.toks) (λb o hb e=>eb b o hb e) f0 f1 f3 f4 f5⟩
 self:=λ_ _ _ _ _ st h=>wpAny_pyIter_striter_wide st h
end
section
variable{X:Cx}
def XSc(tl:TE):TI:=λσ H R=>tl σ H λx H1=>∃ z,x=.str z/\R (Its z) H1
theorem XTc{tg l:Expr}{tl:TE}(hl:PE X l tl):PI X tg l (XSc tl):=by
 intro aa s σ H R I h;refine thn (hl aa s σ H _ I h) λv s1 hZ=>?_
 obtain⟨x,H1,I1,r1,q1⟩:=hZ;obtain⟨z,e,q⟩:=q1;subst e;obtain⟨t,rfl⟩:=r1;cases ha:z.cps.all (· < 128)
 ·refine wpAny_pyIter_wide ha ?_
  refine⟨s1.heap.objs.size,[s1.heap.objs.size],_,_,H1,rfl,I1.kept (t':=s1.toks) λb o e=>Uk _ e,Qdc _ z t,⟨_,Ul _ rfl,rfl,rfl⟩,λb hb=>?_,q⟩
  have e:b=s1.heap.objs.size:=by simpa using hb
  subst e;exact I1.fpOk (Um _) (I1.hok.fresh (Um _))
 ·refine wpAny_pyIter_ascii ha ?_
  refine⟨s1.heap.objs.size,[s1.heap.objs.size],_,_,H1,rfl,I1.kept (t':=s1.toks) λb o e=>Uk _ e,Qcc _ z t,⟨_,Ul _ rfl,rfl,rfl⟩,λb hb=>?_,q⟩
  have e:b=s1.heap.objs.size:=by simpa using hb
  subst e;exact I1.fpOk (Um _) (I1.hok.fresh (Um _))
theorem Ync{z:Str}{g:TG}{tb:TS}{D:JR}{σ:St}{H:Hp}(Pv:Nat->St->Hp->Prop)(h0:Pv 0 σ H)
 (hs:∀ i c σ H,z.cps.toList[i]?=Vo c->Pv i σ H->g (.str ⟨#[c]⟩) σ H λσ2 H2=>tb { D with nx:=Pv (i+1),ct:=Pv (i+1),bk:=D.nx } σ2 H2) (hd:∀ σ H,Pv z.length σ H->D.nx σ H) :
 ∃ W:Nat->Nat->St->Hp->Prop,(∃ m,W 0 m σ H)/\∀ i m σ H,W i m σ H ->
  ((Its z).stop i H/\D.nx σ H)\/((Its z).go i H/\∃ N:St->Hp->Prop,(∀ σ' H',N σ' H'->∃ m',m' < m/\W (i+1) m' σ' H')/\∀ x H',(Its z).yld i H x H'->g x σ H' λσ2 H2=>tb { D with nx:=N,ct:=N,bk:=D.nx } σ2 H2):=by
 refine⟨λi m σ H=>m=z.length - i/\i<=z.length/\Pv i σ H,⟨z.length,by simp,Us _,h0⟩,?_⟩
 rintro i m σ H ⟨rfl,hi,p⟩
 by_cases aG:i < z.length
 ·refine .inr ⟨aG,Pv (i+1),λσ' H' p'=>⟨z.length - (i+1),by lia,rfl,aG,p'⟩,λx H' y=>?_⟩
  obtain⟨e,c,hc,e2⟩:=y;subst e e2;exact hs i c σ _ (by simpa using hc) p
 ·have e:i=z.length:=by lia
  subst e;exact .inl ⟨Um _,hd σ H p⟩
theorem Zqc{x:V}(f:Zya x=true):eqV x x=true:=by cases x <;> simp[eqV,Zya]at *
end
theorem YK:VF "len"=Vo (.builtin "len"):=by decide +kernel
theorem J3:VF "isinstance"=Vo (.builtin "isinstance"):=by decide +kernel
theorem XUc:VF "ord"=Vo (.builtin "ord"):=by decide +kernel
theorem XVc:VF "max"=Vo (.builtin "max"):=by decide +kernel
theorem QXb:VF "str"=Vo (.type "str"):=by decide +kernel
theorem XWc:VF "int"=Vo (.type "int"):=by decide +kernel
theorem Z0:VF "list"=Vo (.type "list"):=by decide +kernel
theorem Z5b:VF "tuple"=Vo (.type "tuple"):=by decide +kernel
def QSd(dsc sc:Scope)(x:Str)(N M:List Str):Bool :=
 decide (sc.kind=.function) && sc.names.all (λy=>decide (y.2≠.cell)) && sc.names.all (λy=>decide (y.2=.local->sc.names.lookup y.1=Vo .local)) && decide (sc.names.lookup x=Vo .local) && decide ((x::M).Nodup) &&
 decide (M.length=N.length) && sc.names.all (λy=>decide (y.2=.free->dsc.names.lookup y.1=Vo .cell\/dsc.names.lookup y.1=Vo .free)) &&
 (VC M.length).all (λi=>match M[i]? with | some y=>decide (sc.names.lookup y=Vo .free->N[i]?=Vo y) | none=>true) && M.all (λy=>decide (sc.names.lookup y≠Vo .local))
theorem Yga{X:Cx}{sc dsc:Scope}{x:Str}{N M:List Str}(hN:X.N=N)(hs:X.env.scope=dsc)(h:QSd dsc sc x N M=true):Z2b X sc x M:=by
 unfold QSd at h;simp only[OZ,decide_eq_true_eq,O8]at h;obtain⟨⟨⟨⟨⟨⟨⟨⟨h1,h2⟩,h3⟩,h4⟩,h5⟩,h6⟩,h7⟩,h8⟩,h9⟩:=h;refine⟨h1,h2,h3,h4,h5,by rw[hN];exact h6,λy hy hf=>?_,λi y hi hf=>?_,h9⟩
 ·have:=h7 y hy hf
  rw[<- hs]at this;exact this
 ·have hl:i < M.length:=(List.getElem?_eq_some_iff.mp hi).1
  have:=h8 i (mem_range.mpr hl);rw[hi]at this;rw[hN];exact(decide_eq_true_eq.mp this) hf
def Cal(P:Vg)(w:Vb)(K:VD)(mg:Str->Option Va)(base:Vq)(k:Nat)(x:Str)(ps:List Str)(sp:Sp):Prop :=
 ∃ f fd,QE P w K mg base CX0 k f fd ps sp/\Z4 K fd ps []/\UI K (.ref f)=true/\mg x=Vo (.ref f)
section
variable{X:Cx}{e:Expr}{es:List Expr}{t:TA}{p pos:Pos}
theorem Z7{j k:Nat}{x:Str}{ps:List Str}{sp:Sp}(G:Cal X.prog X.w X.K X.mg X.base j x ps sp)(hr:Zi k X.A)(hj:j<=k)(hg:Gl X x)(ha:PA X (e::es) t)(aV:(x == ("__debug__":Str))=false:=by decide)
 (he:VZ (e::es) X.env=(false,VX e X.env)::VZ es X.env:=by rfl) (aN:(VY pos (VZ es X.env)).any (·.1)=false:=by rfl):PE X (.Call (.Name x p) (e::es) [] pos) (ZVb sp [] E0 t):=by
 obtain⟨f,fd,F,b,kp,m⟩:=G;exact Ygc F (hr.mono hj) hg m kp b .nil Xhb ha aV he aN
theorem Yya{x:Str}{i:Int}(h:∃ t,X.mg x=Vo (.int i t))(hg:Gl X x)(hd:(x == ("__debug__":Str))=false:=by decide):PE X (.Name x pos) (tC (.int i)):=by
 obtain⟨t,h⟩:=h;exact Y7b hg h ⟨t,rfl⟩ hd
end
theorem QEa{K:VD}{H:Hp}{Q:VK}{x:V}{n:String}{t:Va}{b:Bool}(ty:Jaa K H x t)(e:UP K t (.type n)=Vo b)(q:Q (.bl b) H):Qbc K [x,.ty n] H Q:=⟨x,.ty n,t,.type n,b,rfl,rfl,ty,e,q⟩
section
variable{K:VD}
end
theorem QTd{c:Bool}{p:Bool->Prop}:(∃ k,V.bl c=V.bl k/\p k)=p c:=propext ⟨λ⟨_,e,q⟩=>by cases e;exact q,λq=>⟨c,rfl,q⟩⟩
theorem XXc{c:Int}{p:Int->Prop}:(∃ k,V.int c=V.int k/\p k)=p c:=propext ⟨λ⟨_,e,q⟩=>by cases e;exact q,λq=>⟨c,rfl,q⟩⟩
theorem XYc{c:Str}{p:Str->Prop}:(∃ k,V.str c=V.str k/\p k)=p c:=propext ⟨λ⟨_,e,q⟩=>by cases e;exact q,λq=>⟨c,rfl,q⟩⟩
theorem XZc{c:Vh}{p:Vh->Prop}:(∃ k,V.ref c=V.ref k/\p k)=p c:=propext ⟨λ⟨_,e,q⟩=>by cases e;exact q,λq=>⟨c,rfl,q⟩⟩
theorem Yoc{a b:Int}{p:Int->Int->Prop}:(∃ i j,V.int a=V.int i/\V.int b=V.int j/\p i j)=p a b:=propext ⟨λ⟨_,_,e,f,q⟩=>by cases e;cases f;exact q,λq=>⟨a,b,rfl,rfl,q⟩⟩
theorem Qm{t:TS}{D:JR}{σ σ':St}{H:Hp}(e:σ'=σ)(h:t D σ H):t D σ' H:=by rw[e];exact h
end L2
end
section
namespace Att
open PySem PySem.W PySem.Calls PyProof.Rows
theorem Z6b:∀ (ns:List Int),O9 (ns.map Ox)<=2 ^ 20->∀ n∈ns,Ia n<=2 ^ 20
 | [],_,_,h=>nomatch h
 | m::ns,hw,n,h=>by
  rw[UH]at hw;have e:O9 (Ox m::ns.map Ox)=Ib (.int m)+1+O9 (ns.map Ox):=by simp only[O9]
  rw[e]at hw
  rcases mem_cons.mp h with rfl | h
  ·have:Ib (.int n)<=2 ^ 20:=by lia
   simpa only[Ib,Ia]using this
  ·exact Z6b ns #[0] n h
theorem QYb{l:OpenLaw}{n:Nat}{q:Vg}{dh:List Str}{XP:(Str->Option Va)->Vq->Prop}{YP:Vb->Vq->Prop}{d:DefRec}
 (hn:l.most=Vo n) (pZ:d.params.defaults=[])
 (Ut:∀ (w:Vb) (s₀ s₁:VH) (mg mb:Str->Option Va) (fa:Vh) (o:Obj) (pm cd bS:Va) (a:Vh) (vs:List Va) (ns:List Int),
  Ground q dh [] XP w s₀ mg mb s₁.heap->YP w s₁.heap ->
  s₁.heap.get? fa=Vo o->o.data=.func (docDef d.name d.params d.body d.scope pm cd bS)->s₁.heap.CodeRec cd d.name->mg d.name=Vo (.ref fa) ->
  s₁.heap.get? a=Vo { cls:=.type "list",data:=.seq vs.toArray }->IntsAre vs ns->ns.length<=n->(∀ i∈ns,Ia i<=2 ^ 20)->s₁.gens=#[] ->
  UE (VW l.prog w) OA (.call (.ref fa) ⟨[.ref a],[]⟩) (λr s'=>r=.ok (.ret (.bool true))/\OldK s₁.heap s'.heap/\s'.os=s₁.os/\VI s'.gens) s₁) :
 WalkO q dh XP YP l.row.toRowW d [] (λf vs=>PySem.call f vs):=by
 intro w s₀ s₁ mg mb G Y fa o pm cd bS dV kV ho hd b7 hD kg hg args hX as fG p5 hrd pN uT;obtain rfl:dV=.none:=Dflts.none hD pZ;obtain rfl:kV=.none:=Dflts.noKw hD;obtain⟨a,vs,ns,rfl,rfl,il,eG,aA⟩:=X7b hn fG pN;have hb:∀ i∈ns,Ia i<=2 ^ 20:=by
  have h1:WData.layable (.list (ns.map Ox))=true:=by
   have:=p5;unfold WData.layableAll at this;exact all_eq_true.mp this _ VN
  have h2:Ib (.list (ns.map Ox))<=2 ^ 20:=of_decide_eq_true (Bool.and_eq_true_iff.mp h1).2;exact Z6b ns (by simpa only[Ib]using h2)
 refine enter_call (UX (Ut w s₀ s₁ mg mb fa o pm cd bS a vs ns G Y ho (fd_plain hd) b7 kg il eG aA hb hg) λr s' hq=>?_)
 obtain⟨rfl,h2,h3,h4⟩:=hq;exact⟨.inl ⟨.bool true,.bool true,[],rfl,λ_=>rfl,.bool true,X8b l _,λ_=>⟨Ic,λ_ hm=>(nomatch hm)⟩⟩,h2,h3,h4⟩
end Att
namespace L2
open PySem PySem.Spec PyProof.Rows
theorem Zrc{l:W.OpenLaw}{n k:Nat}{q:Vg}{dh:List Str}{XP:(Str->Option Va)->Vq->Prop}{YP:Vb->Vq->Prop}{d:DefRec}{K:Params->VD}{CX:Vb->CXT}{sp:VD->Sp}{x:Str}
 (hn:l.most=Vo n) (dQ:n<=Vs) (pZ:d.params.defaults=[]) (hr:Zi k OA)
 (hY:∀ (w:Vb) (h:Vq),YP w h->(K w.params).In h)
 (F:∀ (w:Vb) (mg:Str->Option Va) (fa:Vh) (h:Vq),(K w.params).In h->h.Ns VE mg->mg d.name=Vo (.ref fa) ->
  ∃ fd:UU,(∀ (s:VH) (u:Va),BindsTo s fd ⟨[u],[]⟩ [(x,u)]) /\
   ∀ base:Vq,(K w.params).In base->base.Ns VE mg->QE l.prog w (K w.params) mg base (CX w) k fa fd [x] (sp (K w.params)))
 (dB:∀ (K:VD) (H:Hp) (a:Vh) (ns:List Int),ns.length<=n->(∀ i∈ns,Ia i<=2 ^ 20)->XMc H->SqL K H a (ns.map V.int)->sp K [.ref a] H (λv _=>v=.bl true) λ_ _ _=>False)
 (pP:∀ (w:Vb) (H:Hp) (s:VH) (e:Va) (s':VH),CX w [] H s (λ_ _ _=>False) e s'->False) :
 W.WalkO q dh XP YP l.row.toRowW d [] (λf vs=>PySem.call f vs):=by
 refine Att.QYb hn pZ λw s₀ s₁ mg mb fa o pm cd bS a vs ns G Y ho hd b7 kg il eG aA hb hg=>?_
 have KX:=hY w _ Y;obtain⟨fd,yu,hF⟩:=F w mg fa _ KX G.T.g kg;exact Zcc KX G.T.g G.T.b G.T.builtins G.T.nolimit hg il eG (VJ aA dQ) hr hF yu (λH hO hS=>dB _ H a ns aA hb hO hS) λH e s'=>pP w H s₁ e s'
section
variable{X:Cx}
theorem Jz:OpR X (Uu .Mult) (rI IntMulOk λi j=>.int (i * j)):=opI λ_ _ _ _ _ _ _ hc q=>mul_int q hc
end
section
variable{X:Cx}
end
theorem Qf{H:Hp}{p:Vh}(h:H p=Vp)(o:HO):Qn H (upd H p o):=λb u q=>by rw[Qk (Qy q h)];exact q
theorem Qn.updL{H H':Hp}{p:Vh}(s:Qn H H')(h:H p=Vp)(o:HO):Qn H (upd H' p o):=λb u q=>by rw[Qk (Qy q h)];exact s b u q
theorem Qn.seqT{K:VD}{H H':Hp}{a:Vh}{xs:List V}(e:Qn H H')(h:SqT K H a xs):SqT K H' a xs:=by
 rcases h with (h | ⟨o,h⟩) | h
 ·exact .inl (.inl (e _ _ h))
 ·exact .inl (.inr ⟨o,e _ _ h⟩)
 ·exact .inr h
theorem Z7b{α:Type}(f:α->V)(ns:List α)(lo hi:Option Int):∃ ms:List α,Yd (ns.map f) lo hi=ms.map f/\ms.length<=ns.length/\∀ m∈ms,m∈ns:=by
 refine⟨(ns.drop (HT.sIx ns.length 0 lo)).take (HT.sIx ns.length ns.length hi - HT.sIx ns.length 0 lo),?_,?_,λm h=>mem_of_mem_drop (Ie h)⟩
 ·unfold Yd
  rw[UJ,<- map_drop,<- map_take]
 ·rw[Oa,On]
  lia
def FoR(J:It)(g:TG)(tb:TS)(D:JR)(σ:St)(H1:Hp):Prop:=∃ W:Nat->Nat->St->Hp->Prop,(∃ m,W 0 m σ H1)/\∀ i m σ H,W i m σ H ->
 (J.stop i H/\D.nx σ H)\/(J.go i H/\∃ N:St->Hp->Prop,(∀ σ' H',N σ' H'->∃ m',m' < m/\W (i+1) m' σ' H')/\∀ x H',J.yld i H x H'->g x σ H' λσ2 H2=>tb { D with nx:=N,ct:=N,bk:=D.nx } σ2 H2)
def LcR(J:It)(tt:TT)(te:TE)(σ:St)(Q:VK)(H1:Hp):Prop:=∀ D,H1 D=Vp->∃ W:Nat->Nat->List V->Hp->Prop,(∃ m,W 0 m [] (upd H1 D (.lst [])))/\∀ i m ys H,W i m ys H ->
 H D=Vo (.lst ys)/\((J.stop i H/\Q (.ref D) H)\/(J.go i H/\ys.length < Vs/\∀ x H',J.yld i H x H'->tt (Vo x::σ) H' λb H2=>if b=true then te (Vo x::σ) H2 λv H3 =>
  H3 D=Vo (.lst ys)/\∃ m',m' < m/\W (i+1) m' (ys++[v]) (upd H3 D (.lst (ys++[v]))) else ∃ m',m' < m/\W (i+1) m' ys H2))
theorem Qec{ta:TA}{g:TG}{tb:TS}{D:JR}{σ:St}{H:Hp}:QSb (QYc ta) g tb D σ H=ta σ H λvs H1=>∃ j:Int,vs=[.int j] /\ -(2 ^ 62)<=j/\j < 2 ^ 62/\FoR (Itr 0 j.toNat) g tb D σ H1:=rfl
theorem Qfc{ta:TA}{g:TG}{tb:TS}{D:JR}{σ:St}{H:Hp}:QSb (QZc ta) g tb D σ H=ta σ H λvs H1=>∃ i j:Int,vs=[.int i,.int j]/\(-(2 ^ 62)<=i/\i < 2 ^ 62 /\ -(2 ^ 62)<=j/\j < 2 ^ 62)/\FoR (Itr i (j - i).toNat) g tb D σ H1:=rfl
theorem Qgc{K:VD}{tl:TE}{g:TG}{tb:TS}{D:JR}{σ:St}{H:Hp}:QSb (QWc K tl) g tb D σ H=tl σ H λx H1=>∃ a,x=.ref a/\(∃ xs,SqL K H1 a xs)/\FoR (Itl K a) g tb D σ H1:=rfl
theorem Zsc{K:VD}{tl:TE}{g:TG}{tb:TS}{D:JR}{σ:St}{H:Hp}:QSb (XCc K tl) g tb D σ H=tl σ H λx H1=>∃ a,x=.ref a/\(∃ xs,SqT K H1 a xs)/\FoR (Itt K a) g tb D σ H1:=rfl
theorem Ztc{tl:TE}{g:TG}{tb:TS}{D:JR}{σ:St}{H:Hp}:QSb (XSc tl) g tb D σ H=tl σ H λx H1=>∃ z,x=.str z/\FoR (Its z) g tb D σ H1:=rfl
theorem Zuc{ta:TA}{tt:TT}{te:TE}{σ:St}{H:Hp}{Q:VK}:tLc (QYc ta) tt te σ H Q=ta σ H λvs H1=>∃ j:Int,vs=[.int j] /\ -(2 ^ 62)<=j/\j < 2 ^ 62/\LcR (Itr 0 j.toNat) tt te σ Q H1:=rfl
theorem Zvc{K:VD}{tl:TE}{tt:TT}{te:TE}{σ:St}{H:Hp}{Q:VK}:tLc (QWc K tl) tt te σ H Q=tl σ H λx H1=>∃ a,x=.ref a/\(∃ xs,SqL K H1 a xs)/\LcR (Itl K a) tt te σ Q H1:=rfl
theorem Ypc{K:VD}{tl:TE}{tt:TT}{te:TE}{σ:St}{H:Hp}{Q:VK}:tLc (XCc K tl) tt te σ H Q=tl σ H λx H1=>∃ a,x=.ref a/\(∃ xs,SqT K H1 a xs)/\LcR (Itt K a) tt te σ Q H1:=rfl
theorem Yqc{tl:TE}{tt:TT}{te:TE}{σ:St}{H:Hp}{Q:VK}:tLc (XSc tl) tt te σ H Q=tl σ H λx H1=>∃ z,x=.str z/\LcR (Its z) tt te σ Q H1:=rfl
theorem JLa{lo:Int}{n:Nat}{g:TG}{tb:TS}{D:JR}{σ:St}{H:Hp}(Pv:Nat->St->Hp->Prop)(h0:Pv 0 σ H)
 (hs:∀ i σ H,i < n->Pv i σ H->g (.int (lo+i)) σ H λσ2 H2=>tb { D with nx:=Pv (i+1),ct:=Pv (i+1),bk:=D.nx } σ2 H2) (hd:∀ σ H,Pv n σ H->D.nx σ H):FoR (Itr lo n) g tb D σ H:=X0b Pv h0 hs hd
theorem Z8{K:VD}{a:Vh}(xs:List V){g:TG}{tb:TS}{D:JR}{σ:St}{H:Hp}(Pv:Nat->St->Hp->Prop)(h0:Pv 0 σ H)(hl:∀ i σ H,i<=xs.length->Pv i σ H->SqL K H a xs)
 (hs:∀ i x σ H,xs[i]?=Vo x->Pv i σ H->g x σ H λσ2 H2=>tb { D with nx:=Pv (i+1),ct:=Pv (i+1),bk:=D.nx } σ2 H2) (hd:∀ σ H,Pv xs.length σ H->D.nx σ H):FoR (Itl K a) g tb D σ H:=Q0c Pv h0 hl hs hd
theorem Yrc{K:VD}{a:Vh}(xs:List V){g:TG}{tb:TS}{D:JR}{σ:St}{H:Hp}(Pv:Nat->St->Hp->Prop)(h0:Pv 0 σ H)(hl:∀ i σ H,i<=xs.length->Pv i σ H->SqT K H a xs)
 (hs:∀ i x σ H,xs[i]?=Vo x->Pv i σ H->g x σ H λσ2 H2=>tb { D with nx:=Pv (i+1),ct:=Pv (i+1),bk:=D.nx } σ2 H2) (hd:∀ σ H,Pv xs.length σ H->D.nx σ H):FoR (Itt K a) g tb D σ H:=JYc Pv h0 hl hs hd
theorem Ysc{z:Str}{g:TG}{tb:TS}{D:JR}{σ:St}{H:Hp}(Pv:Nat->St->Hp->Prop)(h0:Pv 0 σ H)
 (hs:∀ i c σ H,z.cps.toList[i]?=Vo c->Pv i σ H->g (.str ⟨#[c]⟩) σ H λσ2 H2=>tb { D with nx:=Pv (i+1),ct:=Pv (i+1),bk:=D.nx } σ2 H2) (hd:∀ σ H,Pv z.length σ H->D.nx σ H):FoR (Its z) g tb D σ H:=Ync Pv h0 hs hd
end L2
end
section
namespace SortT
open PySem PySem.W PyProof.Rows
def K(r:Nat->Nat)(p:Array Nat)(i:Nat):Nat:=r (p.getD i 0)
structure Ok(n:Nat)(p:Array Nat):Prop where
 size:p.size=n
 perm:p.Perm (VC n).toArray
theorem Ok.lt{n:Nat}{p:Array Nat}(h:Ok n p)(hn:0 < n)(i:Nat):p.getD i 0 < n:=by
 rw[Array.getD_eq_getD_getElem?];cases e:p[i]? with
 | none=>exact hn
 | some x =>
  have hx:x∈p:=Array.mem_of_getElem? e;have:=(h.perm.mem_iff (a:=x)).mp hx
  simpa using this
def Up(r:Nat->Nat)(p:Array Nat)(m:Nat):Prop:=∀ i j,i<=j->j < m->K r p i<=K r p j
variable{n:Nat}{r:Nat->Nat}
end SortT
end
section
namespace SortB
open PySem PySem.W PyProof.Rows
def QZb:Bool->Ig->Array Ig->Nat->Nat->Nat->StateT Ih Sem (Option Nat):=sortPriv% PySem.Builtin.gallop
def Zwc:Array Ig->Array Ig->StateT Ih Sem (Array Ig):=sortPriv% PySem.Builtin.mergeLo
def Zxc:Array Ig->Array Ig->StateT Ih Sem (Array Ig):=sortPriv% PySem.Builtin.mergeHi
def K(rk:Ig->Nat)(a:Array Ig)(i:Nat):Nat:=match a[i]? with | some p=>rk p | none=>0
theorem Zj{rk:Ig->Nat}{a:Array Ig}{i:Nat}(h:i < a.size):K rk a i=rk a[i]:=by unfold K;rw[getElem?_pos a i h]
theorem Yob{rk:Ig->Nat}{a b:Array Ig}{i j:Nat}(h:a[i]?=b[j]?):K rk a i=K rk b j:=by unfold K;rw[h]
section
variable{prog:Vg}{w:Vb}{A:VG}{E:YQ_}{s:VH}{κ:Ii}{rk:Ig->Nat}{S:Ig->Prop}
def Jia(prog:Vg)(w:Vb)(A:VG)(E:YQ_)(s:VH)(κ:Ii)(rk:Ig->Nat)(S:Ig->Prop):Prop :=
 ∀ x y (st:Ih) (Q:Option Bool->Ih->Prop),kindOf st=κ->S x->S y->Q (Vo (decide (rk x < rk y))) st->wpS (VW prog w) A E s (lt' x y) Q st
theorem QU{a:Array Ig}{i:Nat}{st:Ih}{Q:Ig->Ih->Prop}(hi:i < a.size)(h:Q a[i] st):wpS (VW prog w) A E s (elem' a i) Q st:=by
 rw[elem'_eq,getElem?_pos a i hi];exact Ij h
theorem X0c(L:Jia prog w A E s κ rk S){st:Ih}{i j:Nat}{Q:Option Bool->Ih->Prop}(hk:kindOf st=κ)(hS:∀ x∈Ik st,S x)(hi:i < (Ik st).size)(hj:j < (Ik st).size)
 (h:Q (Vo (decide (K rk (Ik st) i < K rk (Ik st) j))) st):wpS (VW prog w) A E s (ltAt' i j) Q st:=by
 rw[ltAt'_eq];refine Il (Im (Il (QU hi (Il (QU hj ?_)))))
 rw[Zj hi,Zj hj]at h;exact L _ _ st Q hk (hS _ (Io hi)) (hS _ (Io hj)) h
def bey(rk:Ig->Nat)(left:Bool)(key:Ig)(aC:Array Ig)(bs i:Nat):Bool:=if left=true then decide (K rk aC (bs+i) < rk key) else !decide (rk key < K rk aC (bs+i))
theorem Y2a(L:Jia prog w A E s κ rk S){st:Ih}{left:Bool}{key:Ig}{aC:Array Ig}{bs i:Nat}{Q:Option Bool->Ih->Prop}(hk:kindOf st=κ)(hS:∀ x∈aC,S x)(aP:S key)(hi:bs+i < aC.size)
 (h:Q (Vo (bey rk left key aC bs i)) st):wpS (VW prog w) A E s (elem' aC (bs+i) >>= λx=>if left=true then lt' x key else (lt' key x >>= λr=>pure (Option.map (λb=>!b) r))) Q st:=by
 refine Il (QU hi ?_)
 have hx:=hS _ (Io hi);unfold bey at h;rw[Zj hi]at h;cases left with
 | true =>
  simp only[if_true]at h ⊢;exact L _ _ st Q hk hx aP h
 | false =>
  simp only[OU,if_false]at h ⊢;exact Il (L _ _ st _ hk aP hx (Ij h))
theorem Qwb(L:Jia prog w A E s κ rk S){st:Ih}{left:Bool}{key:Ig}{aC:Array Ig}{bs n ak:Nat}{Q:Option Nat->Ih->Prop}(hk:kindOf st=κ)(hS:∀ x∈aC,S x)(aP:S key)(hb:bs+n<=aC.size)(hh:ak < n)
 (mono:∀ i j,i<=j->j < n->bey rk left key aC bs j=true->bey rk left key aC bs i=true)
 (h:∀ k,k<=n->(∀ i,i < k->bey rk left key aC bs i=true)->(∀ i,k<=i->i < n->bey rk left key aC bs i=false)->Q (Vo k) st):wpS (VW prog w) A E s (QZb left key aC bs n ak) Q st:=by
 have fJ:∀ i j,i<=j->j < n->bey rk left key aC bs i=false->bey rk left key aC bs j=false:=λi j di hj e=>by
  cases q:bey rk left key aC bs j with
  | false=>rfl
  | true=>rw[mono i j di hj q]at e;cases e
 refine Il (Y2a L hk hS aP #[0] ?_)
 dsimp only;cases e0:bey rk left key aC bs ak with
 | true =>
  rw[if_pos rfl];refine Il (Ip (Iq (I:=λx c ag=>ag=st/\∃ l o,c=(Vp,l,o)/\l < o/\x < o/\l+1<=n - ak/\bey rk left key aC bs (ak+l)=true)
   (Q:=λc ag=>ag=st/\∃ l o,c=(Vp,l,o)/\l < o/\l+1<=n - ak/\bey rk left key aC bs (ak+l)=true/\(o < n - ak->bey rk left key aC bs (ak+o)=false)) ?step ?fin ⟨rfl,0,1,rfl,by lia,by lia,by lia,e0⟩) ?post)
  case step =>
   rintro x c ag _ hx ⟨rfl,l,o,rfl,h1,h2,h3,h4⟩;dsimp only
   by_cases hge:o >= n - ak
   ·rw[if_pos hge]
    exact Ij ⟨rfl,l,o,rfl,h1,h3,h4,λz=>absurd z #[0]⟩
   ·rw[if_neg hge]
    refine Il (Y2a L hk hS aP #[0] ?_)
    cases e1:bey rk left key aC bs (ak+o) with
    | true=>exact Ij ⟨rfl,o,2 * o+1,rfl,by lia,by lia,by lia,e1⟩
    | false=>exact Ij ⟨rfl,l,o,rfl,h1,h3,h4,λ_=>e1⟩
  case fin =>
   rintro c ag ⟨rfl,l,o,rfl,h1,h2,h3,h4⟩;exact⟨rfl,l,o,rfl,h1,h3,h4,λz=>absurd z #[0]⟩
  case post =>
   rintro c eI ⟨rfl,l,o,rfl,h1,h3,h4,h5⟩;have a1:∀ i,i < ak+l+1->bey rk left key aC bs i=true:=λi hi=>mono i (ak+l) #[0] #[0] h4
   have a2:∀ i,ak+min o (n - ak)<=i->i < n->bey rk left key aC bs i=false:=λi hi hn=>fJ (ak+o) i #[0] hn (h5 #[0])
   have a3:ak+l+1<=ak+min o (n - ak):=by lia
   have a4:ak+min o (n - ak)<=n:=by lia
   dsimp only;generalize ak+l+1=lo at a1 a2 a3 a4 ⊢;generalize ak+min o (n - ak)=hi at a1 a2 a3 a4 ⊢;refine Il (Ip (Iq (I:=λx c ag=>ag=eI/\∃ lo hi,c=(Vp,lo,hi)/\lo<=hi/\hi<=n/\hi - lo<=n - x/\(∀ i,i < lo->bey rk left key aC bs i=true)/\∀ i,hi<=i->i < n->bey rk left key aC bs i=false)
    (Q:=λc ag=>ag=eI/\∃ hi,c=(Vp,hi,hi)/\hi<=n/\(∀ i,i < hi->bey rk left key aC bs i=true)/\∀ i,hi<=i->i < n->bey rk left key aC bs i=false) ?_ ?_ ⟨rfl,lo,hi,rfl,a3,a4,by lia,a1,a2⟩) ?_)
   ·rintro x c ag _ hx ⟨rfl,lo,hi,rfl,b1,b2,b3,b4,b5⟩
    dsimp only
    by_cases hge:lo >= hi
    ·rw[if_pos hge]
     have:lo=hi:=by lia
     subst this;exact Ij ⟨rfl,lo,rfl,b2,b4,b5⟩
    ·rw[if_neg hge]
     refine Il (Y2a L hk hS aP #[0] ?_)
     cases e1:bey rk left key aC bs (lo+(hi - lo) / 2) with
     | true=>exact Ij ⟨rfl,_,hi,rfl,by lia,b2,by lia,λi bg=>mono i _ #[0] #[0] e1,b5⟩
     | false=>exact Ij ⟨rfl,lo,_,rfl,by lia,by lia,by lia,b4,λi h1 h2=>fJ _ i h1 h2 e1⟩
   ·rintro c ag ⟨rfl,lo,hi,rfl,b1,b2,b3,b4,b5⟩
    have:lo=hi:=by lia
    subst this;exact⟨rfl,lo,rfl,b2,b4,b5⟩
   ·rintro c ag ⟨rfl,hi,rfl,b2,b4,b5⟩
    exact Ij (h hi b2 b4 b5)
 | false =>
  rw[if_neg #[2]]
  refine Il (Ip (Iq (I:=λx c ag=>ag=st/\∃ l o,c=(Vp,l,o)/\l < o/\x < o/\l<=ak/\bey rk left key aC bs (ak - l)=false)
   (Q:=λc ag=>ag=st/\∃ l o,c=(Vp,l,o)/\l < o/\l<=ak/\bey rk left key aC bs (ak - l)=false/\(o < ak+1->bey rk left key aC bs (ak - o)=true)) ?step ?fin ⟨rfl,0,1,rfl,by lia,by lia,by lia,e0⟩) ?post)
  case step =>
   rintro x c ag _ hx ⟨rfl,l,o,rfl,h1,h2,h3,h4⟩;dsimp only
   by_cases hge:o >= ak+1
   ·rw[if_pos hge]
    exact Ij ⟨rfl,l,o,rfl,h1,h3,h4,λz=>absurd z #[0]⟩
   ·rw[if_neg hge]
    refine Il (Y2a L hk hS aP #[0] ?_)
    cases e1:bey rk left key aC bs (ak - o) with
    | true=>exact Ij ⟨rfl,l,o,rfl,h1,h3,h4,λ_=>e1⟩
    | false=>exact Ij ⟨rfl,o,2 * o+1,rfl,by lia,by lia,by lia,e1⟩
  case fin =>
   rintro c ag ⟨rfl,l,o,rfl,h1,h2,h3,h4⟩;exact⟨rfl,l,o,rfl,h1,h3,h4,λz=>absurd z #[0]⟩
  case post =>
   rintro c eI ⟨rfl,l,o,rfl,h1,h3,h4,h5⟩;have a1:∀ i,i < ak+1 - min o (ak+1)->bey rk left key aC bs i=true:=λi hi=>mono i (ak - o) #[0] #[0] (h5 #[0])
   have a2:∀ i,ak - l<=i->i < n->bey rk left key aC bs i=false:=λi hi hn=>fJ (ak - l) i hi hn h4
   have a3:ak+1 - min o (ak+1)<=ak - l:=by lia
   have a4:ak - l<=n:=by lia
   dsimp only;generalize ak+1 - min o (ak+1)=lo at a1 a2 a3 a4 ⊢;generalize ak - l=hi at a1 a2 a3 a4 ⊢;refine Il (Ip (Iq (I:=λx c ag=>ag=eI/\∃ lo hi,c=(Vp,lo,hi)/\lo<=hi/\hi<=n/\hi - lo<=n - x/\(∀ i,i < lo->bey rk left key aC bs i=true)/\∀ i,hi<=i->i < n->bey rk left key aC bs i=false)
    (Q:=λc ag=>ag=eI/\∃ hi,c=(Vp,hi,hi)/\hi<=n/\(∀ i,i < hi->bey rk left key aC bs i=true)/\∀ i,hi<=i->i < n->bey rk left key aC bs i=false) ?_ ?_ ⟨rfl,lo,hi,rfl,a3,a4,by lia,a1,a2⟩) ?_)
   ·rintro x c ag _ hx ⟨rfl,lo,hi,rfl,b1,b2,b3,b4,b5⟩
    dsimp only
    by_cases hge:lo >= hi
    ·rw[if_pos hge]
     have:lo=hi:=by lia
     subst this;exact Ij ⟨rfl,lo,rfl,b2,b4,b5⟩
    ·rw[if_neg hge]
     refine Il (Y2a L hk hS aP #[0] ?_)
     cases e1:bey rk left key aC bs (lo+(hi - lo) / 2) with
     | true=>exact Ij ⟨rfl,_,hi,rfl,by lia,b2,by lia,λi bg=>mono i _ #[0] #[0] e1,b5⟩
     | false=>exact Ij ⟨rfl,lo,_,rfl,by lia,by lia,by lia,b4,λi h1 h2=>fJ _ i h1 h2 e1⟩
   ·rintro c ag ⟨rfl,lo,hi,rfl,b1,b2,b3,b4,b5⟩
    have:lo=hi:=by lia
    subst this;exact⟨rfl,lo,rfl,b2,b4,b5⟩
   ·rintro c ag ⟨rfl,hi,rfl,b2,b4,b5⟩
    exact Ij (h hi b2 b4 b5)
end
end SortB
end
section
namespace SortB
open PySem PySem.W PyProof.Rows
abbrev Rs(rk:Ig->Nat)(l:List Ig):Prop:=l.Pairwise λx y=>rk x<=rk y
structure Mg(rk:Ig->Nat)(la lb out:List Ig)(ia ib:Nat):Prop where
 perm:out.Perm (la.take ia++lb.take ib)
 pw:Rs rk out
 ra:∀ x∈out,∀ y∈la.drop ia,rk x<=rk y
 rb:∀ x∈out,∀ y∈lb.drop ib,rk x<=rk y
section
variable{rk:Ig->Nat}{la lb out:List Ig}{ia ib k:Nat}
theorem Y3a(l:List Ig)(i k:Nat):l.drop i=(l.drop i).take k++l.drop (i+k):=by
 rw[<- drop_drop,Ir]
theorem Mg.takeA(m:Mg rk la lb out ia ib)(pa:Rs rk la)(k:Nat)(h:∀ x∈(la.drop ia).take k,∀ y∈lb.drop ib,rk x<=rk y):Mg rk la lb (out++(la.drop ia).take k) (ia+k) ib:=by
 have pd:Rs rk (la.drop ia):=pa.sublist (Iu _ _);have ps:=Y3a la ia k;refine⟨?_,?_,?_,?_⟩
 ·have e:la.take (ia+k)=la.take ia++(la.drop ia).take k:=by rw[take_add]
  rw[e];refine(m.perm.append_right _).trans ?_
  rw[Iv,Iv];exact(Iw).append_left _
 ·refine pairwise_append.mpr ⟨m.pw,pd.sublist (Of _ _),λx hx y hy=>m.ra x hx y (Ie hy)⟩
 ·intro x hx y hy
  rcases mem_append.mp hx with hx | hx
  ·exact m.ra x hx y (by rw[ps];exact Ur _ hy)
  ·rw[ps]at pd
   exact(pairwise_append.mp pd).2.2 x hx y hy
 ·intro x hx y hy
  rcases mem_append.mp hx with hx | hx
  ·exact m.rb x hx y hy
  ·exact h x hx y hy
theorem Mg.swap(m:Mg rk la lb out ia ib):Mg rk lb la out ib ia:=⟨m.perm.trans Iw,m.pw,m.rb,m.ra⟩
theorem Mg.takeB(m:Mg rk la lb out ia ib)(pb:Rs rk lb)(k:Nat)(h:∀ x∈(lb.drop ib).take k,∀ y∈la.drop ia,rk x<=rk y):Mg rk la lb (out++(lb.drop ib).take k) ia (ib+k):=(m.swap.takeA pb k h).swap
theorem Mg.done(m:Mg rk la lb out ia ib)(pa:Rs rk la)(pb:Rs rk lb)(h:∀ x∈la.drop ia,∀ y∈lb.drop ib,rk x<=rk y):(out++la.drop ia++lb.drop ib).Perm (la++lb)/\Rs rk (out++la.drop ia++lb.drop ib):=by
 have e1:(la.drop ia).take la.length=la.drop ia:=Ix (by rw[On];lia)
 have e2:(lb.drop ib).take lb.length=lb.drop ib:=Ix (by rw[On];lia)
 have m1:=m.takeA pa la.length (by rw[e1];exact h)
 rw[e1]at m1;have z:la.drop (ia+la.length)=[]:=drop_eq_nil_of_le #[0]
 have m2:=m1.takeB pb lb.length (by rw[z];intro _ _ _ q;cases q)
 rw[e2]at m2;refine⟨?_,m2.pw⟩
 have:=m2.perm
 rwa [Ix #[0],Ix #[0]]at this
theorem Mg.doneB(m:Mg rk la lb out ia ib)(pa:Rs rk la)(pb:Rs rk lb)(h:∀ x∈lb.drop ib,∀ y∈la.drop ia,rk x<=rk y):(out++lb.drop ib++la.drop ia).Perm (la++lb)/\Rs rk (out++lb.drop ib++la.drop ia):=by
 obtain⟨a,b⟩:=m.swap.done pb pa h;exact⟨a.trans Iw,b⟩
end
section
variable{rk:Ig->Nat}{a:Array Ig}{i j k n:Nat}{x:Ig}
theorem Yza(a:Array Ig)(i:Nat):(a.extract i a.size).toList=a.toList.drop i:=by
 rw[Array.toList_extract,extract_eq_take_drop];exact Ix #[2]
theorem Yf(a:Array Ig)(i j:Nat):(a.extract i j).toList=(a.toList.drop i).take (j - i):=by
 rw[Array.toList_extract,extract_eq_take_drop]
theorem Xq(h:i < a.size):(a.toList.drop i).take 1=[a[i]]:=by
 rw[Iy (by simpa using h)]
 simp
theorem XF(h:x∈(a.toList.drop i).take k):∃ j,j < k/\i+j < a.size/\rk x=K rk a (i+j):=by
 obtain⟨j,hj,e⟩:=Iz h;have h1:j < k/\i+j < a.size:=by
  rw[Oa,On,V7]at hj
  lia
 refine⟨j,h1.1,h1.2,?_⟩
 rw[Zj h1.2,<- e];simp
theorem Jja(h:x∈a.toList.drop i):∃ j,i<=j/\j < a.size/\rk x=K rk a j:=by
 obtain⟨j,hj,e⟩:=Iz h;have h1:i+j < a.size:=by
  rw[On,V7]at hj
  lia
 refine⟨i+j,by lia,h1,?_⟩
 rw[Zj h1,<- e];simp
theorem Rs.le(h:Rs rk a.toList)(di:i<=j)(hj:j < a.size):K rk a i<=K rk a j:=by
 by_cases e:i=j
 ·rw[e];exact Um _
 ·rw[Zj (show i < a.size by lia),Zj hj]
  have:=pairwise_iff_getElem.mp h i j (by simp;lia) (by simp;lia) #[0]
  simpa using this
end
abbrev JS(st:Ih)(g:Nat):Ih:=IA (kindOf st) (Ik st) (IC st) g (ID st)
section
variable{prog:Vg}{w:Vb}{A:VG}{E:YQ_}{s:VH}{κ:Ii}{rk:Ig->Nat}{S:Ig->Prop}
theorem X1c(L:Jia prog w A E s κ rk S){st:Ih}{key:Ig}{aC:Array Ig}{bs n ak:Nat}{Q:Option Nat->Ih->Prop}(hk:kindOf st=κ)(hS:∀ x∈aC,S x)(aP:S key)(hb:bs+n<=aC.size)(hh:ak < n)
 (up:∀ i j,bs<=i->i<=j->j < bs+n->K rk aC i<=K rk aC j)
 (h:∀ k,k<=n->(∀ i,i < k->K rk aC (bs+i)<=rk key)->(∀ i,k<=i->i < n->rk key < K rk aC (bs+i))->Q (Vo k) st):wpS (VW prog w) A E s (QZb false key aC bs n ak) Q st:=by
 have e:∀ i,bey rk false key aC bs i=!decide (rk key < K rk aC (bs+i)):=λi=>by unfold bey;rw[if_neg #[2]]
 refine Qwb L hk hS aP hb hh (λi j di hj=>?_) λk i8 h1 h2=>h k i8 (λi hi=>?_) λi hi hn=>?_
 ·rw[e,e]
  have:=up (bs+i) (bs+j) #[0] #[0] #[0]
  simp only[Bool.not_eq_true',decide_eq_false_iff_not]
  lia
 ·have:=h1 i hi
  rw[e]at this;simp only[Bool.not_eq_true',decide_eq_false_iff_not]at this
  lia
 ·have:=h2 i hi hn
  rw[e]at this
  simpa using this
theorem X2c(L:Jia prog w A E s κ rk S){st:Ih}{key:Ig}{aC:Array Ig}{bs n ak:Nat}{Q:Option Nat->Ih->Prop}(hk:kindOf st=κ)(hS:∀ x∈aC,S x)(aP:S key)(hb:bs+n<=aC.size)(hh:ak < n)
 (up:∀ i j,bs<=i->i<=j->j < bs+n->K rk aC i<=K rk aC j)
 (h:∀ k,k<=n->(∀ i,i < k->K rk aC (bs+i) < rk key)->(∀ i,k<=i->i < n->rk key<=K rk aC (bs+i))->Q (Vo k) st):wpS (VW prog w) A E s (QZb true key aC bs n ak) Q st:=by
 have e:∀ i,bey rk true key aC bs i=decide (K rk aC (bs+i) < rk key):=λi=>by unfold bey;rw[if_pos rfl]
 refine Qwb L hk hS aP hb hh (λi j di hj=>?_) λk i8 h1 h2=>h k i8 (λi hi=>?_) λi hi hn=>?_
 ·rw[e,e]
  have:=up (bs+i) (bs+j) #[0] #[0] #[0]
  simp only[decide_eq_true_eq]
  lia
 ·have:=h1 i hi
  rw[e]at this
  simpa using this
 ·have:=h2 i hi hn
  rw[e]at this
  simpa using this
theorem Xlb{α:Type}{m:StateT Ih Sem α}{Q:α->Ih->Prop}{st:Ih}(h:∀ QQ:α->Ih->Prop,(∀ r s,Q r s->QQ r s)->wpS (VW prog w) A E s m QQ st):wpS (VW prog w) A E s m Q st:=h Q λ_ _ z=>z
theorem XG{α:Type}{c:Prop}[Decidable c]{m n:StateT Ih Sem α}{Q:α->Ih->Prop}{st:Ih}(h1:c->wpS (VW prog w) A E s m Q st)(h2:¬ c->wpS (VW prog w) A E s n Q st):wpS (VW prog w) A E s (if c then m else n) Q st:=by
 by_cases h:c
 ·rw[if_pos h];exact h1 h
 ·rw[if_neg h];exact h2 h
theorem J4{α:Type}{x y:Nat}{m n:StateT Ih Sem α}{Q:α->Ih->Prop}{st:Ih}(h1:x=y->wpS (VW prog w) A E s m Q st)(h2:¬ x=y->wpS (VW prog w) A E s n Q st):wpS (VW prog w) A E s (if (x == y)=true then m else n) Q st :=
 XG (λh=>h1 (eq_of_beq h)) λh=>h2 λe=>h (by rw[e];exact beq_self_eq_true _)
theorem Ypb(L:Jia prog w A E s κ rk S){st:Ih}{a b:Array Ig}{Q:Array Ig->Ih->Prop}(hk:kindOf st=κ)(im:∀ x∈a,S x)(io:∀ x∈b,S x)(na:0 < a.size)(nb:0 < b.size)(pa:Rs rk a.toList)(pb:Rs rk b.toList)
 (h0:K rk b 0<=K rk a 0) (hl:∀ i,i < b.size->K rk b i < K rk a (a.size - 1)) (h:∀ out g,out.toList.Perm (a.toList++b.toList)->Rs rk out.toList->Q out (JS st g)):wpS (VW prog w) A E s (Zwc a b) Q st:=by
 have ua:∀ i j,i<=j->j < a.size->K rk a i<=K rk a j:=λi j h1 h2=>pa.le h1 h2
 have ub:∀ i j,i<=j->j < b.size->K rk b i<=K rk b j:=λi j h1 h2=>pb.le h1 h2
 have m0:Mg rk a.toList b.toList (#[b[0]]:Array Ig).toList 0 1:=by
  have e1:b.toList.take 1=[b[0]]:=by have:=Xq nb;simpa using this
  refine⟨by rw[e1];simp,by simp,λx hx y hy=>?_,λx hx y hy=>?_⟩
  ·obtain⟨j,_,hj,e⟩:=Jja (rk:=rk) hy
   have:x=b[0]:=by simpa using hx
   rw[this,e,<- Zj (rk:=rk) nb];exact VJ h0 (ua 0 j #[0] hj)
  ·obtain⟨j,_,hj,e⟩:=Jja (rk:=rk) hy
   have:x=b[0]:=by simpa using hx
   rw[this,e,<- Zj (rk:=rk) nb];exact ub 0 j #[0] hj
 have done:∀ (out:Array Ig) (ia ib:Nat),Mg rk a.toList b.toList out.toList ia ib->ib=b.size->(out++a.extract ia a.size++b.extract ib b.size).toList.Perm (a.toList++b.toList)/\Rs rk (out++a.extract ia a.size++b.extract ib b.size).toList:=λout ia ib m e=>by
  rw[IE,IE,Yza,Yza];exact m.done pa pb λx _ y hy=>by
   obtain⟨j,h1,h2,_⟩:=Jja (rk:=rk) hy
   lia
 have dj:∀ (out:Array Ig) (ia ib:Nat),Mg rk a.toList b.toList out.toList ia ib->ia+1=a.size->(out++b.extract ib b.size++a.extract ia a.size).toList.Perm (a.toList++b.toList)/\Rs rk (out++b.extract ib b.size++a.extract ia a.size).toList:=λout ia ib m e=>by
  rw[IE,IE,Yza,Yza];exact m.doneB pa pb λx hx y hy=>by
   obtain⟨j,h1,h2,e1⟩:=Jja (rk:=rk) hx;obtain⟨i,h3,h4,e2⟩:=Jja (rk:=rk) hy;have:i=a.size - 1:=by lia
   rw[e1,e2,this];exact VL (hl j h2)
 have bz:∀ (out:Array Ig) (ia ib:Nat) (hi:ia < a.size),Mg rk a.toList b.toList out.toList ia ib->(ib < b.size->K rk a ia<=K rk b ib)->Mg rk a.toList b.toList (out.push a[ia]).toList (ia+1) ib:=λout ia ib hi m cH=>by
  have:=m.takeA pa 1 λx hx y hy=>by
   obtain⟨j,h1,h2,e1⟩:=XF (rk:=rk) hx;obtain⟨i,h3,h4,e2⟩:=Jja (rk:=rk) hy;have:j=0:=by lia
   subst this;rw[e1,e2];exact VJ (cH #[0]) (ub ib i h3 h4)
  rwa [Xq hi,<- IF]at this
 have bA:∀ (out:Array Ig) (ia ib:Nat) (hi:ib < b.size),Mg rk a.toList b.toList out.toList ia ib->(ia < a.size->K rk b ib<=K rk a ia)->Mg rk a.toList b.toList (out.push b[ib]).toList ia (ib+1):=λout ia ib hi m cH=>by
  have:=m.takeB pb 1 λx hx y hy=>by
   obtain⟨j,h1,h2,e1⟩:=XF (rk:=rk) hx;obtain⟨i,h3,h4,e2⟩:=Jja (rk:=rk) hy;have:j=0:=by lia
   subst this;rw[e1,e2];exact VJ (cH #[0]) (ua ia i h3 h4)
  rwa [Xq hi,<- IF]at this
 refine Il (IG (II ⟨rfl,?_⟩))
 refine Il (QU nb ?_)
 dsimp -zeta only
 by_cases cI:1=b.size
 ·rw[if_pos (by simpa using cI)]
  obtain⟨p,r⟩:=done _ 0 1 m0 cI;exact Ij (h _ (IJ st) p r)
 rw[if_neg (by simpa using cI)]
 by_cases a8:0+1=a.size
 ·rw[if_pos (by simpa using a8)]
  obtain⟨p,r⟩:=dj _ 0 1 m0 a8;exact Ij (h _ (IJ st) p r)
 rw[if_neg (by simpa using a8)]
 refine Il (Im (Il (Ip (Iq
  (I:=λx c ag=>∃ out ia ib g g',c=(Vp,out,ia,ib,g)/\ag=JS st g'/\Mg rk a.toList b.toList (out:Array Ig).toList ia ib/\ia+1 < a.size/\ib < b.size/\x<=ia+ib)
  (Q:=λc ag=>∃ r g' z,c=(Vo r,z)/\ag=JS st g'/\(r:Array Ig).toList.Perm (a.toList++b.toList)/\Rs rk r.toList) ?step ?fin ⟨_,0,1,_,IJ st,rfl,rfl,m0,by lia,by lia,by lia⟩) ?post)))
 case post =>
  rintro c ag ⟨r,g',z,rfl,rfl,p,q⟩;exact Ij (h r g' p q)
 case fin =>
  rintro c ag ⟨out,ia,ib,g,g',rfl,rfl,m,h1,h2,h3⟩
  lia
 case step =>
  rintro x c ag _ hx ⟨out,ia,ib,g,g',rfl,rfl,m,h1,h2,h3⟩;dsimp -zeta only;refine Il (Ip (Iq
   (I:=λy c ag=>ag=JS st g'/\∃ out ja jb ac bc,c=(Vp,out,ja,jb,ac,bc)/\Mg rk a.toList b.toList (out:Array Ig).toList ja jb/\ja+1 < a.size/\jb < b.size/\y+(ia+ib)<=ja+jb)
   (Q:=λc ag=>ag=JS st g'/\((∃ out ja jb ac bc,c=(Vp,out,ja,jb,ac,bc)/\Mg rk a.toList b.toList (out:Array Ig).toList ja jb/\ja+1 < a.size/\jb < b.size/\ia+ib<=ja+jb)\/∃ r z,c=(Vo r,z)/\(r:Array Ig).toList.Perm (a.toList++b.toList)/\Rs rk r.toList)) ?istep ?ifin ⟨rfl,out,ia,ib,0,0,rfl,m,h1,h2,by lia⟩) ?ipost)
  case ifin =>
   rintro c ag ⟨rfl,out,ja,jb,ac,bc,rfl,m,h4,h5,h6⟩
   lia
  case istep =>
   rintro y c ag _ hy ⟨rfl,out,ja,jb,ac,bc,rfl,m,h4,h5,h6⟩;dsimp -zeta only;refine Il (QU h5 (Il (QU (show ja < a.size by lia) (Il (L _ _ _ _ hk (io _ (Io h5)) (im _ (Io _)) ?_)))))
   by_cases hw:rk b[jb] < rk a[ja]
   ·have m1:=bA out ja jb h5 m λ_=>by rw[Zj h5,Zj (show ja < a.size by lia)];exact VL hw
    simp only[hw,decide_true,if_true];refine Il (QU h5 ?_)
    by_cases he:jb+1=b.size
    ·rw[if_pos (by simpa using he)]
     exact Ij ⟨rfl,.inr ⟨_,_,rfl,done _ ja (jb+1) m1 he⟩⟩
    ·rw[if_neg (by simpa using he)]
     by_cases hc:bc+1 >= g
     ·rw[if_pos hc]
      exact Ij ⟨rfl,.inl ⟨_,_,_,_,_,rfl,m1,h4,by lia,by lia⟩⟩
     ·rw[if_neg hc]
      exact Ij ⟨rfl,_,_,_,_,_,rfl,m1,h4,by lia,by lia⟩
   ·have m1:=bz out ja jb #[0] m λ_=>by rw[Zj h5,Zj (show ja < a.size by lia)];lia
    simp only[hw,decide_false,OU,if_false];refine Il (QU (show ja < a.size by lia) ?_)
    by_cases he:ja+1+1=a.size
    ·rw[if_pos (by simpa using he)]
     exact Ij ⟨rfl,.inr ⟨_,_,rfl,dj _ (ja+1) jb m1 he⟩⟩
    ·rw[if_neg (by simpa using he)]
     by_cases hc:ac+1 >= g
     ·rw[if_pos hc]
      exact Ij ⟨rfl,.inl ⟨_,_,_,_,_,rfl,m1,by lia,h5,by lia⟩⟩
     ·rw[if_neg hc]
      exact Ij ⟨rfl,_,_,_,_,_,rfl,m1,by lia,h5,by lia⟩
  case ipost =>
   rintro c ag ⟨rfl,⟨out,ja,jb,ac,bc,rfl,m,h4,h5,h6⟩ | ⟨r,z,rfl,p,q⟩⟩
   ·dsimp -zeta only
    refine Il (IG (II ⟨rfl,?_⟩))
    refine Il (Ip (Iq
     (I:=λy c ag=>∃ out ka kb g g' ac bc,c=(Vp,out,ka,kb,g,ac,bc)/\ag=JS st g'/\Mg rk a.toList b.toList (out:Array Ig).toList ka kb/\ka+1 < a.size/\kb < b.size/\y+(ja+jb)<=ka+kb)
     (Q:=λc ag=>(∃ out ka kb g g' ac bc,c=(Vp,out,ka,kb,g,ac,bc)/\ag=JS st g'/\Mg rk a.toList b.toList (out:Array Ig).toList ka kb/\ka+1 < a.size/\kb < b.size/\ja+jb+1<=ka+kb)\/∃ r z g',c=(Vo r,z)/\ag=JS st g'/\(r:Array Ig).toList.Perm (a.toList++b.toList)/\Rs rk r.toList) ?jstep ?jfin ⟨out,ja,jb,_,g',ac,bc,rfl,rfl,m,h4,h5,by lia⟩) ?jpost)
    case jfin =>
     rintro c ag ⟨out,ka,kb,g,g',ac,bc,rfl,rfl,m,h7,h8,h9⟩
     lia
    case jpost =>
     rintro c ag (⟨out,ka,kb,g,g',ac,bc,rfl,rfl,m,h7,h8,h9⟩ | ⟨r,z,g',rfl,rfl,p,q⟩)
     ·dsimp -zeta only
      refine Il (IK (Ij ⟨out,ka,kb,_,g+1,rfl,rfl,m,h7,h8,by lia⟩))
     ·exact Ij ⟨r,g',_,rfl,rfl,p,q⟩
    case jstep =>
     intro y c ag _ hy hZ;obtain⟨out,ka,kb,g,g',ac,bc,rfl,rfl,m,h7,h8,h9⟩:=hZ;refine Xlb λQQ hQ=>?_
     have qd:∀ (r:Array Ig) z g',r.toList.Perm (a.toList++b.toList)/\Rs rk r.toList->QQ (.done (Vo r,z)) (JS st g'):=λr z g' p=>hQ _ _ (.inr ⟨r,z,g',rfl,rfl,p.1,p.2⟩)
     have qn:∀ (o:Array Ig) cp cq g g' ac bc,Mg rk a.toList b.toList o.toList cp cq->cp+1 < a.size->cq < b.size->ka+kb+1<=cp+cq->QQ (.done (Vp,o,cp,cq,g,ac,bc)) (JS st g')/\QQ (.yield (Vp,o,cp,cq,g,ac,bc)) (JS st g'):=λo cp cq g g' ac bc m z1 z2 z3=>⟨hQ _ _ (.inl ⟨o,cp,cq,g,g',ac,bc,rfl,rfl,m,z1,z2,by lia⟩),hQ _ _ ⟨o,cp,cq,g,g',ac,bc,rfl,rfl,m,z1,z2,by lia⟩⟩
     clear hQ h9 hy h4 h5 h6 h1 h2 h3 hx;dsimp -zeta only
     extract_lets -underBinder c0 o1 c1 i1 c2 i2 c3 g2 c4 a2 b2 jp mg
     have hj:∀ u g1,wpS (VW prog w) A E s (jp u g1) QQ (JS st g'):=by
      intro u g1;dsimp -zeta only [jp,b2,a2,c4,g2,c3,i2,c2,i1,c1,o1,c0];clear mg jp b2 a2 c4 g2 c3 i2 c2 i1 c1 o1 c0;refine Il (IK ?_)
      refine Il (QU h8 (Il (X1c L hk im (io _ (Io h8)) #[0] #[0] (λi j h1 h2 h3=>ua i j h2 #[0]) λk fL q1 q2=>?_)))
      dsimp -zeta only;rw[<- Zj (rk:=rk) h8]at q1 q2;have aG:ka+k < a.size:=by
       by_cases hz:ka+k < a.size
       ·exact hz
       ·have z1:=q1 (a.size - 1 - ka) #[0]
        rw[show ka+(a.size - 1 - ka)=a.size - 1 by lia]at z1
        have z2:=hl kb h8
        lia
      have m1:Mg rk a.toList b.toList (out++a.extract ka (ka+k)).toList (ka+k) kb:=by
       rw[IE,Yf,show ka+k - ka=k by lia]
       refine m.takeA pa k λx hx y hy=>?_
       obtain⟨j,dG,cN,e1⟩:=XF (rk:=rk) hx;obtain⟨i,dU,kh,e2⟩:=Jja (rk:=rk) hy;rw[e1,e2];exact VJ (q1 j dG) (ub kb i dU kh)
      have q3:K rk b kb<=K rk a (ka+k):=VL (q2 k (Um _) #[0])
      have q4:k=0->out++a.extract ka (ka+k)=out:=λe=>by
       subst e;rw[Nat.add_zero,Array.extract_empty_of_stop_le_start (Um _)];simp
      extract_lets -underBinder ac1 jp1 o1 i1
      have dG:∀ u (o:Array Ig) aK,Mg rk a.toList b.toList o.toList aK kb->ka<=aK->aK+1 < a.size->K rk b kb<=K rk a aK->wpS (VW prog w) A E s (jp1 u o aK) QQ (JS st g1):=by
       intro u o aK m1 ip i9 q3;dsimp -zeta only [jp1];clear o1 i1 jp1 q4 m q1 q2 aG;clear_value ac1;have a8:aK < a.size:=by lia
       refine Il (QU h8 ?_)
       have m2:=bA o aK kb h8 m1 λ_=>q3
       clear m1 q3;generalize o.push b[kb]=o2 at m2 ⊢
       extract_lets -underBinder ib2
       refine J4 (λdW=>Ij (qd _ _ _ (done _ aK (kb+1) m2 dW))) λdW=>?_
       replace dW:¬ kb+1=b.size:=dW;dsimp -zeta only [ib2];clear ib2;refine Il (QU a8 (Il (X2c L hk io (im _ (Io a8)) #[0] #[0] (λi j h1 h2 h3=>ub i j h2 #[0]) λk2 iq q5 q6=>?_)))
       dsimp -zeta only;rw[<- Zj (rk:=rk) a8]at q5 q6;have m3:Mg rk a.toList b.toList (o2++b.extract (kb+1) (kb+1+k2)).toList aK (kb+1+k2):=by
        rw[IE,Yf,show kb+1+k2 - (kb+1)=k2 by lia]
        refine m2.takeB pb k2 λx hx y hy=>?_
        obtain⟨j,dG,cN,e1⟩:=XF (rk:=rk) hx;obtain⟨i,dU,kh,e2⟩:=Jja (rk:=rk) hy;rw[e1,e2];exact VJ (VL (q5 j dG)) (ua aK i dU kh)
       extract_lets -underBinder bc1 jp2 o3 ib3
       have cN:∀ u (o:Array Ig) cO,Mg rk a.toList b.toList o.toList aK cO->kb < cO->cO < b.size->K rk a aK<=K rk b cO->wpS (VW prog w) A E s (jp2 u o cO) QQ (JS st g1):=by
        intro u o cO m3 ki gz q7;dsimp -zeta only [jp2];clear o3 ib3 jp2;clear_value bc1;refine Il (QU a8 ?_)
        have m4:=bz o aK cO a8 m3 λ_=>q7
        refine J4 (λeJ=>Ij (qd _ _ _ (dj _ (aK+1) cO m4 eJ))) λeJ=>?_
        replace eJ:¬ aK+1+1=a.size:=eJ;have:=λg gg ac bc=>qn _ _ _ g gg ac bc m4 #[0] gz #[0]
        exact XG (λ_=>Ij (this _ _ _ _).1) λ_=>Ij (this _ _ _ _).2
       refine XG (λjc=>J4 (λfM=>Ij (qd _ _ _ (done _ aK (kb+1+k2) m3 fM))) λfM=>?_) λjc=>?_
       ·replace fM:¬ kb+1+k2=b.size:=fM
        exact cN () _ _ m3 (show kb < kb+1+k2 by lia) (show kb+1+k2 < b.size by lia) (q6 k2 (Um _) #[0])
       ·exact cN () _ _ m2 (UM _) #[0] (q6 0 #[0] #[0])
      refine XG (λir=>J4 (λhe=>Ij (qd _ _ _ (dj _ (ka+k) kb m1 he))) λhe=>J4 (λjX=>?_) λ_=>?_) λir=>?_
      ·exact absurd (show ka+k=a.size from jX) #[0]
      ·replace he:¬ ka+k+1=a.size:=he
       exact dG () _ _ m1 #[0] (show ka+k+1 < a.size by lia) q3
      ·have yv:k=0:=by lia
       rw[yv]at q3;exact dG () _ _ m (Um _) h7 q3
     exact XG (λ_=>hj () _) λ_=>hj () _
   ·exact Ij ⟨r,g',_,rfl,rfl,p,q⟩
end
end SortB
end
section
namespace SortB
open PySem PySem.W PyProof.Rows
structure Mh(rk:Ig->Nat)(la lb R:List Ig)(na nb:Nat):Prop where
 perm:R.Perm (la.drop na++lb.drop nb)
 pw:Rs rk R
 ra:∀ x∈la.take na,∀ y∈R,rk x<=rk y
 rb:∀ x∈lb.take nb,∀ y∈R,rk x<=rk y
section
variable{rk:Ig->Nat}{la lb R:List Ig}{na nb k:Nat}
theorem Mh.swap(m:Mh rk la lb R na nb):Mh rk lb la R nb na:=⟨m.perm.trans Iw,m.pw,m.rb,m.ra⟩
theorem Z8b{l:List Ig}{k n:Nat}(h:k<=n):l.drop k=(l.drop k).take (n - k)++l.drop n:=by
 have e:l.drop n=(l.drop k).drop (n - k):=by rw[drop_drop];congr 1;lia
 rw[e,Ir]
theorem Zyc{l:List Ig}{k n:Nat}(h:k<=n):l.take n=l.take k++(l.drop k).take (n - k):=by
 have e:n=k+(n - k):=by lia
 rw[e,take_add]
 congr 2
 lia
theorem Mh.takeA(m:Mh rk la lb R na nb)(pa:Rs rk la)(k:Nat)(hk:k<=na)(h:∀ x∈lb.take nb,∀ y∈(la.drop k).take (na - k),rk x<=rk y):Mh rk la lb ((la.drop k).take (na - k)++R) k nb:=by
 have pt:Rs rk (la.take na):=pa.sublist (Of _ _);have ps:=Zyc (l:=la) hk;rw[ps]at pt;obtain⟨_,p2,p3⟩:=pairwise_append.mp pt;have sub:∀ y∈(la.drop k).take (na - k),y∈la.take na:=λy hy=>by rw[ps];exact Ur _ hy
 refine⟨?_,?_,?_,?_⟩
 ·refine(m.perm.append_left _).trans (List.Perm.of_eq ?_)
  rw[<- Iv,<- Z8b hk]
 ·exact pairwise_append.mpr ⟨p2,m.pw,λx hx y hy=>m.ra x (sub x hx) y hy⟩
 ·intro x hx y hy
  rcases mem_append.mp hy with hy | hy
  ·exact p3 x hx y hy
  ·exact m.ra x (by rw[ps];exact VS _ hx) y hy
 ·intro x hx y hy
  rcases mem_append.mp hy with hy | hy
  ·exact h x hx y hy
  ·exact m.rb x hx y hy
theorem Mh.takeB(m:Mh rk la lb R na nb)(pb:Rs rk lb)(k:Nat)(hk:k<=nb)(h:∀ x∈la.take na,∀ y∈(lb.drop k).take (nb - k),rk x<=rk y):Mh rk la lb ((lb.drop k).take (nb - k)++R) na k:=(m.swap.takeA pb k hk h).swap
theorem Mh.doneB(m:Mh rk la lb R na nb)(pa:Rs rk la)(pb:Rs rk lb)(h:∀ x∈lb.take nb,∀ y∈la.take na,rk x<=rk y):(lb.take nb++la.take na++R).Perm (la++lb)/\Rs rk (lb.take nb++la.take na++R):=by
 have m1:=m.takeA pa 0 (Us _) (by simpa using h)
 have m2:=m1.takeB pb 0 (Us _) #[2]
 have e:((lb.drop 0).take (nb - 0)++((la.drop 0).take (na - 0)++R))=lb.take nb++la.take na++R:=by simp
 rw[e]at m2;exact⟨by simpa using m2.perm,m2.pw⟩
theorem Mh.done(m:Mh rk la lb R na nb)(pa:Rs rk la)(pb:Rs rk lb)(h:∀ x∈la.take na,∀ y∈lb.take nb,rk x<=rk y):(la.take na++lb.take nb++R).Perm (la++lb)/\Rs rk (la.take na++lb.take nb++R):=by
 obtain⟨a,b⟩:=m.swap.doneB pb pa h;exact⟨a.trans Iw,b⟩
end
section
variable{rk:Ig->Nat}{a:Array Ig}{i j k n:Nat}{x:Ig}
theorem YAa(a:Array Ig)(n:Nat):(a.extract 0 n).toList=a.toList.take n:=by rw[Yf];simp
theorem Jka(h:x∈a.toList.take n):∃ j,j < n/\j < a.size/\rk x=K rk a j:=by
 obtain⟨j,h1,h2,e⟩:=XF (rk:=rk) (i:=0) (a:=a) (k:=n) (by simpa using h)
 exact⟨j,h1,by lia,by rw[e];congr 1;lia⟩
end
section
variable{prog:Vg}{w:Vb}{A:VG}{E:YQ_}{s:VH}{κ:Ii}{rk:Ig->Nat}{S:Ig->Prop}
theorem Yqb(L:Jia prog w A E s κ rk S){st:Ih}{a b:Array Ig}{Q:Array Ig->Ih->Prop}(hk:kindOf st=κ)(im:∀ x∈a,S x)(io:∀ x∈b,S x)(na:0 < a.size)(nb:0 < b.size)(pa:Rs rk a.toList)(pb:Rs rk b.toList)
 (h0:K rk b 0 < K rk a 0) (hl:∀ i,i < b.size->K rk b i < K rk a (a.size - 1)) (h:∀ out g,out.toList.Perm (a.toList++b.toList)->Rs rk out.toList->Q out (JS st g)):wpS (VW prog w) A E s (Zxc a b) Q st:=by
 have ua:∀ i j,i<=j->j < a.size->K rk a i<=K rk a j:=λi j h1 h2=>pa.le h1 h2
 have ub:∀ i j,i<=j->j < b.size->K rk b i<=K rk b j:=λi j h1 h2=>pb.le h1 h2
 have nl:a.size - 1 < a.size:=by lia
 have m0:Mh rk a.toList b.toList (#[a[a.size - 1]]:Array Ig).toList.reverse (a.size - 1) b.size:=by
  have e1:a.toList.drop (a.size - 1)=[a[a.size - 1]]:=by
   have:=Xq nl
   rwa [Ix (by simp;lia)]at this
  refine⟨by rw[e1];simp,by simp,λx hx y hy=>?_,λx hx y hy=>?_⟩
  ·obtain⟨j,_,hj,e⟩:=Jka (rk:=rk) hx
   have:y=a[a.size - 1]:=by simpa using hy
   rw[this,e,<- Zj (rk:=rk) nl];exact ua j _ #[0] #[0]
  ·obtain⟨j,_,hj,e⟩:=Jka (rk:=rk) hx
   have:y=a[a.size - 1]:=by simpa using hy
   rw[this,e,<- Zj (rk:=rk) nl];exact VL (hl j hj)
 have done:∀ (out:Array Ig) (ia ib:Nat),Mh rk a.toList b.toList out.toList.reverse ia ib->ia=0->(a.extract 0 ia++b.extract 0 ib++out.reverse).toList.Perm (a.toList++b.toList)/\Rs rk (a.extract 0 ia++b.extract 0 ib++out.reverse).toList:=λout ia ib m e=>by
  rw[IE,IE,YAa,YAa,IL];exact m.done pa pb λx hx y _=>by
   obtain⟨j,h1,h2,_⟩:=Jka (rk:=rk) hx
   lia
 have dm:∀ (out:Array Ig) (ia ib:Nat),Mh rk a.toList b.toList out.toList.reverse ia ib->ib=1->(b.extract 0 ib++a.extract 0 ia++out.reverse).toList.Perm (a.toList++b.toList)/\Rs rk (b.extract 0 ib++a.extract 0 ia++out.reverse).toList:=λout ia ib m e=>by
  rw[IE,IE,YAa,YAa,IL];exact m.doneB pa pb λx hx y hy=>by
   obtain⟨j,h1,h2,e1⟩:=Jka (rk:=rk) hx;obtain⟨i,h3,h4,e2⟩:=Jka (rk:=rk) hy;have:j=0:=by lia
   rw[e1,e2,this];exact VJ (VL h0) (ua 0 i #[0] h4)
 have bz:∀ (out:Array Ig) (ia ib:Nat) (hi:ia < a.size),Mh rk a.toList b.toList out.toList.reverse (ia+1) ib->ib<=b.size->(0 < ib->K rk b (ib - 1)<=K rk a ia)->Mh rk a.toList b.toList (out.push a[ia]).toList.reverse ia ib:=λout ia ib hi m uU cH=>by
  have:=m.takeA pa ia #[0] λx hx y hy=>by
   obtain⟨j,h1,h2,e1⟩:=Jka (rk:=rk) hx;obtain⟨i,h3,h4,e2⟩:=XF (rk:=rk) hy;have:i=0:=by lia
   subst this;rw[e1,e2];exact VJ (ub j (ib - 1) #[0] #[0]) (cH #[0])
  rw[show ia+1 - ia=1 by lia,Xq hi]at this
  rw[IF,IM];exact this
 replace bz:∀ (out:Array Ig) (ia ib:Nat) (hi:ia - 1 < a.size),0 < ia->Mh rk a.toList b.toList out.toList.reverse ia ib->ib<=b.size->(0 < ib->K rk b (ib - 1)<=K rk a (ia - 1))->Mh rk a.toList b.toList (out.push a[ia - 1]).toList.reverse (ia - 1) ib:=λout ia ib hi h0 m h1 h2=>bz out (ia - 1) ib hi (by rw[Nat.sub_add_cancel h0];exact m) h1 h2
 have bA:∀ (out:Array Ig) (ia ib:Nat) (hi:ib < b.size),Mh rk a.toList b.toList out.toList.reverse ia (ib+1)->ia<=a.size->(0 < ia->K rk a (ia - 1)<=K rk b ib)->Mh rk a.toList b.toList (out.push b[ib]).toList.reverse ia ib:=λout ia ib hi m hia cH=>by
  have:=m.takeB pb ib #[0] λx hx y hy=>by
   obtain⟨j,h1,h2,e1⟩:=Jka (rk:=rk) hx;obtain⟨i,h3,h4,e2⟩:=XF (rk:=rk) hy;have:i=0:=by lia
   subst this;rw[e1,e2];exact VJ (ua j (ia - 1) #[0] #[0]) (cH #[0])
  rw[show ib+1 - ib=1 by lia,Xq hi]at this
  rw[IF,IM];exact this
 replace bA:∀ (out:Array Ig) (ia ib:Nat) (hi:ib - 1 < b.size),0 < ib->Mh rk a.toList b.toList out.toList.reverse ia ib->ia<=a.size->(0 < ia->K rk a (ia - 1)<=K rk b (ib - 1))->Mh rk a.toList b.toList (out.push b[ib - 1]).toList.reverse ia (ib - 1):=λout ia ib hi h0 m h1 h2=>bA out ia (ib - 1) hi (by rw[Nat.sub_add_cancel h0];exact m) h1 h2
 refine Il (IG (II ⟨rfl,?_⟩))
 refine Il (QU nl ?_)
 dsimp -zeta only
 by_cases a8:a.size - 1=0
 ·rw[if_pos (by simpa using a8)]
  obtain⟨p,r⟩:=done _ _ b.size m0 a8;exact Ij (h _ (IJ st) p r)
 rw[if_neg (by simpa using a8)]
 by_cases cI:b.size=1
 ·rw[if_pos (by simpa using cI)]
  obtain⟨p,r⟩:=dm _ (a.size - 1) b.size m0 cI;exact Ij (h _ (IJ st) p r)
 rw[if_neg (by simpa using cI)]
 refine Il (Im (Il (Ip (Iq
  (I:=λx c ag=>∃ ia ib out g g',c=(Vp,ia,ib,out,g)/\ag=JS st g'/\Mh rk a.toList b.toList (out:Array Ig).toList.reverse ia ib/\0 < ia/\ia < a.size/\1 < ib/\ib<=b.size/\x+(ia+ib)<=a.size+b.size)
  (Q:=λc ag=>∃ r g' z,c=(Vo r,z)/\ag=JS st g'/\(r:Array Ig).toList.Perm (a.toList++b.toList)/\Rs rk r.toList) ?step ?fin ⟨_,_,_,_,IJ st,rfl,rfl,m0,by lia,by lia,by lia,by lia,by lia⟩) ?post)))
 case post =>
  rintro c ag ⟨r,g',z,rfl,rfl,p,q⟩;exact Ij (h r g' p q)
 case fin =>
  rintro c ag ⟨ia,ib,out,g,g',rfl,rfl,m,h1,h2,h3,h4,h5⟩
  lia
 case step =>
  rintro x c ag _ hx ⟨ia,ib,out,g,g',rfl,rfl,m,h1,h2,h3,uV,yw⟩;dsimp -zeta only;refine Il (Ip (Iq
   (I:=λy c ag=>ag=JS st g'/\∃ ja jb out ac bc,c=(Vp,ja,jb,out,ac,bc)/\Mh rk a.toList b.toList (out:Array Ig).toList.reverse ja jb/\0 < ja/\ja < a.size/\1 < jb/\jb<=b.size/\y+(ja+jb)<=ia+ib)
   (Q:=λc ag=>ag=JS st g'/\((∃ ja jb out ac bc,c=(Vp,ja,jb,out,ac,bc)/\Mh rk a.toList b.toList (out:Array Ig).toList.reverse ja jb/\0 < ja/\ja < a.size/\1 < jb/\jb<=b.size/\ja+jb<=ia+ib)\/∃ r z,c=(Vo r,z)/\(r:Array Ig).toList.Perm (a.toList++b.toList)/\Rs rk r.toList)) ?istep ?ifin ⟨rfl,ia,ib,out,0,0,rfl,m,h1,h2,h3,uV,by lia⟩) ?ipost)
  case ifin =>
   rintro c ag ⟨rfl,ja,jb,out,ac,bc,rfl,m,h4,h5,h6,iu,p6⟩
   lia
  case istep =>
   rintro y c ag _ hy ⟨rfl,ja,jb,out,ac,bc,rfl,m,h4,h5,h6,iu,p6⟩;dsimp -zeta only;have jd:ja - 1 < a.size:=by lia
   have je:jb - 1 < b.size:=by lia
   refine Il (QU je (Il (QU jd (Il (L _ _ _ _ hk (io _ (Io je)) (im _ (Io jd)) ?_)))))
   by_cases hw:rk b[jb - 1] < rk a[ja - 1]
   ·have m1:=bz out ja jb jd h4 m iu λ_=>by rw[Zj je,Zj jd];exact VL hw
    simp only[hw,decide_true,if_true];refine Il (QU jd ?_)
    by_cases he:ja - 1=0
    ·rw[if_pos (by simpa using he)]
     exact Ij ⟨rfl,.inr ⟨_,_,rfl,done _ (ja - 1) jb m1 he⟩⟩
    ·rw[if_neg (by simpa using he)]
     by_cases hc:ac+1 >= g
     ·rw[if_pos hc]
      exact Ij ⟨rfl,.inl ⟨_,_,_,_,_,rfl,m1,by lia,by lia,h6,iu,by lia⟩⟩
     ·rw[if_neg hc]
      exact Ij ⟨rfl,_,_,_,_,_,rfl,m1,by lia,by lia,h6,iu,by lia⟩
   ·have m1:=bA out ja jb je #[0] m #[0] λ_=>by rw[Zj je,Zj jd];lia
    simp only[hw,decide_false,OU,if_false];refine Il (QU je ?_)
    by_cases he:jb - 1=1
    ·rw[if_pos (by simpa using he)]
     exact Ij ⟨rfl,.inr ⟨_,_,rfl,dm _ ja (jb - 1) m1 he⟩⟩
    ·rw[if_neg (by simpa using he)]
     by_cases hc:bc+1 >= g
     ·rw[if_pos hc]
      exact Ij ⟨rfl,.inl ⟨_,_,_,_,_,rfl,m1,h4,h5,by lia,by lia,by lia⟩⟩
     ·rw[if_neg hc]
      exact Ij ⟨rfl,_,_,_,_,_,rfl,m1,h4,h5,by lia,by lia,by lia⟩
  case ipost =>
   rintro c ag ⟨rfl,⟨ja,jb,out,ac,bc,rfl,m,h4,h5,h6,iu,p6⟩ | ⟨r,z,rfl,p,q⟩⟩
   ·dsimp -zeta only
    refine Il (IG (II ⟨rfl,?_⟩))
    refine Il (Ip (Iq
     (I:=λy c ag=>∃ ka kb out g g' ac bc,c=(Vp,ka,kb,out,g,ac,bc)/\ag=JS st g'/\Mh rk a.toList b.toList (out:Array Ig).toList.reverse ka kb/\0 < ka/\ka < a.size/\1 < kb/\kb<=b.size/\y+(ka+kb)<=ja+jb)
     (Q:=λc ag=>(∃ ka kb out g g' ac bc,c=(Vp,ka,kb,out,g,ac,bc)/\ag=JS st g'/\Mh rk a.toList b.toList (out:Array Ig).toList.reverse ka kb/\0 < ka/\ka < a.size/\1 < kb/\kb<=b.size/\ka+kb+1<=ja+jb)\/∃ r z g',c=(Vo r,z)/\ag=JS st g'/\(r:Array Ig).toList.Perm (a.toList++b.toList)/\Rs rk r.toList) ?jstep ?jfin ⟨ja,jb,out,_,g',ac,bc,rfl,rfl,m,h4,h5,h6,iu,by lia⟩) ?jpost)
    case jfin =>
     rintro c ag ⟨ka,kb,out,g,g',ac,bc,rfl,rfl,m,h7,h8,h9,p7,p8⟩
     lia
    case jpost =>
     rintro c ag (⟨ka,kb,out,g,g',ac,bc,rfl,rfl,m,h7,h8,h9,p7,p8⟩ | ⟨r,z,g',rfl,rfl,p,q⟩)
     ·dsimp -zeta only
      refine Il (IK (Ij ⟨ka,kb,out,_,g+1,rfl,rfl,m,h7,h8,h9,p7,by lia⟩))
     ·exact Ij ⟨r,g',_,rfl,rfl,p,q⟩
    case jstep =>
     intro y c ag _ hy hZ;obtain⟨ka,kb,out,g,g',ac,bc,rfl,rfl,m,h7,h8,h9,p7,p8⟩:=hZ;refine Xlb λQQ hQ=>?_
     have qd:∀ (r:Array Ig) z g',r.toList.Perm (a.toList++b.toList)/\Rs rk r.toList->QQ (.done (Vo r,z)) (JS st g'):=λr z g' p=>hQ _ _ (.inr ⟨r,z,g',rfl,rfl,p.1,p.2⟩)
     have qn:∀ cp cq (o:Array Ig) g g' ac bc,Mh rk a.toList b.toList o.toList.reverse cp cq->0 < cp->1 < cq->cp < ka->cq < kb->QQ (.done (Vp,cp,cq,o,g,ac,bc)) (JS st g')/\QQ (.yield (Vp,cp,cq,o,g,ac,bc)) (JS st g'):=λcp cq o g g' ac bc m z1 z2 z3 z4=>⟨hQ _ _ (.inl ⟨cp,cq,o,g,g',ac,bc,rfl,rfl,m,z1,by lia,z2,by lia,by lia⟩),hQ _ _ ⟨cp,cq,o,g,g',ac,bc,rfl,rfl,m,z1,by lia,z2,by lia,by lia⟩⟩
     clear hQ p8 hy h4 h5 h6 iu p6 h1 h2 h3 uV yw hx;have cO:kb - 1 < b.size:=by lia
     dsimp -zeta only
     extract_lets -underBinder c0 i1 c1 i2 c2 o1 c3 g2 c4 a2 b2 jp mg
     have hj:∀ u g1,wpS (VW prog w) A E s (jp u g1) QQ (JS st g'):=by
      intro u g1;dsimp -zeta only [jp,b2,a2,c4,g2,c3,o1,c2,i2,c1,i1,c0];clear mg jp b2 a2 c4 g2 c3 o1 c2 i2 c1 i1 c0;refine Il (IK ?_)
      refine Il (QU cO (Il (X1c L hk im (io _ (Io cO)) #[0] #[0] (λi j h1 h2 h3=>ua i j h2 #[0]) λat1 fL q1 q2=>?_)))
      dsimp -zeta only;rw[<- Zj (rk:=rk) cO]at q1 q2;simp only[IN]at q1 q2;have m1:Mh rk a.toList b.toList (out++(a.extract at1 ka).reverse).toList.reverse at1 kb:=by
       rw[IE,IM,IL,Dx,Yf];refine m.takeA pa at1 fL λx hx y hy=>?_
       obtain⟨j,dG,cN,e1⟩:=Jka (rk:=rk) hx;obtain⟨i,dU,kh,e2⟩:=XF (rk:=rk) hy;rw[e1,e2];exact VJ (ub j (kb - 1) #[0] cO) (VL (q2 (at1+i) #[0] #[0]))
      have q3:0 < at1->K rk a (at1 - 1)<=K rk b (kb - 1):=λhz=>q1 (at1 - 1) #[0]
      extract_lets -underBinder k ac1 jp1 o1 i1
      have dG:∀ u aK (o:Array Ig),Mh rk a.toList b.toList o.toList.reverse aK kb->0 < aK->aK<=ka->K rk a (aK - 1)<=K rk b (kb - 1)->wpS (VW prog w) A E s (jp1 u aK o) QQ (JS st g1):=by
       intro u aK o m5 i9 ip q9;dsimp -zeta only [jp1]
       clear_value ac1
       clear o1 i1 jp1 k m1 q1 q2 m fL q3;have a8:aK - 1 < a.size:=by lia
       extract_lets -underBinder nb1
       refine Il (QU cO ?_)
       have m2:=bA o aK kb cO #[0] m5 #[0] λ_=>q9
       clear m5 q9;dsimp -zeta only [nb1];generalize o.push b[kb - 1]=o2 at m2 ⊢;refine J4 (λdW=>Ij (qd _ _ _ (dm _ aK (kb - 1) m2 dW))) λdW=>?_
       refine Il (QU a8 (Il (X2c L hk io (im _ (Io a8)) #[0] #[0] (λi j h1 h2 h3=>ub i j h2 #[0]) λdX iq q5 q6=>?_)))
       dsimp -zeta only;rw[<- Zj (rk:=rk) a8]at q5 q6;simp only[IN]at q5 q6;have p9:1<=dX:=by
        by_cases hz:1<=dX
        ·exact hz
        ·have z1:=q6 0 #[0] #[0]
         have z2:=ua 0 (aK - 1) #[0] a8
         lia
       have m3:Mh rk a.toList b.toList (o2++(b.extract dX (kb - 1)).reverse).toList.reverse aK dX:=by
        rw[IE,IM,IL,Dx,Yf];refine m2.takeB pb dX iq λx hx y hy=>?_
        obtain⟨j,dG,cN,e1⟩:=Jka (rk:=rk) hx;obtain⟨i,dU,kh,e2⟩:=XF (rk:=rk) hy;rw[e1,e2];exact VJ (ua j (aK - 1) #[0] a8) (q6 (dX+i) #[0] #[0])
       extract_lets -underBinder k bc1 jp2 o3 ib3
       have cN:∀ u gA (o:Array Ig),Mh rk a.toList b.toList o.toList.reverse aK gA->gA < kb->1 < gA->K rk b (gA - 1)<=K rk a (aK - 1)->wpS (VW prog w) A E s (jp2 u gA o) QQ (JS st g1):=by
        intro u gA o m3 ki gz q7;dsimp -zeta only [jp2]
        clear_value bc1
        clear o3 ib3 jp2 k q5 q6 p9 dW m2 iq
        extract_lets -underBinder na1
        refine Il (QU a8 ?_)
        have m4:=bz o aK gA a8 i9 m3 #[0] λ_=>q7
        refine J4 (λeJ=>Ij (qd _ _ _ (done _ (aK - 1) gA m4 eJ))) λeJ=>?_
        replace eJ:¬ aK - 1=0:=eJ;have:=λg gg ac bc=>qn _ _ _ g gg ac bc m4 #[0] gz #[0] ki
        exact XG (λ_=>Ij (this _ _ _ _).1) λ_=>Ij (this _ _ _ _).2
       have q7:=q5 (dX - 1) #[0]
       refine XG (λjc=>J4 (λfM=>Ij (qd _ _ _ (dm _ aK dX m3 fM))) λfM=>J4 (λeJ=>absurd (show dX=0 from eJ) #[0]) λ_=>?_) λjc=>?_
       ·replace fM:¬ dX=1:=fM
        exact cN () _ _ m3 #[0] #[0] (VL q7)
       ·replace jc:¬ kb - 1 - dX > 0:=jc
        rw[show dX=kb - 1 by lia]at q7
        exact cN () _ _ m2 #[0] #[0] (VL q7)
      refine XG (λir=>J4 (λhe=>Ij (qd _ _ _ (done _ at1 kb m1 he))) λhe=>?_) λir=>?_
      ·replace he:¬ at1=0:=he
       exact dG () _ _ m1 #[0] fL (q3 #[0])
      ·replace ir:¬ ka - at1 > 0:=ir
       have q3:=q3 #[0]
       rw[show at1=ka by lia]at q3
       exact dG () _ _ m h7 (Um _) q3
     exact XG (λ_=>hj () _) λ_=>hj () _
   ·exact Ij ⟨r,g',_,rfl,rfl,p,q⟩
end
end SortB
end
section
namespace SortB
open PySem PySem.W PyProof.Rows
def Up(rk:Ig->Nat)(a:Array Ig)(lo hi:Nat):Prop:=∀ i j,lo<=i->i<=j->j < hi->K rk a i<=K rk a j
structure Ch(rk:Ig->Nat)(lo hi:Nat)(a b:Array Ig):Prop where
 perm:b.Perm a
 out:∀ j,j < lo\/hi<=j->K rk b j=K rk a j
section
variable{rk:Ig->Nat}{a b c:Array Ig}{lo hi fN bg i j k n:Nat}
theorem Ch.refl:Ch rk lo hi a a:=⟨Array.Perm.refl _,λ_ _=>rfl⟩
theorem Ch.size(h:Ch rk lo hi a b):b.size=a.size:=h.perm.size_eq
theorem Ch.trans(h:Ch rk lo hi a b)(h':Ch rk lo hi b c):Ch rk lo hi a c:=⟨h'.perm.trans h.perm,λj hj=>(h'.out j hj).trans (h.out j hj)⟩
theorem Ch.mono(h:Ch rk lo hi a b)(h1:fN<=lo)(h2:hi<=bg):Ch rk fN bg a b:=⟨h.perm,λj hj=>h.out j #[0]⟩
theorem Ch.all{S:Ig->Prop}(h:Ch rk lo hi a b)(hS:∀ x∈a,S x):∀ x∈b,S x:=λx hx=>hS x (h.perm.mem_iff.mp hx)
theorem Xmb(hj:j<=a.size)(k:Nat):K rk (mirror a i j ((j - i) / 2)) k=if i<=k/\k < j then K rk a (i+j - 1 - k) else K rk a k:=by
 have e:=getElem?_mirror_all (i:=i) hj k
 split at e
 ·rename_i h;rw[if_pos h];exact Yob e
 ·rename_i h;rw[if_neg h];exact Yob e
theorem Zzc{cJ d:Nat}(hs:cJ < a.size)(hd:d<=cJ)(k:Nat):K rk (bubble a cJ d) k=if k=cJ - d then K rk a cJ else if cJ - d < k/\k<=cJ then K rk a (k - 1) else K rk a k:=by
 have e:=getElem?_bubble hs d hd k
 by_cases h1:k=cJ - d
 ·rw[if_pos h1]at e ⊢;exact Yob e
 ·rw[if_neg h1]at e ⊢
  by_cases h2:cJ - d < k/\k<=cJ
  ·rw[if_pos h2]at e ⊢;exact Yob e
  ·rw[if_neg h2]at e ⊢;exact Yob e
theorem Ch.rev(hj:j<=a.size)(h1:lo<=i)(h2:j<=hi):Ch rk lo hi a (mirror a i j ((j - i) / 2)) :=
 ⟨mirror_perm _ _ _ _,λk hk=>by rw[Xmb hj,if_neg #[0]]⟩
theorem Ch.bub{cJ d:Nat}(hs:cJ < a.size)(hd:d<=cJ)(h1:lo<=cJ - d)(h2:cJ < hi):Ch rk lo hi a (bubble a cJ d) :=
 ⟨bubble_perm _ _ _,λk hk=>by rw[Zzc hs hd,if_neg #[0],if_neg #[0]]⟩
theorem Up.ext(u:Up rk a lo hi)(h:∀ i,lo<=i->i < hi->K rk b i=K rk a i):Up rk b lo hi:=λi j h1 h2 h3=>by
 rw[h i h1 #[0],h j #[0] h3];exact u i j h1 h2 h3
theorem Up.rs(u:Up rk a lo hi)(hh:hi<=a.size):Rs rk (a.extract lo hi).toList:=by
 refine pairwise_iff_getElem.mpr ?_
 intro i j bg jf di;simp only[V7,IP]at bg jf;have:=u (lo+i) (lo+j) #[0] #[0] #[0]
 rw[Zj #[0],Zj #[0]]at this
 simpa using this
theorem Xnb(h:lo+i < hi)(hh:hi<=a.size):K rk (a.extract lo hi) i=K rk a (lo+i):=by
 have e:i < (a.extract lo hi).size:=by rw[IP];lia
 rw[Zj e,Zj #[0]]
 simp
theorem Xob{x:Ig}(h:x∈a.extract lo hi):x∈a:=by
 have:=Array.mem_toList_iff.mpr h;rw[Yf]at this;exact Array.mem_toList_iff.mp (mem_of_mem_drop (Ie this))
theorem Xpb(m:List Ig):∀ (a:Array Ig) (sa n:Nat),sa+n+m.length<=a.size->∀ i:Nat,((m.zipIdx n).foldl (λa (x:Ig×Nat)=>a.setIfInBounds (sa+x.2) x.1) a)[i]?=if sa+n<=i/\i < sa+n+m.length then m[i - (sa+n)]? else a[i]?:=by
 induction m with
 | nil=>intro a sa n _ i;rw[if_neg #[2]];simp
 | cons x m ih =>
  intro a sa n hs i;rw[UB]at hs ⊢;rw[zipIdx_cons,DA,ih (a.setIfInBounds (sa+n) x) sa (n+1) (by simp;lia)]
  by_cases h1:i=sa+n
  ·subst h1
   rw[if_neg #[0],if_pos #[0]]
   simp[show sa+n < a.size by lia]
  ·by_cases h2:sa+n<=i/\i < sa+n+(m.length+1)
   ·rw[if_pos h2,if_pos #[0],show i - (sa+n)=(i - (sa+(n+1)))+1 by lia,getElem?_cons_succ]
   ·rw[if_neg h2,if_neg #[0],Array.getElem?_setIfInBounds_ne #[0]]
theorem ZAc(m:List Ig)(a:Array Ig)(sa:Nat)(h:sa+m.length<=a.size):(m.zipIdx.foldl (λa (x:Ig×Nat)=>a.setIfInBounds (sa+x.2) x.1) a).toList=a.toList.take sa++m++a.toList.drop (sa+m.length):=by
 apply IQ
 intro i;have e:=Xpb m a sa 0 #[0] i
 rw[IR,e]
 simp only[Nat.add_zero];rw[Iv]
 by_cases h1:i < sa
 ·rw[if_neg #[0],Od (by simp;lia),getElem?_take_of_lt h1];simp
 ·rw[Oc (by simp;lia)]
  have e2:(a.toList.take sa).length=sa:=by simp;lia
  rw[e2]
  by_cases h2:i < sa+m.length
  ·rw[if_pos #[0],Od #[0]]
  ·rw[if_neg #[0],Oc #[0],getElem?_drop,IR]
   congr 1;lia
end
section
variable{prog:Vg}{w:Vb}{A:VG}{E:YQ_}{s:VH}{κ:Ii}{rk:Ig->Nat}{S:Ig->Prop}
theorem Ytc{M:VT}{σ:Type}{v st:σ}{Q:PUnit->σ->Prop}(h:Q ⟨⟩ v):wpS M A E s (set v:StateT σ Sem PUnit) Q st:=by
 unfold wpS;rw[StateT.run_set];exact Ug ⟨rfl,h⟩
theorem Yrb(L:Jia prog w A E s κ rk S){st:Ih}{i sa na p nb q:Nat}{Q:Bool->Ih->Prop}(hk:kindOf st=κ)(hf:ID st=Vp)(hS:∀ x∈Ik st,S x)(bd:(IC st)[i]?=Vo (sa,na,p))(bM:(IC st)[i+1]?=Vo (sa+na,nb,q))
 (yx:0 < na) (nb0:0 < nb) (hsz:sa+na+nb<=(Ik st).size) (uA:Up rk (Ik st) sa (sa+na)) (uB:Up rk (Ik st) (sa+na) (sa+na+nb))
 (h:∀ a' g,Ch rk sa (sa+na+nb) (Ik st) a'->Up rk a' sa (sa+na+nb)->Q true (IA κ a' (((IC st).setIfInBounds i (sa,na+nb,p)).eraseIdxIfInBounds (i+1)) g Vp)):wpS (VW prog w) A E s (mergeAt' i) Q st:=by
 rcases st with ⟨kd,a,jg,g0,f0⟩
 change kd=κ at hk;change f0=Vp at hf;change ∀ x∈a,S x at hS;change jg[i]?=Vo (sa,na,p) at bd;change jg[i+1]?=Vo (sa+na,nb,q) at bM;change sa+na+nb<=a.size at hsz;change Up rk a sa (sa+na) at uA;change Up rk a (sa+na) (sa+na+nb) at uB;change ∀ a' g,Ch rk sa (sa+na+nb) a a'->Up rk a' sa (sa+na+nb)->Q true (IA κ a' ((jg.setIfInBounds i (sa,na+nb,p)).eraseIdxIfInBounds (i+1)) g Vp) at h;subst hk hf;refine Il (Im ?_)
 have e1:(jg[i]?,jg[i+1]?)=(Vo (sa,na,p),Vo (sa+na,nb,q)):=by rw[bd,bM]
 dsimp only;rw[e1];dsimp only;generalize (jg.setIfInBounds i (sa,na+nb,p)).eraseIdxIfInBounds (i+1)=pd at h ⊢;have qb:sa+na < a.size:=by lia
 have kk:∀ (x:Array Ig) (pd:Array (Nat×Nat×Nat)) (g:Nat) (f:Option Va),kindOf (IA kd x pd g f)=kd:=λ_ _ _ _=>rfl
 refine Il (Ytc (Il (QU qb (Il (X1c L (kk _ _ _ _) hS (hS _ (Io qb)) #[0] yx (λi j h1 h2 h3=>uA i j h1 h2 h3) λk fL q1 q2=>?_)))))
 rw[<- Zj (rk:=rk) qb]at q1 q2;dsimp only
 by_cases hn:na - k=0
 ·rw[if_pos (by simpa using hn)]
  refine Ij (h a _ Ch.refl λi j h1 h2 h3=>?_)
  by_cases hj:j < sa+na
  ·exact uA i j h1 h2 hj
  ·by_cases hi:i < sa+na
   ·have z:=q1 (i - sa) #[0]
    rw[show sa+(i - sa)=i by lia]at z
    exact VJ z (uB (sa+na) j (Um _) #[0] h3)
   ·exact uB i j #[0] h2 h3
 rw[if_neg (by simpa using hn)]
 have qf:sa+k+(na - k) - 1 < a.size:=by lia
 refine Il (QU qf (Il (X2c L (kk _ _ _ _) hS (hS _ (Io qf)) #[0] #[0] (λi j h1 h2 h3=>uB i j h1 h2 h3) λbB hkn' q3 q4=>?_)))
 rw[<- Zj (rk:=rk) qf,show sa+k+(na - k) - 1=sa+na - 1 by lia]at q3 q4
 dsimp only
 by_cases gq:bB=0
 ·rw[if_pos (by simpa using gq)]
  refine Ij (h a _ Ch.refl λi j h1 h2 h3=>?_)
  by_cases hj:j < sa+na
  ·exact uA i j h1 h2 hj
  ·by_cases hi:i < sa+na
   ·have z:=q4 (j - (sa+na)) #[0] #[0]
    rw[show sa+na+(j - (sa+na))=j by lia]at z
    exact VJ (uA i (sa+na - 1) h1 #[0] #[0]) z
   ·exact uB i j #[0] h2 h3
 rw[if_neg (by simpa using gq)]
 have xs:(a.extract (sa+k) (sa+na)).size=na - k:=by rw[IP];lia
 have ys:(a.extract (sa+na) (sa+na+bB)).size=bB:=by rw[IP];lia
 have px:Rs rk (a.extract (sa+k) (sa+na)).toList:=Up.rs (λi j h1 h2 h3=>uA i j #[0] h2 h3) #[0]
 have py:Rs rk (a.extract (sa+na) (sa+na+bB)).toList:=Up.rs (λi j h1 h2 h3=>uB i j h1 h2 #[0]) #[0]
 have sx:∀ x∈a.extract (sa+k) (sa+na),S x:=λx hx=>hS x (Xob hx)
 have sy:∀ x∈a.extract (sa+na) (sa+na+bB),S x:=λx hx=>hS x (Xob hx)
 have h0:K rk (a.extract (sa+na) (sa+na+bB)) 0 < K rk (a.extract (sa+k) (sa+na)) 0:=by
  rw[Xnb #[0] #[0],Xnb #[0] #[0]]
  exact q2 k (Um _) #[0]
 have hl:∀ i,i < (a.extract (sa+na) (sa+na+bB)).size->K rk (a.extract (sa+na) (sa+na+bB)) i < K rk (a.extract (sa+k) (sa+na)) ((a.extract (sa+k) (sa+na)).size - 1):=λi hi=>by
  rw[ys]at hi;rw[xs,Xnb #[0] #[0],Xnb #[0] #[0],show sa+k+(na - k - 1)=sa+na - 1 by lia]
  exact q3 i hi
 have fin:∀ (m:Array Ig) (g:Nat),m.toList.Perm ((a.extract (sa+k) (sa+na)).toList++(a.extract (sa+na) (sa+na+bB)).toList)->Rs rk m.toList ->
  Q true (IA kd (m.toList.zipIdx.foldl (λa (x:Ig×Nat)=>a.setIfInBounds (sa+k+x.2) x.1) a) pd g Vp):=λm g pm rm=>by
  have ml:m.toList.length=na - k+bB:=by rw[pm.length_eq,Oh,V7,V7,xs,ys]
  have gl:=ZAc m.toList a (sa+k) #[0]
  have gg:=Xpb m.toList a (sa+k) 0 #[0]
  simp only[Nat.add_zero]at gg;generalize hb:m.toList.zipIdx.foldl (λa (x:Ig×Nat)=>a.setIfInBounds (sa+k+x.2) x.1) a=b at gl gg ⊢
  have out:∀ j,j < sa+k\/sa+na+bB<=j->K rk b j=K rk a j:=λj hj=>Yob (by rw[gg j,if_neg #[0]])
  have ins:∀ j,sa+k<=j->j < sa+na+bB->K rk b j=K rk m (j - (sa+k)):=λj h1 h2=>Yob (by rw[gg j,if_pos #[0],IR])
  have ix:∀ j,sa+k<=j->j < sa+na+bB->K rk a (sa+na)<=K rk b j/\K rk b j<=K rk a (sa+na - 1):=λj h1 h2=>by
   have hm:j - (sa+k) < m.size:=by rw[<- V7,ml];lia
   rw[ins j h1 h2,Zj hm];have eO:=pm.mem_iff.mp (Array.mem_toList_iff.mpr (Io hm))
   rcases mem_append.mp eO with hx | hx
   ·obtain⟨t,ht,e⟩:=Iz hx
    rw[V7,xs]at ht;have e':rk m[j - (sa+k)]=K rk a (sa+k+t):=by
     rw[<- e,Zj #[0]];simp
    rw[e'];exact⟨VL (by have:=q2 (k+t) #[0] #[0];rwa [<- IS]at this),uA _ _ #[0] #[0] #[0]⟩
   ·obtain⟨t,ht,e⟩:=Iz hx
    rw[V7,ys]at ht;have e':rk m[j - (sa+k)]=K rk a (sa+na+t):=by
     rw[<- e,Zj #[0]];simp
    rw[e'];exact⟨uB _ _ #[0] #[0] #[0],VL (q3 t ht)⟩
  refine h b g ⟨Array.perm_iff_toList_perm.mpr ?_,λj hj=>out j #[0]⟩ λi j h1 h2 h3=>?_
  ·rw[gl,ml]
   have ea:a.toList=a.toList.take (sa+k)++((a.extract (sa+k) (sa+na)).toList++(a.extract (sa+na) (sa+na+bB)).toList)++a.toList.drop (sa+k+(na - k+bB)):=by
    rw[Yf,Yf,Iv,Iv];rw[show sa+na+bB - (sa+na)=bB by lia,show sa+k+(na - k+bB)=sa+na+bB by lia,<- Y3a a.toList (sa+na) bB,<- Z8b (show sa+k<=sa+na by lia),Ir]
   exact((pm.append_left _).append_right _).trans (List.Perm.of_eq ea.symm)
  ·by_cases ci:i < sa+k
   ·rw[out i #[0]]
    have z:=q1 (i - sa) #[0]
    rw[show sa+(i - sa)=i by lia]at z
    by_cases cj:j < sa+k
    ·rw[out j #[0]];exact uA i j h1 h2 #[0]
    ·by_cases cj2:j < sa+na+bB
     ·exact VJ z (ix j #[0] cj2).1
     ·rw[out j #[0]]
      exact VJ z (uB _ _ #[0] #[0] h3)
   ·by_cases ci2:i < sa+na+bB
    ·by_cases cj2:j < sa+na+bB
     ·rw[ins i #[0] ci2,ins j #[0] cj2]
      exact rm.le #[0] (by rw[<- V7,ml];lia)
     ·rw[out j #[0]]
      have z:=q4 (j - (sa+na)) #[0] #[0]
      rw[show sa+na+(j - (sa+na))=j by lia]at z
      exact VJ (ix i #[0] ci2).2 z
    ·rw[out i #[0],out j #[0]]
     exact uB i j #[0] h2 h3
 split
 ·refine Il (Ypb L (kk _ _ _ _) sx sy #[0] #[0] px py (VL h0) hl λm g pm rm=>?_)
  exact Il (IK (Il (Im (Ij (fin m g pm rm)))))
 ·refine Il (Yqb L (kk _ _ _ _) sx sy #[0] #[0] px py h0 hl λm g pm rm=>?_)
  exact Il (IK (Il (Im (Ij (fin m g pm rm)))))
end
end SortB
end
section
namespace SortB
open PySem PySem.W PyProof.Rows
section
variable{prog:Vg}{w:Vb}{A:VG}{E:YQ_}{s:VH}{κ:Ii}{rk:Ig->Nat}{S:Ig->Prop}
abbrev mk(κ:Ii)(a:Array Ig)(pd:Array (Nat×Nat×Nat))(g:Nat):Ih:=IA κ a pd g Vp
theorem Qhc(L:Jia prog w A E s κ rk S){a:Array Ig}{pd:Array (Nat×Nat×Nat)}{g i j:Nat}{Q:Option Bool->Ih->Prop}(hS:∀ x∈a,S x)(hi:i < a.size)(hj:j < a.size)
 (h:Q (Vo (decide (K rk a i < K rk a j))) (mk κ a pd g)):wpS (VW prog w) A E s (ltAt' i j) Q (mk κ a pd g):=X0c L rfl hS hi hj h
theorem Q0b{a:Array Ig}{pd:Array (Nat×Nat×Nat)}{g i j:Nat}{Q:Unit->Ih->Prop}(h:Q () (mk κ (mirror a i j ((j - i) / 2)) pd g)):wpS (VW prog w) A E s (reverseSlice' i j) Q (mk κ a pd g):=IK h
def Dn(rk:Ig->Nat)(a:Array Ig)(lo hi:Nat):Prop:=∀ i j,lo<=i->i<=j->j < hi->K rk a j<=K rk a i
theorem Up.step{a:Array Ig}{lo n:Nat}(u:Up rk a lo (lo+n))(hn:1<=n)(h:¬ K rk a (lo+n) < K rk a (lo+n - 1)):Up rk a lo (lo+(n+1)):=λi j h1 h2 h3=>by
 by_cases hj:j < lo+n
 ·exact u i j h1 h2 hj
 ·have:j=lo+n:=by lia
  subst this
  by_cases hi:i=lo+n
  ·rw[hi];exact Um _
  ·have:=u i (lo+n - 1) h1 #[0] #[0];lia
theorem Dn.step{a:Array Ig}{lo n:Nat}(u:Dn rk a lo (lo+n))(hn:1<=n)(h:K rk a (lo+n)<=K rk a (lo+n - 1)):Dn rk a lo (lo+(n+1)):=λi j h1 h2 h3=>by
 by_cases hj:j < lo+n
 ·exact u i j h1 h2 hj
 ·have:j=lo+n:=by lia
  subst this
  by_cases hi:i=lo+n
  ·rw[hi];exact Um _
  ·have:=u i (lo+n - 1) h1 #[0] #[0];lia
theorem Y4a{a:Array Ig}{i j:Nat}(hj:j<=a.size)(e:∀ k,i<=k->k < j->K rk a k=K rk a (j - 1))(k:Nat):K rk (mirror a i j ((j - i) / 2)) k=K rk a k:=by
 rw[Xmb hj]
 by_cases h:i<=k/\k < j
 ·rw[if_pos h,e _ #[0] #[0],e k h.1 h.2]
 ·rw[if_neg h]
theorem Z9b(L:Jia prog w A E s κ rk S){a:Array Ig}{pd:Array (Nat×Nat×Nat)}{g lo aL:Nat}{Q:Option Nat->Ih->Prop}(hS:∀ x∈a,S x)(h1:1<=aL)(hsz:lo+aL<=a.size)
 (h:∀ m b,1<=m->m<=aL->Ch rk lo (lo+aL) a b->Up rk b lo (lo+m)->Q (Vo m) (mk κ b pd g)):wpS (VW prog w) A E s (countRun' lo aL) Q (mk κ a pd g):=by
 have ll:lo+1 - 1=lo:=by lia
 refine Il (Ip (Iq (I:=λx c ag=>ag=mk κ a pd g/\c=(Vp,x)/\Up rk a lo (lo+x))
  (Q:=λc ag=>ag=mk κ a pd g/\∃ n,c=(Vp,n)/\1<=n/\n<=aL/\Up rk a lo (lo+n)/\(n=aL\/K rk a (lo+n) < K rk a (lo+n - 1))) ?step ?fin ⟨rfl,rfl,λi j h1 h2 h3=>by rw[show i=j by lia];exact Um _⟩) ?post)
 case step =>
  rintro x c ag jh kj ⟨rfl,rfl,u⟩;dsimp only;refine Il (Qhc L hS #[0] #[0] ?_)
  by_cases hw:K rk a (lo+x) < K rk a (lo+x - 1)
  ·simp only[hw,decide_true,if_true]
   exact Ij ⟨rfl,x,rfl,jh,by lia,u,.inr hw⟩
  ·simp only[hw,decide_false,OU,if_false]
   exact Ij ⟨rfl,rfl,u.step jh hw⟩
 case fin =>
  rintro c ag ⟨rfl,rfl,u⟩;have e:max 1 aL=aL:=by lia
  exact⟨rfl,_,rfl,by lia,by lia,u,.inl e⟩
 case post =>
  rintro c ag ⟨rfl,n,rfl,ji,dQ,u,yy⟩;dsimp only
  by_cases hnn:n=aL
  ·rw[if_pos (by simpa using hnn)]
   exact Ij (h n a ji dQ Ch.refl u)
  rw[if_neg (by simpa using hnn)]
  have aG:=yy.resolve_left hnn
  suffices D:∀ b:Array Ig,Ch rk lo (lo+aL) a b->Dn rk b lo (lo+(n+1))->wpS (VW prog w) A E s _ Q (mk κ b pd g) by
   by_cases hg:n > 1
   ·rw[if_pos hg]
    refine Il (Qhc L hS #[0] #[0] ?_)
    by_cases hr:K rk a lo < K rk a (lo+n - 1)
    ·simp only[hr,decide_true,if_true]
     exact Ij (h n a ji dQ Ch.refl u)
    ·simp only[hr,decide_false,OU,if_false]
     have eq:∀ k,lo<=k->k < lo+n->K rk a k=K rk a (lo+n - 1):=λk h1 h2=>by
      have a1:=u lo k (Um _) h1 h2;have a2:=u k (lo+n - 1) h1 #[0] #[0]
      lia
     have rs:=Y4a (rk:=rk) (a:=a) (i:=lo) (j:=lo+n) #[0] eq
     refine Il (Q0b (D _ (Ch.rev #[0] (Um _) #[0]) ?_))
     refine Dn.step (λi j h1 h2 h3=>?_) ji ?_
     ·rw[rs,rs,eq i h1 #[0],eq j #[0] h3];exact Um _
     ·rw[rs,rs];exact VL aG
   ·rw[if_neg hg]
    have:n=1:=by lia
    subst this;exact D a Ch.refl (Dn.step (λi j h1 h2 h3=>by rw[show i=j by lia];exact Um _) (Um _) (VL aG))
  intro b cb db;refine Il (IG (II ⟨rfl,?_⟩))
  refine Il (Ip (Iq (I:=λx c ag=>∃ b' q,c=(Vp,x,q)/\ag=mk κ b' pd g/\Ch rk lo (lo+aL) a b'/\Dn rk b' lo (lo+x)/\q+1<=x/\∀ i,lo+x - (q+1)<=i->i < lo+x->K rk b' i=K rk b' (lo+x - 1))
   (Q:=λc ag=>∃ b' n' q,c=(Vp,n',q)/\ag=mk κ b' pd g/\n'<=aL/\Ch rk lo (lo+aL) a b'/\Dn rk b' lo (lo+n')/\q+1<=n'/\∀ i,lo+n' - (q+1)<=i->i < lo+n'->K rk b' i=K rk b' (lo+n' - 1)) ?dstep ?dfin ⟨b,0,rfl,rfl,cb,db,by lia,λi h1 h2=>by congr 1;lia⟩) ?dpost)
  case dfin =>
   rintro c ag ⟨b',q,rfl,rfl,cb,db,hq,he⟩;exact⟨b',_,q,rfl,rfl,by lia,cb,db,hq,he⟩
  case dstep =>
   rintro x c ag jh kj ⟨b',q,rfl,rfl,cb,db,hq,he⟩;dsimp only;have bs:=cb.size;have aJ:=cb.all hS;refine Il (Qhc L aJ #[0] #[0] ?_)
   by_cases hw:K rk b' (lo+x) < K rk b' (lo+x - 1)
   ·simp only[hw,decide_true,if_true]
    have one:∀ (y:Array Ig) i,lo+(x+1) - (0+1)<=i->i < lo+(x+1)->K rk y i=K rk y (lo+(x+1) - 1):=λy i h1 h2=>by congr 1;lia
    by_cases hq0:q > 0
    ·rw[if_pos hq0]
     have rs:=Y4a (rk:=rk) (a:=b') (i:=lo+x - (q+1)) (j:=lo+x) #[0] he
     refine Il (Q0b (Ij ⟨_,0,rfl,rfl,cb.trans (Ch.rev #[0] #[0] #[0]),?_,by lia,one _⟩))
     refine Dn.step (λi j h1 h2 h3=>?_) #[0] ?_
     ·rw[rs,rs];exact db i j h1 h2 h3
     ·rw[rs,rs];exact VL hw
    ·rw[if_neg hq0]
     exact Ij ⟨b',0,rfl,rfl,cb,db.step #[0] (VL hw),by lia,one _⟩
   ·simp only[hw,decide_false,OU,if_false]
    refine Il (Qhc L aJ #[0] #[0] ?_)
    by_cases hv:K rk b' (lo+x - 1) < K rk b' (lo+x)
    ·simp only[hv,decide_true,if_true]
     exact Ij ⟨b',x,q,rfl,rfl,by lia,cb,db,hq,he⟩
    ·simp only[hv,decide_false,OU,if_false]
     have e2:K rk b' (lo+x)=K rk b' (lo+x - 1):=by lia
     refine Ij ⟨b',q+1,rfl,rfl,cb,db.step #[0] #[0],by lia,λi h1 h2=>?_⟩
     rw[show lo+(x+1) - 1=lo+x by lia]
     by_cases hi:i=lo+x
     ·rw[hi]
     ·rw[e2];exact he i #[0] #[0]
  case dpost =>
   rintro c ag ⟨b',n',q,rfl,rfl,gq,cb,db,hq,he⟩;dsimp only;have bs:=cb.size
   suffices T:∀ c:Array Ig,Ch rk lo (lo+aL) a c->Dn rk c lo (lo+n')->wpS (VW prog w) A E s _ Q (mk κ c pd g) by
    by_cases hq0:q > 0
    ·rw[if_pos hq0]
     have rs:=Y4a (rk:=rk) (a:=b') (i:=lo+n' - (q+1)) (j:=lo+n') #[0] he
     refine Il (Q0b (T _ (cb.trans (Ch.rev #[0] #[0] #[0])) λi j h1 h2 h3=>?_))
     rw[rs,rs];exact db i j h1 h2 h3
    ·rw[if_neg hq0]
     exact T b' cb db
   intro c cc dc;have cs:=cc.size;refine Il (Q0b ?_)
   have ce:Ch rk lo (lo+aL) a (mirror c lo (lo+n') ((lo+n' - lo) / 2)):=cc.trans (Ch.rev #[0] (Um _) #[0])
   have ue:Up rk (mirror c lo (lo+n') ((lo+n' - lo) / 2)) lo (lo+n'):=λi j h1 h2 h3=>by
    rw[Xmb #[0],Xmb #[0],if_pos #[0],if_pos #[0]]
    exact dc _ _ #[0] #[0] #[0]
   generalize mirror c lo (lo+n') ((lo+n' - lo) / 2)=e at ce ue ⊢;have es:=ce.size;refine Il (Ip (Iq (I:=λx c ag=>ag=mk κ e pd g/\c=(Vp,x)/\Up rk e lo (lo+x))
    (Q:=λc ag=>ag=mk κ e pd g/\∃ n,c=(Vp,n)/\1<=n/\n<=aL/\Up rk e lo (lo+n)) ?estep ?efin ⟨rfl,rfl,ue⟩) ?epost)
   case estep =>
    rintro x c ag jh kj ⟨rfl,rfl,u⟩;dsimp only;refine Il (Qhc L (ce.all hS) #[0] #[0] ?_)
    by_cases hw:K rk e (lo+x) < K rk e (lo+x - 1)
    ·simp only[hw,decide_true,if_true]
     exact Ij ⟨rfl,x,rfl,by lia,by lia,u⟩
    ·simp only[hw,decide_false,OU,if_false]
     exact Ij ⟨rfl,rfl,u.step #[0] hw⟩
   case efin =>
    rintro c ag ⟨rfl,rfl,u⟩;exact⟨rfl,_,rfl,by lia,by lia,u⟩
   case epost =>
    rintro c ag ⟨rfl,m,rfl,og,bN,u⟩;exact Ij (h m e og bN ce u)
theorem XUa(L:Jia prog w A E s κ rk S){a:Array Ig}{pd:Array (Nat×Nat×Nat)}{g lo n ok:Nat}{Q:Bool->Ih->Prop}(hS:∀ x∈a,S x)(hsz:lo+n<=a.size)(hok:1<=ok)(hn:ok<=n)(u:Up rk a lo (lo+ok))
 (h:∀ b,Ch rk lo (lo+n) a b->Up rk b lo (lo+n)->Q true (mk κ b pd g)):wpS (VW prog w) A E s (binarySort' lo n ok) Q (mk κ a pd g):=by
 refine Il (Ip (Iq (I:=λx c ag=>c=(Vp,())/\∃ b,ag=mk κ b pd g/\Ch rk lo (lo+n) a b/\Up rk b lo (lo+x)) (Q:=λc ag=>c=(Vp,())/\∃ b,ag=mk κ b pd g/\Ch rk lo (lo+n) a b/\Up rk b lo (lo+n)) ?step ?fin ⟨rfl,a,rfl,Ch.refl,by rw[show max ok 1=ok by lia];exact u⟩) ?post)
 case fin =>
  rintro c ag ⟨rfl,b,rfl,cb,ub⟩;rw[show max (max ok 1) n=n by lia]at ub
  exact⟨rfl,b,rfl,cb,ub⟩
 case post =>
  rintro c ag ⟨rfl,b,rfl,cb,ub⟩;exact Ij (h b cb ub)
 case step =>
  rintro k c ag i8 jc ⟨rfl,b,rfl,cb,ub⟩;have bs:=cb.size;dsimp only;refine Il (Ip (Iq (I:=λx c ag=>ag=mk κ b pd g/\∃ l r,c=(Vp,l,r)/\l<=r/\r<=k/\r - l<=k - x/\(∀ i,lo<=i->i < lo+l->K rk b i<=K rk b (lo+k))/\∀ i,lo+r<=i->i < lo+k->K rk b (lo+k) < K rk b i)
   (Q:=λc ag=>ag=mk κ b pd g/\∃ l r,c=(Vp,l,r)/\l<=k/\(∀ i,lo<=i->i < lo+l->K rk b i<=K rk b (lo+k))/\∀ i,lo+l<=i->i < lo+k->K rk b (lo+k) < K rk b i) ?istep ?ifin ⟨rfl,0,k,rfl,by lia,by lia,by lia,λi h1 h2=>by lia,λi h1 h2=>by lia⟩) ?ipost)
  case ifin =>
   rintro c ag ⟨rfl,l,r,rfl,h1,h2,h3,h4,h5⟩;have:l=r:=by lia
   subst this;exact⟨rfl,l,l,rfl,h2,h4,h5⟩
  case istep =>
   rintro x c ag _ hx ⟨rfl,l,r,rfl,h1,h2,h3,h4,h5⟩;dsimp only
   by_cases hge:l >= r
   ·rw[if_pos hge]
    have:l=r:=by lia
    subst this;exact Ij ⟨rfl,l,l,rfl,h2,h4,h5⟩
   ·rw[if_neg hge]
    refine Il (Qhc L (cb.all hS) #[0] #[0] ?_)
    by_cases hw:K rk b (lo+k) < K rk b (lo+(l+r) / 2)
    ·simp only[hw,decide_true,if_true]
     exact Ij ⟨rfl,l,_,rfl,by lia,by lia,by lia,h4,λi a1 a2=>Vz hw (ub _ i #[0] a1 a2)⟩
    ·simp only[hw,decide_false,OU,if_false]
     exact Ij ⟨rfl,_,r,rfl,by lia,by lia,by lia,λi a1 a2=>VJ (ub i (lo+(l+r) / 2) a1 #[0] #[0]) (Nat.not_lt.mp hw),h5⟩
  case ipost =>
   rintro c ag ⟨rfl,l,r,rfl,h1,h4,h5⟩;have e:lo+k - (lo+k - (lo+l))=lo+l:=by lia
   refine Il (IK (Ij ⟨rfl,bubble b (lo+k) (lo+k - (lo+l)),rfl,cb.trans (Ch.bub #[0] #[0] #[0] #[0]),λi j a1 a2 a3=>?_⟩))
   rw[Zzc #[0] #[0],Zzc #[0] #[0],e]
   by_cases i1:i=lo+l
   ·rw[if_pos i1]
    by_cases j1:j=lo+l
    ·rw[if_pos j1];exact Um _
    ·rw[if_neg j1,if_pos #[0]]
     exact VL (h5 _ #[0] #[0])
   ·rw[if_neg i1]
    by_cases i2:lo+l < i/\i<=lo+k
    ·rw[if_pos i2,if_neg #[0],if_pos #[0]]
     exact ub _ _ #[0] #[0] #[0]
    ·rw[if_neg i2]
     by_cases j1:j=lo+l
     ·rw[if_pos j1];exact h4 i a1 #[0]
     ·rw[if_neg j1]
      by_cases j2:lo+l < j/\j<=lo+k
      ·rw[if_pos j2];exact ub _ _ #[0] #[0] #[0]
      ·rw[if_neg j2];exact ub _ _ #[0] #[0] #[0]
end
end SortB
end
section
namespace SortB
open PySem PySem.W PyProof.Rows
def Cov(rk:Ig->Nat)(a:Array Ig):List (Nat×Nat×Nat)->Nat->Nat->Prop
 | [],lo,hi=>lo=hi
 | (s,n,_)::r,lo,hi=>s=lo/\0 < n/\Up rk a lo (lo+n)/\Cov rk a r (lo+n) hi
section
variable{rk:Ig->Nat}{a b:Array Ig}{l r:List (Nat×Nat×Nat)}{lo hi mid:Nat}
theorem Cov.le:∀ {l:List (Nat×Nat×Nat)} {lo hi:Nat},Cov rk a l lo hi->lo+l.length<=hi
 | [],lo,hi,h=>by have:lo=hi:=h;simp;lia
 | (s,n,p)::r,lo,hi,h=>by
  obtain⟨_,h1,_,h2⟩:=h;have:=Cov.le h2;rw[UB];lia
theorem Cov.app:∀ {l:List (Nat×Nat×Nat)} {lo:Nat},Cov rk a (l++r) lo hi↔∃ mid,Cov rk a l lo mid/\Cov rk a r mid hi
 | [],lo=>⟨λh=>⟨lo,rfl,h⟩,λ⟨m,e,h⟩=>by have:lo=m:=e;subst this;exact h⟩
 | (s,n,p)::l,lo=>by
  show(s=lo/\0 < n/\Up rk a lo (lo+n)/\Cov rk a (l++r) (lo+n) hi)↔∃ mid,(s=lo/\0 < n/\Up rk a lo (lo+n)/\Cov rk a l (lo+n) mid)/\Cov rk a r mid hi;rw[Cov.app];exact⟨λ⟨a1,a2,a3,m,a4,a5⟩=>⟨m,⟨a1,a2,a3,a4⟩,a5⟩,λ⟨m,⟨a1,a2,a3,a4⟩,a5⟩=>⟨a1,a2,a3,m,a4,a5⟩⟩
theorem Cov.ext:∀ {l:List (Nat×Nat×Nat)} {lo:Nat},Cov rk a l lo hi->(∀ j,lo<=j->j < hi->K rk b j=K rk a j)->Cov rk b l lo hi
 | [],_,h,_=>h
 | (s,n,p)::l,lo,h,e=>by
  obtain⟨a1,a2,a3,a4⟩:=h;have:=Cov.le a4;exact⟨a1,a2,a3.ext λi h1 h2=>e i h1 #[0],a4.ext λj h1 h2=>e j #[0] h2⟩
theorem Cov.pow:∀ {l l':List (Nat×Nat×Nat)} {lo:Nat},l.map (λx=>(x.1,x.2.1))=l'.map (λx=>(x.1,x.2.1))->Cov rk a l lo hi->Cov rk a l' lo hi
 | [],[],_,_,h=>h
 | [],_::_,_,e,_=>by simp at e
 | _::_,[],_,e,_=>by simp at e
 | (s,n,p)::l,(s',n',p')::l',lo,e,h=>by
  simp only[UH,IT,Prod.mk.injEq]at e;obtain⟨⟨rfl,rfl⟩,e⟩:=e;obtain⟨a1,a2,a3,a4⟩:=h;exact⟨a1,a2,a3,Cov.pow e a4⟩
theorem X3c{l:List (Nat×Nat×Nat)}{i:Nat}(h:i+1 < l.length):l=l.take i++l[i]::l[i+1]::l.drop (i+2):=by
 have e1:l.drop i=l[i]::l.drop (i+1):=Iy #[0]
 have e2:l.drop (i+1)=l[i+1]::l.drop (i+1+1):=Iy h;rw[<- e2,<- e1,Ir]
theorem QUd{pd:Array (Nat×Nat×Nat)}{i:Nat}{v:Nat×Nat×Nat}(h:i+1 < pd.size):((pd.setIfInBounds i v).eraseIdxIfInBounds (i+1)).toList=pd.toList.take i++v::pd.toList.drop (i+2):=by
 have hs:i+1 < (pd.setIfInBounds i v).size:=by simpa using h
 rw[Array.eraseIdxIfInBounds_eq,dif_pos hs,Array.toList_eraseIdx,Array.toList_setIfInBounds,eraseIdx_eq_take_drop_succ];rw[set_eq_take_append_cons_drop,if_pos (by simp;lia)]
 have e1:(pd.toList.take i).length=i:=by simp;lia
 rw[take_append,drop_append,e1,Ix #[0],IU (by lia:(pd.toList.take i).length<=i+1+1)]
 rw[show i+1 - i=1 by lia,show i+1+1 - i=2 by lia]
 simp
end
section
variable{prog:Vg}{w:Vb}{A:VG}{E:YQ_}{s:VH}{κ:Ii}{rk:Ig->Nat}{S:Ig->Prop}
theorem Y5a(L:Jia prog w A E s κ rk S){b:Array Ig}{pd:Array (Nat×Nat×Nat)}{g i hi:Nat}{Q:Bool->Ih->Prop}(hS:∀ x∈b,S x)(hsz:hi<=b.size)(cv:Cov rk b pd.toList 0 hi)(dU:i+1 < pd.size)
 (h:∀ c fO g',Ch rk 0 hi b c->Cov rk c fO.toList 0 hi->fO.size+1=pd.size->Q true (mk κ c fO g')):wpS (VW prog w) A E s (mergeAt' i) Q (mk κ b pd g):=by
 have hl:i+1 < pd.toList.length:=by simpa using dU
 have sp:=X3c hl;rw[sp]at cv;obtain⟨mid,c1,c2⟩:=Cov.app.mp cv;have g1:pd[i]?=Vo pd.toList[i]:=by simp[show i < pd.size by lia]
 have g2:pd[i+1]?=Vo pd.toList[i+1]:=by simp[dU]
 generalize pd.toList[i]=u at c2 g1 sp;generalize pd.toList[i+1]=v at c2 g2 sp;obtain⟨sa,na,p⟩:=u;obtain⟨sb,nb,q⟩:=v;obtain⟨rfl,n1,u1,rfl,n2,u2,c3⟩:=c2;have le3:=c3.le;refine Yrb L rfl rfl hS g1 g2 n1 n2 (by show sa+na+nb<=b.size;lia) u1 u2 λc g' ch up=>h c _ g' (ch.mono (Us _) #[0]) ?_ ?_
 ·show Cov rk c ((pd.setIfInBounds i (sa,na+nb,p)).eraseIdxIfInBounds (i+1)).toList 0 hi
  rw[QUd dU];have qg:=c1.le;refine Cov.app.mpr ⟨sa,c1.ext λj h1 h2=>ch.out j #[0],rfl,by lia,?_,?_⟩
  ·rw[<- IS];exact up
  ·rw[<- IS];exact c3.ext λj h1 h2=>ch.out j #[0]
 ·show((pd.setIfInBounds i (sa,na+nb,p)).eraseIdxIfInBounds (i+1)).size+1=pd.size
  rw[<- V7,QUd dU];simp
  lia
theorem Jab(L:Jia prog w A E s κ rk S){a:Array Ig}{g:Nat}{Q:Unit->Ih->Prop}(hS:∀ x∈a,S x)(h2:2<=a.size)
 (h:∀ b pd g,b.Perm a->Up rk b 0 a.size->Q () (mk κ b pd g)):wpS (VW prog w) A E s sortRuns' Q (mk κ a #[] g):=by
 have iy:∀ b pd g,IC (mk κ b pd g)=pd:=λ_ _ _=>rfl
 rw[sortRuns'_eq];refine Il (Im ?_)
 dsimp only;rw[show Ik (mk κ a #[] g)=a from rfl]
 generalize minRun' a.size a.size 0=mr;refine Il (Ip (Iq (I:=λx c ag=>∃ lo b pd g,c=(Vp,lo)/\ag=mk κ b pd g/\b.Perm a/\lo<=a.size/\x<=lo/\Cov rk b pd.toList 0 lo)
  (Q:=λc ag=>∃ b pd g,c=(Vp,a.size)/\ag=mk κ b pd g/\b.Perm a/\Cov rk b pd.toList 0 a.size) ?step ?fin ⟨0,a,#[],g,rfl,rfl,Array.Perm.refl _,by lia,by lia,rfl⟩) ?post)
 case fin =>
  rintro c ag ⟨lo,b,pd,g,rfl,rfl,pb,h1,h3,cv⟩;have:lo=a.size:=by lia
  subst this;exact⟨b,pd,g,rfl,rfl,pb,cv⟩
 case post =>
  rintro c ag ⟨b,pd,g,rfl,rfl,pb,cv⟩;dsimp only;have aA:pd.size<=a.size:=by have:=cv.le;simpa using this
  refine Il (Ip (Iq (I:=λx c ag=>c=(Vp,())/\∃ b pd g,ag=mk κ b pd g/\b.Perm a/\Cov rk b pd.toList 0 a.size/\pd.size+x<=a.size) (Q:=λc ag=>c=(Vp,())/\∃ b pd g,ag=mk κ b pd g/\b.Perm a/\Cov rk b pd.toList 0 a.size/\pd.size<=1) ?lstep ?lfin ⟨rfl,b,pd,g,rfl,pb,cv,aA⟩) ?lpost)
  case lfin =>
   rintro c ag ⟨rfl,b,pd,g,rfl,pb,cv,hx⟩;exact⟨rfl,b,pd,g,rfl,pb,cv,by lia⟩
  case lpost =>
   rintro c ag ⟨rfl,b,pd,g,rfl,pb,cv,hx⟩;refine Ij (h b pd g pb ?_)
   have bG:pd.toList.length<=1:=by simpa using hx
   match dH:pd.toList,bG,cv with
   | [],_,cv=>have:0=a.size:=cv;lia
   | [(s0,n0,p0)],_,cv =>
    obtain⟨e1,_,u,e2⟩:=cv;have e2:0+n0=a.size:=e2;rw[<- e2];exact u
   | _::_::_,bG,_=>simp at bG
  case lstep =>
   rintro x c ag _ hx ⟨rfl,b,pd,g,rfl,pb,cv,kj⟩;refine Il (Im ?_)
   rw[iy]
   by_cases hs:pd.size<=1
   ·rw[if_pos hs]
    exact Ij ⟨rfl,b,pd,g,rfl,pb,cv,hs⟩
   rw[if_neg hs];refine Il (Y5a L (λx hx=>hS x (pb.mem_iff.mp hx)) (by rw[pb.size_eq];exact Um _) cv ?_ λc fO g' ch qh hsz=>?_)
   ·have yz:∀ (c:Bool) (i:Nat),(if c=true then i - 1 else i)<=i:=λc i=>by cases c <;> simp
    exact Nat.lt_of_le_of_lt (Nat.add_le_add_right (yz _ _) 1) #[0]
   ·exact Ij ⟨rfl,c,fO,g',rfl,ch.perm.trans pb,qh,by lia⟩
 case step =>
  rintro x c ag _ hx ⟨lo,b,pd,g,rfl,rfl,pb,h1,h3,cv⟩;dsimp only
  by_cases hge:lo >= a.size
  ·rw[if_pos hge]
   have:lo=a.size:=by lia
   subst this;exact Ij ⟨b,pd,g,rfl,rfl,pb,cv⟩
  rw[if_neg hge];have bsz:=pb.size_eq
  suffices T:∀ (n:Nat) (b:Array Ig),1<=n->lo+n<=a.size->b.Perm a->Cov rk b pd.toList 0 lo->Up rk b lo (lo+n)->wpS (VW prog w) A E s _ _ (mk κ b pd g) by
   refine Il (Z9b L (λx hx=>hS x (pb.mem_iff.mp hx)) #[0] #[0] λeQ b1 f1 f2 uW up1=>?_)
   dsimp only;have oh:b1.Perm a:=uW.perm.trans pb;have uX:Cov rk b1 pd.toList 0 lo:=cv.ext λj _ h=>uW.out j #[0]
   by_cases hm:¬ eQ < mr
   ·rw[if_neg hm]
    exact T eQ b1 f1 #[0] oh uX up1
   ·have hm:eQ < mr:=by lia
    rw[if_pos hm];refine Il (IG (II ⟨rfl,?_⟩))
    have bsz1:=oh.size_eq;refine Il (XUa L (λx hx=>hS x (oh.mem_iff.mp hx)) #[0] f1 #[0] up1 λb2 uY oj=>?_)
    rw[if_neg #[2]]
    exact T _ b2 #[0] #[0] (uY.perm.trans oh) (uX.ext λj _ h=>uY.out j #[0]) oj
  clear cv pb bsz;intro n b ji dQ pb cv up;have bsz:=pb.size_eq;refine Il (Im ?_)
  rw[iy];cases hb:pd.back? with
  | none =>
   dsimp only;refine Il (IK (Ij ⟨lo+n,b,pd.push (lo,n,0),g,rfl,rfl,pb,dQ,by lia,?_⟩))
   rw[IF];exact Cov.app.mpr ⟨lo,cv,rfl,ji,up,rfl⟩
  | some q =>
   obtain⟨s1,n1,p1⟩:=q;dsimp only;generalize power' a.size (2 * s1+n1) (2 * s1+n1+n1+n) a.size=pw;refine Il (Ip (Iq (I:=λy c ag=>c=(Vp,())/\∃ b pd g,ag=mk κ b pd g/\b.Perm a/\Cov rk b pd.toList 0 lo/\Up rk b lo (lo+n)) (Q:=λc ag=>c=(Vp,())/\∃ b pd g,ag=mk κ b pd g/\b.Perm a/\Cov rk b pd.toList 0 lo/\Up rk b lo (lo+n)) ?mstep (λ_ _ z=>z) ⟨rfl,b,pd,g,rfl,pb,cv,up⟩) ?mpost)
   case mstep =>
    rintro y c ag _ _ ⟨rfl,b,pd,g,rfl,pb,cv,up⟩;refine Il (Im ?_)
    rw[iy];have bsz:=pb.size_eq
    by_cases hs:pd.size > 1
    ·rw[if_pos hs]
     cases hq:pd[pd.size - 2]? with
     | none=>exact Ij ⟨rfl,b,pd,g,rfl,pb,cv,up⟩
     | some q =>
      obtain⟨s2,n2,p2⟩:=q;dsimp only
      by_cases ho:p2<=pw
      ·rw[if_pos ho]
       exact Ij ⟨rfl,b,pd,g,rfl,pb,cv,up⟩
      ·rw[if_neg ho]
       refine Il (Y5a L (λx hx=>hS x (pb.mem_iff.mp hx)) #[0] cv #[0] λc fO g' ch qh hsz=>?_)
       rw[if_neg #[2]]
       exact Ij ⟨rfl,c,fO,g',rfl,ch.perm.trans pb,qh,up.ext λi h1 h2=>ch.out i #[0]⟩
    ·rw[if_neg hs]
     exact Ij ⟨rfl,b,pd,g,rfl,pb,cv,up⟩
   case mpost =>
    rintro c ag ⟨rfl,b,pd,g,rfl,pb,cv,up⟩;dsimp only;refine Il (IK (Il (IK (Ij ⟨lo+n,b,_,g,rfl,rfl,pb,dQ,by lia,?_⟩))))
    show Cov rk b ((pd.modify (pd.size - 1) λx=>(x.1,x.2.1,pw)).push (lo,n,0)).toList 0 (lo+n)
    rw[IF];refine Cov.app.mpr ⟨lo,Cov.pow ?_ cv,rfl,ji,up,rfl⟩
    rw[Array.toList_modify]
    apply IQ
    intro i;rw[Oe,Oe,getElem?_modify]
    cases pd.toList[i]? with
    | none=>rfl
    | some v=>simp only[OD];split <;> rfl
end
end SortB
end
section
namespace SortB
open PySem PySem.W PyProof.Rows
theorem Qic{α β:Type}{f:α->β}{l' m:List β}(p:l'.Perm m):∀ l:List α,m=l.map f->∃ q:List α,q.Perm l/\l'=q.map f:=by
 induction p with
 | nil=>intro l e;exact⟨[],by rw[map_eq_nil_iff.mp e.symm],rfl⟩
 | cons x p ih =>
  intro l e;cases l with
  | nil=>simp at e
  | cons a l =>
   simp only[UH,IT]at e;obtain⟨q,hq,rfl⟩:=ih l e.2;exact⟨a::q,hq.cons a,by rw[UH,e.1]⟩
 | swap x y l0 =>
  intro l e
  match l,e with
  | a::b::l,e =>
   simp only[UH,IT]at e;exact⟨b::a::l,List.Perm.swap a b l,by rw[UH,UH,e.1,e.2.1,e.2.2]⟩
 | trans p1 p2 ih1 ih2 =>
  intro l e;obtain⟨q2,h2,e2⟩:=ih2 l e;obtain⟨q1,h1,e1⟩:=ih1 q2 e2;exact⟨q1,h1.trans h2,e1⟩
open Classical in
noncomputable def Yuc (it:Nat->Ig) (n:Nat) (r:Nat->Nat) (x:Ig):Nat:=if h:∃ i,i < n/\it i=x then r h.choose else 0
theorem Q1b{it:Nat->Ig}{n:Nat}{r:Nat->Nat}(hw:∀ i j,i < n->j < n->it i=it j->r i=r j){i:Nat}(hi:i < n):Yuc it n r (it i)=r i:=by
 unfold Yuc;have h:∃ j,j < n/\it j=it i:=⟨i,hi,rfl⟩;rw[dif_pos h];exact hw _ _ h.choose_spec.1 hi h.choose_spec.2
section
variable{prog:Vg}{w:Vb}{A:VG}{E:YQ_}{s:VH}{κ:Ii}{ks vs:List Va}{r:Nat->Nat}
theorem Xqb(hl:ks.length=vs.length)(h2:2<=vs.length)(hc:∀ i j (C:Bool->VH->Prop),i < vs.length->j < vs.length->C (decide (r i < r j)) s->kas_ask prog w A κ ks i j C s)
 (hw:∀ i j,i < vs.length->j < vs.length->ks.getD i Vi=ks.getD j Vi->r i=r j) :
 VV (VW prog w) A (sortRuns'.run (IA κ (ks.toArray.zip vs.toArray) #[] 7 Vp)) (λx s'=>∃ p:Array Nat,Ik x.2=p.map (IV (ks.toArray.zip vs.toArray))/\ID x.2=Vp/\s'=s/\SortT.Ok vs.length p/\SortT.Up r p vs.length) E s:=by
 have it:∀ i,IV (ks.toArray.zip vs.toArray) i=(ks.getD i Vi,vs.getD i Vi):=kat_item hl;have sz:(ks.toArray.zip vs.toArray).size=vs.length:=by simp[hl]
 have rng:=kas_range (ks.toArray.zip vs.toArray);rw[sz]at rng;have al:(ks.toArray.zip vs.toArray).toList=(VC vs.length).map (IV (ks.toArray.zip vs.toArray)):=by
  have:=congrArg Array.toList rng;rw[IW]at this;exact this.symm
 have qi:∀ i j,i < vs.length->j < vs.length->IV (ks.toArray.zip vs.toArray) i=IV (ks.toArray.zip vs.toArray) j->r i=r j:=λi j hi hj e=>by
  rw[it,it]at e;exact hw i j hi hj (Prod.mk.inj e).1
 have L:Jia prog w A E s κ (Yuc (IV (ks.toArray.zip vs.toArray)) vs.length r) (λx=>∃ i,i < vs.length/\IV (ks.toArray.zip vs.toArray) i=x):=by
  rintro x y st Q hk ⟨i,hi,rfl⟩ ⟨j,hj,rfl⟩ hq;rw[Q1b qi hi,Q1b qi hj]at hq;rw[lt'_eq];refine Il (Im ?_)
  rw[hk,it,it];have:=hc i j (λb s'=>s'=s/\b=decide (r i < r j)) hi hj ⟨rfl,rfl⟩
  unfold kas_ask at this;refine Il (IG (IX (V1 this (λb s' hb=>?_) λ_ _ z=>z.elim)))
  obtain⟨e1,e2⟩:=hb;subst e1 e2;exact⟨rfl,Ij hq⟩
 have run:=Jab L (a:=ks.toArray.zip vs.toArray) (g:=7) (Q:=λ_ ag=>∃ p:Array Nat,Ik ag=p.map (IV (ks.toArray.zip vs.toArray))/\ID ag=Vp/\SortT.Ok vs.length p/\SortT.Up r p vs.length) (λx hx=>?_) #[0] λb pd g pb up=>?_
 ·unfold wpS at run
  refine V1 run (λx s' hx=>?_) λ_ _ z=>z
  obtain⟨e,p,a1,a2,a3,a4⟩:=hx;exact⟨p,a1,a2,e,a3,a4⟩
 ·have:=Array.mem_toList_iff.mpr hx
  rw[al]at this;obtain⟨i,hi,e⟩:=mem_map.mp this;exact⟨i,mem_range.mp hi,e⟩
 ·have pl:=Array.perm_iff_toList_perm.mp pb
  obtain⟨q,hq,eq⟩:=Qic pl _ al;have ql:q.length=vs.length:=by rw[hq.length_eq,length_range]
  have hb:b=q.toArray.map (IV (ks.toArray.zip vs.toArray)):=by
   apply Array.toList_inj.mp
   rw[IW,eq]
  refine⟨q.toArray,hb,rfl,⟨by rw[Ux,ql],Array.perm_iff_toList_perm.mpr (by simpa using hq)⟩,λi j di hj=>?_⟩
  have hu:=up i j (Us _) di #[0]
  have kk:∀ i,i < vs.length->K (Yuc (IV (ks.toArray.zip vs.toArray)) vs.length r) b i=SortT.K r q.toArray i:=λi hi=>by
   have bg:i < q.length:=by lia
   have uU:i < b.size:=by rw[hb];simp;lia
   rw[Zj uU];have e1:b[i]=IV (ks.toArray.zip vs.toArray) q[i]:=by simp[hb]
   have e2:q[i] < vs.length:=mem_range.mp (hq.mem_iff.mp (IY bg));rw[e1,Q1b qi e2];unfold SortT.K;simp[Array.getD,bg]
  rw[kk i #[0],kk j hj]at hu
  exact hu
end
end SortB
end
section
namespace L2
open PySem PySem.Spec PyProof.Rows PySem.W
theorem ZBc{prog:Vg}{w:Vb}{A:VG}{s:VH}{Q:Bool->VH->Prop}{b:Bool}{r:Bool}(q:Q r s):∀ (xs ys:List V) (us ws:List Va) (i:Nat) (fin:Bool),QG xs us->QG ys ws->HT.Ye xs ys=Vo r ->
 fin=decide (xs.length < ys.length)->(b=true->i=0->∀ x∈xs.head?,∃ n,x=V.int n)->KatLex prog w A b fin Q (us.zip ws) i s:=by
 intro xs
 induction xs with
 | nil =>
  intro ys us ws i fin rx ry hl hf hb;cases rx;cases ry with
  | nil=>rw[HT.Jha]at hl;cases hl;rw[hf];exact kat_nil q
  | cons c d=>rw[HT.ZBa]at hl;cases hl;rw[hf];exact kat_nil (by simpa using q)
 | cons x xs ih =>
  intro ys us ws i fin rx ry hl hf hb;cases rx with
  | cons r1 rt =>
   rename_i u us;cases ry with
   | nil=>rw[HT.ZCa]at hl;cases hl;rw[hf];exact kat_nil (by simpa using q)
   | cons r2 iz =>
    rename_i y w2 ys ws;rw[zip_cons_cons];have uZ:fin=decide (xs.length < ys.length):=by rw[hf];simp
    cases x with
    | int m =>
     cases y with
     | int n =>
      obtain⟨t,rfl⟩:=r1;obtain⟨t2,rfl⟩:=r2;simp only[HT.Ye]at hl;refine kat_cons (wpAny_eqBool_int ?_)
      by_cases e:m=n
      ·rw[if_pos e]at hl
       rw[show(m == n)=true by simpa using e]
       exact kat_yes (ih ys _ _ (i+1) fin rt iz hl uZ λ_ z=>absurd z #[0])
      ·rw[if_neg e]at hl
       cases hl;rw[show(m == n)=false by simpa using e]
       refine kat_no ?_
       cases eb:(b && i == 0) with
       | true=>exact oneLt_int q
       | false=>exact kat_one _ _ (lt_int (show W.BoolBack Q (.bool _) s from q))
     | _=>simp[HT.Ye]at hl
    | str m =>
     cases y with
     | str n =>
      obtain⟨t,rfl⟩:=r1;obtain⟨t2,rfl⟩:=r2;simp only[HT.Ye]at hl;refine kat_cons (PyProof.Rows.eqBool_str ?_)
      by_cases e:m=n
      ·rw[if_pos e]at hl
       rw[show(m == n)=true by simpa using e]
       exact kat_yes (ih ys _ _ (i+1) fin rt iz hl uZ λ_ z=>absurd z #[0])
      ·rw[if_neg e]at hl
       cases hl;rw[show(m == n)=false by simpa using e]
       refine kat_no ?_
       cases eb:(b && i == 0) with
       | true =>
        rw[OZ]at eb;obtain⟨n',z⟩:=hb eb.1 (by simpa using eb.2) _ rfl
        cases z
       | false=>exact kat_one _ _ (DC (show W.BoolBack Q (.bool _) s from q))
     | _=>simp[HT.Ye]at hl
    | _=>cases y <;> simp[HT.Ye]at hl
theorem Inv.adopt{X:Cx}{aa:YP_}{σ:St}{H:Hp}{s:VH}{h':Vq}{D:Vh}{o:HO}{t':Nat}(I:Inv X aa σ H s)(f:Y7 X aa H D)(k:∀ b u,b≠D->s.heap.get? b=Vo u->h'.get? b=Vo u)
 (new:QR X.prog X.w (upd H D o) h' D o):Inv X aa σ (upd H D o) { s with heap:=h',toks:=t' }:=by
 obtain⟨f0,f1,f2,f3,f4,f5⟩:=f;have fC:∀ b u,H b=Vo u->b≠D:=λb u e z=>by rw[z,f0]at e;cases e
 refine I.step (g':=s.gens) (d':=s.drawn) (ch:=[D]) (λb hb=>?_) (λb o _ _ hc e _=>k b o (λz=>hc (by simp[z])) e) (λb o _ _ hc e _=>⟨o.slots,k b o (λz=>hc (by simp[z])) e⟩) (λb _ hc _ n=>by rw[Qk (λz=>hc (by simp[z]))];exact n)
  (λb o hc e=>⟨o,k b o (λz=>hc (by simp[z])) e⟩) (λb _ e=>by rw[Qk (fC _ _ e)];exact e) (λb _ _ e=>by rw[Qk (fC _ _ e)];exact e) (λb ps e=>⟨#[],by rw[Qk (fC _ _ e),e];simp⟩) (λm hm=>?_) (λb u e=>?_) I.bare
 ·have e:b=D:=by simpa using hb
  subst e;exact⟨f3,f1,f4,f5⟩
 ·obtain⟨o,es,ep,ho,r⟩:=hm
  exact⟨o,es,ep,k _ o (VR f1) ho,r⟩
 ·by_cases hb:b=D
  ·subst hb;rw[Qa]at e;cases e;exact new
  ·rw[Qk hb]at e
   refine(I.hok b u e).stay (λc v hc q=>k c v ?_ q) (λc q=>by rw[Qk (fC _ _ q)];exact q) λc xs q=>by rw[Qk (fC _ _ q)];exact q
   rcases hc with z | z
   ·rw[z];exact hb
   ·exact fC c _ z
theorem QG.getD:∀ {xs:List V} {us:List Va},QG xs us->∀ i,QB (xs.getD i .non) (us.getD i Vi):=λ{xs us} r i=>by
 cases e:xs[i]? with
 | none =>
  have e2:=r.none_of e;rw[IZ,IZ,e,e2]
  rfl
 | some x =>
  obtain⟨u,e2,ru⟩:=r.get e;rw[IZ,IZ,e,e2]
  exact ru
theorem QG.pick{xs:List V}{us:List Va}(r:QG xs us):∀ l:List Nat,QG (l.map λi=>xs.getD i .non) (l.map λi=>us.getD i Vi)
 | []=>.nil
 | i::l=>.cons (r.getD i) (r.pick l)
theorem Qxb{α:Type}{p q:α->Bool}:∀ {l:List α} {a:α},(∀ x∈l,p x=true->q x=true)->a∈l->q a=true->p a=false->l.countP p < l.countP q
 | x::l,a,h,hm,hq,hp=>by
  have mono:l.countP p<=l.countP q:=countP_mono_left λy hy=>h y (VO _ hy)
  rw[countP_cons,countP_cons]
  rcases mem_cons.mp hm with e | e
  ·subst e
   rw[hq,hp];simp only[OU,if_false,if_true]
   lia
  ·have ih:=Qxb (λy hy=>h y (VO _ hy)) e hq hp
   have hx:=h x VN;cases hpx:p x with
   | false=>simp only[OU,if_false];split <;> lia
   | true=>rw[hx hpx];simp only[if_true];lia
structure Swo{α:Type}(xs:List α)(lt:α->α->Bool):Prop where
 irr:∀ a∈xs,lt a a=false
 tr:∀ a∈xs,∀ b∈xs,∀ c∈xs,lt a b=true->lt b c=true->lt a c=true
 neg:∀ a∈xs,∀ b∈xs,∀ c∈xs,lt a c=true->lt a b=true\/lt b c=true
theorem Swo.rank{α:Type}{xs:List α}{lt:α->α->Bool}(w:Swo xs lt){a b:α}(ha:a∈xs)(hb:b∈xs):decide (xs.countP (lt · a) < xs.countP (lt · b))=lt a b:=by
 cases e:lt a b with
 | true=>exact decide_eq_true (Qxb (λx hx h=>w.tr x hx a ha b hb h e) ha e (w.irr a ha))
 | false =>
  refine decide_eq_false λh=>?_
  have:xs.countP (lt · b)<=xs.countP (lt · a):=countP_mono_left λx hx h=>(w.neg x hx a ha b hb h).elim id λz=>by rw[e]at z;cases z
  lia
theorem Jla{α:Type}{xs:List α}{i:Nat}{d:α}(h:i < xs.length):xs.getD i d∈xs:=by
 rw[IZ,I0 h]
 exact IY h
theorem Y6a{α:Type}{xs:List α}{d:α}{p:Array Nat}(h:SortT.Ok xs.length p):(p.toList.map λi=>xs.getD i d).Perm xs:=by
 have h1:p.toList.Perm (VC xs.length):=by
  have:=Array.perm_iff_toList_perm.mp h.perm
  simpa using this
 have h2:=h1.map (λi=>xs.getD i d)
 have h3:(VC xs.length).map (λi=>xs.getD i d)=xs:=by
  apply La
  ·simp
  ·intro i h1 h2
   simp[h2]
 rw[h3]at h2;exact h2
theorem Jbb{xs:List V}{lt:V->V->Bool}(w:Swo xs lt){p:Array Nat}(h:SortT.Ok xs.length p)(hn:0 < xs.length)(u:SortT.Up (λi=>xs.countP (lt · (xs.getD i .non))) p xs.length) :
 (p.toList.map λi=>xs.getD i V.non).Pairwise λa b=>lt b a=false:=by
 rw[pairwise_iff_getElem];intro i j hi hj di;have bg:i < p.size:=by simpa using hi
 have jf:j < p.size:=by simpa using hj
 have yA:j < xs.length:=by rw[<- h.size];exact jf
 have:=u i j #[0] yA
 unfold SortT.K at this;have gi:p.getD i 0=p[i]:=by simp[Array.getD,bg]
 have gj:p.getD j 0=p[j]:=by simp[Array.getD,jf]
 have li:=h.lt hn i;have lj:=h.lt hn j;rw[gi]at this li;rw[gj]at this lj;have e1:(p.toList.map λi=>xs.getD i V.non)[i]=xs.getD p[i] .non:=by simp
 have e2:(p.toList.map λi=>xs.getD i V.non)[j]=xs.getD p[j] .non:=by simp
 rw[e1,e2,<- w.rank (Jla lj) (Jla li)];dsimp only at this;exact decide_eq_false #[0]
section
variable{X:Cx}{aa:YP_}{σ:St}{H:Hp}{s:VH}{k:Nat}{f:Vh}{fd:UU}{p0:Str}{sp:Sp}{A:VG}{E:YQ_}
structure Ysb(K:VD)(sp:Sp)(H:Hp)(xs:List V)(rk:V->List V)(lt:V->V->Bool):Prop where
 hd:∀ v∈xs,∃ n r,rk v=.int n::r
 key:∀ v∈xs,∀ H2,Qn H H2->∀ R:VK,(∀ p H3,Qn H2 H3->SqT K H3 p (rk v)->R (.ref p) H3)->sp [v] H2 R E0
 lex:∀ v∈xs,∀ u∈xs,HT.Ye (rk v) (rk u)=Vo (lt v u)
 swo:Swo xs lt
def Q2b(K:VD)(H:Hp)(rk:V->List V)(xs:List V)(ks:List Va):Prop :=
 ∃ ps:List Vh,ks=ps.map Vk/\∀ (j:Nat) p v,ps[j]?=Vo p->xs[j]?=Vo v->SqT K H p (rk v)
theorem ZCc(F:QE X.prog X.w X.K X.mg X.base CX0 k f fd [p0] sp)(hb:Z4 X.K fd [p0] [])(hr:Zi k A)(dY:A.frames=Vo X.stack)(I:Inv X aa σ H s){v:V}{u:Va}(r:QB v u){R:VK}(h:sp [v] H R E0) :
 VV (VW X.prog X.w) A (Ut (.ref f) [u]) (EP X aa σ R) (λ_ _=>False) s:=by
 have e0:=I.env0;refine UW (UX (F.run A X.stack s H ⟨[u],[]⟩ [u] [v] R E0 hr ⟨dY,e0.mod,e0.bs,e0.bsz,e0.funs,e0.frf,e0.hok,e0.bare⟩ (hb s [u] I.kIn rfl) (.cons r .nil) h) λr s' hq=>?_)
 cases r with
 | error e=>exact hq
 | ok fl =>
  cases fl with
  | ret u=>exact I.after hq
  | next=>exact V8 hq
  | brk=>exact V8 hq
  | cont=>exact V8 hq
theorem Qyb{D kS:Vh}{e e1:Nat}{ks:List Va}{out:List Va}{ys:List V}{st:Ih}{P:PySem.Fin->VH->Prop}(I:Inv X (aa++[(D,Lb "list" #[] e1)]) σ H s)(fD:Y7 X aa H D)(fK:Y7 X (aa++[(D,Lb "list" #[] e1)]) H kS)
 (hk:s.heap.get? kS=Vo (Lb "list" ks.toArray e)) (hkl:ks.length < 1000) (cP:(Ik st).map (·.2)=Lc out) (hf:ID st=Vp) (rv:QG ys out) (hl:ys.length < 1000)
 (h:∀ s',Inv X aa σ (upd H D (.lst ys)) s'->P (.done (.ret .none)) s'):VV (VW X.prog X.w) A (ksk_tail D false e1 (.ref kS) st) P E s:=by
 have hD:=(I.pin (D,Lb "list" #[] e1) (Ur _ (Ur _ #[2]))).1
 have hDk:D≠kS:=fK.2.2.2.2.2 (D,Lb "list" #[] e1) (Ur _ (Ur _ #[2]))
 have s1:=Ld s.heap kS (Ot λ_=>(#[]:Array Va))
 have I1:Inv X (aa++[(D,Lb "list" #[] e1)]) σ H { s with heap:=s.heap.update kS (Ot λ_=>(#[]:Array Va)) } :=
  I.turned (t':=s.toks) (λb o hb q=>(s1.2 b hb).trans q) fK.1 fK.2.1 fK.2.2.2.1 fK.2.2.2.2.1 fK.2.2.2.2.2
 have qj:=(I1.pin (D,Lb "list" #[] e1) (Ur _ (Ur _ #[2]))).1
 have s2:=Ld (s.heap.update kS (Ot λ_=>(#[]:Array Va))) D (Ot λ_=>Lc out)
 obtain⟨c2,dF⟩:∃ c2,((s.heap.update kS (Ot λ_=>(#[]:Array Va))).update D (Ot λ_=>Lc out)).get? D=Vo (Lb "list" (Lc out) c2):=⟨_,Le qj λ_=>Lc out⟩
 have ho:out.length < 1000:=by rw[<- rv.length];exact hl
 unfold ksk_tail
 try dsimp only
 rw[cP];simp only[OU,if_false];refine Uh (Lf hk rfl ?_ (by rw[Ux];exact VL (QD #[0])) (Us _))
 refine Uh (wpAny_letGo ?_)
 refine Uh (Lg qj rfl ?_)
 refine Uh (Lf qj rfl ?_ (Us _) (by rw[Ux];exact Nat.le_succ_of_le (VL (QD #[0]))))
 rw[hf];simp only[bne_self_eq_false,OU,if_false];refine Ug (h _ ?_)
 exact(I1.unpinned).adopt (t':=s.toks) fD (λb u hb q=>(s2.2 b hb).trans q) ⟨VL (QD #[0]),out,c2,rv,dF⟩
theorem Qjc{rk:V->List V}{xs:List V}:∀ {ks:List Va},(I:Inv X aa σ H s)->(∀ v∈xs,∃ n r,rk v=.int n::r)->ks.length=xs.length->Q2b X.K H rk xs ks ->
 ∃ fs,KatTups s.heap ks fs/\fs.length=ks.length/\∀ g∈fs,∃ n t,g=Vd n t:=by
 induction xs with
 | nil =>
  intro ks I hd hl hk
  match ks,hl with
  | [],_=>exact⟨[],KatTups.nil,rfl,λ_ h=>nomatch h⟩
 | cons x xs ih =>
  intro ks I hd hl hk;obtain⟨ps,rfl,hp⟩:=hk
  match ps,hl,hp with
  | p::ps,hl,hp =>
   rw[UH,UB,UB]at hl;obtain⟨fs,h1,h2,h3⟩:=ih (ks:=ps.map Vk) I (λv hv=>hd v (VO _ hv)) #[0] ⟨ps,rfl,λj p' v e1 e2=>hp (j+1) p' v (by simpa using e1) (by simpa using e2)⟩
   have ht:=hp 0 p x rfl rfl;obtain⟨ah,r,⟨ob,e,c,n,d⟩,_⟩:=I.tuple ht;obtain⟨m,rs,em⟩:=hd x VN;rw[em]at r;cases r with
   | cons ra rt =>
    obtain⟨t,rfl⟩:=ra;exact⟨Vd m t::fs,KatTups.cons e c d #[2] h1,by simp[h2],λg hg=>(mem_cons.mp hg).elim (λz=>⟨m,t,z⟩) (h3 g)⟩
theorem ZDc{rk:V->List V}{lt:V->V->Bool}{xs:List V}{ks:List Va}(I:Inv X aa σ H s)(hK:Ysb X.K sp H xs rk lt)(hl:ks.length=xs.length)(hk:Q2b X.K H rk xs ks){i j:Nat}(hi:i < xs.length)(hj:j < xs.length)
 {C:Bool->VH->Prop} (h:C (lt (xs.getD i .non) (xs.getD j .non)) s):kas_ask X.prog X.w A (tuples' true) ks i j C s:=by
 obtain⟨ps,rfl,hp⟩:=hk;rw[UJ]at hl;have gi:(ps.map Vk).getD i Vi=Vk (ps[i]'#[0]):=by simp[show i < ps.length by lia]
 have gj:(ps.map Vk).getD j Vi=Vk (ps[j]'#[0]):=by simp[show j < ps.length by lia]
 have xi:xs.getD i V.non=xs[i]:=by simp[hi]
 have xj:xs.getD j V.non=xs[j]:=by simp[hj]
 unfold kas_ask;rw[gi,gj];rw[xi,xj]at h;obtain⟨ah,r,⟨ob,e,c,n,d⟩,_⟩:=I.tuple (hp i _ xs[i] (I0 #[0]) (I0 hi))
 obtain⟨aQ,r2,⟨u4,e2,c2,n2,d2⟩,_⟩:=I.tuple (hp j _ xs[j] (I0 #[0]) (I0 hj))
 refine kat_lt e d e2 d2 (ZBc (b:=true) h _ _ _ _ 0 _ (by simpa using r) (by simpa using r2) (hK.lex _ (IY hi) _ (IY hj)) ?_ λ_ _ x hx=>?_)
 ·rw[Ux,Ux,r.length,r2.length]
 ·obtain⟨m,rs,em⟩:=hK.hd xs[i] (IY hi)
  rw[em]at hx;exact⟨m,(Vr hx).symm⟩
theorem Jcb{α:Type}{R:α->α->Prop}:∀ {xs:List α},xs.length < 2->xs.Pairwise R
 | [],_=>Ic
 | [a],_=>Lh _ _
theorem ZEc{D kS:Vh}{e e1:Nat}{ks:List Va}{vs:List Va}{xs:List V}{rk:V->List V}{lt:V->V->Bool}{P:PySem.Fin->VH->Prop}(I:Inv X (aa++[(D,Lb "list" #[] e1)]) σ H s)(fD:Y7 X aa H D)(fK:Y7 X (aa++[(D,Lb "list" #[] e1)]) H kS)
 (hk:s.heap.get? kS=Vo (Lb "list" ks.toArray e)) (fP:xs.length < 1000) (hl:ks.length=xs.length) (hK:Ysb X.K sp H xs rk lt) (iA:Q2b X.K H rk xs ks) (rv:QG xs vs)
 (h:∀ ys s',Inv X aa σ (upd H D (.lst ys)) s'->ys.Perm xs->ys.Pairwise (λa b=>lt b a=false)->P (.done (.ret .none)) s'):VV (VW X.prog X.w) A (ksk_end D false vs.toArray e1 (.ref kS) ks.toArray) P E s:=by
 have dI:=rv.length;unfold ksk_end;simp only[OU,if_false]
 by_cases h2:vs.toArray.size < 2
 ·rw[if_pos h2,if_pos h2]
  refine Uh (Ug ?_)
  rw[StateT.run_pure];refine Uh (Ug ?_)
  try dsimp only
  refine Qyb (st:=IA general' (ks.toArray.zip vs.toArray) #[] 7 Vp) I fD fK hk #[0] (out:=vs) ?_ rfl rv #[0] λs' I'=>h xs s' I' (Li _) ?_
  ·apply Array.toList_inj.mp
   show(Array.map (·.2) (ks.toArray.zip vs.toArray)).toList=_;rw[IW,ksk_zip];show List.map (·.2) (ks.zip vs)=vs;exact map_snd_zip #[0]
  ·rw[Ux]at h2
   exact Jcb #[0]
 ·rw[if_neg h2,if_neg h2]
  rw[Ux]at h2;obtain⟨fs,t1,t2,t3⟩:=Qjc I hK.hd hl iA;refine Uh (kat_kind (T:=.type "int") t1 #[0] (λv hv=>?_) #[1] ?_)
  ·obtain⟨n,t,rfl⟩:=t3 v hv
   exact Looks.of_pure rfl
  have et:(Vl "int" != Vl "tuple")=true:=by decide
  rw[et];have hn:0 < xs.length:=by lia
  have run:=SortB.Xqb (prog:=X.prog) (w:=X.w) (A:=A) (E:=E) (κ:=tuples' true) (ks:=ks) (vs:=vs) (s:=s) (r:=λi=>xs.countP (lt · (xs.getD i .non))) #[0] #[0]
   (λi j C hi hj hC=>by
    rw[<- dI]at hi hj;rw[hK.swo.rank (Jla hi) (Jla hj)]at hC;exact ZDc I hK hl iA hi hj hC)
   (λi j hi hj e=>by
    rw[<- dI]at hi hj;obtain⟨ps,rfl,hp⟩:=iA;rw[UJ]at hl;have gi:(ps.map Vk).getD i Vi=Vk (ps[i]'#[0]):=by simp[show i < ps.length by lia]
    have gj:(ps.map Vk).getD j Vi=Vk (ps[j]'#[0]):=by simp[show j < ps.length by lia]
    rw[gi,gj]at e;have ti:=hp i _ xs[i] (I0 #[0]) (I0 hi)
    have tj:=hp j _ xs[j] (I0 #[0]) (I0 hj)
    rw[Value.ref.inj e]at ti;have same:=I.tuple_inj ti tj;have xi:xs.getD i V.non=xs[i]:=by simp[hi]
    have xj:xs.getD j V.non=xs[j]:=by simp[hj]
    have mi:=IY hi;have mj:=IY hj;have l1:lt xs[i] xs[j]=false:=by
     have a1:=hK.lex _ mi _ mj;rw[same,hK.lex _ mj _ mj,hK.swo.irr _ mj]at a1;exact(Vr a1).symm
    have l2:lt xs[j] xs[i]=false:=by
     have a1:=hK.lex _ mj _ mi;rw[same,hK.lex _ mj _ mj,hK.swo.irr _ mj]at a1;exact(Vr a1).symm
    have r1:=hK.swo.rank mi mj;have r2:=hK.swo.rank mj mi;rw[l1]at r1;rw[l2]at r2;have r1:=of_decide_eq_false r1;have r2:=of_decide_eq_false r2;show xs.countP (lt · (xs.getD i .non))=xs.countP (lt · (xs.getD j .non));rw[xi,xj]
    lia)
  rw[<- dI]at run;refine Uh (V1 run ?_ λ_ _ x=>x)
  rintro⟨⟨⟩,ag⟩ s' ⟨p,qk,hf,es,ok,up⟩;subst es;have cP:=kat_snds #[0] qk
  exact Qyb I fD fK hk #[0] cP hf (rv.pick p.toList) (by rw[UJ,V7,ok.size];lia) λs' I'=>h _ s' I' (Y6a ok) (Jbb hK.swo ok hn up)
theorem Qkc{D kS:Vh}{e1:Nat}{vs:List Va}{xs:List V}{rk:V->List V}{lt:V->V->Bool}{P:PySem.Fin->VH->Prop}(F:QE X.prog X.w X.K X.mg X.base CX0 k f fd [p0] sp)(hb:Z4 X.K fd [p0] [])(hr:Zi k A)(dY:A.frames=Vo X.stack)
 (I:Inv X (aa++[(D,Lb "list" #[] e1)]) σ H s) (fD:Y7 X aa H D) (fK:Y7 X (aa++[(D,Lb "list" #[] e1)]) H kS)
 (hk:s.heap.get? kS=Vo (Lb "list" #[] 0)) (fP:xs.length < 1000) (hK:Ysb X.K sp H xs rk lt) (rv:QG xs vs)
 (h:∀ H' ys s',Qn H H'->Inv X aa σ (upd H' D (.lst ys)) s'->H' D=Vp->ys.Perm xs->ys.Pairwise (λa b=>lt b a=false)->P (.done (.ret .none)) s'):VV (VW X.prog X.w) A (ksk_rest D (.ref f) false vs.toArray e1 (.ref kS)) P E s:=by
 have dI:=rv.length;unfold ksk_rest;refine Uh (II ?_)
 first
  | rw[forIn_toArray]
  | (rw[<- Lj];simp only[toList_toArray])
  | rw[<- Lj]
 refine Uh (ksk_fold (λi s'=>∃ (H':Hp) (ks:List Va) (e:Nat),Inv X (aa++[(D,Lb "list" #[] e1)]) σ H' s'/\Qn H H'/\H' kS=Vp/\s'.heap.get? kS=Vo (Lb "list" ks.toArray e)/\ks.length=i/\Q2b X.K H' rk xs ks)
  vs 0 s ⟨H,[],0,I,Qn.refl _,fK.1,hk,rfl,[],rfl,λj p v e1 _=>by simp at e1⟩ (λj x s' hx hJ=>?_) λs' hJ=>?_)
 ·rw[IN]at hJ
  obtain⟨H',ks,e,I',sm,hn,dZ,hl,ps,rfl,hp⟩:=hJ;rw[UJ]at hl;have hj:j < xs.length:=by rw[dI];exact(List.getElem?_eq_some_iff.mp hx).1
  obtain⟨u,hu,ru⟩:=rv.get (I0 hj)
  rw[hx]at hu;cases hu;have I2:Inv X ((aa++[(D,Lb "list" #[] e1)])++[(kS,Lb "list" (ps.map Vk).toArray e)]) σ H' s':=I'.pins_of λp hp=>(mem_append.mp hp).elim (λz=>I'.pin p (Ur _ z)) λz=>by
   have z:p=(kS,Lb "list" (ps.map Vk).toArray e):=by simpa using z
   subst z;exact⟨dZ,hn,fK.2.1,fK.2.2.1,λv q=>by cases q⟩
  refine Uh (IX (V1 (ZCc F hb hr dY I2 ru (hK.key xs[j] (IY hj) H' sm (λv H3=>∃ p,v=.ref p/\Qn H' H3/\SqT X.K H3 p (rk xs[j])) λp H3 s3 t3=>⟨p,rfl,s3,t3⟩)) (λu dA hu=>?_) λ_ _ hF=>hF.elim))
  obtain⟨v,H3,I3,r3,p,rfl,s3,t3⟩:=hu;cases r3;have jj:=(I3.pin (kS,Lb "list" (ps.map Vk).toArray e) (Ur _ (Ur _ #[2])))
  have s1:=Ld dA.heap kS (Ot (·.push (Vk p)));have ea:(Lc (ps.map Vk)).push (Vk p)=Lc ((ps++[p]).map Vk):=by simp
  obtain⟨c2,dF⟩:∃ c2,(dA.heap.update kS (Ot (·.push (Vk p)))).get? kS=Vo (Lb "list" (Lc ((ps++[p]).map Vk)) c2):=⟨_,by rw[<- ea];exact Le jj.1 (·.push (Vk p))⟩
  try dsimp only
  refine Uh (Lf jj.1 rfl ?_ (by rw[Ux,UJ];exact VL (QD #[0])) (by rw[Array.size_push,Ux,UJ];exact Nat.succ_le_succ (VL (QD #[0]))))
  refine Ug ⟨rfl,H3,_,c2,I3.unpinned.turned (t':=dA.toks) (λb o hb q=>(s1.2 b hb).trans q) jj.2.1 fK.2.1 fK.2.2.2.1 fK.2.2.2.2.1 fK.2.2.2.2.2,sm.trans s3,jj.2.1,dF,by rw[UJ,Oh,hl];simp,ps++[p],rfl,λi q v e1 e2=>?_⟩
  by_cases hi:i < ps.length
  ·rw[Od hi]at e1
   exact s3.seqT (hp i q v e1 e2)
  ·rw[Oc #[0]]at e1
   have hz:i - ps.length=0:=by
    cases q':i - ps.length with
    | zero=>rfl
    | succ m=>rw[q']at e1;simp at e1
   rw[hz]at e1;have:i=j:=by lia
   subst this;rw[I0 hj]at e2
   simp at e1;cases e1;cases e2;exact t3
 ·rw[IN]at hJ
  obtain⟨H',ks,e,I',sm,hn,dZ,hl,iA⟩:=hJ;refine Uh (Lk dZ rfl ?_)
  have km:=(I'.pin (D,Lb "list" #[] e1) (Ur _ (Ur _ #[2]))).2.1
  exact ZEc I' ⟨km,fD.2⟩ ⟨hn,fK.2⟩ dZ fP #[0] ⟨hK.hd,λv hv H2 s2=>hK.key v hv H2 (sm.trans s2),hK.lex,hK.swo⟩ iA rv λys dA pT p1 p2=>h H' ys dA sm pT km p1 p2
end
theorem Zfa:VF "sorted"=Vo (.builtin "sorted"):=by decide +kernel
theorem ZFc(h:Vq)(vs:List Va):((h.push (Lb "list" #[] 0)).update h.objs.size (Ot (·++vs.toArray))).objs.size=h.objs.size+1 /\
 ∀ b o,h.get? b=Vo o->((h.push (Lb "list" #[] 0)).update h.objs.size (Ot (·++vs.toArray))).get? b=Vo o:=by
 constructor
 ·simp only[Heap.size_update,size_push']
 ·intro b o q
  have nb:b≠h.objs.size:=VB (Vy q);exact((Ld (h.push (Lb "list" #[] 0)) h.objs.size _).2 b nb).trans (Uk _ q)
section
variable{X:Cx}{aa:YP_}{σ:St}{H:Hp}{s:VH}{k:Nat}{f:Vh}{fd:UU}{p0:Str}{sp:Sp}
theorem Ytb{l:Vh}{xs:List V}{rk:V->List V}{lt:V->V->Bool}{Q:VK}(F:QE X.prog X.w X.K X.mg X.base CX0 k f fd [p0] sp)(hb:Z4 X.K fd [p0] [])(hr:Zi (k+2) X.A)
 (I:Inv X aa σ H s) (hl:SqL X.K H l xs) (fP:xs.length < 1000) (hK:Ysb X.K sp H xs rk lt)
 (h:∀ D H' ys,Qn H H'->H D=Vp->H' D=Vo (.lst ys)->ys.Perm xs->ys.Pairwise (λa b=>lt b a=false)->Q (.ref D) H') :
 VV (VW X.prog X.w) X.A (Ut (.builtin "sorted") [.ref l] [(Ll "key",.ref f)]) (EP X aa σ Q) X.xe s:=by
 obtain⟨vs,rv,pl,hz⟩:=I.list hl;have dI:=rv.length;have fQ:vs.length<=Vs:=by rw[<- dI];exact hz
 refine call_function_entry_kw kind_sorted plain_sorted entry_sorted (ksk_s1 _ _) ?_
 unfold OW.«sorted»;refine Uh (m:=checkCount "sorted" 1 1 _) (Ug ?_)
 refine Uh (collect_list pl.isList ?_ fQ)
 refine Uh (Lm ?_ fQ)
 obtain⟨hsz,eS⟩:=ZFc s.heap vs;have b6:=Ul ((s.heap.push (Lb "list" #[] 0)).update s.heap.objs.size (Ot (·++vs.toArray))) (o:=Lb "list" vs.toArray 0) rfl
 rw[hsz]at b6;have keep:=λb o q=>Uk (Lb "list" vs.toArray 0) (eS b o q)
 have I1:Inv X aa σ H { s with heap:=((s.heap.push (Lb "list" #[] 0)).update s.heap.objs.size (Ot (·++vs.toArray))).push (Lb "list" vs.toArray 0) }:=I.kept (t':=s.toks) keep
 have fD:Y7 X aa H (s.heap.objs.size+1):=I.fpOk (U0 _) (I.hok.fresh (U0 _));show VV _ _ _ _ _ { s with heap:=((s.heap.push (Lb "list" #[] 0)).update s.heap.objs.size (Ot (·++vs.toArray))).push (Lb "list" vs.toArray 0) }
 rw[hsz];generalize ((s.heap.push (Lb "list" #[] 0)).update s.heap.objs.size (Ot (·++vs.toArray))).push (Lb "list" vs.toArray 0)=h1 at b6 I1;generalize s.heap.objs.size+1=D at b6 fD;refine Uh (Ln (wpAny_call_entry_kw slot_list_sort ⟨_,b6,rfl⟩ entry_list_sort ?body (ksk_l1 _ _)))
 case body =>
  rw[ksk_t1];unfold ksk_tree;have s1:=Ld h1 D (Ot λ_=>(#[]:Array Va))
  obtain⟨e1,dq⟩:∃ e1,(h1.update D (Ot λ_=>(#[]:Array Va))).get? D=Vo (Lb "list" #[] e1):=⟨_,Le b6 λ_=>#[]⟩
  have I2:Inv X aa σ H { s with heap:=h1.update D (Ot λ_=>(#[]:Array Va)) }:=I1.turned (t':=s.toks) (λb o hb q=>(s1.2 b hb).trans q) fD.1 fD.2.1 fD.2.2.2.1 fD.2.2.2.2.1 fD.2.2.2.2.2
  have I3:Inv X (aa++[(D,Lb "list" #[] e1)]) σ H { s with heap:=h1.update D (Ot λ_=>(#[]:Array Va)) }:=I2.pins_of λp hp=>(mem_append.mp hp).elim (λz=>I2.pin p (Ur _ z)) λz=>by
   have z:p=(D,Lb "list" #[] e1):=by simpa using z
   subst z;exact⟨dq,fD.1,fD.2.1,fD.2.2.1,λv q=>by cases q⟩
  have I4:Inv X (aa++[(D,Lb "list" #[] e1)]) σ H { s with heap:=(h1.update D (Ot λ_=>(#[]:Array Va))).push (Lb "tuple" vs.toArray 0) }:=I3.kept (t':=s.toks) λb u q=>Uk _ q
  have fK:Y7 X (aa++[(D,Lb "list" #[] e1)]) H ((h1.update D (Ot λ_=>(#[]:Array Va))).push (Lb "tuple" vs.toArray 0)).objs.size:=I4.fpOk (Um _) (I4.hok.fresh (Um _))
  have I5:Inv X (aa++[(D,Lb "list" #[] e1)]) σ H { s with heap:=((h1.update D (Ot λ_=>(#[]:Array Va))).push (Lb "tuple" vs.toArray 0)).push (Lb "list" #[] 0) }:=I4.kept (t':=s.toks) λb u q=>Uk _ q
  refine Uh (Lk b6 rfl ?_)
  refine Uh (Lf b6 rfl ?_ (by rw[Ux];exact fQ) (Us _))
  refine Uh (Lg dq rfl ?_)
  refine Uh (wpAny_newTuple ?_ (by show vs.length<=_;exact fQ))
  refine Uh (Lm ?_ (Us _))
  refine Ln ?_
  refine Qkc (s:={ s with heap:=((h1.update D (Ot λ_=>(#[]:Array Va))).push (Lb "tuple" vs.toArray 0)).push (Lb "list" #[] 0) }) F hb hr.in1.in1 I.ok.frames I5 fD fK (Ul _ rfl) fP hK rv λH' ys s' sm I' hD p1 p2=>?_
  exact⟨_,rfl,Ug ⟨_,rfl,.ref D,_,I',rfl,h D _ ys (sm.updL fD.1 _) fD.1 Qa p1 p2⟩⟩
def Xrb(K:VD)(sp:Sp)(te:TE):TE:=λσ H Q=>te σ H λx H1=>∃ a xs rk lt,x=.ref a/\SqL K H1 a xs/\xs.length < 1000/\Ysb K sp H1 xs rk lt /\
 ∀ D H' ys,Qn H1 H'->H1 D=Vp->H' D=Vo (.lst ys)->ys.Perm xs->ys.Pairwise (λa b=>lt b a=false)->Q (.ref D) H'
theorem Jdb{j:Nat}{fx:Str}{e:Expr}{te:TE}{p kp eE pos:Pos}(G:Cal X.prog X.w X.K X.mg X.base j fx [p0] sp)(hr:Zi k X.A)(hj:j+2<=k)(hs:Gl X "sorted")(hm:X.mg "sorted"=Vp)(hf:Gl X fx)(he:PE X e te)
 (aV:(fx == ("__debug__":Str))=false:=by decide) (cQ:VZ [e] X.env=[(false,VX e X.env)]:=by rfl) :
 PE X (.Call (.Name "sorted" p) [e] [⟨Vo "key",.Name fx kp,eE⟩] pos) (Xrb X.K sp te):=by
 obtain⟨f,fd,F,b,kpt,m⟩:=G;intro aa s σ H Q I h;refine UY (XA I hs hm Zfa ?_)
 refine callWith_kw (thn (Xdb he Qe cQ pos aa s σ H (λvs H1=>∃ x,vs=[x]/\∃ a xs rk lt,x=.ref a/\SqL X.K H1 a xs/\xs.length < 1000/\Ysb X.K sp H1 xs rk lt /\
  ∀ D H' ys,Qn H1 H'->H1 D=Vp->H' D=Vo (.lst ys)->ys.Perm xs->ys.Pairwise (λa b=>lt b a=false)->Q (.ref D) H') I ?_) λus s1 ⟨vs,H1,I1,r1,x,ex,a,xs,rk,lt,ea,hl,fP,hK,q⟩=>?_) (by rw[cQ];rfl) (by rw[cQ];rfl)
 ·show te σ H _
  exact(show(te σ H λx H1=>_) from h) |> λz=>by
   refine(?_:te σ H _)
   have:=z
   simpa only[Jba,exists_eq_left',IT,and_true]using this
 ·subst ex ea
  obtain⟨u,rfl,ru⟩:=Zxa r1;obtain rfl:u=Vk a:=ru;refine thn (Yic (nm:=Vo "key") (Y7b hf m (v:=.ref f) rfl aV) XJc pos aa s1 σ H1 (λzs H2=>zs=[.ref f]/\H2=H1) I1 ⟨rfl,rfl⟩) λws s2 hZ=>?_
  obtain⟨zs,H2,I2,rz,ez,eH⟩:=hZ;subst ez eH;obtain⟨u2,rfl,yB⟩:=Zxa rz;obtain rfl:u2=Vk f:=yB;exact Ytb F b (hr.mono hj) I2 hl fP hK q
end
end L2
end
section
namespace L2
open PySem PySem.Spec PyProof.Rows
section
variable{X:Cx}{e:Expr}{es:List Expr}{te:TE}{pos:Pos}
end
theorem Qlc(z:Str):Str.empty++z=z:=by
 apply PyProof.Rows.ext_toList
 rw[W.KT.app_list];rfl
end L2
end
section
namespace Pl
open PySem L2
def Q1:V->Prop
 | .non=>True
 | .int i => -(10 ^ 30) < i/\i < 10 ^ 30
 | .str z=>z.length<=40
 | _=>False
def rk:V->List V
 | .non=>[.int 0,.int 0]
 | .str z=>[.int 2,.str z]
 | v=>[.int 1,v]
def ltV(a b:V):Bool:=(HT.Ye (rk a) (rk b)).getD false
theorem ZGc{a b:V}(ha:Q1 a)(hb:Q1 b):HT.Ye (rk a) (rk b)=Vo (ltV a b):=by
 unfold ltV;cases a <;> first | exact ha.elim | skip
 all_goals (cases b <;> first | exact hb.elim | skip)
 all_goals (simp only[rk,HT.Ye];repeat' (first | rfl | split))
theorem Xbc:ltV .non .non=false:=rfl
theorem Xcc(i:Int):ltV .non (.int i)=true:=rfl
theorem Xdc(z:Str):ltV .non (.str z)=true:=rfl
theorem Xec(i:Int):ltV (.int i) .non=false:=rfl
theorem Xfc(z:Str):ltV (.str z) .non=false:=rfl
theorem ZHc(i:Int)(z:Str):ltV (.int i) (.str z)=true:=rfl
theorem Xgc(i:Int)(z:Str):ltV (.str z) (.int i)=false:=rfl
theorem Xsb(i j:Int):ltV (.int i) (.int j)=decide (i < j):=by
 unfold ltV;simp only[rk,HT.Ye,if_true]
 by_cases e:i=j
 ·rw[if_pos e];subst e;simp
 ·rw[if_neg e];rfl
theorem Xtb(x y:Str):ltV (.str x) (.str y)=decide (x.cps.toList < y.cps.toList):=by
 unfold ltV;simp only[rk,HT.Ye,if_true]
 by_cases e:x=y
 ·rw[if_pos e];subst e
  have:¬ (x.cps.toList < x.cps.toList):=List.lt_irrefl _;simp[this]
 ·rw[if_neg e];rfl
theorem irr{a:V}(ha:Q1 a):ltV a a=false:=by
 cases a <;> first | exact ha.elim | skip
 ·rfl
 ·rw[Xsb];simp
 ·rw[Xtb];exact decide_eq_false (List.lt_irrefl _)
theorem tr{a b c:V}(ha:Q1 a)(hb:Q1 b)(hc:Q1 c)(h1:ltV a b=true)(h2:ltV b c=true):ltV a c=true:=by
 cases a <;> first | exact ha.elim | skip
 all_goals (cases b <;> first | exact hb.elim | skip)
 all_goals (cases c <;> first | exact hc.elim | skip)
 all_goals first | rfl | (exfalso;rw[Xbc]at h1;cases h1;done) | (exfalso;rw[Xec]at h1;cases h1;done) | (exfalso;rw[Xfc]at h1;cases h1;done) | (exfalso;rw[Xgc]at h1;cases h1;done) | (exfalso;rw[Xbc]at h2;cases h2;done) | (exfalso;rw[Xec]at h2;cases h2;done) | (exfalso;rw[Xfc]at h2;cases h2;done) | (exfalso;rw[Xgc]at h2;cases h2;done) | skip
 ·rw[Xsb,decide_eq_true_eq]at *;lia
 ·rw[Xtb,decide_eq_true_eq]at *;exact List.lt_trans h1 h2
theorem tri{a b:V}(ha:Q1 a)(hb:Q1 b)(h1:ltV a b=false)(h2:ltV b a=false):a=b:=by
 cases a <;> first | exact ha.elim | skip
 all_goals (cases b <;> first | exact hb.elim | skip)
 all_goals first | rfl | (exfalso;rw[Xcc]at h1;cases h1;done) | (exfalso;rw[Xdc]at h1;cases h1;done) | (exfalso;rw[ZHc]at h1;cases h1;done) | (exfalso;rw[Xcc]at h2;cases h2;done) | (exfalso;rw[Xdc]at h2;cases h2;done) | (exfalso;rw[ZHc]at h2;cases h2;done) | skip
 ·rw[Xsb,decide_eq_false_iff_not]at *
  congr 1;lia
 ·rw[Xtb,decide_eq_false_iff_not]at *
  congr 1
  exact PyProof.Rows.ext_toList (List.le_antisymm (List.not_lt.mp h2) (List.not_lt.mp h1))
theorem neg{a b c:V}(ha:Q1 a)(hb:Q1 b)(hc:Q1 c)(h:ltV a c=true):ltV a b=true\/ltV b c=true:=by
 cases e:ltV a b with
 | true=>exact .inl rfl
 | false =>
  cases e2:ltV b a with
  | true=>exact .inr (tr hb ha hc e2 h)
  | false=>rw[tri ha hb e e2]at h;exact .inr h
theorem swo{xs:List V}(h:∀ v∈xs,Q1 v):Swo xs ltV:=⟨λa ha=>irr (h a ha),λa ha b hb c hc=>tr (h a ha) (h b hb) (h c hc),λa ha b hb c hc=>neg (h a ha) (h b hb) (h c hc)⟩
theorem QVd(v:V):∃ n r,rk v=.int n::r:=by cases v <;> exact⟨_,_,rfl⟩
structure QWd(xs ys:List V):Prop where
 up:ys.Pairwise λa b=>ltV a b=true
 mem:∀ v,v∈ys↔v∈xs
structure JMa(ys:List V)(i:Nat)(fs:List V):Prop where
 up:fs.Pairwise λa b=>ltV a b=true
 mem:∀ v,v∈fs↔v∈ys.take i
 last:∀ v,fs.getLast?=Vo v->∃ k,k < i/\ys[k]?=Vo v
 len:fs.length<=i
theorem JMa.start(ys:List V):JMa ys 0 []:=⟨Ic,λv=>by simp,λv h=>by simp at h,Us _⟩
theorem ZDa{ys:List V}{i:Nat}{x v:V}(hx:ys[i]?=Vo x):v∈ys.take (i+1)↔v∈ys.take i\/v=x:=by
 rw[Lo,hx];simp
theorem JMa.put{ys fs:List V}{i:Nat}{x:V}(g:JMa ys i fs)(p:∀ v∈ys,Q1 v)(so:ys.Pairwise λa b=>ltV b a=false)(hx:ys[i]?=Vo x)(h:∀ l,fs.getLast?=Vo l->ltV l x=true):JMa ys (i+1) (fs++[x]):=by
 have px:=p x (Og hx);refine⟨pairwise_append.mpr ⟨g.up,Lh _ _,λa ha b hb=>?_⟩,λv=>?_,λv hv=>?_,by have:=g.len;rw[Oh,Ow];lia⟩
 ·have e:b=x:=by simpa using hb
  subst e;obtain⟨l,hl⟩:∃ l,fs.getLast?=Vo l:=by
   cases q:fs.getLast? with
   | none=>rw[getLast?_eq_none_iff]at q;rw[q]at ha;cases ha
   | some l=>exact⟨l,rfl⟩
  have pl:Q1 l:=p l (Ie ((g.mem l).mp (Lp hl)));have pa:Q1 a:=p a (Ie ((g.mem a).mp ha));obtain⟨fm,rfl⟩:=getLast?_eq_some_iff.mp hl
  rcases mem_append.mp ha with h' | h'
  ·exact tr pa pl px ((pairwise_append.mp g.up).2.2 a h' l #[2]) (h l hl)
  ·have e:a=l:=by simpa using h'
   subst e;exact h a hl
 ·rw[ZDa hx,Lq,g.mem v];simp
 ·rw[getLast?_append]at hv
  simp at hv;subst hv;exact⟨i,UM _,hx⟩
theorem JMa.skip{ys fs:List V}{i:Nat}{x l:V}(g:JMa ys i fs)(p:∀ v∈ys,Q1 v)(so:ys.Pairwise λa b=>ltV b a=false)(hx:ys[i]?=Vo x)(hl:fs.getLast?=Vo l)(h:ltV l x=false):JMa ys (i+1) fs:=by
 have px:=p x (Og hx);have pl:Q1 l:=p l (Ie ((g.mem l).mp (Lp hl)));have yC:ltV x l=false:=by
  obtain⟨k,hk,e⟩:=g.last l hl;obtain⟨k1,e1⟩:=List.getElem?_eq_some_iff.mp e
  obtain⟨i1,e2⟩:=List.getElem?_eq_some_iff.mp hx
  have:=(pairwise_iff_getElem.mp so) k i k1 i1 hk;rw[e1,e2]at this;exact this
 have e:l=x:=tri pl px h yC;refine⟨g.up,λv=>?_,λv hv=>?_,Nat.le_succ_of_le g.len⟩
 ·rw[ZDa hx,g.mem v]
  constructor
  ·exact λh=>.inl h
  ·rintro(h | h)
   ·exact h
   ·rw[h,<- e];exact(g.mem l).mp (Lp hl)
 ·obtain⟨k,hk,e⟩:=g.last v hv
  exact⟨k,by lia,e⟩
theorem JMa.rise{xs ys fs:List V}(g:JMa ys ys.length fs)(hp:ys.Perm xs):QWd xs fs:=⟨g.up,λv=>by rw[g.mem v,Lr];exact hp.mem_iff⟩
end Pl
end
section
namespace L2
open PySem PySem.Spec PyProof.Rows
def ZK(H H':Hp):Prop:=∀ b xs,H b=Vo (.tup xs)->H' b=Vo (.tup xs)
theorem Qn.t{H H':Hp}(s:Qn H H'):ZK H H':=λb xs e=>s b _ e
theorem ZK.refl(H:Hp):ZK H H:=λ_ _ e=>e
theorem ZK.trans{H H1 H2:Hp}(a:ZK H H1)(b:ZK H1 H2):ZK H H2:=λc xs e=>b c xs (a c xs e)
theorem JZ{H:Hp}{D:Vh}{ys zs:List V}(h:H D=Vo (.lst ys)):ZK H (upd H D (.lst zs)):=λb xs e=>by
 rw[Qk (Yt e h (by intro z;cases z))];exact e
theorem Yvc{J:It}{te:TE}{σ:St}{H1:Hp}{Q:VK}(n:Nat)(item:Nat->V->Prop)(P:Hp->Nat->V->Prop)(mono:∀ H H' i v,ZK H H'->P H i v->P H' i v)(hz:n<=Vs)
 (kn:∀ i H2,i < n->Qn H1 H2->J.go i H2/\∀ x H',J.yld i H2 x H'->H'=H2/\item i x) (cQ:∀ H2,Qn H1 H2->J.stop n H2)
 (he:∀ i x H2 (R:VK),item i x->Qn H1 H2->(∀ v H3,P H3 i v->Qn H2 H3->R v H3)->te (Vo x::σ) H2 R)
 (hq:∀ D H2 ys,H1 D=Vp->Qn H1 H2->H2 D=Vo (.lst ys)->ys.length=n->(∀ i y,ys[i]?=Vo y->P H2 i y)->Q (.ref D) H2):LcR J Z3b te σ Q H1:=by
 intro D hD;refine⟨λi m ys H2=>m=n - i/\i<=n/\ys.length=i/\H2 D=Vo (.lst ys)/\Qn H1 H2/\∀ j y,ys[j]?=Vo y->P H2 j y,⟨_,rfl,Us _,rfl,Qa,Qf hD _,λj y h=>by simp at h⟩,?_⟩
 rintro i m ys H2 ⟨rfl,hi,hl,hd,sm,hp⟩;refine⟨hd,?_⟩
 by_cases aG:i < n
 ·obtain⟨go,yl⟩:=kn i H2 aG sm
  refine .inr ⟨go,by lia,λx H' y=>?_⟩
  obtain⟨e,hx⟩:=yl x H' y;subst e;unfold Z3b;refine QOd ?_
  refine he i x _ _ hx sm λv H3 pv s3=>⟨s3 _ _ hd,n - (i+1),by lia,rfl,aG,by rw[Oh,hl];rfl,Qa,(sm.trans s3).updL hD _,λj y h=>?_⟩
  have st:=JZ (zs:=ys++[v]) (s3 _ _ hd)
  by_cases hj:j < ys.length
  ·rw[Od hj]at h
   exact mono _ _ _ _ (s3.t.trans st) (hp j y h)
  ·rw[Oc #[0]]at h
   have cN:j=i:=by
    have:=(List.getElem?_eq_some_iff.mp h).1
    simp at this
    lia
   subst cN;rw[hl]at h;simp at h;subst h;exact mono _ _ _ _ st pv
 ·have e:i=n:=by lia
  subst e;exact .inl ⟨cQ H2 sm,hq D H2 ys hD sm hd hl hp⟩
theorem Qmc{K:VD}{a:Vh}(xs:List V){te:TE}{σ:St}{H1:Hp}{Q:VK}(P:Hp->Nat->V->Prop)(mono:∀ H H' i v,ZK H H'->P H i v->P H' i v)(hx:SqL K H1 a xs)(hz:xs.length<=Vs)
 (he:∀ i x H2 (R:VK),xs[i]?=Vo x->Qn H1 H2->(∀ v H3,P H3 i v->Qn H2 H3->R v H3)->te (Vo x::σ) H2 R)
 (hq:∀ D H2 ys,H1 D=Vp->Qn H1 H2->H2 D=Vo (.lst ys)->ys.length=xs.length->(∀ i y,ys[i]?=Vo y->P H2 i y)->Q (.ref D) H2):LcR (Itl K a) Z3b te σ Q H1 :=
 Yvc xs.length (λi x=>xs[i]?=Vo x) P mono hz (λi H2 hi s=>⟨⟨xs,xs[i],s.seq hx,by simp[hi]⟩,λx H' y=>⟨y.1,y.2 xs (s.seq hx)⟩⟩) (λH2 s=>⟨xs,s.seq hx,Um _⟩) he hq
theorem Yub{J:It}{tt:TT}{σ:St}{H1:Hp}{Q:VK}(xs:List V)(p:V->Bool)(hz:xs.length<=Vs)
 (kn:∀ i H2,i < xs.length->Qn H1 H2->J.go i H2/\∀ x H',J.yld i H2 x H'->H'=H2/\xs[i]?=Vo x) (cQ:∀ H2,Qn H1 H2->J.stop xs.length H2)
 (he:∀ (i:Nat) x H2 (R:Bool->Hp->Prop),xs[i]?=Vo x->Qn H1 H2->(∀ H3,Qn H2 H3->R (p x) H3)->tt (Vo x::σ) H2 R)
 (hq:∀ D H2,H1 D=Vp->Qn H1 H2->H2 D=Vo (.lst (xs.filter p))->Q (.ref D) H2):LcR J tt (Yv 0) σ Q H1:=by
 intro D hD;refine⟨λi m ys H2=>m=xs.length - i/\i<=xs.length/\ys=(xs.take i).filter p/\H2 D=Vo (.lst ys)/\Qn H1 H2,⟨_,rfl,Us _,by simp,Qa,Qf hD _⟩,?_⟩
 rintro i m ys H2 ⟨rfl,hi,hy,hd,sm⟩;refine⟨hd,?_⟩
 by_cases aG:i < xs.length
 ·obtain⟨go,yl⟩:=kn i H2 aG sm
  have hl:ys.length<=i:=by
   rw[hy];exact VJ (OI _ _) (by rw[Oa];lia)
  refine .inr ⟨go,by lia,λx H' y=>?_⟩
  obtain⟨e,hx⟩:=yl x H' y;subst e;have ht:(xs.take (i+1)).filter p=if p x=true then ys++[x] else ys:=by
   rw[Lo,hx,Ls,<- hy];cases hp:p x <;> simp[hp]
  refine he i x _ _ hx sm λH3 s3=>?_
  cases hp:p x with
  | true =>
   rw[if_pos rfl];refine⟨s3 _ _ hd,xs.length - (i+1),by lia,rfl,aG,?_,Qa,(sm.trans s3).updL hD _⟩
   rw[ht,hp,if_pos rfl]
  | false =>
   rw[if_neg Uc];refine⟨xs.length - (i+1),by lia,rfl,aG,?_,s3 _ _ hd,sm.trans s3⟩
   rw[ht,hp,if_neg Uc]
 ·have e:i=xs.length:=by lia
  subst e;rw[Lr]at hy;exact .inl ⟨cQ H2 sm,hq D H2 hD sm (by rw[hd,hy])⟩
theorem X4c{i:Int}(h : -(10 ^ 40) < i/\i < 10 ^ 40):i.natAbs.log2 < 1920:=by
 by_cases e:i.natAbs=0
 ·rw[e];decide
 ·rw[Nat.log2_lt e]
  have:i.natAbs < 10 ^ 40:=by lia
  exact Vz this (VJ (by decide:10 ^ 40<=2 ^ 200) (Nat.pow_le_pow_right #[1] #[1]))
def ZIc:Expr->Bool
 | .Starred _ _=>false
 | _=>true
theorem Qnc{e:Expr}{es:List Expr}{env:Env}(h:ZIc e=true):VZ (e::es) env=(false,VX e env)::VZ es env:=by
 cases e <;> first | rfl | (exact absurd h Uc)
theorem Qh{X:Cx}{e:Expr}{es:List Expr}{te:TE}{t:TA}(ha:PE X e te)(hr:PA X es t)(hn:ZIc e=true:=by rfl):PA X (e::es) (YVa te t):=Xdb ha hr (Qnc hn)
section
variable{prog:Vg}{w:Vb}{A:VG}{E:YQ_}{s:VH}
variable{z TI TO i1 i2:Vh}{fp1 fp2:List Vh}{n1 n2 i:Nat}{P1 P2:Nat->Va->Prop}{S1 S2:Nat->Vq->Prop}
end
section
variable{prog:Vg}{w:Vb}{A:VG}{E:YQ_}{s:VH}
end
section
variable{X:Cx}{ea eb:Expr}{ua ub:TE}{p pos hG:Pos}{elts:List Expr}{kk:Nat}
end
section
variable{X:Cx}
theorem Yvb{prog:Vg}{w:Vb}{A:VG}{E:YQ_}{s:VH}{a b:Vh}{us ws:Array Va}{r:Bool}{Q:YQ_}(ha:s.heap.IsList a us)(hb:s.heap.IsList b ws)(hu:A.units < UR)
 (h:(us.size≠ws.size/\r=true)\/(us.size=ws.size/\∃ e:Nat->Bool,(∀ j (h1:j < us.size) (h2:j < ws.size),Oj A.in1 s us[j] ws[j] (e j))/\r=!(VC us.size).all e)) (q:Q (.bool r) s) :
 VV (VW prog w) A (V2 .NotEq (.ref a) (.ref b)) Q E s:=by
 obtain⟨⟨c1,d1,dt1,u5⟩,g1,ol,n1,u6⟩:=id ha;obtain⟨⟨c2,d2,dt2,i7⟩,g2,dF,n2,ik⟩:=id hb;simp only at ol u6 dF ik;subst ol u6 dF ik
 rcases h with ⟨hs,rfl⟩ | ⟨hs,e,he,rfl⟩
 ·exact OX (op:=.NotEq) ⟨_,g1,rfl⟩ ⟨_,g2,rfl⟩ F.slot_list_ne F.entry_list_ne (F.args_list_ne_2 _ _) (SeqAt.list_ne_lengthsAt a b us ws n1 n2 d1 d2 u5 i7 (by simpa using hs))
   ⟨g1,g2,show Vj true≠OY/\Q (.bool true) s from⟨(λx=>nomatch x),q⟩⟩ hu
 ·exact OX (op:=.NotEq) ⟨_,g1,rfl⟩ ⟨_,g2,rfl⟩ F.slot_list_ne F.entry_list_ne (F.args_list_ne_2 _ _) (SeqAt.list_neAt a b us ws n1 n2 d1 d2 u5 i7 hs e)
   ⟨g1,g2,he,show Vj (!(VC us.size).all e)≠OY/\Q (.bool (!(VC us.size).all e)) s from⟨(λx=>nomatch x),q⟩⟩ hu
end
section
variable{X:Cx}
theorem ZJc{ta:TA}{tt:TT}{te:TE}{σ:St}{H:Hp}{Q:VK}:tLc (QZc ta) tt te σ H Q=ta σ H λvs H1=>∃ i j:Int,vs=[.int i,.int j]/\(-(2 ^ 62)<=i/\i < 2 ^ 62 /\ -(2 ^ 62)<=j/\j < 2 ^ 62)/\LcR (Itr i (j - i).toNat) tt te σ Q H1:=rfl
end
def Y2(H H':Hp):Prop:=∀ b o,H b=Vo o->H' b=Vo o\/((∃ xs,o=.lst xs)/\∃ ys,H' b=Vo (.lst ys))
theorem Qn.l{H H':Hp}(s:Qn H H'):Y2 H H':=λb o e=>.inl (s b o e)
theorem Y2.trans{H H1 H2:Hp}(a:Y2 H H1)(b:Y2 H1 H2):Y2 H H2:=λc o e=>by
 rcases a c o e with h | ⟨⟨xs,rfl⟩,ys,h⟩
 ·exact b c o h
 ·rcases b c _ h with h' | ⟨_,zs,h'⟩
  ·exact .inr ⟨⟨xs,rfl⟩,ys,h'⟩
  ·exact .inr ⟨⟨xs,rfl⟩,zs,h'⟩
theorem Qoc{H:Hp}{D:Vh}{ys zs:List V}(h:H D=Vo (.lst ys)):Y2 H (upd H D (.lst zs)):=λb o e=>by
 by_cases hb:b=D
 ·subst hb;rw[h]at e;cases e;exact .inr ⟨⟨_,rfl⟩,zs,Qa⟩
 ·exact .inl (by rw[Qk hb];exact e)
theorem Y2.tup{H H':Hp}(s:Y2 H H'){b:Vh}{xs:List V}(e:H b=Vo (.tup xs)):H' b=Vo (.tup xs):=by
 rcases s b _ e with h | ⟨⟨ys,h⟩,_⟩
 ·exact h
 ·cases h
end L2
namespace Th
open PySem L2 Pl
def Xhc(c:Nat):Bool:=decide (32<=c/\c<=126/\c≠37)
def ZKc(z:Str):Prop:=z.length<=60/\∀ c∈z.cps.toList,Xhc c=true\/c=9\/c=10
def Jeb:V->Prop
 | .non=>True
 | .bl _=>True
 | .int _=>True
 | .str z=>ZKc z
 | _=>False
def TT:Nat->Hp->V->Prop
 | 0,H,v=>Jeb v\/∃ a,v=.ref a/\((∃ xs,H a=Vo (.lst xs))\/H a=Vo (.dK [])\/∃ xs,H a=Vo (.tup xs)/\xs.length<=60)
 | n+1,H,v=>Jeb v\/∃ a,v=.ref a/\((∃ xs,H a=Vo (.lst xs))\/H a=Vo (.dK [])\/∃ xs,H a=Vo (.tup xs)/\xs.length<=60/\∀ u∈xs,TT n H u)
end Th
end
section
namespace L2
open PySem PySem.Spec PyProof.Rows
def X5c(h:Vq)(Y:Vh->Prop)(e:Vh)(vs:Array Va):Option Va->Prop
 | none=>vs[1]?=Vo .none
 | some v=>∃ T oT ts,vs[1]?=Vo (.ref T)/\T≠e/\(Y T/\oT.cls=.type "traceback")/\h.get? T=Vo oT/\oT.data=.fields ts/\ts[3]?=Vo v
def ZLc:YP_->Va->Prop
 | [],c=>c=.none
 | p::r,c=>c=.ref p.1/\∃ va c',p.2.data=.fields va/\va[2]?=Vo c'/\ZLc r c'
def Lie(h:Vq)(Y:Vh->Prop)(e:Vh)(ch:YP_):Prop:=(e::ch.map (·.1)).Nodup/\∀ p∈ch,h.get? p.1=Vo p.2/\p.2.cls≠.type "traceback"/\(∃ va,p.2.data=.fields va)/\Y p.1
def Exc(h:Vq)(Y:Vh->Prop)(e:Vh)(cls:Va)(dx:Option Vh)(ch:YP_)(fl:Option Va):Prop :=
 ∃ oe vs,h.get? e=Vo oe/\oe.cls=cls/\oe.dict=dx/\oe.data=.fields vs/\((∃ c,vs[2]?=Vo c/\ZLc ch c)/\Lie h Y e ch)/\X5c h Y e vs fl
structure ZRa(Y:Vh->Prop)(e:Vh)(fs:List Vh)(h h':Vq):Prop where
 keep:∀ b o,h.get? b=Vo o->b≠e->¬ (Y b/\o.cls=.type "traceback")->b∉fs->h'.get? b=Vo o
 slot:∀ b o,h.get? b=Vo o->(∀ vs,o.data≠.fields vs)->∃ sl,h'.get? b=Vo { o with slots:=sl }
 size:h.objs.size<=h'.objs.size
theorem ZRa.trans{Y:Vh->Prop}{e:Vh}{fs:List Vh}{h₁ h₂ h₃:Vq}(x:ZRa Y e fs h₁ h₂)(y:ZRa Y e fs h₂ h₃):ZRa Y e fs h₁ h₃ :=
 ⟨λb o q a c d=>y.keep b o (x.keep b o q a c d) a c d,λb o q n=>let ⟨_,e1⟩:=x.slot b o q n;let ⟨sl,e2⟩:=y.slot b _ e1 n;⟨sl,e2⟩,VJ x.size y.size⟩
theorem ZRa.funs{Y:Vh->Prop}{e:Vh}{fs:List Vh}{h h' base:Vq}{l:List Env}(x:ZRa Y e fs h h')(f:h.FunFrames base l):h'.FunFrames base l :=
 f.of_keeps λb o q n=>let ⟨sl,e1⟩:=x.slot b o q n;⟨_,e1,rfl⟩
theorem Lie.stay{Y:Vh->Prop}{e:Vh}{fs:List Vh}{h h':Vq}{ch:YP_}(l:Lie h Y e ch)(st:ZRa Y e fs h h')(nf:∀ b∈fs,∃ o,h.get? b=Vo o/\∀ vs,o.data≠.fields vs):Lie h' Y e ch :=
 ⟨l.1,λp hp=>by
  obtain⟨q,c,⟨va,d⟩,y⟩:=l.2 p hp;refine⟨st.keep p.1 p.2 q (λz=>?_) (λz=>c z.2) (λz=>?_),c,⟨va,d⟩,y⟩
  ·exact(nodup_cons.mp l.1).1 (by rw[<- z];exact mem_map_of_mem hp)
  ·obtain⟨o,q',n⟩:=nf _ z
   rw[q]at q';cases q';exact n va d⟩
theorem Qpc(o:Obj)(f):(o.mapFields f).dict=o.dict:=by
 obtain⟨c,d,dt,sl⟩:=o;cases dt <;> rfl
theorem Y7a{Y:Vh->Prop}{e a:Vh}{fs:List Vh}{h:Vq}{o:Obj}{vs:Array Va}(i:Nat)(x:Va)(ho:h.get? a=Vo o)(hd:o.data=.fields vs)(ha:a=e\/(Y a/\o.cls=.type "traceback")) :
 ZRa Y e fs h (h.update a (Lu (·.setIfInBounds i x))) where
 keep b u q n1 n2 _:=by
  rw[Ou _ _ (λz=>by subst z;rw[ho]at q;cases q;exact ha.elim n1 n2)];exact q
 slot b u q n:=⟨u.slots,by
  rw[Ou _ _ (λz=>by subst z;rw[ho]at q;cases q;exact n vs hd)];exact q⟩
 size:=by rw[Heap.size_update];exact Um _
theorem Xub{a:Vh}{h:Vq}{o:Obj}{vs:Array Va}(i:Nat)(x:Va)(ho:h.get? a=Vo o)(hd:o.data=.fields vs) :
 (h.update a (Lu (·.setIfInBounds i x))).get? a=Vo (o.mapFields (·.setIfInBounds i x)):=Lv _ ho (Obj.isFreed_of_fields (Obj.data_mapFields hd _))
section
variable{M:VT}{A:VG}{E:YQ_}{s:VH}{Y:Vh->Prop}{base:Vq}{env:Env}{outer:List Env}{L e:Vh}{cls:Va}{dx:Option Vh}{ch:YP_}{fl:Option Va}{Q:Unit->VH->Prop}
theorem Ywc{fs:List Vh}{v:Va}(nf:∀ b∈fs,∃ o,s.heap.get? b=Vo o/\∀ vs,o.data≠.fields vs)(x:Exc s.heap Y e cls dx ch (Vo v))(q:∀ h',ZRa Y e fs s.heap h'->Exc h' Y e cls dx ch (Vo .none)->Q () { s with heap:=h' }):VV M A (setFlight (.ref e) Vp) Q E s:=by
 obtain⟨oe,vs,he,hc,bt,hd,⟨lk,ll⟩,T,oT,ts,h1,om,hY,hT,gB,h3⟩:=x;unfold setFlight;refine Uh (Lw he hd h1 ?_)
 rw[if_pos (show(Vk T != Vi)=true from by simp)]
 have hsz:3 < ts.size:=(Array.getElem?_eq_some_iff.mp h3).1
 have st:=Y7a (Y:=Y) (e:=e) (fs:=fs) 3 ((Vp:Option Vh).elim Vi λf=>Ui f) hT gB (.inr hY)
 refine wpAny_setField hT gB hsz (q _ st ⟨oe,vs,?_,hc,bt,hd,⟨lk,ll.stay st nf⟩,T,_,_,h1,om,⟨hY.1,(Obj.cls_mapFields _ _).trans hY.2⟩,Xub 3 _ hT gB,Obj.data_mapFields gB _,?_⟩)
 ·rw[Ou _ _ om];exact he
 ·simp[hsz]
theorem Jfb{head:Va}{fR:Bool}(dY:A.frames=Vo (env::outer))(hl:s.heap.FunFrames base (env::outer))(hf:env.frame=Vo L)(hy:∀ b,s.heap.objs.size<=b->Y b){oe:Obj}{vs:Array Va}
 (he:s.heap.get? e=Vo oe) (hc:oe.cls=cls) (bt:oe.dict=dx) (hd:oe.data=.fields vs) (hsz:1 < vs.size) (lk:∃ c,vs[2]?=Vo c/\ZLc ch c) (ll:Lie s.heap Y e ch)
 (q:∀ h',ZRa Y e (frs (env::outer)) s.heap h'->Exc h' Y e cls dx ch (Vo (Ui L))->Q () { s with heap:=h' }) :
 VV M A (do let a <- frameOf env;let pl <- entryPlaceOf L fR;let b <- EntryCells.newEntry head a .none (Ui L) .none pl;setField (.ref e) 1 b) Q E s:=by
 refine Uh (wpAny_frameOf_fun dY hl hf λh₁ hs=>?_)
 refine Uh (wpAny_entryPlaceOf λpl aN=>?_)
 unfold EntryCells.newEntry newFields;refine Uh (wpAny_newObj_type ?_ (aN.sizeOk5 _ _ _ _ _))
 have yD:e∉frs (env::outer):=λhm=>by
  obtain⟨_,o,ho,hn⟩:=hl.mem hm;rw[he]at ho;cases ho;exact hn vs hd
 have jk:h₁.get? e=Vo oe:=(hs.2.1 e yD).trans he;have ax:h₁.objs.size≠e:=Ud (Vy jk);generalize htb:({ cls:=.type "traceback",dict:=Vp,data:=.fields ([head,.ref L,.none,Ui L,.none]++(if pl.isEmpty then List.replicate 6 Vi else pl)).toArray }:Obj)=tb
 have oq:tb.data=.fields ([head,.ref L,.none,Ui L,.none]++(if pl.isEmpty then List.replicate 6 Vi else pl)).toArray:=by rw[<- htb]
 have qm:tb.isFreed=false:=Obj.isFreed_of_fields oq;have dW:(h₁.push tb).get? e=Vo oe:=Uk _ jk
 have hY:Y h₁.objs.size:=hy _ (by rw[hs.1];exact Um _)
 have yE:tb.cls=.type "traceback":=by rw[<- htb]
 have st:ZRa Y e (frs (env::outer)) s.heap ((h₁.push tb).update e (Lu (·.setIfInBounds 1 (Vk h₁.objs.size)))):=by
  refine ZRa.trans ?_ (Y7a 1 _ dW hd (.inl rfl))
  refine⟨λb o g _ _ n=>Uk _ ((hs.2.1 b n).trans g),λb o g _=>?_,?_⟩
  ·obtain⟨sl,g1⟩:=hs.2.2 b o g
   exact⟨sl,Uk _ g1⟩
  ·rw[<- hs.1];cases h₁;simp[Heap.push]
 refine wpAny_setField dW hd hsz (q _ st ⟨_,_,Xub 1 _ dW hd,(Obj.cls_mapFields _ _).trans hc,(Qpc _ _).trans bt,Obj.data_mapFields hd _,⟨?_,ll.stay st λb hb=>(hl.mem hb).2⟩,h₁.objs.size,tb,_,by simp[hsz],ax,⟨hY,yE⟩,?_,oq,?_⟩)
 ·obtain⟨c,h2,l⟩:=lk
  exact⟨c,by rw[Array.getElem?_setIfInBounds_ne #[1]];exact h2,l⟩
 ·rw[Ou _ _ (VR ax)];exact Ul _ qm
 ·first | (simp;done) | (rcases aN with rfl | ⟨_,_,_,_,_,_,_,rfl⟩ <;> simp)
theorem Yxc(dY:A.frames=Vo (env::outer))(hl:s.heap.FunFrames base (env::outer))(hf:env.frame=Vo L)(hy:∀ b,s.heap.objs.size<=b->Y b)(x:Exc s.heap Y e cls dx ch fl)(ko:fl=Vp\/fl=Vo .none)
 (q:∀ h',ZRa Y e (frs (env::outer)) s.heap h'->Exc h' Y e cls dx ch (Vo (Ui L))->Q () { s with heap:=h' }):VV M A (noteFrame (.ref e) env) Q E s:=by
 obtain⟨oe,vs,he,hc,bt,hd,⟨lk,ll⟩,hh⟩:=x;unfold noteFrame;simp only[hf]
 rcases ko with rfl | rfl
 ·have h1:vs[1]?=Vo .none:=hh
  refine Uh (Lw he hd h1 ?_)
  rw[if_neg #[1]]
  exact Jfb dY hl hf hy he hc bt hd (Array.getElem?_eq_some_iff.mp h1).1 lk ll q
 ·obtain⟨T,oT,ts,h1,om,hY,hT,gB,h3⟩:=hh
  refine Uh (Lw he hd h1 ?_)
  rw[if_pos (show(Vk T != Vi)=true from by simp)]
  refine Uh (Lw hT gB h3 ?_)
  rw[if_neg (show ¬ ((Vi == Ui L)=true) from by simp[Ui])]
  refine Uh (wpAny_setField hT gB (Array.getElem?_eq_some_iff.mp h3).1 ?_)
  have st:ZRa Y e (frs (env::outer)) s.heap (s.heap.update T (Lu (·.setIfInBounds 3 Vi))):=Y7a 3 _ hT gB (.inr hY);refine Jfb (s:={ s with heap:=s.heap.update T (Lu (·.setIfInBounds 3 Vi)) }) dY (st.funs hl) hf (λb hb=>hy b (VJ st.size hb)) ((Ou _ _ om).trans he) hc bt hd (Array.getElem?_eq_some_iff.mp h1).1 lk (ll.stay st λb hb=>(hl.mem hb).2) λh' t x'=>q h' (st.trans t) x'
theorem ZMc(dY:A.frames=Vo (env::outer))(hl:s.heap.FunFrames base (env::outer))(hf:env.frame=Vo L)(hy:∀ b,s.heap.objs.size<=b->Y b)(x:Exc s.heap Y e cls dx ch fl)(ko:fl=Vp\/fl=Vo .none)
 (q:∀ h',ZRa Y e (frs (env::outer)) s.heap h'->Exc h' Y e cls dx ch (Vo .none)->Q () { s with heap:=h' }):VV M A (leaving env (.ref e)) Q E s:=by
 unfold leaving;refine Uh (Yxc dY hl hf hy x ko λh₁ st x1=>?_)
 exact Ywc (s:={ s with heap:=h₁ }) (fs:=frs (env::outer)) (λb hb=>((st.funs hl).mem hb).2) x1 λh₂ bR x2=>q h₂ (st.trans bR) x2
end
theorem Exc.mono{h:Vq}{Y Y':Vh->Prop}{e:Vh}{cls:Va}{dx:Option Vh}{ch:YP_}{fl:Option Va}(x:Exc h Y e cls dx ch fl)(k:∀ b,Y b->Y' b):Exc h Y' e cls dx ch fl:=by
 obtain⟨oe,vs,he,hc,bt,hd,⟨lk,l1,l2⟩,hh⟩:=x;refine⟨oe,vs,he,hc,bt,hd,⟨lk,l1,λp hp=>let ⟨a,b,c,d⟩:=l2 p hp;⟨a,b,c,k _ d⟩⟩,?_⟩
 cases fl with
 | none=>exact hh
 | some v=>obtain⟨T,oT,ts,h1,h2,h3,r⟩:=hh;exact⟨T,oT,ts,h1,h2,⟨k T h3.1,h3.2⟩,r⟩
def Yg(old:Vq)(H:Hp)(b:Vh):Prop:=old.get? b=Vp/\H b=Vp
def CX1(P:Vg)(w:Vb):CXT:=λouter H s E e s'=>∃ ea cls dx ch H',e=.ref ea/\s'.os=s.os/\VI s'.gens/\Un (frs outer) [] H H' s.heap s'.heap/\HOk P w H' s'.heap /\
 Exc s'.heap (Yg s.heap H') ea cls dx ch (Vo .none)/\s.heap.get? ea=Vp/\H' ea=Vp/\E cls dx H'
def Y8a(X:Cx)(E:XK):Prop:=∀ (aa:YP_) (σ:St) (H:Hp) (s:VH) (e:Vh) (cls:Va) (dx:Option Vh) (ch:YP_) (fl:Option Va),Inv X aa σ H s->Exc s.heap (Yg X.s₀.heap H) e cls dx ch fl->(fl=Vp\/fl=Vo .none) ->
 X.s₀.heap.get? e=Vp->H e=Vp->E cls dx H->X.xe (.ref e) s
section
variable{X:Cx}{E:XK}{aa:YP_}{σ:St}{H:Hp}{s:VH}
theorem Inv.young(I:Inv X aa σ H s)(hx:X.ex=[]){b:Vh}(h:s.heap.get? b=Vp):X.s₀.heap.get? b=Vp:=by
 cases q:X.s₀.heap.get? b with
 | none=>rfl
 | some o =>
  obtain⟨o',e⟩:=I.base.there b o q (by rw[hx];simp)
  rw[h]at e;cases e
theorem ZNc{env:Env}{outer:List Env}{L:Vh}(h:env.frame=Vo L):frs (env::outer)=L::frs outer:=by unfold frs;rw[VM,h]
end
section
variable{P:Vg}{w:Vb}{K:VD}{mg:Str->Option Va}{base:Vq}{N:List Str}{qual:Str}{scope:Scope}{f:Vh}{cd:Va}{A:VG}{outer:List Env}{s:VH}{H:Hp}{E:XK}
theorem Z1:Y8a (Jda (CX1 P w) P w K mg base N qual scope f cd A outer s H E) E:=by
 intro aa σ H' s' e cls dx ch fl I x ko n1 n2 hE;have n1:s.heap.get? e=Vp:=n1;have fr:frs (U9 qual scope s.heap.objs.size f cd::outer)=s.heap.objs.size::frs outer:=ZNc rfl;have stk:s'.heap.FunFrames base (U9 qual scope s.heap.objs.size f cd::outer):=I.stack;have sf:∀ b∈frs (U9 qual scope s.heap.objs.size f cd::outer),H' b=Vp:=I.stkFree;have ib:Un (frs outer) [] H H' s.heap s'.heap:=I.base;show VV (VW P w) _ (leaving _ (.ref e)) _ _ s';refine ZMc (base:=base) (Y:=Yg s.heap H') (L:=s.heap.objs.size) (fl:=fl) I.ok.frames stk rfl (λb hb=>⟨VP (VJ I.sz hb),I.hok.fresh hb⟩) x ko λh' st x'=>?_
 have nf:∀ b o,s.heap.get? b=Vo o->b∉frs outer->b∉frs (U9 qual scope s.heap.objs.size f cd::outer):=λb o q hb hm=>by
  rw[fr]at hm
  rcases mem_cons.mp hm with z | z
  ·rw[z]at q;exact absurd (Vy q) (VA _)
  ·exact hb z
 have ne:∀ b o,s.heap.get? b=Vo o->b≠e:=λb o q z=>by rw[z,n1]at q;cases q
 have ny:∀ b o (o':Obj),s.heap.get? b=Vo o->¬ (Yg s.heap H' b/\o'.cls=.type "traceback"):=λb o o' q y=>by rw[y.1.1]at q;cases q
 refine⟨e,cls,dx,ch,H',rfl,I.os,I.bare,⟨λb o q n hb hx=>?_,λb o q n hb hx=>?_,ib.free,λb o q hx=>?_,ib.tups,ib.frzs,ib.tbls⟩,λb u eb=>?_,x',n1,n2,hE⟩
 ·exact st.keep b o (ib.keep b o q n hb hx) (ne b o q) (ny b o _ q) (nf b o q hb)
 ·obtain⟨sl,q1⟩:=ib.slot b o q n hb hx
  obtain⟨_,o2,q2,hn⟩:=stk.mem (show b∈frs _ by rw[fr];exact VO _ hb)
  rw[q1]at q2;cases q2;obtain⟨pE,q3⟩:=st.slot b _ q1 hn;exact⟨pE,q3⟩
 ·obtain⟨o',q1⟩:=ib.there b o q hx
  by_cases hn:∀ vs,o'.data≠.fields vs
  ·obtain⟨sl,q2⟩:=st.slot b o' q1 hn
   exact⟨_,q2⟩
  ·refine⟨o',st.keep b o' q1 (ne b o q) (ny b o _ q) λhm=>?_⟩
   obtain⟨_,o2,q2,dQ⟩:=stk.mem hm;rw[q1]at q2;cases q2;exact hn dQ
 ·refine(I.hok b u eb).stay (λc v hc q=>?_) (λ_ q=>q) λ_ _ q=>q
  have bQ:H' c≠Vp:=by
   rcases hc with z | z
   ·rw[z,eb];simp
   ·rw[z];simp
  exact st.keep c v q (λz=>bQ (by rw[z];exact n2)) (λy=>bQ y.1.2) λhm=>bQ (sf c hm)
theorem X6c:PassesOwn (VW P w) (Jda (CX1 P w) P w K mg base N qual scope f cd A outer s H E).A (Jda (CX1 P w) P w K mg base N qual scope f cd A outer s H E).env (Jda (CX1 P w) P w K mg base N qual scope f cd A outer s H E).xe:=PassesOwn.leaving (Q₁:=λe dA=>CX1 P w outer H s E e dA)
end
theorem QR.obj{P:Vg}{w:Vb}{H:Hp}{h:Vq}{a:Vh}{o:HO}(x:QR P w H h a o):∃ ob,h.get? a=Vo ob:=by
 cases o with
 | lst xs=>obtain⟨_,_,_,_,e⟩:=x;exact⟨_,e⟩
 | tup xs=>obtain⟨_,_,_,p⟩:=x;obtain⟨o,e,_⟩:=p;exact⟨_,e⟩
 | dK ae=>obtain⟨_,_,_,_,o,_,_,e,_⟩:=x;exact⟨_,e⟩
 | dT ae=>obtain⟨_,_,_,_,o,_,_,e,_⟩:=x;exact⟨_,e⟩
 | set S n=>obtain⟨o,_,_,_,e,_⟩:=x;exact⟨_,e⟩
 | ins C dx fs=>obtain⟨_,_,_,e,_⟩:=x;exact⟨_,e⟩
 | own y=>exact x
 | xd fs=>obtain⟨_,⟨_,_,_,e,_⟩,_⟩:=x;exact⟨_,e⟩
 | rng lo hi=>obtain⟨_,_,_,e⟩:=x;exact⟨_,e⟩
 | frz ob u=>obtain⟨e,_⟩:=x;exact⟨_,e⟩
 | tbl ps=>exact⟨_,x⟩
 | met f y=>exact⟨_,x⟩
 | ext φ=>obtain⟨_,e,_⟩:=x;exact e
theorem HOk.none_of{P:Vg}{w:Vb}{H:Hp}{h:Vq}{a:Vh}(x:HOk P w H h)(e:h.get? a=Vp):H a=Vp:=by
 cases q:H a with
 | none=>rfl
 | some u=>obtain⟨o,e'⟩:=(x a u q).obj;rw[e]at e';cases e'
structure Zhd(K:VD)(C:Vh)(bm kq:List Va)(newId:String):Prop where
 ex:∃ nm q N bs hdct sn sub ab col dd k0 k1 k2 k3 k5,K.lookup C=Vo (Lx nm q C N bs bm hdct sn sub ab col dd k0 k1 k2 k3 k5 newId)/\Ly K N=true/\Lz K N "__init__"=Vo Vp
 tail:W.tailIn K kq bm=true
section
variable{X:Cx}{E:XK}{x:Str}{C:Vh}{bm kq:List Va}{B newId cR:String}{np ay pos:Pos}
end
structure Old(X:Cx)(aa:YP_)(old:Vq):Prop where
 ent:∀ b,old.get? b=Vp->X.s₀.heap.get? b=Vp
 pin:∀ p∈X.pn++aa,old.get? p.1≠Vp
def X1P(X:Cx)(aa:YP_)(σ:St)(E:XK)(ev:Va)(s':VH):Prop :=
 ∃ ea cls dx ch H' old,ev=.ref ea/\Inv X aa σ H' s'/\Exc s'.heap (Yg old H') ea cls dx ch (Vo .none)/\Old X aa old/\(∀ b,s'.heap.objs.size<=b->old.get? b=Vp)/\old.get? ea=Vp/\H' ea=Vp/\E cls dx H'
abbrev TE1:=St->Hp->VK->XK->Prop
abbrev TS1:=JR->St->Hp->XK->Prop
def PE1(X:Cx)(e:Expr)(t:TE1):Prop :=
 ∀ (aa:YP_) (s:VH) (σ:St) (H:Hp) (Q:VK) (E:XK),Inv X aa σ H s->t σ H Q E->VV (VW X.prog X.w) X.A (VX e X.env) (EP X aa σ Q) (X1P X aa σ E) s
section
variable{X:Cx}{E:XK}{e:Expr}{es:List Expr}{t:TA}{t1:TE1}{x:Str}{p pos:Pos}{k j:Nat}{f:Vh}{fd:UU}{ps:List Str}{sp:Sp}
theorem X1P.thrown{aa:YP_}{σ:St}{ev:Va}{s':VH}(T:Y8a X E)(h:X1P X aa σ E ev s'):X.xe ev s':=by
 obtain⟨ea,cls,dx,ch,H',old,rfl,I,y,o,_,n1,n2,hE⟩:=h;exact T aa σ H' s' ea cls dx ch _ I (y.mono λb z=>⟨o.ent b z.1,z.2⟩) (.inr rfl) (o.ent _ n1) n2 hE
theorem PE1.pe(h:PE1 X e t1)(T:Y8a X E):PE X e (λσ H Q=>t1 σ H Q E):=λaa s σ H Q I q=>V1 (h aa s σ H Q E I q) (λ_ _ z=>z) λ_ _ z=>z.thrown T
theorem Inv.old{aa:YP_}{σ:St}{H:Hp}{s:VH}(I:Inv X aa σ H s)(bp:X.ex=[]):Old X aa s.heap :=
 ⟨λb h=>I.young bp h,λp hp h=>by rw[(I.pin p hp).1]at h;cases h⟩
theorem Jma{aa:YP_}{σ:St}{H:Hp}{s:VH}{Q:VK}{us:List Va}{vs:List V}(F:QE X.prog X.w X.K X.mg X.base (CX1 X.prog X.w) k f fd ps sp)(hr:Zi k X.A)(hb:Z4 X.K fd ps [])(bp:X.ex=[])
 (I:Inv X aa σ H s) (r:QG vs us) (h:sp vs H Q E):VV (VW X.prog X.w) X.A (Ut (.ref f) us) (EP X aa σ Q) (X1P X aa σ E) s:=by
 have hl:(us++[]).length=ps.length:=by rw[UV,<- r.length];exact F.len _ _ _ _ h
 have b:=hb s us I.kIn hl;rw[UV]at b;refine UW (UX (F.run X.A X.stack s H ⟨us,[]⟩ us vs Q E hr I.env0 b r h) λres s' hq=>?_)
 cases res with
 | error ev =>
  obtain⟨ea,cls,dx,ch,H',rfl,os,bare,un,hok,y,n1,n2,hE⟩:=hq;refine⟨ea,cls,dx,ch,H',s.heap,rfl,I.call' (ch:=[]) os un hok bare (λb z=>absurd z #[2]),y,I.old bp,λb hb=>?_,n1,n2,hE⟩
  cases q:s.heap.get? b with
  | none=>rfl
  | some u =>
   obtain⟨u',q'⟩:=un.there b u q #[2]
   exact absurd (Vz (Vy q') hb) (VA _)
 | ok fl =>
  cases fl with
  | ret u=>exact I.after hq
  | next=>exact V8 hq
  | brk=>exact V8 hq
  | cont=>exact V8 hq
def Q3b(sp:Sp)(t:TA):TE1:=λσ H Q E=>t σ H λvs H1=>sp vs H1 Q E
theorem Ywb{aa:YP_}{σ:St}{H:Hp}{s:VH}{Q:List V->Hp->Prop}{W:YQ_}(ha:PA X.nox es t)(I:Inv X aa σ H s)(q:t σ H Q):VV (VW X.prog X.w) X.A (spliced (VY pos (VZ es X.env))) (AP X aa σ Q) W s :=
 V1 (ha pos aa s σ H Q (I.wish _) q) (λ_ _ ⟨vs,H',I',r,z⟩=>⟨vs,H',I'.unwish,r,z⟩) λ_ _ z=>V8 z
theorem ZOc(F:QE X.prog X.w X.K X.mg X.base (CX1 X.prog X.w) k f fd ps sp)(hr:Zi k X.A)(hg:Gl X x)(hm:X.mg x=Vo (.ref f))(hk:UI X.K (.ref f)=true)(hb:Z4 X.K fd ps [])(bp:X.ex=[])
 (ha:PA X.nox (e::es) t) (aV:(x == ("__debug__":Str))=false:=by decide) (he:VZ (e::es) X.env=(false,VX e X.env)::VZ es X.env:=by rfl) (aN:(VY pos (VZ es X.env)).any (·.1)=false:=by rfl) :
 PE1 X (.Call (.Name x p) (e::es) [] pos) (Q3b sp t):=by
 intro aa s σ H Q E I h;refine UY (YZ I hg hm ?_ aV)
 refine UZ (h₀:=X.base) I.ok.mod.kin hk (thn (Ywb ha I h) λus s1 ⟨vs,H1,I1,r,q⟩=>⟨I1.kIn,?_⟩) he aN
 exact Jma F hr hb bp I1 r q
end
section
variable{X:Cx}{aa:YP_}{σ:St}{H:Hp}{s:VH}
end
section
variable{X:Cx}{st b₀:V0}{gC:List V0}{t1:TS1}{ts:TS}{x:Str}{C:Vh}{bm kq:List Va}{B newId cR:String}{np kt pos:Pos}
end
section
variable{prog:Vg}{w:Vb}{A:VG}{s:VH}{R:UC->VH->Prop}{value:Va}
end
section
variable{M:VT}{A:VG}{E:YQ_}{env:Env}
variable{nm q:Str}{C N:Vh}{bs bm:List Va}{hdct:Bool}{sn:List Str}{sub:List Va}{ab:Bool}{col:Option Bool}{dd:Option Vh}{k0 k1 k2 k3 k5:Option Va}{newId:String}
end
section
variable{X:Cx}{E:XK}{x:Str}{C ea:Vh}{ps:YP_}{bm kq:List Va}{B newId cR:String}{np ay eE pos:Pos}{j:Nat}
end
def MeV(P:Vg)(w:Vb)(K:VD)(mg:Str->Option Va)(base:Vq)(k:Nat)(C:Vh)(m:Str)(sp:Sp):Prop :=
 ∃ f fd ps,QId K C m f/\QE P w K mg base (CX1 P w) k f fd ps sp/\Z4 K fd ps []
section
variable{X:Cx}{C:Vh}{m x:Str}{k i:Nat}{sp:Sp}{ta:TE}{t:TA}{e o:Expr}{es:List Expr}{p pos ao:Pos}{pl:Sem Bool}
theorem Xvb{aa:YP_}{σ:St}{H:Hp}{s:VH}{Q:VK}{W:YQ_}(h:PE X.nox e ta)(I:Inv X aa σ H s)(q:ta σ H Q):VV (VW X.prog X.w) X.A (VX e X.env) (EP X aa σ Q) W s :=
 V1 (h aa s σ H Q (I.wish _) q) (λ_ _ ⟨v,H',I',r,z⟩=>⟨v,H',I'.unwish,r,z⟩) λ_ _ z=>V8 z
end
section
variable{P:Vg}{w:Vb}{K:VD}{mg:Str->Option Va}{base:Vq}
theorem Fun.ok1{x qual:Str}{st:V0}{f:Vh}{fd:UU}{N ps:List Str}{k:Nat}{sp:Sp}(F:Fun K x qual st f fd)(S:Qp N ps (Qj st))(len:∀ vs H Q E,sp vs H Q E->vs.length=ps.length)
 (ck:∀ (ap:Va) (A:VG) (outer:List Env) (s:VH) (H:Hp) (vs:List V) (Q:VK) (E:XK),Zi k (A.deeper (U9 qual (Qj st) s.heap.objs.size f ap))->sp vs H Q E ->
  ∃ t,PSs (Jda (CX1 P w) P w K mg base N qual (Qj st) f ap A outer s H E) (XD st) t/\t { nx:=λ_ H'=>Q .non H',rt:=Q } (Jca N vs) H):QE P w K mg base (CX1 P w) (k+1) f fd ps sp:=by
 obtain⟨oc,od,kV,bS,pm,an,ap,ct,dR,rfl,lk,b7⟩:=F.ex;exact Y6c lk b7 S len λA outer s H vs Q E hr dB=>ck ap A outer s H vs Q E hr dB
end
section
variable{X:Cx}
theorem Ze:Y8a X E0:=λ_ _ _ _ _ _ _ _ _ _ _ _ _ _ h=>h.elim
end
section
variable{P:Vg}{w:Vb}{K:VD}{mg:Str->Option Va}{base:Vq}{N:List Str}{qual:Str}{scope:Scope}{f:Vh}{cd:Va}{A:VG}{outer:List Env}{s:VH}{H:Hp}{E:XK}
end
def Jgb(P:Vg)(w:Vb)(K:VD)(mg:Str->Option Va)(base:Vq)(k:Nat)(x:Str)(ps:List Str)(sp:Sp):Prop :=
 ∃ f fd,QE P w K mg base (CX1 P w) k f fd ps sp/\Z4 K fd ps []/\UI K (.ref f)=true/\mg x=Vo (.ref f)
def MkV(P:Vg)(w:Vb)(K:VD)(mg:Str->Option Va)(base:Vq)(k:Nat)(x:Str)(C:Vh)(sp:Sp):Prop :=
 ∃ f fd ps,Mk K C f/\QE P w K mg base CX0 k f fd ps sp/\Z4 K fd ps []/\mg x=Vo (.ref C)
section
variable{X:Cx}{e o:Expr}{es:List Expr}{t:TA}{ta:TE}{p pos ao:Pos}{j k:Nat}{x m:Str}{ps:List Str}{sp:Sp}{C:Vh}{E:XK}{pl:Sem Bool}
theorem Yyc(G:Jgb X.prog X.w X.K X.mg X.base j x ps sp)(hr:Zi k X.A)(hj:j<=k)(hg:Gl X x)(bp:X.ex=[])(ha:PA X.nox (e::es) t)(aV:(x == ("__debug__":Str))=false:=by decide)
 (he:VZ (e::es) X.env=(false,VX e X.env)::VZ es X.env:=by rfl) (aN:(VY pos (VZ es X.env)).any (·.1)=false:=by rfl):PE1 X (.Call (.Name x p) (e::es) [] pos) (Q3b sp t):=by
 obtain⟨f,fd,F,b,kp,m⟩:=G;exact ZOc F (hr.mono hj) hg m kp b bp ha aV he aN
theorem MeV.mono{P:Vg}{w:Vb}{K:VD}{mg:Str->Option Va}{base:Vq}(G:MeV P w K mg base j C m sp)(hj:j<=k):MeV P w K mg base k C m sp:=by
 obtain⟨f,fd,ps,a,F,b⟩:=G;exact⟨f,fd,ps,a,F.mono hj,b⟩
theorem Jhb(G:MkV X.prog X.w X.K X.mg X.base j x C sp)(hr:Zi k X.A)(hj:j+1<=k)(hg:Gl X x)(ha:PA X (e::es) t)(aV:(x == ("__debug__":Str))=false:=by decide)
 (he:VZ (e::es) X.env=(false,VX e X.env)::VZ es X.env:=by rfl) (aN:(VY pos (VZ es X.env)).any (·.1)=false:=by rfl):PE X (.Call (.Name x p) (e::es) [] pos) (Xeb C sp [] E0 t):=by
 obtain⟨f,fd,ps,M,F,b,hm⟩:=G;exact Yhc M F (hr.mono hj) hg hm b .nil Xhb ha aV he aN
end
end L2
end
section
namespace Tg
open PySem L2 Pl
def Xhc(c:Nat):Bool:=decide (32<=c/\c<=126/\c≠37)
def ZKc(z:Str):Prop:=z.length<=10000000
def Jeb:V->Prop
 | .non=>True
 | .bl _=>True
 | .int _=>True
 | .str z=>ZKc z
 | _=>False
def TT:Nat->Hp->V->Prop
 | 0,H,v=>Jeb v\/∃ a,v=.ref a/\((∃ xs,H a=Vo (.lst xs))\/H a=Vo (.dK [])\/∃ xs,H a=Vo (.tup xs)/\xs.length<=100000)
 | n+1,H,v=>Jeb v\/∃ a,v=.ref a/\((∃ xs,H a=Vo (.lst xs))\/H a=Vo (.dK [])\/∃ xs,H a=Vo (.tup xs)/\xs.length<=100000/\∀ u∈xs,TT n H u)
end Tg
end
section
namespace L2
open PySem PySem.Spec PyProof.Rows
section
variable{X:Cx}
end
section
variable{X:Cx}
end
end L2
end
section
namespace PySem
section
variable{prog:Vg}{w:Vb}{A:VG}{E:YQ_}{h:Vq}{g:Array VQ}{d:Drawn}{t:Nat}{os:OsState}
variable{nm q:Str}{C N:Vh}{bs bm kq:List Va}{hdct:Bool}{sn:List Str}{sub:List Va}{ab:Bool}{col:Option Bool}{dd:Option Vh}{k0 k1 k2 k3 k5:Option Va}{B newId cR:String}
abbrev JNa(h:Vq)(C:Vh):Obj:={ cls:=.ref C,data:=.fields #[.ref h.objs.size,.none,.none,.none,.bool false,.none] }
abbrev Y9a(rest:List Va):Obj:={ cls:=.type "tuple",data:=.seq rest.toArray }
end
end PySem
end
section
namespace PySem.W
open PySem PySem.Spec PySem.Calls PyProof.Rows PySem.Builtin PySem.Builtin.ObjectAttr
abbrev bmV:List Va:=[.type "ValueError",.type "Exception",.type "BaseException",.type "object"]
structure XCl(K:VD)(C CT:Vh):Prop where
 cl:∃ nm q N bs sn sub ab col dd k0 k1 k2 k3 k5,K.lookup C=Vo (Lx nm q C N bs (.ref CT::bmV) true sn sub ab col dd k0 k1 k2 k3 k5 "ValueError.__new__")/\nsOkIn K N=true
 tail:tailIn K bmV (.ref CT::bmV)=true
 ga:Uy K (.ref C) "__getattribute__"=Vo (Vo (.builtin "BaseException.__getattribute__"))
 gt:Uy K (.ref C) "__getattr__"=Vo Vp
 sa:Uy K (.ref C) "__setattr__"=Vo (Vo (.builtin "object.__setattr__"))
 cc:Uy K (.ref C) "__class__"=Vo (Vo (.builtin "object.__class__"))
 cg:specialIn K (.builtin "object.__class__") "__get__"=Vo (Vo (.builtin "getset_descriptor.__get__"))
 ct:takesIn K (.builtin "object.__class__")=Vo true
section
variable{K:VD}{C CT:Vh}
theorem XCl.cd(c:XCl K C CT):∃ cd,clsIn K C=Vo cd/\cd.mro=.ref C::.ref CT::bmV/\cd.hasDict=true:=by
 obtain⟨nm,q,N,bs,sn,sub,ab,col,dd,k0,k1,k2,k3,k5,lk,_⟩:=c.cl;have e:clsIn K C=(match (Lx nm q C N bs (.ref CT::bmV) true sn sub ab col dd k0 k1 k2 k3 k5 "ValueError.__new__") with | ⟨_,_,.cls cd,_⟩=>Vo cd | _=>Vp):=by unfold clsIn;rw[lk]
 exact⟨_,e,rfl,rfl⟩
theorem XCl.mro(c:XCl K C CT)(T:Va):mroIn K C T=Vo ((Vk C::.ref CT::bmV).contains T):=by
 obtain⟨cd,h,m,_⟩:=c.cd;unfold mroIn;rw[h,Option.bind_some,m];rfl
theorem XCl.mroT(c:XCl K C CT){T:String}(h:bmV.contains (.type T)=true):mroIn K C (.type T)=Vo true:=by
 rw[c.mro,LB,LB,h];rfl
end
section
variable{prog:Vg}{w:Vb}{A:VG}{E:YQ_}{s:VH}{K:VD}{x C CT:Vh}{ox:Obj}{od:Option Obj}{name:Str}
theorem QCd{tk:Tok}{DD fF:Bool}{Q:YQ_}(X:K.In s.heap)(I:InstAt s.heap x ox C od)(c:XCl K C CT)
 (h:VV (VW prog w) A.in1 (OW.«object.__getattribute__» ⟨[.ref x,.str name tk],[]⟩)
  (λfin s'=>match fin with | .done (.ret v)=>VV (VW prog w) A (handedOut v) Q E s' | _=>False) (λ_ _=>False) s) :
 VV (VW prog w) A (getAttrBy (.ref x) (.str name tk) DD fF) Q E s:=by
 have L0:=I.type (M:=VW prog w);have L1:=looks_findIn (M:=VW prog w) X c.ga;have SL:=F.attr_ValueError.ga;unfold getAttrBy;refine Ln (Uh (L0.here (Uh (L1.here ?_))))
 dsimp only;rw[show(onTheHeap (Vk C) && LC "BaseException.__getattribute__" == LC "object.__getattribute__")=false from by rw[show(LC "BaseException.__getattribute__" == LC "object.__getattribute__")=false from by decide +kernel,LD],if_neg #[1]]
 unfold getAttrByItsOwn;refine Uh ((looks_hook (mc:=.ref C) X (r:=Vp) (by show(if onTheHeap (.ref C)=true then Uy K (.ref C) "__getattr__" else Vo Vp)=Vo Vp;rw[if_pos (show onTheHeap (Vk C)=true from rfl)];exact c.gt)).here (Uh (IX (Ln ?_))))
 unfold callGetattribute;rw[show(fF && onTheHeap (LC "BaseException.__getattribute__"))=false from LD _,if_neg #[1]]
 unfold boundAndCalled;rw[SL.bind];refine Uh (Ug ?_)
 show VV _ _ (Ut (.builtin "BaseException.__getattribute__") [.ref x,.str name tk]) _ _ _;refine UW ?_
 refine LF SL.plain F.entry_bexc_ga ?_
 refine @check_slot (VW prog w) _ _ s "BaseException.__getattribute__" "BaseException" "__getattribute__" (.ref x) [.str name tk] [] _ (by decide +kernel) (by decide +kernel) (I.type.andThen (looks_mroIn X (c.mroT #[1]))) (F.args_bexc_ga _ _) ?_
 refine V1 h (λfin s' z=>?_) λ_ _ z=>z.elim
 rcases fin with (_ | _ | _ | _) | _ <;> first | exact z | exact z.elim
theorem Qqc{R:UC->VH->Prop}{tk:Tok}{v:Va}(X:K.In s.heap)(I:InstAt s.heap x ox C od)(c:XCl K C CT)(ht:Uy K (.ref C) name=Vo Vp)
 (h:∀ b,VV (VW prog w) A.in1 (storeInOwnDict (.ref x) (.ref C) (.str name tk) name v b)
  (λfin s'=>match fin with | .done f=>R (.ok f) s' | .again c'=>c'.quiet=true/\UE (VW prog w) A c' R s') (λe s'=>R (.error e) s') s) :
 UE (VW prog w) A (.call (.builtin "object.__setattr__") ⟨[.ref x,.str name tk,v],[]⟩) R s:=by
 have SF:=F.store_object;obtain⟨cd,hc,ho,_⟩:=c.cd;have sub:Looks (VW prog w) s.heap (isInstance (.ref x) (.type "object")) true:=I.type.andThen (looks_mroIn X (c.mroT #[1]))
 refine LF SF.slot.plain SF.entry (@check_slot (VW prog w) _ _ s "object.__setattr__" "object" "__setattr__" (.ref x) [.str name tk,v] [] _ SF.kind SF.split sub (SF.args (.ref x) (.str name tk) v) ?_)
 have hm:Looks (VW prog w) s.heap (mroOf (.ref C)) cd.mro:=(looks_clsIn X hc).andThen .now;rw[osa_eq,refuse_eq];refine Uh (Uh (I.type.here (Uh (hm.here ?_))))
 rw[ho,Dy,Dy,F.store_ValueError.passes];refine Ug (Uh (I.type.here (Uh ((looks_findIn X ht).here (Uh (Ug (a:=Vp) ?_))))))
 exact h _
theorem Qrc{v:Va}{Q:Unit->VH->Prop}(X:K.In s.heap)(c:XCl K C CT)(ht:Uy K (.ref C) name=Vo Vp)(hx:s.heap.get? x=Vo ox)(ij:ox.cls=.ref C)(hn:notCls ox=true)(dY:ox.isFreed=false)
 (hd:ox.dict=Vp) (h:∀ h',h'.Ns1 s.heap.objs.size (λy=>if y=name then Vo v else Vp)->h'.get? x=Vo { ox with dict:=Vo s.heap.objs.size }->(∀ b o,b≠x->s.heap.get? b=Vo o->h'.get? b=Vo o)->Q () { s with heap:=h',toks:=s.toks+2 }) :
 VV (VW prog w) A (setAttr (.ref x) name v) Q E s:=by
 have J:InstAt s.heap x ox C Vp:=⟨hx,ij,hn,by rw[hd];trivial⟩
 refine set_plain X J c.sa (Qqc (s:={ s with toks:=s.toks+1 }) X J c ht λb=>?_)
 obtain⟨cd,hc,_,bo⟩:=c.cd;obtain⟨oc,odi,ou,dR⟩:=ox;dsimp only at ij hd;subst ij hd;refine Uh (Ug (Uh (Uh (wpAny_loadPart hx (Uh (Looks.here (s:={ s with toks:=s.toks+1 }) (looks_clsIn X hc) ?_))))))
 rw[bo];have u7:(s.heap.push { cls:=.type "dict",data:=.dict #[] }).get? x=Vo ⟨.ref C,Vp,ou,dR⟩:=Uk _ hx
 have vb:x≠s.heap.objs.size:=VB (Vy hx);rw[if_neg #[1]]
 dsimp only;rw[if_neg (show ¬ ((!true || !typeHasDict (Vk C))=true) by simp[typeHasDict])]
 have yF:((s.heap.push { cls:=.type "dict",data:=.dict #[] }).update x λo=>{ cls:=o.cls,dict:=Vo s.heap.objs.size,data:=o.data,slots:=o.slots }).get? s.heap.objs.size=Vo { cls:=.type "dict",data:=.dict #[] } :=
  (Heap.get?_update_ne _ _ _ _ vb.symm).trans (Heap.get?_push_at rfl rfl)
 have yG:((s.heap.push { cls:=.type "dict",data:=.dict #[] }).update x λo=>{ cls:=o.cls,dict:=Vo s.heap.objs.size,data:=o.data,slots:=o.slots }).Ns s.heap.objs.size (λ_=>Vp) :=
  ⟨_,#[],_,yF,rfl,λe he=>absurd he #[2],λ_=>rfl⟩
 have yH:((s.heap.push { cls:=.type "dict",data:=.dict #[] }).update x λo=>{ cls:=o.cls,dict:=Vo s.heap.objs.size,data:=o.data,slots:=o.slots }).get? x=Vo ⟨.ref C,Vo s.heap.objs.size,ou,dR⟩:=by
  refine Lv _ u7 ?_
  cases ou <;> first | rfl | exact dY
 have fH:VV (VW prog w) A.in1 (do let d <- alloc { cls:=.type "dict",data:=.dict #[] };update x λo=>{ cls:=o.cls,dict:=Vo d,data:=o.data,slots:=o.slots };dictMade (Vk C) x d)
  (λa s'=>VV (VW prog w) A.in1 (match a with | some d=>storeInDict d (Vf name s.toks) name v | none=>noDictFor (Vk x) (Vk C) name b)
   (λfin s'=>match fin with | .done f=>(match (Except.ok f:UC) with | .ok (.ret _)=>Q () s' | .ok _=>False | .error e=>E e s') | .again c'=>c'.quiet=true/\UE (VW prog w) A c' (λr s'=>match r with | .ok (.ret _)=>Q () s' | .ok _=>False | .error e=>E e s') s') (λe s'=>E e s') s')
  (λe s'=>E e s') { s with toks:=s.toks+1 }:=by
  refine Uh (wpAny_alloc' ?_)
  refine Uh (wpAny_update' u7 ?_)
  refine Ug ?_
  show VV _ _ (storeInDict s.heap.objs.size (.str name s.toks) name v) _ _ _;unfold storeInDict newKeyGuard;refine Uh (Ug (Uh (wpAny_nsSet1 (Heap.Ns1.of_empty yG) λh' gq hs=>?_)))
  obtain⟨oD,yf,yg,pK,pL,pM⟩:=gq.count (Within.cons name v Within.nil);refine Uh (wpAny_lookBehind pK (by rw[pL];exact pastItsLine_dict (VJ pM (by rw[UB,OF,Uw];lia))) ?_)
  refine Ug (h h' gq ((hs.2 x vb).trans yH) λb ob yI hb=>?_)
  exact(hs.2 b (VB (Vy hb))).trans ((Heap.get?_update_ne _ _ _ _ yI).trans (Uk _ hb))
 cases ou with
 | cls c=>exact absurd hn (by simp[notCls])
 | _=>exact fH
end
end PySem.W
end
section
namespace L2
open PySem PySem.Spec PyProof.Rows
abbrev QXd(C:Vh)(dx:Option Vh)(t:Vh):Obj:={ cls:=.ref C,dict:=dx,data:=.fields #[.ref t,.none,.none,.none,.bool false,.none] }
def xN(e C:Vh)(dx:Option Vh):HO:=.ext λh=>∃ t,h.get? e=Vo (QXd C dx t)
def xD(d:Vh)(fs:List (Str×V)):HO:=.ext λh=>∃ mA,h.Ns1 d mA/\(∀ f,Yu (fs.lookup f) (mA f))/\Vx mA (fs.map (·.1))
section
variable{P:Vg}{w:Vb}{H:Hp}{h:Vq}{e C:Vh}{dx:Option Vh}{fs:List (Str×V)}
theorem ZPc{t:Vh}(q:h.get? e=Vo (QXd C dx t)):QR P w H h e (xN e C dx):=⟨⟨t,q⟩,⟨_,q⟩,λh1 h2 ⟨t,q⟩ k=>⟨t,k _ q⟩⟩
theorem QYd{mA:Str->Option Va}(q:h.Ns1 e mA)(a:∀ f,Yu (fs.lookup f) (mA f))(b:Vx mA (fs.map (·.1))):QR P w H h e (xD e fs) :=
 ⟨⟨mA,q,a,b⟩,let ⟨o,_,_,z,_⟩:=q;⟨o,z⟩,λh1 h2 ⟨mA,q,r⟩ k=>⟨mA,q.at k,r⟩⟩
end
section
variable{X:Cx}{aa:YP_}{σ:St}{H:Hp}{s:VH}{a C CT:Vh}{fs:List (Str×V)}
end
section
variable{X:Cx}{aa:YP_}{σ:St}{H H':Hp}{s:VH}{d e:Vh}{o:HO}
theorem Inv.track(I:Inv X aa σ H s)(hn:H d=Vp)(y:X.s₀.heap.get? d=Vp)(nl:d≠X.env.locals)(nc:∀ x c,X.env.cells.lookup x=Vo c->c≠d)(np:∀ p∈X.pn++aa,p.1≠d)(ok:QR X.prog X.w (upd H d o) s.heap d o) :
 Inv X aa σ (upd H d o) s :=
 ⟨I.ok,I.os,I.bare,⟨I.base.keep,I.base.slot,λb u q n hx=>by rw[Qk (λz=>by rw[z,y]at q;cases q)];exact I.base.free b u q n hx,I.base.there,λb xs q=>by have z:=I.base.tups b xs q;rw[Qk (Qy z hn)];exact z,
  λb u xs q=>by have z:=I.base.frzs b u xs q;rw[Qk (Qy z hn)];exact z,λb ps q=>by obtain⟨m,z⟩:=I.base.tbls b ps q;exact⟨m,by rw[Qk (Qy z hn)];exact z⟩⟩,
  I.loc,I.cell,by rw[Qk (VR nl)];exact I.free,λx c q=>by rw[Qk (nc x c q)];exact I.freeC x c q,λp hp=>by obtain⟨a,b,r⟩:=I.pin p hp;exact⟨a,by rw[Qk (np p hp)];exact b,r⟩,
  λb u q=>by
   by_cases hb:b=d
   ·subst hb;rw[Qa]at q;cases q;exact ok
   ·rw[Qk hb]at q
    exact(I.hok b u q).stay (λc v _ r=>r) (λc r=>by rw[Qk (Qy r hn)];exact r) λc xs r=>by rw[Qk (Qy r hn)];exact r,
  I.len⟩
theorem Inv.nowhere(I:Inv X aa σ H s)(bp:X.ex=[])(h:s.heap.get? d=Vp):H d=Vp/\X.s₀.heap.get? d=Vp/\d≠X.env.locals/\(∀ x c,X.env.cells.lookup x=Vo c->c≠d)/\∀ p∈X.pn++aa,p.1≠d:=by
 refine⟨I.hok.none_of h,I.young bp h,λz=>?_,λx c q z=>?_,λp hp z=>?_⟩
 ·obtain⟨m,⟨o,es,ep,ho,_⟩,_⟩:=I.loc
  rw[z,ho]at h;cases h
 ·obtain⟨v,o,ho,_⟩:=I.cell x c q
  rw[z,h]at ho;cases ho
 ·have:=(I.pin p hp).1
  rw[z,h]at this;cases this
theorem Inv.off{φ:Vq->Prop}(I:Inv X aa σ H s)(he:H e=Vo (.ext φ))(y:X.s₀.heap.get? e=Vp)(h3:∀ b,b≠e->H' b=H b)(hn:H' e=Vp):Inv X aa σ H' s:=by
 have ne:∀ b,H b=Vp->b≠e:=λb q z=>by rw[z,he]at q;cases q
 have nt:∀ b u,H b=Vo u->(∀ ψ,u≠.ext ψ)->b≠e:=λb u q n z=>by rw[z,he]at q;cases q;exact n _ rfl
 have tt:∀ b xs,H b=Vo (.tup xs)->H' b=Vo (.tup xs):=λb xs q=>(h3 b (nt b _ q (λ_ z=>by cases z))).trans q
 refine⟨I.ok,I.os,I.bare,⟨I.base.keep,I.base.slot,λb u q n hx=>?_,I.base.there,λb xs q=>tt b xs (I.base.tups b xs q),λb u xs q=>?_,λb ps q=>?_⟩,I.loc,I.cell,(h3 _ (ne _ I.free)).trans I.free,λx c q=>(h3 _ (ne _ (I.freeC x c q))).trans (I.freeC x c q),λp hp=>?_,λb u q=>?_,I.len⟩
 ·have z:=I.base.free b u q n hx
  exact(h3 b (ne b z)).trans z
 ·have z:=I.base.frzs b u xs q
  exact(h3 b (nt b _ z (λ_ z=>by cases z))).trans z
 ·obtain⟨m,z⟩:=I.base.tbls b ps q
  exact⟨m,(h3 b (nt b _ z (λ_ z=>by cases z))).trans z⟩
 ·obtain⟨a,b,r⟩:=I.pin p hp
  exact⟨a,(h3 _ (ne _ b)).trans b,r⟩
 ·have hb:b≠e:=λz=>by rw[z,hn]at q;cases q
  rw[h3 b hb]at q;exact(I.hok b u q).stay (λc v _ r=>r) (λc r=>(h3 c (nt c _ r (λ_ z=>by cases z))).trans r) tt
end
section
variable{X:Cx}{aa:YP_}{σ:St}{H:Hp}{s:VH}{a C CT:Vh}{f:Str}
theorem QZd{A:VG}{E:YQ_}{y:V}{u:Va}{Q:Unit->VH->Prop}(I:Inv X aa σ H s)(bp:X.ex=[])(e:H a=Vo (xN a C Vp))(c:W.XCl X.K C CT)(n:JX X.K C f)(ry:QB y u)
 (h:∀ d s',H d=Vp->d≠a->Inv X aa σ (upd (upd H a (xN a C (Vo d))) d (xD d [(f,y)])) s'->Q () s'):VV (VW X.prog X.w) A (setAttr (.ref a) f u) Q E s:=by
 obtain⟨⟨t,q⟩,_,_⟩:=(show QR X.prog X.w H s.heap a (xN a C Vp) from I.hok a _ e)
 refine W.Qrc I.kIn c n q rfl rfl rfl rfl λh' nY hx hk=>?_
 obtain⟨w1,w2,w3,w4,w5⟩:=I.nowhere bp (VP (Um s.heap.objs.size))
 have ax:s.heap.objs.size≠a:=λz=>by rw[z,e]at w1;cases w1
 refine h s.heap.objs.size _ w1 ax ?_
 have I1:Inv X aa σ (upd H a (xN a C (Vo s.heap.objs.size))) { s with heap:=h',toks:=s.toks+2 } :=
  I.write (x:=a) (e:=a) (by rw[e];exact UK) (.inl rfl) (λb u hb z=>hk b u hb z) ⟨_,hx⟩ (ZPc (t:=t) hx)
 refine I1.track (by rw[Qk ax];exact w1) w2 w3 w4 w5 (QYd nY (λg=>?_) λg hg=>?_)
 ·by_cases hg:g=f
  ·have hb:(g == f)=true:=beq_iff_eq.mpr hg
   simp only[UG,hb,if_pos hg];exact ry
  ·have hb:(g == f)=false:=beq_eq_false_iff_ne.mpr hg
   simp only[UG,hb,if_neg hg];trivial
 ·by_cases z:g=f
  ·rw[z];simp
  ·rw[if_neg z]at hg;exact absurd hg #[2]
def ZQc(K:VD)(CT:Vh)(ta tv:TE)(f:Str):TS:=λD σ H=>tv σ H λy H1=>ta σ H1 λx H2=>∃ a C,x=.ref a/\H2 a=Vo (xN a C Vp)/\W.XCl K C CT/\JX K C f /\
 ∀ d,H2 d=Vp->d≠a->D.nx σ (upd (upd H2 a (xN a C (Vo d))) d (xD d [(f,y)]))
def Yzc(K:VD)(CT:Vh)(ta tv:TE)(f:Str):TS:=λD σ H=>tv σ H λy H1=>ta σ H1 λx H2=>∃ a C d fs,x=.ref a/\H2 a=Vo (xN a C (Vo d))/\H2 d=Vo (xD d fs)/\W.XCl K C CT/\JX K C f/\fs.length < 1000 /\
 D.nx σ (upd H2 d (xD d (Z3 f y fs)))
variable{o value:Expr}{pos aI:Pos}{ta tv:TE}
theorem Q4b(CT:Vh)(bp:X.ex=[])(ha:PE X o ta)(hv:PE X value tv)(hs:Ua value (Vo (.Attribute o f aI)) pos.line X.env=pure false):PS X (.Assign [.Attribute o f aI] value pos) (ZQc X.K CT ta tv f):=by
 intro aa s σ H D I h;refine plainObj_wpAny_Assign_Attribute (thn (hv aa s σ H _ I h) λu s1 ⟨y,H1,I1,ry,q⟩=>thn (ha aa s1 σ H1 _ I1 q) λov s2 hZ=>?_) hs
 obtain⟨x,H2,I2,rx,a,C,ex,ea,c,n,q2⟩:=hZ;subst ex;obtain rfl:ov=Vk a:=rx;exact QZd I2 bp ea c n ry λd s3 w1 w2 I3=>⟨σ,_,I3,q2 d w1 w2⟩
structure Q0d(K:VD)(mg:Str->Option Va)(x:Str)(CT:Vh):Prop where
 mg_:mg x=Vo (.ref CT)
 cl:Zhd K CT W.bmV W.bmV "ValueError.__new__"
 sp:UO K (.ref CT) "__getattribute__"=Vo (Vo (.builtin "type.__getattribute__"))
 rd:W.readsIn K CT (.type "type")=true
 ini:W.findCls K (.ref CT) (.type "type") "__init__"=Vo (.val (.builtin "ValueError.__init__"))
def tBI(K:VD)(CT:Vh)(t:TA):TE:=λσ H Q=>t σ H λvs H1=>∃ a C ws,vs=.ref a::ws/\ws.length<=1000/\H1 a=Vo (xN a C Vp)/\W.XCl K C CT/\Q .non H1
end
end L2
end
section
namespace PySem
section
variable{prog:Vg}{w:Vb}{A:VG}{E:YQ_}{s:VH}{K:VD}{C CT e t:Vh}{dx:Option Vh}
theorem Yxb{rest:List Va}{Q:YQ_}(X:K.In s.heap)(c:W.XCl K C CT)(he:s.heap.get? e=Vo { cls:=.ref C,dict:=dx,data:=.fields #[.ref t,.none,.none,.none,.bool false,.none] })(hl:rest.length<=Vs)
 (h:∀ h' t',h'.get? e=Vo { cls:=.ref C,dict:=dx,data:=.fields #[.ref t',.none,.none,.none,.bool false,.none] }->(∀ b o,b≠e->s.heap.get? b=Vo o->h'.get? b=Vo o)->Q .none { s with heap:=h' }) :
 VV (VW prog w) A (Ut (.builtin "ValueError.__init__") (.ref e::rest)) Q E s:=by
 obtain⟨nm,q,N,bs,sn,sub,ab,col,dd,k0,k1,k2,k3,k5,lk,ok⟩:=c.cl;have FB:=F.excBase_ValueError;have TL:OwnTail s.heap W.bmV (.ref CT::W.bmV):=W.tail_of_in X c.tail;have hC:=X _ _ lk;obtain⟨hh,g,d,tk,os⟩:=s;refine UW (LF FB.init.plain FB.initEntry (wpAny_check_init_subT FB TL hC he rfl ?_))
 wp_walk
 refine h _ hh.objs.size ?_ λb o hb z=>?_
 ·rw[Lv _ (Uk _ he) rfl]
  rfl
 ·rw[Ou _ _ (VR hb)]
  exact Uk _ z
end
section
variable{prog:Vg}{w:Vb}{A:VG}{E:YQ_}{h:Vq}{g:Array VQ}{d:Drawn}{t:Nat}{os:OsState}{K:VD}{C CT:Vh}
theorem X7c(X:K.In h)(c:W.XCl K C CT){rest:List Va}{fI:Vh}{Q:Fin->VH->Prop}(hf:Uy K (.ref C) "__init__"=Vo (Vo (.ref fI)))(fE:Uz K (.ref fI)=true)
 (fin:∀ h' e,Heap.MadeExcOf h h' e (.ref C) rest->VV (VW prog w) A (Ut (.ref fI) (.ref e::rest)) (λr s'=>r=.none/\Q (.done (.ret (.ref e))) s') E ⟨h',g,d,t,os⟩) (eU:rest.length<=Vs) :
 VV (VW prog w) A (OW.«type.__call__» ⟨.ref C::rest,[]⟩) Q E ⟨h,g,d,t,os⟩:=by
 obtain⟨nm,q,N,bs,sn,sub,ab,col,dd,k0,k1,k2,k3,k5,lk,ok⟩:=c.cl;have FB:=F.excBase_ValueError;have TL:OwnTail h W.bmV (.ref CT::W.bmV):=W.tail_of_in X c.tail;have cl:=X _ _ lk
 repeat (first | (with_reducible refine LG cl ?_) | (with_reducible refine wpAny_madeBy_exc cl ?_) | wp_step)
 refine codeAny_call_builtin_code (Code.quiet_builtin _ FB.quiet) (wpAny_check_new_subT FB TL cl ?_)
 refine codeAny_exc_new_subT FB TL cl ?_ eU
 show VV _ _ _ _ _ _;have kp:∀ b o,h.get? b=Vo o->((h.push (Y9a rest)).push (JNa h C)).get? b=Vo o:=λb o e=>Uk _ (Uk _ e)
 have X1:K.In ((h.push (Y9a rest)).push (JNa h C)):=X.keeps kp;have yJ:((h.push (Y9a rest)).push (JNa h C)).get? C=_:=kp _ _ cl;have ku:((h.push (Y9a rest)).push (JNa h C)).get? (h.objs.size+1)=Vo (JNa h C):=by heap_get
 have self:(Vk C::.ref CT::W.bmV).contains (.ref C)=true:=by rw[LB];simp
 unfold isInstance
 repeat (first | (with_reducible refine LG ku ?_) | (with_reducible refine wpAny_isSubtype_exc yJ ?_;rw[self]) | wp_step)
 show VV _ _ (Ol (.ref C) _) _ _ _;refine(W.looks_findIn (M:=VW prog w) X1 hf).at ?_
 refine Ln (Uh ((W.bind_fn (M:=VW prog w) X1 _ (beq_iff_eq.mp fE)).at ?_))
 have mk:Heap.MadeExcOf h ((h.push (Y9a rest)).push (JNa h C)) (h.objs.size+1) (.ref C) rest :=
  ⟨kp,VP (U0 _),h.objs.size,ku,VP (Um _),Uk _ (Heap.get?_push_at rfl rfl)⟩
 refine Uh (V1 (fin _ (h.objs.size+1) mk) (λr s' hr=>?_) λ_ _ z=>z)
 obtain⟨rfl,hQ⟩:=hr
 wp_walk
 exact hQ
theorem X8c(X:K.In h)(c:W.XCl K C CT){rest:List Va}{fI:Vh}{Q:YQ_}(hf:Uy K (.ref C) "__init__"=Vo (Vo (.ref fI)))(fE:Uz K (.ref fI)=true)
 (fin:∀ h' e,Heap.MadeExcOf h h' e (.ref C) rest->VV (VW prog w) (A.under (.builtin "type.__call__" ⟨.ref C::rest,[]⟩)) (Ut (.ref fI) (.ref e::rest)) (λr s'=>r=.none/\Q (.ref e) s') E ⟨h',g,d,t,os⟩) (eU:rest.length<=Vs) :
 VV (VW prog w) A (Ut (.ref C) rest) Q E ⟨h,g,d,t,os⟩:=by
 obtain⟨nm,q,N,bs,sn,sub,ab,col,dd,k0,k1,k2,k3,k5,lk,ok⟩:=c.cl;have cl:=X _ _ lk;have l1:=tc_lookup;have l2:=tc_bind (.ref C);have ty:(⟨h,g,d,t,os⟩:VH).TypeIs (.ref C) "type":=⟨_,cl,rfl⟩;refine UW (codeAny_of_tree ?_)
 show VV _ _ (callAny (.ref C) _) _ _ _
 repeat (any_goals (first | assumption | (with_reducible refine LG cl ?_) | wp_step))
 refine⟨rfl,?_⟩
 refine codeAny_call_builtin_at (Code.quiet_builtin _ (by decide +kernel)) entry_typeCall (wpAny_check_type_call_sub cl (X7c X c hf fE (λh' e hm=>?_) eU))
 exact fin h' e hm
end
section
variable{M:VT}{A:VG}{E:YQ_}{env:Env}
variable{nm q:Str}{C N:Vh}{bs bm:List Va}{hdct:Bool}{sn:List Str}{sub:List Va}{ab:Bool}{col:Option Bool}{dd:Option Vh}{k0 k1 k2 k3 k5:Option Va}{newId:String}
theorem Qsc{s:VH}{x:Sem Va}{Q:Flow->VH->Prop}(eF:bm.contains (.type "BaseException")=true)(hh:A.handled=Vp)
 (h:VV M A x (λv s₁=>∃ e t dx,v=.ref e/\s₁.heap.get? C=Vo (Lx nm q C N bs bm hdct sn sub ab col dd k0 k1 k2 k3 k5 newId)/\s₁.heap.get? e=Vo { cls:=.ref C,dict:=dx,data:=.fields #[.ref t,.none,.none,.none,.bool false,.none] }/\E (.ref e) s₁) E s) :
 VV M A (raiseStmt env (Vo x) Vp) Q E s:=by
 have yK:(Vk C::bm).contains (.type "BaseException")=true:=by rw[LB,eF,Bool.or_true]
 unfold raiseStmt;refine Uh (V1 h (λv s₁ h₁=>?_) λ_ _ x=>x)
 obtain⟨e,t,dx,rfl,hC,he,hE⟩:=h₁;obtain⟨hp,g,d,tk,os⟩:=s₁
 repeat (first | with_reducible refine LG he ?_ | with_reducible refine LG hC ?_ | (with_reducible refine wpAny_isSubtype_exc hC ?_;rw[yK]) | wp_step)
 exact wpAny_raiseNew_none hh hE
variable{nm' q':Str}{CT N':Vh}{bs' bm':List Va}{hdct':Bool}{sn':List Str}{sub':List Va}{ab':Bool}{col':Option Bool}{fq:Option Vh}{j0 j1 j2 j3 j5:Option Va}{newId':String}
end
end PySem
namespace PySem.W
open PySem
def QFa(K:VD)(C:Vh)(fl:List Str):Bool:=Uy K (.ref C) "__getattribute__" == Vo (Vo (.builtin "BaseException.__getattribute__")) && (Uy K (.ref C) "__getattr__" == Vo Vp && (Uy K (.ref C) "__setattr__" == Vo (Vo (.builtin "object.__setattr__")) && (Uy K (.ref C) "__class__" == Vo (Vo (.builtin "object.__class__")) && fl.all λf=>Uy K (.ref C) f == Vo Vp)))
section
variable{K:VD}{C CT:Vh}{fl:List Str}
theorem Qzb(h:QFa K C fl=true):Uy K (.ref C) "__getattribute__"=Vo (Vo (.builtin "BaseException.__getattribute__"))/\Uy K (.ref C) "__getattr__"=Vo Vp/\Uy K (.ref C) "__setattr__"=Vo (Vo (.builtin "object.__setattr__")) /\
 Uy K (.ref C) "__class__"=Vo (Vo (.builtin "object.__class__"))/\∀ f∈fl,Uy K (.ref C) f=Vo Vp:=by
 unfold QFa at h;simp only[OZ,beq_iff_eq,O8]at h;exact h
theorem Zga(h:QFa K C fl=true){f:Str}(hf:f∈fl):L2.JX K C f:=(Qzb h).2.2.2.2 f hf
theorem XCl.of(cl:∃ nm q N bs sn sub ab col dd k0 k1 k2 k3 k5,K.lookup C=Vo (Lx nm q C N bs (.ref CT::bmV) true sn sub ab col dd k0 k1 k2 k3 k5 "ValueError.__new__")/\nsOkIn K N=true)(tail:tailIn K bmV (.ref CT::bmV)=true)
 (h:QFa K C fl=true) (cg:specialIn K (.builtin "object.__class__") "__get__"=Vo (Vo (.builtin "getset_descriptor.__get__"))) (ct:takesIn K (.builtin "object.__class__")=Vo true):XCl K C CT :=
 let ⟨a,b,c,d,_⟩:=Qzb h;⟨cl,tail,a,b,c,d,cg,ct⟩
def ZRc(K:VD)(l:List Vh):Bool:=(VC l.length).all λi=>(VC l.length).all λj=>kitOne K (.ref (l.getD i 0)) (.ref (l.getD j 0)) == Vo (decide (i=j))
def X9c(K:VD)(l:List Vh):Bool:=(VC l.length).all λi=>kitOne K (.ref (l.getD i 0)) (.type "ValueError") == Vo true
theorem YAc{l:List Vh}(h:ZRc K l=true):∀ i j,i < l.length->j < l.length->kitOne K (.ref (l.getD i 0)) (.ref (l.getD j 0))=Vo (decide (i=j)):=by
 unfold ZRc at h;simp only[O8,Du,beq_iff_eq]at h;exact λi j hi hj=>h i hi j hj
theorem Qad{l:List Vh}(h:X9c K l=true):∀ i,i < l.length->kitOne K (.ref (l.getD i 0)) (.type "ValueError")=Vo true:=by
 unfold X9c at h;simp only[O8,Du,beq_iff_eq]at h;exact h
end
end PySem.W
namespace L2
open PySem PySem.Spec PyProof.Rows
section
variable{X:Cx}{x:Str}{CT:Vh}{e:Expr}{es:List Expr}{t:TA}{p pos ao ay np:Pos}{pl:Sem Bool}
theorem Jna(T:Q0d X.K X.mg x CT)(hg:Gl X x)(ha:PA X (e::es) t)(aV:(x == ("__debug__":Str))=false:=by decide)
 (he:VZ (e::es) X.env=(false,VX e X.env)::VZ es X.env:=by rfl) (aN:(VY pos (VZ es X.env)).any (·.1)=false:=by rfl)
 (ht:VX (.Call (.Attribute (.Name x p) "__init__" ao) (e::es) [] pos) X.env=(do
  let ov <- VX (.Name x p) X.env
  V5 ao.atName
  let (f,first) <- V6 [ov] (UA ov "__init__" pl)
  LH pos f first (VY pos (VZ (e::es) X.env)) (U3 pos (U4 [] X.env))):=by rfl) :
 PE X (.Call (.Attribute (.Name x p) "__init__" ao) (e::es) [] pos) (tBI X.K CT t):=by
 intro aa s σ H Q I h;refine LI (pl:=pl) (YZ I hg T.mg_ ?_ aV) ht
 refine W.method_cls I.kIn T.sp (W.cls_value I.kIn T.rd T.ini (by decide +kernel) ?_)
 refine PyProof.Rows.callWith_builtin1 (thn (ha pos aa _ σ H _ (I.tok _) h) λus s1 hZ=>?_) he aN
 obtain⟨vs,H1,I1,r,a,C,ws,ev,hl,ea,c,q⟩:=hZ;subst ev;cases r with
 | cons r0 r1 =>
  cases (show _=Vk a from r0)
  obtain⟨⟨t,g⟩,_,_⟩:=(show QR X.prog X.w H1 s1.heap a (xN a C Vp) from I1.hok a _ ea)
  refine Yxb I1.kIn c g (by rw[<- r1.length,Uw];lia) λh' t' g' k=>⟨.non,H1,?_,rfl,q⟩
  have I2:=I1.write (h':=h') (t':=s1.toks) (x:=a) (e:=a) (o:=xN a C Vp) (by rw[ea];exact UK) (.inl rfl) (λb u hb z=>k b u hb z) ⟨_,g'⟩ (ZPc (t:=t') g')
  have eH:upd H1 a (xN a C Vp)=H1:=by
   funext b
   by_cases hb:b=a
   ·rw[hb,Qa];exact ea.symm
   ·rw[Qk hb]
  rw[eH]at I2;exact I2
def Qtc(C:Vh)(fl:List Str):Sp:=λvs H Q _=>∃ e ws,vs=.ref e::ws/\ws.length=fl.length/\H e=Vo (xN e C Vp)/\∀ d,H d=Vp->d≠e->Q .non (upd (upd H e (xN e C (Vo d))) d (xD d (fl.zip ws)))
def MkX(P:Vg)(w:Vb)(K:VD)(mg:Str->Option Va)(base:Vq)(k:Nat)(x:Str)(C CT:Vh)(fl:List Str):Prop :=
 ∃ f fd ps,QE P w K mg base CX0 k f fd ps (Qtc C fl)/\Z4 K fd ps []/\W.XCl K C CT/\Uy K (.ref C) "__init__"=Vo (Vo (.ref f))/\Uz K (.ref f)=true/\UI K (.ref C)=true/\mg x=Vo (.ref C)
def Xwb(E:XK)(C:Vh)(fl:List Str)(t:TA):TS:=λ_ σ H=>t σ H λvs H1=>vs.length=fl.length/\vs.length<=1000/\∀ d,H1 d=Vp->E (.ref C) (Vo d) (upd H1 d (xD d (fl.zip vs)))
variable{E:XK}{C:Vh}{fl:List Str}{j k:Nat}
theorem Zha(T:Y8a X E)(bp:X.ex=[])(ky:X.calm=true)(hg:Gl X x)(G:MkX X.prog X.w X.K X.mg X.base j x C CT fl)(hr:Zi k X.A)(hj:j+1<=k)(ha:PA X (e::es) t)(aV:(x == ("__debug__":Str))=false:=by decide)
 (he:VZ (e::es) X.env=(false,VX e X.env)::VZ es X.env:=by rfl) (aN:(VY ay (VZ es X.env)).any (·.1)=false:=by rfl) :
 PS X (.Raise (Vo (.Call (.Name x np) (e::es) [] ay)) Vp pos) (Xwb E C fl t):=by
 intro aa s σ H D I h;obtain⟨f,fd,ps,F,hb,c,hf,fE,kp,hm⟩:=G;obtain⟨nm,q,N,bs,sn,sub,ab,col,dd,k0,k1,k2,k3,k5,lk,ok⟩:=id c.cl;rw[arm_exec_Raise];refine Uh (U5 (Qsc (C:=C) (nm:=nm) (q:=q) (N:=N) (bs:=bs) (bm:=.ref CT::W.bmV) (hdct:=true) (sn:=sn) (sub:=sub) (ab:=ab) (col:=col) (dd:=dd) (k0:=k0) (k1:=k1) (k2:=k2) (k3:=k3) (k5:=k5) (newId:="ValueError.__new__") (by rw[LB,PySem.F.excBase_ValueError.hasBase,Bool.or_true]) (I.ok.hd ky) ?_))
 refine Uh (V1 (wpAny_Call_ofName (YZ I hg hm ?_ aV)) (λv s₃ h₃=>Uh (U5 (Ug h₃))) λ_ _ z=>z)
 refine UZ (h₀:=X.base) I.ok.mod.kin kp (thn (ha ay aa s σ H _ I h) λus s1 ⟨vs,H1,I1,r,hl,hz,q⟩=>⟨I1.kIn,?_⟩) he aN
 obtain⟨hh,g,dr,tk,os⟩:=s1;refine X8c I1.kIn c hf fE (λh' ea mk=>?_) (by rw[Uw,LJ,<- r.length];lia)
 rw[LJ]at mk ⊢;have yL:=mk.there;obtain⟨tt,jX,_⟩:=yL;obtain⟨w1,w2,w3,w4,w5⟩:=I1.nowhere bp mk.new;have yM:Inv X aa σ H1 ⟨h',g,dr,tk,os⟩:=I1.kept (t':=tk) mk.keeps;have I2:Inv X aa σ (upd H1 ea (xN ea C Vp)) ⟨h',g,dr,tk,os⟩:=yM.track w1 w2 w3 w4 w5 (ZPc (t:=tt) jX);have dB:Qtc C fl (.ref ea::vs) (upd H1 ea (xN ea C Vp)) (λv H2=>v=.non/\∃ d,H1 d=Vp/\d≠ea/\H2=upd (upd (upd H1 ea (xN ea C Vp)) ea (xN ea C (Vo d))) d (xD d (fl.zip vs))) E0 :=
  ⟨ea,vs,rfl,hl,Qa,λd hd ax=>⟨rfl,d,by rw[Qk ax]at hd;exact hd,ax,rfl⟩⟩
 have r2:QG (V.ref ea::vs) (Vk ea::us):=.cons rfl r;have aA:(Vk ea::us++[]).length=ps.length:=by rw[UV,<- r2.length];exact F.len _ _ _ _ dB
 have b:=hb ⟨h',g,dr,tk,os⟩ (Vk ea::us) I2.kIn aA;rw[UV]at b;refine UW (UX (F.run _ X.stack _ _ ⟨Vk ea::us,[]⟩ (Vk ea::us) _ _ E0 ((hr.mono hj).make C us []) (I2.env0.make C us []) b r2 dB) λres s' hq=>?_)
 cases res with
 | error ev=>exact V8 hq
 | ok fo =>
  cases fo with
  | next=>exact V8 hq
  | brk=>exact V8 hq
  | cont=>exact V8 hq
  | ret u =>
   obtain⟨v,H3,I3,rv,ev,d,hd,ax,eH⟩:=I2.after hq;subst ev;subst eH;have e3:upd (upd (upd H1 ea (xN ea C Vp)) ea (xN ea C (Vo d))) d (xD d (fl.zip vs)) ea=Vo (xN ea C (Vo d)):=by rw[Qk (VR ax),Qa]
   obtain⟨⟨t3,g3⟩,_,_⟩:=(show QR X.prog X.w _ s'.heap ea (xN ea C (Vo d)) from I3.hok ea _ e3)
   have e4:upd H1 d (xD d (fl.zip vs)) ea=Vp:=by rw[Qk (VR ax)];exact w1
   have I4:Inv X aa σ (upd H1 d (xD d (fl.zip vs))) s':=I3.off e3 w2 (λy hy=>by
    by_cases hyd:y=d
    ·rw[hyd,Qa,Qa]
    ·rw[Qk hyd,Qk hyd,Qk hy,Qk hy]) e4
   refine⟨rv,ea,t3,Vo d,rfl,I3.kIn _ _ lk,g3,?_⟩
   exact T aa σ _ s' ea (.ref C) (Vo d) [] Vp I4 ⟨_,_,g3,rfl,rfl,rfl,⟨⟨.none,rfl,rfl⟩,by simp,λp hp=>by cases hp⟩,rfl⟩ (.inl rfl) w2 e4 (q d hd)
end
section
variable{X:Cx}{st b₀:V0}{gC:List V0}{t1:TS1}{ts:TS}{x n:Str}{CT:Vh}{np kt pos:Pos}{i:Nat}
end
inductive Dt where
 | v (x:V)
 | t (xs:List Dt)
 | l (xs:List Dt)
instance:Inhabited Dt:=⟨.v .non⟩
mutual
def eqD:Dt->Dt->Bool
 | .v x,.v y=>eqV x y
 | .t xs,.t ys=>ZSa xs ys
 | .l xs,.l ys=>ZSa xs ys
 | _,_=>false
def ZSa:List Dt->List Dt->Bool
 | [],[]=>true
 | x::xs,y::ys=>eqD x y && ZSa xs ys
 | _,_=>false
end
inductive Rep(K:VD)(H:Hp):Nat->Dt->V->Prop where
 | v {n:Nat} {x:V} (f:Zya x=true):Rep K H n (.v x) x
 | t {n:Nat} {a:Vh} {ds:List Dt} {xs:List V} (h:SqT K H a xs) (e:ds.length=xs.length) (r:∀ (i:Nat) d x,ds[i]?=Vo d->xs[i]?=Vo x->Rep K H n d x):Rep K H (n+1) (.t ds) (.ref a)
 | l {n:Nat} {a:Vh} {ds:List Dt} {xs:List V} (h:SqL K H a xs) (e:ds.length=xs.length) (r:∀ (i:Nat) d x,ds[i]?=Vo d->xs[i]?=Vo x->Rep K H n d x):Rep K H (n+1) (.l ds) (.ref a)
theorem Xaa(n:Nat)(p:Nat->Bool):(VC (n+1)).all p=(p 0 && (VC n).all λi=>p (i+1)):=by
 rw[range_succ_eq_map,all_cons,all_map];rfl
theorem Zia:∀ xs ys:List Dt,ZSa xs ys=((VC (min xs.length ys.length)).all (λi=>eqD (xs.getD i default) (ys.getD i default)) && (xs.length == ys.length))
 | [],[]=>by simp[ZSa]
 | [],y::ys=>by simp[ZSa]
 | x::xs,[]=>by simp[ZSa]
 | x::xs,y::ys=>by
  rw[ZSa,Zia xs ys,UB,UB,Nat.succ_min_succ,Xaa];simp only[getD_cons_zero,getD_cons_succ,Bool.and_assoc];have:(xs.length+1 == ys.length+1)=(xs.length == ys.length):=by rw[Uv,beq_iff_eq,beq_iff_eq];lia
  rw[this]
theorem QGa{xs ys:List Dt}(h:xs.length=ys.length):ZSa xs ys=(VC xs.length).all (λi=>eqD (xs.getD i default) (ys.getD i default)):=by
 rw[Zia,<- h,Nat.min_self,beq_self_eq_true,Bool.and_true]
theorem Q5b{xs ys:List Dt}(h:xs.length≠ys.length):ZSa xs ys=false:=by
 rw[Zia,beq_eq_false_iff_ne.mpr h,LD]
section
variable{K:VD}{H H':Hp}{n m:Nat}{d d':Dt}{x:V}
theorem Rep.self(r:Rep K H n d x):eqD d d=true:=by
 induction r with
 | v f=>unfold eqD;exact Zqc f
 | t h e _ ih =>
  unfold eqD;rw[QGa rfl,O8];intro i hi;rename_i ds xs _;have hi:=mem_range.mp hi;have h1:ds[i]?=Vo ds[i]:=I0 hi
  have h2:xs[i]?=Vo (xs[i]'#[0]):=I0 #[0]
  have:=ih i _ _ h1 h2
  rwa [show ds.getD i default=ds[i] by simp[List.getD,h1]]
 | l h e _ ih =>
  unfold eqD;rw[QGa rfl,O8];intro i hi;rename_i ds xs _;have hi:=mem_range.mp hi;have h1:ds[i]?=Vo ds[i]:=I0 hi
  have h2:xs[i]?=Vo (xs[i]'#[0]):=I0 #[0]
  have:=ih i _ _ h1 h2
  rwa [show ds.getD i default=ds[i] by simp[List.getD,h1]]
end
section
variable{X:Cx}{aa:YP_}{σ:St}{H:Hp}{s:VH}
theorem Inv.tup_not_list{a:Vh}{xs ys:List V}(I:Inv X aa σ H s)(h:SqT X.K H a xs)(h':SqL X.K H a ys):False:=by
 obtain⟨ah,r,⟨o,e,c,_⟩,_⟩:=I.tuple h;obtain⟨its',r',⟨o',n',e',c',_⟩,_⟩:=I.list h';rw[e]at e';cases e';rw[c]at c';exact absurd (LK c') #[1]
theorem Rep.det(I:Inv X aa σ H s):∀ {n m:Nat} {d d':Dt} {x y:V},Rep X.K H n d x->Rep X.K H m d' y->x=y->d=d':=by
 intro n m d d' x y r
 induction r generalizing m d' y with
 | v f =>
  intro r' e;subst e;cases r' with
  | v _=>rfl
  | t _ _ _=>exact absurd f (by simp[Zya])
  | l _ _ _=>exact absurd f (by simp[Zya])
 | t h e _ ih =>
  intro r' ee;cases r' with
  | v f=>subst ee;exact absurd f (by simp[Zya])
  | t h' e' r2 =>
   cases ee;have:=I.tuple_inj h h';subst this
   congr 1
   refine La #[0] λi h1 h2=>?_
   exact ih i _ _ (I0 h1) (I0 (show i < _ by lia)) (r2 i _ _ (I0 h2) (I0 #[0])) rfl
  | l h' _ _=>cases ee;exact(I.tup_not_list h h').elim
 | l h e _ ih =>
  intro r' ee;cases r' with
  | v f=>subst ee;exact absurd f (by simp[Zya])
  | l h' e' r2 =>
   cases ee;have:=I.list_inj h h';subst this
   congr 1
   refine La #[0] λi h1 h2=>?_
   exact ih i _ _ (I0 h1) (I0 (show i < _ by lia)) (r2 i _ _ (I0 h2) (I0 #[0])) rfl
  | t h' _ _=>cases ee;exact(I.tup_not_list h' h).elim
theorem Y3{α:Type}{xs:List α}{i:Nat}{x d:α}(h:xs[i]?=Vo x):xs.getD i d=x:=by simp[List.getD,h]
theorem Jib{A:VG}{n:Nat}(h:A.units+(n+1) < UR):A.in1.units+n < UR:=by show A.units+1+n < UR;lia
theorem Rep.eqAt(I:Inv X aa σ H s):∀ (n:Nat) {A:VG} {d d':Dt} {x y:V} {u v:Va},A.units+n < UR->Rep X.K H n d x->Rep X.K H n d' y->QB x u->QB y v->Oj A s u v (eqD d d'):=by
 intro n
 induction n with
 | zero =>
  intro A d d' x y u v hu r r' rx ry;cases r with
  | v f =>
   cases r' with
   | v f'=>unfold eqD;exact Ykb rx ry f f'
 | succ n ih =>
  intro A d d' x y u v hu r r' rx ry;have av:A.units < UR:=by lia
  have elems:∀ {ds es:List Dt} {xs ys:List V} {us vs:List Va},ds.length=xs.length->es.length=ys.length->(∀ (i:Nat) d x,ds[i]?=Vo d->xs[i]?=Vo x->Rep X.K H n d x)->(∀ (i:Nat) d x,es[i]?=Vo d->ys[i]?=Vo x->Rep X.K H n d x) ->
   QG xs us->QG ys vs->∀ j (h1:j < us.toArray.size) (h2:j < vs.toArray.size),Oj A.in1 s us.toArray[j] vs.toArray[j] (eqD (ds.getD j default) (es.getD j default)):=by
   intro ds es xs ys us vs l1 l2 r1 r2 w1 w2 j h1 h2;have m1:=w1.length;have m2:=w2.length
   have j1:j < xs.length:=by have:j < us.length:=by simpa using h1
                             lia
   have j2:j < ys.length:=by have:j < vs.length:=by simpa using h2
                             lia
   have g1:ds[j]?=Vo (ds[j]'#[0]):=I0 _
   have g2:es[j]?=Vo (es[j]'#[0]):=I0 _
   have x1:xs[j]?=Vo xs[j]:=I0 _
   have x2:ys[j]?=Vo ys[j]:=I0 _
   obtain⟨u1,e1,q1⟩:=w1.get x1;obtain⟨u2,e2,q2⟩:=w2.get x2;rw[Y3 g1,Y3 g2];have k1:us.toArray[j]=u1:=by
    have:us[j]?=Vo us[j]:=I0 _
    rw[this]at e1;simpa using e1
   have k2:vs.toArray[j]=u2:=by
    have:vs[j]?=Vo vs[j]:=I0 _
    rw[this]at e2;simpa using e2
   rw[k1,k2];exact ih (Jib hu) (r1 j _ _ g1 x1) (r2 j _ _ g2 x2) q1 q2
  cases r with
  | v f =>
   cases r' with
   | v f'=>unfold eqD;exact Ykb rx ry f f'
   | t h e _ =>
    cases ry;obtain⟨ah,_,p,_⟩:=I.tuple h;unfold eqD;cases x <;> first | (exact(Uc f).elim) | skip
    ·cases (show u=Vi from rx);exact .none_tuple p av
    ·cases (show u=Vj _ from rx);exact .bool_tuple _ p av
    ·obtain⟨t,rfl⟩:=rx;exact .int_tuple _ _ p av
    ·obtain⟨t,rfl⟩:=rx;exact .str_tuple _ _ p av
   | l h e _ =>
    cases ry;obtain⟨ah,_,p,_⟩:=I.list h;unfold eqD;cases x <;> first | (exact(Uc f).elim) | skip
    ·cases (show u=Vi from rx);exact .none_list p.isList av
    ·cases (show u=Vj _ from rx);exact .bool_list _ p.isList av
    ·obtain⟨t,rfl⟩:=rx;exact .int_list _ _ p.isList av
    ·obtain⟨t,rfl⟩:=rx;exact .str_list _ _ p.isList av
  | t h e r1 =>
   rename_i a ds xs;cases rx;obtain⟨ah,w1,p,_⟩:=I.tuple h;cases r' with
   | v f' =>
    unfold eqD;cases y <;> first | (exact(Uc f').elim) | skip
    ·cases (show v=Vi from ry);exact .tuple_none p av
    ·cases (show v=Vj _ from ry);exact .tuple_bool _ p av
    ·obtain⟨t,rfl⟩:=ry;exact .tuple_int _ _ p av
    ·obtain⟨t,rfl⟩:=ry;exact .tuple_str _ _ p av
   | t h' e' r2 =>
    rename_i b es ys;cases ry;obtain⟨its',w2,p',_⟩:=I.tuple h'
    by_cases ab:a=b
    ·subst ab
     have z:=Rep.det I (.t h e r1) (.t h' e' r2) rfl;rw[<- z,Rep.self (.t h e r1)];exact .same _
    ·have q:=SeqAt.RcAt.tuples (A:=A) (e:=λi=>eqD (ds.getD i default) (es.getD i default)) p p' av (elems e e' r1 r2 w1 w2)
     have sz:ah.toArray.size=ds.length:=by rw[Ux,<- w1.length,e]
     have eV:its'.toArray.size=es.length:=by rw[Ux,<- w2.length,e']
     rw[sz,eV,<- Zia]at q;unfold eqD;exact .of_refs ab q
   | l h' _ _ =>
    cases ry;obtain⟨its',w2,p',_⟩:=I.list h';unfold eqD;exact .tuple_list p p'.isList av
  | l h e r1 =>
   rename_i a ds xs;cases rx;obtain⟨ah,w1,p,_⟩:=I.list h;cases r' with
   | v f' =>
    unfold eqD;cases y <;> first | (exact(Uc f').elim) | skip
    ·cases (show v=Vi from ry);exact .list_none p.isList av
    ·cases (show v=Vj _ from ry);exact .list_bool _ p.isList av
    ·obtain⟨t,rfl⟩:=ry;exact .list_int _ _ p.isList av
    ·obtain⟨t,rfl⟩:=ry;exact .list_str _ _ p.isList av
   | l h' e' r2 =>
    rename_i b es ys;cases ry;obtain⟨its',w2,p',_⟩:=I.list h'
    by_cases ab:a=b
    ·subst ab
     have z:=Rep.det I (.l h e r1) (.l h' e' r2) rfl;rw[<- z,Rep.self (.l h e r1)];exact .same _
    ·have sz:ah.toArray.size=ds.length:=by rw[Ux,<- w1.length,e]
     have eV:its'.toArray.size=es.length:=by rw[Ux,<- w2.length,e']
     unfold eqD
     by_cases hl:ds.length=es.length
     ·have q:=SeqAt.RcAt.lists (A:=A) (e:=λi=>eqD (ds.getD i default) (es.getD i default)) p.isList p'.isList #[0] av (elems e e' r1 r2 w1 w2)
      rw[sz,<- QGa hl]at q;exact .of_refs ab q
     ·rw[Q5b hl]
      exact .of_refs ab (SeqAt.RcAt.lists_lengths p.isList p'.isList (by rw[sz,eV];exact bne_iff_ne.mpr hl) av)
   | t h' _ _ =>
    cases ry;obtain⟨its',w2,p',_⟩:=I.tuple h';unfold eqD;exact .list_tuple p.isList p' av
theorem Rep.elems(I:Inv X aa σ H s){n:Nat}{A:VG}(hu:A.units+(n+1) < UR){ds es:List Dt}{xs ys:List V}{us vs:List Va}(l1:ds.length=xs.length)(l2:es.length=ys.length)
 (r1:∀ (i:Nat) d x,ds[i]?=Vo d->xs[i]?=Vo x->Rep X.K H n d x) (r2:∀ (i:Nat) d x,es[i]?=Vo d->ys[i]?=Vo x->Rep X.K H n d x) (w1:QG xs us) (w2:QG ys vs) (j:Nat) (h1:j < us.toArray.size) (h2:j < vs.toArray.size) :
 Oj A.in1 s us.toArray[j] vs.toArray[j] (eqD (ds.getD j default) (es.getD j default)):=by
 have m1:=w1.length;have m2:=w2.length
 have j1:j < xs.length:=by have:j < us.length:=by simpa using h1
                           lia
 have j2:j < ys.length:=by have:j < vs.length:=by simpa using h2
                           lia
 have g1:ds[j]?=Vo (ds[j]'#[0]):=I0 _
 have g2:es[j]?=Vo (es[j]'#[0]):=I0 _
 have x1:xs[j]?=Vo xs[j]:=I0 _
 have x2:ys[j]?=Vo ys[j]:=I0 _
 obtain⟨u1,e1,q1⟩:=w1.get x1;obtain⟨u2,e2,q2⟩:=w2.get x2;rw[Y3 g1,Y3 g2];have k1:us.toArray[j]=u1:=by
  have:us[j]?=Vo us[j]:=I0 _
  rw[this]at e1;simpa using e1
 have k2:vs.toArray[j]=u2:=by
  have:vs[j]?=Vo vs[j]:=I0 _
  rw[this]at e2;simpa using e2
 rw[k1,k2];exact Rep.eqAt I n (Jib hu) (r1 j _ _ g1 x1) (r2 j _ _ g2 x2) q1 q2
theorem Rep.rcAt(I:Inv X aa σ H s){n:Nat}{A:VG}{d d':Dt}{x y:V}{u v:Va}(hu:A.units+n < UR)(r:Rep X.K H n d x)(r':Rep X.K H n d' y)(rx:QB x u)(ry:QB y v):SeqAt.RcAt A s u v (eqD d d'):=by
 have av:A.units < UR:=by lia
 cases r with
 | v f =>
  cases r' with
  | v f' =>
   unfold eqD;cases x <;> first | (exact(Uc f).elim) | skip
   all_goals (cases y <;> first | (exact(Uc f').elim) | skip)
   ·cases (show u=Vi from rx)
    cases (show v=Vi from ry)
    exact SeqAt.RcAt.none_none
   ·cases (show u=Vi from rx)
    cases (show v=Vj _ from ry)
    exact SeqAt.RcAt.none_bool _
   ·cases (show u=Vi from rx)
    obtain⟨tv,rfl⟩:=ry;exact SeqAt.RcAt.none_int _ _
   ·cases (show u=Vi from rx)
    obtain⟨tv,rfl⟩:=ry;exact SeqAt.RcAt.none_str _ _
   ·cases (show u=Vj _ from rx)
    cases (show v=Vi from ry)
    exact SeqAt.RcAt.bool_none _
   ·cases (show u=Vj _ from rx)
    cases (show v=Vj _ from ry)
    exact SeqAt.RcAt.bool_bool _ _
   ·cases (show u=Vj _ from rx)
    obtain⟨tv,rfl⟩:=ry;exact SeqAt.RcAt.bool_int _ _ _
   ·cases (show u=Vj _ from rx)
    obtain⟨tv,rfl⟩:=ry;exact SeqAt.RcAt.bool_str _ _ _
   ·obtain⟨tu,rfl⟩:=rx
    cases (show v=Vi from ry)
    exact SeqAt.RcAt.int_none _ _
   ·obtain⟨tu,rfl⟩:=rx
    cases (show v=Vj _ from ry)
    exact SeqAt.RcAt.int_bool _ _ _
   ·obtain⟨tu,rfl⟩:=rx
    obtain⟨tv,rfl⟩:=ry;exact SeqAt.RcAt.int_int _ _ _ _
   ·obtain⟨tu,rfl⟩:=rx
    obtain⟨tv,rfl⟩:=ry;exact SeqAt.RcAt.int_str _ _ _ _
   ·obtain⟨tu,rfl⟩:=rx
    cases (show v=Vi from ry)
    exact SeqAt.RcAt.str_none _ _
   ·obtain⟨tu,rfl⟩:=rx
    cases (show v=Vj _ from ry)
    exact SeqAt.RcAt.str_bool _ _ _
   ·obtain⟨tu,rfl⟩:=rx
    obtain⟨tv,rfl⟩:=ry;exact SeqAt.RcAt.str_int _ _ _ _
   ·obtain⟨tu,rfl⟩:=rx
    obtain⟨tv,rfl⟩:=ry;exact SeqAt.RcAt.str_str _ _ _ _
  | t h e _ =>
   cases ry;obtain⟨ah,_,p,_⟩:=I.tuple h;unfold eqD;cases x <;> first | (exact(Uc f).elim) | skip
   ·cases (show u=Vi from rx)
    exact SeqAt.RcAt.none_tuple p av
   ·cases (show u=Vj _ from rx)
    exact SeqAt.RcAt.bool_tuple _ p av
   ·obtain⟨tu,rfl⟩:=rx
    exact SeqAt.RcAt.int_tuple _ _ p av
   ·obtain⟨tu,rfl⟩:=rx
    exact SeqAt.RcAt.str_tuple _ _ p av
  | l h e _ =>
   cases ry;obtain⟨ah,_,p,_⟩:=I.list h;unfold eqD;cases x <;> first | (exact(Uc f).elim) | skip
   ·cases (show u=Vi from rx)
    exact SeqAt.RcAt.none_list p.isList av
   ·cases (show u=Vj _ from rx)
    exact SeqAt.RcAt.bool_list _ p.isList av
   ·obtain⟨tu,rfl⟩:=rx
    exact SeqAt.RcAt.int_list _ _ p.isList av
   ·obtain⟨tu,rfl⟩:=rx
    exact SeqAt.RcAt.str_list _ _ p.isList av
 | t h e r1 =>
  rename_i n a ds xs;cases rx;obtain⟨ah,w1,p,_⟩:=I.tuple h;cases r' with
  | v f' =>
   unfold eqD;cases y <;> first | (exact(Uc f').elim) | skip
   ·cases (show v=Vi from ry)
    exact SeqAt.RcAt.tuple_none p av
   ·cases (show v=Vj _ from ry)
    exact SeqAt.RcAt.tuple_bool _ p av
   ·obtain⟨tv,rfl⟩:=ry
    exact SeqAt.RcAt.tuple_int _ _ p av
   ·obtain⟨tv,rfl⟩:=ry
    exact SeqAt.RcAt.tuple_str _ _ p av
  | t h' e' r2 =>
   rename_i b es ys;cases ry;obtain⟨its',w2,p',_⟩:=I.tuple h';have q:=SeqAt.RcAt.tuples (A:=A) (e:=λi=>eqD (ds.getD i default) (es.getD i default)) p p' av (Rep.elems I hu e e' r1 r2 w1 w2)
   have sz:ah.toArray.size=ds.length:=by rw[Ux,<- w1.length,e]
   have eV:its'.toArray.size=es.length:=by rw[Ux,<- w2.length,e']
   rw[sz,eV,<- Zia]at q;unfold eqD;exact q
  | l h' _ _ =>
   cases ry;obtain⟨its',w2,p',_⟩:=I.list h';unfold eqD;exact SeqAt.RcAt.tuple_list p p'.isList av
 | l h e r1 =>
  rename_i n a ds xs;cases rx;obtain⟨ah,w1,p,_⟩:=I.list h;cases r' with
  | v f' =>
   unfold eqD;cases y <;> first | (exact(Uc f').elim) | skip
   ·cases (show v=Vi from ry)
    exact SeqAt.RcAt.list_none p.isList av
   ·cases (show v=Vj _ from ry)
    exact SeqAt.RcAt.list_bool _ p.isList av
   ·obtain⟨tv,rfl⟩:=ry
    exact SeqAt.RcAt.list_int _ _ p.isList av
   ·obtain⟨tv,rfl⟩:=ry
    exact SeqAt.RcAt.list_str _ _ p.isList av
  | l h' e' r2 =>
   rename_i b es ys;cases ry;obtain⟨its',w2,p',_⟩:=I.list h';have sz:ah.toArray.size=ds.length:=by rw[Ux,<- w1.length,e]
   have eV:its'.toArray.size=es.length:=by rw[Ux,<- w2.length,e']
   unfold eqD
   by_cases hl:ds.length=es.length
   ·have q:=SeqAt.RcAt.lists (A:=A) (e:=λi=>eqD (ds.getD i default) (es.getD i default)) p.isList p'.isList #[0] av (Rep.elems I hu e e' r1 r2 w1 w2)
    rw[sz,<- QGa hl]at q;exact q
   ·rw[Q5b hl]
    exact SeqAt.RcAt.lists_lengths p.isList p'.isList (by rw[sz,eV];exact bne_iff_ne.mpr hl) av
  | t h' _ _ =>
   cases ry;obtain⟨its',w2,p',_⟩:=I.tuple h';unfold eqD;exact SeqAt.RcAt.list_tuple p.isList p' av
theorem Rep.rcNeAt(I:Inv X aa σ H s){n:Nat}{A:VG}{d d':Dt}{x y:V}{u v:Va}(hu:A.units+n < UR)(r:Rep X.K H n d x)(r':Rep X.K H n d' y)(rx:QB x u)(ry:QB y v):SeqAt.RcNeAt A s u v (!eqD d d'):=by
 have av:A.units < UR:=by lia
 cases r with
 | v f =>
  cases r' with
  | v f' =>
   unfold eqD;cases x <;> first | (exact(Uc f).elim) | skip
   all_goals (cases y <;> first | (exact(Uc f').elim) | skip)
   ·cases (show u=Vi from rx)
    cases (show v=Vi from ry)
    exact SeqAt.RcNeAt.none_none
   ·cases (show u=Vi from rx)
    cases (show v=Vj _ from ry)
    exact SeqAt.RcNeAt.none_bool _
   ·cases (show u=Vi from rx)
    obtain⟨tv,rfl⟩:=ry;exact SeqAt.RcNeAt.none_int _ _
   ·cases (show u=Vi from rx)
    obtain⟨tv,rfl⟩:=ry;exact SeqAt.RcNeAt.none_str _ _
   ·cases (show u=Vj _ from rx)
    cases (show v=Vi from ry)
    exact SeqAt.RcNeAt.bool_none _
   ·cases (show u=Vj _ from rx)
    cases (show v=Vj _ from ry)
    exact SeqAt.RcNeAt.bool_bool _ _
   ·cases (show u=Vj _ from rx)
    obtain⟨tv,rfl⟩:=ry;exact SeqAt.RcNeAt.bool_int _ _ _
   ·cases (show u=Vj _ from rx)
    obtain⟨tv,rfl⟩:=ry;exact SeqAt.RcNeAt.bool_str _ _ _
   ·obtain⟨tu,rfl⟩:=rx
    cases (show v=Vi from ry)
    exact SeqAt.RcNeAt.int_none _ _
   ·obtain⟨tu,rfl⟩:=rx
    cases (show v=Vj _ from ry)
    exact SeqAt.RcNeAt.int_bool _ _ _
   ·obtain⟨tu,rfl⟩:=rx
    obtain⟨tv,rfl⟩:=ry;exact SeqAt.RcNeAt.int_int _ _ _ _
   ·obtain⟨tu,rfl⟩:=rx
    obtain⟨tv,rfl⟩:=ry;exact SeqAt.RcNeAt.int_str _ _ _ _
   ·obtain⟨tu,rfl⟩:=rx
    cases (show v=Vi from ry)
    exact SeqAt.RcNeAt.str_none _ _
   ·obtain⟨tu,rfl⟩:=rx
    cases (show v=Vj _ from ry)
    exact SeqAt.RcNeAt.str_bool _ _ _
   ·obtain⟨tu,rfl⟩:=rx
    obtain⟨tv,rfl⟩:=ry;exact SeqAt.RcNeAt.str_int _ _ _ _
   ·obtain⟨tu,rfl⟩:=rx
    obtain⟨tv,rfl⟩:=ry;exact SeqAt.RcNeAt.str_str _ _ _ _
  | t h e _ =>
   cases ry;obtain⟨ah,_,p,_⟩:=I.tuple h;unfold eqD;cases x <;> first | (exact(Uc f).elim) | skip
   ·cases (show u=Vi from rx)
    exact SeqAt.RcNeAt.none_tuple p av
   ·cases (show u=Vj _ from rx)
    exact SeqAt.RcNeAt.bool_tuple _ p av
   ·obtain⟨tu,rfl⟩:=rx
    exact SeqAt.RcNeAt.int_tuple _ _ p av
   ·obtain⟨tu,rfl⟩:=rx
    exact SeqAt.RcNeAt.str_tuple _ _ p av
  | l h e _ =>
   cases ry;obtain⟨ah,_,p,_⟩:=I.list h;unfold eqD;cases x <;> first | (exact(Uc f).elim) | skip
   ·cases (show u=Vi from rx)
    exact SeqAt.RcNeAt.none_list p.isList av
   ·cases (show u=Vj _ from rx)
    exact SeqAt.RcNeAt.bool_list _ p.isList av
   ·obtain⟨tu,rfl⟩:=rx
    exact SeqAt.RcNeAt.int_list _ _ p.isList av
   ·obtain⟨tu,rfl⟩:=rx
    exact SeqAt.RcNeAt.str_list _ _ p.isList av
 | t h e r1 =>
  rename_i n a ds xs;cases rx;obtain⟨ah,w1,p,_⟩:=I.tuple h;cases r' with
  | v f' =>
   unfold eqD;cases y <;> first | (exact(Uc f').elim) | skip
   ·cases (show v=Vi from ry)
    exact SeqAt.RcNeAt.tuple_none p av
   ·cases (show v=Vj _ from ry)
    exact SeqAt.RcNeAt.tuple_bool _ p av
   ·obtain⟨tv,rfl⟩:=ry
    exact SeqAt.RcNeAt.tuple_int _ _ p av
   ·obtain⟨tv,rfl⟩:=ry
    exact SeqAt.RcNeAt.tuple_str _ _ p av
  | t h' e' r2 =>
   rename_i b es ys;cases ry;obtain⟨its',w2,p',_⟩:=I.tuple h';have q:=SeqAt.RcNeAt.tuples (A:=A) (e:=λi=>eqD (ds.getD i default) (es.getD i default)) p p' av (Rep.elems I hu e e' r1 r2 w1 w2)
   have sz:ah.toArray.size=ds.length:=by rw[Ux,<- w1.length,e]
   have eV:its'.toArray.size=es.length:=by rw[Ux,<- w2.length,e']
   rw[sz,eV,<- Zia]at q;unfold eqD;exact q
  | l h' _ _ =>
   cases ry;obtain⟨its',w2,p',_⟩:=I.list h';unfold eqD;exact SeqAt.RcNeAt.tuple_list p p'.isList av
 | l h e r1 =>
  rename_i n a ds xs;cases rx;obtain⟨ah,w1,p,_⟩:=I.list h;cases r' with
  | v f' =>
   unfold eqD;cases y <;> first | (exact(Uc f').elim) | skip
   ·cases (show v=Vi from ry)
    exact SeqAt.RcNeAt.list_none p.isList av
   ·cases (show v=Vj _ from ry)
    exact SeqAt.RcNeAt.list_bool _ p.isList av
   ·obtain⟨tv,rfl⟩:=ry
    exact SeqAt.RcNeAt.list_int _ _ p.isList av
   ·obtain⟨tv,rfl⟩:=ry
    exact SeqAt.RcNeAt.list_str _ _ p.isList av
  | l h' e' r2 =>
   rename_i b es ys;cases ry;obtain⟨its',w2,p',_⟩:=I.list h';have sz:ah.toArray.size=ds.length:=by rw[Ux,<- w1.length,e]
   have eV:its'.toArray.size=es.length:=by rw[Ux,<- w2.length,e']
   unfold eqD
   by_cases hl:ds.length=es.length
   ·have q:=SeqAt.RcNeAt.lists (A:=A) (e:=λi=>eqD (ds.getD i default) (es.getD i default)) p.isList p'.isList #[0] av (Rep.elems I hu e e' r1 r2 w1 w2)
    rw[sz,<- QGa hl]at q;exact q
   ·rw[Q5b hl]
    exact SeqAt.RcNeAt.lists_lengths p.isList p'.isList (by rw[sz,eV];exact bne_iff_ne.mpr hl) av
  | t h' _ _ =>
   cases ry;obtain⟨its',w2,p',_⟩:=I.tuple h';unfold eqD;exact SeqAt.RcNeAt.list_tuple p.isList p' av
def rD(K:VD)(neg:Bool):R2:=λx y H Q=>∃ n d d',n<=60/\Rep K H n d x/\Rep K H n d' y/\Q (.bl (if neg then !eqD d d' else eqD d d')) H
theorem ZSc(hu:X.A.units+64 < UR):OpR X (V2 .Eq) (rD X.K false):=by
 intro aa s σ H x y v u Q I rx ry h;obtain⟨n,d,d',hn,r,r',q⟩:=h;exact Rep.rcAt I (A:=X.A) #[0] r r' rx ry X.prog X.w X.xe _ ⟨.bl _,H,I,rfl,q⟩
theorem ZTc(hu:X.A.units+64 < UR):OpR X (V2 .NotEq) (rD X.K true):=by
 intro aa s σ H x y v u Q I rx ry h;obtain⟨n,d,d',hn,r,r',q⟩:=h;exact Rep.rcNeAt I (A:=X.A) #[0] r r' rx ry X.prog X.w X.xe _ ⟨.bl _,H,I,rfl,q⟩
end
end L2
end
section
namespace L2
open PySem PySem.Spec PyProof.Rows PySem.W
structure YBc(xs:List V)(lt:V->V->Bool):Prop where
 ty:∃ T:String,(Vl T != Vl "tuple")=true/\∀ v∈xs,∀ u,QB v u->typeOf u=pure (.type T)
 ask:∀ v∈xs,∀ v'∈xs,∀ u u',QB v u->QB v' u'->∀ (prog:Vg) (w:Vb) (A:VG) (E:YQ_) (s:VH) (Q:Bool->VH->Prop),Q (lt v v') s->VV (VW prog w) A (keyLt' oneType' u u') Q E s
 swo:Swo xs lt
theorem ZUc{v v':V}{u:Va}(a:QB v u)(b:QB v' u):v=v':=by
 cases v <;> cases v' <;> simp only[QB]at a b <;> first | rfl | (subst a;cases b;done) | (subst a;cases b;rfl) | (obtain⟨t,rfl⟩:=a;obtain⟨t',e⟩:=b;cases e;done) | (obtain⟨t,rfl⟩:=a;obtain⟨t',e⟩:=b;cases e;rfl) | (subst a;obtain⟨t',e⟩:=b;cases e;done) | (obtain⟨t,rfl⟩:=a;cases b;done)
section
variable{X:Cx}{aa:YP_}{σ:St}{H:Hp}{s:VH}{A:VG}{E:YQ_}
theorem ZVc{n:Nat}(h:n<=100000):n < Vs:=Nat.lt_of_le_of_lt h #[1]
theorem Jjb{l:Vh}{xs:List V}{lt:V->V->Bool}{Q:VK}(I:Inv X aa σ H s)(hl:SqL X.K H l xs)(fP:xs.length < 100000)(hK:YBc xs lt)
 (h:∀ D H' ys,Qn H H'->H D=Vp->H' D=Vo (.lst ys)->ys.Perm xs->ys.Pairwise (λa b=>lt b a=false)->Q (.ref D) H') :
 VV (VW X.prog X.w) X.A (Ut (.builtin "sorted") [.ref l]) (EP X aa σ Q) X.xe s:=by
 obtain⟨vs,rv,pl,hz⟩:=I.list hl;have dI:=rv.length;have fQ:vs.length<=Vs:=by rw[<- dI];exact hz
 refine Calls.call_function_entry kind_sorted plain_sorted entry_sorted (args_sorted1 _) ?_
 unfold OW.«sorted»;refine Uh (m:=checkCount "sorted" 1 1 _) (Ug ?_)
 refine Uh (collect_list pl.isList ?_ fQ)
 refine Uh (Lm ?_ fQ)
 obtain⟨hsz,eS⟩:=ZFc s.heap vs;have b6:=Ul ((s.heap.push (Lb "list" #[] 0)).update s.heap.objs.size (Ot (·++vs.toArray))) (o:=Lb "list" vs.toArray 0) rfl
 rw[hsz]at b6;have keep:=λb o q=>Uk (Lb "list" vs.toArray 0) (eS b o q)
 have I1:Inv X aa σ H { s with heap:=((s.heap.push (Lb "list" #[] 0)).update s.heap.objs.size (Ot (·++vs.toArray))).push (Lb "list" vs.toArray 0) }:=I.kept (t':=s.toks) keep
 have fD:Y7 X aa H (s.heap.objs.size+1):=I.fpOk (U0 _) (I.hok.fresh (U0 _));show VV _ _ _ _ _ { s with heap:=((s.heap.push (Lb "list" #[] 0)).update s.heap.objs.size (Ot (·++vs.toArray))).push (Lb "list" vs.toArray 0) }
 rw[hsz];generalize ((s.heap.push (Lb "list" #[] 0)).update s.heap.objs.size (Ot (·++vs.toArray))).push (Lb "list" vs.toArray 0)=h1 at b6 I1;generalize s.heap.objs.size+1=D at b6 fD;refine Uh (Ln (wpAny_call_entry slot_list_sort ⟨_,b6,rfl⟩ entry_list_sort ?body (args_list_sort _)))
 case body =>
  rw[list_sort_plain];have s1:=Ld h1 D (Ot λ_=>(#[]:Array Va))
  obtain⟨e1,dq⟩:∃ e1,(h1.update D (Ot λ_=>(#[]:Array Va))).get? D=Vo (Lb "list" #[] e1):=⟨_,Le b6 λ_=>#[]⟩
  have I2:Inv X aa σ H { s with heap:=h1.update D (Ot λ_=>(#[]:Array Va)) }:=I1.turned (t':=s.toks) (λb o hb q=>(s1.2 b hb).trans q) fD.1 fD.2.1 fD.2.2.2.1 fD.2.2.2.2.1 fD.2.2.2.2.2
  have I3:Inv X (aa++[(D,Lb "list" #[] e1)]) σ H { s with heap:=h1.update D (Ot λ_=>(#[]:Array Va)) }:=I2.pins_of λp hp=>(mem_append.mp hp).elim (λz=>I2.pin p (Ur _ z)) λz=>by
   have z:p=(D,Lb "list" #[] e1):=by simpa using z
   subst z;exact⟨dq,fD.1,fD.2.1,fD.2.2.1,λv q=>by cases q⟩
  have I5:Inv X (aa++[(D,Lb "list" #[] e1)]) σ H { s with heap:=((h1.update D (Ot λ_=>(#[]:Array Va))).push (Lb "tuple" vs.toArray 0)).push (Lb "list" #[] 0) }:=I3.kept (t':=s.toks) λb u q=>Uk _ (Uk _ q)
  refine Uh (Lk b6 rfl ?_)
  refine Uh (Lf b6 rfl ?_ (by rw[Ux];exact fQ) (Us _))
  refine Uh (Lg dq rfl ?_)
  refine Uh (wpAny_newTuple ?_ (by show vs.length<=_;exact fQ))
  refine Uh (Lm ?_ (Us _))
  refine Ln ?_
  show VV (VW X.prog X.w) _ _ _ _ { s with heap:=((h1.update D (Ot λ_=>(#[]:Array Va))).push (Lb "tuple" vs.toArray 0)).push (Lb "list" #[] 0) }
  generalize ((h1.update D (Ot λ_=>(#[]:Array Va))).push (Lb "tuple" vs.toArray 0)).push (Lb "list" #[] 0)=h2 at I5
  dsimp only;have tail:∀ {st:Ih} {out:List Va} {ys:List V},(Ik st).map (·.2)=Lc out->ID st=Vp->QG ys out->ys.length < 100000->ys.Perm xs->ys.Pairwise (λa b=>lt b a=false) ->
   VV (VW X.prog X.w) X.A.in1.in1 (do
    let ep <- seqEpoch D
    Builtin.List.listUpdate (Vk D) λx=>Array.map (λx=>x.snd) (Ik st)
    match ID st with
    | some e=>do
     rule "list.sort.comparison-raised"
     throw e
     if (ep != e1)=true then do
         rule "list.sort.modified"
         raiseErrorWords "ValueError" "list modified during sort"
         ret Vi
      else ret Vi
    | x =>
     if (ep != e1)=true then do
      rule "list.sort.modified"
      raiseErrorWords "ValueError" "list modified during sort"
      ret Vi
     else ret Vi)
    (λfin s'=>∃ v,fin=Fin.done (Flow.ret v)/\VV (VW X.prog X.w) X.A.in1 (ret (Vk D)) (λfin s'=>∃ v,fin=Fin.done (Flow.ret v)/\EP X aa σ Q v s') X.xe s')
    X.xe { s with heap:=h2 }:=by
   intro st out ys cP hf ro uT p1 p2;have hD:=(I5.pin (D,Lb "list" #[] e1) (Ur _ (Ur _ #[2]))).1
   have s2:=Ld h2 D (Ot λ_=>Lc out)
   obtain⟨c2,dF⟩:∃ c2,(h2.update D (Ot λ_=>Lc out)).get? D=Vo (Lb "list" (Lc out) c2):=⟨_,Le hD λ_=>Lc out⟩
   have ho:out.length < 100000:=by rw[<- ro.length];exact uT
   rw[cP];refine Uh (Lg hD rfl ?_)
   refine Uh (Lf hD rfl ?_ (Us _) (by rw[Ux];exact Nat.le_succ_of_le (VL (ZVc #[0]))))
   rw[hf];simp only[bne_self_eq_false,OU,if_false];have I6:Inv X aa σ (upd H D (.lst ys)) { s with heap:=h2.update D (Ot λ_=>Lc out) }:=(I5.unpinned).adopt (t':=s.toks) fD (λb u hb q=>(s2.2 b hb).trans q) ⟨VL (ZVc #[0]),out,c2,ro,dF⟩
   exact Ug ⟨_,rfl,Ug ⟨_,rfl,.ref D,_,I6,rfl,h D _ ys ((Qn.refl _).updL fD.1 _) fD.1 Qa p1 p2⟩⟩
  by_cases gv:vs.toArray.size < 2
  ·rw[if_pos gv,if_pos gv]
   refine Uh (Ug ?_)
   rw[StateT.run_pure];refine Uh (Ug ?_)
   refine tail (st:=IA general' (vs.toArray.zip vs.toArray) #[] 7 Vp) (out:=vs) ?_ rfl rv #[0] (Li _) (Jcb (by rw[Ux]at gv;lia))
   apply Array.toList_inj.mp
   show(Array.map (·.2) (vs.toArray.zip vs.toArray)).toList=_;rw[IW,ksk_zip];show List.map (·.2) (vs.zip vs)=vs;exact map_snd_zip #[0]
  ·rw[if_neg gv,if_neg gv]
   rw[Ux]at gv;obtain⟨T,yO,hT⟩:=hK.ty;have mem:∀ v∈vs,∃ x∈xs,QB x v:=λv hv=>by
    obtain⟨i,hi,rfl⟩:=mem_iff_getElem.mp hv;obtain⟨u,eu,ru⟩:=rv.get (i:=i) (x:=xs[i]'#[0]) (I0 _)
    rw[I0 hi]at eu
    cases eu;exact⟨_,IY _,ru⟩
   refine Uh (kas_kind (T:=.type T) #[0] (λv hv=>?_) yO #[2] ?_)
   ·obtain⟨x,hx,rx⟩:=mem v hv
    exact Looks.of_pure (hT x hx v rx)
   have hn:0 < xs.length:=by lia
   have at_:∀ i,i < xs.length->QB (xs.getD i .non) (vs.getD i Vi)/\xs.getD i .non∈xs:=λi hi=>by
    obtain⟨u,eu,ru⟩:=rv.get (i:=i) (x:=xs[i]) (I0 _)
    have e1:xs.getD i .non=xs[i]:=by simp[hi]
    have e2:vs.getD i Vi=u:=by simp[List.getD,eu]
    rw[e1,e2];exact⟨ru,IY _⟩
   have run:=SortB.Xqb (prog:=X.prog) (w:=X.w) (A:=X.A.in1.in1) (E:=X.xe) (κ:=oneType') (ks:=vs) (vs:=vs) (s:={ s with heap:=h2 }) (r:=λi=>xs.countP (lt · (xs.getD i .non))) rfl #[0]
    (λi j C hi hj hC=>by
     rw[<- dI]at hi hj;rw[hK.swo.rank (at_ i hi).2 (at_ j hj).2]at hC;unfold kas_ask;exact hK.ask _ (at_ i hi).2 _ (at_ j hj).2 _ _ (at_ i hi).1 (at_ j hj).1 _ _ _ _ _ _ hC)
    (λi j hi hj e=>by
     rw[<- dI]at hi hj;have r1:=(at_ i hi).1;rw[e]at r1;show xs.countP (lt · (xs.getD i .non))=xs.countP (lt · (xs.getD j .non));rw[ZUc r1 (at_ j hj).1])
   rw[<- dI]at run;refine Uh (V1 run ?_ λ_ _ x=>x)
   rintro⟨⟨⟩,ag⟩ s' ⟨p,qk,hf,es,ok,up⟩;subst es;have cP:=kat_snds (ks:=vs) (vs:=vs) rfl qk;exact tail cP hf (rv.pick p.toList) (by rw[UJ,V7,ok.size];lia) (Y6a ok) (Jbb hK.swo ok hn up)
end
def ltP:V->V->Bool
 | .int a,.int b=>decide (a < b)
 | .str a,.str b=>decide (a.cps.toList < b.cps.toList)
 | _,_=>false
theorem Jkb{xs:List V}(h:∀ v∈xs,∃ n,v=.int n):YBc xs ltP where
 ty:=⟨"int",by decide,λv hv u r=>by obtain⟨n,rfl⟩:=h v hv;obtain⟨t,rfl⟩:=r;rfl⟩
 ask:=λv hv v' jL u u' r r' prog w A E s Q q=>by
  obtain⟨n,rfl⟩:=h v hv;obtain⟨t,rfl⟩:=r;obtain⟨n',rfl⟩:=h v' jL;obtain⟨t',rfl⟩:=r';exact kat_lt_int q
 swo:=⟨λa ha=>by obtain⟨n,rfl⟩:=h a ha;simp[ltP],λa ha b hb c hc=>by
  obtain⟨x,rfl⟩:=h a ha;obtain⟨y,rfl⟩:=h b hb;obtain⟨z,rfl⟩:=h c hc;simp only[ltP,decide_eq_true_eq];lia,λa ha b hb c hc=>by
  obtain⟨x,rfl⟩:=h a ha;obtain⟨y,rfl⟩:=h b hb;obtain⟨z,rfl⟩:=h c hc;simp only[ltP,decide_eq_true_eq];lia⟩
theorem ZWc{xs:List V}(h:∀ v∈xs,∃ z,v=.str z):YBc xs ltP where
 ty:=⟨"str",by decide,λv hv u r=>by obtain⟨n,rfl⟩:=h v hv;obtain⟨t,rfl⟩:=r;rfl⟩
 ask:=λv hv v' jL u u' r r' prog w A E s Q q=>by
  obtain⟨n,rfl⟩:=h v hv;obtain⟨t,rfl⟩:=r;obtain⟨n',rfl⟩:=h v' jL;obtain⟨t',rfl⟩:=r';exact kas_lt_str q
 swo:=⟨λa ha=>by obtain⟨n,rfl⟩:=h a ha;simp only[ltP,decide_eq_false_iff_not];exact List.lt_irrefl _,λa ha b hb c hc=>by
  obtain⟨x,rfl⟩:=h a ha;obtain⟨y,rfl⟩:=h b hb;obtain⟨z,rfl⟩:=h c hc;simp only[ltP,decide_eq_true_eq];exact λp q=>List.lt_trans p q,λa ha b hb c hc=>by
  obtain⟨x,rfl⟩:=h a ha;obtain⟨y,rfl⟩:=h b hb;obtain⟨z,rfl⟩:=h c hc;simp only[ltP,decide_eq_true_eq];intro p
  by_cases q:x.cps.toList < y.cps.toList
  ·exact .inl q
  ·exact .inr (List.lt_of_le_of_lt (List.not_lt.mp q) p)⟩
def Qbd(K:VD):List V->Hp->VK->Prop:=λvs H Q=>∃ a xs lt,vs=[.ref a]/\SqL K H a xs/\xs.length < 100000/\YBc xs lt /\
 ∀ D H' ys,Qn H H'->H D=Vp->H' D=Vo (.lst ys)->ys.Perm xs->ys.Pairwise (λa b=>lt b a=false)->Q (.ref D) H'
theorem XH{X:Cx}:Qoa X (.builtin "sorted") (Qbd X.K):=by
 intro aa s σ H xs us Q I r h;obtain⟨a,ys,lt,rfl,hl,fP,hK,q⟩:=h;obtain⟨u,rfl,ru⟩:=Zxa r;obtain rfl:u=Vk a:=ru;exact Jjb I hl fP hK q
end L2
end
section
namespace L2
open PySem PySem.Spec PyProof.Rows
theorem ZXc{k:Key}{u:Va}(h:Zwa k u=true):QB (kV k) u:=by
 rcases Zn h with ⟨i,t,rfl,rfl⟩ | ⟨x,t,rfl,rfl⟩
 ·exact⟨t,rfl⟩
 ·exact⟨t,rfl⟩
def NF(X:Cx)(d:Vh):Prop:=∀ o u,X.H₀ d≠Vo (.frz o u)
section
variable{X:Cx}{aa:YP_}{σ:St}{H:Hp}{s:VH}{d:Vh}{ae:List (Key×V)}
theorem Inv.recast{u u':HO}(I:Inv X aa σ H s)(h:H d=Vo u)(n1:∀ xs,u≠.tup xs)(n2:∀ o v,X.H₀ d≠Vo (.frz o v))(n3:∀ ps,u≠.tbl ps)(n4:∀ x,u≠.own x)(ok:QR X.prog X.w (upd H d u') s.heap d u'):Inv X aa σ (upd H d u') s:=by
 have ne:∀ b,H b=Vp->b≠d:=λb q z=>by rw[z,h]at q;cases q
 have nt:∀ b xs,H b=Vo (.tup xs)->b≠d:=λb xs q z=>by rw[z,h]at q;exact n1 xs (Vr q)
 have no:∀ b x,H b=Vo (.own x)->b≠d:=λb x q z=>by rw[z,h]at q;exact n4 x (Vr q)
 refine⟨I.ok,I.os,I.bare,⟨I.base.keep,I.base.slot,λb v q n hx=>?_,I.base.there,λb xs q=>?_,λb o v q=>?_,λb ps q=>?_⟩,I.loc,I.cell,by rw[Qk (ne _ I.free)];exact I.free,λx c q=>by rw[Qk (ne _ (I.freeC x c q))];exact I.freeC x c q,λp hp=>?_,λb v q=>?_,I.len⟩
 ·have z:=I.base.free b v q n hx
  rw[Qk (ne b z)];exact z
 ·have z:=I.base.tups b xs q
  rw[Qk (nt b xs z)];exact z
 ·have z:=I.base.frzs b o v q
  rw[Qk (λe=>by rw[e]at q;exact n2 o v q)];exact z
 ·obtain⟨m,z⟩:=I.base.tbls b ps q
  exact⟨m,by rw[Qk (λe=>by rw[e,h]at z;exact n3 _ (Vr z))];exact z⟩
 ·obtain⟨a,b,r⟩:=I.pin p hp
  exact⟨a,by rw[Qk (ne _ b)];exact b,r⟩
 ·by_cases hb:b=d
  ·subst hb;rw[Qa]at q;cases q;exact ok
  ·rw[Qk hb]at q
   exact(I.hok b v q).stay (λc v _ r=>r) (λc r=>by rw[Qk (no c b r)];exact r) λc xs r=>by rw[Qk (nt c xs r)];exact r
theorem Inv.nf(I:Inv X aa σ H s)(h:H d=Vo (.dK ae)):NF X d:=λo u q=>by
 have z:=I.base.frzs d o u q;rw[h]at z;cases z
theorem Inv.freeze(I:Inv X aa σ H s)(h:H d=Vo (.dK ae)):∃ ob,s.heap.get? d=Vo ob/\Inv X aa σ (upd H d (.frz ob (.dK ae))) s:=by
 obtain⟨z,y,vs,r,o,es,ep,e,c⟩:=(show QR X.prog X.w H s.heap d (.dK ae) from I.hok d _ h)
 exact⟨o,e,I.recast h (λ_ z=>by cases z) (I.nf h) (λ_ z=>by cases z) (λ_ z=>by cases z) ⟨e,z,y,vs,r,o,es,ep,e,c⟩⟩
theorem Inv.thaw{ob:Obj}(I:Inv X aa σ H s)(nf:NF X d)(h:H d=Vo (.frz ob (.dK ae))):Inv X aa σ (upd H d (.dK ae)) s:=by
 obtain⟨_,z,y,vs,r,o,es,ep,e,c⟩:=(show QR X.prog X.w H s.heap d (.frz ob (.dK ae)) from I.hok d _ h)
 exact I.recast h (λ_ z=>by cases z) nf (λ_ z=>by cases z) (λ_ z=>by cases z) ⟨z,y,vs,r,o,es,ep,e,c⟩
end
def Itd(d:Vh)(ob:Obj)(ae:List (Key×V)):It :=
 ⟨λi H=>H d=Vo (.frz ob (.dK ae))/\i < ae.length,λi H x H'=>H'=H/\∃ k v,ae[i]?=Vo (k,v)/\x=kV k,λi H=>H d=Vo (.frz ob (.dK ae))/\ae.length<=i⟩
theorem ZYc{P:Vg}{w:Vb}{H:Hp}{h:Vq}{d:Vh}{ob:Obj}{ae:List (Key×V)}{es:Array DictEntry}{ep:Nat}(ok:HOk P w H h)(e:H d=Vo (.frz ob (.dK ae)))(hd:ob.data=.dict es ep) :
 (d == Vu)=false/\∃ vs,KV ae vs/\h.DictAt (Q3 P w) d vs ep:=by
 obtain⟨e0,z,y,vs,r,o,aj,nX,e1,c1,c2,c3⟩:=(show QR P w H h d (.frz ob (.dK ae)) from ok d _ e)
 rw[e0]at e1;cases e1;rw[hd]at c2;cases c2;exact⟨y,vs,r,ob,es,e0,c1,hd,c3⟩
theorem KV.get{ae:List (Key×V)}{vs:List (Key×Va)}(r:KV ae vs){i:Nat}{k:Key}{v:V}(h:ae[i]?=Vo (k,v)):∃ u,vs[i]?=Vo (k,u)/\QB v u:=by
 induction r generalizing i with
 | nil=>simp at h
 | cons a b ih =>
  cases i with
  | zero =>
   simp only[getElem?_cons_zero,OV]at h ⊢
   subst h;rename_i q _ _;obtain⟨k',u⟩:=q;exact⟨u,by rw[show k=k' from a.1],a.2⟩
  | succ j =>
   simp only[getElem?_cons_succ]at h ⊢
   exact ih h
theorem KV.len{ae:List (Key×V)}{vs:List (Key×Va)}(r:KV ae vs):ae.length=vs.length:=Vn r
theorem Quc{P:Vg}{w:Vb}{K:VD}{tg:Expr}(it d:Vh)(ob:Obj)(ae:List (Key×V))(es:Array DictEntry)(ep:Nat)(ow:ob.data=.dict es ep):ZSb P w K tg (Itd d ob ae) [it] it (λi h=>h.IsKeyIter it d i ae.length ep) where
 mem:=by simp
 obj:=λi h st b hb=>by
  have e:b=it:=by simpa using hb
  subst e;obtain⟨o,e,c,dd⟩:=st;exact⟨o,e,λv z=>by rw[dd]at z;cases z⟩
 keep:=λi h h' st k=>let ⟨o,ho,r⟩:=st;⟨o,k it #[2] o ho,r⟩
 item:=by
  intro X hP hw hK hc i aa s σ H E I hf st hg;subst hP hw hK;obtain⟨hz,hi⟩:=hg;obtain⟨_,vs,rv,da⟩:=ZYc I.hok hz ow;have hl:=rv.len;obtain⟨k,v,jl⟩:∃ k v,ae[i]?=Vo (k,v):=⟨ae[i].1,ae[i].2,I0 hi⟩
  obtain⟨u,hu,_⟩:=rv.get jl;obtain⟨f0,f1,f2,f3,f4,f5⟩:=hf it #[2]
  rw[hl]at st;refine wpAny_pyNext_dict_item st da hu λkey h' hk ag sb=>?_
  have I1:Inv X aa σ H { s with heap:=h' }:=I.turned (t':=s.toks) (λb o hb e=>(sb.2 b hb).trans e) f0 f1 f3 f4 f5
  obtain⟨o,e,c,dd⟩:=id ag;exact⟨key,rfl,YNa (s:={ s with heap:=h' }) e c dd #[1] ⟨kV k,H,I1,ZXc hk,⟨rfl,k,v,jl,rfl⟩,by rw[hl];exact ag,λb hb=>(hf b hb).1⟩⟩
 done:=by
  intro X hP hw hK hc i aa s σ H E I hf st hg;subst hP hw hK;obtain⟨hz,hi⟩:=hg;obtain⟨_,vs,rv,da⟩:=ZYc I.hok hz ow;have hl:=rv.len;obtain⟨f0,f1,f2,f3,f4,f5⟩:=hf it #[2]
  rw[hl]at st;exact wpAny_pyNext_dict_end (I.ok.hd hc) st da (LL #[0]) λh' eb=>⟨rfl,I.turned (t':=s.toks) (λb o hb e=>eb b o hb e) f0 f1 f3 f4 f5⟩
 self:=λ_ _ _ _ _ st h=>wpAny_pyIter_keyiter st h
def ZZc(X:Cx)(tl:TE):TI:=λσ H R=>tl σ H λx H1=>∃ d ae,x=.ref d/\H1 d=Vo (.dK ae)/\∀ ob,NF X d->R (Itd d ob ae) (upd H1 d (.frz ob (.dK ae)))
section
variable{X:Cx}
theorem Xxb{tg l:Expr}{tl:TE}(hl:PE X l tl):PI X tg l (ZZc X tl):=by
 intro aa s σ H R I h;refine thn (hl aa s σ H _ I h) λv s1 hZ=>?_
 obtain⟨x,H1,I1,r1,q1⟩:=hZ;obtain⟨d,ae,e,hd,q⟩:=q1;subst e;obtain rfl:v=Vk d:=r1;obtain⟨ob,vc,I2⟩:=I1.freeze hd;obtain⟨z,y,vs,rv,o,es,ep,e0,c1,c2,c3⟩:=(show QR X.prog X.w H1 s1.heap d (.dK ae) from I1.hok d _ hd)
 rw[vc]at e0;cases e0;have da:s1.heap.DictAt (Q3 X.prog X.w) d vs ep:=⟨ob,es,vc,c1,c2,c3⟩;refine wpAny_pyIter_dict y da ?_
 have nf:=I1.nf hd;refine⟨s1.heap.objs.size,[s1.heap.objs.size],_,_,upd H1 d (.frz ob (.dK ae)),rfl,I2.kept (t':=s1.toks) λb o e=>Uk _ e,Quc _ d ob ae es ep c2,⟨_,Ul _ rfl,rfl,?_⟩,λb hb=>?_,q ob nf⟩
 ·rw[rv.len];rfl
 ·have e:b=s1.heap.objs.size:=by simpa using hb
  subst e;exact I2.fpOk (Um _) (I2.hok.fresh (Um _))
def Xic(X:Cx)(te:TE):TE:=λσ H Q=>te σ H λv H1=>∃ d ob ae,NF X d/\H1 d=Vo (.frz ob (.dK ae))/\Q v (upd H1 d (.dK ae))
theorem Xyb{e:Expr}{te:TE}(h:PE X e te):PE X e (Xic X te):=λaa s σ H Q I q=>V1 (h aa s σ H _ I q) (λu s1 ⟨v,H',I',r,d,ob,ae,nf,e,q'⟩=>⟨v,_,I'.thaw nf e,r,q'⟩) λ_ _ z=>z
theorem Qvc{tl:TE}{g:TG}{tb:TS}{D:JR}{σ:St}{H:Hp}:QSb (ZZc X tl) g tb D σ H=tl σ H λx H1=>∃ d ae,x=.ref d/\H1 d=Vo (.dK ae)/\∀ ob,NF X d->FoR (Itd d ob ae) g tb D σ (upd H1 d (.frz ob (.dK ae))):=rfl
theorem Z0c{tl:TE}{tt:TT}{te:TE}{σ:St}{H:Hp}{Q:VK}:tLc (ZZc X tl) tt te σ H Q=tl σ H λx H1=>∃ d ae,x=.ref d/\H1 d=Vo (.dK ae)/\∀ ob,NF X d->LcR (Itd d ob ae) tt te σ Q (upd H1 d (.frz ob (.dK ae))):=rfl
end
theorem Jlb{d:Vh}{ob:Obj}{ae:List (Key×V)}{tt:TT}{σ:St}{H1:Hp}{Q:VK}(p:V->Bool)(hz:ae.length<=Vs)(hd:H1 d=Vo (.frz ob (.dK ae)))
 (he:∀ k v H2 (R:Bool->Hp->Prop),(k,v)∈ae->Qn H1 H2->(∀ H3,Qn H2 H3->R (p (kV k)) H3)->tt (Vo (kV k)::σ) H2 R)
 (hq:∀ D H2,H1 D=Vp->Qn H1 H2->H2 D=Vo (.lst ((ae.map λq=>kV q.1).filter p))->Q (.ref D) H2):LcR (Itd d ob ae) tt (Yv 0) σ Q H1 :=
 Yub (ae.map λq=>kV q.1) p (by rw[UJ];exact hz) (λi H2 hi s=>⟨⟨s _ _ hd,by rwa [UJ]at hi⟩,λx H' ⟨e,k,v,jl,ex⟩=>⟨e,by rw[Oe,jl,ex];rfl⟩⟩)
  (λH2 s=>⟨s _ _ hd,by rw[UJ];exact Um _⟩) (λi x H2 R hx s r=>by
   rw[Oe]at hx
   cases e:ae[i]? with
   | none=>rw[e]at hx;cases hx
   | some q =>
    rw[e]at hx;cases hx;exact he q.1 q.2 H2 R (Og e) s r) hq
theorem Zi.u1{k:Nat}{A:VG}(r:Zi k A):A.units+1 < UR:=by have:=r.units;lia
def SqE(b:Bool)(K:VD)(H:Hp)(a:Vh)(xs:List V):Prop:=if b=true then SqT K H a xs else SqL K H a xs
def ItE(b:Bool)(K:VD)(a:Vh):It:=if b=true then Itt K a else Itl K a
theorem SqE.same{b:Bool}{K:VD}{H H':Hp}{a:Vh}{xs:List V}(h:SqE b K H a xs)(s:Qn H H'):SqE b K H' a xs:=by
 cases b with
 | true=>exact Qn.seqT s h
 | false=>exact Qn.seq s h
def Q1d(K:VD)(tl:TE):TI:=λσ H R=>tl σ H λx H1=>∃ a b,x=.ref a/\(∃ xs,SqE b K H1 a xs)/\R (ItE b K a) H1
section
variable{X:Cx}{tg:Expr}
theorem Qcd{l:Expr}{tl:TE}(hl:PE X l tl):PI X tg l (Q1d X.K tl):=by
 intro aa s σ H R I h;refine thn (hl aa s σ H _ I h) λv s1 hZ=>?_
 obtain⟨x,H1,I1,r1,q1⟩:=hZ;obtain⟨a,b,e,⟨xs,hq⟩,q⟩:=q1;subst e;cases r1;cases b with
 | false =>
  obtain⟨ah,rv,p,hz⟩:=I1.list hq;refine wpAny_pyIter_list p.isList ?_
  refine⟨s1.heap.objs.size,[s1.heap.objs.size],_,_,H1,rfl,I1.kept (t':=s1.toks) λb o e=>Uk _ e,Qkb a _,⟨_,Ul _ rfl,rfl,rfl⟩,λb hb=>?_,q⟩
  have e:b=s1.heap.objs.size:=by simpa using hb
  subst e;exact I1.fpOk (Um _) (I1.hok.fresh (Um _))
 | true =>
  obtain⟨ah,rv,p,hz⟩:=I1.tuple hq;refine wpAny_pyIter_tuple (show s1.heap.IsTuple a ah.toArray from p) ?_
  refine⟨s1.heap.objs.size,[s1.heap.objs.size],_,_,H1,rfl,I1.kept (t':=s1.toks) λb o e=>Uk _ e,YOa a _,⟨_,Ul _ rfl,rfl,rfl⟩,λb hb=>?_,q⟩
  have e:b=s1.heap.objs.size:=by simpa using hb
  subst e;exact I1.fpOk (Um _) (I1.hok.fresh (Um _))
end
theorem Z1c{K:VD}{tl:TE}{g:TG}{tb:TS}{D:JR}{σ:St}{H:Hp}:QSb (Q1d K tl) g tb D σ H=tl σ H λx H1=>∃ a b,x=.ref a/\(∃ xs,SqE b K H1 a xs)/\FoR (ItE b K a) g tb D σ H1:=rfl
theorem YCc{b:Bool}{K:VD}{a:Vh}(xs:List V){g:TG}{tb:TS}{D:JR}{σ:St}{H:Hp}(Pv:Nat->St->Hp->Prop)(h0:Pv 0 σ H)(hl:∀ i σ H,i<=xs.length->Pv i σ H->SqE b K H a xs)
 (hs:∀ i x σ H,xs[i]?=Vo x->Pv i σ H->g x σ H λσ2 H2=>tb { D with nx:=Pv (i+1),ct:=Pv (i+1),bk:=D.nx } σ2 H2) (hd:∀ σ H,Pv xs.length σ H->D.nx σ H):FoR (ItE b K a) g tb D σ H:=by
 cases b with
 | true=>exact Yrc xs Pv h0 hl hs hd
 | false=>exact Z8 xs Pv h0 hl hs hd
end L2
end
section
namespace PySem.W
open PySem
def Z9(K:VD)(C:Vh)(fl:List Str):Bool:=plainGet K C Str.empty && (hasDictIn K C && (plainOver K C && (Uy K (.ref C) "__setattr__" == Vo (Vo (.builtin "object.__setattr__")) && (Uy K (.ref C) "__class__" == Vo (Vo (.builtin "object.__class__")) && (mroIn K C (.type "object") == Vo true && fl.all λf=>Uy K (.ref C) f == Vo Vp)))))
theorem Jmb{K:VD}{C:Vh}{fl:List Str}(h:Z9 K C fl=true):L2.Cls K C/\Uy K (.ref C) "__class__"=Vo (Vo (.builtin "object.__class__"))/\mroIn K C (.type "object")=Vo true/\∀ f∈fl,L2.JX K C f:=by
 unfold Z9 at h;simp only[OZ,beq_iff_eq,O8]at h;obtain⟨a,b,c,d,e,f,g⟩:=h;exact⟨⟨a,b,c,d⟩,e,f,g⟩
def Z2c(K:VD)(l:List Vh)(m:Nat->Nat->Bool):Bool:=(VC l.length).all λi=>(VC l.length).all λj=>kitOne K (.ref (l.getD i 0)) (.ref (l.getD j 0)) == Vo (m i j)
theorem Qdd{K:VD}{l:List Vh}{m:Nat->Nat->Bool}(h:Z2c K l m=true):∀ i j,i < l.length->j < l.length->kitOne K (.ref (l.getD i 0)) (.ref (l.getD j 0))=Vo (m i j):=by
 unfold Z2c at h;simp only[O8,Du,beq_iff_eq]at h;exact λi j hi hj=>h i hi j hj
end PySem.W
namespace L2
open PySem PySem.Spec PyProof.Rows
structure ObC(K:VD)(C:Vh)(fl:List Str):Prop where
 cl:Cls K C
 cc:Uy K (.ref C) "__class__"=Vo (Vo (.builtin "object.__class__"))
 mo:W.mroIn K C (.type "object")=Vo true
 no:∀ f∈fl,JX K C f
 cg:UO K (.builtin "object.__class__") "__get__"=Vo (Vo (.builtin "getset_descriptor.__get__"))
 ct:W.takesIn K (.builtin "object.__class__")=Vo true
theorem ObC.of{K:VD}{C:Vh}{fl:List Str}(h:W.Z9 K C fl=true)(cg:UO K (.builtin "object.__class__") "__get__"=Vo (Vo (.builtin "getset_descriptor.__get__")))(ct:W.takesIn K (.builtin "object.__class__")=Vo true):ObC K C fl :=
 let ⟨a,b,c,d⟩:=W.Jmb h;⟨a,b,c,d,cg,ct⟩
def JOa(P:Vg)(w:Vb)(K:VD)(mg:Str->Option Va)(base:Vq)(k:Nat)(m:Str)(ta:TE)(t:TA):TE1:=λσ H Q E=>ta σ H λx H1=>∃ a C dx fs sp,x=.ref a/\H1 a=Vo (.ins C dx fs)/\fs.lookup m=Vp/\Cls K C/\MeV P w K mg base k C m sp/\t σ H1 λvs H2=>sp (x::vs) H2 Q E
section
variable{X:Cx}{m:Str}{k:Nat}{ta:TE}{t:TA}{e o:Expr}{es:List Expr}{pos ao:Pos}{pl:Sem Bool}
theorem Zb(he:PE X.nox o ta)(hr:Zi k X.A)(bp:X.ex=[])(ha:PA X.nox (e::es) t)
 (cQ:VZ (e::es) X.env=(false,VX e X.env)::VZ es X.env:=by rfl) (aN:(VY pos (VZ es X.env)).any (·.1)=false:=by rfl)
 (ht:VX (.Call (.Attribute o m ao) (e::es) [] pos) X.env=(do
  let ov <- VX o X.env
  V5 ao.atName
  let (f,first) <- V6 [ov] (UA ov m pl)
  LH pos f first (VY pos (VZ (e::es) X.env)) (U3 pos (U4 [] X.env))):=by rfl) :
 PE1 X (.Call (.Attribute o m ao) (e::es) [] pos) (JOa X.prog X.w X.K X.mg X.base k m ta t):=by
 intro aa s σ H Q E I h;refine LI (pl:=pl) (thn (Xvb he I h) λu s1 hZ=>?_) ht
 obtain⟨y,H1,I1,rx,a,C,dx,fs,sp,ex,ea,l,c,G,q⟩:=hZ;obtain⟨f,fd,ps,hm,F,hb⟩:=G;subst ex;obtain rfl:u=Vk a:=rx;refine YI I1 ea c hm l ?_
 refine UZ (first:=[.ref a]) (h₀:=X.base) I.ok.mod.kin hm.kp (thn (Ywb ha I1 q) λus s2 ⟨vs,H2,I2,r,q2⟩=>⟨I2.kIn,?_⟩) cQ aN
 exact Jma (us:=.ref a::us) (vs:=.ref a::vs) F hr hb bp I2 (.cons rfl r) q2
theorem XI(he:PE X.nox o ta)(hr:Zi k X.A)(bp:X.ex=[])
 (ht:VX (.Call (.Attribute o m ao) [] [] pos) X.env=(do
  let ov <- VX o X.env
  V5 ao.atName
  let (f,first) <- V6 [ov] (UA ov m pl)
  LH pos f first (VY pos (VZ [] X.env)) (U3 pos (U4 [] X.env))):=by rfl) :
 PE1 X (.Call (.Attribute o m ao) [] [] pos) (JOa X.prog X.w X.K X.mg X.base k m ta Jba):=by
 intro aa s σ H Q E I h;refine LI (pl:=pl) (thn (Xvb he I h) λu s1 hZ=>?_) ht
 obtain⟨y,H1,I1,rx,a,C,dx,fs,sp,ex,ea,l,c,G,q⟩:=hZ;obtain⟨f,fd,ps,hm,F,hb⟩:=G;subst ex;obtain rfl:u=Vk a:=rx;refine YI I1 ea c hm l ?_
 exact U1 (first:=[.ref a]) I1.kIn hm.kp (Jma (us:=[.ref a]) (vs:=[.ref a]) F hr hb bp I1 (.cons rfl .nil) q)
theorem Qed{j:Nat}{x:Str}{C:Vh}{sp:Sp}{p:Pos}(G:MkV X.prog X.w X.K X.mg X.base j x C sp)(hr:Zi k X.A)(hj:j+1<=k)(hg:Gl X x)(aV:(x == ("__debug__":Str))=false:=by decide):PE X (.Call (.Name x p) [] [] pos) (Xeb C sp [] E0 Jba):=by
 obtain⟨f,fd,ps,M,F,b,hm⟩:=G;exact Q8c M F (hr.mono hj) hg hm b .nil Xhb aV
end
theorem JA{x y:V}:[x,y].length<=Vs:=show 2<=Vs by decide
theorem Z3c{J:It}{tt:TT}{te:TE}{σ:St}{H1:Hp}{Q:VK}(xs:List V)(p:V->Bool)(f:V->V)(hz:xs.length<=Vs)
 (kn:∀ i H2,i < xs.length->Qn H1 H2->J.go i H2/\∀ x H',J.yld i H2 x H'->H'=H2/\xs[i]?=Vo x) (cQ:∀ H2,Qn H1 H2->J.stop xs.length H2)
 (ht:∀ (i:Nat) x H2 (R:Bool->Hp->Prop),xs[i]?=Vo x->Qn H1 H2->R (p x) H2->tt (Vo x::σ) H2 R)
 (he:∀ (i:Nat) x H2 (R:VK),xs[i]?=Vo x->p x=true->Qn H1 H2->R (f x) H2->te (Vo x::σ) H2 R)
 (hq:∀ D H2,H1 D=Vp->Qn H1 H2->H2 D=Vo (.lst ((xs.filter p).map f))->Q (.ref D) H2):LcR J tt te σ Q H1:=by
 intro D hD;refine⟨λi m ys H2=>m=xs.length - i/\i<=xs.length/\ys=((xs.take i).filter p).map f/\H2 D=Vo (.lst ys)/\Qn H1 H2,⟨_,rfl,Us _,by simp,Qa,Qf hD _⟩,?_⟩
 rintro i m ys H2 ⟨rfl,hi,hy,hd,sm⟩;refine⟨hd,?_⟩
 by_cases aG:i < xs.length
 ·obtain⟨go,yl⟩:=kn i H2 aG sm
  have hl:ys.length<=i:=by
   rw[hy,UJ];exact VJ (OI _ _) (by rw[Oa];lia)
  refine .inr ⟨go,by lia,λx H' y=>?_⟩
  obtain⟨e,hx⟩:=yl x H' y;subst e;have hn:((xs.take (i+1)).filter p).map f=if p x=true then ys++[f x] else ys:=by
   rw[Lo,hx,Ls,LM,<- hy];cases hp:p x <;> simp[hp]
  refine ht i x _ _ hx sm ?_
  cases hp:p x with
  | true =>
   rw[if_pos rfl];refine he i x _ _ hx hp sm ⟨hd,xs.length - (i+1),by lia,rfl,aG,?_,Qa,sm.updL hD _⟩
   rw[hn,hp,if_pos rfl]
  | false =>
   rw[if_neg Uc];refine⟨xs.length - (i+1),by lia,rfl,aG,?_,hd,sm⟩
   rw[hn,hp,if_neg Uc]
 ·have e:i=xs.length:=by lia
  subst e;rw[Lr]at hy;exact .inl ⟨cQ H2 sm,hq D H2 hD sm (by rw[hd,hy])⟩
theorem Z4c{K:VD}{a:Vh}{tt:TT}{te:TE}{σ:St}{H1:Hp}{Q:VK}(xs:List V)(p:V->Bool)(f:V->V)(hx:SqL K H1 a xs)(hz:xs.length<=Vs)
 (ht:∀ (i:Nat) x H2 (R:Bool->Hp->Prop),xs[i]?=Vo x->Qn H1 H2->R (p x) H2->tt (Vo x::σ) H2 R)
 (he:∀ (i:Nat) x H2 (R:VK),xs[i]?=Vo x->p x=true->Qn H1 H2->R (f x) H2->te (Vo x::σ) H2 R)
 (hq:∀ D H2,H1 D=Vp->Qn H1 H2->H2 D=Vo (.lst ((xs.filter p).map f))->Q (.ref D) H2):LcR (Itl K a) tt te σ Q H1 :=
 Z3c xs p f hz (λi H2 hi s=>⟨⟨xs,xs[i],s.seq hx,by simp[hi]⟩,λx H' y=>⟨y.1,y.2 xs (s.seq hx)⟩⟩) (λH2 s=>⟨xs,s.seq hx,Um _⟩) ht he hq
theorem Xzb{K:VD}{a:Vh}{tt:TT}{te:TE}{σ:St}{H1:Hp}{Q:VK}(xs:List V)(p:V->Bool)(f:V->V)(hx:SqT K H1 a xs)(hz:xs.length<=Vs)
 (ht:∀ (i:Nat) x H2 (R:Bool->Hp->Prop),xs[i]?=Vo x->Qn H1 H2->R (p x) H2->tt (Vo x::σ) H2 R)
 (he:∀ (i:Nat) x H2 (R:VK),xs[i]?=Vo x->p x=true->Qn H1 H2->R (f x) H2->te (Vo x::σ) H2 R)
 (hq:∀ D H2,H1 D=Vp->Qn H1 H2->H2 D=Vo (.lst ((xs.filter p).map f))->Q (.ref D) H2):LcR (Itt K a) tt te σ Q H1 :=
 Z3c xs p f hz (λi H2 hi s=>⟨⟨xs,xs[i],s.seqT hx,by simp[hi]⟩,λx H' y=>⟨y.1,y.2 xs (s.seqT hx)⟩⟩) (λH2 s=>⟨xs,s.seqT hx,Um _⟩) ht he hq
def ZEa(H:Hp):V->V
 | .ref a=>match H a with | some (.tup [_,w])=>w | _=>.non
 | _=>.non
theorem QHa{H:Hp}{a:Vh}{k w:V}(h:H a=Vo (.tup [k,w])):ZEa H (.ref a)=w:=by
 show(match H a with | some (.tup [_,w])=>w | _=>.non)=w
 rw[h]
theorem QJ{K:VD}{C a dx:Vh}{fl:List Str}{f:Str}{fs:List (Str×V)}{v:V}{i:Nat}{σ:St}{H:Hp}{Q:VK}(c:ObC K C fl)(hf:f∈fl)(hs:σ[i]?=Vo (Vo (.ref a)))(ha:H a=Vo (.ins C dx fs))(hv:fs.lookup f=Vo v)(q:Q v H):Q6c K (Yv i) f σ H Q :=
 Yw hs ⟨a,C,dx,fs,v,rfl,ha,c.cl,c.no f hf,hv,q⟩
theorem JPa{K:VD}{C a dx:Vh}{fl:List Str}{f:Str}{fs:List (Str×V)}{i:Nat}{σ:St}{H H1:Hp}{tv:TE}{D:JR}{y:V}(c:ObC K C fl)(hf:f∈fl)(hs:σ[i]?=Vo (Vo (.ref a)))(hv:∀ Q:VK,Q y H1->tv σ H Q)(ha:H1 a=Vo (.ins C dx fs))(l:fs.length < 1000)(q:D.nx σ (upd H1 a (.ins C dx (Z3 f y fs)))):QJd K (Yv i) tv f D σ H :=
 hv _ (Yw hs ⟨a,C,dx,fs,rfl,ha,c.cl,c.no f hf,l,q⟩)
theorem Jnb{H:Hp}{a b:Vh}{x y:HO}(h:a≠b):upd (upd H a x) b y=upd (upd H b y) a x:=by
 funext c
 by_cases h1:c=b
 ·subst h1;rw[Qa,Qk (VR h),Qa]
 ·by_cases h2:c=a
  ·subst h2;rw[Qa,Qk h1,Qa]
  ·rw[Qk h1,Qk h2,Qk h2,Qk h1]
def HE(b:Bool)(H:Hp)(e:Vh)(xs:List V):Prop:=H e=Vo (if b=true then .tup xs else .lst xs)
theorem HE.upd_ins{b:Bool}{H:Hp}{a e C dx:Vh}{o:HO}{fs:List (Str×V)}{xs:List V}(h:HE b H e xs)(ha:H a=Vo (.ins C dx fs)):HE b (upd H a o) e xs:=by
 have ne:e≠a:=λz=>by
  unfold HE at h;rw[z,ha]at h;cases b <;> cases h
 unfold HE;rw[Qk ne];exact h
theorem HE.same{b:Bool}{H H':Hp}{e:Vh}{xs:List V}(h:HE b H e xs)(s:Qn H H'):HE b H' e xs:=s _ _ h
section
variable{P:Vg}{w:Vb}{K:VD}{mg:Str->Option Va}{base:Vq}{k i:Nat}{C D a dx:Vh}{m:Str}{sp:Sp}{fs:List (Str×V)}{fl:List Str}{σ:St}{H:Hp}{Q:VK}{E:XK}{t:TA}{b:Bool}
theorem Xr(hs:σ[i]?=Vo (Vo (.ref a)))(ha:H a=Vo (.ins C dx fs))(l:fs.lookup m=Vp)(c:Cls K C)(M:MeV P w K mg base k C m sp)(q:sp [.ref a] H Q E):JOa P w K mg base k m (Yv i) Jba σ H Q E:=Yw hs ⟨a,C,dx,fs,sp,rfl,ha,l,c,M,q⟩
theorem Jn(hs:σ[i]?=Vo (Vo (.ref a)))(ha:H a=Vo (.ins C dx fs))(l:fs.lookup m=Vp)(c:Cls K C)(M:MeV P w K mg base k C m sp)(q:t σ H λvs H2=>sp (.ref a::vs) H2 Q E):JOa P w K mg base k m (Yv i) t σ H Q E:=Yw hs ⟨a,C,dx,fs,sp,rfl,ha,l,c,M,q⟩
theorem XAb{n:Nat}{d:Dt}{x y:V}{neg:Bool}(hn:n<=60)(rx:Rep K H n d x)(ry:Rep K H n d y)(q:Q (.bl (!neg)) H):rD K neg x y H Q:=⟨n,d,d,hn,rx,ry,by
 rw[Rep.self rx];cases neg <;> exact q⟩
end
theorem XJ{H H':Hp}{x dx:Vh}{o u:HO}(hx:H x=Vp)(bt:H dx=Vp)(s:Qn (upd (upd H dx u) x o) H'):Qn H H':=λb v hb=>s _ _ (by rw[Qk (Qy hb hx),Qk (Qy hb bt)];exact hb)
theorem Jd{H H':Hp}{d:Vh}{o:HO}(s:Qn H H')(n:H d=Vp):Qn H (upd H' d o):=λb u hb=>by
 rw[Qk (Qy hb n)];exact s b u hb
def Z5c(lo:Int)(n:Nat):It:=⟨λi _=>i < n,λi H x H'=>H'=H/\x=.int (lo - i),λi _=>n<=i⟩
theorem Qwc{P:Vg}{w:Vb}{K:VD}{tg:Expr}(it:Vh)(lo:Int)(n:Nat):ZSb P w K tg (Z5c lo n) [it] it (λi h=>Uj h it (lo+(i:Nat) * (-1)) ((n:Int) - (i:Nat)) (-1)) where
 mem:=by simp
 obj:=λi h st b hb=>by
  have e:b=it:=by simpa using hb
  subst e;exact⟨_,st,λv z=>by
   have z':Data.fields _=Data.cell v:=z;cases z'⟩
 keep:=λi h h' st k=>k it #[2] _ st
 item:=by
  intro X hP hw hK hc i aa s σ H E I hf st hg;subst hP hw hK;obtain⟨f0,f1,f2,f3,f4,f5⟩:=hf it #[2]
  have W:=Walks.range (prog:=X.prog) (w:=X.w) (I.ok.hd hc) it lo (-1) n;refine W.item i s _ _ hg st λv h' tk hv ag kk=>?_
  obtain⟨t,rfl⟩:=hv;have I1:Inv X aa σ H { s with heap:=h',toks:=tk }:=I.turned (λb o hb e=>kk b o (by simpa using hb) e) f0 f1 f3 f4 f5
  refine⟨_,rfl,YNa (s:={ s with heap:=h',toks:=tk }) (n:="range_iterator") ag rfl rfl #[1] ⟨.int (lo - i),H,I1,⟨t,?_⟩,⟨rfl,rfl⟩,ag,λb hb=>(hf b hb).1⟩⟩
  rw[Int.mul_neg,Int.mul_one,Int.sub_eq_add_neg]
 done:=by
  intro X hP hw hK hc i aa s σ H E I hf st hg;subst hP hw hK;obtain⟨f0,f1,f2,f3,f4,f5⟩:=hf it #[2]
  exact wpAny_pyNext_range_end (I.ok.hd hc) st (by have:n<=i:=hg;lia) λh' eb=>⟨rfl,I.turned (t':=s.toks) (λb o hb e=>eb b o hb e) f0 f1 f3 f4 f5⟩
 self:=λ_ _ _ _ _ st h=>wpAny_pyIter_rangeiter st h
theorem QIa(a b:Int):Uo a b (-1)=if b < a then a - b else 0:=by
 unfold Uo;simp only[show ¬ ((-1:Int) > 0) by decide,if_false,Int.neg_neg,Int.ediv_one]
 split <;> lia
theorem Yyb{a b:Int}(ha : -(2 ^ 62)<=a)(jm:a < 2 ^ 62)(hb : -(2 ^ 62)<=b)(n8:b < 2 ^ 62):Builtin.Range.small a b (-1)=true:=by
 unfold Builtin.Range.small;rw[QIa];simp only[Builtin.Range.rangeFitsLong,OZ,Bool.or_eq_true,decide_eq_true_eq,beq_iff_eq,show ¬ ((-1:Int) > 0) by decide,if_false]
 split <;> lia
section
variable{X:Cx}{tg:Expr}
theorem Z6c{aa:YP_}{σ:St}{H:Hp}{s:VH}{R:It->Hp->Prop}{E:YQ_}{lo hi:Int}{t u v:Tok}{tk:Nat}(I:Inv X aa σ H s)(h1 : -(2 ^ 62)<=lo)(h2:lo < 2 ^ 62)(h3 : -(2 ^ 62)<=hi)(h4:hi < 2 ^ 62)
 (q:R (Z5c lo (lo - hi).toNat) H):VV (VW X.prog X.w) X.A (pyIter (.ref s.heap.objs.size)) (PIE X aa σ tg R) E { s with heap:=s.heap.push { cls:=.type "range",data:=.fields #[.int lo t,.int hi u,.int (-1) v] },toks:=tk }:=by
 refine wpAny_pyIter_range (IsRange.new ..) (Yyb h1 h2 h3 h4) ?_
 have I1:Inv X aa σ H { s with heap:=s.heap.push { cls:=.type "range",data:=.fields #[.int lo t,.int hi u,.int (-1) v] },toks:=tk }:=I.kept λb o e=>Uk _ e
 refine⟨(s.heap.push { cls:=.type "range",data:=.fields #[.int lo t,.int hi u,.int (-1) v] }).objs.size,[(s.heap.push { cls:=.type "range",data:=.fields #[.int lo t,.int hi u,.int (-1) v] }).objs.size],_,_,H,rfl,
  I1.kept (t':=tk) λb o e=>Uk _ e,Qwc _ lo (lo - hi).toNat,?_,λb hb=>?_,q⟩
 ·have e1:lo+((0:Nat):Int) * (-1)=lo:=by simp
  have e2:(((lo - hi).toNat:Nat):Int) - ((0:Nat):Int)=Uo lo hi (-1):=by rw[QIa];split <;> lia
  show Uj _ _ (lo+((0:Nat):Int) * (-1)) ((((lo - hi).toNat:Nat):Int) - ((0:Nat):Int)) (-1);rw[e1,e2];exact Ul _ rfl
 ·have e:b=(s.heap.push { cls:=.type "range",data:=.fields #[.int lo t,.int hi u,.int (-1) v] }).objs.size:=by simpa using hb
  subst e;exact I1.fpOk (Um _) (I1.hok.fresh (Um _))
def Xjc(ta:TA):TI:=λσ H R=>ta σ H λvs H1=>∃ i j:Int,vs=[.int i,.int j,.int (-1)]/\(-(2 ^ 62)<=i/\i < 2 ^ 62 /\ -(2 ^ 62)<=j/\j < 2 ^ 62)/\R (Z5c i (i - j).toNat) H1
theorem Qxc{a b c:Expr}{ta:TA}{p pos:Pos}(hg:Gl X "range")(hm:X.mg "range"=Vp)(ha:PA X [a,b,c] ta)(hs:VZ [a,b,c] X.env=[(false,VX a X.env),(false,VX b X.env),(false,VX c X.env)]:=by rfl)
 (cf:VZ [b,c] X.env=[(false,VX b X.env),(false,VX c X.env)]:=by rfl):PI X tg (.Call (.Name "range" p) [a,b,c] [] pos) (Xjc ta):=by
 intro aa s σ H R I h;refine Call_ (XA I hg hm boot_range (Uq (thn (ha pos aa s σ H _ I h) λus s1 ⟨vs,H1,I1,r1,q1⟩=>?_) (by rw[hs,cf]) (by rw[cf];rfl)))
 obtain⟨i,j,e,⟨q1,q2,q3,q4⟩,q⟩:=q1;subst e;cases r1 with
 | cons r rr =>
  cases rr with
  | cons r' rr =>
   cases rr with
   | cons r'' rr =>
    cases rr;obtain⟨t,rfl⟩:=r;obtain⟨t',rfl⟩:=r';obtain⟨t'',rfl⟩:=r'';exact call_range_3 #[1] (Z6c I1 q1 q2 q3 q4 q) (.inl (PyProof.noPylong_small #[0]))
end
theorem Qyc{ta:TA}{g:TG}{tb:TS}{D:JR}{σ:St}{H:Hp}:QSb (Xjc ta) g tb D σ H=ta σ H λvs H1=>∃ i j:Int,vs=[.int i,.int j,.int (-1)]/\(-(2 ^ 62)<=i/\i < 2 ^ 62 /\ -(2 ^ 62)<=j/\j < 2 ^ 62)/\FoR (Z5c i (i - j).toNat) g tb D σ H1:=rfl
theorem Z7c{lo:Int}{n:Nat}{g:TG}{tb:TS}{D:JR}{σ:St}{H:Hp}(Pv:Nat->St->Hp->Prop)(h0:Pv 0 σ H)
 (hs:∀ i σ H,i < n->Pv i σ H->g (.int (lo - i)) σ H λσ2 H2=>tb { D with nx:=Pv (i+1),ct:=Pv (i+1),bk:=D.nx } σ2 H2) (hd:∀ σ H,Pv n σ H->D.nx σ H):FoR (Z5c lo n) g tb D σ H:=by
 refine⟨λi m σ H=>m=n - i/\i<=n/\Pv i σ H,⟨_,rfl,Us _,h0⟩,?_⟩
 rintro i m σ H ⟨rfl,hi,hp⟩
 by_cases aG:i < n
 ·refine .inr ⟨aG,Pv (i+1),λσ' H' h=>⟨n - (i+1),by lia,rfl,aG,h⟩,?_⟩
  rintro x H' ⟨rfl,rfl⟩;exact hs i σ _ aG hp
 ·have e:i=n:=by lia
  subst e;exact .inl ⟨Um _,hd σ H hp⟩
end L2
end
section
namespace L2
open PySem PySem.Spec PyProof.Rows PySem.W
section
variable{X:Cx}{aa:YP_}{σ:St}{H:Hp}{s:VH}{A:VG}{E:YQ_}
end
section
variable{prog:Vg}{w:Vb}{A:VG}{E:YQ_}{s:VH}{T:String}{r d:Vh}{n:Nat}{P:Nat->Va->Prop}{OK:Vq->Prop}
end
theorem XBb:∀ {xs:List V} {us:List Va},xs.length=us.length->(∀ (i:Nat) x u,xs[i]?=Vo x->us[i]?=Vo u->QB x u)->QG xs us
 | [],[],_,_=>.nil
 | x::xs,u::us,l,h=>.cons (h 0 x u rfl rfl) (XBb (by simpa using l) λi x u a b=>h (i+1) x u (by simpa using a) (by simpa using b))
 | [],u::us,l,_=>by simp at l
 | x::xs,[],l,_=>by simp at l
theorem Qzc{ae:List (Key×V)}{vs:List (Key×Va)}{aO:Array Va}{prog:Vg}{w:Vb}(rv:KV ae vs)(h:ItemsOf (λi v=>∃ k x,vs[i]?=Vo (k,x)/\(Q3 prog w).is k v=true) aO vs.length):QG (ae.map λp=>kV p.1) aO.toList:=by
 refine XBb (by have e1:=h.1;have e2:=rv.len;have e3:aO.toList.length=aO.size:=V7;rw[UJ];lia) λi x u hx hu=>?_
 rw[Oe]at hx
 obtain⟨⟨k,v⟩,jl,rfl⟩:=Option.map_eq_some_iff.mp hx;obtain⟨u',oy,_⟩:=rv.get jl;obtain⟨k',x',e,hk⟩:=h.2 i u (by rw[<- IR];exact hu)
 rw[oy]at e;cases e;exact ZXc hk
section
variable{prog:Vg}{w:Vb}{A:VG}{E:YQ_}{s:VH}
end
section
variable{prog:Vg}{w:Vb}{K:Type}[DecidableEq K]{knd:KeyKind prog w K}{A:VG}{E:YQ_}{s:VH}
end
theorem YDc{k:Key}{u:Va}(h:QB (kV k) u):Zwa k u=true/\u.scannable=true:=by
 cases k with
 | inl n=>obtain⟨t,rfl⟩:=h;exact⟨by simp[Zwa,Value.isInt],rfl⟩
 | inr z=>obtain⟨t,rfl⟩:=h;exact⟨by simp[Zwa,Value.isStrOf],rfl⟩
section
variable{X:Cx}{e:Expr}{te:TE}{p pos p2 eW:Pos}{aa:YP_}{σ:St}{H:Hp}{s:VH}
end
section
variable{X:Cx}
theorem Z8c{A:VG}{prog:Vg}{w:Vb}{s:VH}{E:YQ_}{l b:Vh}{ai aB:Array Va}{n n2:Nat}{o2:Obj}{Q:Fin->VH->Prop}(e:s.heap.get? l=Vo { cls:=.type "list",data:=.seq ai n })(e2:s.heap.get? b=Vo o2)
 (hc:o2.cls=.type "list"\/o2.cls=.type "tuple") (hd:o2.data=.seq aB n2) (hsz:ai.size+aB.size<=Vs) (h:Q (.done (.ret .none)) { s with heap:=s.heap.update l (Ot λx=>x++aB) }) :
 VV (VW prog w) A (OW.«list.extend» ⟨[.ref l,.ref b],[]⟩) Q E s:=by
 have kz:¬ (!ai.isEmpty && Ov (ai.size+aB.size))=true:=by
  rw[Zbc hsz,LD];exact Uc
 show VV _ _ (LN (.ref l) (.ref b) .none) _ _ s;unfold LN
 rcases hc with hc | hc
 all_goals
  refine Uh (LO ⟨o2,e2,hc⟩ ?_)
  rw[if_pos #[2]]
  refine Uh (Lk e2 hd ?_)
  refine Uh (Lk e rfl ?_)
  rw[if_neg kz];refine Uh (Lf e rfl ?_ #[0] (by rw[Array.size_append];lia))
  exact Ug h
def Job(K:VD):V->List V->Hp->VK->Prop:=λx vs H Q=>∃ l b xs zs,x=.ref l/\vs=[.ref b]/\H l=Vo (.lst xs)/\(SqL K H b zs\/SqT K H b zs)/\xs.length+zs.length<=Vs/\Q .non (upd H l (.lst (xs++zs)))
theorem Xba:MtM X "list.extend" (Job X.K):=by
 intro aa s σ H x vs v us Q I rx rv h;obtain⟨l,b,xs,zs,rfl,rfl,hH,hB,hz,q⟩:=h;cases rx;obtain⟨u,rfl,ru⟩:=rv.one;cases ru;obtain⟨z,ah,n,r,hl,e⟩:=I.lstM hH;obtain⟨aQ,r2,o2,n2,e2,c2,d2⟩:∃ aQ,QG zs aQ/\∃ o2 n2,s.heap.get? b=Vo o2/\(o2.cls=.type "list"\/o2.cls=.type "tuple")/\o2.data=.seq aQ.toArray n2:=by
  rcases hB with hB | hB
  ·obtain⟨aQ,r2,p,_⟩:=I.list hB
   obtain⟨o,n2,eo,c,d,_⟩:=p;exact⟨aQ,r2,o,n2,eo,.inl c,by first | exact d | assumption⟩
  ·obtain⟨aQ,r2,⟨o,eo,c,n2,d⟩,_⟩:=I.tuple hB
   exact⟨aQ,r2,o,n2,eo,.inr c,d⟩
 have jR:=r2.length;refine UW (LF F.slot_list_extend.plain F.entry_list_extend (F.slot_list_extend.check _ _ _ _ _ _ _ _ ⟨_,e,rfl⟩ (F.args_list_extend_2 _ _) ?_))
 refine Z8c e e2 c2 d2 (by rw[Ux,Ux];lia) ?_
 refine⟨.non,_,I.lset (its':=ah++aQ) hH e #[2] (r.append r2) ?_,rfl,q⟩
 rw[Oh]
 lia
end
section
variable{X:Cx}{c:Expr}{a b:V0}{tc:TT}{ta tb:TS1}{pos:Pos}
end
end L2
end
section
namespace L2
open PySem PySem.Spec PyProof.Rows
section
variable{X:Cx}{st b₀:V0}{gC:List V0}{t1:TS1}{ts:TS}{x n:Str}{D₀ CT:Vh}{np kt pos:Pos}{i:Nat}
end
section
variable{X:Cx}{ea:Vh}{qs:YP_}
end
end L2
end
section
namespace PySem.W
open PySem
def clI(K:VD)(C f:Vh):Bool:=(match findCls K (.ref C) (.type "type") "__init__" with | some (.val v)=>v == .ref f | _=>false) && (specialIn K (.ref C) "__getattribute__" == Vo (Vo (.builtin "type.__getattribute__")) && readsIn K C (.type "type"))
end PySem.W
namespace L2
open PySem PySem.Spec PyProof.Rows
structure ClI(K:VD)(C f:Vh):Prop where
 sp:UO K (.ref C) "__getattribute__"=Vo (Vo (.builtin "type.__getattribute__"))
 rd:W.readsIn K C (.type "type")=true
 ini:W.findCls K (.ref C) (.type "type") "__init__"=Vo (.val (.ref f))
theorem ClI.of{K:VD}{C f:Vh}(h:W.clI K C f=true):ClI K C f:=by
 unfold W.clI at h;rw[OZ,OZ]at h;obtain⟨a,b,c⟩:=h;refine⟨beq_iff_eq.mp b,c,?_⟩
 split at a
 ·rename_i v e
  rw[e,beq_iff_eq.mp a]
 ·exact(Uc a).elim
def BaI(P:Vg)(w:Vb)(K:VD)(mg:Str->Option Va)(base:Vq)(k:Nat)(x:Str)(sp:Sp):Prop :=
 ∃ C f fd ps,mg x=Vo (.ref C)/\ClI K C f/\UI K (.ref f)=true/\QE P w K mg base CX0 k f fd ps sp/\Z4 K fd ps []
section
variable{X:Cx}{x:Str}{sp:Sp}{e:Expr}{es:List Expr}{t:TA}{p pos ao:Pos}{pl:Sem Bool}{j k:Nat}
theorem Zja(G:BaI X.prog X.w X.K X.mg X.base j x sp)(hr:Zi k X.A)(hj:j<=k)(hg:Gl X x)(ha:PA X (e::es) t)(aV:(x == ("__debug__":Str))=false:=by decide)
 (he:VZ (e::es) X.env=(false,VX e X.env)::VZ es X.env:=by rfl) (aN:(VY pos (VZ es X.env)).any (·.1)=false:=by rfl)
 (ht:VX (.Call (.Attribute (.Name x p) "__init__" ao) (e::es) [] pos) X.env=(do
  let ov <- VX (.Name x p) X.env
  V5 ao.atName
  let (f,first) <- V6 [ov] (UA ov "__init__" pl)
  LH pos f first (VY pos (VZ (e::es) X.env)) (U3 pos (U4 [] X.env))):=by rfl) :
 PE X (.Call (.Attribute (.Name x p) "__init__" ao) (e::es) [] pos) (ZVb sp [] E0 t):=by
 obtain⟨C,f,fd,ps,hm,T,kp,F,b⟩:=G;intro aa s σ H Q I h;refine LI (pl:=pl) (YZ I hg hm ?_ aV) ht
 refine W.method_cls I.kIn T.sp (W.cls_value I.kIn T.rd T.ini rfl ?_)
 refine UZ (first:=[]) (h₀:=X.base) I.ok.mod.kin kp (thn (ha pos aa _ σ H _ (I.tok _) h) λus s1 ⟨vs,H1,I1,r,q⟩=>⟨I1.kIn,?_⟩) he aN
 rw[LJ];exact Q7c F (hr.mono hj) b .nil Xhb I1 r q
end
noncomputable instance:DecidableEq Dt:=λa b=>Classical.propDecidable (a=b)
def hV:V->Bool
 | .int _=>true
 | .str _=>true
 | .non=>true
 | _=>false
mutual
def hD:Dt->Bool
 | .v x=>hV x
 | .t xs=>hDs xs
 | .l _=>false
def hDs:List Dt->Bool
 | []=>true
 | x::xs=>hD x && hDs xs
end
theorem XCb:∀ {xs:List Dt},hDs xs=true->∀ x∈xs,hD x=true
 | [],_,x,h=>nomatch h
 | y::ys,h,x,hx=>by
  unfold hDs at h;rw[OZ]at h
  rcases mem_cons.mp hx with e | hx
  ·rw[e];exact h.1
  ·exact XCb h.2 x hx
theorem Z9c:∀ {xs:List Dt},(∀ x∈xs,hD x=true)->hDs xs=true
 | [],_=>by unfold hDs;rfl
 | y::ys,h=>by
  unfold hDs;rw[h y VN,Z9c λx hx=>h x (VO _ hx)];rfl
mutual
def haD(w:Vb):Dt->Int
 | .v (.int i)=>hashInt i
 | .v (.str x)=>hashStr w x
 | .v _=>reduceHash 0xFCA86420
 | .t xs=>reduceHash (LP (Q6b w xs))
 | .l _=>0
def Q6b(w:Vb):List Dt->List Int
 | []=>[]
 | x::xs=>haD w x::Q6b w xs
end
mutual
def drD:Dt->Nat
 | .v _=>1
 | .t xs=>ZTa xs+1
 | .l _=>0
def ZTa:List Dt->Nat
 | []=>0
 | x::xs=>drD x+ZTa xs
end
theorem JQa(w:Vb)(y:Dt):∀ xs,Q6b w (xs++[y])=Q6b w xs++[haD w y]
 | []=>by simp[Q6b]
 | x::xs=>by rw[OE];unfold Q6b;rw[JQa w y xs];rfl
theorem JRa(y:Dt):∀ xs,ZTa (xs++[y])=ZTa xs+drD y
 | []=>by simp[ZTa]
 | x::xs=>by
  rw[OE];have h1:ZTa (x::(xs++[y]))=drD x+ZTa (xs++[y]):=by rw[ZTa]
  have h2:ZTa (x::xs)=drD x+ZTa xs:=by rw[ZTa]
  rw[h1,h2,JRa y xs];lia
def YL(h:Vq):Nat->Dt->Va->Prop
 | 0,.v x,u=>hV x=true/\QB x u
 | 0,.t _,_=>False
 | 0,.l _,_=>False
 | _+1,.v x,u=>hV x=true/\QB x u
 | n+1,.t ds,u=>∃ (a:Vh) (ah:List Va),u=.ref a/\Vt h a ah.toArray/\Vm (λd v=>YL h n d v) ds ah
 | _+1,.l _,_=>False
theorem YL.flat{h:Vq}{n:Nat}{x:V}{u:Va}:YL h n (.v x) u->hV x=true/\QB x u:=by
 cases n <;> exact id
theorem YL.tup{h:Vq}{n:Nat}{ds:List Dt}{u:Va}(q:YL h n (.t ds) u):∃ m a ah,n=m+1/\u=.ref a/\Vt h a (Lc ah)/\Vm (λd v=>YL h m d v) ds ah:=by
 cases n with
 | zero=>exact q.elim
 | succ m=>obtain⟨a,ah,e,p,r⟩:=q;exact⟨m,a,ah,rfl,e,p,r⟩
theorem Jpb{x y:V}{u:Va}(hx:hV x=true)(hy:hV y=true)(r:QB x u)(q:QB y u):x=y:=by
 cases x <;> first | exact(Uc hx).elim | skip
 all_goals (cases y <;> first | exact(Uc hy).elim | skip)
 all_goals simp only[QB]at r q
 all_goals first
  | rfl
  | (obtain⟨t,rfl⟩:=r;obtain⟨t',e⟩:=q;cases e;rfl)
  | (obtain⟨t,rfl⟩:=r;obtain⟨t',e⟩:=q;cases e)
  | (obtain⟨t,rfl⟩:=r;cases q)
  | (subst r;obtain⟨t',e⟩:=q;cases e)
theorem Xca{x:V}{a:Vh}(hx:hV x=true)(r:QB x (.ref a)):False:=by
 cases x <;> first | exact(Uc hx).elim | skip
 ·cases (show Vk a=Vi from r)
 ·obtain⟨t,e⟩:=r;cases e
 ·obtain⟨t,e⟩:=r;cases e
theorem QAc{h:Vq}{a:Vh}{xs ys:List Va}(p:Vt h a xs.toArray)(q:Vt h a ys.toArray):xs=ys:=by
 obtain⟨o,ho,_,n,hd⟩:=p;obtain⟨o',bf,_,n',bo⟩:=q;rw[ho]at bf;cases bf;rw[hd]at bo;injection bo with e _
 injection e
theorem Xda{α β:Type}{F G:α->β->Prop}(det:∀ a b u,F a u->G b u->a=b):∀ {xs ys:List α} {us:List β},Vm F xs us->Vm G ys us->xs=ys
 | _,_,_,.nil,.nil=>rfl
 | _,_,_,.cons r t,.cons r' t'=>by rw[det _ _ _ r r',Xda det t t']
theorem YL.inj{h:Vq}:∀ (n m:Nat) (x y:Dt) (u:Va),YL h n x u->YL h m y u->x=y:=by
 intro n
 induction n with
 | zero =>
  intro m x y u p q;cases x with
  | v x =>
   cases y with
   | v y=>obtain⟨a,b⟩:=p;obtain⟨c,d⟩:=q.flat;rw[Jpb a c b d]
   | t ds=>obtain⟨m,a,ah,_,rfl,_⟩:=q.tup;exact(Xca p.1 p.2).elim
   | l _=>cases m <;> exact q.elim
  | t _=>exact p.elim
  | l _=>exact p.elim
 | succ n ih =>
  intro m x y u p q;cases x with
  | v x =>
   cases y with
   | v y=>obtain⟨a,b⟩:=p;obtain⟨c,d⟩:=q.flat;rw[Jpb a c b d]
   | t ds=>obtain⟨m,a,ah,_,rfl,_⟩:=q.tup;exact(Xca p.1 p.2).elim
   | l _=>cases m <;> exact q.elim
  | t ds =>
   obtain⟨a,ah,rfl,p1,r⟩:=p;cases y with
   | v y=>obtain⟨c,d⟩:=q.flat;exact(Xca c d).elim
   | t es =>
    obtain⟨m',a',its',_,e,p2,r2⟩:=q.tup;cases e;have:=QAc p1 p2;subst this;rw[Xda (λa b u h1 h2=>ih m' a b u h1 h2) r r2]
   | l _=>cases m <;> exact q.elim
  | l _=>exact p.elim
theorem YL.keeps{h h':Vq}{e:Vh}{o:Obj}{es ep}(ho:h.get? e=Vo o)(hd:o.data=.dict es ep)(hs:VU e h h'):∀ (n:Nat) (d:Dt) (u:Va),YL h n d u->YL h' n d u:=by
 intro n
 induction n with
 | zero=>intro d u q;cases d <;> exact q
 | succ n ih =>
  intro d u q;cases d with
  | v x=>exact q
  | l x=>exact q
  | t ds =>
   obtain⟨a,ah,rfl,⟨o',bf,hc,m,bo⟩,r⟩:=q;have ax:a≠e:=by
    intro z;subst z;rw[ho]at bf;cases bf;rw[hd]at bo;exact nomatch bo
   exact⟨a,ah,rfl,⟨o',(hs.2 a ax).trans bf,hc,m,bo⟩,Paired.mapP r λd v z=>ih d v z⟩
section
variable{prog:Vg}{w:Vb}{E:YQ_}
theorem Jac{A:VG}{s:VH}{x:V}{u:Va}{Q:Int->VH->Prop}(f:hV x=true)(r:QB x u)(h:Q (haD w (.v x)) { s with toks:=s.toks+drD (.v x) }):VV (VW prog w) A (pyHash u) Q E s:=by
 have e1:drD (.v x)=1:=by rw[drD]
 rw[e1]at h;cases x <;> first | exact(Uc f).elim | skip
 ·cases (show u=Vi from r)
  rw[haD]at h;exact W.pyHash_slot (T:="NoneType") rfl F.slot_NoneType_hash F.entry_NoneType_hash (F.args_NoneType_hash_1 _) (beq_builtin_none _) (.inl rfl) (Uh (Ug (Uh (wpAny_mkInt (Ug ⟨_,_,rfl,h⟩)))))
  all_goals (intros;rename_i z;cases z)
 ·obtain⟨t,rfl⟩:=r
  rw[haD]at h;exact wpAny_pyHash_int h
 ·obtain⟨t,rfl⟩:=r
  rw[haD]at h;exact wpAny_pyHash_str h
theorem Qfd:∀ (n:Nat) {A:VG} {s:VH} {d:Dt} {u:Va} {Q:Int->VH->Prop},A.units+n < UR->YL s.heap n d u->Q (haD w d) { s with toks:=s.toks+drD d }->VV (VW prog w) A (pyHash u) Q E s:=by
 intro n
 induction n with
 | zero =>
  intro A s d u Q hu x h;cases d with
  | v x'=>exact Jac x.1 x.2 h
  | t _=>exact x.elim
  | l _=>exact x.elim
 | succ n ih =>
  intro A s d u Q hu x h;cases d with
  | v x'=>exact Jac x.1 x.2 h
  | l _=>exact x.elim
  | t ds =>
   obtain⟨a,ah,rfl,⟨o,ho,hc,m,hd⟩,r⟩:=x;refine W.pyHash_slot (T:="tuple") ⟨o,ho,hc⟩ F.slot_tuple_hash F.entry_tuple_hash (F.args_tuple_hash_1 _) (beq_builtin_none _) (.inr #[0]) ?_
   show VV _ _ (Builtin.Tuple.tupleItemsOf (.ref a) >>= _) _ _ s;refine Uh (wpAny_tupleItemsOf ho hd ?_)
   refine Uh ?_
   rw[<- Lj];refine wpAny_forIn_list _
    (λrest (b:Array Int) s'=>∃ done left,ds=done++left/\Vm (λd v=>YL s.heap n d v) left rest/\b.toList=Q6b w done/\s'={ s with toks:=s.toks+ZTa done })
    _ ?_ ?_ _ _ ⟨[],ds,rfl,by simpa using r,by simp[Q6b],by simp[ZTa]⟩
   ·rintro x rest b s' ⟨done,left,rfl,hl,hb,rfl⟩
    cases hl with
    | @cons k _ vd _ h1 eX =>
     refine Uh (ih (s:={ s with toks:=s.toks+ZTa done }) (by show A.units+1+n < _;lia) h1 ?_)
     first
      | exact Ug ⟨done++[k],vd,by simp,eX,by simp[hb,JQa],by simp[JRa,IS]⟩
      | exact Uh (Ug (Ug ⟨done++[k],vd,by simp,eX,by simp[hb,JQa],by simp[JRa,IS]⟩))
   ·rintro b s' ⟨done,left,rfl,hl,hb,rfl⟩
    cases hl;rw[UV]at h;show VV _ _ (retInt (LP b.toList)) _ _ _;rw[hb];refine Uh (wpAny_mkInt (Ug ⟨_,_,rfl,?_⟩))
    have e1:haD w (.t done)=reduceHash (LP (Q6b w done)):=by rw[haD]
    have e2:drD (.t done)=ZTa done+1:=by rw[drD]
    rw[e1,e2]at h;exact h
end
theorem Jbc{x y:V}(hx:hV x=true)(hy:hV y=true):eqV x y=decide (Dt.v x=Dt.v y):=by
 have:eqV x y=decide (x=y):=by
  cases x <;> first | exact(Uc hx).elim | skip
  all_goals (cases y <;> first | exact(Uc hy).elim | skip)
  all_goals first | (simp[eqV];done) | (rw[eqV,Uv,beq_iff_eq,decide_eq_true_iff];exact⟨λe=>by rw[e],λe=>by injection e⟩)
 rw[this,Uv,decide_eq_true_iff,decide_eq_true_iff];exact⟨λe=>by rw[e],λe=>by injection e⟩
theorem YBa{x:V}(h:hV x=true):Zya x=true:=by
 cases x <;> first | rfl | exact(Uc h).elim
theorem Jcc{ds es:List Dt}{e:Nat->Bool}(he:∀ i,i < ds.length->i < es.length->e i=decide (ds.getD i default=es.getD i default)):((VC (min ds.length es.length)).all e && (ds.length == es.length))=decide (Dt.t ds=Dt.t es):=by
 rw[Uv,decide_eq_true_iff,OZ,beq_iff_eq,O8]
 constructor
 ·rintro⟨h1,h2⟩
  congr 1
  refine La h2 λi a b=>?_
  have:=h1 i (mem_range.mpr #[0])
  rw[he i a b,decide_eq_true_iff]at this;rw[Y3 (I0 a),Y3 (I0 b)]at this
  exact this
 ·intro h
  injection h with h
  subst h;refine⟨λi hi=>?_,rfl⟩
  have:=mem_range.mp hi;rw[he i #[0] #[0],decide_eq_true_iff]
theorem Qx{α β:Type}{F:α->β->Prop}:∀ {xs:List α} {us:List β} {i:Nat} {x:α} {u:β},Vm F xs us->xs[i]?=Vo x->us[i]?=Vo u->F x u
 | _,_,_,_,_,.nil,h,_=>by simp at h
 | _,_,0,_,_,.cons r _,h,h'=>by simp at h h';rw[<- h,<- h'];exact r
 | _,_,i+1,_,_,.cons _ t,h,h'=>Qx (i:=i) t (by simpa using h) (by simpa using h')
theorem Zid:∀ (n:Nat) {A:VG} {s:VH} {d d':Dt} {u v:Va},A.units+n < UR->YL s.heap n d u->YL s.heap n d' v->Oj A s u v (decide (d=d')):=by
 intro n;have flat:∀ {A:VG} {s:VH} {x y:V} {u v:Va},hV x=true->QB x u->hV y=true->QB y v->Oj A s u v (decide (Dt.v x=Dt.v y)):=λf r f' r'=>by
  rw[<- Jbc f f'];exact Ykb r r' (YBa f) (YBa f')
 induction n with
 | zero =>
  intro A s d d' u v hu p q;cases d with
  | v x =>
   cases d' with
   | v y=>exact flat p.1 p.2 q.1 q.2
   | t _=>exact q.elim
   | l _=>exact q.elim
  | t _=>exact p.elim
  | l _=>exact p.elim
 | succ n ih =>
  intro A s d d' u v hu p q;have av:A.units < UR:=by lia
  cases d with
  | l _=>exact p.elim
  | v x =>
   cases d' with
   | l _=>exact q.elim
   | v y=>exact flat p.1 p.2 q.1 q.2
   | t es =>
    obtain⟨b,its',rfl,p2,r2⟩:=q;obtain⟨f,r⟩:=p;rw[show decide (Dt.v x=Dt.t es)=false from decide_eq_false (λz=>nomatch z)]
    cases x <;> first | exact(Uc f).elim | skip
    ·cases (show u=Vi from r);exact .none_tuple p2 av
    ·obtain⟨t,rfl⟩:=r;exact .int_tuple _ _ p2 av
    ·obtain⟨t,rfl⟩:=r;exact .str_tuple _ _ p2 av
  | t ds =>
   obtain⟨a,ah,rfl,p1,r1⟩:=id p;cases d' with
   | l _=>exact q.elim
   | v y =>
    obtain⟨f,r⟩:=q;rw[show decide (Dt.t ds=Dt.v y)=false from decide_eq_false (λz=>nomatch z)]
    cases y <;> first | exact(Uc f).elim | skip
    ·cases (show v=Vi from r);exact .tuple_none p1 av
    ·obtain⟨t,rfl⟩:=r;exact .tuple_int _ _ p1 av
    ·obtain⟨t,rfl⟩:=r;exact .tuple_str _ _ p1 av
   | t es =>
    obtain⟨b,its',rfl,p2,r2⟩:=id q
    by_cases ab:a=b
    ·subst ab
     rw[show decide (Dt.t ds=Dt.t es)=true from decide_eq_true (YL.inj _ _ _ _ _ p q)]
     exact .same _
    ·have l1:=Vn r1
     have l2:=Vn r2;have z:=SeqAt.RcAt.tuples (A:=A) (e:=λi=>decide (ds.getD i default=es.getD i default)) p1 p2 av λj h1 h2=>by
      have j1:j < ah.length:=by simpa using h1
      have j2:j < its'.length:=by simpa using h2
      have g1:ds[j]?=Vo (ds[j]'#[0]):=I0 _
      have g2:es[j]?=Vo (es[j]'#[0]):=I0 _
      have w1:=Qx r1 g1 (I0 j1)
      have w2:=Qx r2 g2 (I0 j2)
      rw[Y3 g1,Y3 g2];exact ih (A:=A.in1) (by show A.units+1+n < _;lia) w1 w2
     rw[Ux,Ux,<- l1,<- l2,Jcc λi _ _=>rfl]at z
     exact .of_refs ab z
section
variable{prog:Vg}{w:Vb}{E:YQ_}
theorem XDb{A:VG}{s:VH}{x:V}{u:Va}{m:Nat}{Q:Bool->VH->Prop}(f:hV x=true)(r:QB x u)(h:Q true s):VV (VW prog w) A (eqIsQuiet m u) Q E s:=by
 have:carriedByValue u=true:=by
  cases x <;> first | exact(Uc f).elim | skip
  ·cases (show u=Vi from r);rfl
  ·obtain⟨t,rfl⟩:=r;rfl
  ·obtain⟨t,rfl⟩:=r;rfl
 rw[eqIsQuiet_byValue _ this];exact Ug h
theorem YEc:∀ (n m:Nat) {A:VG} {s:VH} {d:Dt} {u:Va} {Q:Bool->VH->Prop},n<=m->YL s.heap n d u->Q true s->VV (VW prog w) A (eqIsQuiet m u) Q E s:=by
 intro n
 induction n with
 | zero =>
  intro m A s d u Q _ p h;cases d with
  | v x=>exact XDb p.1 p.2 h
  | t _=>exact p.elim
  | l _=>exact p.elim
 | succ n ih =>
  intro m A s d u Q hm p h;cases d with
  | v x=>exact XDb p.1 p.2 h
  | l _=>exact p.elim
  | t ds =>
   obtain⟨k,rfl⟩:∃ k,m=k+1:=⟨m - 1,by lia⟩
   obtain⟨a,ah,rfl,⟨o,ho,hc,j,hd⟩,r⟩:=p;have hT:s.TypeIs (.ref a) "tuple":=⟨o,ho,hc⟩;unfold eqIsQuiet;refine Uh (OO hT F.slot_tuple_eq.lookup ?_)
   show VV _ _ (isInstance (.ref a) (.type "tuple") >>= _) _ _ s;refine Uh (wpAny_isInstance hT isSubtype_tuple_tuple ?_)
   simp only[Bool.not_true,OU,if_false];refine Uh (wpAny_seqItems ho hd ?_)
   refine Uh ?_
   show VV _ _ (forIn ah.toArray _ _) _ _ s;rw[<- Lj];refine wpAny_forIn_list _ (λrest r s'=>r.1=Vp/\s'=s/\∃ left,Vm (λd v=>YL s.heap n d v) left rest) _ ?_ ?_ _ _ ⟨rfl,rfl,ds,by simpa using r⟩
   ·rintro v rest r s' ⟨hr,rfl,left,hl⟩
    cases hl with
    | cons h1 eX =>
     refine Uh (ih k #[0] h1 ?_)
     simp only[Bool.not_true,OU,if_false];exact Ug ⟨rfl,rfl,_,eX⟩
   ·rintro⟨r1,r2⟩ s' ⟨hr,rfl,_⟩
    simp only at hr;subst hr;exact Ug h
end
noncomputable def QJa (prog:Vg) (w:Vb):HeapKind prog w Dt where
 is:=λh d a=>YL h 8 d (.ref a)
 hash:=haD w
 draws:=drD
 room:=λA=>A.units+8 < UR
 inj:=λp q=>YL.inj _ _ _ _ _ p q
 keeps:=λp ho hd hs=>YL.keeps ho hd hs _ _ _ p
 pyHash:=λhu p h=>Qfd 8 hu p h
 eqBool:=λhu p q h=>Zid 8 hu p q _ _ _ _ h
 quiet:=λp h=>YEc 8 8 (Um _) p h
end L2
end
section
namespace PySem
section
variable{prog:Vg}{w:Vb}{K:Type}[DecidableEq K]{knd:HeapKind prog w K}{A:VG}{E:YQ_}{s:VH}
end
end PySem
namespace L2
open PySem PySem.Spec PyProof.Rows
abbrev NX:=List (Dt×Vh×V)
def NKV:NX->List (Dt×Vh×Va)->Prop:=Vm λp q=>p.1=q.1/\p.2.1=q.2.1/\QB p.2.2 q.2.2
def isN(P:Vg)(w:Vb)(a:Vh)(xs:NX)(h:Vq):Prop:=xs.length<=Vs/\(a == Vu)=false/\∃ ys,NKV xs ys/\∃ o es ep,h.get? a=Vo o/\o.ExactDict/\o.data=.dict es ep/\es.toList=ys.map (entryOfKey (QJa P w))/\(ys.map (·.1)).Nodup
def dN(P:Vg)(w:Vb)(a:Vh)(xs:NX):HO:=.ext (isN P w a xs)
structure Xea(P:Vg)(w:Vb)(K:VD)(H:Hp)(a:Vh)(xs:NX):Prop where
 at_:H a=Vo (dN P w a xs)
 keys:∀ x∈xs,Rep K H 8 x.1 (.ref x.2.1)/\hD x.1=true
noncomputable def ZUa (xs:NX) (d:Dt):Option V:=(xs.find? λx=>decide (x.1=d)).map (·.2.2)
theorem QAb{α β:Type}{F:α->β->Prop}:∀ {xs:List α} {us:List β},xs.length=us.length->(∀ (i:Nat) x u,xs[i]?=Vo x->us[i]?=Vo u->F x u)->Vm F xs us
 | [],[],_,_=>.nil
 | [],_::_,h,_=>by simp at h
 | _::_,[],h,_=>by simp at h
 | x::xs,u::us,h,f=>.cons (f 0 _ _ rfl rfl) (QAb (by simpa using h) λi a b ha hb=>f (i+1) a b (by simpa using ha) (by simpa using hb))
theorem Jqb{P:Vg}{w:Vb}{a:Vh}{xs:NX}(h1 h2:Vq)(p:isN P w a xs h1)(k:∀ o,h1.get? a=Vo o->h2.get? a=Vo o):isN P w a xs h2:=by
 obtain⟨z,y,ys,r,o,es,ep,e,c⟩:=p;exact⟨z,y,ys,r,o,es,ep,k o e,c⟩
section
variable{X:Cx}{aa:YP_}{σ:St}{H:Hp}{s:VH}{a b:Vh}{xs:NX}{d:Dt}
theorem Rep.has(I:Inv X aa σ H s){n:Nat}{x:V}(r:Rep X.K H n d x):∀ {u:Va},hD d=true->QB x u->YL s.heap n d u:=by
 induction r with
 | @v n x f =>
  intro u h r;rw[hD]at h;cases n <;> exact⟨h,r⟩
 | t h e r1 ih =>
  intro u hh r;cases (show u=Vk _ from r)
  rw[hD]at hh;obtain⟨ah,w1,p,_⟩:=I.tuple h;have l1:=w1.length;refine⟨_,ah,rfl,p,QAb #[0] λi d u hd hu=>?_⟩
  have hi:=(List.getElem?_eq_some_iff.mp hu).1
  obtain⟨u',e',r'⟩:=w1.get (i:=i) (I0 #[0])
  rw[hu]at e';cases e';exact ih i d _ hd (I0 #[0]) (XCb hh d (Og hd)) r'
 | l h e _ _ =>
  intro u hh _;rw[hD]at hh;exact(Uc hh).elim
theorem Xea.dict(I:Inv X aa σ H s)(g:Xea X.prog X.w X.K H a xs):xs.length<=Vs/\(a == Vu)=false/\∃ ys,NKV xs ys/\s.heap.DictOfH (QJa X.prog X.w) a ys:=by
 obtain⟨⟨z,y,ys,r,o,es,ep,h1,h2,h3,h4,h5⟩,_,_⟩:=(show QR X.prog X.w H s.heap a (dN X.prog X.w a xs) from I.hok a _ g.at_)
 refine⟨z,y,ys,r,o,es,ep,h1,h2,h3,h4,λq hq=>?_,h5⟩
 obtain⟨i,hi⟩:=mem_iff_getElem?.mp hq;have l:=Vn r;have hp:xs[i]?=Vo (xs[i]'(by have:=(List.getElem?_eq_some_iff.mp hi).1;lia)):=I0 _
 have z:=Qx r hp hi;rw[<- z.1,<- z.2.1];have k:=g.keys _ (Og hp);exact k.1.has I k.2 rfl
theorem NKV.val{xs:NX}{ys:List (Dt×Vh×Va)}(r:NKV xs ys)(d:Dt):Yu (ZUa xs d) ((OJ ys d).map (·.2)):=by
 induction r with
 | nil=>exact UK
 | @cons p q ps qs hq t ih =>
  unfold ZUa OJ;rw[OC,OC,<- hq.1]
  by_cases e:p.1=d
  ·rw[decide_eq_true e];exact hq.2.2
  ·rw[decide_eq_false e];exact ih
theorem NKV.none{xs:NX}{ys:List (Dt×Vh×Va)}(r:NKV xs ys){d:Dt}(h:ZUa xs d=Vp):OJ ys d=Vp:=by
 have:=r.val d;rw[h]at this;cases e:OJ ys d with
 | none=>rfl
 | some p=>rw[e]at this;exact this.elim
theorem NKV.some{xs:NX}{ys:List (Dt×Vh×Va)}(r:NKV xs ys){d:Dt}:(ZUa xs d).isSome=(OJ ys d).isSome:=by
 have:=(r.val d).isSome_eq;rw[Option.isSome_map]at this;exact this
variable{A:VG}{E:YQ_}
theorem Zjd{Q:YQ_}(hu:A.units+9 < UR)(I:Inv X aa σ H s)(g:Xea X.prog X.w X.K H a xs)(r:Rep X.K H 8 d (.ref b))(hd:hD d=true)(h:∀ s',Inv X aa σ H s'->Q (.bool (ZUa xs d).isSome) s') :
 VV (VW X.prog X.w) A (V2 .In (.ref b) (.ref a)) Q E s:=by
 obtain⟨z,y,ys,aR,dd⟩:=g.dict I;refine wpAny_in_heap (knd:=QJa X.prog X.w) (show A.units+1+8 < UR by lia) (r.has I hd rfl) y dd ?_
 rw[<- aR.some];exact h _ (I.tok _)
theorem Q2d{v:V}{Q:YQ_}(hu:A.units+9 < UR)(I:Inv X aa σ H s)(g:Xea X.prog X.w X.K H a xs)(r:Rep X.K H 8 d (.ref b))(hd:hD d=true)(l:ZUa xs d=Vo v)(h:∀ w' s',Inv X aa σ H s'->QB v w'->Q w' s') :
 VV (VW X.prog X.w) A (Om (.ref a) (.ref b)) Q E s:=by
 obtain⟨z,y,ys,aR,dd⟩:=g.dict I;obtain⟨w',hw,bx⟩:=Yu.some_of (v:=v) (o:=(OJ ys d).map (·.2)) (by rw[<- l];exact aR.val d)
 obtain⟨p,hp,bM⟩:=Option.map_eq_some_iff.mp hw;refine wpAny_getItem_heap (knd:=QJa X.prog X.w) (show A.units+1+8 < UR by lia) (r.has I hd rfl) dd hp ?_
 rw[bM];exact h w' _ (I.tok _) bx
theorem Q3d{v:V}{u:Va}{Q:Unit->VH->Prop}(hu:A.units+9 < UR)(I:Inv X aa σ H s)(g:Xea X.prog X.w X.K H a xs)(r:Rep X.K H 8 d (.ref b))(hd:hD d=true)(l:ZUa xs d=Vp)(hl:xs.length < Vs)(rv:QB v u)
 (h:∀ s',Inv X aa σ (upd H a (dN X.prog X.w a (xs++[(d,b,v)]))) s'->Q () s'):VV (VW X.prog X.w) A (setItem (.ref a) (.ref b) u) Q E s:=by
 obtain⟨z,y,ys,aR,dd⟩:=g.dict I;refine wpAny_setItem_heap (knd:=QJa X.prog X.w) (hsz:=by rw[<- Vn aR];exact z) (show A.units+1+8 < UR by lia) (r.has I hd rfl) dd λh' fq hs=>h _ ?_
 obtain⟨q,es,ep,hq,h2,h3,h4,_,h5⟩:=fq;rw[storedH_new (aR.none l)]at h4 h5;refine Yxa I (by rw[g.at_];exact UK) hs ⟨q,hq⟩ ⟨⟨by rw[Oh];exact hl,y,_,OH aR ⟨rfl,rfl,rv⟩,q,es,ep,hq,h2,h3,h4,h5⟩,⟨q,hq⟩,Jqb⟩
theorem Xea.typeIs(I:Inv X aa σ H s)(g:Xea X.prog X.w X.K H a xs):s.TypeIs (.ref a) "dict":=let ⟨_,_,_,_,dd⟩:=g.dict I;dd.typeIs
end
def Q4d(P:Vg)(w:Vb)(K:VD)(ty td:TE):TE:=λσ H Q=>ty σ H λy H1=>td σ H1 λx H2=>∃ a b xs d,x=.ref a/\y=.ref b/\Xea P w K H2 a xs/\Rep K H2 8 d (.ref b)/\hD d=true/\Q (.bl (ZUa xs d).isSome) H2
def Xkc(P:Vg)(w:Vb)(K:VD)(td ty:TE):TE:=λσ H Q=>td σ H λx H1=>ty σ H1 λy H2=>∃ a b xs d v,x=.ref a/\y=.ref b/\Xea P w K H2 a xs/\Rep K H2 8 d (.ref b)/\hD d=true/\ZUa xs d=Vo v/\Q v H2
def Xlc(P:Vg)(w:Vb)(K:VD)(td ty tv:TE):TS:=λD σ H=>tv σ H λv H1=>td σ H1 λx H2=>ty σ H2 λy H3=>∃ a b xs d,x=.ref a/\y=.ref b/\Xea P w K H3 a xs/\Rep K H3 8 d (.ref b)/\hD d=true/\ZUa xs d=Vp/\xs.length < Vs/\D.nx σ (upd H3 a (dN P w a (xs++[(d,b,v)])))
def Xmc(P:Vg)(w:Vb):TE:=λ_ H Q=>∀ p,H p=Vp->Q (.ref p) (upd H p (dN P w p []))
section
variable{X:Cx}{o i e value:Expr}{pos aI ao ay:Pos}{td ty tv:TE}
theorem Qgd(hu:X.A.units+9 < UR)(hi:PE X i ty)(ho:PE X o td):PC X .In i o (Q4d X.prog X.w X.K ty td):=by
 intro aa s σ H Q I h;refine thn (hi aa s σ H _ I h) λiv s1 ⟨y,H1,I1,ry,q1⟩=>thn (ho aa s1 σ H1 _ I1 q1) λu s2 hZ=>?_
 obtain⟨x,H2,I2,rx,a,b,xs,d,ex,ey,g,r,hd,q2⟩:=hZ;subst ex ey;obtain rfl:u=Vk a:=rx;obtain rfl:iv=Vk b:=ry;exact Zjd hu I2 g r hd λs3 I3=>⟨.bl (ZUa xs d).isSome,H2,I3,rfl,q2⟩
theorem YFc(hu:X.A.units+9 < UR)(ho:PE X o td)(hi:PE X i ty)(hs:XPc i):PE X (.Subscript o i pos) (Xkc X.prog X.w X.K td ty):=by
 intro aa s σ H Q I h;refine Xib F.slot_dict_getitem.lookup hs (thn (ho aa s σ H _ I h) λu s1 ⟨x,H1,I1,rx,q1⟩=>thn (hi aa s1 σ H1 _ I1 q1) λiv s2 hZ=>?_)
 obtain⟨y,H2,I2,ry,a,b,xs,d,v,ex,ey,g,r,hd,l,q2⟩:=hZ;subst ex ey;obtain rfl:u=Vk a:=rx;obtain rfl:iv=Vk b:=ry;exact⟨g.typeIs I2,Q2d hu I2 g r hd l λw' s3 I3 bx=>⟨v,H2,I3,bx,q2⟩⟩
theorem YGc(hu:X.A.units+9 < UR)(ho:PE X o td)(hi:PE X i ty)(hv:PE X value tv)(hs:Ua value (Vo (.Subscript o i aI)) pos.line X.env=pure false) :
 PS X (.Assign [.Subscript o i aI] value pos) (Xlc X.prog X.w X.K td ty tv):=by
 intro aa s σ H D I h;refine wpAny_Assign_Subscript (thn (hv aa s σ H _ I h) λr s1 ⟨v,H1,I1,rv,q1⟩=>thn (ho aa s1 σ H1 _ I1 q1) λu s2 ⟨x,H2,I2,rx,q2⟩=>thn (hi aa s2 σ H2 _ I2 q2) λiv s3 hZ=>?_) hs
 obtain⟨y,H3,I3,ry,a,b,xs,d,ex,ey,g,rp,hd,l,hl,q3⟩:=hZ;subst ex ey;obtain rfl:u=Vk a:=rx;obtain rfl:iv=Vk b:=ry;exact Q3d hu I3 g rp hd l hl rv λs4 I4=>⟨σ,_,I4,q3⟩
theorem Jdc{P:Vg}{w:Vb}{H:Hp}(h:Vq)(hb:Vu < h.objs.size):QR P w H (h.push { cls:=.type "dict",data:=.dict #[] }) h.objs.size (dN P w h.objs.size []) :=
 ⟨⟨Us _,beq_eq_false_iff_ne.mpr (VR (VB hb)),[],.nil,_,#[],0,Ul _ rfl,⟨rfl,rfl,rfl⟩,rfl,rfl,Dw⟩,⟨_,Ul _ rfl⟩,Jqb⟩
theorem Jec:PE X (.Dict [] [] pos) (Xmc X.prog X.w):=λaa s σ H Q I h =>
 wpAny_Dict_empty ⟨.ref s.heap.objs.size,_,I.laid (a:=s.heap.objs.size) (o:=dN X.prog X.w s.heap.objs.size []) (t':=s.toks) (λ_ _ q=>Uk _ q) (Um _) (Jdc s.heap I.big),rfl,h _ (I.hok.fresh (Um _))⟩
end
theorem Zi.u9{k:Nat}{A:VG}(r:Zi k A):A.units+9 < UR:=by have:=r.un;lia
def TD(H:Hp):Nat->Dt->V->Prop
 | 0,.v x,y=>hV x=true/\y=x
 | 0,.t _,_=>False
 | 0,.l _,_=>False
 | _+1,.v x,y=>hV x=true/\y=x
 | n+1,.t ds,y=>∃ (a:Vh) (xs:List V),y=.ref a/\H a=Vo (.tup xs)/\Vm (λd v=>TD H n d v) ds xs
 | _+1,.l _,_=>False
section
variable{H H':Hp}{K:VD}
theorem TD.flat{n:Nat}{x y:V}:TD H n (.v x) y->hV x=true/\y=x:=by cases n <;> exact id
theorem TD.ofV{n:Nat}{x:V}(f:hV x=true):TD H n (.v x) x:=by cases n <;> exact⟨f,rfl⟩
inductive Xnc(H:Hp)(n:Nat)(ds:List Dt)(y:V):Prop
 | mk (m:Nat) (a:Vh) (xs:List V) (e:n=m+1) (e2:y=.ref a) (h:H a=Vo (.tup xs)) (r:Vm (λd v=>TD H m d v) ds xs):Xnc H n ds y
theorem TD.tup{n:Nat}{ds:List Dt}{y:V}(q:TD H n (.t ds) y):Xnc H n ds y:=by
 cases n with
 | zero=>exact q.elim
 | succ m=>obtain⟨a,xs,e,h,r⟩:=q;exact⟨m,a,xs,rfl,e,h,r⟩
theorem TD.ofT{n:Nat}{a:Vh}{xs:List V}{ds:List Dt}(h:H a=Vo (.tup xs))(r:Vm (λd v=>TD H n d v) ds xs):TD H (n+1) (.t ds) (.ref a):=⟨a,xs,rfl,h,r⟩
theorem TD.sameT(s:ZK H H'):∀ (n:Nat) {d:Dt} {y:V},TD H n d y->TD H' n d y:=by
 intro n
 induction n with
 | zero=>intro d y q;cases d <;> exact q
 | succ n ih =>
  intro d y q;cases d with
  | v x=>exact q
  | l x=>exact q
  | t ds=>obtain⟨a,xs,e,h,r⟩:=q;exact⟨a,xs,e,s _ _ h,Paired.mapP r λd v z=>ih z⟩
theorem TD.same{n:Nat}{d:Dt}{y:V}(q:TD H n d y)(s:Qn H H'):TD H' n d y:=TD.sameT s.t n q
theorem TD.mono:∀ (n:Nat) {m:Nat} {d:Dt} {y:V},n<=m->TD H n d y->TD H m d y:=by
 intro n
 induction n with
 | zero =>
  intro m d y _ q;cases d with
  | v x=>obtain⟨f,e⟩:=q;subst e;exact TD.ofV f
  | t _=>exact q.elim
  | l _=>exact q.elim
 | succ n ih =>
  intro m d y hm q;cases d with
  | v x=>obtain⟨f,e⟩:=q;subst e;exact TD.ofV f
  | l _=>exact q.elim
  | t ds =>
   obtain⟨a,xs,e,h,r⟩:=q;obtain⟨k,rfl⟩:∃ k,m=k+1:=⟨m - 1,by lia⟩
   exact⟨a,xs,e,h,Paired.mapP r λd v z=>ih #[0] z⟩
theorem TD.rep:∀ (n:Nat) {d:Dt} {y:V},TD H n d y->Rep K H n d y:=by
 intro n
 induction n with
 | zero =>
  intro d y q;cases d with
  | v x=>obtain⟨f,e⟩:=q;subst e;exact .v (YBa f)
  | t _=>exact q.elim
  | l _=>exact q.elim
 | succ n ih =>
  intro d y q;cases d with
  | v x=>obtain⟨f,e⟩:=q;subst e;exact .v (YBa f)
  | l _=>exact q.elim
  | t ds =>
   obtain⟨a,xs,e,h,r⟩:=q;subst e;exact .t (SqT.of h) (Vn r) λi d x h1 h2=>ih (Qx r h1 h2)
theorem TD.h:∀ (n:Nat) {d:Dt} {y:V},TD H n d y->hD d=true:=by
 intro n
 induction n with
 | zero =>
  intro d y q;cases d with
  | v x=>rw[hD];exact q.1
  | t _=>exact q.elim
  | l _=>exact q.elim
 | succ n ih =>
  intro d y q;cases d with
  | v x=>rw[hD];exact q.1
  | l _=>exact q.elim
  | t ds =>
   obtain⟨a,xs,e,h,r⟩:=q;rw[hD];refine Z9c λx hx=>?_
   obtain⟨i,hi⟩:=mem_iff_getElem?.mp hx;have l:=Vn r;have hl:=(List.getElem?_eq_some_iff.mp hi).1
   exact ih (Qx r hi (I0 (show i < xs.length by lia)))
theorem TD.pair{n:Nat}{a:Vh}{x y:V}{d e:Dt}(h:H a=Vo (.tup [x,y]))(hx:TD H n d x)(hy:TD H n e y):TD H (n+1) (.t [d,e]) (.ref a):=TD.ofT h (.cons hx (.cons hy .nil))
inductive Jfc(H:Hp)(n:Nat)(d e:Dt)(y:V):Prop
 | mk (a:Vh) (x z:V) (ey:y=.ref a) (h:H a=Vo (.tup [x,z])) (r1:TD H n d x) (r2:TD H n e z):Jfc H n d e y
theorem TD.pair_of{n:Nat}{y:V}{d e:Dt}(q:TD H (n+1) (.t [d,e]) y):Jfc H n d e y:=by
 obtain⟨a,xs,rfl,h,r⟩:=q;cases r with
 | cons r1 r2 =>
  cases r2 with
  | cons r3 r4=>cases r4;exact⟨a,_,_,rfl,h,r1,r3⟩
end
mutual
theorem Jgc:∀ d e:Dt,hD d=true->hD e=true->(eqD d e=true↔d=e)
 | .v x,.v y,h,h'=>by
  rw[hD]at h h';rw[eqD,Jbc h h',decide_eq_true_iff]
 | .t xs,.t ys,h,h'=>by
  rw[hD]at h h';rw[eqD,XEb xs ys h h'];exact⟨λe=>by rw[e],λe=>by injection e⟩
 | .v x,.t ys,_,_=>by simp[eqD]
 | .t xs,.v y,_,_=>by simp[eqD]
 | .l xs,_,h,_=>by rw[hD]at h;exact(Uc h).elim
 | .v x,.l ys,_,h=>by rw[hD]at h;exact(Uc h).elim
 | .t x,.l ys,_,h=>by rw[hD]at h;exact(Uc h).elim
theorem XEb:∀ d e:List Dt,hDs d=true->hDs e=true->(ZSa d e=true↔d=e)
 | [],[],_,_=>by simp[ZSa]
 | [],_::_,_,_=>by simp[ZSa]
 | _::_,[],_,_=>by simp[ZSa]
 | x::xs,y::ys,h,h'=>by
  rw[hDs,OZ]at h h';rw[ZSa,OZ,Jgc x y h.1 h'.1,XEb xs ys h.2 h'.2];exact⟨λe=>by rw[e.1,e.2],λe=>by injection e with a b;exact⟨a,b⟩⟩
end
theorem YHc{d e:Dt}(h:hD d=true)(h':hD e=true):eqD d e=decide (d=e):=by
 rw[Uv,Jgc d e h h',decide_eq_true_iff]
theorem Jhc{K:VD}{H:Hp}{n:Nat}{d e:Dt}{x y:V}{Q:VK}(hn:n<=60)(h1:TD H n d x)(h2:TD H n e y)(q:Q (.bl (!decide (d=e))) H):rD K true x y H Q :=
 ⟨n,d,e,hn,h1.rep,h2.rep,by rw[if_pos rfl,YHc h1.h h2.h];exact q⟩
def QN(S:List Vh)(H H':Hp):Prop:=∀ b o,b∉S->H b=Vo o->H' b=Vo o
section
variable{S:List Vh}{H H' H1 H2:Hp}
theorem QN.refl(S:List Vh)(H:Hp):QN S H H:=λ_ _ _ e=>e
theorem Qn.x(s:Qn H H')(S:List Vh):QN S H H':=λb o _ e=>s b o e
theorem QN.trans(a:QN S H H1)(b:QN S H1 H2):QN S H H2:=λc o n e=>b c o n (a c o n e)
theorem QN.upd{a:Vh}{o:HO}(s:QN S H H')(h:a∈S):QN S H (L2.upd H' a o):=λb u n e=>by
 rw[Qk (λz=>n (by rw[z];exact h))];exact s b u n e
theorem QN.mono{S':List Vh}(s:QN S H H')(h:∀ a∈S,a∈S'):QN S' H H':=λb o n e=>s b o (λz=>n (h b z)) e
end
section
variable{α β:Type}[DecidableEq β]
theorem Xs(g:α->β):∀ {xs:List α} {x:α},(xs.map g).Nodup->x∈xs->xs.find? (λy=>decide (g y=g x))=Vo x
 | [],_,_,h=>nomatch h
 | y::ys,x,nd,h=>by
  rw[UH,nodup_cons]at nd;rw[OC]
  rcases mem_cons.mp h with e | h
  ·subst e;rw[decide_eq_true rfl]
  ·have:g y≠g x:=λe=>nd.1 (by rw[e];exact mem_map_of_mem h)
   rw[decide_eq_false this];exact Xs g nd.2 h
theorem XFb(g:α->β){xs:List α}{b:β}(h:∀ x∈xs,g x≠b):xs.find? (λy=>decide (g y=b))=Vp:=by
 rw[find?_eq_none]
 intro x hx z;exact h x hx (of_decide_eq_true z)
end
theorem QBb{α κ:Type}[DecidableEq κ](f:α->κ×V)(xs:List α)(k:κ):ZB (xs.map f) k=(xs.find? λx=>decide ((f x).1=k)).map λx=>(f x).2:=by
 unfold ZB;rw[find?_map,Option.map_map]
 rfl
theorem Jrb{α:Type}(f:α->Dt×Vh×V)(xs:List α)(k:Dt):ZUa (xs.map f) k=(xs.find? λx=>decide ((f x).1=k)).map λx=>(f x).2.2:=by
 unfold ZUa;rw[find?_map,Option.map_map]
 rfl
end L2
end
section
namespace L2
open PySem PySem.Spec PyProof.Rows
section
variable{X:Cx}
end
theorem TDs.of{H:Hp}{n:Nat}{Pd:Dt->Prop}:∀ {xs:List V},(∀ x∈xs,∃ d,TD H n d x/\Pd d)->∃ ds:List Dt,Vm (λd v=>TD H n d v) ds xs/\∀ d∈ds,Pd d
 | [],_=>⟨[],.nil,λd h=>nomatch h⟩
 | x::xs,h=>by
  obtain⟨d,hd,pd⟩:=h x VN;obtain⟨ds,r,p⟩:=TDs.of (xs:=xs) λy hy=>h y (VO _ hy)
  exact⟨d::ds,.cons hd r,λe he=>by
   rcases mem_cons.mp he with z | z
   ·rw[z];exact pd
   ·exact p e z⟩
theorem TDs.sameT{H H':Hp}{n:Nat}{es:List Dt}{xs:List V}(r:Vm (λd v=>TD H n d v) es xs)(s:ZK H H'):Vm (λd v=>TD H' n d v) es xs:=Paired.mapP r λ_ _ z=>TD.sameT s n z
def Yzb(P:Vg)(w:Vb)(K:VD)(mg:Str->Option Va)(base:Vq)(k:Nat)(m:Str)(ta:TE1)(t:TA):TE1:=λσ H Q E=>ta σ H (λx H1=>∃ a C dx fs sp,x=.ref a/\H1 a=Vo (.ins C dx fs)/\fs.lookup m=Vp/\Cls K C/\MeV P w K mg base k C m sp/\t σ H1 λvs H2=>sp (x::vs) H2 Q E) E
section
variable{X:Cx}{m:Str}{k:Nat}{ta:TE1}{t:TA}{e o:Expr}{es:List Expr}{pos ao:Pos}{pl:Sem Bool}
theorem QCb(he:PE1 X o ta)(hr:Zi k X.A)(bp:X.ex=[])(ha:PA X.nox (e::es) t)
 (cQ:VZ (e::es) X.env=(false,VX e X.env)::VZ es X.env:=by rfl) (aN:(VY pos (VZ es X.env)).any (·.1)=false:=by rfl)
 (ht:VX (.Call (.Attribute o m ao) (e::es) [] pos) X.env=(do
  let ov <- VX o X.env
  V5 ao.atName
  let (f,first) <- V6 [ov] (UA ov m pl)
  LH pos f first (VY pos (VZ (e::es) X.env)) (U3 pos (U4 [] X.env))):=by rfl) :
 PE1 X (.Call (.Attribute o m ao) (e::es) [] pos) (Yzb X.prog X.w X.K X.mg X.base k m ta t):=by
 intro aa s σ H Q E I h;refine LI (pl:=pl) (thn (he aa s σ H _ E I h) λu s1 hZ=>?_) ht
 obtain⟨y,H1,I1,rx,a,C,dx,fs,sp,ex,ea,l,c,G,q⟩:=hZ;obtain⟨f,fd,ps,hm,F,hb⟩:=G;subst ex;obtain rfl:u=Vk a:=rx;refine YI I1 ea c hm l ?_
 refine UZ (first:=[.ref a]) (h₀:=X.base) I.ok.mod.kin hm.kp (thn (Ywb ha I1 q) λus s2 ⟨vs,H2,I2,r,q2⟩=>⟨I2.kIn,?_⟩) cQ aN
 exact Jma (us:=.ref a::us) (vs:=.ref a::vs) F hr hb bp I2 (.cons rfl r) q2
theorem Xfa(he:PE1 X o ta)(hr:Zi k X.A)(bp:X.ex=[])
 (ht:VX (.Call (.Attribute o m ao) [] [] pos) X.env=(do
  let ov <- VX o X.env
  V5 ao.atName
  let (f,first) <- V6 [ov] (UA ov m pl)
  LH pos f first (VY pos (VZ [] X.env)) (U3 pos (U4 [] X.env))):=by rfl) :
 PE1 X (.Call (.Attribute o m ao) [] [] pos) (Yzb X.prog X.w X.K X.mg X.base k m ta Jba):=by
 intro aa s σ H Q E I h;refine LI (pl:=pl) (thn (he aa s σ H _ E I h) λu s1 hZ=>?_) ht
 obtain⟨y,H1,I1,rx,a,C,dx,fs,sp,ex,ea,l,c,G,q⟩:=hZ;obtain⟨f,fd,ps,hm,F,hb⟩:=G;subst ex;obtain rfl:u=Vk a:=rx;refine YI I1 ea c hm l ?_
 exact U1 (first:=[.ref a]) I1.kIn hm.kp (Jma (us:=[.ref a]) (vs:=[.ref a]) F hr hb bp I1 (.cons rfl .nil) q)
end
end L2
end
section
open L2
namespace Tr
def Qv:Dt->V
 | .t (.v k::_)=>k
 | _=>.non
def Zm(l:Int)(es:List Dt):Dt:=.t [.v (.int l),.t es]
def Zy(k:V)(n:Int):Dt:=.t [.v k,.v (.int n)]
def Zf:List Dt->V
 | []=>.non
 | e::_=>Qv e
theorem Jo{l l':Int}{es aj:List Dt}(h:Zm l es=Zm l' aj):l=l'/\es=aj:=by
 unfold Zm at h;injection h with h
 injection h with h1 h
 injection h with h2 h
 injection h1 with h1
 injection h1 with h1
 injection h2 with h2
 exact⟨h1,h2⟩
theorem Joa{k k':V}{n n':Int}(h:Zy k n=Zy k' n'):k=k'/\n=n':=by
 unfold Zy at h;injection h with h
 injection h with h1 h
 injection h with h2 h
 injection h1 with h1
 injection h2 with h2
 injection h2 with h2
 exact⟨h1,h2⟩
theorem YCa(k:V)(n:Int):Qv (Zy k n)=k:=rfl
section
variable(lv:V->Nat)
def step(l:Int)(af:List (List Dt))(e:Dt):List (List Dt) :=
 if af=[]\/l < lv (Qv e) then af++[[e]] else af.dropLast++[af.getLast?.getD []++[e]]
def Zc(l:Int)(es:List Dt):List (List Dt):=es.foldl (step lv l) []
structure YY(l:Int)(es:List Dt)(af:List (List Dt)):Prop where
 flat:af.flatten=es
 full:∀ part∈af,part≠[]
 head:∀ (i:Nat) x r,0 < i->af[i]?=Vo (x::r)->l < lv (Qv x)
 rest:∀ x r,(x::r)∈af->∀ y∈r,(lv (Qv y):Int)<=l
variable{lv}{l:Int}{es:List Dt}{af:List (List Dt)}
theorem YY.nil:YY lv l [] []:=⟨rfl,(λ_ h=>by cases h),(λi x r _ h=>by simp at h),(λx r h=>by cases h)⟩
theorem YY.more{x:Dt}(c:YY lv l es af)(h:af=[]\/l < lv (Qv x)):YY lv l (es++[x]) (af++[[x]]) where
 flat:=by rw[LQ,c.flat];simp
 full:=λpart hp=>by
  rcases mem_append.mp hp with z | z
  ·exact c.full part z
  ·have:part=[x]:=by simpa using z
   rw[this];simp
 head:=λi y r hi e=>by
  by_cases hl:i < af.length
  ·rw[Od hl]at e;exact c.head i y r hi e
  ·rw[Oc #[0]]at e
   have h0:i - af.length=0:=by
    cases q:i - af.length with
    | zero=>rfl
    | succ m=>rw[q]at e;simp at e
   rw[h0]at e;simp at e
   rcases h with z | z
   ·rw[z]at h0;simp at h0;lia
   ·rw[<- e.1];exact z
 rest:=λy r hp z hz=>by
  rcases mem_append.mp hp with w | w
  ·exact c.rest y r w z hz
  ·have:y::r=[x]:=by simpa using w
   cases this;cases hz
theorem YY.on{x:Dt}{ini:List (List Dt)}{last:List Dt}(c:YY lv l es (ini++[last]))(h:(lv (Qv x):Int)<=l):YY lv l (es++[x]) (ini++[last++[x]]) where
 flat:=by have:=c.flat;simp at this ⊢;rw[<- this];simp
 full:=λpart hp=>by
  rcases mem_append.mp hp with z | z
  ·exact c.full part (VS _ z)
  ·have:part=last++[x]:=by simpa using z
   rw[this];simp
 head:=λi y r hi e=>by
  by_cases hl:i < ini.length
  ·rw[Od hl]at e
   exact c.head i y r hi (by rw[Od hl];exact e)
  ·rw[Oc #[0]]at e
   have h0:i - ini.length=0:=by
    cases q:i - ini.length with
    | zero=>rfl
    | succ m=>rw[q]at e;simp at e
   rw[h0]at e;have ax:=c.full last #[2]
   match last,ax,e,c with
   | z::zs,_,e,c =>
    simp at e;rw[<- e.1];exact c.head i z zs hi (by rw[Oc #[0],h0];rfl)
 rest:=λy r hp z hz=>by
  rcases mem_append.mp hp with w | w
  ·exact c.rest y r (VS _ w) z hz
  ·have w:y::r=last++[x]:=by simpa using w
   have ax:=c.full last #[2]
   match last,ax,w,c with
   | u::us,_,w,c =>
    simp at w;obtain⟨rfl,rfl⟩:=w
    rcases mem_append.mp hz with v | v
    ·exact c.rest y us #[2] z v
    ·have:z=x:=by simpa using v
     rw[this];exact h
theorem Z2{α:Type}:∀ {xs:List α},xs≠[]->∃ ini last,xs=ini++[last]
 | [],h=>absurd rfl h
 | [x],_=>⟨[],x,rfl⟩
 | x::y::ys,_=>by
  obtain⟨ini,last,e⟩:=Z2 (xs:=y::ys) #[2]
  exact⟨x::ini,last,by rw[e];rfl⟩
theorem YY.step{x:Dt}(c:YY lv l es af):YY lv l (es++[x]) (step lv l af x):=by
 unfold Tr.step
 split
 ·rename_i h;exact c.more h
 ·rename_i h
  have h1:af≠[]:=λz=>h (.inl z)
  obtain⟨ini,last,rfl⟩:=Z2 h1;have:(lv (Qv x):Int)<=l:=by have:¬ l < lv (Qv x):=λz=>h (.inr z);lia
  simpa using c.on this
theorem YH(es:List Dt)(x:Dt):Zc lv l (es++[x])=step lv l (Zc lv l es) x:=by
 unfold Zc;rw[foldl_append];rfl
theorem QKa{α:Type}{C:List α->Prop}(h0:C [])(h1:∀ xs x,C xs->C (xs++[x]))(xs:List α):C xs:=by
 have:∀ n (xs:List α),xs.length=n->C xs:=by
  intro n
  induction n with
  | zero=>intro xs h;rw[length_eq_zero_iff.mp h];exact h0
  | succ n ih =>
   intro xs h;obtain⟨ini,last,rfl⟩:=Z2 (xs:=xs) (by intro z;rw[z]at h;simp at h)
   exact h1 _ _ (ih ini (by simpa using h))
 exact this _ xs rfl
theorem ZQ(l:Int):∀ es,YY lv l es (Zc lv l es):=QKa YY.nil λxs x c=>by rw[YH];exact c.step
theorem Zka{es:List Dt}(h:es≠[]):Zc lv l es≠[]:=λz=>h (by have:=(ZQ (lv:=lv) l es).flat;rw[z]at this;exact this.symm)
theorem Jsb{es:List Dt}(ax:es≠[])(h:∀ e∈es,(lv (Qv e):Int)<=l):Zc lv l es=[es]:=by
 have c:=ZQ (lv:=lv) l es
 match q:Zc lv l es with
 | []=>exact absurd q (Zka ax)
 | [p]=>rw[q]at c;have:=c.flat;simp at this;rw[this]
 | p::p2::r =>
  rw[q]at c;have bM:=c.full p2 #[2]
  match p2,bM with
  | x::xs,_ =>
   have h1:=c.head 1 x xs #[0] rfl
   have h2:x∈es:=by rw[<- c.flat];simp
   have:=h x h2
   lia
end
structure Fn(tbl:List (Int×Dt)):Prop where
 num:∀ n d d',(n,d)∈tbl->(n,d')∈tbl->d=d'
 dat:∀ n n' d,(n,d)∈tbl->(n',d)∈tbl->n=n'
inductive QX(tbl:List (Int×Dt))(l:Int):List (List Dt)->List Dt->Prop
 | nil:QX tbl l [] []
 | cons {part:List Dt} {af:List (List Dt)} {hs:List Dt} {n:Int} (h:(n,Zm l part)∈tbl) (r:QX tbl l af hs):QX tbl l (part::af) (Zy (Zf part) n::hs)
section
variable{tbl aE:List (Int×Dt)}{l:Int}{af:List (List Dt)}{hs:List Dt}
theorem QX.mono(h:QX tbl l af hs)(s:∀ x∈tbl,x∈aE):QX aE l af hs:=by
 induction h with
 | nil=>exact .nil
 | cons h _ ih=>exact .cons (s _ h) ih
theorem QX.snoc{part:List Dt}{n:Int}(h:QX tbl l af hs)(m:(n,Zm l part)∈tbl):QX tbl l (af++[part]) (hs++[Zy (Zf part) n]):=by
 induction h with
 | nil=>exact .cons m .nil
 | cons h _ ih=>exact .cons h ih
theorem QX.length(h:QX tbl l af hs):hs.length=af.length:=by
 induction h with
 | nil=>rfl
 | cons _ _ ih=>simp[ih]
theorem QX.det(f:Fn tbl)(h:QX tbl l af hs):∀ {aX:List Dt},QX tbl l af aX->hs=aX:=by
 induction h with
 | nil=>intro aX h';cases h';rfl
 | cons h _ ih =>
  intro aX h';cases h' with
  | cons h2 r2=>rw[f.dat _ _ _ h h2,ih r2]
end
structure Ju(lv:V->Nat)(tbl:List (Int×Dt))(ar:List Dt)(top:Nat)(L:Nat->List Dt):Prop where
 low:L 0=ar
 up:∀ j,j<=top->QX tbl j (Zc lv j (L j)) (L (j+1))
 one:(L (top+1)).length=1
 two:∀ j,1<=j->j<=top->1 < (L j).length
section
variable{lv:V->Nat}{tbl aE:List (Int×Dt)}{ar rows':List Dt}{top cu:Nat}{L L':Nat->List Dt}
theorem Ju.mono(c:Ju lv tbl ar top L)(s:∀ x∈tbl,x∈aE):Ju lv aE ar top L:=⟨c.low,λj h=>(c.up j h).mono s,c.one,c.two⟩
theorem Ju.det(f:Fn tbl)(c:Ju lv tbl ar top L)(c':Ju lv tbl ar cu L'):top=cu/\∀ j,j<=top+1->L j=L' j:=by
 have key:∀ j,j<=top+1->j<=cu+1->L j=L' j:=by
  intro j
  induction j with
  | zero=>intro _ _;rw[c.low,c'.low]
  | succ j ih =>
   intro h h';have e:=ih #[0] #[0]
   have u:=c.up j #[0]
   have u':=c'.up j #[0]
   rw[e]at u;exact u.det f u'
 have e:top=cu:=by
  rcases Nat.lt_trichotomy top cu with h | h | h
  ·have:=c'.two (top+1) #[0] #[0]
   rw[<- key (top+1) #[0] #[0],c.one]at this;lia
  ·exact h
  ·have:=c.two (cu+1) #[0] #[0]
   rw[key (cu+1) #[0] #[0],c'.one]at this;lia
 subst e;exact⟨rfl,λj h=>key j h h⟩
theorem Ju.root(c:Ju lv tbl ar top L):∃ k n,L (top+1)=[Zy k n]/\(n,Zm top (L top))∈tbl/\Zc lv top (L top)=[L top]:=by
 have u:=c.up top (Um _);have l:=u.length;rw[c.one]at l
 match q:Zc lv top (L top),l with
 | [p],_ =>
  have fl:=(ZQ (lv:=lv) (top:Int) (L top)).flat;rw[q]at fl;simp at fl;subst fl;rw[q]at u;generalize L (top+1)=hs at u;cases u with
  | cons h r=>cases r;exact⟨_,_,rfl,h,rfl⟩
end
def Zr:Dt->Int
 | .t [_,.v (.int n)]=>n
 | _=>0
section
variable{lv:V->Nat}{tbl:List (Int×Dt)}{l:Int}{af:List (List Dt)}{hs ar:List Dt}{top:Nat}{L:Nat->List Dt}
theorem QX.keys(h:QX tbl l af hs):hs.map Qv=af.map Zf:=by
 induction h with
 | nil=>rfl
 | cons h r ih=>rw[UH,UH,ih];rfl
theorem QX.mem(h:QX tbl l af hs){x:Dt}(hx:x∈hs):∃ part∈af,∃ n,x=Zy (Zf part) n/\(n,Zm l part)∈tbl:=by
 induction h with
 | nil=>cases hx
 | @cons part af hs n h r ih =>
  rcases mem_cons.mp hx with e | hx
  ·exact⟨part,VN,n,e,h⟩
  ·obtain⟨p,hp,q⟩:=ih hx;exact⟨p,VO _ hp,q⟩
end
structure JSa(lv:V->Nat)(tbl:List (Int×Dt))(ar:List Dt)(j:Nat)(L:Nat->List Dt):Prop where
 low:L 0=ar
 up:∀ i,i < j->QX tbl i (Zc lv i (L i)) (L (i+1))
 two:∀ i,1<=i->i < j->1 < (L i).length
section
variable{lv:V->Nat}{tbl aE:List (Int×Dt)}{ar hs:List Dt}{j:Nat}{L:Nat->List Dt}
theorem JSa.start(h:QX tbl 0 (Zc lv 0 ar) hs):JSa lv tbl ar 1 (λi=>if i=0 then ar else hs) where
 low:=rfl
 up:=λi hi=>by
  obtain rfl:i=0:=by lia
  exact h
 two:=λi h1 h2=>by lia
theorem JSa.next(p:JSa lv tbl ar j L)(s:∀ x∈tbl,x∈aE)(hj:1<=j)(h2:1 < (L j).length)(h:QX aE j (Zc lv j (L j)) hs):JSa lv aE ar (j+1) (λi=>if i=j+1 then hs else L i) where
 low:=by show(if 0=j+1 then hs else L 0)=ar;rw[if_neg #[0]];exact p.low
 up:=λi hi=>by
  show QX aE i (Zc lv i (if i=j+1 then hs else L i)) (if i+1=j+1 then hs else L (i+1))
  rw[if_neg #[0]]
  by_cases e:i=j
  ·subst e;rw[if_pos rfl];exact h
  ·rw[if_neg #[0]];exact(p.up i #[0]).mono s
 two:=λi h1 hi=>by
  show 1 < (if i=j+1 then hs else L i).length
  rw[if_neg #[0]]
  by_cases e:i=j
  ·subst e;exact h2
  ·exact p.two i h1 #[0]
theorem JSa.chain{top:Nat}(p:JSa lv tbl ar (top+1) L)(h:(L (top+1)).length=1):Ju lv tbl ar top L:=⟨p.low,λi hi=>p.up i #[0],h,λi h1 h2=>p.two i h1 #[0]⟩
theorem JSa.full(p:JSa lv tbl ar j L)(hr:ar≠[]):∀ i,i<=j->L i≠[]:=by
 intro i
 induction i with
 | zero=>intro _;rw[p.low];exact hr
 | succ i ih =>
  intro h z;have u:=p.up i #[0]
  have l:=u.length;rw[z]at l;exact Zka (ih #[0]) (length_eq_zero_iff.mp l.symm)
theorem JSa.top(p:JSa lv tbl ar j L)(h6:∀ k,lv k<=6)(hr:ar≠[])(hj:7<=j):(L 7).length=1:=by
 have u:=p.up 6 #[0]
 rw[Jsb (p.full hr 6 #[0]) (λe _=>by have:=h6 (Qv e);lia)]at u
 rw[u.length];rfl
end
end Tr
end
section
namespace L2
open PySem PySem.Spec PyProof.Rows
inductive FzH(H:Hp):Nat->V->Prop where
 | v {n:Nat} {x:V} (f:hV x=true):FzH H n x
 | t {n:Nat} {a:Vh} {xs:List V} (h:H a=Vo (.tup xs)) (r:∀ x∈xs,FzH H n x):FzH H (n+1) (.ref a)
theorem FzH.sameT{H H':Hp}{n:Nat}{x:V}(r:FzH H n x)(s:ZK H H'):FzH H' n x:=by
 induction r with
 | v f=>exact .v f
 | t h _ ih=>exact .t (s _ _ h) ih
theorem FzH.same{H H':Hp}{n:Nat}{x:V}(r:FzH H n x)(s:Qn H H'):FzH H' n x:=r.sameT s.t
theorem FzH.pair{H:Hp}{n:Nat}{a:Vh}{x y:V}(h:H a=Vo (.tup [x,y]))(hx:FzH H n x)(hy:FzH H n y):FzH H (n+1) (.ref a):=.t h λz hz=>by
 rcases mem_cons.mp hz with e | hz
 ·rw[e];exact hx
 ·rw[mem_singleton.mp hz];exact hy
structure JT(H:Hp)(n:Nat)(p:Vh)(H1:Hp)(xs:List V):Prop where
 same:Qn H H1
 at_:H1 p=Vo (.lst xs)
 fz:∀ x∈xs,FzH H1 n x
 new:H p=Vp
theorem JT.start{H:Hp}{n:Nat}{p:Vh}(hp:H p=Vp):JT H n p (upd H p (.lst [])) []:=⟨Qf hp _,Qa,(λx hx=>by cases hx),hp⟩
theorem JT.more{H H1 H2:Hp}{n:Nat}{p:Vh}{xs:List V}{x:V}(c:JT H n p H1 xs)(s:Qn H1 H2)(f:FzH H2 n x):JT H n p (upd H2 p (.lst (xs++[x]))) (xs++[x]) where
 same:=λb o hb=>by rw[Qk (Qy hb c.new)];exact s _ _ (c.same _ _ hb)
 at_:=Qa
 fz:=λy hy=>by
  have st:=JZ (zs:=xs++[x]) (s _ _ c.at_)
  rcases mem_append.mp hy with h | h
  ·exact((c.fz y h).same s).sameT st
  ·rw[mem_singleton.mp h];exact f.sameT st
 new:=c.new
theorem JT.pair{H H1:Hp}{n:Nat}{p q:Vh}{xs:List V}(x y:V)(c:JT H (n+1) p H1 xs)(hq:H1 q=Vp)(fx:hV x=true:=by rfl)(fy:hV y=true:=by rfl):JT H (n+1) p (upd (upd H1 q (.tup [x,y])) p (.lst (xs++[.ref q]))) (xs++[.ref q]) :=
 c.more (Qf hq _) (FzH.pair Qa (.v fx) (.v fy))
theorem JT.nest{H H1:Hp}{n:Nat}{p a b q:Vh}{xs:List V}(z w x y:V)(c:JT H (n+3) p H1 xs)(ha:H1 a=Vp)(hb:upd H1 a (.tup [x,y]) b=Vp)(hq:upd (upd H1 a (.tup [x,y])) b (.tup [w,.ref a]) q=Vp)(fx:hV x=true:=by rfl)(fy:hV y=true:=by rfl)(fz:hV z=true:=by rfl)(fw:hV w=true:=by rfl) :
 JT H (n+3) p (upd (upd (upd (upd H1 a (.tup [x,y])) b (.tup [w,.ref a])) q (.tup [z,.ref b])) p (.lst (xs++[.ref q]))) (xs++[.ref q]):=by
 have f1:FzH (upd H1 a (.tup [x,y])) (n+1) (.ref a):=FzH.pair Qa (.v fx) (.v fy);have f2:FzH (upd (upd H1 a (.tup [x,y])) b (.tup [w,.ref a])) (n+2) (.ref b):=FzH.pair Qa (.v fw) (f1.same (Qf hb _));exact c.more ((Qf ha _).trans ((Qf hb _).trans (Qf hq _))) (FzH.pair Qa (.v fz) (f2.same (Qf hq _)))
theorem FzH.td{H:Hp}{n:Nat}{x:V}(r:FzH H n x):∃ d,TD H n d x:=by
 induction r with
 | v f=>exact⟨_,TD.ofV f⟩
 | t h _ ih =>
  obtain⟨ds,q,_⟩:=TDs.of (Pd:=λ_=>True) λx hx=>by obtain⟨d,hd⟩:=ih x hx;exact⟨d,hd,trivial⟩
  exact⟨.t ds,TD.ofT h q⟩
section
variable{a b c d e u:TS}{D:JR}{σ:St}{H:Hp}
theorem YDa(h:∀ R:St->Hp->Prop,(∀ σ H,u D σ H->R σ H)->a { D with nx:=R } σ H):ZOa a u D σ H:=h (u D) λ_ _ z=>z
theorem Zla(h:∀ R:St->Hp->Prop,(∀ σ H,u D σ H->R σ H)->ZOa a b { D with nx:=R } σ H):ZOa a (ZOa b u) D σ H:=h (u D) λ_ _ z=>z
theorem XGb(h:∀ R:St->Hp->Prop,(∀ σ H,u D σ H->R σ H)->ZOa a (ZOa b (ZOa c (ZOa d e))) { D with nx:=R } σ H):ZOa a (ZOa b (ZOa c (ZOa d (ZOa e u)))) D σ H:=h (u D) λ_ _ z=>z
end
section
variable{X:Cx}
end
section
variable{X:Cx}
end
end L2
end
section
open L2 PySem
namespace Tr
def Jic(tbl:List (Int×Dt)):Nat->Dt->List Dt->Prop
 | 0,d,es=>es=[d]
 | l+1,d,es=>∃ k n part bu,d=Zy k n/\(n,Zm (l:Int) part)∈tbl/\Vm (Jic tbl l) part bu/\es=bu.flatten
def XHb(tbl:List (Int×Dt))(l:Nat)(part es:List Dt):Prop:=∃ bu,Vm (Jic tbl l) part bu/\es=bu.flatten
theorem Jpa{α β:Type}{F:α->β->Prop}:∀ {xs ys:List α} {us:List β},Vm F (xs++ys) us->∃ u1 u2,us=u1++u2/\Vm F xs u1/\Vm F ys u2
 | [],_,us,h=>⟨[],us,rfl,.nil,h⟩
 | x::xs,ys,_,.cons r t=>by
  obtain⟨u1,u2,e,a,b⟩:=Jpa t;exact⟨_::u1,u2,by rw[e];rfl,.cons r a,b⟩
section
variable{lv:V->Nat}{tbl:List (Int×Dt)}{ar:List Dt}{top:Nat}{L:Nat->List Dt}
theorem QBc(ar:List Dt):XHb tbl 0 ar ar:=by
 refine⟨ar.map λd=>[d],?_,?_⟩
 ·induction ar with
  | nil=>exact .nil
  | cons d r ih=>exact .cons rfl ih
 ·induction ar with
  | nil=>rfl
  | cons d r ih=>rw[UH,LR,<- ih];rfl
theorem QCc{j:Nat}{af:List (List Dt)}{hs:List Dt}(h:QX tbl (j:Int) af hs):∀ {bu:List (List Dt)},Vm (Jic tbl j) af.flatten bu->∃ cw,Vm (Jic tbl (j+1)) hs cw/\cw.flatten=bu.flatten:=by
 induction h with
 | nil=>intro bu p;cases p;exact⟨[],.nil,rfl⟩
 | @cons part af hs n hm r ih =>
  intro bu p;rw[LR]at p;obtain⟨u1,u2,e,a,b⟩:=Jpa p;obtain⟨cw,q,f⟩:=ih b;refine⟨u1.flatten::cw,.cons ⟨_,n,part,u1,rfl,hm,a,rfl⟩ q,?_⟩
  rw[LR,f,e,LQ]
theorem Ju.sub(c:Ju lv tbl ar top L):∀ j,j<=top+1->XHb tbl j (L j) ar:=by
 intro j
 induction j with
 | zero=>intro _;rw[c.low];exact QBc ar
 | succ j ih =>
  intro h;obtain⟨bu,p,e⟩:=ih #[0]
  have u:=c.up j #[0]
  rw[<- (ZQ (lv:=lv) (j:Int) (L j)).flat]at p;obtain⟨cw,q,f⟩:=QCc u p;exact⟨cw,q,by rw[f];exact e⟩
theorem Ju.spread(c:Ju lv tbl ar top L){k:V}{n:Int}(e:L (top+1)=[Zy k n]):∃ part,(n,Zm (top:Int) part)∈tbl/\XHb tbl top part ar:=by
 obtain⟨bu,p,f⟩:=c.sub (top+1) (Um _);rw[e]at p;cases p with
 | cons r t =>
  cases t;obtain⟨k',n',part,bO,e1,hm,q,g⟩:=r;obtain⟨_,rfl⟩:=Joa e1;exact⟨part,hm,bO,q,by rw[f,g];simp⟩
end
end Tr
end
section
namespace L2
open PySem PySem.Spec PyProof.Rows PySem.W
theorem YIc:Ol (.type "list_reverseiterator") "__len__"=pure Vp:=by rw[LS,LU];kernel_rfl
theorem Jjc:Ol (.type "list_reverseiterator") "__length_hint__"=pure (Vo (.builtin "list_reverseiterator.__length_hint__")):=by rw[LS,LU];kernel_rfl
section
variable{prog:Vg}{w:Vb}{A:VG}{E:YQ_}{s:VH}
theorem Jkc{r:Vh}{Q:Bool->VH->Prop}(hT:s.TypeIs (.ref r) "list_reverseiterator")(h:Q false s):VV (VW prog w) A (Builtin.List.listLengthHint (.ref r)) Q E s:=by
 unfold Builtin.List.listLengthHint;refine Uh (OO hT YIc ?_)
 refine LV (λeY=>absurd eY #[1]) (λ_=>?_)
 refine LV (λeY=>absurd eY #[1]) (λ_=>?_)
 refine Uh (OO hT Jjc ?_)
 generalize hid:("list_reverseiterator.__length_hint__":String)=id0
 wp_delta
 rw[show splitId id0=Vo ("list_reverseiterator","__length_hint__") from by subst hid;decide +kernel]
 subst hid;refine Uh (wpAny_isInstance (T:="list_reverseiterator") (b:=true) hT (by rw[isSubtype_type];kernel_rfl) ?_)
 refine LV (λeY=>absurd eY #[1]) (λ_=>?_)
 refine LV (λ_=>?_) (λeY=>absurd (by decide +kernel) eY)
 refine LV (λeY=>absurd eY (by decide +kernel)) (λ_=>?_)
 exact Ug h
theorem YAb{R:UC->VH->Prop}{I l:Vh}{ai:Array Va}(hh:A.handled=Vp)(ax:l≠I)(cS:s.heap.IsRevIter I l ((ai.size:Int) - 1))(hl:s.heap.IsList l ai)(S:Vh)(kA:S≠I)(oz:S≠l)(res:Va)(c₀:Nat)(hS:s.heap.get? S=Vo { cls:=.type "list",data:=.seq #[] c₀ })
 (hR:∀ h' tk aM c',(∀ b o,b≠S->b≠I->s.heap.get? b=Vo o->h'.get? b=Vo o)->h'.get? S=Vo { cls:=.type "list",dict:=Vp,data:=.seq aM c',slots:=#[] }->ItemsOf (λi v=>ai[ai.size - 1 - i]?=Vo v) aM ai.size->R (.ok (.ret res)) { s with heap:=h',toks:=tk }) (hn:ai.size<=Vs) :
 VV (VW prog w) A.in1 (LN (.ref S) (.ref I) res)
  (λfin s'=>match fin with | .done f=>R (.ok f) s' | .again c'=>c'.quiet=true/\UE (VW prog w) A c' R s') (λe s'=>R (.error e) s') s:=by
 have ve:S∉[I,l]:=by simp only[LW,LX,or_false,not_or];exact⟨kA,oz⟩
 have W:=Walks.listRev (prog:=prog) (w:=w) (A:=A.in1) hh I l ax ai;have st:0<=ai.size/\s.heap.IsRevIter I l ((ai.size:Int) - 1 - ((0:Nat):Int))/\s.heap.IsList l ai:=⟨Us _,by simpa using cS,hl⟩
 have key:∀ (h:Vq) (c₁ tk:Nat),(0<=ai.size/\h.IsRevIter I l ((ai.size:Int) - 1 - ((0:Nat):Int))/\h.IsList l ai)->(∀ b o,b≠S->s.heap.get? b=Vo o->h.get? b=Vo o) ->
  h.get? S=Vo { cls:=.type "list",data:=.seq #[] c₁ }->UE (VW prog w) A (.builtin "list.extend.loop" ⟨[.ref S,.ref I,res],[]⟩) R { s with heap:=h,toks:=tk }:=by
  intro h c₁ tk cQ hk yP;refine codeAny_extend_loopS W.toS hn S ve res ai.size 0 _ #[] c₁ rfl (Us _) cQ yP (ItemsOf.nil _) λs' aM c' hm aJ bU=>?_
  rw[Moved.eq_with hm];refine hR s'.heap s'.toks aM c' (λb o hb jn e=>hm.heap b o (λhmem=>?_) (hk b o hb e)) aJ bU
  rcases mem_cons.mp hmem with e' | hmem
  ·exact hb e'
  ·exact jn (mem_singleton.mp hmem)
 unfold LN;refine Uh (LO (T:="list_reverseiterator") cS.typeIs ?_)
 have h1:Builtin.List.listSameRef (.ref S) (.ref I)=false:=by simp[Builtin.List.listSameRef,kA]
 have h2:(Vl "list_reverseiterator" == Vl "list")=false:=by decide
 have h3:(Vl "list_reverseiterator" == Vl "tuple")=false:=by decide
 simp only[h1,h2,h3,Bool.or_false,OU,if_false];refine Uh (wpAny_pyIter_revIter cS ?_)
 refine Uh (Ln (Jkc cS.typeIs ?_))
 refine LV (λ_=>?_) (λ_=>Ug ⟨LY F.plain_extend_loop _,key _ c₀ _ st (λb o _ e=>e) hS⟩)
 refine Uh (II ?_)
 refine Uh ?_
 show VV _ _ (updateSeq S (·.push .none) >>= λ_=>updateSeq S (·.pop)) _ _ _
 refine Uh (wpAny_updateSeq hS rfl ?_)
 have oC:=Lv (Ot (·.push Vi)) hS rfl
 refine wpAny_updateSeq (hz:=by seq_fits) oC rfl ?_
 have yQ:=Lv (Ot (·.pop)) oC rfl
 refine Ug ⟨LY F.plain_extend_loop _,key _ _ _ ?_ (λb o hb e=>?_) yQ⟩
 ·refine W.frame 0 _ _ st λb hb o e=>?_
  have vf:b≠S:=λh=>ve (h ▸ hb)
  exact(Ou _ _ (VR vf)).trans ((Ou _ _ (VR vf)).trans e)
 ·exact(Ou _ _ (VR hb)).trans ((Ou _ _ (VR hb)).trans e)
theorem Jlc{R:UC->VH->Prop}{I l:Vh}{ai:Array Va}(hh:A.handled=Vp)(ax:l≠I)(cS:s.heap.IsRevIter I l ((ai.size:Int) - 1))(hl:s.heap.IsList l ai)(S:Vh)(kA:S≠I)(oz:S≠l)(hS:s.heap.get? S=Vo { cls:=.type "list",data:=.seq #[] })
 (hR:∀ h' tk aM c',(∀ b o,b≠S->b≠I->s.heap.get? b=Vo o->h'.get? b=Vo o)->h'.get? S=Vo { cls:=.type "list",dict:=Vp,data:=.seq aM c',slots:=#[] }->ItemsOf (λi v=>ai[ai.size - 1 - i]?=Vo v) aM ai.size->R (.ok (.ret .none)) { s with heap:=h',toks:=tk }) (hn:ai.size<=Vs) :
 VV (VW prog w) A.in1 (OW.«list.__init__» ⟨[.ref S,.ref I],[]⟩)
  (λfin s'=>match fin with | .done f=>R (.ok f) s' | .again c'=>c'.quiet=true/\UE (VW prog w) A c' R s') (λe s'=>R (.error e) s') s:=by
 show VV _ _ (do let old <- Builtin.List.listItems (.ref S);Builtin.List.listUpdate (.ref S) (λ_=>#[]);letGo old.toList.reverse;LN (.ref S) (.ref I) .none) _ _ s
 refine Uh ?_
 unfold Builtin.List.listItems;refine Uh (wpAny_seqItems hS rfl (Ug ?_))
 show VV _ _ (updateSeq S (λ_=>#[]) >>= λ_=>letGo (#[]:Array Va).toList.reverse >>= λ_=>LN (.ref S) (.ref I) .none) _ _ s
 refine Uh (wpAny_updateSeq hS rfl ?_)
 have oC:=Lv (Ot (λ_=>(#[]:Array Va))) hS rfl
 have qo:∀ b o,b≠S->s.heap.get? b=Vo o->(s.heap.update S (Ot (λ_=>(#[]:Array Va)))).get? b=Vo o :=
  λb o hb e=>(Ou _ _ (VR hb)).trans e
 refine Uh (wpAny_letGo ?_)
 refine YAb hh ax (cS.at λo e=>qo I o (VR kA) e) (hl.at λo e=>qo l o (VR oz) e) S kA oz .none _ oC (λh' tk aM c' hk aJ bU=>?_) hn
 exact hR h' tk aM c' (λb o hb jn e=>hk b o hb jn (qo b o hb e)) aJ bU
theorem Jmc{Q:YQ_}{I l:Vh}{ai:Array Va}(hh:A.handled=Vp)(ax:l≠I)(cS:s.heap.IsRevIter I l ((ai.size:Int) - 1))(hl:s.heap.IsList l ai)(hn:ai.size<=Vs)
 (hQ:∀ h' tk aM c',(∀ b o,b≠I->s.heap.get? b=Vo o->h'.get? b=Vo o)->h'.get? s.heap.objs.size=Vo { cls:=.type "list",dict:=Vp,data:=.seq aM c',slots:=#[] }->ItemsOf (λi v=>ai[ai.size - 1 - i]?=Vo v) aM ai.size->Q (.ref s.heap.objs.size) { s with heap:=h',toks:=tk }) :
 VV (VW prog w) A (Ut (.type "list") [.ref I]) Q E s:=by
 refine callType_codes (Q₁:=λobj s₁=>obj=.ref s.heap.objs.size/\s₁={ s with heap:=s.heap.push { cls:=.type "list",data:=.seq #[] } }) F.called_list (F.typeCall_list_1 _) F.entry_list_init
  (code_list_new _ ⟨rfl,rfl⟩) λobj s₁ h₁=>?_
 obtain⟨rfl,rfl⟩:=h₁;have hS:(s.heap.push { cls:=.type "list",data:=.seq #[] }).get? s.heap.objs.size=Vo { cls:=.type "list",data:=.seq #[] }:=Ul _ rfl
 have hI:I < s.heap.objs.size:=by obtain⟨o,ho,_⟩:=cS;exact Vy ho
 have hL:l < s.heap.objs.size:=by obtain⟨o,ho,_⟩:=hl;exact Vy ho
 refine⟨⟨_,hS,rfl⟩,F.args_list_init_2 _ _,Jlc (A:=A.in1) hh ax (cS.at λo e=>Uk _ e) (hl.at λo e=>Uk _ e) _ (Ud hI) (Ud hL) hS (λh' tk aM c' hk aJ bU=>?_) hn⟩
 exact⟨rfl,hQ h' tk aM c' (λb o hb e=>hk b o (VB (Vy e)) hb (Uk _ e)) aJ bU⟩
end
def Xga(K:VD)(te:TE):TE:=λσ H Q=>te σ H λx H1=>∃ l ys,x=.ref l/\SqL K H1 l ys/\∀ D,H1 D=Vp->Q (.ref D) (upd H1 D (.lst ys.reverse))
theorem QDc{ai aO:Array Va}(h:ItemsOf (λi v=>ai[ai.size - 1 - i]?=Vo v) aO ai.size):aO.toList=ai.toList.reverse:=by
 refine IQ λi=>?_
 by_cases hi:i < ai.size
 ·have h1:i < aO.size:=by rw[h.1];exact hi
  have h2:=h.2 i aO[i] (Array.getElem?_eq_getElem h1)
  rw[IR,Array.getElem?_eq_getElem h1,<- h2,getElem?_reverse (by simpa using hi),<- IR]
  simp
 ·rw[LL (by rw[V7,h.1];lia),LL (by rw[length_reverse,V7];lia)]
section
variable{X:Cx}{e:Expr}{te:TE}{p pos p2 eW:Pos}{aa:YP_}{σ:St}{H:Hp}{s:VH}
theorem Jtb:VF "reversed"=Vo (.type "reversed"):=by rfl
def Q5d(X:Cx)(aa:YP_)(σ:St)(Q:VK)(u:Va)(s:VH):Prop:=∃ l ys vs H1 s0,u=.ref s0.heap.objs.size/\s={ s0 with heap:=s0.heap.push (revObj l (((Lc vs).size:Int) - 1)) }/\Inv X aa σ H1 s0/\QG ys vs/\ys.length<=Vs/\s0.heap.IsList l (Lc vs)/\∀ D,H1 D=Vp->Q (.ref D) (upd H1 D (.lst ys.reverse))
theorem Jnc{Q:VK}(he:PE X e te)(hg:Gl X "reversed")(hm:X.mg "reversed"=Vp)(I:Inv X aa σ H s)(h:Xga X.K te σ H Q)
 (hs:VZ [e] X.env=[(false,VX e X.env)]:=by rfl):VV (VW X.prog X.w) X.A (VX (.Call (.Name "reversed" p) [e] [] pos) X.env) (Q5d X aa σ Q) X.xe s:=by
 refine UY (XA I hg hm Jtb ?_ #[1] #[1])
 refine Uq ?_ hs rfl
 rw[hs];show VV _ _ (spliced ((false,VX e X.env)::VY pos [])) _ _ s;refine UT (thn (he aa s σ H _ I h) λu s1 hZ=>?_)
 obtain⟨x,H1,I1,r1,l,ys,ex,hl,q⟩:=hZ;subst ex;obtain rfl:u=Vk l:=r1;refine US ?_
 obtain⟨vs,rv,pl,hz⟩:=I1.list hl;exact call_reversed_list pl.isList ⟨l,ys,vs,H1,s1,rfl,rfl,I1,rv,hz,pl.isList,q⟩
theorem YBb(he:PE X e te)(hh:X.A.handled=Vp)(hg:Gl X "reversed")(hm:X.mg "reversed"=Vp)(yR:Gl X "list")(bN:X.mg "list"=Vp)
 (hs:VZ [e] X.env=[(false,VX e X.env)]:=by rfl)
 (cf:VZ [.Call (.Name "reversed" p) [e] [] pos] X.env=[(false,VX (.Call (.Name "reversed" p) [e] [] pos) X.env)]:=by rfl):PE X (.Call (.Name "list" p2) [.Call (.Name "reversed" p) [e] [] pos] [] eW) (Xga X.K te):=by
 intro aa s σ H Q I h;refine UY (XA I yR bN Z0 ?_ #[1] #[1])
 refine Uq ?_ cf rfl
 rw[cf];show VV _ _ (spliced ((false,VX (.Call (.Name "reversed" p) [e] [] pos) X.env)::VY eW [])) _ _ s;refine UT (thn (Jnc he hg hm I h hs) λu s1 hZ=>?_)
 obtain⟨l,ys,vs,H1,s0,eu,es,I1,rv,hz,hl,q⟩:=hZ;subst eu es;refine US ?_
 have dI:=rv.length;have hL:l < s0.heap.objs.size:=by obtain⟨o,ho,_⟩:=hl;exact Vy ho
 refine Jmc hh (VB hL) ⟨_,Ul _ rfl,rfl,rfl⟩ (hl.at λo e=>Uk _ e) (by rw[Ux];lia) λh' tk aM c' kp hD bU=>?_
 have er:=QDc bU;have ea:aM=(vs.reverse).toArray:=by rw[<- Array.toArray_toList (xs:=aM),er]
 subst ea;have yS:∀ b o,s0.heap.get? b=Vo o->h'.get? b=Vo o:=λb o e=>kp b o (VB (Vy e)) (Uk _ e)
 have hp:s0.heap.objs.size<=(s0.heap.push (revObj l (((Lc vs).size:Int) - 1))).objs.size:=by rw[UL];lia
 exact⟨.ref _,_,I1.laid (t':=tk) yS hp (show QR X.prog X.w _ h' _ (.lst ys.reverse) from⟨by rw[length_reverse];exact hz,vs.reverse,c',rv.reverse,hD⟩),rfl,q _ (I1.hok.fresh hp)⟩
end
theorem Q7b:Ol (.type "list") "keys"=pure Vp:=by rw[LS,LU];kernel_rfl
theorem Yla:Ol (.type "list") "__getattr__"=pure Vp:=by rw[LS,LU];kernel_rfl
section
variable{prog:Vg}{w:Vb}{A:VG}{E:YQ_}{h:Vq}{g:Array VQ}{d:Drawn}{t:Nat}{os:OsState}{a:Vh}{ah:Array Va}{c:Nat}
theorem Yma{tk:Tok}{Q:PySem.Fin->VH->Prop}(hh:A.handled=Vp)(hx:h.get? a=Vo { cls:=.type "list",dict:=Vp,data:=.seq ah c,slots:=#[] })
 (hE:∀ h' tk e,Heap.NewAttrErr h h' e (.ref a) "keys"->E (.ref e) ⟨h',g,d,tk,os⟩) :
 VV (VW prog w) A (OW.«object.__getattribute__» ⟨[.ref a,.str "keys" tk],[]⟩) Q E ⟨h,g,d,t,os⟩:=by
 have hT:(⟨h,g,d,t,os⟩:VH).TypeIs (.ref a) "list":=⟨_,hx,rfl⟩;have f4:=Q7b
 repeat (any_goals (first | assumption | wp_step))
 exact wpAny_raiseAttrError hh hE (attrMsg_fits (by decide +kernel) (by decide +kernel))
theorem Q8b{tk:Tok}{Q:YQ_}(hh:A.handled=Vp)(hx:h.get? a=Vo { cls:=.type "list",dict:=Vp,data:=.seq ah c,slots:=#[] })
 (hE:∀ h' tk e,Heap.NewAttrErr h h' e (.ref a) "keys"->E (.ref e) ⟨h',g,d,tk,os⟩) :
 VV (VW prog w) A (getAttrBy (.ref a) (.str "keys" tk) false) Q E ⟨h,g,d,t,os⟩:=by
 have hT:(⟨h,g,d,t,os⟩:VH).TypeIs (.ref a) "list":=⟨_,hx,rfl⟩;have f1:=sub_AttributeError;have f2:=F.slot_list_getattribute.lookup;have f3:=F.slot_list_getattribute.bind (.ref a);have f5:=Yla;unfold getAttrBy
 repeat (any_goals (first | assumption | wp_step))
 refine LF F.slot_list_getattribute.plain F.entry_list_ga (F.slot_list_getattribute.check _ _ _ _ _ _ _ _ hT (F.args_list_getattribute_2 _ _) (Yma hh hx λh' tk' e bG=>?_))
 obtain⟨t',u',he⟩:=bG.there;show VV _ _ (getattributeRaised _ _ _ _ _ _ _) _ _ _;unfold getattributeRaised
 repeat (any_goals (first | assumption | wp_step))
 exact hE _ _ _ bG
theorem Xha{Q:Option Va->VH->Prop}(hh:A.handled=Vp)(hx:h.get? a=Vo { cls:=.type "list",dict:=Vp,data:=.seq ah c,slots:=#[] })
 (hQ:∀ h' tk,(∀ b u,h.get? b=Vo u->h'.get? b=Vo u)->Q Vp ⟨h',g,d,tk,os⟩):VV (VW prog w) A (getAttr? (.ref a) "keys") Q E ⟨h,g,d,t,os⟩:=by
 unfold getAttr? getAttrBy?;refine Uh (wpAny_mkText ?_)
 refine Uh (IX (Q8b hh hx λh' tk e bG=>?_))
 obtain⟨t',u',he⟩:=bG.there;have f1:=sub_AttributeError
 repeat (any_goals (first | assumption | wp_step))
 exact hQ _ _ bG.keeps
end
theorem Qqa:entryFor table "dict.update.loop"=Vo OW.«dict.update.loop»:=entryFor_of_tree (by kernel_rfl)
theorem Jq:plainId "dict.update.loop"=true:=by decide +kernel
section
variable{prog:Vg}{w:Vb}{K:Type}[DecidableEq K]{knd:KeyKind prog w K}{A:VG}{E:YQ_}{s:VH}
def XL(knd:KeyKind prog w K)(h:Vq)(vs:List Va)(kks:List (K×Va)):Prop:=∀ (i:Nat) k x,kks[i]?=Vo (k,x)->∃ t key,vs[i]?=Vo (.ref t)/\Vt h t #[key,x]/\knd.is k key=true
theorem XL.but{h h':Vq}{vs:List Va}{kks:List (K×Va)}(p:XL knd h vs kks)(P:Vh->Prop)(hP:∀ t ah,Vt h t ah->P t)(hk:∀ b o,P b->h.get? b=Vo o->h'.get? b=Vo o):XL knd h' vs kks:=λi k x e=>by
 obtain⟨t,key,a,b,c⟩:=p i k x e;have pt:=hP t _ b;obtain⟨o,ho,r⟩:=b;exact⟨t,key,a,⟨o,hk t o pt ho,r⟩,c⟩
theorem Xia{it l d:Vh}{vs:List Va}{kks:List (K×Va)}(hh:A.handled=Vp)(hl:kks.length=vs.length)(hb:vs.length<=1000)(ax:it≠d)(yT:l≠d)(yU:l≠it) :
 ∀ (m i:Nat) (oE:Tok) (s:VH) (R:UC->VH->Prop),m=vs.length - i->i<=vs.length->s.heap.IsListIter it l i->s.heap.IsList l vs.toArray->s.heap.DictOf knd d (OP [] (kks.take i))->(OP [] (kks.take i)).length<=i->XL knd s.heap vs kks ->
  (∀ h' tk,(∀ b o,b≠it->b≠d->s.heap.get? b=Vo o->h'.get? b=Vo o)->h'.DictOf knd d (OP [] kks)->R (.ok (.ret .none)) { s with heap:=h',toks:=tk }) ->
  UE (VW prog w) A (.builtin "dict.update.loop" ⟨[.ref d,.ref it,.int i oE,.none],[]⟩) R s:=by
 intro m
 induction m with
 | zero =>
  intro i oE s R hm hi cS oF hD _ hp hR;have e:i=vs.length:=by lia
  subst e;refine codeAny_builtin Qqa ?_
  rw[Around.under_plainId Jq _];unfold OW.«dict.update.loop»;dsimp only;refine Uh (wpAny_pyNext_list_end hh cS oF #[2] λh' eb=>?_)
  dsimp only;rw[Ix #[0]]at hD
  show VV _ _ (Builtin.Dict.addKeywords d [] >>= _) _ _ _;refine Uh (Ug (Ug (hR h' s.toks (λb o h1 h2 e=>eb b o h1 e) (hD.extBut eb (VR ax)))))
 | succ m ih =>
  intro i oE s R hm hi cS oF hD lD hp hR;have bg:i < vs.length:=by lia
  obtain⟨k,x,vg⟩:∃ k x,kks[i]?=Vo (k,x):=⟨_,_,I0 #[0]⟩
  obtain⟨t,key,j6,ht,aP⟩:=hp i k x vg;refine codeAny_builtin Qqa ?_
  rw[Around.under_plainId Jq _];unfold OW.«dict.update.loop»;dsimp only;refine Uh (wpAny_pyNext_list_item cS oF (x:=.ref t) (by simpa using j6) λh' qq sb=>?_)
  dsimp only;obtain⟨ot,kB,kC,nt,ow⟩:=id ht;have qr:t≠it:=λz=>by
   obtain⟨oi,qt,qu,_⟩:=cS;rw[z,qt]at kB;cases kB;rw[qu]at kC;exact absurd (LK kC) #[1]
  have t_d:t≠d:=λz=>by
   obtain⟨od,_,_,qv,b7,_⟩:=hD;rw[z,qv]at kB;cases kB;have:=b7.1;rw[this]at kC;exact absurd (LK kC) #[1]
  have kD:h'.get? t=Vo ot:=(sb.2 t qr).trans kB;have iB:h'.DictOf knd d (OP [] (kks.take i)):=hD.sameBut sb (VR ax);refine Uh (Ln (Uh (wpAny_tryCatch ?_)))
  unfold Builtin.Dict.pairItems;refine Uh (LO (T:="tuple") ⟨_,kD,kC⟩ ?_)
  rw[if_pos #[1]]
  refine Uh (wpAny_seqItems kD ow (Ug ?_))
  show VV _ _ (V6 [key,x] (dictSet d key x)) _ _ _;refine Ln (wpAny_dictSet_pairs aP iB (λh2 oI qw=>?_) (VJ lD (VJ (show i<=1000 by lia) (by rw[Uw];decide))))
  have et:OP [] (kks.take (i+1))=stored (OP [] (kks.take i)) k x:=by
   unfold OP;rw[LZ,vg,foldl_append];rfl
  have keep:∀ b o,b≠it->b≠d->s.heap.get? b=Vo o->h2.get? b=Vo o:=λb o h1 h2 e=>(qw.2 b h2).trans ((sb.2 b h1).trans e)
  have fS:∀ t' ah,Vt s.heap t' ah->t'≠it/\t'≠d:=λt' ah ⟨o',bf,bQ,_⟩=>by
   constructor
   ·intro z
    obtain⟨oi,qt,qu,_⟩:=cS;rw[z,qt]at bf;cases bf;rw[qu]at bQ;exact absurd (LK bQ) #[1]
   ·intro z
    obtain⟨od,_,_,qv,b7,_⟩:=hD;rw[z,qv]at bf;cases bf;rw[b7.1]at bQ;exact absurd (LK bQ) #[1]
  refine Ug ⟨LY Jq _,?_⟩
  refine ih (i+1) _ _ R #[0] #[0] ?_ ?_ (by rw[et];exact oI) ?_ (hp.but (λb=>b≠it/\b≠d) fS λb o hb e=>keep b o hb.1 hb.2 e) λh3 tk jj vh=>?_
  ·obtain⟨o,ho,r⟩:=qq
   exact⟨o,(qw.2 it ax).trans ho,r⟩
  ·obtain⟨o,ho,r⟩:=oF
   exact⟨o,(qw.2 l yT).trans ((sb.2 l yU).trans ho),r⟩
  ·rw[et]
   unfold stored
   split
   ·simp;lia
   ·simp;lia
  ·exact hR h3 tk (λb o h1 h2 e=>jj b o h1 h2 (keep b o h1 h2 e)) vh
theorem QEc{R:UC->VH->Prop}{D l:Vh}{vs:List Va}{kks:List (K×Va)}{c:Nat}(hh:A.handled=Vp)(dJ:s.heap.DictOf knd D [])(hx:s.heap.get? l=Vo { cls:=.type "list",dict:=Vp,data:=.seq vs.toArray c,slots:=#[] })(yV:l≠D)(hl:kks.length=vs.length)(hb:vs.length<=1000)(hp:XL knd s.heap vs kks)
 (hR:∀ h' tk,(∀ b o,b≠D->s.heap.get? b=Vo o->h'.get? b=Vo o)->h'.DictOf knd D (OP [] kks)->R (.ok (.ret .none)) { s with heap:=h',toks:=tk }) :
 VV (VW prog w) A.in1 (OW.«dict.__init__» ⟨[.ref D,.ref l],[]⟩)
  (λfin s'=>match fin with | .done f=>R (.ok f) s' | .again c'=>c'.quiet=true/\UE (VW prog w) A c' R s') (λe s'=>R (.error e) s') s:=by
 unfold OW.«dict.__init__»;refine Uh ?_
 unfold Builtin.Dict.selfAndRest;refine Uh (wpAny_notOrdered_dict dJ.typeIs ?_)
 show VV _ _ (pure (D,[Vk l])) _ _ _;refine Ug ?_
 show VV _ _ (Builtin.Dict.updateFrom "dict.__init__" D (.ref l) [] .none) _ _ _;unfold Builtin.Dict.updateFrom;refine Uh (LO (T:="list") ⟨_,hx,rfl⟩ ?_)
 rw[if_pos #[1]]
 obtain⟨kE,g,dr,oE,os⟩:=s;refine Uh (Xha (A:=A.in1) hh hx λh1 qx keep=>?_)
 rw[if_pos #[1]]
 refine Uh (II ?_)
 have jh:=keep l _ hx;have eZ:h1.IsList l vs.toArray:=⟨_,jh,rfl,c,rfl⟩;refine Uh (wpAny_pyIter_list (s:=⟨h1,g,dr,qx,os⟩) eZ ?_)
 have kp:∀ b o,kE.get? b=Vo o->(h1.push { cls:=.type "list_iterator",data:=.fields #[.ref l,.int 0 0] }).get? b=Vo o:=λb o e=>Uk _ (keep b o e)
 have iC:∀ b o,kE.get? b=Vo o->b < h1.objs.size:=λb o e=>Vy (keep b o e)
 have oI:(h1.push { cls:=.type "list_iterator",data:=.fields #[.ref l,.int 0 0] }).DictOf knd D []:=let ⟨o,es,ep,ho,r⟩:=dJ;⟨o,es,ep,kp D o ho,r⟩
 have yW:D < h1.objs.size:=by obtain⟨o,_,_,ho,_⟩:=dJ;exact iC D o ho
 refine Ug ⟨LY Jq _,?_⟩
 refine Xia (knd:=knd) (A:=A) (it:=h1.objs.size) (l:=l) (d:=D) (vs:=vs) (kks:=kks) hh hl hb (Ud yW) yV (VB (iC l _ hx)) vs.length 0 _ _ R #[0] (Us _) ⟨_,Ul _ rfl,rfl,rfl⟩ ⟨_,kp l _ hx,rfl,c,rfl⟩ oI (Us _) (hp.but (λ_=>True) (λ_ _ _=>trivial) λb o _ e=>kp b o e) λh' tk hk iB=>?_
 exact hR h' tk (λb o hb e=>hk b o (VB (iC b o e)) hb (kp b o e)) iB
theorem QFc{Q:YQ_}{l:Vh}{vs:List Va}{kks:List (K×Va)}{c:Nat}(hh:A.handled=Vp)(hx:s.heap.get? l=Vo { cls:=.type "list",dict:=Vp,data:=.seq vs.toArray c,slots:=#[] })(hl:kks.length=vs.length)(hb:vs.length<=1000)(hp:XL knd s.heap vs kks)
 (h:∀ h' tk,(∀ b o,s.heap.get? b=Vo o->h'.get? b=Vo o)->h'.DictOf knd s.heap.objs.size (OP [] kks)->Q (.ref s.heap.objs.size) { s with heap:=h',toks:=tk }) :
 VV (VW prog w) A (Ut (.type "dict") [.ref l]) Q E s:=by
 refine callType_codes (Q₁:=λobj s₁=>obj=.ref s.heap.objs.size/\s₁={ s with heap:=s.heap.push { cls:=.type "dict",data:=.dict #[] } }) F.kt_called_dict (F.kt_typeCall_dict_1 _) F.entry_dict_init (kt_code_dict_new _ ⟨rfl,rfl⟩) λobj s₁ h₁=>?_
 obtain⟨rfl,rfl⟩:=h₁;have dJ:(s.heap.push { cls:=.type "dict",data:=.dict #[] }).DictOf knd s.heap.objs.size []:=Heap.DictOf.new s.heap;have aG:l < s.heap.objs.size:=Vy hx;refine⟨dJ.typeIs,F.args_dict_init_2 _ _,QEc (A:=A.in1) (knd:=knd) hh dJ (Uk _ hx) (VB aG) hl hb (hp.but (λ_=>True) (λ_ _ _=>trivial) λb o _ e=>Uk _ e) λh' tk hk iB=>?_⟩
 exact⟨rfl,h h' tk (λb o e=>hk b o (VB (Vy e)) (Uk _ e)) iB⟩
end
def Qhd:List V->Hp->VK->Prop:=λxs H Q=>∃ (p:Vh) (ys:List V) (ae:List (Key×V)),xs=[.ref p]/\H p=Vo (.lst ys)/\ys.length<=1000/\Vm (λ(kv:Key×V) y=>∃ t,y=.ref t/\H t=Vo (.tup [kV kv.1,kv.2])) ae ys/\∀ D,H D=Vp->Q (.ref D) (upd H D (.dK (Y9 [] ae)))
theorem Jub{X:Cx}{aa:YP_}{σ:St}{H:Hp}{s:VH}(I:Inv X aa σ H s):∀ {ae:List (Key×V)} {ys:List V} {ah:List Va},Vm (λ(kv:Key×V) y=>∃ t,y=V.ref t/\H t=Vo (.tup [kV kv.1,kv.2])) ae ys->QG ys ah ->
 ∃ kks:List (Key×Va),KV ae kks/\XL (Q3 X.prog X.w) s.heap ah kks
 | [],_,_,.nil,v=>by cases v;exact⟨[],.nil,λi k x e=>by simp at e⟩
 | kv::ae,_,_,.cons r p,v=>by
  cases v with
  | cons rv v =>
   obtain⟨t,rfl,ht⟩:=r;obtain⟨kks,a,b⟩:=Jub I p v;cases rv;obtain⟨hz,jts,rj,hj⟩:=(show QR X.prog X.w H s.heap t (.tup [kV kv.1,kv.2]) from I.hok t _ ht)
   cases rj with
   | @cons _ key _ _ r1 rj =>
   cases rj with
   | @cons _ x _ _ r2 rj =>
   cases rj;refine⟨(kv.1,x)::kks,.cons ⟨rfl,r2⟩ a,λi k y e=>?_⟩
   cases i with
   | zero =>
    simp at e;obtain⟨rfl,rfl⟩:=e;exact⟨t,key,rfl,hj,(YDc r1).1⟩
   | succ i =>
    simp at e;obtain⟨t',qy,h1,h2,h3⟩:=b i k y e;exact⟨t',qy,by simpa using h1,h2,h3⟩
theorem XM{X:Cx}(hh:X.A.handled=Vp):Qoa X (.type "dict") Qhd:=by
 intro aa s σ H xs us Q I r h;obtain⟨p,ys,ae,rfl,hp,lz,pr,q⟩:=h;obtain⟨u,rfl,ru⟩:=Zxa r;obtain rfl:u=Vk p:=ru;obtain⟨hz,ah,n,rv,hx⟩:=(show QR X.prog X.w H s.heap p (.lst ys) from I.hok p _ hp)
 obtain⟨kks,kv,pa⟩:=Jub I pr rv;have l1:=Vn pr;have l2:=rv.length;have l3:=kv.length;refine QFc (knd:=Q3 X.prog X.w) hh hx #[0] #[0] pa λh' tk kp hD=>?_
 have yX:(Y9 [] ae).length<=Vs:=by
  have h1:=ZAa ae [];rw[OF]at h1;rw[Uw];lia
 exact⟨.ref s.heap.objs.size,_,I.laid (a:=s.heap.objs.size) (o:=.dK (Y9 [] ae)) (t':=tk) kp (Um _) ⟨yX,beq_eq_false_iff_ne.mpr (VR (VB I.big)),_,kv.merge .nil,hD⟩,rfl,q _ (I.hok.fresh (Um _))⟩
def Qid:List V->Hp->VK->Prop:=λxs H Q=>∃ d ae,xs=[.ref d]/\H d=Vo (.dK ae)/\ae.length<=1000/\∀ D,H D=Vp->Q (.ref D) (upd H D (.lst (ae.map λp=>kV p.1)))
theorem Xja{X:Cx}(hh:X.A.handled=Vp):Qoa X (.type "list") Qid:=by
 intro aa s σ H xs us Q I r h;obtain⟨d,ae,rfl,hd,hl,q⟩:=h;obtain⟨u,rfl,ru⟩:=Zxa r;obtain rfl:u=Vk d:=ru;obtain⟨z,y,vs,rv,o,es,ep,e0,c1,c2,c3⟩:=(show QR X.prog X.w H s.heap d (.dK ae) from I.hok d _ hd)
 have da:s.heap.DictAt (Q3 X.prog X.w) d vs ep:=⟨o,es,e0,c1,c2,c3⟩;refine kdl_call (kdl_dict (knd:=Q3 X.prog X.w) (ep:=ep) y) hh da (by rw[<- rv.len];exact VL (QD #[0])) λh' tk aO c kp hD bU=>?_
 exact⟨.ref s.heap.objs.size,_,I.laid (t':=tk) kp (Um _) (show QR X.prog X.w _ h' _ (.lst (ae.map λp=>kV p.1)) from⟨by rw[UJ];exact VL (QD #[0]),aO.toList,c,Qzc rv bU,by simpa using hD⟩),rfl,q _ (I.hok.fresh (Um _))⟩
theorem YEa:VF "dict"=Vo (.type "dict"):=by rfl
section
variable{prog:Vg}{w:Vb}{A:VG}{E:YQ_}{h:Vq}{g:Array VQ}{d:Drawn}{t:Nat}{os:OsState}{a:Vh}{ah:Array Va}{c:Nat}{sl:Array (Option Va)}
end
section
variable{prog:Vg}{w:Vb}{K:Type}[DecidableEq K]{knd:KeyKind prog w K}{A:VG}{E:YQ_}{s:VH}
end
theorem YM{α β:Type}{F:α->β->Prop}:∀ {a:List α} {b:List β} {c:List α} {d:List β},Vm F a b->Vm F c d->Vm F (a++c) (b++d)
 | _,_,_,_,.nil,h=>h
 | _,_,_,_,.cons r t,h=>.cons r (YM t h)
section
variable{prog:Vg}{w:Vb}{K:Type}[DecidableEq K]{knd:KeyKind prog w K}{A:VG}{E:YQ_}{s:VH}
end
section
variable{prog:Vg}{w:Vb}{A:VG}{E:YQ_}{s:VH}
section
variable{it a:Vh}{i ep:Nat}{es:Array (Int×Va)}{t:SetTable}{Q:Option Va->VH->Prop}
end
section
variable{a:Vh}{i ep slot:Nat}{es:Array (Int×Va)}{t:SetTable}{R:Option (Va×Nat)->VH->Prop}
end
end
section
variable{prog:Vg}{w:Vb}{A:VG}{E:YQ_}{s:VH}
section
variable{it a tp:Vh}{ep:Nat}{es:Array (Int×Va)}{t:SetTable}
end
section
variable{a:Vh}{ep:Nat}{es:Array (Int×Va)}{t:SetTable}
end
end
section
variable{X:Cx}{aa:YP_}{σ:St}{H:Hp}{s:VH}{A:VG}{E:YQ_}
end
section
variable{X:Cx}{e:Expr}{te:TE}{p pos p2 eW:Pos}{aa:YP_}{σ:St}{H:Hp}{s:VH}
end
section
variable{X:Cx}{e:Expr}{te:TE}{p pos p2 eW:Pos}{aa:YP_}{σ:St}{H:Hp}{s:VH}
end
end L2
end
section
namespace Rw
open PySem L2 Pl
end Rw
end
section
open L2 PySem
namespace Tr
section
variable{lv:V->Nat}{l:Int}
theorem Joc{A B:List (List Dt)}{x:Dt}(h:B≠[]):step lv l (A++B) x=A++step lv l B x:=by
 obtain⟨ini,last,rfl⟩:=Z2 h;unfold step
 by_cases c:l < lv (Qv x)
 ·rw[if_pos (.inr c),if_pos (.inr c),Iv]
 ·rw[if_neg (λz=>z.elim (λz=>by simp at z) c),if_neg (λz=>z.elim (λz=>by simp at z) c)]
  rw[<- Iv,L3,L3,getLast?_concat,getLast?_concat,Iv]
theorem Jvb{X Y:List Dt}(h:X=[]\/Y=[]\/l < lv (Zf Y)):Zc lv l (X++Y)=Zc lv l X++Zc lv l Y:=by
 rcases h with h | h | h
 ·rw[h];rfl
 ·rw[h,UV];unfold Zc;simp
 ·by_cases hY:Y=[]
  ·rw[hY,UV];unfold Zc;simp
  revert h hY
  refine QKa (C:=λY=>l < lv (Zf Y)->Y≠[]->Zc lv l (X++Y)=Zc lv l X++Zc lv l Y) (λ_ z=>absurd rfl z) (λY x ih h _=>?_) Y
  rw[<- Iv,YH,YH]
  by_cases e:Y=[]
  ·subst e
   rw[UV];unfold step;rw[if_pos (.inr h),if_pos (.inl rfl)];rfl
  ·rw[ih (by cases Y with | nil=>exact absurd rfl e | cons y r=>exact h) e,Joc (Zka e)]
theorem Jwb{es:List Dt}{af:List (List Dt)}(c:YY lv l es af):Zc lv l es=af:=by
 revert es
 refine QKa (C:=λaf=>∀ {es:List Dt},YY lv l es af->Zc lv l es=af) (λ{es} c=>?_) (λps p ih es c=>?_) af
 ·have:=c.flat;simp at this;rw[this];rfl
 have hp:=c.full p #[2]
 obtain⟨x,r,rfl⟩:∃ x r,p=x::r:=by cases p with | nil=>exact absurd rfl hp | cons x r=>exact⟨x,r,rfl⟩
 have c':YY lv l ps.flatten ps:=⟨rfl,λq hq=>c.full q (VS _ hq),λi y s hi e=>c.head i y s hi (by rw[Od (List.getElem?_eq_some_iff.mp e).1];exact e),λy s hy=>c.rest y s (VS _ hy)⟩
 have fl:=c.flat;rw[LQ]at fl;simp at fl;rw[<- fl];have h1:ps.flatten=[]\/(x::r)=[]\/l < lv (Zf (x::r)):=by
  by_cases e:ps=[]
  ·exact .inl (by rw[e];rfl)
  ·refine .inr (.inr ?_)
   exact c.head ps.length x r (length_pos_iff.mpr e) #[2]
 rw[Jvb h1,ih c']
 congr 1
 have h2:∀ y∈r,(lv (Qv y):Int)<=l:=c.rest x r #[2]
 clear fl h1 c' hp c ih
 revert h2
 refine QKa (C:=λr=>(∀ y∈r,(lv (Qv y):Int)<=l)->Zc lv l (x::r)=[x::r]) (λ_=>?_) (λr y ih h=>?_) r
 ·unfold Zc step;simp
 ·rw[show x::(r++[y])=(x::r)++[y] from rfl,YH,ih λz hz=>h z (VS _ hz)]
  have:=h y #[2]
  unfold step;rw[if_neg (λz=>z.elim (λz=>by simp at z) λz=>by lia)]
  rfl
theorem YY.left{es:List Dt}{P Q:List (List Dt)}(c:YY lv l es (P++Q)):YY lv l P.flatten P:=⟨rfl,λq hq=>c.full q (VS _ hq),λi y s hi e=>c.head i y s hi (by rw[Od (List.getElem?_eq_some_iff.mp e).1];exact e),λy s hy=>c.rest y s (VS _ hy)⟩
theorem YY.right{es:List Dt}{P Q:List (List Dt)}(c:YY lv l es (P++Q)):YY lv l Q.flatten Q:=⟨rfl,λq hq=>c.full q (Ur _ hq),λi y s hi e=>c.head (P.length+i) y s #[0] (by rw[Oc #[0],Nat.add_sub_cancel_left];exact e),λy s hy=>c.rest y s (Ur _ hy)⟩
end
section
variable{tbl aE:List (Int×Dt)}{l:Int}
theorem QX.app{P P':List (List Dt)}{hs aX:List Dt}(h:QX tbl l P hs)(h':QX tbl l P' aX):QX tbl l (P++P') (hs++aX):=by
 induction h with
 | nil=>exact h'
 | cons m _ ih=>exact .cons m ih
theorem QX.split:∀ {hs aX:List Dt} {P:List (List Dt)},QX tbl l P (hs++aX)->∃ P1 P2,P=P1++P2/\QX tbl l P1 hs/\QX tbl l P2 aX
 | [],aX,P,h=>⟨[],P,rfl,.nil,h⟩
 | x::hs,aX,P,h=>by
  rw[OE]at h;generalize e:x::(hs++aX)=q at h;cases h with
  | nil=>cases e
  | @cons part af _ n m r =>
   injection e with e1 e2
   subst e1 e2;obtain⟨P1,P2,rfl,a,b⟩:=QX.split r;exact⟨part::P1,P2,rfl,.cons m a,b⟩
end
def Tow(lv:V->Nat)(tbl:List (Int×Dt)):Nat->List Dt->List Dt->Prop
 | 0,R,hs=>hs=R
 | l+1,R,hs=>∃ gs,Tow lv tbl l R gs/\QX tbl l (Zc lv l gs) hs
section
variable{lv:V->Nat}{tbl aE:List (Int×Dt)}
theorem Tow.mono(s:∀ x∈tbl,x∈aE):∀ {l:Nat} {R hs:List Dt},Tow lv tbl l R hs->Tow lv aE l R hs
 | 0,_,_,h=>h
 | l+1,_,_,⟨gs,a,b⟩=>⟨gs,a.mono s,b.mono s⟩
theorem Tow.det(f:Fn tbl):∀ {l:Nat} {R hs aX:List Dt},Tow lv tbl l R hs->Tow lv tbl l R aX->hs=aX
 | 0,_,_,_,h,h'=>h.trans h'.symm
 | l+1,_,_,_,⟨gs,a,b⟩,⟨yY,a',b'⟩=>by
  have:=Tow.det f a a';subst this;exact b.det f b'
theorem QDb{P:List (List Dt)}{p:List Dt}(h:p≠[]):Zf ((p::P).flatten)=Zf p:=by
 cases p with
 | nil=>exact absurd rfl h
 | cons x r=>rfl
theorem Tow.fst:∀ {l:Nat} {R hs:List Dt},Tow lv tbl l R hs->(R=[]↔hs=[])/\Zf hs=Zf R
 | 0,_,_,h=>by rw[show _=_ from h];exact⟨Iff.rfl,rfl⟩
 | l+1,R,hs,⟨gs,a,b⟩=>by
  obtain⟨h1,h2⟩:=a.fst;have c:=ZQ (lv:=lv) (l:Int) gs;generalize Zc lv l gs=P at b c;cases b with
  | nil =>
   have:=c.flat;simp at this;subst this;exact⟨⟨λ_=>rfl,λ_=>h1.mpr rfl⟩,h2⟩
  | @cons part af hs n m r =>
   have fu:=c.full part #[2]
   have fl:=c.flat;refine⟨⟨λe=>?_,λe=>by cases e⟩,?_⟩
   ·rw[h1.mp e]at fl
    simp at fl;exact absurd fl.1 fu
   ·rw[<- h2,<- fl,QDb fu];rfl
theorem Tow.ne{l:Nat}{R hs:List Dt}(h:Tow lv tbl l R hs)(n:R≠[]):hs≠[]:=λz=>n (h.fst.1.mpr z)
theorem Tow.ne'{l:Nat}{R hs:List Dt}(h:Tow lv tbl l R hs)(n:hs≠[]):R≠[]:=λz=>n (h.fst.1.mp z)
theorem Tow.app:∀ {l:Nat} {A B a b:List Dt},Tow lv tbl l A a->Tow lv tbl l B b->(A=[]\/B=[]\/l<=lv (Zf B))->Tow lv tbl l (A++B) (a++b)
 | 0,_,_,_,_,ha,hb,_=>by rw[show _=_ from ha,show _=_ from hb];rfl
 | l+1,A,B,_,_,⟨ga,a1,a2⟩,⟨gb,b1,b2⟩,h=>by
  refine⟨ga++gb,a1.app b1 (h.imp_right λz=>z.imp_right λz=>by lia),?_⟩
  rw[Jvb]
  ·exact a2.app b2
  ·rcases h with h | h | h
   ·exact .inl (a1.fst.1.mp h)
   ·exact .inr (.inl (b1.fst.1.mp h))
   ·refine .inr (.inr ?_);rw[b1.fst.2];lia
theorem Tow.split:∀ {l:Nat} {R a b:List Dt},Tow lv tbl l R (a++b)->∃ A B,R=A++B/\Tow lv tbl l A a/\Tow lv tbl l B b/\(a=[]\/b=[]\/l<=lv (Zf B))
 | 0,R,a,b,h=>⟨a,b,(show _=R from h).symm,rfl,rfl,.inr (.inr (Us _))⟩
 | l+1,R,a,b,⟨gs,h1,h2⟩=>by
  obtain⟨P,Q,e,hP,hQ⟩:=h2.split;have c:=ZQ (lv:=lv) (l:Int) gs;rw[e]at c;have eg:gs=P.flatten++Q.flatten:=by rw[<- LQ];exact c.flat.symm
  rw[eg]at h1;obtain⟨A,B,eR,tA,tB,hc⟩:=h1.split;refine⟨A,B,eR,⟨_,tA,by rw[Jwb c.left];exact hP⟩,⟨_,tB,by rw[Jwb c.right];exact hQ⟩,?_⟩
  by_cases ea:a=[]
  ·exact .inl ea
  by_cases eb:b=[]
  ·exact .inr (.inl eb)
  refine .inr (.inr ?_)
  rw[<- tB.fst.2];cases hQ with
  | nil=>exact absurd rfl eb
  | @cons part af hs n m r =>
   have fu:=c.full part #[2]
   rw[QDb fu];have hp:0 < P.length:=by rw[<- hP.length];exact length_pos_iff.mpr ea
   obtain⟨x,s,rfl⟩:∃ x s,part=x::s:=by cases part with | nil=>exact absurd rfl fu | cons x s=>exact⟨x,s,rfl⟩
   have:=c.head P.length x s hp #[2]
   show l+1<=lv (Qv x)
   lia
theorem Tow.one{l:Nat}{R:List Dt}{h:Dt}(t:Tow lv tbl (l+1) R [h]):∃ n part,h=Zy (Zf R) n/\(n,Zm (l:Int) part)∈tbl/\Tow lv tbl l R part/\Zc lv l part=[part]:=by
 obtain⟨gs,a,b⟩:=t;have c:=ZQ (lv:=lv) (l:Int) gs;generalize e:Zc lv l gs=P at b c;cases b with
 | @cons part af hs n m r =>
  cases r;have fl:=c.flat;simp at fl;subst fl;exact⟨n,part,by rw[a.fst.2],m,a,e⟩
theorem Ju.tow{ar:List Dt}{top:Nat}{L:Nat->List Dt}(c:Ju lv tbl ar top L):∀ j,j<=top+1->Tow lv tbl j ar (L j):=by
 intro j
 induction j with
 | zero=>intro _;exact c.low
 | succ j ih=>intro h;exact⟨L j,ih #[0],c.up j #[0]⟩
inductive Xoc(lv:V->Nat)(tbl:List (Int×Dt))(l:Nat)(R a b:List Dt)(h:Dt):Prop
 | mk (A M B:List Dt) (n:Int) (part:List Dt) (e:R=A++(M++B)) (tA:Tow lv tbl (l+1) A a) (tM:Tow lv tbl (l+1) M [h]) (tB:Tow lv tbl (l+1) B b) (eh:h=Zy (Zf M) n) (hm:(n,Zm (l:Int) part)∈tbl) (tp:Tow lv tbl l M part) (hM:M≠[]) (c1:A=[]\/l+1<=lv (Zf M)) (c2:B=[]\/l+1<=lv (Zf B)):Xoc lv tbl l R a b h
theorem Tow.at_{l:Nat}{R a b:List Dt}{h:Dt}(t:Tow lv tbl (l+1) R (a++h::b)):Xoc lv tbl l R a b h:=by
 obtain⟨A,N,e,tA,tN,h1⟩:=t.split;obtain⟨M,B,e2,tM,tB,h2⟩:=(show Tow lv tbl (l+1) N ([h]++b) from tN).split
 obtain⟨n,part,eh,hm,tp,_⟩:=tM.one;have hM:M≠[]:=tM.ne' #[2]
 refine⟨A,M,B,n,part,by rw[e,e2],tA,tM,tB,eh,hm,tp,hM,?_,?_⟩
 ·rcases h1 with z | z | z
  ·exact .inl (tA.fst.1.mpr z)
  ·cases z
  ·refine .inr ?_
   rw[e2]at z;cases M with
   | nil=>exact absurd rfl hM
   | cons x r=>exact z
 ·rcases h2 with z | z | z
  ·cases z
  ·exact .inl (tB.fst.1.mpr z)
  ·exact .inr z
theorem Tow.mid{l:Nat}{A M B a m b:List Dt}(tA:Tow lv tbl (l+1) A a)(tM:Tow lv tbl (l+1) M m)(tB:Tow lv tbl (l+1) B b)(h1:A=[]\/M=[]\/l+1<=lv (Zf M))(h2:B=[]\/l+1<=lv (Zf B)):Tow lv tbl (l+1) (A++(M++B)) (a++(m++b)):=by
 refine tA.app (tM.app tB (.inr h2)) ?_
 rcases h1 with z | z | z
 ·exact .inl z
 ·subst z;exact .inr h2
 ·by_cases e:M=[]
  ·subst e;exact .inr h2
  ·refine .inr (.inr ?_)
   cases M with
   | nil=>exact absurd rfl e
   | cons x r=>exact z
theorem Tow.up{l:Nat}{R gs hs:List Dt}(t:Tow lv tbl l R gs)(h:QX tbl l (Zc lv l gs) hs):Tow lv tbl (l+1) R hs:=⟨gs,t,h⟩
theorem XIb{es:List Dt}{l:Int}:(Zc lv l es).length<=es.length:=by
 have c:=ZQ (lv:=lv) l es;have fu:=c.full;have fl:=c.flat;generalize Zc lv l es=P at fu fl;rw[<- fl];clear fl c
 induction P with
 | nil=>simp
 | cons p r ih =>
  have h1:=fu p #[2]
  have h2:0 < p.length:=length_pos_iff.mpr h1;have:=ih λq hq=>fu q (VO _ hq)
  rw[LR,Oh,UB];lia
theorem Tow.len{l:Nat}{R gs hs:List Dt}(t:Tow lv tbl l R gs)(h:QX tbl l (Zc lv l gs) hs):hs.length<=gs.length:=by
 rw[h.length];exact XIb
theorem Tow.len0:∀ {l:Nat} {R hs:List Dt},Tow lv tbl l R hs->hs.length<=R.length
 | 0,_,_,h=>by rw[show _=_ from h];exact Um _
 | l+1,_,_,⟨gs,a,b⟩=>VJ (a.len b) a.len0
end
section
variable(lt:V->V->Prop)
def J0(k:V)(row:Dt)(R R':List Dt):Prop:=∃ A C,R'=A++row::C/\(R=A++C\/∃ o,R=A++o::C/\Qv o=k)/\(∀ a∈A,lt (Qv a) k)/\∀ c∈C,lt k (Qv c)
def XN(k:V)(R R':List Dt):Prop:=∃ A o C,R=A++o::C/\R'=A++C/\Qv o=k
def UpR(R:List Dt):Prop:=R.Pairwise λa b=>lt (Qv a) (Qv b)
variable{lt}
theorem J0.mid{k:V}{row:Dt}{A M M' B:List Dt}(h:J0 lt k row M M')(hA:∀ a∈A,lt (Qv a) k)(hB:∀ b∈B,lt k (Qv b)):J0 lt k row (A++(M++B)) (A++(M'++B)):=by
 obtain⟨X,Y,e,e2,h1,h2⟩:=h;refine⟨A++X,Y++B,by rw[e];simp,?_,λa ha=>?_,λc hc=>?_⟩
 ·rcases e2 with e2 | ⟨o,e2,ho⟩
  ·left;rw[e2];simp
  ·right;exact⟨o,by rw[e2];simp,ho⟩
 ·exact(mem_append.mp ha).elim (hA a) (h1 a)
 ·exact(mem_append.mp hc).elim (h2 c) (hB c)
theorem XN.mid{k:V}{A M M' B:List Dt}(h:XN k M M'):XN k (A++(M++B)) (A++(M'++B)):=by
 obtain⟨X,o,Y,e,e2,h1⟩:=h;exact⟨A++X,o,Y++B,by rw[e];simp,by rw[e2];simp,h1⟩
theorem UpR.left{A B:List Dt}(h:UpR lt (A++B)):UpR lt A:=(pairwise_append.mp h).1
theorem UpR.right{A B:List Dt}(h:UpR lt (A++B)):UpR lt B:=(pairwise_append.mp h).2.1
theorem UpR.across{A B:List Dt}(h:UpR lt (A++B)){a b:Dt}(ha:a∈A)(hb:b∈B):lt (Qv a) (Qv b):=(pairwise_append.mp h).2.2 a ha b hb
theorem Jqa{R:List Dt}(h:R≠[]):∃ x∈R,Qv x=Zf R:=by
 cases R with
 | nil=>exact absurd rfl h
 | cons x r=>exact⟨x,by simp,rfl⟩
theorem UpR.ahead{A M:List Dt}{k:V}(h:UpR lt (A++M))(hM:M≠[])(tr:∀ {a b c},lt a b->lt b c->lt a c)(le:lt (Zf M) k\/Zf M=k):∀ a∈A,lt (Qv a) k:=λa ha=>by
 obtain⟨x,hx,e⟩:=Jqa hM;have:=h.across ha hx;rw[e]at this
 rcases le with le | le
 ·exact tr this le
 ·rw[<- le];exact this
theorem UpR.behind{M B:List Dt}{k:V}(h:UpR lt (M++B))(tr:∀ {a b c},lt a b->lt b c->lt a c)(le:B=[]\/lt k (Zf B)):∀ b∈B,lt k (Qv b):=λb hb=>by
 rcases le with le | le
 ·subst le;cases hb
 ·have u:=h.right
  cases B with
  | nil=>cases hb
  | cons x r =>
   rcases mem_cons.mp hb with e | e
   ·rw[e];exact le
   ·exact tr le ((pairwise_cons.mp u).1 b e)
theorem J0.fst{k:V}{row:Dt}{R R':List Dt}(h:J0 lt k row R R')(irr:∀ a,¬ lt a a)(tr:∀ {a b c},lt a b->lt b c->lt a c)(hk:Qv row=k)(hR:R≠[])(le:lt (Zf R) k\/Zf R=k):Zf R'=Zf R:=by
 obtain⟨A,C,e,e2,h1,h2⟩:=h;cases A with
 | cons x r =>
  rw[e]
  rcases e2 with e2 | ⟨o,e2,ho⟩
  ·rw[e2];rfl
  ·rw[e2];rfl
 | nil =>
  rw[e];show Qv row=_;rw[hk]
  rcases e2 with e2 | ⟨o,e2,ho⟩
  ·exfalso
   rw[LJ]at e2;subst e2;obtain⟨x,hx,ex⟩:=Jqa hR;have:=h2 x hx;rw[ex]at this
   rcases le with le | le
   ·exact irr _ (tr this le)
   ·rw[le]at this;exact irr _ this
  ·rw[e2];exact ho.symm
theorem XN.fst{k:V}{R R':List Dt}(h:XN k R R')(hf:Zf R≠k):Zf R'=Zf R/\R'≠[]:=by
 obtain⟨A,o,C,e,e2,h1⟩:=h;cases A with
 | cons x r=>rw[e,e2];exact⟨rfl,by simp⟩
 | nil=>exact absurd (by rw[e];exact h1) hf
theorem J0.up{k:V}{row:Dt}{R R':List Dt}(h:J0 lt k row R R')(u:UpR lt R)(hk:Qv row=k)(tr:∀ {a b c},lt a b->lt b c->lt a c):UpR lt R':=by
 obtain⟨A,C,e,e2,h1,h2⟩:=h;have vi:UpR lt A/\UpR lt C:=by
  rcases e2 with e2 | ⟨o,e2,ho⟩
  ·rw[e2]at u;exact⟨u.left,u.right⟩
  ·rw[e2]at u;exact⟨u.left,(pairwise_cons.mp u.right).2⟩
 rw[e];refine pairwise_append.mpr ⟨vi.1,pairwise_cons.mpr ⟨λc hc=>by rw[hk];exact h2 c hc,vi.2⟩,λa ha b hb=>?_⟩
 rcases mem_cons.mp hb with z | z
 ·rw[z,hk];exact h1 a ha
 ·exact tr (h1 a ha) (h2 b z)
theorem XN.up{k:V}{R R':List Dt}(h:XN k R R')(u:UpR lt R):UpR lt R':=by
 obtain⟨A,o,C,e,e2,h1⟩:=h;rw[e]at u;rw[e2];exact u.sublist (L4 (sublist_cons_self _ _) _)
theorem J0.mem{k:V}{row:Dt}{R R':List Dt}(h:J0 lt k row R R')(irr:∀ a,¬ lt a a)(x:Dt):x∈R'↔x=row\/(x∈R/\Qv x≠k):=by
 obtain⟨A,C,e,e2,h1,h2⟩:=h;have ne:∀ y,y∈A\/y∈C->Qv y≠k:=λy hy z=>by
  rcases hy with hy | hy
  ·have:=h1 y hy;rw[z]at this;exact irr _ this
  ·have:=h2 y hy;rw[z]at this;exact irr _ this
 rw[e]
 constructor
 ·intro h
  rcases mem_append.mp h with h | h
  ·refine .inr ⟨?_,ne x (.inl h)⟩
   rcases e2 with e2 | ⟨o,e2,_⟩ <;> rw[e2] <;> simp[h]
  ·rcases mem_cons.mp h with h | h
   ·exact .inl h
   ·refine .inr ⟨?_,ne x (.inr h)⟩
    rcases e2 with e2 | ⟨o,e2,_⟩ <;> rw[e2] <;> simp[h]
 ·rintro(h | ⟨h,hk⟩)
  ·simp[h]
  ·rcases e2 with e2 | ⟨o,e2,ho⟩
   ·rw[e2]at h
    rcases mem_append.mp h with h | h <;> simp[h]
   ·rw[e2]at h
    rcases mem_append.mp h with h | h
    ·simp[h]
    ·rcases mem_cons.mp h with h | h
     ·rw[h]at hk;exact absurd ho hk
     ·simp[h]
theorem XN.mem{k:V}{R R':List Dt}(h:XN k R R')(u:UpR lt R)(irr:∀ a,¬ lt a a)(x:Dt):x∈R'↔x∈R/\Qv x≠k:=by
 obtain⟨A,o,C,e,e2,h1⟩:=h;rw[e]at u ⊢;rw[e2];have hA:∀ a∈A,Qv a≠k:=λa ha z=>by
  have:=u.across ha (VN (a:=o) (l:=C));rw[z,h1]at this;exact irr _ this
 have hC:∀ c∈C,Qv c≠k:=λc hc z=>by
  have:=(pairwise_cons.mp u.right).1 c hc;rw[z,h1]at this;exact irr _ this
 constructor
 ·intro h
  rcases mem_append.mp h with h | h
  ·exact⟨by simp[h],hA x h⟩
  ·exact⟨by simp[h],hC x h⟩
 ·rintro⟨h,hk⟩
  rcases mem_append.mp h with h | h
  ·simp[h]
  ·rcases mem_cons.mp h with h | h
   ·rw[h]at hk;exact absurd h1 hk
   ·simp[h]
theorem UpR.ext(irr:∀ a,¬ lt a a)(tr:∀ {a b c},lt a b->lt b c->lt a c):∀ {R S:List Dt},UpR lt R->UpR lt S->(∀ x,x∈R↔x∈S)->R=S
 | [],[],_,_,_=>rfl
 | [],y::s,_,_,h=>by have:=(h y).mpr #[2];cases this
 | x::r,[],_,_,h=>by have:=(h x).mp #[2];cases this
 | x::r,y::s,hR,hS,h=>by
  have uR:=pairwise_cons.mp hR;have uS:=pairwise_cons.mp hS;have yZ:x=y:=by
   rcases mem_cons.mp ((h x).mp #[2]) with e | e
   ·exact e
   rcases mem_cons.mp ((h y).mpr #[2]) with e' | e'
   ·exact e'.symm
   exact absurd (tr (uR.1 y e') (uS.1 x e)) (irr _)
  subst yZ
  congr 1
  refine UpR.ext irr tr uR.2 uS.2 λz=>?_
  constructor
  ·intro hz
   rcases mem_cons.mp ((h z).mp (VO _ hz)) with e | e
   ·subst e;exact absurd (uR.1 _ hz) (irr _)
   ·exact e
  ·intro hz
   rcases mem_cons.mp ((h z).mpr (VO _ hz)) with e | e
   ·subst e;exact absurd (uS.1 _ hz) (irr _)
   ·exact e
end
section
variable{lv:V->Nat}{tbl:List (Int×Dt)}
structure Yna(lv:V->Nat)(tbl:List (Int×Dt))(R:List Dt)(top:Nat)(n:Int):Prop where
 one:∃ k,Tow lv tbl (top+1) R [Zy k n]
 two:∀ j hs,1<=j->j<=top->Tow lv tbl j R hs->1 < hs.length
theorem Ju.toRoot{ar:List Dt}{top:Nat}{L:Nat->List Dt}{k:V}{n:Int}(f:Fn tbl)(c:Ju lv tbl ar top L)(e:L (top+1)=[Zy k n]):Yna lv tbl ar top n :=
 ⟨⟨k,by have:=c.tow (top+1) (Um _);rw[e]at this;exact this⟩,λj hs h1 h2 t=>by rw[t.det f (c.tow j #[0])];exact c.two j h1 h2⟩
theorem Tow.levels:∀ {l:Nat} {R hs:List Dt},Tow lv tbl l R hs->∃ L:Nat->List Dt,L 0=R/\L l=hs/\∀ j,j < l->QX tbl j (Zc lv j (L j)) (L (j+1))
 | 0,R,hs,h=>⟨λ_=>R,rfl,(show hs=R from h).symm,λj hj=>by lia⟩
 | l+1,R,hs,⟨gs,a,b⟩=>by
  obtain⟨L,h0,h1,h2⟩:=a.levels;refine⟨λj=>if j=l+1 then hs else L j,(if_neg #[0]).trans h0,if_pos rfl,λj hj=>?_⟩
  show QX tbl j (Zc lv j (if j=l+1 then hs else L j)) (if j+1=l+1 then hs else L (j+1))
  rw[if_neg #[0]]
  by_cases e:j=l
  ·subst e;rw[if_pos rfl,h1];exact b
  ·rw[if_neg #[0]];exact h2 j #[0]
theorem XO{l:Nat}{R:List Dt}{L:Nat->List Dt}(h0:L 0=R)(h:∀ j,j < l->QX tbl j (Zc lv j (L j)) (L (j+1))):∀ j,j<=l->Tow lv tbl j R (L j):=by
 intro j
 induction j with
 | zero=>intro _;exact h0
 | succ j ih=>intro hj;exact⟨L j,ih #[0],h j #[0]⟩
theorem Yna.chain{R:List Dt}{top:Nat}{n:Int}(r:Yna lv tbl R top n):∃ L k,Ju lv tbl R top L/\L (top+1)=[Zy k n]:=by
 obtain⟨k,t⟩:=r.one;obtain⟨L,h0,h1,h2⟩:=t.levels;exact⟨L,k,⟨h0,λj hj=>h2 j #[0],by rw[h1];rfl,λj dG cN=>r.two j _ dG cN (XO h0 h2 j #[0])⟩,h1⟩
theorem Yna.page{R:List Dt}{top:Nat}{n:Int}(r:Yna lv tbl R top n):∃ part,(n,Zm (top:Int) part)∈tbl/\Tow lv tbl top R part/\Zc lv top part=[part]/\R≠[]:=by
 obtain⟨k,t⟩:=r.one;obtain⟨n',part,e,hm,tp,hc⟩:=t.one;obtain⟨_,rfl⟩:=Joa e;exact⟨part,hm,tp,hc,t.ne' #[2]⟩
end
section
variable{lv:V->Nat}{tbl:List (Int×Dt)}
theorem Jxb{l:Int}{e:Dt}:∀ (r:List Dt),(Zc lv l (e::r)).map Zf=Qv e::(r.map Qv).filter λk=>decide (l < lv k):=by
 refine QKa rfl λr x ih=>?_
 rw[show e::(r++[x])=(e::r)++[x] from rfl,YH]
 have c:=ZQ (lv:=lv) l (e::r);have ax:=Zka (lv:=lv) (l:=l) (es:=e::r) #[2]
 generalize Zc lv l (e::r)=P at ih c ax;obtain⟨ini,last,rfl⟩:=Z2 ax;unfold step
 by_cases h:l < lv (Qv x)
 ·rw[if_pos (.inr h),LM,ih,LM,Ls]
  simp[h,Zf]
 ·rw[if_neg (λz=>z.elim (λz=>by simp at z) h),L3,getLast?_concat,Option.getD_some]
  rw[LM]at ih ⊢;have fu:=c.full last #[2]
  have e1:Zf (last++[x])=Zf last:=by cases last with | nil=>exact absurd rfl fu | cons y s=>rfl
  rw[UH,e1,Oy];rw[UH,Oy]at ih;rw[ih,LM,Ls];simp[h]
theorem Tow.keys:∀ {l:Nat} {e:Dt} {r hs:List Dt},Tow lv tbl (l+1) (e::r) hs->hs.map Qv=Qv e::(r.map Qv).filter λk=>decide (l < lv k)
 | 0,e,r,hs,⟨gs,a,b⟩=>by
  rw[show gs=_ from a]at b
  rw[b.keys,Jxb]
  congr 1
  exact filter_congr λk _=>by simp
 | l+1,e,r,hs,⟨gs,a,b⟩=>by
  have ih:=Tow.keys a;rw[b.keys];cases gs with
  | nil=>cases ih
  | cons g gr =>
   rw[UH]at ih;injection ih with i1 i2
   rw[Jxb,i1,i2,filter_filter]
   congr 1
   refine filter_congr λk _=>?_
   rw[<- Bool.decide_and];exact decide_eq_decide.mpr #[0]
theorem Tow.many{l:Nat}{R hs:List Dt}(h:Tow lv tbl (l+1) R hs)(hR:R≠[]):hs.length=1+(((R.map Qv).tail).filter λk=>decide (l < lv k)).length:=by
 cases R with
 | nil=>exact absurd rfl hR
 | cons e r =>
  have:=congrArg List.length h.keys;rw[UJ,UB]at this;rw[this,Nat.add_comm];rfl
theorem Tow.more{l:Nat}{R R' hs aX:List Dt}{aE:List (Int×Dt)}(h:Tow lv tbl (l+1) R hs)(h':Tow lv aE (l+1) R' aX)(hR:R≠[])(s:(R.map Qv).Sublist (R'.map Qv)):hs.length<=aX.length:=by
 have iD:R'≠[]:=λz=>by
  rw[z]at s;have:=sublist_nil.mp s;exact hR (map_eq_nil_iff.mp this)
 rw[h.many hR,h'.many iD];have:=((s.tail).filter λk=>decide (l < lv k)).length_le
 lia
variable{lt:V->V->Prop}
theorem J0.sub{k:V}{row:Dt}{R R':List Dt}(h:J0 lt k row R R')(hk:Qv row=k):(R.map Qv).Sublist (R'.map Qv):=by
 obtain⟨A,C,e,e2,h1,h2⟩:=h;rw[e]
 rcases e2 with e2 | ⟨o,e2,ho⟩
 ·rw[e2,LM,LM]
  exact L4 (by rw[UH];exact sublist_cons_self _ _) _
 ·rw[e2,LM,LM,UH,UH,ho,hk]
  exact L5 _
theorem XN.sub{k:V}{R R':List Dt}(h:XN k R R'):(R'.map Qv).Sublist (R.map Qv):=by
 obtain⟨A,o,C,e,e2,h1⟩:=h;rw[e,e2,LM,LM,UH];exact L4 (sublist_cons_self _ _) _
theorem Tow.single{l:Nat}{R R' hs aX:List Dt}{aE:List (Int×Dt)}(h:Tow lv tbl (l+1) R hs)(h':Tow lv aE (l+1) R' aX)(h1:hs.length=1)(iD:R'≠[])(s:(R'.map Qv).Sublist (R.map Qv)):∃ k n,aX=[Zy k n]:=by
 have:=h'.more h iD s;have hn:=h'.ne iD;cases aX with
 | nil=>exact absurd rfl hn
 | cons x r =>
  cases r with
  | nil =>
   obtain⟨n,part,e,_⟩:=h'.one;exact⟨_,n,by rw[e]⟩
  | cons y s=>simp at this;lia
theorem Tow.down{i j:Nat}{R hs gs:List Dt}(f:Fn tbl)(hj:Tow lv tbl j R hs)(hi:Tow lv tbl i R gs)(h:i<=j):hs.length<=gs.length:=by
 obtain⟨L,h0,h1,h2⟩:=hj.levels;have key:∀ d,d<=j - i->(L (i+d)).length<=(L i).length:=by
  intro d
  induction d with
  | zero=>intro _;exact Um _
  | succ d ih =>
   intro hd;have u:=h2 (i+d) #[0]
   have:=ih #[0]
   have c:=XIb (lv:=lv) (es:=L (i+d)) (l:=((i+d:Nat):Int));rw[<- u.length]at c;rw[<- IS];lia
 have e:=(XO h0 h2 i h).det f hi;have k:=key (j - i) (Um _);rw[show i+(j - i)=j by lia,h1,e]at k
 exact k
theorem Yna.of_two{R part:List Dt}{j:Nat}{k:V}{n:Int}(f:Fn tbl)(t:Tow lv tbl (j+1) R [Zy k n])(tp:Tow lv tbl j R part)(h:j=0\/1 < part.length):Yna lv tbl R j n :=
 ⟨⟨k,t⟩,λi hs h1 h2 ti=>by
  rcases h with h | h
  ·lia
  ·have:=tp.down f ti h2;lia⟩
end
section
variable(lt:V->V->Prop)(tbl:List (Int×Dt))(k:V)
inductive Way:Int->List Int->Prop
 | leaf {n:Int} {part:List Dt} (h:(n,Zm 0 part)∈tbl):Way n [n]
 | stop {n:Int} {l:Nat} {part:List Dt} (h:(n,Zm ((l+1:Nat):Int) part)∈tbl) (a:∀ x∈part,lt k (Qv x)):Way n [n]
 | go {n n':Int} {l:Nat} {a b:List Dt} {k':V} {w:List Int} (h:(n,Zm ((l+1:Nat):Int) (a++Zy k' n'::b))∈tbl) (h1:¬ lt k k') (h2:∀ x∈b,lt k (Qv x)) (r:Way n' w):Way n (n::w)
end
section
variable{lt:V->V->Prop}{tbl aE:List (Int×Dt)}{k:V}
end
section
variable{lv:V->Nat}{tbl:List (Int×Dt)}
end
end Tr
end
section
namespace L2
open PySem PySem.Spec PyProof.Rows
section
variable{X:Cx}
end
end L2
end
section
namespace L2
open PySem PySem.Spec PyProof.Rows PySem.W
section
variable{prog:Vg}{w:Vb}{A:VG}{E:YQ_}{s:VH}{κ:Ii}{ks vs:List Va}{r:Nat->Nat}
end
section
variable{X:Cx}{aa:YP_}{σ:St}{H:Hp}{s:VH}{A:VG}{E:YQ_}
end
theorem TD.det{H:Hp}:∀ (n:Nat) {m:Nat} {d e:Dt} {y:V},TD H n d y->TD H m e y->d=e:=by
 have fl:∀ {x:V},hV x=true->∀ a,x≠.ref a:=λ{x} h a z=>by rw[z]at h;cases h
 intro n
 induction n with
 | zero =>
  intro m d e y h1 h2;cases d with
  | v x =>
   obtain⟨f1,rfl⟩:=h1.flat;cases e with
   | v x'=>obtain⟨_,e2⟩:=h2.flat;rw[e2]
   | t ds=>obtain⟨_,a,_,_,e2,_⟩:=h2.tup;exact absurd e2 (fl f1 a)
   | l ds=>cases m <;> exact h2.elim
  | t ds=>obtain⟨_,_,_,em,_⟩:=h1.tup;cases em
  | l ds=>exact h1.elim
 | succ n ih =>
  intro m d e y h1 h2;cases d with
  | v x =>
   obtain⟨f1,rfl⟩:=h1.flat;cases e with
   | v x'=>obtain⟨_,e2⟩:=h2.flat;rw[e2]
   | t ds=>obtain⟨_,a,_,_,e2,_⟩:=h2.tup;exact absurd e2 (fl f1 a)
   | l ds=>cases m <;> exact h2.elim
  | t ds =>
   obtain⟨n',a,xs,en,rfl,ha,p1⟩:=h1.tup;obtain rfl:n'=n:=by lia
   cases e with
   | v x'=>obtain⟨f2,e2⟩:=h2.flat;exact absurd e2.symm (fl f2 a)
   | t es =>
    obtain⟨m',a',cn,em,e2,jm,p2⟩:=h2.tup;cases e2;rw[ha]at jm;cases jm
    congr 1
    clear ha h1 h2
    induction p1 generalizing es with
    | nil=>cases p2;rfl
    | cons r t ih2 =>
     cases p2 with
     | cons r' t'=>rw[ih r r',ih2 _ t']
   | l ds=>cases m <;> exact h2.elim
  | l ds=>exact h1.elim
end L2
end
section
namespace L2
open PySem PySem.Spec PyProof.Rows
section
variable{X:Cx}
end
end L2
end
section
open L2 PySem
namespace Tr
section
variable{lv:V->Nat}{tbl:List (Int×Dt)}
section
variable{lt:V->V->Prop}
end
end
end Tr
end
section
namespace L2
open PySem PySem.W PyProof.Rows
section
variable{X:Cx}{aa:YP_}{σ:St}{H:Hp}{s:VH}
end
end L2
end
section
open L2 PySem
namespace Tr
def Pgs(tbl:List (Int×Dt))(l:Int):List Int->List Dt->Prop
 | [],es=>es=[]
 | n::ns,es=>∃ part rest,((n,Zm l part)∈tbl/\part≠[])/\Pgs tbl l ns rest/\es=part++rest
def Lev(tbl:List (Int×Dt)):Nat->List Int->List Dt->Prop
 | 0,ns,R=>Pgs tbl 0 ns R
 | l+1,ns,R=>∃ es,Pgs tbl ((l+1:Nat):Int) ns es/\(∀ d∈es,∃ k n,d=Zy k n)/\Lev tbl l (es.map Zr) R
section
variable{lv:V->Nat}{tbl:List (Int×Dt)}
theorem Pgs.app{l:Int}:∀ {a b:List Int} {A B:List Dt},Pgs tbl l a A->Pgs tbl l b B->Pgs tbl l (a++b) (A++B)
 | [],b,A,B,h,h'=>by rw[show A=[] from h];exact h'
 | n::a,b,A,B,⟨part,rest,m,h,e⟩,h'=>⟨part,rest++B,m,h.app h',by rw[e,Iv]⟩
theorem Pgs.split{l:Int}:∀ {a b:List Int} {R:List Dt},Pgs tbl l (a++b) R->∃ A B,R=A++B/\Pgs tbl l a A/\Pgs tbl l b B
 | [],b,R,h=>⟨[],R,rfl,rfl,h⟩
 | n::a,b,R,⟨part,rest,m,h,e⟩=>by
  obtain⟨A,B,e2,h1,h2⟩:=Pgs.split h;exact⟨part++A,B,by rw[e,e2,Iv],⟨part,A,m,h1,rfl⟩,h2⟩
theorem Pgs.det(f:Fn tbl){l:Int}:∀ {a:List Int} {A B:List Dt},Pgs tbl l a A->Pgs tbl l a B->A=B
 | [],A,B,h,h'=>by rw[show A=[] from h,show B=[] from h']
 | n::a,A,B,⟨part,rest,m,h,e⟩,⟨az,rest',m',h',e'⟩=>by
  rw[e,e',(Jo (f.num _ _ _ m.1 m'.1)).2,Pgs.det f h h']
theorem Lev.nil:∀ l,Lev tbl l [] []
 | 0=>rfl
 | l+1=>⟨[],rfl,(λ_ h=>nomatch h),Lev.nil l⟩
theorem Lev.app:∀ {l:Nat} {a b:List Int} {A B:List Dt},Lev tbl l a A->Lev tbl l b B->Lev tbl l (a++b) (A++B)
 | 0,a,b,A,B,h,h'=>Pgs.app h h'
 | l+1,a,b,A,B,⟨es,p,o,h⟩,⟨aj,p',o',h'⟩=>⟨es++aj,p.app p',(λd hd=>(mem_append.mp hd).elim (o d) (o' d)),by rw[LM];exact h.app h'⟩
theorem Lev.split:∀ {l:Nat} {a b:List Int} {R:List Dt},Lev tbl l (a++b) R->∃ A B,R=A++B/\Lev tbl l a A/\Lev tbl l b B
 | 0,a,b,R,h=>Pgs.split h
 | l+1,a,b,R,⟨es,p,o,h⟩=>by
  obtain⟨x,y,e,p1,p2⟩:=p.split;rw[e]at o;rw[e,LM]at h;obtain⟨A,B,e2,h1,h2⟩:=h.split;exact⟨A,B,e2,⟨x,p1,(λd hd=>o d (VS _ hd)),h1⟩,⟨y,p2,(λd hd=>o d (Ur _ hd)),h2⟩⟩
theorem Lev.det(f:Fn tbl):∀ {l:Nat} {a:List Int} {A B:List Dt},Lev tbl l a A->Lev tbl l a B->A=B
 | 0,a,A,B,h,h'=>Pgs.det f h h'
 | l+1,a,A,B,⟨es,p,_,h⟩,⟨aj,p',_,h'⟩=>by
  have:=p.det f p';subst this;exact h.det f h'
theorem Lev.mem(f:Fn tbl){l:Nat}{ns:List Int}{R S:List Dt}(h:Lev tbl l ns R){n:Int}(hn:n∈ns)(hS:Lev tbl l [n] S):∃ A B,R=A++(S++B):=by
 obtain⟨a,b,e⟩:=L6 hn;rw[e,show a++n::b=a++([n]++b) from rfl]at h
 obtain⟨A,R2,e1,_,h2⟩:=h.split;obtain⟨S',B,e2,h3,_⟩:=h2.split;exact⟨A,B,by rw[e1,e2,h3.det f hS]⟩
theorem Lev.filter{l:Nat}{p:Int->Bool}:∀ {ns:List Int} {R:List Dt},Lev tbl l ns R->∃ R',Lev tbl l (ns.filter p) R'/\R'.Sublist R /\
 (∀ x∈R,x∈R'\/∃ n∈ns,p n=false/\∃ S,Lev tbl l [n] S/\x∈S)/\∀ x∈R',∃ n∈ns,p n=true/\∃ S,Lev tbl l [n] S/\x∈S:=by
 intro ns
 induction ns with
 | nil=>intro R h;exact⟨R,h,L5 _,λx hx=>.inl hx,λx hx=>by
  have:R=[]:=by
   clear hx;cases l with
   | zero=>exact h
   | succ l =>
    obtain⟨es,p,_,h⟩:=h;rw[show es=[] from p]at h
    have:∀ l,Lev tbl l [] R->R=[]:=by
     intro l
     induction l with
     | zero=>exact λh=>h
     | succ l ih=>rintro⟨es,p,_,h⟩;rw[show es=[] from p]at h;exact ih h
    exact this l h
  rw[this]at hx;cases hx⟩
 | cons n ns ih =>
  intro R h;obtain⟨S,T,e,hS,hT⟩:=Lev.split (a:=[n]) h;obtain⟨T',h1,h2,h3,h4⟩:=ih hT
  by_cases hp:p n=true
  ·rw[filter_cons_of_pos hp]
   refine⟨S++T',hS.app h1,by rw[e];exact List.Sublist.append (L5 _) h2,λx hx=>?_,λx hx=>?_⟩
   ·rw[e]at hx
    rcases mem_append.mp hx with hx | hx
    ·exact .inl (VS _ hx)
    ·rcases h3 x hx with z | ⟨m,hm,z⟩
     ·exact .inl (Ur _ z)
     ·exact .inr ⟨m,VO _ hm,z⟩
   ·rcases mem_append.mp hx with hx | hx
    ·exact⟨n,VN,hp,S,hS,hx⟩
    ·obtain⟨m,hm,z⟩:=h4 x hx;exact⟨m,VO _ hm,z⟩
  ·rw[filter_cons_of_neg hp]
   refine⟨T',h1,by rw[e];exact h2.trans (sublist_append_right _ _),λx hx=>?_,λx hx=>?_⟩
   ·rw[e]at hx
    rcases mem_append.mp hx with hx | hx
    ·exact .inr ⟨n,VN,by simpa using hp,S,hS,hx⟩
    ·rcases h3 x hx with z | ⟨m,hm,z⟩
     ·exact .inl z
     ·exact .inr ⟨m,VO _ hm,z⟩
   ·obtain⟨m,hm,z⟩:=h4 x hx;exact⟨m,VO _ hm,z⟩
theorem Lev.once(f:Fn tbl){l:Nat}{ns:List Int}{R S T:List Dt}(h:Lev tbl l ns R)(nd:R.Nodup){n m:Int}(hn:n∈ns)(hm:m∈ns)(hS:Lev tbl l [n] S)(hT:Lev tbl l [m] T){x:Dt}(hx:x∈S)(hy:x∈T):n=m:=by
 apply L7
 intro ne;obtain⟨a,b,e⟩:=L6 hn;rw[e,show a++n::b=a++([n]++b) from rfl]at h
 obtain⟨A,R2,e1,hA,h2⟩:=h.split;obtain⟨S',B,e2,h3,hB⟩:=h2.split;have:=h3.det f hS;subst this;rw[e1,e2]at nd;obtain⟨_,y0,d1⟩:=nodup_append.mp nd;obtain⟨_,_,d2⟩:=nodup_append.mp y0;rw[e]at hm
 rcases mem_append.mp hm with z | z
 ·obtain⟨A1,A2,ea⟩:=hA.mem f z hT
  exact d1 x (by rw[ea];simp[hy]) x (VS _ hx) rfl
 ·rcases mem_cons.mp z with z | z
  ·exact ne z.symm
  ·obtain⟨A1,A2,ea⟩:=hB.mem f z hT
   exact d2 x hx x (by rw[ea];simp[hy]) rfl
structure Rst(A R B S:List Dt):Prop where
 a:R.Sublist A
 b:S.Sublist B
 ab:∀ x∈A,x∉R->x∈B/\x∉S
 ba:∀ x∈B,x∉S->x∈A/\x∉R
theorem Rst.symm{A R B S:List Dt}(h:Rst A R B S):Rst B S A R:=⟨h.b,h.a,h.ba,h.ab⟩
theorem Rst.start:Rst [] [] [] []:=⟨L5 _,L5 _,(λ_ h=>nomatch h),(λ_ h=>nomatch h)⟩
theorem Rst.join{A B S:List Dt}(h:Rst [] [] B S):Rst A A B S:=⟨L5 _,h.b,λx h1 h2=>(h2 h1).elim,λx h1 h2=>nomatch (h.ba x h1 h2).1⟩
theorem Rst.step(f:Fn tbl){l:Nat}{ns ms:List Int}{A R B S:List Dt}(h:Rst A R B S)(hR:Lev tbl l ns R)(hS:Lev tbl l ms S)(nA:A.Nodup)(nB:B.Nodup) :
 ∃ R' S',Lev tbl l (ns.filter λn=>!decide (n∈ms)) R'/\Lev tbl l (ms.filter λn=>!decide (n∈ns)) S'/\Rst A R' B S':=by
 obtain⟨R',r1,r2,r3,r4⟩:=hR.filter (p:=λn=>!decide (n∈ms))
 obtain⟨S',s1,s2,s3,s4⟩:=hS.filter (p:=λn=>!decide (n∈ns))
 have kF:∀ {ns ms:List Int} {A R B S R' S':List Dt},Rst A R B S->Lev tbl l ms S->S.Nodup->S'.Sublist S->(∀ x∈R,x∈R'\/∃ n∈ns,(!decide (n∈ms))=false/\∃ T,Lev tbl l [n] T/\x∈T)->(∀ x∈S',∃ n∈ms,(!decide (n∈ns))=true/\∃ T,Lev tbl l [n] T/\x∈T)->∀ x∈A,x∉R'->x∈B/\x∉S':=by
  intro ns ms A R B S R' S' h hS nS sub r3 s4 x hx hn
  by_cases hr:x∈R
  ·rcases r3 x hr with z | ⟨n,n1,n2,T,hT,xT⟩
   ·exact(hn z).elim
   ·have nm:n∈ms:=by simpa using n2
    obtain⟨P,Q,e⟩:=hS.mem f nm hT;refine⟨h.b.subset (by rw[e];simp[xT]),λz=>?_⟩
    obtain⟨m,m1,m2,U,hU,xU⟩:=s4 x z;have:=hS.once f nS nm m1 hT hU xT xU;subst this;simp at m2;exact m2 n1
  ·have:=h.ab x hx hr
   exact⟨this.1,λz=>this.2 (sub.subset z)⟩
 have g1:=kF h hS (L8 h.b nB) s2 r3 s4;have g2:=kF h.symm hR (L8 h.a nA) r2 s3 r4;exact⟨R',S',r1,s1,⟨r2.trans h.a,s2.trans h.b,g1,g2⟩⟩
theorem QX.pgs{l:Int}{af:List (List Dt)}{hs:List Dt}(h:QX tbl l af hs)(full:∀ p∈af,p≠[]):Pgs tbl l (hs.map Zr) af.flatten:=by
 induction h with
 | nil=>rfl
 | @cons part af hs n h r ih=>exact⟨part,af.flatten,⟨h,full part VN⟩,ih λp hp=>full p (VO _ hp),by simp⟩
theorem Tow.lev:∀ {l:Nat} {R hs:List Dt},Tow lv tbl (l+1) R hs->Lev tbl l (hs.map Zr) R
 | 0,R,hs,⟨gs,a,b⟩=>by
  have:=b.pgs (ZQ (lv:=lv) _ gs).full;rw[(ZQ (lv:=lv) _ gs).flat,show gs=R from a]at this
  exact this
 | l+1,R,hs,⟨gs,a,b⟩=>by
  have:=b.pgs (ZQ (lv:=lv) _ gs).full;rw[(ZQ (lv:=lv) _ gs).flat]at this;obtain⟨yY,a',b'⟩:=id a;exact⟨gs,this,(λd hd=>let ⟨part,_,n,e,_⟩:=b'.mem hd;⟨_,n,e⟩),a.lev⟩
theorem Pgs.len{l:Int}:∀ {ns:List Int} {es:List Dt},Pgs tbl l ns es->ns.length<=es.length
 | [],_,_=>Us _
 | n::ns,es,⟨part,rest,⟨_,hp⟩,h,e⟩=>by
  have:=h.len;have:=length_pos_iff.mpr hp;rw[e,Oh,UB];lia
theorem Lev.len:∀ {l:Nat} {ns:List Int} {R:List Dt},Lev tbl l ns R->ns.length<=R.length
 | 0,_,_,h=>Pgs.len h
 | l+1,_,_,⟨es,p,_,h⟩=>by
  have:=p.len;have:=h.len;rw[UJ]at this;lia
def Jpc(tbl:List (Int×Dt)):Nat->List Dt->List Dt->Prop
 | 0,hs,R=>hs=R
 | l+1,hs,R=>(∀ d∈hs,∃ k n,d=Zy k n)/\Lev tbl l (hs.map Zr) R
theorem Lev.down{l:Nat}{ns:List Int}{R:List Dt}(h:Lev tbl l ns R):∃ es,Pgs tbl (l:Int) ns es/\Jpc tbl l es R:=by
 cases l with
 | zero=>exact⟨R,h,rfl⟩
 | succ l=>obtain⟨es,p,o,h⟩:=h;exact⟨es,p,o,h⟩
theorem Jpc.len{l:Nat}{hs R:List Dt}(h:Jpc tbl l hs R):hs.length<=R.length:=by
 cases l with
 | zero=>rw[show hs=R from h];exact Um _
 | succ l=>have:=h.2.len;rw[UJ]at this;exact this
def Q4(o:Option (Int×Nat×V))(l:Nat):List Dt:=o.elim [] λx=>if x.2.1=l then [Zy x.2.2 x.1] else []
def Jyb(o:Option (Int×Nat×V))(A:List Dt)(l:Nat):List Dt:=o.elim [] λx=>if l<=x.2.1 then A else []
theorem QEb(o:Option (Int×Nat×V))(l:Nat):∀ d∈Q4 o l,∃ k n,d=Zy k n:=by
 intro d hd;cases o with
 | none=>cases hd
 | some x =>
  have hd:d∈if x.2.1=l then [Zy x.2.2 x.1] else []:=hd
  by_cases e:x.2.1=l
  ·rw[if_pos e]at hd;exact⟨_,_,mem_singleton.mp hd⟩
  ·rw[if_neg e]at hd;cases hd
theorem Xka(o:Option (Int×Nat×V))(l:Nat):(Q4 o l).length<=1:=by
 cases o with
 | none=>exact Us _
 | some x =>
  show(if x.2.1=l then [Zy x.2.2 x.1] else []).length<=1
  by_cases e:x.2.1=l
  ·rw[if_pos e];exact Um _
  ·rw[if_neg e];exact Us _
theorem Xt(o:Option (Int×Nat×V))(A:List Dt)(l:Nat):(Jyb o A l).Sublist A:=by
 cases o with
 | none=>exact nil_sublist _
 | some x =>
  show(if l<=x.2.1 then A else []).Sublist A
  by_cases e:l<=x.2.1
  ·rw[if_pos e];exact L5 _
  ·rw[if_neg e];exact nil_sublist _
theorem Rst.enter{o:Option (Int×Nat×V)}{A R B S:List Dt}{l:Nat}{ns:List Int}(h:Rst (Jyb o A (l+1)) R B S)(hR:Lev tbl l ns R)(hA:∀ x,o=Vo x->Lev tbl x.2.1 [x.1] A):∃ R',Lev tbl l (ns++(Q4 o l).map Zr) R'/\Rst (Jyb o A l) R' B S:=by
 cases o with
 | none=>exact⟨R,by rw[show Q4 Vp l=[] from rfl,Oy,UV];exact hR,h⟩
 | some x =>
  have h:Rst (if l+1<=x.2.1 then A else []) R B S:=h
  by_cases e:x.2.1=l
  ·have hx:=hA x rfl
   rw[e]at hx;rw[if_neg #[0]]at h
   have e0:R=[]:=sublist_nil.mp h.a;subst e0;refine⟨A,?_,?_⟩
   ·rw[show Q4 (Vo x) l=[Zy x.2.2 x.1] from if_pos e]
    exact hR.app hx
   ·rw[show Jyb (Vo x) A l=A from if_pos #[0]]
    exact h.join
  ·refine⟨R,?_,?_⟩
   ·rw[show Q4 (Vo x) l=[] from if_neg e,Oy,UV]
    exact hR
   ·show Rst (if l<=x.2.1 then A else []) R B S
    by_cases e2:l<=x.2.1
    ·rw[if_pos e2];rw[if_pos #[0]]at h;exact h
    ·rw[if_neg e2];rw[if_neg #[0]]at h;exact h
end
end Tr
end
section
open PySem
namespace L2
section
variable{X:Cx}{aa:YP_}{σ:St}{H:Hp}{s:VH}{a b:Vh}{ae more:List (Key×V)}{A:VG}{E:YQ_}
end
section
variable{X:Cx}{o e:Expr}{ao ay:Pos}{td ty:TE}
end
end L2
end
section
namespace L2
open PySem PySem.Spec PyProof.Rows
section
variable{X:Cx}{m:Str}{k:Nat}{ta:TE}{t:TA}{e o:Expr}{es:List Expr}{pos ao:Pos}{pl:Sem Bool}{f:Vh}{fd:UU}{ps:List Str}{sp:Sp}
theorem YJc{aa:YP_}{σ:St}{H:Hp}{s:VH}{Q:VK}{us:List Va}{vs:List V}{W:YQ_}(F:QE X.prog X.w X.K X.mg X.base (CX1 X.prog X.w) k f fd ps sp)(hr:Zi k X.A)(hb:Z4 X.K fd ps [])
 (I:Inv X aa σ H s) (r:QG vs us) (h:sp vs H Q E0):VV (VW X.prog X.w) X.A (Ut (.ref f) us) (EP X aa σ Q) W s:=by
 have hl:(us++[]).length=ps.length:=by rw[UV,<- r.length];exact F.len _ _ _ _ h
 have b:=hb s us I.kIn hl;rw[UV]at b;refine UW (UX (F.run X.A X.stack s H ⟨us,[]⟩ us vs Q E0 hr I.env0 b r h) λres s' hq=>?_)
 cases res with
 | error ev =>
  obtain⟨ea,cls,dx,ch,H',rfl,os,bare,un,hok,y,n1,n2,hE⟩:=hq;exact hE.elim
 | ok fl =>
  cases fl with
  | ret u=>exact I.after hq
  | next=>exact V8 hq
  | brk=>exact V8 hq
  | cont=>exact V8 hq
def Jqc(P:Vg)(w:Vb)(K:VD)(mg:Str->Option Va)(base:Vq)(k:Nat)(m:Str)(ta:TE):TE:=λσ H Q=>JOa P w K mg base k m ta Jba σ H Q E0
theorem QFb{P:Vg}{w:Vb}{K:VD}{mg:Str->Option Va}{base:Vq}(eP:X.prog=P)(ew:X.w=w)(eK:X.K=K)(em:X.mg=mg)(eb:X.base=base)(he:PE X o ta)(hr:Zi k X.A)
 (ht:VX (.Call (.Attribute o m ao) [] [] pos) X.env=(do
  let ov <- VX o X.env
  V5 ao.atName
  let (f,first) <- V6 [ov] (UA ov m pl)
  LH pos f first (VY pos (VZ [] X.env)) (U3 pos (U4 [] X.env))):=by rfl) :
 PE X (.Call (.Attribute o m ao) [] [] pos) (Jqc P w K mg base k m ta):=by
 subst eP ew eK em eb;intro aa s σ H Q I h;refine LI (pl:=pl) (thn (he aa s σ H _ I h) λu s1 hZ=>?_) ht
 obtain⟨y,H1,I1,rx,a,C,dx,fs,sp,ex,ea,l,c,G,q⟩:=hZ;obtain⟨f,fd,ps,hm,F,hb⟩:=G;subst ex;obtain rfl:u=Vk a:=rx;refine YI I1 ea c hm l ?_
 exact U1 (first:=[.ref a]) I1.kIn hm.kp (YJc (us:=[.ref a]) (vs:=[.ref a]) F hr hb I1 (.cons rfl .nil) q)
end
end L2
end
section
open PySem L2
namespace Tr
section
variable{lv:V->Nat}{tbl aE:List (Int×Dt)}
end
end Tr
end
section
namespace PySem
section
variable{prog:Vg}{w:Vb}{K:Type}[DecidableEq K]{knd:HeapKind prog w K}{A:VG}{E:YQ_}{s:VH}
end
end PySem
namespace L2
open PySem PySem.Spec PyProof.Rows
section
variable{X:Cx}{aa:YP_}{σ:St}{H:Hp}{s:VH}{a b:Vh}{xs:NX}{d:Dt}{A:VG}{E:YQ_}{ae:List (Key×V)}{k:Key}{u r:Va}{v:V}
end
section
variable{X:Cx}{o e f:Expr}{ao ay:Pos}{td ty tx:TE}
end
section
variable{X:Cx}
end
def Q6d(K:VD):R2:=λx y H Q=>∃ a b,∃ as:List Vh,x=.ref a/\y=.ref b/\SqL K H a (as.map V.ref)/\SqL K H b (as.map V.ref)/\Q (.bl false) H
section
variable{X:Cx}
theorem Qjd(hu:X.A.units < UR):OpR X (V2 .NotEq) (Q6d X.K):=by
 intro aa s σ H x y v u Q I rx ry h;obtain⟨a,b,as,rfl,rfl,ha,hb,q⟩:=h;cases rx;cases ry;obtain⟨ah,r1,p1,_⟩:=I.list ha;obtain⟨aQ,r2,p2,_⟩:=I.list hb;have l1:=r1.length;have l2:=r2.length;have e:ah=aQ:=by
  refine La #[0] λi h1 h2=>?_
  have hi:i < as.length:=by rw[UJ]at l1;lia
  have hx:(as.map V.ref)[i]?=Vo (.ref as[i]):=by rw[Oe,I0 hi];rfl
  obtain⟨u1,e1,q1⟩:=r1.get hx;obtain⟨u2,e2,q2⟩:=r2.get hx;rw[I0 h1]at e1
  rw[I0 h2]at e2
  cases e1;cases e2;exact(show ah[i]=Vk as[i] from q1).trans (show aQ[i]=Vk as[i] from q2).symm
 subst e;exact Yvb (r:=false) p1.isList p2.isList hu (.inr ⟨rfl,λ_=>true,λj h1 h2=>SeqAt.EqAt.same _,by simp⟩) ⟨.bl _,H,I,rfl,q⟩
end
theorem Y2.t{H H':Hp}(s:Y2 H H'):ZK H H':=λb xs e=>s.tup e
theorem Y2.ins{H H':Hp}(s:Y2 H H'){b C dx:Vh}{fs:List (Str×V)}(e:H b=Vo (.ins C dx fs)):H' b=Vo (.ins C dx fs):=by
 rcases s b _ e with h | ⟨⟨ys,h⟩,_⟩
 ·exact h
 ·cases h
theorem QGc{K:VD}{a:Vh}(xs:List V){te:TE}{σ:St}{H1:Hp}{Q:VK}(P:Hp->Nat->V->Prop)(mono:∀ H H' i v,Y2 H H'->P H i v->P H' i v)(hx:SqL K H1 a xs)(hz:xs.length<=Vs)
 (he:∀ i x H2 (R:VK),xs[i]?=Vo x->Qn H1 H2->(∀ v H3,P H3 i v->Qn H2 H3->R v H3)->te (Vo x::σ) H2 R)
 (hq:∀ D H2 ys,H1 D=Vp->Qn H1 H2->H2 D=Vo (.lst ys)->ys.length=xs.length->(∀ i y,ys[i]?=Vo y->P H2 i y)->Q (.ref D) H2):LcR (Itl K a) Z3b te σ Q H1:=by
 intro D hD;refine⟨λi m ys H2=>m=xs.length - i/\i<=xs.length/\ys.length=i/\H2 D=Vo (.lst ys)/\Qn H1 H2/\∀ j y,ys[j]?=Vo y->P H2 j y,⟨_,rfl,Us _,rfl,Qa,Qf hD _,λj y h=>by simp at h⟩,?_⟩
 rintro i m ys H2 ⟨rfl,hi,hl,hd,sm,hp⟩;refine⟨hd,?_⟩
 by_cases aG:i < xs.length
 ·refine .inr ⟨⟨xs,xs[i],sm.seq hx,by simp[aG]⟩,by lia,λx H' y=>?_⟩
  obtain⟨e,bG⟩:=y;subst e;have kj:=bG xs (sm.seq hx);unfold Z3b;refine QOd ?_
  refine he i x _ _ kj sm λv H3 pv s3=>⟨s3 _ _ hd,xs.length - (i+1),by lia,rfl,aG,by rw[Oh,hl];rfl,Qa,(sm.trans s3).updL hD _,λj y h=>?_⟩
  have st:=Qoc (zs:=ys++[v]) (s3 _ _ hd)
  by_cases hj:j < ys.length
  ·rw[Od hj]at h
   exact mono _ _ _ _ (s3.l.trans st) (hp j y h)
  ·rw[Oc #[0]]at h
   have cN:j=i:=by
    have:=(List.getElem?_eq_some_iff.mp h).1
    simp at this
    lia
   subst cN;rw[hl]at h;simp at h;subst h;exact mono _ _ _ _ st pv
 ·have e:i=xs.length:=by lia
  subst e;exact .inl ⟨⟨xs,sm.seq hx,Um _⟩,hq D H2 ys hD sm hd hl hp⟩
section
variable{X:Cx}{e:Expr}{es:List Expr}{t:TA}{p pos:Pos}
theorem Qi(i:Nat){x:Str}{te:TE}{aI:Pos}(hN:X.N.Nodup)(he:PE X e te)(hi:X.N[i]?=Vo x:=by rfl)(hx:Loc X.env.scope x:=by first | exact OB rfl | exact Or.inr rfl)(hs:Ua e (Vo (.Name x aI)) pos.line X.env=pure false:=by rfl)(hf:X.fn x=true\/X.env.scope.names.lookup x=Vo .local:=by first | exact .inl rfl | exact .inr rfl | assumption) :
 PS X (.Assign [.Name x aI] e pos) (Xzc te (ZRb i)):=XAc hN hi hx he hs hf
theorem Qr{j k:Nat}{x:Str}{ps:List Str}{sp:Sp}(G:Cal X.prog X.w X.K X.mg X.base j x ps sp)(hr:Zi k X.A)(ha:PA X (e::es) t)(hj:j<=k:=by decide)(hg:Gl X x:=by rfl)(aV:(x == ("__debug__":Str))=false:=by decide)
 (he:VZ (e::es) X.env=(false,VX e X.env)::VZ es X.env:=by rfl) (aN:(VY pos (VZ es X.env)).any (·.1)=false:=by rfl):PE X (.Call (.Name x p) (e::es) [] pos) (ZVb sp [] E0 t):=Z7 G hr hj hg ha aV he aN
theorem ZR{j k:Nat}{x:Str}{ps:List Str}{sp:Sp}(G:Jgb X.prog X.w X.K X.mg X.base j x ps sp)(hr:Zi k X.A)(ha:PA X.nox (e::es) t)(hj:j<=k:=by decide)(hg:Gl X x:=by rfl)(bp:X.ex=[]:=by rfl)(aV:(x == ("__debug__":Str))=false:=by decide)
 (he:VZ (e::es) X.env=(false,VX e X.env)::VZ es X.env:=by rfl) (aN:(VY pos (VZ es X.env)).any (·.1)=false:=by rfl):PE1 X (.Call (.Name x p) (e::es) [] pos) (Q3b sp t):=Yyc G hr hj hg bp ha aV he aN
end
section
variable{X:Cx}
end
section
variable{X:Cx}
end
section
variable{P:Vg}{w:Vb}{K:VD}{mg:Str->Option Va}{base:Vq}
end
def Jzb(t:TE):TE:=t
theorem XQ{X:Cx}{e:Expr}{t:TE}(h:PE X e t):PE X e (Jzb t):=h
section
variable{K:VD}{σ:St}{H:Hp}{Q:VK}{ia ic:Nat}{l l2:Vh}{xs bs zs:List V}{i j:Int}{t1 t2 tb:TE}
theorem Qkd{n:Nat}(h:n<=9000):n<=Vs:=VJ h (by rw[Uw];decide)
theorem YFa(xs:List V)(lo hi:Option Int):(Yd xs lo hi).length<=xs.length:=by
 unfold Yd;rw[Oa,On]
 lia
theorem ZVa(e1:σ[ia]?=Vo (Vo (.ref l)))(e2:σ[ic]?=Vo (Vo (.ref l2)))(h1:∀ H Q,Q (.int i) H->t1 σ H Q)(h2:∀ H Q,Q (.int j) H->t2 σ H Q)
 (hb:∀ H0 (R:VK),Qn H H0->(∀ b H1,Qn H0 H1->H1 b=Vo (.lst bs)->R (.ref b) H1)->tb σ H0 R) (hl:H l=Vo (.lst xs)) (jR:H l2=Vo (.lst zs)) (lx:xs.length<=1000) (lz:zs.length<=1000) (lb:bs.length<=1000)
 (q:∀ r H',Qn H H'->H r=Vp->H' r=Vo (.lst (Yd xs Vp (Vo i)++bs++Yd zs (Vo j) Vp))->Q (.ref r) H') :
 Jzb (tOp Ylb (tOp Ylb (tSl (ZYb K) (Yv ia) Y0 (Yea t1)) tb) (tSl (ZYb K) (Yv ic) (Yea t2) Y0)) σ H Q:=by
 have c1:=YFa xs Vp (Vo i);have c2:=YFa zs (Vo j) Vp;unfold Jzb;simp only[tOp,tSl,Yea,Y0,ZYb,Ylb];refine Yw e1 (h1 _ _ ⟨i,rfl,l,xs,rfl,SqL.of hl,λp hp=>hb _ _ (Qf hp _) λb H1 s1 cI=>⟨p,b,_,_,rfl,rfl,s1 _ _ Qa,cI,Qkd #[0],λp2 bM=>?_⟩⟩)
 have s2:=((Qf hp _).trans s1).trans (Qf bM (.lst (Yd xs Vp (Vo i)++bs)));refine Yw e2 (h2 _ _ ⟨j,rfl,l2,zs,rfl,SqL.of (s2 _ _ jR),λp3 eC=>⟨p2,p3,_,_,rfl,rfl,Qf eC _ _ _ Qa,Qa,Qkd (by rw[Oh];lia),λp4 e7=>?_⟩⟩)
 have s3:=s2.trans (Qf eC (.lst (Yd zs (Vo j) Vp)));refine q p4 _ (s3.trans (Qf e7 _)) ?_ Qa
 cases e:H p4 with
 | none=>rfl
 | some o=>rw[s3 _ _ e]at e7;cases e7
theorem Qld(e1:σ[ia]?=Vo (Vo (.ref l)))(h1:∀ H Q,Q (.int i) H->t1 σ H Q)(h2:∀ H Q,Q (.int j) H->t2 σ H Q)(hl:H l=Vo (.lst xs))(lx:xs.length<=1000)
 (q:∀ r H',Qn H H'->H r=Vp->H' r=Vo (.lst (Yd xs Vp (Vo i)++Yd xs (Vo j) Vp))->Q (.ref r) H') :
 Jzb (tOp Ylb (tSl (ZYb K) (Yv ia) Y0 (Yea t1)) (tSl (ZYb K) (Yv ia) (Yea t2) Y0)) σ H Q:=by
 have c1:=YFa xs Vp (Vo i);have c2:=YFa xs (Vo j) Vp;unfold Jzb;simp only[tOp,tSl,Yea,Y0,ZYb,Ylb];refine Yw e1 (h1 _ _ ⟨i,rfl,l,xs,rfl,SqL.of hl,λp hp=>Yw e1 (h2 _ _ ⟨j,rfl,l,xs,rfl,SqL.of (Qf hp _ _ _ hl),λp3 eC=>⟨p,p3,_,_,rfl,rfl,Qf eC _ _ _ Qa,Qa,Qkd #[0],λp4 e7=>?_⟩⟩)⟩)
 have s3:=(Qf hp (.lst (Yd xs Vp (Vo i)))).trans (Qf eC (.lst (Yd xs (Vo j) Vp)));refine q p4 _ (s3.trans (Qf e7 _)) ?_ Qa
 cases e:H p4 with
 | none=>rfl
 | some o=>rw[s3 _ _ e]at e7;cases e7
end
end L2
end
section
namespace My
open PySem L2 Pl Th Tr
variable{CX:CXT}{P:Vg}{w:Vb}{mg:Str->Option Va}{base:Vq}{N:List Str}{qual:Str}{scope:Scope}{a b d1 d2 f:Vh}{cd:Va}{A B M R es aj hs:List Dt}{outer:List Env}{s:VH}{H H' H0 H1:Hp}{E:XK}{c l n:Int}{i j:Nat}{cs ob:Nat->Vh}{xs:List V}{st:StL}{d row:Dt}{k v:V}{lv:V->Nat}{tbl:List (Int×Dt)}{Q:VK}{o:Option (List Dt)}{ae:List (Key×V)}{cz dz:List Ch}
variable{P:Vg}{w:Vb}{K:VD}{mg:Str->Option Va}{base:Vq}{CT:Vh}{cs:Nat->Vh}{ob:Nat->Vh}{f:Vh}{fd:UU}
theorem Qmd{K:VD}{A:VG}:(Jda CX P w K mg base N qual scope f cd A outer s H E).K=K:=rfl
theorem Qnd{K:VD}{A:VG}:(Jda CX P w K mg base N qual scope f cd A outer s H E).prog=P:=rfl
theorem Qod{K:VD}{A:VG}:(Jda CX P w K mg base N qual scope f cd A outer s H E).w=w:=rfl
theorem Q7d{X:Cx}{sc:Scope}{x:Str}{M:List Str}{cl:List (Str×Vh)}{C:Vh}{fp:List Vh}:(blk X sc x M cl C s H fp).K=X.K:=rfl
theorem dly{G:Prop}(h:∀ g:Prop,(G->g)->g):G:=h G id
local macro_rules | `(tactic| walk_at "sc") => `(tactic| exact ⟨rfl, rfl, rfl, by decide +kernel, rfl, by decide +kernel, by decide +kernel⟩)
local macro_rules | `(tactic| walk_at "n") => do let h := L9 `h; let r := L9 `rfl; `(tactic| first | (cases $h:ident; subst_vars; rfl) | (repeat (first | (rcases $h:ident with ⟨$r:ident, _⟩; rfl) | rcases $h:ident with ⟨_, $h:ident⟩)))
local macro_rules | `(tactic| walk_at "rd") => do let x := ("Qmd Q7d Qec Qfc Qgc Zsc Ztc Zuc Zvc Ypc Yqc ZOa Y1c Znc QMd X6b QNd QRd Ylb ZYb Int.reduceLT Int.reduceLE Int.reduceToNat QGd Y4c tB QEd QDd tOr Y0c tOp tUn J6b J7b tC QFd Xzc ZRb Y2c tCB ZVb YVa Jba QKd QLd rI rI0 rU rEq rNe JZc J0c J1c J2c J3c J4c J5c J6c J7c J8c J9c Yac Ybc Ycc tBM Xgb tSl Yea Y0 Qlc Xrb Zic Zjc Zkc Job Qyc Z1c Zhc Xac Y9c Xjb Xic Z0c Qvc Qnd Qod Q3b Yzb Q4d Xkc Xlc Xmc Xga Q6d tIf ZJc Z3b List.getElem?_cons_zero List.getElem?_cons_succ List.set_cons_zero List.set_cons_succ Option.some.injEq V.int.injEq V.bl.injEq V.str.injEq V.ref.injEq exists_eq_left exists_eq_left' exists_eq_right exists_and_left List.cons.injEq and_true true_and List.append_nil decide_eq_true_eq Bool.not_eq_true' decide_eq_false_iff_not Bool.not_true Bool.not_false if_true if_false Bool.true_eq_false Bool.false_eq_true reduceCtorEq exists_const exists_false false_and and_false not_true_eq_false not_false_eq_true ite_true ite_false".splitOn " ").toArray.map λs => L9 s.toName; let y := ("QTd XXc XYc XZc Yoc".splitOn " ").toArray.map λs => L9 s.toName; `(tactic| try simp (maxSteps := 1000000) only [$[↓$y:ident],*, $[$x:ident],*])
local macro_rules | `(tactic| walk_at "side") => `(tactic| first | lia | decide | ((first | unfold Zua | unfold XGc | (refine Yab.ok ?_; unfold Yab) | unfold Yab); first | lia | decide))
local macro_rules | `(tactic| walk_at "go") => `(tactic| (repeat refine And.intro (by walk_at "side") ?_))
def top(i:Nat):V0:=PySem.Challenge.pw_twigtable_k36_whole_moved_to_and_fro.main.body.getD i (.Pass ⟨0,0,0,0⟩)
def Yk(i j:Nat):V0:=match top i with | .ClassDef _ _ _ body _ _ _ _ _ _ _=>body.getD j (.Pass ⟨0,0,0,0⟩) | s=>s
abbrev J1:V0:=Yk 3 0
theorem Jra:Qp ["self","key"] ["self","key"] (Qj J1):=by walk_at "sc"
abbrev XR:V0:=Yk 4 0
theorem XVa:Qp ["self","key"] ["self","key"] (Qj XR):=by walk_at "sc"
abbrev XS:V0:=Yk 5 0
theorem XWa:Qp ["self","key"] ["self","key"] (Qj XS):=by walk_at "sc"
abbrev Xa:V0:=Yk 6 0
theorem Xla:Qp ["self","number"] ["self","number"] (Qj Xa):=by walk_at "sc"
abbrev JTa:V0:=top 8
theorem YCb:Qp ["value"] ["value"] (Qj JTa):=by walk_at "sc"
abbrev ZWa:V0:=top 15
theorem JAb:Qp ["rows","at","key"] ["rows","at","key"] (Qj ZWa):=by walk_at "sc"
abbrev Xb:V0:=top 19
theorem JB:Qp ["key","mix","sign"] ["key"] (Qj Xb):=by walk_at "sc"
abbrev QLa:V0:=Yk 23 0
theorem Q9b:Qp ["self","level","entries"] ["self","level","entries"] (Qj QLa):=by walk_at "sc"
abbrev QMa:V0:=Yk 23 1
theorem Zab:Qp ["self"] ["self"] (Qj QMa):=by walk_at "sc"
abbrev XT:V0:=Yk 23 2
theorem XXa:Qp ["self"] ["self"] (Qj XT):=by walk_at "sc"
abbrev XU:V0:=Yk 23 4
theorem XYa:Qp ["self"] ["self"] (Qj XU):=by walk_at "sc"
abbrev Xc:V0:=Yk 24 1
theorem Xma:Qp ["self","pages"] ["self","pages"] (Qj Xc):=by walk_at "sc"
abbrev Yx:V0:=Yk 25 1
theorem XZa:Qp ["self"] ["self"] (Qj Yx):=by walk_at "sc"
abbrev XV:V0:=Yk 27 0
theorem X0a:Qp ["self"] ["self"] (Qj XV):=by walk_at "sc"
abbrev QNa:V0:=top 37
theorem Zbb:Qp ["rows","at","row"] ["rows","at","row"] (Qj QNa):=by walk_at "sc"
abbrev Xd:V0:=Yk 43 0
theorem Xna:Qp ["self","key","old","new"] ["self","key","old","new"] (Qj Xd):=by walk_at "sc"
abbrev Xe:V0:=Yk 43 0
theorem Xoa:Qp ["self","key","old","new"] ["self","key","old","new"] (Qj Xe):=by walk_at "sc"
abbrev Xf:V0:=Yk 43 1
theorem Xpa:Qp ["self"] ["self"] (Qj Xf):=by walk_at "sc"
abbrev JC:V0:=top 51
theorem Yl:Qp ["others","heads","there","head"] ["others","heads"] (Qj JC):=by walk_at "sc"
abbrev QOa:V0:=top 56
theorem Zcb:Qp ["_law_script","_law_k"] ["_law_script","_law_k"] (Qj QOa):=by walk_at "sc"
abbrev QPa:V0:=top 57
theorem QW:Qp ["_law_cell_here","_law_signs","_law_mix","_law_many","_law_at","_law_plain","_law_found","_law_k"] ["_law_cell_here"] (Qj QPa):=by walk_at "sc"
abbrev QQa:V0:=top 58
theorem XW:Qp ["_law_cell_here","_law_left","_law_found"] ["_law_cell_here"] (Qj QQa):=by walk_at "sc"
abbrev XX:V0:=top 60
theorem ZFa:Qp ["_law_cell_here","_law_found"] ["_law_cell_here"] (Qj XX):=by walk_at "sc"
abbrev Je:V0:=top 61
theorem Xg:Qp ["_law_known","_law_numbers","_law_texts"] ["_law_known"] (Qj Je):=by walk_at "sc"
abbrev Ym:V0:=top 64
theorem Jf:Qp ["_law_some","_law_cell_here","_law_found","_law_at"] ["_law_some","_law_cell_here"] (Qj Ym):=by walk_at "sc"
abbrev Xqa:V0:=top 9
theorem QHc:Qp ["one","other"] ["one","other"] (Qj Xqa):=by walk_at "sc"
abbrev Zdb:V0:=top 20
theorem JBb:Qp ["key","mix"] ["key"] (Qj Zdb):=by walk_at "sc"
abbrev QRa:V0:=Yk 24 0
theorem Zeb:Qp ["self","rows"] ["self","rows"] (Qj QRa):=by walk_at "sc"
abbrev QSa:V0:=Yk 25 0
theorem Zfb:Qp ["self","level","heads"] ["self","level","heads"] (Qj QSa):=by walk_at "sc"
abbrev XY:V0:=Yk 27 1
theorem Xh:Qp ["self","page","told","number"] ["self","page"] (Qj XY):=by walk_at "sc"
abbrev XZ:V0:=Yk 44 0
theorem X1a:Qp ["self","key","new"] ["self","key","new"] (Qj XZ):=by walk_at "sc"
abbrev Yn:V0:=Yk 45 0
theorem JUa:Qp ["self","key","old"] ["self","key","old"] (Qj Yn):=by walk_at "sc"
abbrev ZXa:V0:=top 59
theorem Yha:Qp ["_law_cell_here","_law_kind"] ["_law_cell_here"] (Qj ZXa):=by walk_at "sc"
abbrev QTa:V0:=top 65
theorem Yy:Qp ["_law_rows_here","_law_changes","_law_known","_law_change","_law_told"] ["_law_rows_here","_law_changes"] (Qj QTa):=by walk_at "sc"
abbrev ZYa:V0:=top 11
theorem Jv:Qp ["keys","key","low","high","middle"] ["keys","key"] (Qj ZYa):=by walk_at "sc"
abbrev ZZa:V0:=top 21
theorem Yh:Qp ["key","rest","level"] ["key"] (Qj ZZa):=by walk_at "sc"
abbrev Yo:V0:=Yk 27 2
theorem JVa:Qp ["self","number"] ["self","number"] (Qj Yo):=by walk_at "sc"
abbrev QUa:V0:=top 62
theorem JD:Qp ["_law_script","_law_known","_law_start","_law_k","_law_cell_here"] ["_law_script"] (Qj QUa):=by walk_at "sc"
abbrev YN:V0:=top 63
theorem ZC:Qp ["_law_rows_here","_law_script","_law_way","_law_half","_law_known","_law_cell_here","_law_key_here"] ["_law_rows_here","_law_script"] (Qj YN):=by walk_at "sc"
abbrev Z0a:V0:=top 10
theorem QVa:Qp ["values","ordered","value"] ["values"] (Qj Z0a):=by walk_at "sc"
abbrev Yz:V0:=top 13
theorem ZGa:Qp ["entries","key","place"] ["entries","key"] (Qj Yz):=by walk_at "sc"
abbrev JWa:V0:=top 26
theorem YDb:Qp ["level","entries"] ["level","entries"] (Qj JWa):=by walk_at "sc"
abbrev X4:V0:=Yk 27 4
theorem ZHa:Qp ["self","number","told"] ["self","number"] (Qj X4):=by walk_at "sc"
abbrev Jrc:V0:=top 29
theorem YEb:Qp ["entries","level","parts","entry"] ["entries","level"] (Qj Jrc):=by walk_at "sc"
abbrev QWa:V0:=top 47
theorem Zgb:Qp ["key","old","new"] ["key","old","new"] (Qj QWa):=by walk_at "sc"
abbrev X5:V0:=Yk 27 3
theorem ZIa:Qp ["self","number","told"] ["self","number"] (Qj X5):=by walk_at "sc"
abbrev Z1a:V0:=top 30
theorem Y4:Qp ["pages","level","entries","heads","part","page"] ["pages","level","entries"] (Qj Z1a):=by walk_at "sc"
abbrev Xi:V0:=Yk 43 2
theorem Xra:Qp ["self"] ["self"] (Qj Xi):=by walk_at "sc"
abbrev JXa:V0:=top 50
theorem Xsa:Qp ["pages","root","level","card"] ["pages","root","level"] (Qj JXa):=by walk_at "sc"
abbrev JE:V0:=top 53
theorem Zu:Qp ["old_rows","new_rows","olds","news","changes","key"] ["old_rows","new_rows"] (Qj JE):=by walk_at "sc"
abbrev YFb:V0:=top 14
theorem Zma:Qp ["pages","root","key","path","number","page","at"] ["pages","root","key"] (Qj YFb):=by walk_at "sc"
abbrev JYa:V0:=top 31
theorem YO:Qp ["pages","level","heads","top","above"] ["pages","level","heads"] (Qj JYa):=by walk_at "sc"
abbrev JZa:V0:=top 41
theorem YQ:Qp ["pages","heads","number","under"] ["pages","heads"] (Qj JZa):=by walk_at "sc"
abbrev X6:V0:=top 52
theorem Xj:Qp ["pages","numbers","entries","number"] ["pages","numbers"] (Qj X6):=by walk_at "sc"
abbrev Zhb:V0:=top 32
theorem JCb:Qp ["pages","rows","at"] ["pages","rows"] (Qj Zhb):=by walk_at "sc"
abbrev Xta:V0:=top 49
theorem ZD:Qp ["pages","one","other","ones","others","seen","level","only_one","only_other"] ["pages","one","other"] (Qj Xta):=by walk_at "sc"
abbrev Xk:V0:=Yk 23 5
theorem YR:Qp ["self","pages","rows","number"] ["self","pages"] (Qj Xk):=by walk_at "sc"
abbrev J0a:V0:=top 33
theorem YGb:Qp ["pages","root"] ["pages","root"] (Qj J0a):=by walk_at "sc"
abbrev X7:V0:=top 36
theorem ZT:Qp ["pages","number","row","page","at","way","heads","inner"] ["pages","number","row"] (Qj X7):=by walk_at "sc"
abbrev Xua:V0:=top 40
theorem Xu:Qp ["pages","left","right","one","entries","others","inner"] ["pages","left","right"] (Qj Xua):=by walk_at "sc"
abbrev Jsc:V0:=top 35
theorem YHb:Qp ["pages","root","key","cells","row","level"] ["pages","root","key","cells"] (Qj Jsc):=by walk_at "sc"
abbrev Yp:V0:=top 39
theorem Zt:Qp ["pages","number","key","page","at","entries","inner"] ["pages","number","key"] (Qj Yp):=by walk_at "sc"
abbrev YIb:V0:=top 38
theorem YKc:Qp ["pages","root","key"] ["pages","root","key"] (Qj YIb):=by walk_at "sc"
abbrev Xl:V0:=Yk 43 4
theorem Xva:Qp ["self","pages","root"] ["self","pages","root"] (Qj Xl):=by walk_at "sc"
abbrev Zib:V0:=top 54
theorem Xwa:Qp ["pages","root","changes","change"] ["pages","root","changes"] (Qj Zib):=by walk_at "sc"
abbrev Yia:V0:=top 66
theorem YS:Qp ["_law_script","_law_pages","_law_rows_here","_law_others","_law_one","_law_other","_law_changes","_law_handed","_law_ways","_law_at","_law_middle"] ["_law_script"] (Qj Yia):=by walk_at "sc"
structure Zs(mg:Str->Option Va):Prop where
 dict:mg "dict"=Vp
 int:mg "int"=Vp
 isinstance:mg "isinstance"=Vp
 len:mg "len"=Vp
 list:mg "list"=Vp
 max:mg "max"=Vp
 ord:mg "ord"=Vp
 range:mg "range"=Vp
 reversed:mg "reversed"=Vp
 sorted:mg "sorted"=Vp
 str:mg "str"=Vp
 tuple:mg "tuple"=Vp
 MODULUS:∃ t,mg "MODULUS"=Vo (.int (2147483647) t)
 TOP_LEVEL:∃ t,mg "TOP_LEVEL"=Vo (.int (6) t)
def Q8d(i j:Nat):Bool:=([(0,0),(1,0),(1,1),(2,0),(2,2),(3,3),(4,4),(5,4),(5,5),(6,4),(6,6),(7,4),(7,7)]:List (Nat×Nat)).contains (i,j)
structure Tx(K:VD)(mg:Str->Option Va)(CT:Vh)(cs:Nat->Vh)(ob:Nat->Vh):Prop where
 mg_Page:mg "Page"=Vo (.ref (ob 0))
 mg_Leaf:mg "Leaf"=Vo (.ref (ob 1))
 mg_Twig:mg "Twig"=Vo (.ref (ob 2))
 mg_Pages:mg "Pages"=Vo (.ref (ob 3))
 mg_Change:mg "Change"=Vo (.ref (ob 4))
 mg_PutIn:mg "PutIn"=Vo (.ref (ob 5))
 mg_TakenOut:mg "TakenOut"=Vo (.ref (ob 6))
 mg_Turned:mg "Turned"=Vo (.ref (ob 7))
 ob_:∀ i,i < 8->ObC K (ob i) ["level","rows","heads","entries","told_by_number","number_by_told","count","key","old","new"]
 isa:∀ i j,i < 8->j < 8->UP K (.ref (ob i)) (.ref (ob j))=Vo (Q8d i j)
 top:Q0d K mg "TableError" CT
 mg_NoPage:mg "NoPage"=Vo (.ref (cs 0))
 mg_NotRising:mg "NotRising"=Vo (.ref (cs 1))
 mg_NoRow:mg "NoRow"=Vo (.ref (cs 2))
 mg_Unfit:mg "Unfit"=Vo (.ref (cs 3))
 cl:∀ i,i < 4->W.XCl K (cs i) CT
 no:∀ i,i < 4->∀ f∈(["number","key"]:List Str),JX K (cs i) f
 tab:∀ i j,i < 4->j < 4->UP K (.ref (cs i)) (.ref (cs j))=Vo (decide (i=j))
 tv:∀ i,i < 4->UP K (.ref (cs i)) (.type "ValueError")=Vo true
seal PE PT PW PA PS PSs PI PG QT PGs PO in
theorem Xxa(Z:Zs mg)(T:Tx K mg CT cs ob)(F:Fun K "__init__" "NoPage.__init__" Xa f fd):QE P w K mg base CX0 1 f fd ["self","number"] (Qtc (cs 0) ["number"]):=by
 refine F.ok Xla (λvs H Q E h=>?_) (λap A outer s H vs Q E hr h=>?_)
 ·obtain⟨e,ws,rfl,hl,_⟩:=h;obtain⟨_,rfl⟩:=length_eq_one_iff.mp hl;rfl
 obtain⟨e,ws,rfl,hl,he,q⟩:=h;obtain⟨w0,rfl⟩:=length_eq_one_iff.mp hl;refine⟨_,(Qb (Zh (Jna T.top rfl (Qh (pv 0) (Qh (pv 1) Qe))))
  (Qg (Q4b CT rfl (pv 0) (pv 1) rfl))),?_⟩
 refine Qm (σ:=[Vo (.ref e),Vo w0]) rfl ?_
 walk_at "rd";simp only[tBI,ZQc,Yzc];walk_at "rd";exact⟨e,cs 0,[w0],⟨rfl,rfl⟩,by show 1<=1000;decide,he,T.cl 0 #[1],cs 0,he,T.cl 0 #[1],(T.no 0 #[1] _ #[1]),λd hd ax=>q d hd ax⟩
seal PE PT PW PA PS PSs PI PG QT PGs PO in
theorem Jsa(Z:Zs mg)(T:Tx K mg CT cs ob)(F:Fun K "__init__" "NotRising.__init__" J1 f fd):QE P w K mg base CX0 1 f fd ["self","key"] (Qtc (cs 1) ["key"]):=by
 refine F.ok Jra (λvs H Q E h=>?_) (λap A outer s H vs Q E hr h=>?_)
 ·obtain⟨e,ws,rfl,hl,_⟩:=h;obtain⟨_,rfl⟩:=length_eq_one_iff.mp hl;rfl
 obtain⟨e,ws,rfl,hl,he,q⟩:=h;obtain⟨w0,rfl⟩:=length_eq_one_iff.mp hl;refine⟨_,(Qb (Zh (Jna T.top rfl (Qh (pv 0) (Qh (pv 1) Qe))))
  (Qg (Q4b CT rfl (pv 0) (pv 1) rfl))),?_⟩
 refine Qm (σ:=[Vo (.ref e),Vo w0]) rfl ?_
 walk_at "rd";simp only[tBI,ZQc,Yzc];walk_at "rd";exact⟨e,cs 1,[w0],⟨rfl,rfl⟩,by show 1<=1000;decide,he,T.cl 1 #[1],cs 1,he,T.cl 1 #[1],(T.no 1 #[1] _ #[1]),λd hd ax=>q d hd ax⟩
seal PE PT PW PA PS PSs PI PG QT PGs PO in
theorem X2a(Z:Zs mg)(T:Tx K mg CT cs ob)(F:Fun K "__init__" "NoRow.__init__" XR f fd):QE P w K mg base CX0 1 f fd ["self","key"] (Qtc (cs 2) ["key"]):=by
 refine F.ok XVa (λvs H Q E h=>?_) (λap A outer s H vs Q E hr h=>?_)
 ·obtain⟨e,ws,rfl,hl,_⟩:=h;obtain⟨_,rfl⟩:=length_eq_one_iff.mp hl;rfl
 obtain⟨e,ws,rfl,hl,he,q⟩:=h;obtain⟨w0,rfl⟩:=length_eq_one_iff.mp hl;refine⟨_,(Qb (Zh (Jna T.top rfl (Qh (pv 0) (Qh (pv 1) Qe))))
  (Qg (Q4b CT rfl (pv 0) (pv 1) rfl))),?_⟩
 refine Qm (σ:=[Vo (.ref e),Vo w0]) rfl ?_
 walk_at "rd";simp only[tBI,ZQc,Yzc];walk_at "rd";exact⟨e,cs 2,[w0],⟨rfl,rfl⟩,by show 1<=1000;decide,he,T.cl 2 #[1],cs 2,he,T.cl 2 #[1],(T.no 2 #[1] _ #[1]),λd hd ax=>q d hd ax⟩
seal PE PT PW PA PS PSs PI PG QT PGs PO in
theorem X3a(Z:Zs mg)(T:Tx K mg CT cs ob)(F:Fun K "__init__" "Unfit.__init__" XS f fd):QE P w K mg base CX0 1 f fd ["self","key"] (Qtc (cs 3) ["key"]):=by
 refine F.ok XWa (λvs H Q E h=>?_) (λap A outer s H vs Q E hr h=>?_)
 ·obtain⟨e,ws,rfl,hl,_⟩:=h;obtain⟨_,rfl⟩:=length_eq_one_iff.mp hl;rfl
 obtain⟨e,ws,rfl,hl,he,q⟩:=h;obtain⟨w0,rfl⟩:=length_eq_one_iff.mp hl;refine⟨_,(Qb (Zh (Jna T.top rfl (Qh (pv 0) (Qh (pv 1) Qe))))
  (Qg (Q4b CT rfl (pv 0) (pv 1) rfl))),?_⟩
 refine Qm (σ:=[Vo (.ref e),Vo w0]) rfl ?_
 walk_at "rd";simp only[tBI,ZQc,Yzc];walk_at "rd";exact⟨e,cs 3,[w0],⟨rfl,rfl⟩,by show 1<=1000;decide,he,T.cl 3 #[1],cs 3,he,T.cl 3 #[1],(T.no 3 #[1] _ #[1]),λd hd ax=>q d hd ax⟩
section
variable{K:VD}
end
theorem Zjb(v:V):[v].length<=Vs:=show 1<=Vs by decide
theorem Ja{n:Nat}(h:n<=1000):n<=Vs:=VL (QD h)
theorem at0(x:V)(r:List V):atI (x::r) 0=Vo x:=Zx (j:=0) rfl
theorem at1(x y:V)(r:List V):atI (x::y::r) 1=Vo y:=Zx (j:=1) rfl
namespace M11
def p:Int:=2147483647
theorem YJb(cs:List Int):∀ (a:Int),0<=a->a < 2147483647->0<=cs.foldl (λm c=>(m * 131+c) % 2147483647) a/\cs.foldl (λm c=>(m * 131+c) % 2147483647) a < 2147483647:=by
 induction cs with
 | nil=>intro a h1 h2;exact⟨h1,h2⟩
 | cons c cs ih =>
  intro a h1 h2;simp only[DA]
  apply ih <;> lia
def lev:Nat->Int->Nat
 | 0,_=>0
 | n+1,m=>if m % 4=0 then lev n (m / 4)+1 else 0
theorem JDb(n:Nat)(m:Int):lev (n+1) m=if m % 4=0 then lev n (m / 4)+1 else 0:=rfl
theorem Jtc:∀ (n:Nat) (m:Int),lev n m<=n
 | 0,_=>Um _
 | n+1,m=>by
  unfold lev
  split
  ·have:=Jtc n (m / 4);lia
  ·lia
theorem Juc{n:Nat}{m:Int}{r:Int}{l:Nat}(h:l+lev (n - l) r=lev n m)(hl:l < n)(e:r % 4=0):(l+1)+lev (n - (l+1)) (r / 4)=lev n m:=by
 have e1:n - l=(n - (l+1))+1:=by lia
 rw[e1,JDb,if_pos e]at h
 lia
theorem XJb{n:Nat}{m:Int}{r:Int}{l:Nat}(h:l+lev (n - l) r=lev n m)(hl:¬ (l < n/\r % 4=0))(hn:l<=n):l=lev n m:=by
 by_cases h1:l < n
 ·have h2:r % 4≠0:=λe=>hl ⟨h1,e⟩
  have e1:n - l=(n - (l+1))+1:=by lia
  rw[e1,JDb,if_neg h2]at h
  lia
 ·have e:n - l=0:=by lia
  rw[e]at h;simp only[lev]at h
  lia
end M11
def Q6:V->Prop
 | .int n => -(10 ^ 30) < n/\n < 10 ^ 30
 | .str z=>z.length<=40
 | _=>False
def Z2a(z:Str):List Int:=z.cps.toList.map λ(c:Nat)=>(c:Int)
def Qpd:V->Int
 | .int n=>(n * 48271+11) % 2147483647
 | .str z=>(Z2a z).foldl (λm c=>(m * 131+c) % 2147483647) 7
 | _=>0
def Zkb(v:V):Int:=Builtin.bitXor (Qpd v) (Qpd v / 32768)
def QM(v:V):Nat:=M11.lev 6 (Zkb v)
theorem QIc{α β:Type}{l:List α}{c:α}{f:β->α->β}{a:β}(h:l[i]?=Vo c):(l.take (i+1)).foldl f a=f ((l.take i).foldl f a) c:=by
 rw[LZ,h];simp
theorem YLc{z:Str}{c:Nat}(h:z.cps.toList[i]?=Vo c):(Z2a z)[i]?=Vo (c:Int):=by
 unfold Z2a;rw[Oe,h]
 rfl
theorem Jvc(z:Str):(Z2a z).length=z.length:=by
 unfold Z2a;rw[UJ];simp[Str.length]
theorem YMc{α:Type}{l:List α}{k:Int}(h0:0<=k)(h1:k < (l.length:Int)):∃ c,atI l k=Vo c:=by
 have hk:k.toNat < l.length:=by lia
 have ek:k=((k.toNat:Nat):Int):=by lia
 have h:=Zx (xs:=l) (j:=k.toNat) (I0 hk)
 rw[<- ek]at h;exact⟨_,h⟩
inductive YT(aD:VD)(vs:List V)(H:Hp)(Q:VK)(E:XK):Prop
 | mk:∀ v,vs=[v]->Q6 v->Q (.int (Qpd v)) H->YT aD vs H Q E
inductive Xya(aD:VD)(vs:List V)(H:Hp)(Q:VK)(E:XK):Prop
 | mk:∀ v,vs=[v]->Q6 v->Q (.int (Zkb v)) H->Xya aD vs H Q E
inductive QXa(aD:VD)(vs:List V)(H:Hp)(Q:VK)(E:XK):Prop
 | mk:∀ v,vs=[v]->Q6 v->Q (.int (QM v)) H->QXa aD vs H Q E
theorem QYa{K:VD}:UP K (.type "int") (.type "str")=Vo false:=by rfl
theorem QZa{K:VD}:UP K (.type "str") (.type "str")=Vo true:=by rfl
seal PE PT PW PA PS PSs PI PG QT PGs PO in
theorem Xza(Z:Zs mg)(T:Tx K mg CT cs ob)(F:Fun K "mixed_first" "mixed_first" Xb f fd):QE P w K mg base CX0 1 f fd ["key"] (YT K):=by
 refine F.ok JB (λvs H Q E h=>?_) (λap A outer s H vs Q E hr h=>?_)
 ·walk_at "n"
 obtain⟨v,rfl,hv,q⟩:=h;refine⟨_,(Qb (QK (YLa (Qwa (Q5 Y1 rfl (Z.isinstance) J3 (Qh (pv 0) (Qh (Yua rfl (Z.str) QXb (v:=.ty "str") rfl) Qe))) (λ_=>rfl))) (Qg (Qo (Ql QO (Ql Zk (Ql Jz (pv 0) Qd) Qd) (Yya (Z.MODULUS) rfl)))) Qw)
  (Qb (Qi 1 JB.nd Qd)
  (Qb (Jm Da rfl (XTc (pv 0)) (ZF (i:=2) JB.nd rfl (OB rfl)) (Qg (Qi 1 JB.nd (Ql QO (Ql Zk (Ql Jz (pv 1) Qd) (Q5 Q3c rfl (Z.ord) XUc (Qh (pv 2) Qe))) (Yya (Z.MODULUS) rfl)))))
  (Qg (Qo (pv 1)))))),?_⟩
 refine Qm (σ:=[Vo v,Vp,Vp]) rfl ?_
 walk_at "rd";cases v with
 | int n =>
  refine QEa (.int n) QYa ⟨_,rfl,?_⟩
  walk_at "rd";walk_at "go";exact q
 | str z =>
  refine QEa (.str z) QZa ⟨_,rfl,?_⟩
  walk_at "rd";refine Ysc (z:=z) (λi σ' H'=>H'=H/\∃ x,σ'=[Vo (.str z),Vo (.int (((Z2a z).take i).foldl (λm c=>(m * 131+c) % 2147483647) 7)),x]) ⟨rfl,_,rfl⟩ ?_ ?_
  ·rintro i c σ' H' hc ⟨rfl,x,rfl⟩
   walk_at "rd";have hr:=M11.YJb ((Z2a z).take i) 7 #[1] #[1]
   refine⟨by refine Yab.ok ?_;unfold Yab;lia,rfl,?_,_,rfl⟩
   rw[QIc (YLc hc)]
   rfl
  ·rintro σ' H' ⟨rfl,x,rfl⟩
   walk_at "rd";rw[Ix (by rw[Jvc];exact Um _)]
   exact q
 | _=>exact hv.elim
seal PE PT PW PA PS PSs PI PG QT PGs PO in
theorem Jwc(Z:Zs mg)(T:Tx K mg CT cs ob)(y3:Cal P w K mg base 1 "mixed_first" ["key"] (YT K))(F:Fun K "mixed" "mixed" Zdb f fd):QE P w K mg base CX0 2 f fd ["key"] (Xya K):=by
 refine F.ok JBb (λvs H Q E h=>?_) (λap A outer s H vs Q E hr h=>?_)
 ·walk_at "n"
 obtain⟨v,rfl,hv,q⟩:=h;refine⟨_,(Qb (Qi 1 JBb.nd (Qr y3 hr (Qh (pv 0) Qe)))
  (Qg (Qo (Ql Q1c (pv 1) (Ql Ycb (pv 1) Qd))))),?_⟩
 refine Qm (σ:=[Vo v,Vp]) rfl ?_
 walk_at "rd";refine⟨v,rfl,hv,?_⟩
 walk_at "rd";walk_at "go";exact q
seal PE PT PW PA PS PSs PI PG QT PGs PO in
theorem JEb(Z:Zs mg)(T:Tx K mg CT cs ob)(y6:Cal P w K mg base 2 "mixed" ["key"] (Xya K))(F:Fun K "level_of" "level_of" ZZa f fd):QE P w K mg base CX0 3 f fd ["key"] (QXa K):=by
 refine F.ok Yh (λvs H Q E h=>?_) (λap A outer s H vs Q E hr h=>?_)
 ·walk_at "n"
 obtain⟨v,rfl,hv,q⟩:=h;refine⟨_,(Qb (Qi 1 Yh.nd (Qr y6 hr (Qh (pv 0) Qe)))
  (Qb (Qi 2 Yh.nd Qd)
  (Qb (Qxa Da (PW.pt (JIa (Qq ZUb (pv 2) (Yya (Z.TOP_LEVEL) rfl) (Qu _)) (Zea (Qq ZJ (Ql QO (pv 1) Qd) Qd (Qu _))))) (Qb (Qi 1 Yh.nd (Ql Ycb (pv 1) Qd))
  (Qg (Qi 2 Yh.nd (Ql Zk (pv 2) Qd)))))
  (Qg (Qo (pv 2)))))),?_⟩
 refine Qm (σ:=[Vo v,Vp,Vp]) rfl ?_
 walk_at "rd";refine⟨v,rfl,hv,?_⟩
 walk_at "rd";refine⟨λm σ' H'=>H'=H/\∃ (r:Int) (l:Nat),σ'=[Vo v,Vo (.int r),Vo (.int l)]/\l<=6/\m=6 - l/\l+M11.lev (6 - l) r=QM v,⟨6,rfl,Zkb v,0,rfl,by decide,rfl,by show 0+M11.lev 6 (Zkb v)=QM v;rw[IN];rfl⟩,?_⟩
 rintro m σ' H' ⟨rfl,r,l,rfl,hl,rfl,e⟩;walk_at "rd"
 by_cases h1:l < 6
 ·rw[if_pos #[0]]
  walk_at "go"
  by_cases h2:r % 4=0
  ·rw[if_pos h2]
   refine⟨λσ2 H2=>H2=H'/\σ2=[Vo v,Vo (.int (r / 4)),Vo (.int ((l+1:Nat):Int))],λσ2 H2 ⟨a,b⟩=>⟨6 - (l+1),by lia,a,r / 4,l+1,b,by lia,rfl,M11.Juc e h1 h2⟩,?_⟩
   walk_at "rd";exact⟨rfl,by lia⟩
  ·rw[if_neg h2]
   have:=M11.XJb e (λz=>h2 z.2) hl
   rw[this];exact q
 ·rw[if_neg #[0]]
  have:=M11.XJb e (λz=>h1 z.1) hl
  rw[this];exact q
def pgF(tw:Bool)(l:Int)(t:Vh):List (Str×V):=Z3 (if tw=true then "heads" else "rows") (.ref t) (Z3 "entries" (.ref t) (Z3 "level" (.int l) []))
theorem JFb{tw:Bool}:(if tw=true then 2 else 1) < 8:=by cases tw <;> decide
inductive PgD(ob:Nat->Vh)(H:Hp)(a:Vh)(l:Int)(es:List Dt):Prop
 | mk (tw:Bool) (dx t:Vh) (e:tw=decide (l≠0)) (h:H a=Vo (.ins (ob (if tw=true then 2 else 1)) dx (pgF tw l t))) (r:TD H 7 (.t es) (.ref t)):PgD ob H a l es
theorem PgD.same(h:PgD ob H a l es)(s:Qn H H'):PgD ob H' a l es:=by
 obtain⟨tw,dx,t,e,h1,h2⟩:=h;exact⟨tw,dx,t,e,s _ _ h1,h2.same s⟩
section
variable{K:VD}{mg:Str->Option Va}{CT:Vh}{cs ob:Nat->Vh}{a t dx:Vh}{tw:Bool}{l:Int}{i:Nat}{σ:St}{H:Hp}{Q:VK}
theorem Q0a(T:Tx K mg CT cs ob)(hs:σ[i]?=Vo (Vo (.ref a)))(ha:H a=Vo (.ins (ob (if tw=true then 2 else 1)) dx (pgF tw l t)))(q:Q (.int l) H):Q6c K (Yv i) "level" σ H Q :=
 QJ (T.ob_ _ JFb) #[1] hs ha (by cases tw <;> rfl) q
theorem Js(T:Tx K mg CT cs ob)(hs:σ[i]?=Vo (Vo (.ref a)))(ha:H a=Vo (.ins (ob (if tw=true then 2 else 1)) dx (pgF tw l t)))(q:Q (.ref t) H):Q6c K (Yv i) "entries" σ H Q :=
 QJ (T.ob_ _ JFb) #[1] hs ha (by cases tw <;> rfl) q
end
theorem YOc{x:V}(h:xs[0]?=Vo x):atI xs 0=Vo x:=Zx (j:=0) h
inductive Jg(aD:VD)(ob:Nat->Vh)(vs:List V)(H:Hp)(Q:VK)(E:XK):Prop
 | mk:∀ a l es,vs=[.ref a]->PgD ob H a l es->(∀ r H',Qn H H'->H r=Vp->TD H' 8 (Zm l es) (.ref r)->Q (.ref r) H')->Jg aD ob vs H Q E
seal PE PT PW PA PS PSs PI PG QT PGs PO in
theorem X8(Z:Zs mg)(T:Tx K mg CT cs ob)(F:Fun K "told" "Page.told" QMa f fd):QE P w K mg base (CX1 P w) 1 f fd ["self"] (Jg K ob):=by
 refine F.ok1 Zab (λvs H Q E h=>?_) (λap A outer s H vs Q E hr h=>?_)
 ·walk_at "n"
 obtain⟨a,l,es,rfl,hP,q⟩:=h;refine⟨_,(Qg (Qo (ZM (Qh (Qz (pv 0) rfl) (Qh (Qz (pv 0) rfl) Qe))))),?_⟩
 refine Qm (σ:=[Vo (.ref a)]) rfl ?_
 walk_at "rd";obtain⟨tw,dx,t,_,ha,ht⟩:=hP;exact Q0a T rfl ha (Js T rfl ha ⟨JA,λp hp=>q p _ (Qf hp _) hp (TD.pair Qa (.ofV rfl) (ht.same (Qf hp _)))⟩)
inductive ZU(aD:VD)(ob:Nat->Vh)(vs:List V)(H:Hp)(Q:VK)(E:XK):Prop
 | mk:∀ a l k r es,vs=[.ref a]->PgD ob H a l (.t (.v k::r)::es)->Q k H->ZU aD ob vs H Q E
seal PE PT PW PA PS PSs PI PG QT PGs PO in
theorem Xm(Z:Zs mg)(T:Tx K mg CT cs ob)(F:Fun K "first" "Page.first" XT f fd):QE P w K mg base (CX1 P w) 1 f fd ["self"] (ZU K ob):=by
 refine F.ok1 XXa (λvs H Q E h=>?_) (λap A outer s H vs Q E hr h=>?_)
 ·walk_at "n"
 obtain⟨a,l,k,r,es,rfl,hP,q⟩:=h;refine⟨_,(Qg (Qo (QA QC (QA QC (Qz (pv 0) rfl) Qd (λ_ _=>rfl)) Qd (λ_ _=>rfl)))),?_⟩
 refine Qm (σ:=[Vo (.ref a)]) rfl ?_
 walk_at "rd";obtain⟨tw,dx,t,_,ha,ht⟩:=hP;obtain⟨_,_,xs,_,e,bH,rt⟩:=ht.tup;cases e;cases rt with
 | cons r1 _ =>
  obtain⟨_,b,ys,_,rfl,hb,rb⟩:=r1.tup;cases rb with
  | cons r2 _ =>
   obtain⟨_,rfl⟩:=r2.flat;exact Js T rfl ha ⟨t,rfl,_,SqT.of bH,_,YOc rfl,b,rfl,_,SqT.of hb,_,YOc rfl,q⟩
inductive JF(K:VD)(ob:Nat->Vh)(vs:List V)(H:Hp)(Q:VK)(E:XK):Prop
 | mk:∀ a tw dx l e b xs,vs=[.ref a,.int l,.ref e]->H a=Vo (.ins (ob (if tw=true then 2 else 1)) dx [])->HE b H e xs->xs.length<=900->(∀ t H',H' a=Vo (.ins (ob (if tw=true then 2 else 1)) dx (Z3 "entries" (.ref t) (Z3 "level" (.int l) [])))->H' t=Vo (.tup xs)->(∀ fs,Qn (upd H a (.ins (ob (if tw=true then 2 else 1)) dx fs)) (upd H' a (.ins (ob (if tw=true then 2 else 1)) dx fs)))->Q .non H')->JF K ob vs H Q E
seal PE PT PW PA PS PSs PI PG QT PGs PO in
theorem Zlb(Z:Zs mg)(T:Tx K mg CT cs ob)(F:Fun K "__init__" "Page.__init__" QLa f fd):QE P w K mg base CX0 1 f fd ["self","level","entries"] (JF K ob):=by
 refine F.ok Q9b (λvs H Q E h=>?_) (λap A outer s H vs Q E hr h=>?_)
 ·walk_at "n"
 obtain⟨a,tw,dx,l,e,b,xs,rfl,ha,he,lx,q⟩:=h;refine⟨_,(Qb (Jy (pv 0) (pv 1) rfl)
  (Qg (Jy (pv 0) (QS Zza rfl (Z.tuple) Z5b (Qh (pv 2) Qe)) rfl))),?_⟩
 refine Qm (σ:=[Vo (.ref a),Vo (.int l),Vo (.ref e)]) rfl ?_
 walk_at "rd";have c:=T.ob_ _ (JFb (tw:=tw));generalize ob (if tw=true then 2 else 1)=C at *
 refine JPa c #[1] rfl (y:=.int l) (H1:=H) (λQ q=>q) ha #[1] ?_
 have jk:HE b _ e xs:=HE.upd_ins (o:=.ins C dx (Z3 "level" (.int l) [])) he ha;have last:∀ (t:Vh) (H1:Hp),H1 a=Vo (.ins C dx (Z3 "level" (.int l) []))->H1 t=Vo (.tup xs)->(∀ fs,Qn (upd H a (.ins C dx fs)) (upd H1 a (.ins C dx fs)))->Q .non (upd H1 a (.ins C dx (Z3 "entries" (.ref t) (Z3 "level" (.int l) [])))):=by
  intro t H1 h1 ht kG;have ta:t≠a:=λz=>by rw[z,h1]at ht;cases ht
  exact q t _ Qa (by rw[Qk ta];exact ht) λfs=>by rw[ZY];exact kG fs
 cases b with
 | false =>
  refine⟨e,rfl,xs,.inl ⟨SqL.of jk,λt ht=>⟨a,C,dx,_,rfl,Qf ht _ _ _ Qa,c.cl,c.no _ #[1],show 1 < 1000 by decide,?_⟩⟩⟩
  have ta:t≠a:=λz=>by rw[z,Qa]at ht;cases ht
  refine last t _ (Qf ht _ _ _ Qa) Qa λfs=>?_
  rw[Jnb (VR ta),ZY,<- Jnb (VR ta)];exact Qf (by rw[Qk ta]at ht ⊢;exact ht) _
 | true =>
  refine⟨e,rfl,xs,.inr ⟨SqT.of jk,⟨a,C,dx,_,rfl,Qa,c.cl,c.no _ #[1],show 1 < 1000 by decide,?_⟩⟩⟩
  exact last e _ Qa jk λfs=>by rw[ZY];exact Qn.refl _
theorem QGb{C dx C' iE:Vh}{fs fm:List (Str×V)}(ha:H a=Vo (.ins C dx fs))(s:Qn (upd H a (.ins C' iE fm)) H'):ZK H H':=λb xs e=>s _ _ (by rw[Qk (Yt e ha (by intro z;cases z))];exact e)
inductive YA(K:VD)(ob:Nat->Vh)(vs:List V)(H:Hp)(Q:VK)(E:XK):Prop
 | mk:∀ a dx e b xs es,vs=[.ref a,.ref e]->H a=Vo (.ins (ob 1) dx [])->HE b H e xs->Vm (λd v=>TD H 6 d v) es xs->xs.length<=900->(∀ dx fs H',Qn (upd H a (.ins (ob 1) dx fs)) H'->PgD ob H' a 0 es->Q .non H')->YA K ob vs H Q E
seal PE PT PW PA PS PSs PI PG QT PGs PO in
theorem Zmb(Z:Zs mg)(T:Tx K mg CT cs ob)(be:BaI P w K mg base 1 "Page" (JF K ob))(F:Fun K "__init__" "Leaf.__init__" QRa f fd):QE P w K mg base CX0 2 f fd ["self","rows"] (YA K ob):=by
 refine F.ok Zeb (λvs H Q E h=>?_) (λap A outer s H vs Q E hr h=>?_)
 ·walk_at "n"
 obtain⟨a,dx,e,b,xs,es,rfl,ha,he,re,lx,q⟩:=h;refine⟨_,(Qb (Zh (Zja be (k:=1) hr #[1] rfl (Qh (pv 0) (Qh Qd (Qh (pv 1) Qe)))))
  (Qg (Jy (pv 0) (Qz (pv 0) rfl) rfl))),?_⟩
 refine Qm (σ:=[Vo (.ref a),Vo (.ref e)]) rfl ?_
 walk_at "rd";have c:=T.ob_ 1 #[1]
 refine⟨a,false,dx,0,e,b,xs,rfl,ha,he,lx,λt H1 h1 ht hs=>?_⟩
 have ta:t≠a:=λz=>by rw[z,h1]at ht;cases ht
 refine JPa c #[1] rfl (y:=.ref t) (H1:=H1) (λQ q=>QJ c #[1] rfl h1 rfl q) h1 (show 2 < 1000 by decide) ?_
 exact q dx _ _ (hs _) ⟨false,dx,t,rfl,Qa,TD.ofT (by rw[Qk ta];exact ht) (TDs.sameT re (QGb ha (hs _)))⟩
inductive YB(K:VD)(ob:Nat->Vh)(vs:List V)(H:Hp)(Q:VK)(E:XK):Prop
 | mk:∀ a dx l e b xs es,vs=[.ref a,.int l,.ref e]->l≠0->H a=Vo (.ins (ob 2) dx [])->HE b H e xs->Vm (λd v=>TD H 6 d v) es xs->xs.length<=900->(∀ dx fs H',Qn (upd H a (.ins (ob 2) dx fs)) H'->PgD ob H' a l es->Q .non H')->YB K ob vs H Q E
seal PE PT PW PA PS PSs PI PG QT PGs PO in
theorem Znb(Z:Zs mg)(T:Tx K mg CT cs ob)(be:BaI P w K mg base 1 "Page" (JF K ob))(F:Fun K "__init__" "Twig.__init__" QSa f fd):QE P w K mg base CX0 2 f fd ["self","level","heads"] (YB K ob):=by
 refine F.ok Zfb (λvs H Q E h=>?_) (λap A outer s H vs Q E hr h=>?_)
 ·walk_at "n"
 obtain⟨a,dx,l,e,b,xs,es,rfl,hl,ha,he,re,lx,q⟩:=h;refine⟨_,(Qb (Zh (Zja be (k:=1) hr #[1] rfl (Qh (pv 0) (Qh (pv 1) (Qh (pv 2) Qe)))))
  (Qg (Jy (pv 0) (Qz (pv 0) rfl) rfl))),?_⟩
 refine Qm (σ:=[Vo (.ref a),Vo (.int l),Vo (.ref e)]) rfl ?_
 walk_at "rd";have c:=T.ob_ 2 #[1]
 refine⟨a,true,dx,l,e,b,xs,rfl,ha,he,lx,λt H1 h1 ht hs=>?_⟩
 have ta:t≠a:=λz=>by rw[z,h1]at ht;cases ht
 refine JPa c #[1] rfl (y:=.ref t) (H1:=H1) (λQ q=>QJ c #[1] rfl h1 rfl q) h1 (show 2 < 1000 by decide) ?_
 exact q dx _ _ (hs _) ⟨true,dx,t,(decide_eq_true hl).symm,Qa,TD.ofT (by rw[Qk ta];exact ht) (TDs.sameT re (QGb ha (hs _)))⟩
inductive X9(aD:VD)(ob:Nat->Vh)(vs:List V)(H:Hp)(Q:VK)(E:XK):Prop
 | mk:∀ l e b xs es,vs=[.int l,.ref e]->HE b H e xs->Vm (λd v=>TD H 6 d v) es xs->xs.length<=900->(∀ a H',Qn H H'->H a=Vp->PgD ob H' a l es->Q (.ref a) H')->X9 aD ob vs H Q E
seal PE PT PW PA PS PSs PI PG QT PGs PO in
theorem YKb(Z:Zs mg)(T:Tx K mg CT cs ob)(qz:MkV P w K mg base 2 "Twig" (ob 2) (YB K ob))(qA:MkV P w K mg base 2 "Leaf" (ob 1) (YA K ob))(F:Fun K "page_of" "page_of" JWa f fd):QE P w K mg base CX0 4 f fd ["level","entries"] (X9 K ob):=by
 refine F.ok YDb (λvs H Q E h=>?_) (λap A outer s H vs Q E hr h=>?_)
 ·walk_at "n"
 obtain⟨l,e,b,xs,es,rfl,he,re,lx,q⟩:=h;refine⟨_,(Qb (QK (Qq ZJ (pv 0) Qd (Qu _)) (Qg (Qo (Jhb qA (k:=3) hr #[1] rfl (Qh (pv 1) Qe)))) Qw)
  (Qg (Qo (Jhb qz (k:=3) hr #[1] rfl (Qh (pv 0) (Qh (pv 1) Qe)))))),?_⟩
 refine Qm (σ:=[Vo (.int l),Vo (.ref e)]) rfl ?_
 walk_at "rd";have sH:∀ (x dx:Vh) (o u:HO),H x=Vp->H dx=Vp->Qn H (upd (upd H dx u) x o):=λx dx o u h1 h2=>XJ h1 h2 (Qn.refl _)
 refine ZL (λh=>?_) λh=>?_
 ·refine λx dx hx bt ax=>⟨x,dx,e,b,xs,es,rfl,Qa,he.same (sH _ _ _ _ hx bt),TDs.sameT re (sH _ _ _ _ hx bt).t,lx,λiE fs H' s' pg=>⟨rfl,q x H' ?_ hx ?_⟩⟩
  ·rw[ZY]at s';exact XJ hx bt s'
  ·subst h;exact pg
 ·refine λx dx hx bt ax=>⟨x,dx,l,e,b,xs,es,rfl,h,Qa,he.same (sH _ _ _ _ hx bt),TDs.sameT re (sH _ _ _ _ hx bt).t,lx,λiE fs H' s' pg=>⟨rfl,q x H' ?_ hx pg⟩⟩
  rw[ZY]at s';exact XJ hx bt s'
abbrev StL:=List (Int×Dt×Vh)
def stF(d1 d2:Vh)(c:Int):List (Str×V):=Z3 "count" (.int c) (Z3 "number_by_told" (.ref d2) (Z3 "told_by_number" (.ref d1) []))
def XAa(x:Int×Dt×Vh):Key×V:=(.inl x.1,.ref x.2.2)
def Q1a(x:Int×Dt×Vh):Dt×Vh×V:=(x.2.1,x.2.2,.int x.1)
def Qqd(d:Dt):Prop:=∃ l k r,∃ es:List Dt,d=Zm l (.t (.v k::r)::es)/\hV k=true/\es.length < 900
structure QF(P:Vg)(w:Vb)(ob:Nat->Vh)(H:Hp)(p d1 d2:Vh)(st:StL)(c:Int):Prop where
 obj:∃ dx,H p=Vo (.ins (ob 3) dx (stF d1 d2 c))
 num:H d1=Vo (.dK (st.map XAa))
 tol:H d2=Vo (dN P w d2 (st.map Q1a))
 td:∀ x∈st,TD H 8 x.2.1 (.ref x.2.2)
 sh:∀ x∈st,Qqd x.2.1
 lt:∀ x∈st,x.1 < c
 nn:(st.map (·.1)).Nodup
 nd:(st.map (·.2.1)).Nodup
 few:st.length<=16000000
section
variable{P:Vg}{w:Vb}{K:VD}{ob:Nat->Vh}{H H':Hp}{p d1 d2:Vh}{st:StL}{c:Int}
theorem QF.pd1(h:QF P w ob H p d1 d2 st c):p≠d1:=by
 obtain⟨dx,e⟩:=h.obj;exact Yt e h.num (by intro z;cases z)
theorem QF.pd2(h:QF P w ob H p d1 d2 st c):p≠d2:=by
 obtain⟨dx,e⟩:=h.obj;exact Yt e h.tol (by intro z;cases z)
theorem QF.d12(h:QF P w ob H p d1 d2 st c):d1≠d2:=Yt h.num h.tol (by intro z;cases z)
theorem QF.keep(h:QF P w ob H p d1 d2 st c)(s:ZK H H')(hp:H' p=H p)(h1:H' d1=H d1)(h2:H' d2=H d2):QF P w ob H' p d1 d2 st c :=
 ⟨by rw[hp];exact h.obj,by rw[h1];exact h.num,by rw[h2];exact h.tol,λx hx=>TD.sameT s 8 (h.td x hx),h.sh,h.lt,h.nn,h.nd,h.few⟩
theorem QF.same(h:QF P w ob H p d1 d2 st c)(s:Qn H H'):QF P w ob H' p d1 d2 st c:=by
 obtain⟨dx,e⟩:=h.obj;exact h.keep s.t (by rw[s _ _ e,e]) (by rw[s _ _ h.num,h.num]) (by rw[s _ _ h.tol,h.tol])
theorem QF.dn(h:QF P w ob H p d1 d2 st c):Xea P w K H d2 (st.map Q1a):=⟨h.tol,λx hx=>by
 obtain⟨y,hy,rfl⟩:=mem_map.mp hx;exact⟨(h.td y hy).rep,(h.td y hy).h⟩⟩
theorem QF.get(h:QF P w ob H p d1 d2 st c){x:Int×Dt×Vh}(hx:x∈st):ZB (st.map XAa) (.inl x.1)=Vo (.ref x.2.2):=by
 rw[QBb];have:(λy:Int×Dt×Vh=>decide ((XAa y).1=(Vc x.1:Key)))=λy=>decide (y.1=x.1):=by
  funext y
  exact decide_eq_decide.mpr ⟨λe=>by injection e,λe=>by show Vc _=_;rw[e]⟩
 rw[this,Xs (λy:Int×Dt×Vh=>y.1) h.nn hx];rfl
theorem QF.getN(h:QF P w ob H p d1 d2 st c){x:Int×Dt×Vh}(hx:x∈st):ZUa (st.map Q1a) x.2.1=Vo (.int x.1):=by
 rw[Jrb];have:=Xs (λy:Int×Dt×Vh=>y.2.1) h.nd hx
 rw[show(λy:Int×Dt×Vh=>decide ((Q1a y).1=x.2.1))=λy=>decide (y.2.1=x.2.1) from rfl,this];rfl
theorem QF.fun_(h:QF P w ob H p d1 d2 st c){n:Int}{d d':Dt}{t t':Vh}(h1:(n,d,t)∈st)(h2:(n,d',t')∈st):d=d'/\t=t':=by
 have e1:=Xs (λy:Int×Dt×Vh=>y.1) h.nn h1
 have e2:=Xs (λy:Int×Dt×Vh=>y.1) h.nn h2
 have e:=e1.symm.trans e2;injection e with e
 injection e with _ e
 injection e with a b
 exact⟨a,b⟩
theorem Xpc(h:∀ x∈st,x.1≠n):ZB (st.map XAa) (.inl n)=Vp:=by
 rw[QBb];have:(λy:Int×Dt×Vh=>decide ((XAa y).1=(Vc n:Key)))=λy=>decide (y.1=n):=by
  funext y
  exact decide_eq_decide.mpr ⟨λe=>by injection e,λe=>by show Vc _=_;rw[e]⟩
 rw[this,XFb (λy:Int×Dt×Vh=>y.1) h];rfl
theorem Jxc(h:∀ x∈st,x.2.1≠d):ZUa (st.map Q1a) d=Vp:=by
 rw[Jrb];have:=XFb (λy:Int×Dt×Vh=>y.2.1) h
 rw[show(λy:Int×Dt×Vh=>decide ((Q1a y).1=d))=λy=>decide (y.2.1=d) from rfl,this];rfl
theorem ZN(h:QF P w ob H p d1 d2 st c)(s:QN [p,d1,d2] H H'):ZK H H':=λb xs e=>s b _ (λz=>by
 obtain⟨dx,eo⟩:=h.obj
 rcases mem_cons.mp z with z | z
 ·rw[z,eo]at e;cases e
 rcases mem_cons.mp z with z | z
 ·rw[z,h.num]at e;cases e
 ·rw[mem_singleton.mp z,h.tol]at e;cases e) e
end
inductive J5(P:Vg)(w:Vb)(ob:Nat->Vh)(vs:List V)(H:Hp)(Q:VK)(E:XK):Prop
 | mk:∀ p dx,vs=[.ref p]->H p=Vo (.ins (ob 3) dx [])->(∀ d1 d2 H' dx fs,H d1=Vp->H d2=Vp->Qn (upd H p (.ins (ob 3) dx fs)) H'->QF P w ob H' p d1 d2 [] 0->Q .non H')->J5 P w ob vs H Q E
seal PE PT PW PA PS PSs PI PG QT PGs PO in
theorem X5a(Z:Zs mg)(T:Tx K mg CT cs ob)(F:Fun K "__init__" "Pages.__init__" XV f fd):QE P w K mg base CX0 1 f fd ["self"] (J5 P w ob):=by
 refine F.ok X0a (λvs H Q E h=>?_) (λap A outer s H vs Q E hr h=>?_)
 ·walk_at "n"
 obtain⟨a,dx,rfl,ha,q⟩:=h;refine⟨_,(Qb (Jy (pv 0) YZa rfl)
  (Qb (Jy (pv 0) Jec rfl)
  (Qg (Jy (pv 0) Qd rfl)))),?_⟩
 refine Qm (σ:=[Vo (.ref a)]) rfl ?_
 walk_at "rd";have c:=T.ob_ 3 #[1]
 intro p hp;have pa:a≠p:=λz=>by rw[<- z,ha]at hp;cases hp
 refine⟨a,ob 3,dx,_,rfl,by rw[Qk pa];exact ha,c.cl,c.no _ #[1],by decide,?_⟩
 intro p2 bM;have qB:a≠p2:=λz=>by rw[<- z,Qa]at bM;cases bM
 have fT:upd H p (.dK []) p2=Vp:=by rw[Qk (VR qB)]at bM;exact bM
 have pp:p2≠p:=λz=>by rw[z,Qa]at fT;cases fT
 have gE:H p2=Vp:=by rw[Qk pp]at fT;exact fT
 refine⟨a,ob 3,dx,Z3 "told_by_number" (.ref p) [],rfl,by rw[Qk qB];exact Qa,c.cl,c.no _ #[1],(show 1 < 1000 by decide),?_⟩
 refine⟨a,ob 3,dx,Z3 "number_by_told" (.ref p2) (Z3 "told_by_number" (.ref p) []),rfl,Qa,c.cl,c.no _ #[1],(show 2 < 1000 by decide),?_⟩
 show Q V.non _;rw[ZY];refine q p p2 _ dx (stF p p2 0) hp gE (λb o hb=>?_) ⟨⟨dx,Qa⟩,?_,?_,(λx hx=>nomatch hx),(λx hx=>nomatch hx),(λx hx=>nomatch hx),Dw,Dw,Us _⟩
 ·by_cases e:b=a
  ·rw[e,Qa]at hb ⊢;exact hb
  ·rw[Qk e]at hb ⊢
   rw[Qk (Qy hb gE),Qk e,Qk (Qy hb hp)];exact hb
 ·rw[Qk (VR pa),Qk (VR pp),Qk (VR pa)];exact Qa
 ·rw[Qk (VR qB)];exact Qa
inductive Jh(P:Vg)(w:Vb)(cs ob:Nat->Vh)(vs:List V)(H:Hp)(Q:VK)(E:XK):Prop
 | mk:∀ p d1 d2 st c n,vs=[.ref p,.int n]->QF P w ob H p d1 d2 st c->(∀ d t,(n,d,t)∈st->Q (.ref t) H)->((∀ x∈st,x.1≠n)->∀ d,H d=Vp->E (.ref (cs 0)) (Vo d) (upd H d (xD d [("number",.int n)])))->Jh P w cs ob vs H Q E
seal PE PT PW PA PS PSs PI PG QT PGs PO in
theorem J1a(Z:Zs mg)(T:Tx K mg CT cs ob)(qC:MkX P w K mg base 1 "NoPage" (cs 0) CT ["number"])(F:Fun K "told_at" "Pages.told_at" Yo f fd):QE P w K mg base (CX1 P w) 3 f fd ["self","number"] (Jh P w cs ob):=by
 refine F.ok1 JVa (λvs H Q E h=>?_) (λap A outer s H vs Q E hr h=>?_)
 ·walk_at "n"
 obtain⟨p,d1,d2,st,c,n,rfl,hS,q1,q2⟩:=h;refine⟨_,(Qb (QK (J8b (Qvb hr.u1 (pv 1) (Qz (pv 0) rfl))) (Qg (Zha Z1 rfl rfl rfl qC (k:=2) hr #[1] (Qh (pv 1) Qe))) Qw)
  (Qg (Qo (Xkb hr.u1 (Qz (pv 0) rfl) (pv 1) (λ_ _=>rfl))))),?_⟩
 refine Qm (σ:=[Vo (.ref p),Vo (.int n)]) rfl ?_
 walk_at "rd";obtain⟨dx,ho⟩:=hS.obj;have cc:=T.ob_ 3 #[1]
 refine QJ cc #[1] rfl ho rfl ⟨d1,rfl,_,QCa.k (k:=.inl n) hS.num,?_⟩
 by_cases hx:∃ x∈st,x.1=n
 ·obtain⟨⟨n',d,t⟩,hm,rfl⟩:=hx
  rw[hS.get hm];rw[if_neg #[2]]
  exact QJ cc #[1] rfl ho rfl ⟨d1,rfl,.ref t,by rw[<- hS.get hm];exact QCa.k (k:=.inl _) hS.num,q1 d t hm⟩
 ·have bG:∀ x∈st,x.1≠n:=λx h e=>hx ⟨x,h,e⟩
  rw[Xpc bG,if_pos #[1]]
  exact⟨rfl,show 1<=1000 by decide,λd hd=>q2 bG d hd⟩
inductive QV(P:Vg)(w:Vb)(cs ob:Nat->Vh)(vs:List V)(H:Hp)(Q:VK)(E:XK):Prop
 | mk:∀ p d1 d2 st c n,vs=[.ref p,.int n]->QF P w ob H p d1 d2 st c->(∀ l es t,(n,Zm l es,t)∈st->∀ a H',Qn H H'->H a=Vp->PgD ob H' a l es->Q (.ref a) H')->((∀ x∈st,x.1≠n)->∀ d,H d=Vp->E (.ref (cs 0)) (Vo d) (upd H d (xD d [("number",.int n)])))->QV P w cs ob vs H Q E
seal PE PT PW PA PS PSs PI PG QT PGs PO in
theorem X6a(Z:Zs mg)(T:Tx K mg CT cs ob)(qD:Cal P w K mg base 4 "page_of" ["level","entries"] (X9 K ob))(ZE:MeV P w K mg base 3 (ob 3) "told_at" (Jh P w cs ob))(F:Fun K "page" "Pages.page" X5 f fd):QE P w K mg base (CX1 P w) 5 f fd ["self","number"] (QV P w cs ob):=by
 refine F.ok1 ZIa (λvs H Q E h=>?_) (λap A outer s H vs Q E hr h=>?_)
 ·walk_at "n"
 obtain⟨p,d1,d2,st,c,n,rfl,hS,q1,q2⟩:=h;refine⟨_,(Qb (Qi 2 ZIa.nd (PE1.pe (Zb (k:=4) (pv 0) hr rfl (Qh (pv 1) Qe)) Z1))
  (Qg (Qo (Qr qD hr (Qh (QA QC (pv 2) Qd (λ_ _=>rfl)) (Qh (QA QC (pv 2) Qd (λ_ _=>rfl)) Qe)))))),?_⟩
 refine Qm (σ:=[Vo (.ref p),Vo (.int n),Vp]) rfl ?_
 walk_at "rd";obtain⟨dx,ho⟩:=hS.obj;have cc:=T.ob_ 3 #[1]
 refine Jn rfl ho rfl cc.cl (ZE.mono #[1]) ⟨p,d1,d2,st,c,n,rfl,hS,λd t hm=>?_,λhx d hd=>q2 hx d hd⟩
 obtain⟨l,k,r,es,ed,hk,le⟩:=hS.sh _ hm;have td:=hS.td _ hm;dsimp only at ed td;subst ed;obtain⟨_,x,z,e,ht,t1,t2⟩:=td.pair_of;cases e;obtain⟨_,rfl⟩:=t1.flat;obtain⟨m,e',xs,em,rfl,he,re⟩:=t2.tup;obtain rfl:m=6:=by lia
 refine⟨t,rfl,_,SqT.of ht,.int l,rfl,⟨t,rfl,_,SqT.of ht,.ref e',rfl,?_⟩⟩
 exact⟨l,e',true,xs,_,rfl,he,re,by have:=Vn re;simp at this;lia,λa H' s ha pg=>q1 l _ t hm a H' s ha pg⟩
inductive J6(P:Vg)(w:Vb)(ob:Nat->Vh)(vs:List V)(H:Hp)(Q:VK)(E:XK):Prop
 | mk:∀ p d1 d2 st c a l es,vs=[.ref p,.ref a]->QF P w ob H p d1 d2 st c->PgD ob H a l es->Qqd (Zm l es)->st.length < 16000000->(∀ n t,(n,Zm l es,t)∈st->∀ H',Qn H H'->Q (.int n) H')->((∀ x∈st,x.2.1≠Zm l es)->∀ t H',QN [p,d1,d2] H H'->QF P w ob H' p d1 d2 (st++[(c,Zm l es,t)]) (c+1)->Q (.int c) H')->J6 P w ob vs H Q E
seal PE PT PW PA PS PSs PI PG QT PGs PO in
theorem X7a(Z:Zs mg)(T:Tx K mg CT cs ob)(vj:MeV P w K mg base 1 (ob 0) "told" (Jg K ob))(qE:MeV P w K mg base 1 (ob 1) "told" (Jg K ob))(qF:MeV P w K mg base 1 (ob 2) "told" (Jg K ob))(F:Fun K "kept" "Pages.kept" XY f fd):QE P w K mg base (CX1 P w) 2 f fd ["self","page"] (J6 P w ob):=by
 refine F.ok1 Xh (λvs H Q E h=>?_) (λap A outer s H vs Q E hr h=>?_)
 ·walk_at "n"
 obtain⟨p,d1,d2,st,c,a,l,es,rfl,hS,hP,jS,few,q1,q2⟩:=h;refine⟨_,(Qb (Qi 2 Xh.nd (PE1.pe (XI (k:=1) (pv 1) hr rfl) Z1))
  (Qb (QK (J8b (Qgd hr.u9 (pv 2) (Qz (pv 0) rfl))) (Qg (Qo (YFc hr.u9 (Qz (pv 0) rfl) (pv 2) (λ_ _=>rfl)))) Qw)
  (Qb (Qi 3 Xh.nd (Qz (pv 0) rfl))
  (Qb (XE hr.u1 (Qz (pv 0) rfl) (pv 3) (pv 2) rfl)
  (Qb (YGc hr.u9 (Qz (pv 0) rfl) (pv 2) (pv 3) rfl)
  (Qb (Jy (pv 0) (Ql Zk (pv 3) Qd) rfl)
  (Qg (Qo (pv 3))))))))),?_⟩
 refine Qm (σ:=[Vo (.ref p),Vo (.ref a),Vp,Vp]) rfl ?_
 walk_at "rd";obtain⟨dx,ho⟩:=hS.obj;have cc:=T.ob_ 3 #[1]
 obtain⟨tw,y7,t0,cy,ha,ht⟩:=id hP;have Mt:MeV P w K mg base 1 (ob (if tw=true then 2 else 1)) "told" (Jg K ob):=by cases tw with | true=>exact qF | false=>exact qE
 refine Xr rfl ha (by cases tw <;> rfl) (T.ob_ _ JFb).cl Mt ⟨a,l,es,rfl,hP,λr H1 s1 vk t1=>?_⟩
 have bI:=hS.same s1;have dq:=s1 _ _ ho;refine QJ cc #[1] rfl dq rfl ⟨d2,rfl,r,rfl,_,bI.dn,Zm l es,t1.rep,t1.h,?_⟩
 by_cases hx:∃ x∈st,x.2.1=Zm l es
 ·obtain⟨⟨n,d,t⟩,hm,e⟩:=hx
  dsimp only at e;subst e;have g:=bI.getN hm;dsimp only at g;rw[g,if_pos (show(Vo (V.int n)).isSome=true from rfl)]
  exact QJ cc #[1] rfl dq rfl ⟨d2,rfl,r,rfl,_,bI.dn,Zm l es,t1.rep,t1.h,_,g,q1 n t hm _ s1⟩
 ·have bG:∀ x∈st,x.2.1≠Zm l es:=λx h e=>hx ⟨x,h,e⟩
  have hc:∀ x∈st,x.1≠c:=λx h e=>by have:=hS.lt x h;lia
  rw[Jxc bG,if_neg #[1]]
  refine QJ cc #[1] rfl dq rfl ?_
  refine QJ cc #[1] rfl dq rfl ⟨d1,rfl,_,YYa.k (k:=.inl c) bI.num (by rw[UJ,Uw];lia),?_⟩
  rw[Z0b _ (Xpc hc)];have fU:QN [p,d1,d2] H1 (upd H1 d1 (.dK (st.map XAa++[(.inl c,.ref r)]))):=(QN.refl _ _).upd #[2]
  have bR:=ZN bI fU;refine QJ cc #[1] rfl (by rw[Qk hS.pd1];exact dq) rfl ⟨d2,rfl,r,rfl,st.map Q1a,⟨by rw[Qk (VR hS.d12)];exact bI.tol,λx hx=>?_⟩,Zm l es,(TD.sameT bR 8 t1).rep,t1.h,Jxc bG,by rw[UJ,Uw];lia,?_⟩
  ·obtain⟨y,hy,rfl⟩:=mem_map.mp hx
   exact⟨(TD.sameT bR 8 (bI.td y hy)).rep,(bI.td y hy).h⟩
  generalize e2:upd H1 d1 (.dK (st.map XAa++[(.inl c,.ref r)]))=H2 at fU bR;have kH:QN [p,d1,d2] H1 (upd H2 d2 (dN P w d2 (st.map Q1a++[(Zm l es,r,.int c)]))):=fU.upd #[2]
  have p3:upd H2 d2 (dN P w d2 (st.map Q1a++[(Zm l es,r,.int c)])) p=Vo (.ins (ob 3) dx (stF d1 d2 c)):=by rw[Qk hS.pd2,<- e2,Qk hS.pd1];exact dq
  refine JPa (fs:=stF d1 d2 c) cc #[1] rfl (y:=.int (c+1)) (H1:=upd H2 d2 (dN P w d2 (st.map Q1a++[(Zm l es,r,.int c)]))) (λQ q=>by
   simp only[tOp,J6b,J7b,tC,rI0];exact⟨c,1,rfl,rfl,q⟩) p3 (show 3 < 1000 by decide) ?_
  have du:QN [p,d1,d2] H1 (upd (upd H2 d2 (dN P w d2 (st.map Q1a++[(Zm l es,r,.int c)]))) p (.ins (ob 3) dx (stF d1 d2 (c+1)))):=kH.upd #[2]
  have dS:=ZN bI du;refine q2 bG r _ ((s1.x _).trans du) ⟨⟨dx,Qa⟩,?_,?_,λx hx=>?_,λx hx=>?_,λx hx=>?_,?_,?_,?_⟩
  ·rw[Qk (VR hS.pd1),Qk hS.d12,<- e2,Qa,LM];rfl
  ·rw[Qk (VR hS.pd2),Qa,LM];rfl
  ·rcases mem_append.mp hx with h | h
   ·exact TD.sameT dS 8 (bI.td x h)
   ·rw[mem_singleton.mp h];exact TD.sameT dS 8 t1
  ·rcases mem_append.mp hx with h | h
   ·exact hS.sh x h
   ·rw[mem_singleton.mp h];exact jS
  ·rcases mem_append.mp hx with h | h
   ·have:=hS.lt x h;lia
   ·rw[mem_singleton.mp h];show c < c+1;lia
  ·rw[LM,Db]
   refine⟨hS.nn,by simp,λa ha b hb e=>?_⟩
   obtain⟨y,hy,rfl⟩:=mem_map.mp ha;simp at hb;exact hc y hy (by rw[e,hb])
  ·rw[LM,Db]
   refine⟨hS.nd,by simp,λa ha b hb e=>?_⟩
   obtain⟨y,hy,rfl⟩:=mem_map.mp ha;simp at hb;exact bG y hy (by rw[e,hb])
  ·rw[Oh];show _+1<=16000000;lia
inductive J7(P:Vg)(w:Vb)(cs ob:Nat->Vh)(vs:List V)(H:Hp)(Q:VK)(E:XK):Prop
 | mk:∀ p d1 d2 st c n,vs=[.ref p,.int n]->QF P w ob H p d1 d2 st c->(∀ l k r es t,(n,Zm l (.t (.v k::r)::es),t)∈st->∀ a H',Qn H H'->H a=Vp->TD H' 1 (.t [.v (.int l),.v k]) (.ref a)->Q (.ref a) H')->((∀ x∈st,x.1≠n)->∀ d,H d=Vp->E (.ref (cs 0)) (Vo d) (upd H d (xD d [("number",.int n)])))->J7 P w cs ob vs H Q E
seal PE PT PW PA PS PSs PI PG QT PGs PO in
theorem X8a(Z:Zs mg)(T:Tx K mg CT cs ob)(ZE:MeV P w K mg base 3 (ob 3) "told_at" (Jh P w cs ob))(F:Fun K "card" "Pages.card" X4 f fd):QE P w K mg base (CX1 P w) 4 f fd ["self","number"] (J7 P w cs ob):=by
 refine F.ok1 ZHa (λvs H Q E h=>?_) (λap A outer s H vs Q E hr h=>?_)
 ·walk_at "n"
 obtain⟨p,d1,d2,st,c,n,rfl,hS,q1,q2⟩:=h;refine⟨_,(Qb (Qi 2 ZHa.nd (PE1.pe (Zb (k:=3) (pv 0) hr rfl (Qh (pv 1) Qe)) Z1))
  (Qg (Qo (ZM (Qh (QA QC (pv 2) Qd (λ_ _=>rfl)) (Qh (QA QC (QA QC (QA QC (pv 2) Qd (λ_ _=>rfl)) Qd (λ_ _=>rfl)) Qd (λ_ _=>rfl)) Qe)))))),?_⟩
 refine Qm (σ:=[Vo (.ref p),Vo (.int n),Vp]) rfl ?_
 walk_at "rd";obtain⟨dx,ho⟩:=hS.obj;have cc:=T.ob_ 3 #[1]
 refine Jn rfl ho rfl cc.cl (ZE.mono #[1]) ⟨p,d1,d2,st,c,n,rfl,hS,λd t hm=>?_,λhx d hd=>q2 hx d hd⟩
 obtain⟨l,k,r,es,ed,hk,le⟩:=hS.sh _ hm;have td:=hS.td _ hm;dsimp only at ed td;subst ed;obtain⟨_,x,z,e,ht,t1,t2⟩:=td.pair_of;cases e;obtain⟨_,rfl⟩:=t1.flat;obtain⟨m,e',xs,em,rfl,he,re⟩:=t2.tup;cases re with
 | cons r1 _ =>
  obtain⟨_,b,ys,_,rfl,hb,rb⟩:=r1.tup;cases rb with
  | cons r2 _ =>
   obtain⟨_,rfl⟩:=r2.flat;exact⟨t,rfl,_,SqT.of ht,.int l,rfl,t,rfl,_,SqT.of ht,.ref e',rfl,e',rfl,_,SqT.of he,.ref b,YOc rfl,b,rfl,_,SqT.of hb,_,YOc rfl,JA,λa ha=>q1 l _ _ _ t hm a _ (Qf ha _) ha (TD.pair Qa (.ofV rfl) (.ofV hk))⟩
inductive YU(aD:VD)(vs:List V)(H:Hp)(Q:VK)(E:XK):Prop
 | mk:∀ v,vs=[v]->Q1 v->(∀ p,H p=Vp->Q (.ref p) (upd H p (.tup (rk v))))->YU aD vs H Q E
seal PE PT PW PA PS PSs PI PG QT PGs PO in
theorem YNb(Z:Zs mg)(T:Tx K mg CT cs ob)(F:Fun K "rank_of" "rank_of" JTa f fd):QE P w K mg base CX0 1 f fd ["value"] (YU K):=by
 refine F.ok YCb (λvs H Q E h=>?_) (λap A outer s H vs Q E hr h=>?_)
 ·walk_at "n"
 obtain⟨v,rfl,hv,q⟩:=h;refine⟨_,(Qb (QK (Qq Y8 (pv 0) Zz (Qu _)) (Qg (Qo (ZM (Qh Qd (Qh Qd Qe))))) Qw)
  (Qb (QK (Qwa (Q5 Y1 rfl (Z.isinstance) J3 (Qh (pv 0) (Qh (Yua rfl (Z.str) QXb (v:=.ty "str") rfl) Qe))) (λ_=>rfl)) (Qg (Qo (ZM (Qh Qd (Qh (pv 0) Qe))))) Qw)
  (Qg (Qo (ZM (Qh Qd (Qh (pv 0) Qe))))))),?_⟩
 refine Qm (σ:=[Vo v]) rfl ?_
 walk_at "rd";cases v with
 | non=>walk_at "rd";exact⟨by decide,q⟩
 | int n =>
  walk_at "rd";refine QEa (.int n) QYa ⟨_,rfl,?_⟩
  walk_at "rd";exact⟨by show 2<=Vs;decide,q⟩
 | str z =>
  walk_at "rd";refine QEa (.str z) QZa ⟨_,rfl,?_⟩
  walk_at "rd";exact⟨by show 2<=Vs;decide,q⟩
 | _=>exact hv.elim
inductive Xv(aD:VD)(vs:List V)(H:Hp)(Q:VK)(E:XK):Prop
 | mk:∀ a b,vs=[a,b]->Q1 a->Q1 b->(∀ H',Qn H H'->Q (.bl (ltV a b)) H')->Xv aD vs H Q E
seal PE PT PW PA PS PSs PI PG QT PGs PO in
theorem QJc(Z:Zs mg)(T:Tx K mg CT cs ob)(oJ:Cal P w K mg base 1 "rank_of" ["value"] (YU K))(F:Fun K "before" "before" Xqa f fd):QE P w K mg base CX0 2 f fd ["one","other"] (Xv K):=by
 refine F.ok QHc (λvs H Q E h=>?_) (λap A outer s H vs Q E hr h=>?_)
 ·walk_at "n"
 obtain⟨a,b,rfl,ha,hb,q⟩:=h;refine⟨_,(Qg (Qo (Yva (XRc (hr.units0)) (Qr oJ hr (Qh (pv 0) Qe)) (Qr oJ hr (Qh (pv 1) Qe)) (Qu _)))),?_⟩
 refine Qm (σ:=[Vo a,Vo b]) rfl ?_
 walk_at "rd";refine⟨a,rfl,ha,λp hp=>?_⟩
 walk_at "rd";refine⟨b,rfl,hb,λp2 bM=>?_⟩
 walk_at "rd";exact⟨rk a,SqT.of (by rw[Qk (Qy Qa bM)];exact Qa),rk b,SqT.of Qa,ltV a b,ZGc ha hb,q _ ((Qf hp _).trans (Qf bM _))⟩
def Jta(d:Dt):Prop:=∃ k r,d=.t (.v k::r)/\Q6 k
theorem XKb(h:Q6 k):hV k=true:=by
 cases k with
 | int n=>rfl
 | str z=>rfl
 | _=>exact h.elim
theorem YV(h:Q6 k):Pl.Q1 k:=by
 cases k with
 | int n=>exact h
 | str z=>exact h
 | _=>exact h.elim
theorem Qrd(k:V):QM k<=6:=M11.Jtc 6 _
theorem Zoa{d:Vh}{o:HO}(s:Qn H H')(n:H d=Vp):Qn H (upd H' d o):=λb u hb=>by
 rw[Qk (Qy hb n)];exact s b u hb
structure YC(H:Hp)(p:Vh)(ps:List Vh)(af:List (List V)):Prop where
 at_:H p=Vo (.lst (ps.map V.ref))
 len:ps.length=af.length
 part:∀ (i:Nat) q l,ps[i]?=Vo q->af[i]?=Vo l->H q=Vo (.lst l)
 nd:(p::ps).Nodup
section
variable{H:Hp}{p:Vh}{ps:List Vh}{af:List (List V)}
theorem YC.more{q:Vh}{l:List V}(pa:YC H p ps af)(hq:H q=Vp):YC (upd (upd H q (.lst l)) p (.lst ((ps++[q]).map V.ref))) p (ps++[q]) (af++[l]):=by
 have qp:q≠p:=λz=>by rw[z,pa.at_]at hq;cases hq
 have vm:q∉ps:=λz=>by
  obtain⟨i,hi,e⟩:=mem_iff_getElem.mp z;have:=pa.part i q (af[i]'(by rw[<- pa.len];exact hi)) (by rw[I0 hi,e]) (I0 _)
  rw[hq]at this;cases this
 have vn:p∉ps:=(nodup_cons.mp pa.nd).1;refine⟨Qa,by simp[pa.len],λi r m e1 e2=>?_,?_⟩
 ·have rp:r≠p:=λz=>by
   have hm:=Og e1;rw[z]at hm
   rcases mem_append.mp hm with w | w
   ·exact vn w
   ·exact qp (by simpa using w:p=q).symm
  rw[Qk rp]
  by_cases hl:i < ps.length
  ·rw[Od hl]at e1
   rw[Od (by rw[<- pa.len];exact hl)]at e2
   have rq:r≠q:=λz=>vm (by rw[<- z];exact Og e1)
   rw[Qk rq];exact pa.part i r m e1 e2
  ·rw[Oc #[0]]at e1
   rw[Oc (by rw[<- pa.len];lia),<- pa.len]at e2
   have h0:i - ps.length=0:=by
    cases w:i - ps.length with
    | zero=>rfl
    | succ m=>rw[w]at e1;simp at e1
   rw[h0]at e1 e2;simp at e1 e2;subst e1 e2;exact Qa
 ·have:=pa.nd
  simp only[nodup_cons,Db,Lq,Ds]at this ⊢;refine⟨λz=>z.elim vn λz=>qp z.symm,this.2,by simp,λa ha b hb=>?_⟩
  intro z;subst hb;subst z;exact vm ha
theorem YC.on{ini:List Vh}{q:Vh}{li:List (List V)}{last new:List V}(pa:YC H p (ini++[q]) (li++[last])):YC (upd H q (.lst new)) p (ini++[q]) (li++[new]):=by
 have nd:=pa.nd;have qp:p≠q:=λz=>(nodup_cons.mp nd).1 (by rw[z];simp)
 have nq:q∉ini:=λz=>by
  have:=(nodup_cons.mp nd).2;rw[Db]at this;exact this.2.2 q z q #[2] rfl
 have len:ini.length=li.length:=by have:=pa.len;simp at this;exact this
 refine⟨by rw[Qk qp];exact pa.at_,by simp[len],λi r m e1 e2=>?_,nd⟩
 by_cases hl:i < ini.length
 ·rw[Od hl]at e1
  rw[Od #[0]]at e2
  have rq:r≠q:=λz=>nq (by rw[<- z];exact Og e1)
  rw[Qk rq];exact pa.part i r m (by rw[Od hl];exact e1) (by rw[Od #[0]];exact e2)
 ·rw[Oc #[0]]at e1
  rw[Oc #[0],<- len]at e2
  have h0:i - ini.length=0:=by
   cases w:i - ini.length with
   | zero=>rfl
   | succ m=>rw[w]at e1;simp at e1
  rw[h0]at e1 e2;simp at e1 e2;subst e1 e2;exact Qa
end
abbrev PP(H:Hp):List (List Dt)->List (List V)->Prop:=Vm λds vs=>Vm (λd v=>TD H 6 d v) ds vs
theorem Jua{α β:Type}{F:α->β->Prop}:∀ {xs:List α} {us:List β} {u:β},Vm F xs (us++[u])->∃ ys y,xs=ys++[y]/\Vm F ys us/\F y u
 | [],us,u,h=>by have:=Vn h;simp at this
 | x::xs,[],u,h=>by
  cases h with
  | cons r t=>cases t;exact⟨[],x,rfl,.nil,r⟩
 | x::xs,v::us,u,h=>by
  cases h with
  | cons r t =>
   obtain⟨ys,y,rfl,t',f⟩:=Jua t;exact⟨x::ys,y,rfl,.cons r t',f⟩
structure Yi(H H':Hp)(l:Int)(es:List Dt)(i:Nat)(p:Vh)(ps:List Vh)(af:List (List V)):Prop where
 same:Qn H H'
 fresh:∀ q∈p::ps,H q=Vp
 pa:YC H' p ps af
 pp:PP H (Zc QM l (es.take i)) af
 lp:af.length<=i
 lq:∀ part∈af,part.length<=i
section
variable{H H':Hp}{l:Int}{es rr:List Dt}{i:Nat}{p p1 q1 e:Vh}{ps ini:List Vh}{af li:List (List V)}{last:List V}{k:V}
theorem Yi.start(hp:H p=Vp):Yi H (upd H p (.lst [])) l es 0 p [] [] where
 same:=Qf hp _
 fresh:=λr hr=>by
  have:r=p:=by simpa using hr
  rw[this];exact hp
 pa:=⟨Qa,rfl,λi r m e=>by simp at e,by simp⟩
 pp:=.nil
 lp:=Us _
 lq:=λx hx=>nomatch hx
theorem Jyc(hd:es[i]?=Vo (.t (.v k::rr))):Zc QM l (es.take (i+1))=Tr.step QM l (Zc QM l (es.take i)) (.t (.v k::rr)):=by rw[LZ,hd];exact YH _ _
theorem Yi.at1(c:Yi H H' l es i p ps af)(bd:H' p1=Vp):upd (upd H' p1 (.lst [])) p (.lst (ps.map V.ref++[V.ref p1])) p1=Vo (.lst []):=by
 have qG:p1≠p:=λz=>by rw[z,c.pa.at_]at bd;cases bd
 rw[Qk qG];exact Qa
theorem Yi.atp(c:Yi H H' l es i p ps af)(bd:H' p1=Vp):upd H' p1 (.lst []) p=Vo (.lst (ps.map V.ref)):=by
 have qG:p1≠p:=λz=>by rw[z,c.pa.at_]at bd;cases bd
 rw[Qk (VR qG)];exact c.pa.at_
theorem Yi.more(c:Yi H H' l es i p ps af)(hd:es[i]?=Vo (.t (.v k::rr)))(tx:TD H 6 (.t (.v k::rr)) (.ref e))(bd:H' p1=Vp)(hc:Zc QM l (es.take i)=[]\/l < (QM k:Int)) :
 Yi H (upd (upd (upd H' p1 (.lst [])) p (.lst (ps.map V.ref++[V.ref p1]))) p1 (.lst ([]++[V.ref e]))) l es (i+1) p (ps++[p1]) (af++[[.ref e]]):=by
 have np:=c.fresh p VN;have qH:H p1=Vp:=by
  cases e:H p1 with
  | none=>rfl
  | some o=>rw[c.same _ _ e]at bd;cases bd
 have em:ps.map V.ref++[V.ref p1]=(ps++[p1]).map V.ref:=by simp
 refine⟨Zoa (Zoa (Zoa c.same qH) np) qH,λr hr=>?_,?_,?_,?_,?_⟩
 ·rcases mem_cons.mp hr with z | z
  ·rw[z];exact np
  ·rcases mem_append.mp z with z | z
   ·exact c.fresh r (VO _ z)
   ·have:r=p1:=by simpa using z
    rw[this];exact qH
 ·rw[em];exact(c.pa.more (l:=[]) bd).on (new:=[]++[.ref e])
 ·rw[Jyc hd]
  unfold Tr.step;rw[if_pos (show _\/l < (QM (Qv (Dt.t (Dt.v k::rr))):Int) from hc)]
  exact OH c.pp (.cons tx .nil)
 ·have:=c.lp;simp;lia
 ·intro part hp
  rcases mem_append.mp hp with z | z
  ·have:=c.lq part z;lia
  ·rw[mem_singleton.mp z];simp
theorem Yi.on(c:Yi H H' l es i p (ini++[q1]) (li++[last]))(hd:es[i]?=Vo (.t (.v k::rr)))(tx:TD H 6 (.t (.v k::rr)) (.ref e))(hc:¬ l < (QM k:Int)) :
 Yi H (upd H' q1 (.lst (last++[.ref e]))) l es (i+1) p (ini++[q1]) (li++[last++[.ref e]]):=by
 obtain⟨iniD,lastD,ec,y8,y9⟩:=Jua c.pp;refine⟨Zoa c.same (c.fresh q1 #[2]),c.fresh,c.pa.on,?_,?_,?_⟩
 ·rw[Jyc hd,ec]
  unfold Tr.step;rw[if_neg (λz=>z.elim (λz=>by simp at z) λz=>hc z)]
  simp only[L3,getLast?_append,getLast?_singleton,Option.some_or,Option.getD_some]
  exact OH y8 (OH y9 tx)
 ·have:=c.lp;simp at this ⊢;lia
 ·intro part hp
  rcases mem_append.mp hp with z | z
  ·have:=c.lq part (VS _ z);lia
  ·rw[mem_singleton.mp z]
   have:=c.lq last #[2]
   simp;lia
theorem Yi.end_(c:Yi H H' l es i p ps af)(h:ps≠[]):∃ ini q1 li last,ps=ini++[q1]/\af=li++[last]/\H' q1=Vo (.lst last)/\last.length<=i:=by
 obtain⟨ini,q1,rfl⟩:=Z2 h;obtain⟨li,last,rfl⟩:=Z2 (xs:=af) (λz=>by have:=c.pa.len;rw[z]at this;simp at this)
 have len:ini.length=li.length:=by have:=c.pa.len;simp at this;exact this
 exact⟨ini,q1,li,last,rfl,rfl,c.pa.part ini.length q1 last #[2] (by rw[len];simp),c.lq last #[2]⟩
theorem Yi.none_(c:Yi H H' l es i p ps af)(h:ps=[]):Zc QM l (es.take i)=[]:=eq_nil_of_length_eq_zero (by rw[Vn c.pp,<- c.pa.len,h];rfl)
end
inductive YOb(K:VD)(vs:List V)(H:Hp)(Q:VK)(E:XK):Prop
 | mk:∀ (a:Vh) (b:Bool) (l:Int) (xs:List V) (es:List Dt),vs=[.ref a,.int l]->SqE b K H a xs->xs.length<=900->Vm (λd v=>TD H 6 d v) es xs->(∀ d∈es,Jta d)->(∀ p ps af H',Qn H H'->(∀ q∈p::ps,H q=Vp)->YC H' p ps af->PP H (Zc QM l es) af->Q (.ref p) H')->YOb K vs H Q E
seal PE PT PW PA PS PSs PI PG QT PGs PO in
theorem Qsd(Z:Zs mg)(T:Tx K mg CT cs ob)(za:Cal P w K mg base 3 "level_of" ["key"] (QXa K))(F:Fun K "cut" "cut" Jrc f fd):QE P w K mg base CX0 4 f fd ["entries","level"] (YOb K):=by
 refine F.ok YEb (λvs H Q E h=>?_) (λap A outer s H vs Q E hr h=>?_)
 ·walk_at "n"
 obtain⟨a,b,l,xs,es,rfl,hS,h900,re,au,q⟩:=h;refine⟨_,(Qb (Qi 2 YEb.nd (ZA Qe))
  (Qb (Jm Da rfl (Qcd (pv 0)) (ZF (i:=3) YEb.nd rfl (OB rfl)) (Qb (QK (PW.pt (ZQb (YLa (Z9a (pv 2) (λ_=>rfl))) (YKa (Qq Xbb (Qr za hr (Qh (QA QC (pv 3) Qd (λ_ _=>rfl)) Qe)) (pv 1) (Qu _))))) (Qg (Zh (Qza Dc Dd De ZS (pv 2) (Qh (ZA Qe) Qe)))) Qw)
  (Qg (Zh (Qza Dc Dd De ZS (QA Zl (pv 2) (YQa ZPa Qd) (λ_ _=>rfl)) (Qh (pv 3) Qe))))))
  (Qg (Qo (pv 2))))),?_⟩
 refine Qm (σ:=[Vo (.ref a),Vo (.int l),Vp,Vp]) rfl ?_
 walk_at "rd";refine⟨by decide,λp hp=>?_⟩
 refine⟨b,⟨_,hS.same (Qf hp _)⟩,?_⟩
 have le:=Vn re;refine YCc xs (λi σ' H'=>∃ (ps:List Vh) (af:List (List V)) (x3:Option V),σ'=[Vo (.ref a),Vo (.int l),Vo (.ref p),x3]/\Yi H H' l es i p ps af) ⟨[],[],_,rfl,.start hp⟩ ?_ ?_ ?_
 ·rintro i σ' H' _ ⟨_,_,_,_,c⟩
  exact hS.same c.same
 ·rintro i x σ' H' hx ⟨ps,af,x3,rfl,c⟩
  have hi:=(List.getElem?_eq_some_iff.mp hx).1
  have hd:es[i]?=Vo (es[i]'#[0]):=I0 _
  have tx:=Qx re hd hx;obtain⟨k,rr,ed,hk⟩:=au _ (Og hd);generalize es[i]'#[0]=d at hd tx ed
  subst ed;obtain⟨m,e,ws,_,rfl,he,iF⟩:=id tx.tup;have lp:=c.lp;walk_at "rd";refine⟨_,.inl ⟨_,SqL.of c.pa.at_,rfl⟩,ZL (λh=>?_) λh=>?_⟩
  ·have zb:ps=[]:=by simpa using h
   refine⟨.inl ⟨rfl,_,SqL.of c.pa.at_⟩,by decide,λp1 bd=>?_⟩
   exact⟨_,c.atp bd,QD (by rw[UJ,c.pa.len];lia),_,SqL.of Qa,.ref p1,Qya _ _,.inl ⟨rfl,_,SqL.of (c.at1 bd)⟩,p1,rfl,[],c.at1 bd,by decide,_,_,c.more hd tx bd (.inl (c.none_ zb))⟩
  ·have ax:ps≠[]:=λz=>h (by rw[z];rfl)
   cases iF with
   | @cons _ k' _ vo r1 bx =>
   obtain⟨_,rfl⟩:=r1.flat;refine⟨_,SqT.of (c.same _ _ he),_,at0 _ _,_,rfl,hk,_,rfl,ZL (λh2=>?_) λh2=>?_⟩
   ·refine⟨.inl ⟨rfl,_,SqL.of c.pa.at_⟩,by decide,λp1 bd=>?_⟩
    exact⟨_,c.atp bd,QD (by rw[UJ,c.pa.len];lia),_,SqL.of Qa,.ref p1,Qya _ _,.inl ⟨rfl,_,SqL.of (c.at1 bd)⟩,p1,rfl,[],c.at1 bd,by decide,_,_,c.more hd tx bd (.inr h2)⟩
   ·obtain⟨ini,q1,li,last,rfl,rfl,iG,ll⟩:=c.end_ ax
    exact⟨_,SqL.of c.pa.at_,.ref q1,by rw[LM];exact Qya _ _,.inl ⟨rfl,_,SqL.of iG⟩,q1,rfl,last,iG,QD #[0],_,_,c.on hd tx h2⟩
 ·rintro σ' H' ⟨ps,af,x3,rfl,c⟩
  walk_at "rd";have co:=c.pp;rw[Ix #[0]]at co
  exact q p ps af H' c.same c.fresh c.pa co
def Qs(st:StL):List (Int×Dt):=st.map λx=>(x.1,x.2.1)
theorem QF.fn{p:Vh}(h:QF P w ob H p d1 d2 st c):Fn (Qs st) where
 num:=λn d d' h1 h2=>by
  obtain⟨⟨a,b,t⟩,m1,e1⟩:=mem_map.mp h1;obtain⟨⟨a',b',t'⟩,m2,e2⟩:=mem_map.mp h2;injection e1 with x1 y1
  injection e2 with x2 y2
  dsimp only at x1 y1 x2 y2;subst x1 y1 x2 y2;exact(h.fun_ m1 m2).1
 dat:=λn n' d h1 h2=>by
  obtain⟨⟨a,b,t⟩,m1,e1⟩:=mem_map.mp h1;obtain⟨⟨a',b',t'⟩,m2,e2⟩:=mem_map.mp h2;injection e1 with x1 y1
  injection e2 with x2 y2
  dsimp only at x1 y1 x2 y2;subst x1 y1 x2 y2;have q1:=h.getN m1;have q2:=h.getN m2;dsimp only at q1 q2;rw[q1]at q2;injection q2 with q2
  injection q2
def HdD(d:Dt):Prop:=∃ k n,d=Zy k n/\Q6 k
theorem HdD.ent(h:HdD d):Jta d:=by
 obtain⟨k,n,rfl,hk⟩:=h;exact⟨k,_,rfl,hk⟩
section
variable{P:Vg}{w:Vb}{ob:Nat->Vh}{H H':Hp}{p d1 d2 a:Vh}{st:StL}{c l:Int}{es:List Dt}{Q:VK}{E:XK}
theorem YPc(hS:QF P w ob H p d1 d2 st c)(hP:PgD ob H a l es)(jS:Qqd (Zm l es))(few:st.length < 16000000)
 (q:∀ n H3 aZ c3,QN [p,d1,d2] H H3->QF P w ob H3 p d1 d2 aZ c3->(n,Zm l es)∈Qs aZ->(∀ x∈Qs st,x∈Qs aZ)->aZ.length<=st.length+1->Q (.int n) H3):J6 P w ob [.ref p,.ref a] H Q E :=
 ⟨p,d1,d2,st,c,a,l,es,rfl,hS,hP,jS,few,λn t hm H' s=>q n H' st c (s.x _) (hS.same s) (mem_map.mpr ⟨_,hm,rfl⟩) (λx h=>h) #[0],
  λ_ t H' s aJ=>q c H' _ _ s aJ (mem_map.mpr ⟨_,Ur _ (mem_singleton.mpr rfl),rfl⟩) (λx hx=>by
   obtain⟨y,hy,ey⟩:=mem_map.mp hx;exact mem_map.mpr ⟨y,VS _ hy,ey⟩) (by rw[Oh];exact Um _)⟩
end
structure JGb(P:Vg)(w:Vb)(ob:Nat->Vh)(H1 H':Hp)(p d1 d2 hh:Vh)(st:StL)(l:Int)(af:List (List Dt))(i:Nat)(ag:StL)(c':Int)(hs:List Dt)(ys:List V):Prop where
 sx:QN [p,d1,d2,hh] H1 H'
 tt:ZK H1 H'
 at_:H' hh=Vo (.lst ys)
 tys:Vm (λd v=>TD H' 6 d v) hs ys
 ehs:∀ d∈hs,HdD d
 hds:QX (Qs ag) l (af.take i) hs
 stA:QF P w ob H' p d1 d2 ag c'
 sub:∀ x∈Qs st,x∈Qs ag
 len:ag.length<=st.length+i
section
variable{P:Vg}{w:Vb}{ob:Nat->Vh}{H1 H' H2 H3:Hp}{p d1 d2 hh u:Vh}{st ag aZ:StL}{l c' c3 n:Int}{af:List (List Dt)}{i:Nat}{hs rr rest:List Dt}{ys:List V}{k:V}
theorem JGb.nhh(h:JGb P w ob H1 H' p d1 d2 hh st l af i ag c' hs ys):hh∉[p,d1,d2]:=λz=>by
 obtain⟨dx,ho⟩:=h.stA.obj;simp only[LW,LX,or_false]at z
 rcases z with z | z | z
 ·exact Yt h.at_ ho (by intro z;cases z) z
 ·exact Yt h.at_ h.stA.num (by intro z;cases z) z
 ·exact Yt h.at_ h.stA.tol (by intro z;cases z) z
theorem JGb.next(h:JGb P w ob H1 H' p d1 d2 hh st l af i ag c' hs ys)(dH:af[i]?=Vo (.t (.v k::rr)::rest))(hk:Q6 k)(s2:Qn H' H2)(s3:QN [p,d1,d2] H2 H3)(bq:QF P w ob H3 p d1 d2 aZ c3)
 (hm:(n,Zm l (.t (.v k::rr)::rest))∈Qs aZ) (bV:∀ x∈Qs ag,x∈Qs aZ) (l3:aZ.length<=ag.length+1) (hu:H3 u=Vp) :
 upd H3 u (.tup [k,.int n]) hh=Vo (.lst ys)/\JGb P w ob H1 (upd (upd H3 u (.tup [k,.int n])) hh (.lst (ys++[.ref u]))) p d1 d2 hh st l af (i+1) aZ c3 (hs++[Zy k n]) (ys++[.ref u]):=by
 have bZ:=h.stA.same s2;have kI:=s3 _ _ h.nhh (s2 _ _ h.at_);have oK:upd H3 u (.tup [k,.int n]) hh=Vo (.lst ys):=Qf hu _ _ _ kI;have uh:u≠hh:=λz=>by rw[z,kI]at hu;cases hu
 have vp:ZK H3 (upd (upd H3 u (.tup [k,.int n])) hh (.lst (ys++[.ref u]))):=(Qf hu _).t.trans (JZ oK);have vq:=(ZN bZ s3).trans vp;have len:=h.len;refine⟨oK,h.sx.trans ((s2.x _).trans ((s3.mono #[2]).trans (((Qf hu _).x _).upd #[2]))),h.tt.trans (s2.t.trans vq),Qa,OH (TDs.sameT h.tys (s2.t.trans vq)) (TD.pair (by rw[Qk uh];exact Qa) (.ofV (XKb hk)) (.ofV rfl)),λd hd=>?_,?_,?_,λx hx=>bV x (h.sub x hx),by lia⟩
 ·rcases mem_append.mp hd with z | z
  ·exact h.ehs d z
  ·rw[mem_singleton.mp z];exact⟨k,_,rfl,hk⟩
 ·rw[LZ,dH]
  exact(h.hds.mono bV).snoc hm
 ·obtain⟨dx3,vr⟩:=bq.obj
  exact bq.keep vp (by rw[Qk (Yt vr kI (by intro z;cases z)),Qk (Qy vr hu)]) (by rw[Qk (Yt bq.num kI (by intro z;cases z)),Qk (Qy bq.num hu)]) (by rw[Qk (Yt bq.tol kI (by intro z;cases z)),Qk (Qy bq.tol hu)])
theorem JGb.few(h:JGb P w ob H1 H' p d1 d2 hh st l af i ag c' hs ys):ys.length<=i:=by
 have h1:=Vn h.tys;have h2:=h.hds.length;rw[Oa]at h2
 lia
end
theorem J3a:(Zc lv l es).length<=es.length:=by
 have h1:∀ (ls:List (List Dt)),(∀ x∈ls,x≠[])->ls.length<=ls.flatten.length:=by
  intro ls
  induction ls with
  | nil=>intro _;exact Um _
  | cons y ys ih =>
   intro h;have:=ih λx hx=>h x (VO _ hx)
   have:0 < y.length:=length_pos_iff.mpr (h y VN);simp only[UB,LR,Oh];lia
 have c:=ZQ (lv:=lv) l es;have:=h1 _ c.full;rw[c.flat]at this;exact this
theorem YQc{ps:List Vh}{af:List (List V)}(pa:YC H1 a ps af)(pp:PP H0 (Zc QM l es) af)(au:∀ d∈es,Jta d){i:Nat}{qa:Vh}(jo:ps[i]?=Vo qa) :
 ∃ k rr rest part,(Zc QM l es)[i]?=Vo (.t (.v k::rr)::rest)/\Q6 k/\H1 qa=Vo (.lst part)/\Vm (λd v=>TD H0 6 d v) (.t (.v k::rr)::rest) part/\part.length<=es.length/\rest.length < es.length:=by
 have hi:=(List.getElem?_eq_some_iff.mp jo).1
 have li:i < af.length:=by rw[<- pa.len];exact hi
 have vt:=Vn pp;have qI:=ZQ (lv:=QM) l es;have vv:af[i]?=Vo af[i]:=I0 li
 have dH:(Zc QM l es)[i]?=Vo ((Zc QM l es)[i]'#[0]):=I0 _
 have tp:=Qx pp dH vv;have full:=qI.full _ (Og dH);have mem:∀ d∈(Zc QM l es)[i]'#[0],d∈es:=λd hd=>by rw[<- qI.flat];exact mem_flatten.mpr ⟨_,Og dH,hd⟩
 have h1:=(sublist_flatten_of_mem (Og dH)).length_le;rw[qI.flat]at h1;generalize (Zc QM l es)[i]'#[0]=partD at dH tp full mem h1
 match partD,full,dH,tp,mem,h1 with
 | d0::rest,_,dH,tp,mem,h1 =>
  obtain⟨k,rr,ed,hk⟩:=au d0 (mem d0 VN);subst ed;have h2:=Vn tp;exact⟨k,rr,rest,_,dH,hk,pa.part i qa _ jo vv,tp,by lia,by simp at h1;lia⟩
inductive ZO(P:Vg)(w:Vb)(ob:Nat->Vh)(vs:List V)(H:Hp)(Q:VK)(E:XK):Prop
 | mk:∀ p d1 d2 st c l e b xs es,vs=[.ref p,.int l,.ref e]->QF P w ob H p d1 d2 st c->HE b H e xs->Vm (λd v=>TD H 6 d v) es xs->(∀ d∈es,Jta d)->xs.length<=900->st.length+xs.length<=16000000->(∀ r H' ag c' hs ys,QN [p,d1,d2] H H'->H r=Vp->H' r=Vo (.lst ys)->Vm (λd v=>TD H' 6 d v) hs ys->(∀ d∈hs,HdD d)->QX (Qs ag) l (Zc QM l es) hs->QF P w ob H' p d1 d2 ag c'->(∀ x∈Qs st,x∈Qs ag)->ag.length<=st.length+xs.length->Q (.ref r) H')->ZO P w ob vs H Q E
seal PE PT PW PA PS PSs PI PG QT PGs PO in
theorem JHb(Z:Zs mg)(T:Tx K mg CT cs ob)(zc:Cal P w K mg base 4 "cut" ["entries","level"] (YOb K))(qD:Cal P w K mg base 4 "page_of" ["level","entries"] (X9 K ob))(vw:MeV P w K mg base 1 (ob 0) "first" (ZU K ob))(qJ:MeV P w K mg base 1 (ob 1) "first" (ZU K ob))(qK:MeV P w K mg base 1 (ob 2) "first" (ZU K ob))(qL:MeV P w K mg base 2 (ob 3) "kept" (J6 P w ob))(F:Fun K "heads_of" "heads_of" Z1a f fd):QE P w K mg base CX0 5 f fd ["pages","level","entries"] (ZO P w ob):=by
 refine F.ok Y4 (λvs H Q E h=>?_) (λap A outer s H vs Q E hr h=>?_)
 ·walk_at "n"
 obtain⟨p,d1,d2,st,c,l,e,b,xs,es,rfl,hS,he,re,au,lx,few,q⟩:=h;refine⟨_,(Qb (Qi 3 Y4.nd (ZA Qe))
  (Qb (Jm Da rfl (ZZ (Qr zc hr (Qh (pv 2) (Qh (pv 1) Qe)))) (ZF (i:=4) Y4.nd rfl (OB rfl)) (Qb (Qi 5 Y4.nd (Qr qD hr (Qh (pv 1) (Qh (pv 4) Qe))))
  (Qg (Zh (Qza Dc Dd De ZS (pv 3) (Qh (ZM (Qh (PE1.pe (XI (k:=4) (pv 5) hr rfl) Ze) (Qh (PE1.pe (Zb (k:=4) (pv 0) hr rfl (Qh (pv 5) Qe)) Ze) Qe))) Qe))))))
  (Qg (Qo (pv 3))))),?_⟩
 refine Qm (σ:=[Vo (.ref p),Vo (.int l),Vo (.ref e),Vp,Vp,Vp]) rfl ?_
 walk_at "rd";have cc:=T.ob_ 3 #[1]
 have lre:=Vn re;refine⟨by decide,λhh qM=>?_⟩
 have s0:=Qf qM (.lst []);have iH:upd H hh (.lst []) hh=Vo (.lst []):=Qa;generalize upd H hh (.lst [])=H0 at s0 iH ⊢;have zd:SqE b K H0 e xs:=by
  have vx:=s0 _ _ he;cases b with
  | true=>exact SqT.of vx
  | false=>exact SqL.of vx
 refine⟨e,b,l,xs,es,rfl,zd,lx,TDs.sameT re s0.t,au,λa ps af H1 s1 fr pa pp=>⟨a,rfl,⟨_,SqL.of pa.at_⟩,?_⟩⟩
 have kJ:=s0.trans s1;have bI:=hS.same kJ;obtain⟨dx1,dq⟩:=bI.obj;have ze:=s1 _ _ iH;have vy:∀ q∈a::ps,∀ o,H1 q=Vo (.lst o)->q∉[p,d1,d2,hh]:=λq hq o qN z=>by
  simp only[LW,LX,or_false]at z
  rcases z with z | z | z | z
  ·exact Yt qN dq (by intro z;cases z) z
  ·exact Yt qN bI.num (by intro z;cases z) z
  ·exact Yt qN bI.tol (by intro z;cases z) z
  ·exact Qy iH (fr q hq) z.symm
 have vt:=Vn pp;have lpl:(Zc QM l es).length<=es.length:=J3a;refine Z8 (ps.map V.ref) (λi σ' H'=>∃ ag c' hs ys x4 x5,σ'=[Vo (.ref p),Vo (.int l),Vo (.ref e),Vo (.ref hh),x4,x5]/\JGb P w ob H1 H' p d1 d2 hh st l (Zc QM l es) i ag c' hs ys)
  ⟨st,c,[],[],_,_,rfl,QN.refl _ _,ZK.refl _,ze,.nil,(λd h=>nomatch h),.nil,bI,(λx h=>h),by lia⟩ (λi σ' H' _ ⟨_,_,_,_,_,_,_,h⟩=>SqL.of (h.sx _ _ (vy a VN _ pa.at_) pa.at_)) ?_ ?_
 ·rintro i x σ' H' hx ⟨ag,c',hs,ys,x4,x5,rfl,hd⟩
  rw[Oe]at hx
  obtain⟨qa,jo,rfl⟩:=Option.map_eq_some_iff.mp hx;have hi:=(List.getElem?_eq_some_iff.mp jo).1
  have aA:=hd.len;have jP:=hd.few;have aN:=pa.len;obtain⟨k,rr,rest,part,dH,hk,iG,tp,lpart,lrest⟩:=YQc pa pp au jo;have zf:=hd.sx _ _ (vy qa (VO _ (Og jo)) _ iG) iG;walk_at "rd";refine⟨l,qa,false,part,_,rfl,zf,TDs.sameT tp (s1.t.trans hd.tt),by lia,λpg H2 s2 ft aW=>?_⟩
  have bZ:=hd.stA.same s2;obtain⟨dL,oa⟩:=bZ.obj;obtain⟨tw,y7,t0,cy,bh,ht⟩:=id aW;have Mf:MeV P w K mg base 1 (ob (if tw=true then 2 else 1)) "first" (ZU K ob):=by cases tw with | true=>exact qK | false=>exact qJ
  refine⟨.inl ⟨rfl,_,SqL.of (s2 _ _ hd.at_)⟩,?_⟩
  refine Xr rfl bh (by cases tw <;> rfl) (T.ob_ _ JFb).cl (Mf.mono #[1]) ⟨pg,l,k,rr,rest,rfl,aW,?_⟩
  refine Jn rfl oa rfl cc.cl (qL.mono #[1]) ?_
  simp only[YVa,J6b,J7b,Jba];refine YPc bZ aW ⟨l,k,rr,rest,rfl,XKb hk,by lia⟩ #[0] λn H3 aZ c3 s3 bq hm bV l3=>?_
  show _/\_;refine⟨JA,λu hu=>?_⟩
  obtain⟨oK,bo⟩:=hd.next dH hk s2 s3 bq hm bV l3 hu;exact⟨ys,oK,QD #[0],aZ,c3,_,_,_,_,⟨rfl,rfl⟩,bo⟩
 ·rintro σ' H' ⟨ag,c',hs,ys,x4,x5,rfl,hd⟩
  walk_at "rd";have hds:=hd.hds;have l':=hd.len;rw[UJ,Ix (by rw[vt,<- pa.len];exact Um _)]at hds
  rw[UJ,pa.len]at l';exact q hh H' ag c' hs ys (λb o nb hb=>hd.sx b o (λz=>by
   simp only[LW,LX,or_false]at z nb
   rcases z with z | z | z | z
   ·exact nb (.inl z)
   ·exact nb (.inr (.inl z))
   ·exact nb (.inr (.inr z))
   ·rw[z,qM]at hb;cases hb) (kJ _ _ hb)) qM hd.at_ hd.tys hd.ehs hds hd.stA hd.sub #[0]
inductive Ups(lv:V->Nat)(tbl:List (Int×Dt))(j0:Nat)(fA:List Dt):Nat->List Dt->Prop
 | refl:Ups lv tbl j0 fA j0 fA
 | snoc {j:Nat} {hs aX:List Dt} (u:Ups lv tbl j0 fA j hs) (h1:1 < hs.length) (h2:QX tbl ((j+1:Nat):Int) (Zc lv ((j+1:Nat):Int) hs) aX):Ups lv tbl j0 fA (j+1) aX
theorem Ups.mono{aE:List (Int×Dt)}{j0:Nat}{fA:List Dt}(u:Ups lv tbl j0 fA j hs)(s:∀ x∈tbl,x∈aE):Ups lv aE j0 fA j hs:=by
 induction u with
 | refl=>exact .refl
 | snoc _ h1 h2 ih=>exact .snoc ih h1 (h2.mono s)
theorem Ups.part{ar fA:List Dt}(h0:QX tbl 0 (Zc lv 0 ar) fA){j:Nat}{hs:List Dt}(u:Ups lv tbl 0 fA j hs):∃ L,JSa lv tbl ar (j+1) L/\L (j+1)=hs:=by
 induction u with
 | refl=>exact⟨_,JSa.start h0,rfl⟩
 | @snoc j hs aX u h1 h2 ih =>
  obtain⟨L,p,e⟩:=ih;subst e;exact⟨_,p.next (λx h=>h) #[0] h1 h2,by show(if j+1+1=j+1+1 then aX else _)=aX;rw[if_pos rfl]⟩
inductive Qda(P:Vg)(w:Vb)(ob:Nat->Vh)(vs:List V)(H:Hp)(Q:VK)(E:XK):Prop
 | mk:∀ p d1 d2 st c e hs ys,∀ j:Nat,vs=[.ref p,.int j,.ref e]->j<=6->QF P w ob H p d1 d2 st c->H e=Vo (.lst ys)->Vm (λd v=>TD H 6 d v) hs ys->(∀ d∈hs,HdD d)->ys.length<=900->st.length+7 * ys.length<=16000000->(∀ H' ag c' m above v,QN [p,d1,d2] H H'->QF P w ob H' p d1 d2 ag c'->(∀ x∈Qs st,x∈Qs ag)->ag.length<=st.length+7 * ys.length->Ups QM (Qs ag) j hs m above->m<=7->((hs=[]/\v=.non)\/(hs≠[]/\∃ k n,above=[Zy k n]/\v=.int n))->Q v H')->Qda P w ob vs H Q E
seal PE PT PW PA PS PSs PI PG QT PGs PO in
theorem YQb(Z:Zs mg)(T:Tx K mg CT cs ob)(Zg:Cal P w K mg base 5 "heads_of" ["pages","level","entries"] (ZO P w ob))(F:Fun K "crowned" "crowned" JYa f fd):QE P w K mg base CX0 6 f fd ["pages","level","heads"] (Qda P w ob):=by
 refine F.ok YO (λvs H Q E h=>?_) (λap A outer s H vs Q E hr h=>?_)
 ·walk_at "n"
 obtain⟨p,d1,d2,st,c,e,hs,ys,j,rfl,hj,hS,he,re,gF,ly,few,q⟩:=h;refine⟨_,(Qb (Qi 3 YO.nd (pv 1))
  (Qb (Qi 4 YO.nd (pv 2))
  (Qb (Qxa Da (Qq Xbb (Q5 Q8 rfl (Z.len) YK (Qh (pv 4) Qe)) Qd (Qu _)) (Qb (Qi 3 YO.nd (Ql Zk (pv 3) Qd))
  (Qg (Qi 4 YO.nd (Qr Zg hr (Qh (pv 0) (Qh (pv 3) (Qh (pv 4) Qe))))))))
  (Qg (Qo (YMa (Z9a (pv 4) (λ_=>rfl)) (QA QC (QA Zl (pv 4) Qd (λ_ _=>rfl)) Qd (λ_ _=>rfl)) Zz)))))),?_⟩
 refine Qm (σ:=[Vo (.ref p),Vo (.int j),Vo (.ref e),Vp,Vp]) rfl ?_
 walk_at "rd";refine⟨λm σ' H'=>∃ (t:Nat) (ag:StL) (c':Int) (b:Vh) (above:List Dt) (zs:List V),σ'=[Vo (.ref p),Vo (.int j),Vo (.ref e),Vo (.int t),Vo (.ref b)]/\m=7 - t/\t<=7/\(t=7->above.length<=1)/\j<=t/\QN [p,d1,d2] H H'/\H' b=Vo (.lst zs)/\Vm (λd v=>TD H' 6 d v) above zs/\(∀ d∈above,HdD d)/\zs.length<=ys.length/\QF P w ob H' p d1 d2 ag c'/\(∀ x∈Qs st,x∈Qs ag)/\ag.length<=st.length+(t - j) * ys.length/\Ups QM (Qs ag) j hs t above/\(hs=[]↔above=[]),
  ⟨_,j,st,c,e,hs,ys,rfl,rfl,by lia,λz=>by lia,Um _,QN.refl _ _,he,re,gF,Um _,hS,λx h=>h,by lia,.refl,Iff.rfl⟩,?_⟩
 rintro m σ' H' ⟨t,ag,c',b,above,zs,rfl,rfl,ht,h7,hjt,sx,hb,tz,hd,lz,aJ,sub,l',iI,jq⟩;have vz:=Vn tz;have e1:((t+1:Nat):Int)=(t:Int)+1:=by lia
 walk_at "rd";refine⟨zs,.inl (SqL.of hb),ZL (λh1=>?_) λh1=>?_⟩
 ·have ht6:t<=6:=by
   rcases Df t 7 with z | z
   ·lia
   ·have:=h7 #[0];lia
  have cI:(t - j) * ys.length<=6 * ys.length:=Dg _ #[0]
  refine⟨λσ2 H2=>∃ (t2:Nat) (ag:StL) (c':Int) (b:Vh) (above:List Dt) (zs:List V),t2=t+1/\σ2=[Vo (.ref p),Vo (.int j),Vo (.ref e),Vo (.int t2),Vo (.ref b)]/\t2<=7/\(t2=7->above.length<=1)/\j<=t2/\QN [p,d1,d2] H H2/\H2 b=Vo (.lst zs)/\Vm (λd v=>TD H2 6 d v) above zs/\(∀ d∈above,HdD d)/\zs.length<=ys.length/\QF P w ob H2 p d1 d2 ag c'/\(∀ x∈Qs st,x∈Qs ag)/\ag.length<=st.length+(t2 - j) * ys.length/\Ups QM (Qs ag) j hs t2 above/\(hs=[]↔above=[]),
   λσ2 H2 hZ=>(by obtain⟨t2,a1,a2,a3,a4,a5,a6,a7,b1,b2,b3,b4,b5⟩:=hZ;exact⟨7 - t2,by lia,t2,a1,a2,a3,a7,rfl,b1,a4,b2,b3,b4,a5,b5⟩),?_⟩
  walk_at "rd";refine⟨p,d1,d2,ag,c',(t:Int)+1,b,false,zs,above,rfl,aJ,hb,tz,λd h=>(hd d h).ent,by lia,by lia,λr H2 bR c2 cf qO fU hr fb kK ik fc bZ cT l2=>?_⟩
  have qP:=fc.length;have lt2:=Vn kK;have lc:=J3a (lv:=QM) (l:=(t:Int)+1) (es:=above);have qQ:above≠[]:=λz=>by rw[z]at vz;simp at vz;lia
  refine⟨bR,c2,r,⟨by lia,rfl⟩,by lia,cf,λz=>?_,by lia,sx.trans fU,qO,fb,kK,ik,by lia,bZ,λx hx=>cT x (sub x hx),?_,.snoc (iI.mono cT) #[0] (by rw[e1];exact fc),?_⟩
  ·obtain rfl:t=6:=by lia
   rw[qP,Jsb qQ (λd _=>by have:=Qrd (Qv d);lia)]
   exact Um _
  ·have:t+1 - j=(t - j)+1:=by lia
   rw[this,Dh]
   lia
  ·constructor
   ·intro z;exact absurd (jq.mp z) qQ
   ·intro z
    rw[z]at qP;exact absurd (length_eq_zero_iff.mp qP.symm) (Zka qQ)
 ·have cI:(t - j) * ys.length<=7 * ys.length:=Dg _ #[0]
  cases tz with
  | nil =>
   refine⟨false,.inl ⟨_,SqL.of hb,rfl⟩,?_⟩
   rw[if_neg #[1]]
   exact q H' ag c' t [] .non sx aJ sub #[0] iI ht (.inl ⟨jq.mpr rfl,rfl⟩)
  | @cons d z _ _ tz tz2 =>
   cases tz2 with
   | nil =>
    obtain⟨k,n,rfl,hk⟩:=hd d VN;obtain⟨u,x1,x2,rfl,hu,u1,u2⟩:=TD.pair_of tz;obtain⟨_,rfl⟩:=u1.flat;obtain⟨_,rfl⟩:=u2.flat;refine⟨true,.inl ⟨_,SqL.of hb,rfl⟩,?_⟩
    rw[if_pos rfl];exact⟨_,SqL.of hb,.ref u,rfl,u,rfl,_,SqT.of hu,.int n,rfl,q H' ag c' t [Zy x1 n] (.int n) sx aJ sub #[0] iI ht (.inr ⟨(λz=>by have:=jq.mp z;cases this),x1,n,rfl,rfl⟩)⟩
   | cons _ _=>simp at h1;lia
def YGa(ks:List V)(i:Nat)(k:V):Prop:=ks[i+1]?=Vo k/\(∀ j,j < i->∀ a b,ks[j]?=Vo a->ks[j+1]?=Vo b->Pl.ltV a b=true)/\∀ a,ks[i]?=Vo a->Pl.ltV a k=false
theorem Zob{ks:List V}(up:ks.Pairwise λa b=>Pl.ltV a b=true){i:Nat}{k:V}(h:YGa ks i k):False:=by
 obtain⟨a1,b1⟩:=List.getElem?_eq_some_iff.mp h.1
 have:=pairwise_iff_getElem.mp up i (i+1) #[0] a1 #[0]
 rw[b1,h.2.2 _ (I0 (show i < ks.length by lia))]at this
 cases this
inductive Xw(P:Vg)(w:Vb)(cs ob:Nat->Vh)(vs:List V)(H:Hp)(Q:VK)(E:XK):Prop
 | mk:∀ p d1 d2 st c e xs es,vs=[.ref p,.ref e]->QF P w ob H p d1 d2 st c->H e=Vo (.lst xs)->Vm (λd v=>TD H 6 d v) es xs->(∀ d∈es,Jta d)->xs.length<=900->st.length+8 * xs.length<=16000000->(((es.map Qv).Pairwise (λa b=>Pl.ltV a b=true)/\∀ H' ag c' v,QN [p,d1,d2] H H'->QF P w ob H' p d1 d2 ag c'->(∀ x∈Qs st,x∈Qs ag)->ag.length<=st.length+8 * xs.length->((es=[]/\v=.non)\/(es≠[]/\∃ top L k n,top<=6/\Ju QM (Qs ag) es top L/\L (top+1)=[Zy k n]/\v=.int n))->Q v H')\/∃ i k,YGa (es.map Qv) i k/\∀ H' d,Qn H H'->H' d=Vp->E (.ref (cs 1)) (Vo d) (upd H' d (xD d [("key",k)])))->Xw P w cs ob vs H Q E
seal PE PT PW PA PS PSs PI PG QT PGs PO in
theorem Jzc(Z:Zs mg)(T:Tx K mg CT cs ob)(qR:Cal P w K mg base 6 "crowned" ["pages","level","heads"] (Qda P w ob))(Zg:Cal P w K mg base 5 "heads_of" ["pages","level","entries"] (ZO P w ob))(kL:Cal P w K mg base 2 "before" ["one","other"] (Xv K))(qS:MkX P w K mg base 1 "NotRising" (cs 1) CT ["key"])(F:Fun K "built" "built" Zhb f fd):QE P w K mg base (CX1 P w) 7 f fd ["pages","rows"] (Xw P w cs ob):=by
 refine F.ok1 JCb (λvs H Q E h=>?_) (λap A outer s H vs Q E hr h=>?_)
 ·walk_at "n"
 obtain⟨p,d1,d2,st,c,e,xs,es,rfl,hS,he,re,au,lx,few,hq⟩:=h;refine⟨_,(Qb (Jm X6c rfl (XYb rfl (Z.range) (Qh Qd (Qh (Q5 Q8 rfl (Z.len) YK (Qh (pv 1) Qe)) Qe))) (ZF (i:=2) JCb.nd rfl (OB rfl)) (Qg (QK (YLa (Qwa (Qr kL hr (Qh (QA QC (QA Zl (pv 1) (Ql Jx (pv 2) Qd) (λ_ _=>rfl)) Qd (λ_ _=>rfl)) (Qh (QA QC (QA Zl (pv 1) (pv 2) (λ_ _=>rfl)) Qd (λ_ _=>rfl)) Qe))) (λ_=>rfl))) (Qg (Zha Z1 rfl rfl rfl qS (k:=6) hr #[1] (Qh (QA QC (QA Zl (pv 1) (pv 2) (λ_ _=>rfl)) Qd (λ_ _=>rfl)) Qe))) Qw)))
  (Qg (Qo (Qr qR hr (Qh (pv 0) (Qh Qd (Qh (Qr Zg hr (Qh (pv 0) (Qh Qd (Qh (pv 1) Qe)))) Qe))))))),?_⟩
 refine Qm (σ:=[Vo (.ref p),Vo (.ref e),Vp]) rfl ?_
 walk_at "rd";have le:=Vn re;refine⟨xs,.inl (SqL.of he),1,_,⟨rfl,rfl⟩,⟨by decide,by decide,by lia,by lia⟩,?_⟩
 refine JLa (λi σ' H'=>∃ x2,σ'=[Vo (.ref p),Vo (.ref e),x2]/\Qn H H'/\∀ i' k',YGa (es.map Qv) i' k'->i<=i') ⟨_,rfl,Qn.refl _,λ_ _ _=>Us _⟩ ?_ ?_
 ·rintro i σ' H' hi ⟨x2,rfl,s1,nw⟩
  have bg:i+1 < xs.length:=by lia
  have row:∀ n,n < xs.length->∃ u k r,xs[n]?=Vo (.ref u)/\H' u=Vo (.tup (k::r))/\Q6 k/\(es.map Qv)[n]?=Vo k:=λn hn=>by
   have hx:xs[n]?=Vo xs[n]:=I0 hn
   have hd:es[n]?=Vo (es[n]'#[0]):=I0 _
   have tx:=Qx re hd hx;obtain⟨k,rr,ed,hk⟩:=au _ (Og hd);rw[ed]at tx;obtain⟨m,u,ws,_,eu,hu,iF⟩:=tx.tup;cases iF with
   | @cons _ k' _ vo r1 bx =>
   obtain⟨_,rfl⟩:=r1.flat;exact⟨u,_,vo,by rw[hx,eu],s1 _ _ hu,hk,by rw[Oe,hd,ed];rfl⟩
  obtain⟨u0,k0,r0,g0,t0,ir,m0⟩:=row i #[0]
  obtain⟨u1,k1,r1,g1,t1,i8,m1⟩:=row (i+1) bg;walk_at "rd";refine⟨_,SqL.of (s1 _ _ he),.ref u0,by rw[show(1:Int)+(i:Int) - 1=((i:Nat):Int) by lia];exact Zx g0,u0,rfl,_,SqT.of t0,k0,at0 _ _,_,SqL.of (s1 _ _ he),.ref u1,by rw[show(1:Int)+(i:Int)=((i+1:Nat):Int) by lia];exact Zx g1,u1,rfl,_,SqT.of t1,k1,at0 _ _,k0,k1,rfl,YV ir,YV i8,λH2 s2=>⟨_,rfl,?_⟩⟩
  rcases hq with ⟨up,q⟩ | ⟨iw,kw,⟨w1,w2,w3⟩,qe⟩
  ·have lt:Pl.ltV k0 k1=true:=by
    obtain⟨a0,b0⟩:=List.getElem?_eq_some_iff.mp m0
    obtain⟨a1,b1⟩:=List.getElem?_eq_some_iff.mp m1
    have:=pairwise_iff_getElem.mp up i (i+1) a0 a1 #[0]
    rw[b0,b1]at this;exact this
   rw[lt,if_neg #[1]]
   exact⟨s1.trans s2,λi' k' h=>(Zob up h).elim⟩
  ·have wk:i<=iw:=nw iw kw ⟨w1,w2,w3⟩
   have oM:Pl.ltV k0 k1=true->∀ i' k',YGa (es.map Qv) i' k'->i+1<=i':=λlt i' k' h=>by
    rcases Df i i' with z | z
    ·lia
    ·have e:i'=i:=by have:=nw i' k' h;lia
     subst e;have h1:=h.1;rw[m1]at h1;cases h1;rw[h.2.2 _ m0]at lt;cases lt
   by_cases e:i=iw
   ·subst e
    rw[m1]at w1;cases w1;rw[w3 _ m0,if_pos rfl];exact⟨e,xs,_,.ref u1,rfl,rfl,SqL.of ((s1.trans s2) _ _ he),by rw[show(1:Int)+(i:Int)=((i+1:Nat):Int) by lia];exact Zx g1,u1,_,_,k1,rfl,rfl,SqT.of (s2 _ _ t1),at0 _ _,rfl,show 1<=1000 by decide,λd hd=>qe _ d (s1.trans s2) hd⟩
   ·have lt:=w2 i #[0] _ _ m0 m1
    rw[lt,if_neg #[1]]
    exact⟨s1.trans s2,oM lt⟩
 ·rintro σ' H' ⟨x2,rfl,s1,nw⟩
  rcases hq with ⟨up,q⟩ | ⟨iw,kw,hw,qe⟩
  case inr =>
   have h1:=nw iw kw hw;have h2:=(List.getElem?_eq_some_iff.mp hw.1).1
   rw[UJ]at h2
   lia
  walk_at "rd";refine⟨p,d1,d2,st,c,0,e,false,xs,es,rfl,hS.same s1,s1 _ _ he,TDs.sameT re s1.t,au,lx,by lia,λr H2 bR c2 hs ys sx hr fb tys hd dv bZ sub l2=>?_⟩
  have lh:=dv.length;have lt:=Vn tys;have lc:=J3a (lv:=QM) (l:=0) (es:=es);refine⟨p,d1,d2,bR,c2,r,hs,ys,0,rfl,by decide,bZ,fb,tys,hd,by lia,by lia,λH3 aZ c3 m above v kH bq bV l3 iI hm hv=>?_⟩
  refine q H3 aZ c3 v ((s1.x _).trans (sx.trans kH)) bq (λx hx=>bV x (sub x hx)) #[0] ?_
  have jq:es=[]↔hs=[]:=by
   constructor
   ·intro z;exact length_eq_zero_iff.mp (by rw[lh,z];rfl)
   ·intro z
    rw[z]at lh;cases oN:es with
    | nil=>rfl
    | cons y gw=>exact absurd (length_eq_zero_iff.mp lh.symm) (Zka (by rw[oN];simp))
  rcases hv with ⟨h1,h2⟩ | ⟨h1,k,n,ea,ev⟩
  ·exact .inl ⟨jq.mpr h1,h2⟩
  ·have oN:es≠[]:=λz=>h1 (jq.mp z)
   obtain⟨L,pt,eL⟩:=iI.part (dv.mono bV);have zg:(L (m+1)).length=1:=by rw[eL,ea];rfl
   have m6:m<=6:=by
    rcases Df m 7 with z | z
    ·lia
    ·have a:=pt.top Qrd oN #[0]
     have b:=pt.two 7 #[0] #[0]
     lia
   exact .inr ⟨oN,m,L,k,n,m6,pt.chain zg,by rw[eL,ea],ev⟩
theorem Zpa{K:VD}{k:Nat}{fd:UU}{ps:List Str}:QE P w K mg base CX k f fd ps (λ_ _ _ _=>False) :=
 ⟨λ_ _ _ _ h=>h.elim,λ_ _ _ _ _ _ _ _ _ _ _ _ _ h=>h.elim⟩
inductive J8(aD:VD)(ob:Nat->Vh)(vs:List V)(H:Hp)(Q:VK)(E:XK):Prop
 | mk:∀ a l es,vs=[.ref a]->PgD ob H a l es->l≠0->es.length<=900->(∀ d∈es,∃ k n,d=Zy k n)->(∀ r H',Qn H H'->H r=Vp->H' r=Vo (.lst ((es.map Zr).map V.int))->Q (.ref r) H')->J8 aD ob vs H Q E
seal PE PT PW PA PS PSs PI PG QT PGs PO in
theorem X9a(Z:Zs mg)(T:Tx K mg CT cs ob)(F:Fun K "under" "Twig.under" Yx f fd):QE P w K mg base (CX1 P w) 1 f fd ["self"] (J8 K ob):=by
 refine F.ok1 XZa (λvs H Q E h=>?_) (λap A outer s H vs Q E hr h=>?_)
 ·walk_at "n"
 obtain⟨a,l,es,rfl,hP,hl,lx,hh,q⟩:=h;refine⟨_,(Qg (Qo (YJ ["self"] rfl (Yga (N:=["self"]) (dsc:=Qj Yx) rfl rfl (by decide +kernel)) (QXc (Qz (pv 0) rfl)) (λ_ _ _ _ _=>Jga) (λ_ _ _ _ _=>(QA (r:=X6b K) QC (pv 0) Qd (λ_ _=>rfl)))))),?_⟩
 refine Qm (σ:=[Vo (.ref a)]) rfl ?_
 walk_at "rd";obtain⟨tw,dx,t,cy,ha,ht⟩:=hP;obtain rfl:tw=true:=by rw[cy];exact decide_eq_true hl
 obtain⟨m,t',xs,em,e,bH,rt⟩:=ht.tup;cases e;have le:=Vn rt;have hx:∀ (i:Nat) x,xs[i]?=Vo x->∃ b k n,x=.ref b/\H b=Vo (.tup [k,.int n])/\(es.map Zr)[i]?=Vo n:=λi x hi=>by
  have h2:=(List.getElem?_eq_some_iff.mp hi).1
  have hd:es[i]?=Vo (es[i]'#[0]):=I0 _
  have tx:=Qx rt hd hi;obtain⟨k,n,ed⟩:=hh _ (Og hd);rw[ed]at tx;obtain rfl:m=6:=by lia
  obtain⟨b,x1,x2,eb,hb,w1,w2⟩:=TD.pair_of tx;obtain⟨_,rfl⟩:=w2.flat;exact⟨b,x1,n,eb,hb,by rw[Oe,hd,ed];rfl⟩
 have iJ:xs.map (ZEa H)=(es.map Zr).map V.int:=by
  refine La (by simp[le]) λi g1 g2=>?_
  have b1:i < xs.length:=by simpa using g1
  obtain⟨b,k,n,ex,hb,hn⟩:=hx i _ (I0 b1)
  simp only[getElem_map];rw[ex,QHa hb];obtain⟨_,e⟩:=List.getElem?_eq_some_iff.mp hn
  simp only[getElem_map]at e;rw[e]
 refine QJ (T.ob_ 2 #[1]) #[1] rfl ha rfl ⟨t,rfl,⟨_,SqT.of bH⟩,Xzb xs (λ_=>true) (ZEa H) (SqT.of bH) (Ja #[0]) (λi x H2 R _ _ r=>r) (λi x H2 R hi _ s r=>?_) λD H2 hD s2 hd=>?_⟩
 ·obtain⟨b,k,n,rfl,hb,_⟩:=hx i x hi
  walk_at "rd";exact⟨_,SqT.of (s _ _ hb),_,rfl,by rw[QHa hb]at r;exact r⟩
 ·exact q D H2 s2 hD (by rw[hd,filter_eq_self.mpr (λ_ _=>rfl),iJ])
inductive ZV(aD:VD)(ob:Nat->Vh)(vs:List V)(H:Hp)(Q:VK)(E:XK):Prop
 | mk:∀ a,vs=[.ref a]->(∀ r H',Qn H H'->H r=Vp->H' r=Vo (.lst [])->Q (.ref r) H')->ZV aD ob vs H Q E
seal PE PT PW PA PS PSs PI PG QT PGs PO in
theorem ZJa(Z:Zs mg)(T:Tx K mg CT cs ob)(F:Fun K "under" "Page.under" XU f fd):QE P w K mg base (CX1 P w) 1 f fd ["self"] (ZV K ob):=by
 refine F.ok1 XYa (λvs H Q E h=>?_) (λap A outer s H vs Q E hr h=>?_)
 ·walk_at "n"
 obtain⟨a,rfl,q⟩:=h;refine⟨_,(Qg (Qo (ZA Qe))),?_⟩
 refine Qm (σ:=[Vo (.ref a)]) rfl ?_
 walk_at "rd";exact⟨by decide,λp hp=>q p _ (Qf hp _) hp Qa⟩
inductive JG(aD:Vg)(zh:Vb)(ob:Nat->Vh)(vs:List V)(H:Hp)(Q:VK)(E:XK):Prop
 | mk:∀ a o es,vs=[.ref a,o]->PgD ob H a 0 es->(∀ r H' xs,Qn H H'->H r=Vp->H' r=Vo (.lst xs)->Vm (λd v=>TD H' 6 d v) es xs->Q (.ref r) H')->JG aD zh ob vs H Q E
seal PE PT PW PA PS PSs PI PG QT PGs PO in
theorem XCa(Z:Zs mg)(T:Tx K mg CT cs ob)(F:Fun K "spread" "Leaf.spread" Xc f fd):QE P w K mg base (CX1 P w) 1 f fd ["self","pages"] (JG P w ob):=by
 refine F.ok1 Xma (λvs H Q E h=>?_) (λap A outer s H vs Q E hr h=>?_)
 ·walk_at "n"
 obtain⟨a,o,es,rfl,hP,q⟩:=h;refine⟨_,(Qg (Qo (QS Q9 rfl (Z.list) Z0 (Qh (Qz (pv 0) rfl) Qe)))),?_⟩
 refine Qm (σ:=[Vo (.ref a),Vo o]) rfl ?_
 walk_at "rd";obtain⟨tw,dx,t,cy,ha,ht⟩:=hP;obtain rfl:tw=false:=by rw[cy];rfl
 obtain⟨m,t',xs,em,e,bH,rt⟩:=ht.tup;cases e;obtain rfl:m=6:=by lia
 exact QJ (T.ob_ 1 #[1]) #[1] rfl ha rfl ⟨t,rfl,xs,.inr (SqT.of bH),λp hp=>q p _ xs (Qf hp _) hp Qa (TDs.sameT rt (Qf hp _).t)⟩
theorem JAc:∀ {part:List Dt} {bu:List (List Dt)},Vm (Jic tbl 0) part bu->bu.flatten=part
 | [],_,.nil=>rfl
 | d::part,_,.cons (b:=x) r t=>by
  have r:x=[d]:=r;rw[LR,JAc t,r];rfl
theorem QI{α β:Type}{F:α->β->Prop}:∀ {xs ys:List α} {us vs:List β},Vm F xs us->Vm F ys vs->Vm F (xs++ys) (us++vs)
 | _,_,_,_,.nil,h=>h
 | _,_,_,_,.cons r t,h=>.cons r (QI t h)
inductive Qra(P:Vg)(w:Vb)(cs ob:Nat->Vh)(n:Nat)(vs:List V)(H:Hp)(Q:VK)(E:XK):Prop
 | mk:∀ a p d1 d2 st c,∀ l:Nat,∀ part es,vs=[.ref a,.ref p]->QF P w ob H p d1 d2 st c->PgD ob H a ((l+1:Nat):Int) part->l<=n->XHb (Qs st) (l+1) part es->es.length<=900->part.length<=900->(∀ r H' xs,Qn H H'->H r=Vp->H' r=Vo (.lst xs)->Vm (λd v=>TD H' 6 d v) es xs->Q (.ref r) H')->Qra P w cs ob n vs H Q E
def JH(P:Vg)(w:Vb)(cs ob:Nat->Vh):Nat->Sp
 | 0=>λ_ _ _ _=>False
 | n+1=>Qra P w cs ob n
seal PE PT PW PA PS PSs PI PG QT PGs PO in
theorem XDa(Z:Zs mg)(T:Tx K mg CT cs ob)(YD:MeV P w K mg base 1 (ob 0) "under" (ZV K ob))(JI:MeV P w K mg base 1 (ob 1) "under" (ZV K ob))(Ji:MeV P w K mg base 1 (ob 2) "under" (J8 K ob))(ZW:MeV P w K mg base 1 (ob 1) "spread" (JG P w ob))(Qt:MeV P w K mg base 5 (ob 3) "page" (QV P w cs ob)){n:Nat}(IH:MeV P w K mg base (5+n) (ob 2) "spread" (JH P w cs ob n))(F:Fun K "spread" "Page.spread" Xk f fd):QE P w K mg base (CX1 P w) (5+n+1) f fd ["self","pages"] (JH P w cs ob (n+1)):=by
 refine F.ok1 YR (λvs H Q E h=>?_) (λap A outer s H vs Q E hr h=>?_)
 ·walk_at "n"
 obtain⟨a,p,d1,d2,st,c,l,part,es,rfl,hS,hP,hl,fV,lx,lp,q⟩:=h;refine⟨_,(Qb (Qi 2 YR.nd (ZA Qe))
  (Qb (Jm X6c rfl (ZZ (PE1.pe (XI (k:=(5+n)) (pv 0) hr rfl) Z1)) (ZF (i:=3) YR.nd rfl (OB rfl)) (Qg (Zh (Qza Dc PySem.F.slot_list_extend PySem.F.type_list_extend Xba (pv 2) (Qh (PE1.pe (QCb (k:=(5+n)) (Zb (k:=(5+n)) (pv 1) hr rfl (Qh (pv 3) Qe)) hr rfl (Qh (pv 1) Qe)) Z1) Qe)))))
  (Qg (Qo (pv 2))))),?_⟩
 refine Qm (σ:=[Vo (.ref a),Vo (.ref p),Vp,Vp]) rfl ?_
 walk_at "rd";refine⟨by decide,λrp qT=>?_⟩
 have s0:=Qf qT (.lst []);have qU:upd H rp (.lst []) rp=Vo (.lst []):=Qa;generalize upd H rp (.lst [])=H0 at s0 qU ⊢;have vC:=hP.same s0;obtain⟨tw,dx,t,cy,ha,ht⟩:=id vC;obtain rfl:tw=true:=by rw[cy];exact decide_eq_true #[0]
 obtain⟨bu,pr,qV⟩:=fV;have lpr:=Vn pr;have hds:∀ d∈part,∃ k n,d=Zy k n:=λd hd=>by
  obtain⟨i,hi⟩:=mem_iff_getElem?.mp hd;have hl:=(List.getElem?_eq_some_iff.mp hi).1
  obtain⟨k,n,_,_,e,_⟩:=Qx pr hi (I0 (show i < bu.length by lia))
  exact⟨k,n,e⟩
 refine Xr rfl ha rfl (T.ob_ 2 #[1]).cl (Ji.mono #[0]) ⟨a,_,part,rfl,vC,by lia,lp,hds,λu H1 s1 hu vD=>?_⟩
 refine⟨u,rfl,⟨_,SqL.of vD⟩,?_⟩
 have kJ:=s0.trans s1;have bI:=hS.same kJ;have ru:u≠rp:=λz=>by rw[z,qU]at hu;cases hu
 refine Z8 ((part.map Zr).map V.int) (λi σ' H'=>∃ zs x3,σ'=[Vo (.ref a),Vo (.ref p),Vo (.ref rp),x3]/\Qn H H'/\H' u=Vo (.lst ((part.map Zr).map V.int))/\H' rp=Vo (.lst zs)/\Vm (λd v=>TD H' 6 d v) (bu.take i).flatten zs) ⟨[],_,rfl,kJ,vD,s1 _ _ qU,.nil⟩ (λi σ' H' _ ⟨_,_,_,_,h,_⟩=>SqL.of h) ?_ ?_
 ·rintro i x σ' H' hx ⟨zs,x3,rfl,s',oy,oO,tz⟩
  rw[Oe,Oe]at hx
  obtain⟨m,hm,rfl⟩:=Option.map_eq_some_iff.mp hx;obtain⟨d,hd,rfl⟩:=Option.map_eq_some_iff.mp hm;have hi:=(List.getElem?_eq_some_iff.mp hd).1
  have he:bu[i]?=Vo (bu[i]'#[0]):=I0 _
  obtain⟨k,nn,az,cw,rfl,hmem,vE,ee⟩:=Qx pr hd he;generalize bu[i]'#[0]=aj at he ee
  have les:aj.length<=es.length:=by
   rw[qV];exact(sublist_flatten_of_mem (Og he)).length_le
  have lz:zs.length<=es.length:=by
   rw[<- Vn tz,qV];have:=congrArg (λl=>(List.flatten l).length) (Ir i bu)
   simp only[LQ,Oh]at this
   lia
  obtain⟨⟨n',fO,t'⟩,iK,en⟩:=mem_map.mp hmem;injection en with en1 en2
  dsimp only at en1 en2;subst en1 en2;have aJ:=hS.same s';obtain⟨iE,bf⟩:=aJ.obj;have fin:∀ (w:Vh) (H2:Hp) (xs:List V),Qn H' H2->H2 w=Vo (.lst xs)->Vm (λd v=>TD H2 6 d v) aj xs->H2 rp=Vo (.lst zs)/\(Qn H (upd H2 rp (.lst (zs++xs)))/\upd H2 rp (.lst (zs++xs)) u=Vo (.lst ((part.map Zr).map V.int))/\Vm (λd v=>TD (upd H2 rp (.lst (zs++xs))) 6 d v) (bu.take (i+1)).flatten (zs++xs)):=by
   intro w H2 xs s2 hw px;have fb:=s2 _ _ oO;have t5:ZK H2 (upd H2 rp (.lst (zs++xs))):=JZ fb;refine⟨fb,Jd (s'.trans s2) qT,by rw[Qk ru];exact s2 _ _ oy,?_⟩
   rw[LZ,he];simp only[LQ,Option.toList_some,LR,flatten_nil,UV];exact QI (TDs.sameT tz (s2.t.trans t5)) (TDs.sameT px t5)
  walk_at "rd";refine⟨.inl ⟨rfl,_,SqL.of oO⟩,Jn rfl bf rfl (T.ob_ 3 #[1]).cl (Qt.mono #[0]) ⟨p,d1,d2,st,c,n',rfl,aJ,λl2 bO t2 bN pg H2 s2 ft aW=>?_,λz=>(z _ iK rfl).elim⟩⟩
  obtain⟨el,qW⟩:=Jo (hS.fun_ iK bN).1;subst el qW;have zi:az.length<=900:=by
   obtain⟨l3,k3,r3,qX,e3,_,h3⟩:=hS.sh _ iK;rw[(Jo e3).2];simp;lia
  cases l with
  | zero =>
   obtain⟨fB,dL,t0,bC,bh,dM⟩:=id aW;obtain rfl:fB=false:=by rw[bC];rfl
   have e':aj=az:=by rw[ee];exact JAc vE
   refine⟨pg,rfl,_,dL,_,bh,rfl,(T.ob_ 1 #[1]).cl,_,ZW.mono #[0],⟨pg,.ref p,az,rfl,aW,λw H3 xs s3 hw fW px=>?_⟩⟩
   rw[<- e']at px;obtain⟨g1,g2,g3,g4⟩:=fin w H3 xs (s2.trans s3) fW px;have gG:=Vn px;exact⟨w,rfl,zs,g1,xs,.inl (SqL.of fW),VJ (show zs.length+xs.length<=5000 by lia) (by rw[Uw];decide),g2,g3,_,Qa,g4⟩
  | succ l =>
   obtain⟨fB,dL,t0,bC,bh,dM⟩:=id aW;obtain rfl:fB=true:=by rw[bC];exact decide_eq_true #[0]
   obtain⟨n0,rfl⟩:∃ n0,n=n0+1:=⟨n - 1,by lia⟩
   refine⟨pg,rfl,_,dL,_,bh,rfl,(T.ob_ 2 #[1]).cl,_,IH,⟨pg,p,d1,d2,st,c,l,az,aj,rfl,aJ.same s2,aW,by lia,⟨cw,vE,ee⟩,by lia,zi,λw H3 xs s3 hw fW px=>?_⟩⟩
   obtain⟨g1,g2,g3,g4⟩:=fin w H3 xs (s2.trans s3) fW px;have gG:=Vn px;exact⟨w,rfl,zs,g1,xs,.inl (SqL.of fW),VJ (show zs.length+xs.length<=5000 by lia) (by rw[Uw];decide),g2,g3,_,Qa,g4⟩
 ·rintro σ' H' ⟨zs,x3,rfl,s',oy,oO,tz⟩
  walk_at "rd";rw[Ix (by rw[UJ,UJ];lia),<- qV]at tz
  exact q rp H' zs s' qT oO tz
def QH(st:StL)(es:List Dt)(v:V):Prop:=(es=[]/\v=.non)\/(es≠[]/\∃ top L k n,top<=6/\Ju QM (Qs st) es top L/\L (top+1)=[Zy k n]/\v=.int n)
inductive Z3a(P:Vg)(w:Vb)(cs ob:Nat->Vh)(vs:List V)(H:Hp)(Q:VK)(E:XK):Prop
 | mk:∀ p d1 d2 st c v es,vs=[.ref p,v]->QF P w ob H p d1 d2 st c->QH st es v->es.length<=900->(∀ r H' xs,Qn H H'->H r=Vp->H' r=Vo (.lst xs)->Vm (λd v=>TD H' 6 d v) es xs->Q (.ref r) H')->Z3a P w cs ob vs H Q E
seal PE PT PW PA PS PSs PI PG QT PGs PO in
theorem YRb(Z:Zs mg)(T:Tx K mg CT cs ob)(Xn:∀ n,MeV P w K mg base (5+n) (ob 2) "spread" (JH P w cs ob n))(ZW:MeV P w K mg base 1 (ob 1) "spread" (JG P w ob))(Qt:MeV P w K mg base 5 (ob 3) "page" (QV P w cs ob))(F:Fun K "rows_of" "rows_of" J0a f fd):QE P w K mg base CX0 14 f fd ["pages","root"] (Z3a P w cs ob):=by
 refine F.ok YGb (λvs H Q E h=>?_) (λap A outer s H vs Q E hr h=>?_)
 ·walk_at "n"
 obtain⟨p,d1,d2,st,c,v,es,rfl,hS,hT,lx,q⟩:=h;refine⟨_,(Qb (QK (Qq Y8 (pv 1) Zz (Qu _)) (Qg (Qo (ZA Qe))) Qw)
  (Qg (Qo (PE1.pe (QCb (k:=13) (Zb (k:=13) (pv 0) hr rfl (Qh (pv 1) Qe)) hr rfl (Qh (pv 0) Qe)) Ze)))),?_⟩
 refine Qm (σ:=[Vo (.ref p),Vo v]) rfl ?_
 walk_at "rd"
 rcases hT with ⟨rfl,rfl⟩ | ⟨ax,top,L,k,n,h6,ch,eL,rfl⟩
 ·rw[if_pos rfl]
  exact⟨by decide,λr hr=>q r _ [] (Qf hr _) hr Qa .nil⟩
 rw[if_neg (show ¬ V.int n=V.non from λz=>nomatch z)]
 obtain⟨part,hmem,fV⟩:=ch.spread eL;obtain⟨⟨n',fO,t'⟩,iK,en⟩:=mem_map.mp hmem;injection en with en1 en2
 dsimp only at en1 en2;subst en1 en2;obtain⟨dx,ho⟩:=hS.obj;refine Jn rfl ho rfl (T.ob_ 3 #[1]).cl (Qt.mono #[1]) ⟨p,d1,d2,st,c,n',rfl,hS,λl2 bO t2 bN pg H2 s2 ft aW=>?_,λz=>(z _ iK rfl).elim⟩
 obtain⟨el,qW⟩:=Jo (hS.fun_ iK bN).1;subst el qW;have lp:part.length<=900:=by
  obtain⟨l3,k3,r3,qX,e3,_,h3⟩:=hS.sh _ iK;rw[(Jo e3).2];simp;lia
 cases top with
 | zero =>
  obtain⟨fB,dL,t0,bC,bh,dM⟩:=id aW;obtain rfl:fB=false:=by rw[bC];rfl
  obtain⟨bu,pr,ee⟩:=fV;rw[JAc pr]at ee;subst ee;exact⟨pg,rfl,_,dL,_,bh,rfl,(T.ob_ 1 #[1]).cl,_,ZW.mono #[1],⟨pg,.ref p,_,rfl,aW,λw H3 xs s3 hw fW px=>q w H3 xs (s2.trans s3) (by
   cases e:H w with
   | none=>rfl
   | some o=>rw[s2 _ _ e]at hw;cases hw) fW px⟩⟩
 | succ l =>
  obtain⟨fB,dL,t0,bC,bh,dM⟩:=id aW;obtain rfl:fB=true:=by rw[bC];exact decide_eq_true #[0]
  exact⟨pg,rfl,_,dL,_,bh,rfl,(T.ob_ 2 #[1]).cl,_,(Xn 7).mono #[1],⟨pg,p,d1,d2,st,c,l,part,es,rfl,hS.same s2,aW,show l<=6 by lia,fV,lx,lp,λw H3 xs s3 hw fW px=>q w H3 xs (s2.trans s3) (by
   cases e:H w with
   | none=>rfl
   | some o=>rw[s2 _ _ e]at hw;cases hw) fW px⟩⟩
section
variable{P:Vg}{w:Vb}{K:VD}{ob:Nat->Vh}{H H':Hp}{p d1 d2:Vh}{st:StL}{c:Int}
theorem QF.off(h:QF P w ob H p d1 d2 st c){b:Vh}{o:HO}(hb:H b=Vo o)(h1:∀ C dx fs,o≠.ins C dx fs)(h2:∀ ae,o≠.dK ae)(h3:∀ φ,o≠.ext φ):b∉[p,d1,d2]:=λz=>by
 obtain⟨dx,eo⟩:=h.obj;simp only[LW,LX,or_false]at z
 rcases z with z | z | z
 ·rw[z,eo]at hb;injection hb with hb;exact h1 _ _ _ hb.symm
 ·rw[z,h.num]at hb;injection hb with hb;exact h2 _ hb.symm
 ·rw[z,h.tol]at hb;injection hb with hb;exact h3 _ hb.symm
theorem QF.lst(h:QF P w ob H p d1 d2 st c)(s:QN [p,d1,d2] H H'){b:Vh}{xs:List V}(hb:H b=Vo (.lst xs)):H' b=Vo (.lst xs):=s _ _ (h.off hb (by intros;intro z;cases z) (by intros;intro z;cases z) (by intros;intro z;cases z)) hb
theorem QF.seq(h:QF P w ob H p d1 d2 st c)(s:QN [p,d1,d2] H H'){b:Vh}{xs:List V}(hb:SqL K H b xs):SqL K H' b xs:=by
 rcases hb with hb | hb
 ·rcases hb with hb | ⟨o,hb⟩
  ·exact .inl (.inl (h.lst s hb))
  ·exact .inl (.inr ⟨o,s _ _ (h.off hb (by intros;intro z;cases z) (by intros;intro z;cases z) (by intros;intro z;cases z)) hb⟩)
 ·exact .inr hb
theorem QF.updL(h:QF P w ob H p d1 d2 st c){b:Vh}{xs ys:List V}(hb:H b=Vo (.lst xs)):QF P w ob (upd H b (.lst ys)) p d1 d2 st c:=by
 have n:=h.off hb (by intros;intro z;cases z) (by intros;intro z;cases z) (by intros;intro z;cases z)
 have go:∀ {a},a∈[p,d1,d2]->upd H b (.lst ys) a=H a:=λ{a} ha=>Qk (λz=>n (by rw[<- z];exact ha))
 exact h.keep (JZ hb) (go #[2]) (go #[2]) (go #[2])
end
theorem Jwa{K:VD}(hb:H b=Vo (.lst xs))(re:Vm (λd v=>TD H 6 d v) es xs):Rep K H 7 (.l es) (.ref b):=.l (SqL.of hb) (Vn re) λi d x h1 h2=>(Qx re h1 h2).rep
theorem Jxa{v':V}(h:v=.non\/∃ n,v=.int n)(h':v'=.non\/∃ n,v'=.int n):Qva v v'=true:=by
 rcases h with rfl | ⟨n,rfl⟩ <;> rcases h' with rfl | ⟨n',rfl⟩ <;> rfl
theorem Qab(xs:List V)(k:Nat):Yd xs Vp (Vo (k:Int))=xs.take k:=by
 have e1:=HT.Xfb xs.length xs.length k;have e2:HT.sIx xs.length 0 Vp=0:=rfl;unfold Yd;rw[e1,e2,DB,Nat.sub_zero]
 rcases Nat.le_total k xs.length with h | h
 ·rw[Nat.min_eq_left h]
 ·rw[Nat.min_eq_right h,Ix (Um _),Ix h]
theorem XEa(xs:List V)(k:Nat):Yd xs (Vo (k:Int)) Vp=xs.drop k:=by
 have e1:=HT.Xfb xs.length 0 k;have e2:HT.sIx xs.length xs.length Vp=xs.length:=rfl;unfold Yd;rw[e1,e2]
 rcases Nat.le_total k xs.length with h | h
 ·rw[Nat.min_eq_left h,Ix (by rw[On];exact Um _)]
 ·rw[Nat.min_eq_right h,IU (Um _),IU h];simp
theorem Zo{α β:Type}{F:α->β->Prop}:∀ {xs:List α} {us:List β} (n:Nat),Vm F xs us->Vm F (xs.take n) (us.take n)
 | _,_,0,_=>.nil
 | _,_,_+1,.nil=>.nil
 | _,_,n+1,.cons r t=>.cons r (Zo n t)
theorem Zp{α β:Type}{F:α->β->Prop}:∀ {xs:List α} {us:List β} (n:Nat),Vm F xs us->Vm F (xs.drop n) (us.drop n)
 | _,_,0,r=>r
 | _,_,_+1,.nil=>.nil
 | _,_,n+1,.cons _ t=>Zp n t
section
local macro_rules | `(tactic| obtain $p:rcasesPatMed := $e) => `(tactic| (refine dly λg hg => ?_; rcases $e:term with $p; all_goals (refine hg ?_; clear hg g)))
def ltK(a b:V):Prop:=Q6 a/\Q6 b/\Pl.ltV a b=true
theorem ltK.irr(a:V):¬ ltK a a:=λh=>by
 have h2:=h.2.2;rw[Pl.irr (YV h.1)]at h2;exact Uc h2
theorem ltK.tr{a b c:V}(h:ltK a b)(h':ltK b c):ltK a c:=⟨h.1,h'.2.1,Pl.tr (YV h.1) (YV h.2.1) (YV h'.2.1) h.2.2 h'.2.2⟩
theorem ltK.tri{a b:V}(ha:Q6 a)(hb:Q6 b):ltK a b\/a=b\/ltK b a:=by
 cases h1:Pl.ltV a b with
 | true=>exact .inl ⟨ha,hb,h1⟩
 | false =>
  cases h2:Pl.ltV b a with
  | true=>exact .inr (.inr ⟨hb,ha,h2⟩)
  | false=>exact .inr (.inl (Pl.tri (YV ha) (YV hb) h1 h2))
theorem Zpb{a b:V}(ha:Q6 a)(hb:Q6 b):Qva a b=true:=by
 cases a with
 | int n=>cases b with
  | int m=>rfl
  | str z=>rfl
  | _=>exact hb.elim
 | str z=>cases b with
  | int m=>rfl
  | str z=>rfl
  | _=>exact hb.elim
 | _=>exact ha.elim
structure Zkd(H:Hp)(a:Vh)(xs:List V):Prop where
 at_:H a=Vo (.lst xs)
 pl:∀ v∈xs,Pl.Q1 v
 up:xs.Pairwise λa b=>Pl.ltV a b=true
 len:xs.length < 1000
inductive Q6a(aD:VD)(vs:List V)(H:Hp)(Q:VK)(E:XK):Prop
 | mk:∀ (a:Vh) (xs:List V) (v:V),vs=[.ref a,v]->Zkd H a xs->Pl.Q1 v->(∀ H' (lo:Nat),Qn H H'->lo<=xs.length->(∀ (i:Nat) x,i < lo->xs[i]?=Vo x->Pl.ltV x v=true)->(∀ (i:Nat) x,lo<=i->xs[i]?=Vo x->Pl.ltV x v=false)->Q (.int lo) H')->Q6a aD vs H Q E
seal PE PT PW PA PS PSs PI PG QT PGs PO in
theorem JIb(Z:Zs mg)(T:Tx K mg CT cs ob)(kL:Cal P w K mg base 2 "before" ["one","other"] (Xv K))(F:Fun K "place_of" "place_of" ZYa f fd):QE P w K mg base CX0 3 f fd ["keys","key"] (Q6a K):=by
 refine F.ok Jv (λvs H Q E h=>?_) (λap A outer s H vs Q E hr h=>?_)
 ·walk_at "n"
 obtain⟨a,xs,v,rfl,hk,qY,q⟩:=h;refine⟨_,(Qb (Qi 2 Jv.nd Qd)
  (Qb (Qi 3 Jv.nd (Q5 Q8 rfl (Z.len) YK (Qh (pv 0) Qe)))
  (Qb (Qxa Da (Qq ZUb (pv 2) (pv 3) (Qu _)) (Qb (Qi 4 Jv.nd (Ql QL (Ql Zk (pv 2) (pv 3)) Qd))
  (Qg (QK (Qwa (Qr kL hr (Qh (QA Zl (pv 0) (pv 4) (λ_ _=>rfl)) (Qh (pv 1) Qe))) (λ_=>rfl)) (Qg (Qi 2 Jv.nd (Ql Zk (pv 4) Qd))) (Qg (Qi 3 Jv.nd (pv 4)))))))
  (Qg (Qo (pv 2)))))),?_⟩
 refine Qm (σ:=[Vo (.ref a),Vo v,Vp,Vp,Vp]) rfl ?_
 walk_at "rd";refine⟨xs,.inl (SqL.of hk.at_),λm σ' H'=>∃ (lo hi:Nat) (x4:Option V),σ'=[Vo (.ref a),Vo v,Vo (.int lo),Vo (.int hi),x4]/\m=hi - lo/\lo<=hi/\hi<=xs.length/\Qn H H'/\(∀ (i:Nat) x,i < lo->xs[i]?=Vo x->Pl.ltV x v=true)/\∀ (i:Nat) x,hi<=i->xs[i]?=Vo x->Pl.ltV x v=false,
  ⟨_,0,xs.length,Vp,rfl,rfl,Us _,Um _,Qn.refl _,λi x h=>absurd h #[0],λi x h e=>absurd (List.getElem?_eq_some_iff.mp e).1 #[0]⟩,?_⟩
 rintro m σ' H' ⟨lo,hi,x4,rfl,rfl,h1,h2,sm,ha,hb⟩;walk_at "rd"
 by_cases aG:(lo:Int) < (hi:Int)
 ·rw[if_pos aG]
  have em:((lo:Int)+hi) / 2=(((lo+hi) / 2:Nat):Int):=by lia
  have hm:(lo+hi) / 2 < xs.length:=by lia
  obtain⟨y,hy⟩:∃ y,xs[(lo+hi) / 2]?=Vo y:=⟨_,I0 hm⟩
  have py:Pl.Q1 y:=hk.pl y (Og hy);have vF:∀ (i j:Nat) x z,i < j->xs[i]?=Vo x->xs[j]?=Vo z->Pl.ltV x z=true:=λi j x z di hx hz=>by
   obtain⟨bg,ex⟩:=List.getElem?_eq_some_iff.mp hx
   obtain⟨jf,ez⟩:=List.getElem?_eq_some_iff.mp hz
   rw[<- ex,<- ez];exact pairwise_iff_getElem.mp hk.up i j bg jf di
  refine⟨λσ' H'=>∃ (fN bg:Nat) (x4:Option V),σ'=[Vo (.ref a),Vo v,Vo (.int fN),Vo (.int bg),x4]/\bg - fN < hi - lo/\fN<=bg/\bg<=xs.length/\Qn H H'/\(∀ (i:Nat) x,i < fN->xs[i]?=Vo x->Pl.ltV x v=true)/\∀ (i:Nat) x,bg<=i->xs[i]?=Vo x->Pl.ltV x v=false,
   λσ' H2 ⟨fN,bg,zj,e,e1,e2,e3,e4,e5,e6⟩=>⟨_,e1,fN,bg,zj,e,rfl,e2,e3,e4,e5,e6⟩,by unfold Zua;decide,xs,SqL.of (sm _ _ hk.at_),y,by rw[em];exact Zx hy,y,v,rfl,py,qY,λH2 s2=>⟨_,rfl,?_⟩⟩
  rw[em];cases hl:Pl.ltV y v with
  | true =>
   rw[if_pos rfl];refine⟨(lo+hi) / 2+1,hi,_,rfl,by lia,by lia,h2,sm.trans s2,λi x bg hx=>?_,hb⟩
   by_cases e:i=(lo+hi) / 2
   ·rw[e,hy]at hx;cases hx;exact hl
   ·have px:Pl.Q1 x:=hk.pl x (Og hx)
    exact Pl.tr px py qY (vF i _ x y #[0] hx hy) hl
  | false =>
   rw[if_neg Uc];refine⟨lo,(lo+hi) / 2,_,rfl,by lia,by lia,by lia,sm.trans s2,ha,λi x bg hx=>?_⟩
   by_cases e:i=(lo+hi) / 2
   ·rw[e,hy]at hx;cases hx;exact hl
   ·have px:Pl.Q1 x:=hk.pl x (Og hx)
    cases q:Pl.ltV x v with
    | false=>rfl
    | true=>rw[Pl.tr py px qY (vF _ i y x #[0] hy hx) q]at hl;cases hl
 ·rw[if_neg aG]
  have e:lo=hi:=by lia
  subst e;exact q _ lo sm h2 ha hb
def QKc(es:List Dt)(k:V)(aF:Int):Prop:=∃ a b,es=a++b/\aF=(a.length:Int) - 1/\(∀ x∈a,ltK (Qv x) k\/Qv x=k)/\∀ x∈b,ltK k (Qv x)
theorem Jta.key(h:Jta d):Q6 (Qv d):=by
 obtain⟨k,r,rfl,hk⟩:=h;exact hk
theorem YRc{lo:Nat}(au:∀ d∈es,Jta d)(hk:Q6 k)(up:UpR ltK es)(hl:lo<=es.length)(h1:∀ (i:Nat) x,i < lo->(es.map Qv)[i]?=Vo x->Pl.ltV x k=true)(h2:∀ (i:Nat) x,lo<=i->(es.map Qv)[i]?=Vo x->Pl.ltV x k=false) :
 (∀ d,es[lo]?=Vo d->Qv d=k->QKc es k lo)/\((∀ d,es[lo]?=Vo d->Qv d≠k)->QKc es k ((lo:Int) - 1)):=by
 have lo1:∀ x∈es.take lo,ltK (Qv x) k:=λx hx=>by
  obtain⟨i,hi,e⟩:=mem_iff_getElem.mp hx;rw[Oa]at hi;rw[getElem_take]at e;refine⟨(au x (Ie hx)).key,hk,h1 i _ #[0] ?_⟩
  rw[Oe,I0 #[0],e];rfl
 have dU:∀ (i:Nat) d,lo<=i->es[i]?=Vo d->¬ ltK (Qv d) k:=λi d hi hd z=>by
  have:=h2 i (Qv d) hi (by rw[Oe,hd];rfl)
  rw[z.2.2]at this;cases this
 constructor
 ·intro d hd e
  obtain⟨aG,ed⟩:=List.getElem?_eq_some_iff.mp hd
  have bj:es=es.take lo++d::es.drop (lo+1):=by rw[<- ed,Dv,Ir]
  refine⟨es.take lo++[d],es.drop (lo+1),by rw[Iv];exact bj,by simp;lia,λx hx=>?_,λx hx=>?_⟩
  ·rcases mem_append.mp hx with z | z
   ·exact .inl (lo1 x z)
   ·rw[mem_singleton.mp z];exact .inr e
  ·rw[bj]at up
   rw[<- e];exact(pairwise_cons.mp up.right).1 x hx
 ·intro hn
  refine⟨es.take lo,es.drop lo,(Ir _ _).symm,by simp;lia,λx hx=>.inl (lo1 x hx),?_⟩
  cases hd:es[lo]? with
  | none =>
   intro x hx;rw[IU (List.getElem?_eq_none_iff.mp hd)]at hx
   cases hx
  | some d =>
   obtain⟨aG,ed⟩:=List.getElem?_eq_some_iff.mp hd
   have bO:es.drop lo=d::es.drop (lo+1):=by rw[<- ed,Dv]
   have kd:ltK k (Qv d):=by
    rcases ltK.tri hk (au d (Og hd)).key with z | z | z
    ·exact z
    ·exact absurd z.symm (hn d hd)
    ·exact absurd z (dU lo d (Um _) hd)
   have oj:UpR ltK (es.drop lo):=up.sublist (Iu _ _);rw[bO]at oj ⊢;intro x hx
   rcases mem_cons.mp hx with z | z
   ·rw[z];exact kd
   ·exact ltK.tr kd ((pairwise_cons.mp oj).1 x z)
def XLb(H:Hp):V->V
 | .ref a=>match H a with
  | some (.tup (x::_))=>x
  | _=>.non
 | _=>.non
theorem JJb{r:List V}(h:H a=Vo (.tup (k::r))):XLb H (.ref a)=k:=by
 simp only[XLb,h]
theorem Zqb(re:Vm (λd v=>TD H 6 d v) es xs)(au:∀ d∈es,Jta d){i:Nat}{x:V}(hx:xs[i]?=Vo x):∃ d b r,es[i]?=Vo d/\x=.ref b/\H b=Vo (.tup (Qv d::r))/\Q6 (Qv d)/\TD H 6 d x:=by
 have hi:=(List.getElem?_eq_some_iff.mp hx).1
 have le:=Vn re;have hd:es[i]?=Vo (es[i]'#[0]):=I0 _
 have tx:=Qx re hd hx;obtain⟨k,rr,ed,hk⟩:=au _ (Og hd);generalize es[i]'#[0]=d at hd tx ed
 subst ed;obtain⟨m,b,ws,_,eb,hb,iF⟩:=id tx.tup;cases iF with
 | cons r1 _ =>
  obtain⟨_,rfl⟩:=r1.flat;exact⟨_,b,_,hd,eb,hb,hk,tx⟩
inductive Jp(aD:VD)(vs:List V)(H:Hp)(Q:VK)(E:XK):Prop
 | mk:∀ t xs es k,vs=[.ref t,k]->H t=Vo (.tup xs)->Vm (λd v=>TD H 6 d v) es xs->(∀ d∈es,Jta d)->UpR ltK es->Q6 k->xs.length<=900->(∀ H' aF,Qn H H'->QKc es k aF->Q (.int aF) H')->Jp aD vs H Q E
seal PE PT PW PA PS PSs PI PG QT PGs PO in
theorem Qbb(Z:Zs mg)(T:Tx K mg CT cs ob)(zk:Cal P w K mg base 3 "place_of" ["keys","key"] (Q6a K))(F:Fun K "last_up_to" "last_up_to" Yz f fd):QE P w K mg base CX0 4 f fd ["entries","key"] (Jp K):=by
 refine F.ok ZGa (λvs H Q E h=>?_) (λap A outer s H vs Q E hr h=>?_)
 ·walk_at "n"
 obtain⟨t,xs,es,k,rfl,ht,re,au,up,hk,lx,q⟩:=h;refine⟨_,(Qb (Qi 2 ZGa.nd (Qr zk hr (Qh (YJ ["entries","key","place"] rfl (Yga (N:=["entries","key","place"]) (dsc:=Qj Yz) rfl rfl (by decide +kernel)) (QXc (pv 0)) (λ_ _ _ _ _=>Jga) (λ_ _ _ _ _=>(QA (r:=X6b K) QC (pv 0) Qd (λ_ _=>rfl)))) (Qh (pv 1) Qe))))
  (Qb (QK (PW.pt (JIa (Qq ZUb (pv 2) (Q5 Q8 rfl (Z.len) YK (Qh (pv 0) Qe)) (Qu _)) (Zea (Qq ZJ (QA QC (QA QC (pv 0) (pv 2) (λ_ _=>rfl)) Qd (λ_ _=>rfl)) (pv 1) (Qu _))))) (Qg (Qo (pv 2))) Qw)
  (Qg (Qo (Ql Jx (pv 2) Qd))))),?_⟩
 refine Qm (σ:=[Vo (.ref t),Vo k,Vp]) rfl ?_
 walk_at "rd";have le:=Vn re;have iJ:xs.map (XLb H)=es.map Qv:=by
  refine La (by simp[le]) λi g1 g2=>?_
  have b1:i < xs.length:=by simpa using g1
  obtain⟨d,b,r,hd,ex,hb,_⟩:=Zqb re au (I0 b1)
  simp only[getElem_map];rw[ex,JJb hb];obtain⟨_,e⟩:=List.getElem?_eq_some_iff.mp hd
  rw[e]
 refine⟨⟨_,SqT.of ht⟩,Xzb xs (λ_=>true) (XLb H) (SqT.of ht) (Ja #[0]) (λi x H2 R _ _ r=>r) (λi x H2 R hi _ s r=>?_) λD H2 hD s2 hd=>?_⟩
 ·obtain⟨d,b,r',_,rfl,hb,_⟩:=Zqb re au hi
  walk_at "rd";exact⟨_,SqT.of (s _ _ hb),_,at0 _ _,by rw[JJb hb]at r;exact r⟩
 rw[filter_eq_self.mpr (λ_ _=>rfl),iJ]at hd
 refine⟨D,es.map Qv,k,rfl,⟨hd,λv hv=>?_,?_,by rw[UJ];lia⟩,YV hk,λH3 lo s3 hl h1 h2=>?_⟩
 ·obtain⟨d,hd,rfl⟩:=mem_map.mp hv
  exact YV (au d hd).key
 ·rw[Di]
  exact Dj (λ{a b} h=>h.2.2) up
 rw[UJ]at hl;obtain⟨u1,u2⟩:=YRc au hk up hl h1 h2;have s:=s2.trans s3;walk_at "rd";refine⟨_,.inr (SqT.of (s _ _ ht)),ZL (λh=>?_) λh=>?_⟩
 ·obtain⟨d,b,r,hd,ex,hb,qZ,_⟩:=Zqb re au (I0 (show lo < xs.length by lia))
  refine⟨_,SqT.of (s _ _ ht),.ref b,by rw[<- ex];exact Zx (I0 #[0]),b,rfl,_,SqT.of (s _ _ hb),_,at0 _ _,Zpb qZ hk,ZL (λe=>?_) λe=>?_⟩
  ·exact q _ _ s (u1 d hd e)
  ·exact q _ _ s (u2 λd' bo e'=>e (by rw[hd]at bo;cases bo;exact e'))
 ·exact q _ _ s (u2 λd hd=>by have:=(List.getElem?_eq_some_iff.mp hd).1;lia)
def Za(d:Dt):Prop:=∃ k c,d=.t [.v k,.t c]/\Q6 k
theorem Za.ent(h:Za d):Jta d:=by obtain⟨k,c,rfl,hk⟩:=h;exact⟨k,_,rfl,hk⟩
inductive Q7a(aD:VD)(vs:List V)(H:Hp)(Q:VK)(E:XK):Prop
 | mk:∀ t xs,∀ aF:Int,∀ k,vs=[.ref t,.int aF,k]->H t=Vo (.tup xs)->Q6 k->((aF < 0/\Q .non H)\/∃ (i:Nat) (b:Vh) (k' cv:V),aF=(i:Int)/\xs[i]?=Vo (.ref b)/\H b=Vo (.tup [k',cv])/\Q6 k'/\Q (if k'=k then cv else .non) H)->Q7a aD vs H Q E
seal PE PT PW PA PS PSs PI PG QT PGs PO in
theorem JKb(Z:Zs mg)(T:Tx K mg CT cs ob)(F:Fun K "cells_at" "cells_at" ZWa f fd):QE P w K mg base CX0 1 f fd ["rows","at","key"] (Q7a K):=by
 refine F.ok JAb (λvs H Q E h=>?_) (λap A outer s H vs Q E hr h=>?_)
 ·walk_at "n"
 obtain⟨t,xs,aF,k,rfl,ht,hk,hq⟩:=h;refine⟨_,(Qb (QK (PW.pt (ZQb (Qq ZUb (pv 1) Qd (Qu _)) (YKa (Qq YSa (QA QC (QA QC (pv 0) (pv 1) (λ_ _=>rfl)) Qd (λ_ _=>rfl)) (pv 2) (Qu _))))) (Qg (Qo Zz)) Qw)
  (Qg (Qo (QA QC (QA QC (pv 0) (pv 1) (λ_ _=>rfl)) Qd (λ_ _=>rfl))))),?_⟩
 refine Qm (σ:=[Vo (.ref t),Vo (.int aF),Vo k]) rfl ?_
 walk_at "rd"
 rcases hq with ⟨h,q⟩ | ⟨i,b,k',cv,rfl,hx,hb,dZ,q⟩
 ·rw[if_pos h];exact q
 ·rw[if_neg #[0]]
  refine⟨_,SqT.of ht,.ref b,Zx hx,b,rfl,_,SqT.of hb,_,at0 _ _,Zpb dZ hk,ZL (λe=>?_) λe=>?_⟩
  ·rw[if_neg (by simpa using e)]at q;exact q
  ·rw[if_pos (by simpa using e)]at q
   exact⟨_,SqT.of ht,.ref b,Zx hx,b,rfl,_,SqT.of hb,_,at1 _ _ _,q⟩
def JLb(H:Hp)(es:List Dt)(k cv:V):Prop:=(∃ c,Dt.t [.v k,.t c]∈es/\TD H 5 (.t c) cv)\/((∀ d∈es,Qv d≠k)/\cv=.non)
def JBc(st:StL)(k v:V)(ws:List Int):Prop:=(v=.non/\ws=[])\/∃ n,v=.int n/\Way ltK (Qs st) k n ws
structure Yoa(es:List Dt):Prop where
 row:∀ d∈es,Za d
 up:UpR ltK es
 len:es.length<=900
theorem Xx:∀ {l:Nat} {M part:List Dt},Tow QM tbl l M part->(∀ d∈M,Za d)->UpR ltK M->(∀ d∈part,Jta d)/\UpR ltK part/\part.length<=M.length/\(1<=l->∀ d∈part,HdD d)
 | 0,M,part,t,h1,h2=>by
  rw[show part=M from t]
  exact⟨λd hd=>(h1 d hd).ent,h2,Um _,λz=>by lia⟩
 | l+1,M,part,t,h1,h2=>by
  cases M with
  | nil =>
   have:=t.fst.1.mp rfl;subst this;exact⟨(λd hd=>nomatch hd),Ic,Um _,λ_ d hd=>nomatch hd⟩
  | cons e r =>
   have ks:=t.keys;have hd:∀ d∈part,HdD d:=λd hd=>by
    obtain⟨gs,a,b⟩:=t;obtain⟨p,hp,n,ed,_⟩:=b.mem hd;refine⟨_,n,ed,?_⟩
    have hk:Qv d∈Qv e::(r.map Qv).filter (λk=>decide (l < QM k)):=by rw[<- ks];exact mem_map_of_mem hd
    rw[ed,YCa]at hk
    rcases mem_cons.mp hk with z | z
    ·rw[z];exact(h1 e #[2]).ent.key
    ·obtain⟨x,hx,ex⟩:=mem_map.mp (mem_filter.mp z).1
     rw[<- ex];exact(h1 x (VO _ hx)).ent.key
   refine⟨λd h=>(hd d h).ent,?_,t.len0,λ_=>hd⟩
   have sub:(part.map Qv).Sublist ((e::r).map Qv):=by
    rw[ks,UH];exact List.Sublist.cons₂ _ filter_sublist
   have up:((e::r).map Qv).Pairwise ltK:=by rw[Di];exact h2
   have:=up.sublist sub;rw[Di]at this;exact this
theorem QF.find{p:Vh}(h:QF P w ob H p d1 d2 st c)(hm:(n,d)∈Qs st):∃ t,(n,d,t)∈st:=by
 obtain⟨⟨a,b,t⟩,m1,e1⟩:=mem_map.mp hm;injection e1 with x1 y1
 dsimp only at x1 y1;subst x1 y1;exact⟨t,m1⟩
theorem YSc{p:Vh}(hS:QF P w ob H p d1 d2 st c)(hm:(n,Zm l es)∈Qs st)(q:∀ a H',Qn H H'->H a=Vp->PgD ob H' a l es->Q (.ref a) H'):QV P w cs ob [.ref p,.int n] H Q E:=by
 obtain⟨t,ht⟩:=hS.find hm;refine⟨p,d1,d2,st,c,n,rfl,hS,λl2 bO t2 bN a H' s ha pg=>?_,λz=>(z _ ht rfl).elim⟩
 obtain⟨el,ee⟩:=Jo (hS.fun_ ht bN).1;subst el ee;exact q a H' s ha pg
theorem Qea{K:VD}{CT:Vh}{kk mm:Nat}{σ:St}{p:Vh}(T:Tx K mg CT cs ob)(M:MeV P w K mg base mm (ob 3) "page" (QV P w cs ob))(hk:mm<=kk)
 (hi:σ[i]?=Vo (Vo (.ref p))) (hj:σ[j]?=Vo (Vo (.int n))) (hS:QF P w ob H p d1 d2 st c) (hm:(n,Zm l es)∈Qs st) (q:∀ a H',Qn H H'->H a=Vp->PgD ob H' a l es->Q (.ref a) H'):JOa P w K mg base kk "page" (Yv i) (YVa (Yv j) Jba) σ H Q E:=by
 obtain⟨dx,ho⟩:=hS.obj;refine Jn hi ho rfl (T.ob_ 3 #[1]).cl (M.mono hk) (Yw hj ?_)
 simp only[Jba];exact YSc hS hm q
theorem QF.off_pg{p C dx t:Vh}{tw:Bool}(h:QF P w ob H p d1 d2 st c)(ha:H a=Vo (.ins C dx (pgF tw l t))):a∉[p,d1,d2]:=λz=>by
 obtain⟨iE,ho⟩:=h.obj;simp only[LW,LX,or_false]at z
 rcases z with z | z | z
 ·rw[z,ho]at ha
  injection ha with ha
  injection ha with _ _ hf
  have:=congrArg (UG ("level":Str)) hf;have e1:(stF d1 d2 c).lookup ("level":Str)=Vp:=rfl;have e2:(pgF tw l t).lookup ("level":Str)=Vo (.int l):=by cases tw <;> rfl
  rw[e1,e2]at this;cases this
 ·rw[z,h.num]at ha;cases ha
 ·rw[z,h.tol]at ha;cases ha
theorem QF.none_x{p:Vh}{ag:StL}{c':Int}(_:QF P w ob H p d1 d2 st c)(s:QN [p,d1,d2] H H')(h':QF P w ob H' p d1 d2 ag c')(hb:H' b=Vp):H b=Vp:=by
 cases e:H b with
 | none=>rfl
 | some o =>
  have hn:b∉[p,d1,d2]:=λz=>by
   obtain⟨iE,ho⟩:=h'.obj;simp only[LW,LX,or_false]at z
   rcases z with z | z | z
   ·rw[z,ho]at hb;cases hb
   ·rw[z,h'.num]at hb;cases hb
   ·rw[z,h'.tol]at hb;cases hb
  rw[s _ _ hn e]at hb;cases hb
theorem PgD.few{p:Vh}(hS:QF P w ob H p d1 d2 st c)(hm:(n,Zm l es)∈Qs st):es.length<=900:=by
 obtain⟨t,ht⟩:=hS.find hm;obtain⟨l3,k3,r3,qX,e3,_,h3⟩:=hS.sh _ ht;rw[(Jo e3).2];simp;lia
structure Mid(R M:List Dt)(k:V):Prop where
 ex:∃ A B,R=A++(M++B)/\(∀ a∈A,ltK (Qv a) k)/\∀ b∈B,ltK k (Qv b)
theorem Mid.refl(R:List Dt)(k:V):Mid R R k:=⟨[],[],by simp,(λa h=>nomatch h),λb h=>nomatch h⟩
theorem Mid.trans{N:List Dt}(h:Mid R M k)(h':Mid M N k):Mid R N k:=by
 obtain⟨A,B,e,h1,h2⟩:=h.ex;obtain⟨C,D,e',h3,h4⟩:=h'.ex;exact⟨A++C,D++B,by rw[e,e'];simp,λa ha=>(mem_append.mp ha).elim (h1 a) (h3 a),λb hb=>(mem_append.mp hb).elim (h4 b) (h2 b)⟩
theorem Mid.none_(h:Mid R M k)(n:∀ d∈M,Qv d≠k):∀ d∈R,Qv d≠k:=by
 obtain⟨A,B,e,h1,h2⟩:=h.ex;intro d hd z;rw[e]at hd
 rcases mem_append.mp hd with y | y
 ·have:=h1 d y;rw[z]at this;exact ltK.irr _ this
 ·rcases mem_append.mp y with y | y
  ·exact n d y z
  ·have:=h2 d y;rw[z]at this;exact ltK.irr _ this
theorem Mid.mem(h:Mid R M k){d:Dt}(hd:d∈M):d∈R:=by
 obtain⟨A,B,e,h1,h2⟩:=h.ex;rw[e];simp[hd]
theorem none_of(s:Qn H0 H1)(h:H1 b=Vp):H0 b=Vp:=by
 cases e:H0 b with
 | none=>rfl
 | some o=>rw[s _ _ e]at h;cases h
theorem Yoa.mid(h:Yoa R)(m:Mid R M k):(∀ d∈M,Za d)/\UpR ltK M/\M.length<=900:=by
 obtain⟨A,B,e,_,_⟩:=m.ex;have up:=h.up;have l:=h.len;rw[e]at up l;simp only[Oh]at l;exact⟨λd hd=>h.row d (m.mem hd),up.right.left,by lia⟩
inductive XMb(tbl:List (Int×Dt))(l:Nat)(M a b:List Dt)(h:Dt)(k:V):Prop
 | mk (A N B:List Dt) (n:Int) (part:List Dt) (e:M=A++(N++B)) (tA:Tow QM tbl (l+1) A a) (tB:Tow QM tbl (l+1) B b) (eh:h=Zy (Zf N) n) (hm:(n,Zm (l:Int) part)∈tbl) (tp:Tow QM tbl l N part) (hN:N≠[]) (c1:A=[]\/l+1<=QM (Zf N)) (c2:B=[]\/l+1<=QM (Zf B)) (h1:∀ a∈A,ltK (Qv a) k) (h2:∀ b∈B,ltK k (Qv b)):XMb tbl l M a b h k
theorem XFa{l:Nat}{a b:List Dt}{h:Dt}(t:Tow QM tbl (l+1) M (a++h::b))(up:UpR ltK M)(le:ltK (Qv h) k\/Qv h=k)(hb:∀ x∈b,ltK k (Qv x)):XMb tbl l M a b h k:=by
 obtain⟨A,N,B,n,part,e,tA,tN,tB,eh,hm,tp,hN,h1,h2⟩:=t.at_;rw[eh,YCa]at le;rw[e]at up;refine⟨A,N,B,n,part,e,tA,tB,eh,hm,tp,hN,h1,h2,?_,?_⟩
 ·have u1:UpR ltK (A++N):=by rw[<- Iv]at up;exact up.left
  exact u1.ahead hN ltK.tr le
 ·refine up.right.behind ltK.tr ?_
  by_cases eB:B=[]
  ·exact .inl eB
  ·have q8:=tB.ne eB
   cases b with
   | nil=>exact absurd rfl q8
   | cons x r =>
    refine .inr ?_
    rw[<- tB.fst.2];exact hb x #[2]
inductive YHa(P:Vg)(w:Vb)(cs ob:Nat->Vh)(vs:List V)(H:Hp)(Q:VK)(E:XK):Prop
 | mk:∀ p d1 d2 st c v k es,vs=[.ref p,v,k]->QF P w ob H p d1 d2 st c->QH st es v->Yoa es->Q6 k->(∀ r y H' cv ws,Qn H H'->H r=Vp->H' r=Vo (.tup [cv,.ref y])->H' y=Vo (.lst (ws.map V.int))->H y=Vp->JLb H' es k cv->JBc st k v ws->Q (.ref r) H')->YHa P w cs ob vs H Q E
inductive SkI(H:Hp)(p y:Vh)(v k:V)(es:List Dt)(st:StL)(m:Nat)(σ':St)(H':Hp):Prop
 | mk:∀ (nv:V) (ws:List Int) (x5 x6:Option V),σ'=[Vo (.ref p),Vo v,Vo k,Vo (.ref y),Vo nv,x5,x6]->Qn H H'->H' y=Vo (.lst (ws.map V.int))->ws.length+m<=8 ->
  ((nv=.non/\(∀ d∈es,Qv d≠k)/\JBc st k v ws)\/∃ n l M part,nv=.int n/\m=l+1/\(n,Zm ((l:Nat):Int) part)∈Qs st/\Tow QM (Qs st) l M part/\M≠[]/\Mid es M k/\∀ w',Way ltK (Qs st) k n w'->JBc st k v (ws++w'))->SkI H p y v k es st m σ' H'
seal PE PT PW PA PS PSs PI PG QT PGs PO in
theorem YTc(Z:Zs mg)(T:Tx K mg CT cs ob)(JJ:Cal P w K mg base 4 "last_up_to" ["entries","key"] (Jp K))(zm:Cal P w K mg base 1 "cells_at" ["rows","at","key"] (Q7a K))(Qt:MeV P w K mg base 5 (ob 3) "page" (QV P w cs ob))(F:Fun K "seek" "seek" YFb f fd):QE P w K mg base CX0 6 f fd ["pages","root","key"] (YHa P w cs ob):=by
 refine F.ok Zma (λvs H Q E h=>?_) (λap A outer s H vs Q E hr h=>?_)
 ·walk_at "n"
 obtain⟨p,d1,d2,st,c,v,k,es,rfl,hS,hT,hR,hk,q⟩:=h;refine⟨_,(Qb (Qi 3 Zma.nd (ZA Qe))
  (Qb (Qi 4 Zma.nd (pv 1))
  (Qb (Qxa Da (Qq Xcb (pv 4) Zz (Qu _)) (Qb (Zh (Qza Dc Dd De ZS (pv 3) (Qh (pv 4) Qe)))
  (Qb (Qi 5 Zma.nd (PE1.pe (Zb (k:=5) (pv 0) hr rfl (Qh (pv 4) Qe)) Ze))
  (Qb (Qi 6 Zma.nd (Qr JJ hr (Qh (Qz (pv 5) rfl) (Qh (pv 2) Qe))))
  (Qb (QK (Qq ZJ (Qz (pv 5) rfl) Qd (Qu _)) (Qg (Qo (ZM (Qh (Qr zm hr (Qh (Qz (pv 5) rfl) (Qh (pv 6) (Qh (pv 2) Qe)))) (Qh (pv 3) Qe))))) Qw)
  (Qg (Qi 4 Zma.nd (YMa (Qq Y3c (pv 6) Qd (Qu _)) (QA QC (QA QC (Qz (pv 5) rfl) (pv 6) (λ_ _=>rfl)) Qd (λ_ _=>rfl)) Zz))))))))
  (Qg (Qo (ZM (Qh Zz (Qh (pv 3) Qe)))))))),?_⟩
 refine Qm (σ:=[Vo (.ref p),Vo v,Vo k,Vp,Vp,Vp,Vp]) rfl ?_
 walk_at "rd";refine⟨by decide,λy hy=>?_⟩
 refine⟨λm σ' H'=>SkI H p y v k es st m σ' H',?_,?_⟩
 ·rcases hT with ⟨rfl,rfl⟩ | ⟨ax,top,L,kk,n,h6,ch,eL,rfl⟩
  ·exact⟨0,.non,[],Vp,Vp,rfl,Qf hy _,Qa,by simp,.inl ⟨rfl,(λd hd=>nomatch hd),.inl ⟨rfl,rfl⟩⟩⟩
  ·obtain⟨part,hm,tp,_,_⟩:=(ch.toRoot hS.fn eL).page
   exact⟨top+1,.int n,[],Vp,Vp,rfl,Qf hy _,Qa,by simp;lia,.inr ⟨n,top,es,part,rfl,rfl,hm,tp,ax,Mid.refl _ _,λw' hw=>.inr ⟨n,rfl,hw⟩⟩⟩
 rintro m σ' H' ⟨nv,ws,x5,x6,rfl,s1,rg,lw,kM⟩;walk_at "rd"
 rcases kM with ⟨rfl,kO,hw⟩ | ⟨n,l,M,part,rfl,rfl,hm,tp,hM,fe,iL⟩
 ·rw[if_neg (not_not_intro rfl)]
  exact⟨JA,λr hr=>q r y _ .non ws (s1.trans (Qf hr _)) (none_of s1 hr) Qa (Qf hr _ _ _ rg) hy (.inr ⟨kO,rfl⟩) hw⟩
 rw[if_pos (λz=>nomatch z)]
 refine⟨_,λσ' H' h=>h,.inl ⟨rfl,_,SqL.of rg⟩,_,rg,QD (by rw[UJ];lia),?_⟩
 have s2:Qn H (upd H' y (.lst (ws.map V.int++[.int n]))):=Jd s1 hy;have g2:upd H' y (.lst (ws.map V.int++[.int n])) y=Vo (.lst ((ws++[n]).map V.int)):=by rw[Qa,LM];rfl
 generalize upd H' y (.lst (ws.map V.int++[.int n]))=H2 at s2 g2 ⊢;have bZ:=hS.same s2;obtain⟨dx,ho⟩:=bZ.obj;obtain⟨kP,oP,lenM⟩:=hR.mid fe;obtain⟨au,cU,lp,gF⟩:=Xx tp kP oP;refine Qea T Qt #[1] rfl rfl bZ hm λpg H3 s3 ft aW=>?_
 obtain⟨tw,rh,t,cy,bh,ht⟩:=id aW;obtain⟨mm,t',xs,em,e,bH,rt⟩:=ht.tup;cases e;obtain rfl:mm=6:=by lia
 have gG:=Vn rt;refine Js T rfl bh ⟨t,xs,part,k,rfl,bH,rt,au,cU,hk,by lia,λH4 aF s4 hu=>?_⟩
 have cV:=s4 _ _ bh;have oQ:=s2.trans (s3.trans s4);have y4:=s4 _ _ (s3 _ _ g2);have fX:=TDs.sameT rt s4.t;obtain⟨a,b,ep,ea,h1,h2⟩:=hu;refine Q0a T rfl cV ⟨rfl,ZL (λh0=>?_) λh0=>?_⟩
 ·injection h0 with h0
  obtain rfl:l=0:=by lia
  obtain rfl:tw=false:=by rw[cy];rfl
  rw[show part=M from tp]at hm ep fX gG
  refine QJ (T.ob_ 1 #[1]) #[1] rfl cV rfl ?_
  have fin:∀ cv,JLb H4 M k cv->[cv,V.ref y].length<=Vs/\∀ p:Vh,H4 p=Vp->Q (.ref p) (upd H4 p (.tup [cv,.ref y])):=λcv hf=>by
   refine⟨JA,λr hr=>q r y _ cv (ws++[n]) (oQ.trans (Qf hr _)) (none_of oQ hr) Qa (Qf hr _ _ _ y4) hy ?_ (iL [n] (.leaf hm))⟩
   rcases hf with ⟨c,hc,tc⟩ | ⟨hn,e⟩
   ·exact .inl ⟨c,fe.mem hc,tc.same (Qf hr _)⟩
   ·exact .inr ⟨fe.none_ hn,e⟩
  by_cases gH:a=[]
  ·subst gH
   refine⟨t,xs,aF,k,rfl,s4 _ _ bH,hk,.inl ⟨by rw[ea];decide,fin _ (.inr ⟨λd hd z=>?_,rfl⟩)⟩⟩
   rw[ep]at hd;have:=h2 d hd;rw[z]at this;exact ltK.irr _ this
  ·obtain⟨ini,x,rfl⟩:=Z2 gH
   have hx:M[ini.length]?=Vo x:=by rw[ep,Iv];simp
   have li:ini.length < xs.length:=by have:=(List.getElem?_eq_some_iff.mp hx).1;lia
   have tx:=Qx fX hx (I0 li)
   obtain⟨kx,cx,rfl,oR⟩:=kP x (Og hx);obtain⟨bb,v1,v2,eb,hb,w1,w2⟩:=TD.pair_of tx;obtain⟨_,rfl⟩:=w1.flat;refine⟨t,xs,aF,k,rfl,s4 _ _ bH,hk,.inr ⟨ini.length,bb,v1,v2,by rw[ea];simp,by rw[I0 li,eb],hb,oR,?_⟩⟩
   by_cases ek:v1=k
   ·rw[if_pos ek]
    subst ek;exact fin _ (.inl ⟨cx,Og hx,w2⟩)
   ·rw[if_neg ek]
    refine fin _ (.inr ⟨λd hd z=>?_,rfl⟩)
    rw[ep]at hd
    rcases mem_append.mp hd with w | w
    ·rcases mem_append.mp w with w | w
     ·have u:ltK (Qv d) v1:=by
       have:=oP;rw[ep]at this;exact this.left.across w (mem_singleton.mpr rfl)
      rw[z]at u
      rcases h1 _ (Ur _ (mem_singleton.mpr rfl)) with c | c
      ·exact ltK.irr _ (ltK.tr u c)
      ·exact ek c
     ·rw[mem_singleton.mp w]at z;exact ek z
    ·have:=h2 d w
     rw[z]at this;exact ltK.irr _ this
 ·have rn:l≠0:=λz=>h0 (by rw[z];rfl)
  obtain⟨l',rfl⟩:∃ l',l=l'+1:=⟨l - 1,by lia⟩
  obtain rfl:tw=true:=by rw[cy];exact decide_eq_true #[0]
  refine⟨aF,rfl,ZL (λhi=>?_) λhi=>?_⟩
  ·have gH:a≠[]:=λz=>by rw[z]at ea;simp at ea;lia
   obtain⟨ini,x,rfl⟩:=Z2 gH;have hx:part[ini.length]?=Vo x:=by rw[ep,Iv];simp
   have li:ini.length < xs.length:=by have:=(List.getElem?_eq_some_iff.mp hx).1;lia
   have tx:=Qx fX hx (I0 li)
   have cH:=h1 x (Ur _ (mem_singleton.mpr rfl));rw[Iv]at ep;rw[ep]at tp hm;obtain⟨A,N,B,n',az,eM,tA,tB,ex,dw,fY,hN,_,_,hA,hB⟩:=XFa tp oP cH h2;subst ex;obtain⟨bb,v1,v2,eb,hb,w1,w2⟩:=TD.pair_of tx;obtain⟨_,rfl⟩:=w2.flat;rw[YCa]at cH;refine QJ (T.ob_ 2 #[1]) #[1] rfl cV rfl ⟨t,rfl,_,aF,rfl,SqT.of (s4 _ _ bH),.ref bb,by rw[ea,<- eb];simp;exact Zx (I0 li),bb,rfl,_,SqT.of hb,_,at1 _ _ _,l'+1,by lia,.int n',ws++[n],_,_,rfl,oQ,y4,by simp;lia,.inr ⟨n',l',N,az,rfl,rfl,dw,fY,hN,fe.trans ⟨A,B,eM,hA,hB⟩,λw' hw=>?_⟩⟩
   have:=iL (n::w') (.go hm (λz=>by rcases cH with c | c;exact ltK.irr _ (ltK.tr z c);rw[c]at z;exact ltK.irr _ z) h2 hw)
   rw[Iv];exact this
  ·have gH:a=[]:=by
    cases a with
    | nil=>rfl
    | cons x r=>simp at ea;lia
   subst gH;rw[LJ]at ep;subst ep;refine⟨0,by lia,.non,ws++[n],_,_,rfl,oQ,y4,by simp;lia,.inl ⟨rfl,fe.none_ λd hd z=>?_,iL [n] (.stop hm h2)⟩⟩
   have kf:ltK k (Zf M):=by
    rw[<- tp.fst.2];have ax:=tp.ne hM;cases part with
    | nil=>exact absurd rfl ax
    | cons x r=>exact h2 x #[2]
   have:=UpR.behind (M:=[]) (B:=M) oP ltK.tr (.inr kf) d hd;rw[z]at this;exact ltK.irr _ this
structure XNb(P:Vg)(w:Vb)(ob:Nat->Vh)(H H':Hp)(p d1 d2:Vh)(st ag:StL)(c':Int)(r:Vh)(l:Nat)(M hs:List Dt)(ys:List V):Prop where
 sx:QN [p,d1,d2] H H'
 fr:H r=Vp
 at_:H' r=Vo (.lst ys)
 ty:Vm (λd v=>TD H' 6 d v) hs ys
 hd:∀ d∈hs,HdD d
 tow:Tow QM (Qs ag) (l+1) M hs
 sA:QF P w ob H' p d1 d2 ag c'
 sub:∀ x∈Qs st,x∈Qs ag
section
variable{P:Vg}{w:Vb}{ob:Nat->Vh}{H H0 H1:Hp}{p d1 d2 e:Vh}{st gI:StL}{c1:Int}{b:Bool}{xs:List V}{es M:List Dt}{l:Nat}{Q:VK}{E:XK}
theorem YW(hS:QF P w ob H1 p d1 d2 gI c1)(he:HE b H1 e xs)(re:Vm (λd v=>TD H1 6 d v) es xs)(au:∀ d∈es,Jta d)(lx:xs.length<=900)(few:gI.length+xs.length<=16000000)(t:Tow QM (Qs gI) l M es)(sx:QN [p,d1,d2] H H1)(sub:∀ x∈Qs st,x∈Qs gI)
 (q:∀ r H' ag c' hs ys,XNb P w ob H H' p d1 d2 st ag c' r l M hs ys->ag.length<=gI.length+xs.length->Q (.ref r) H') (fr:∀ r,H1 r=Vp->H r=Vp):ZO P w ob [.ref p,.int l,.ref e] H1 Q E :=
 ⟨p,d1,d2,gI,c1,l,e,b,xs,es,rfl,hS,he,re,au,lx,few,λr H' ag c' hs ys fU hr fb tys hd dv bZ cT l2=>q r H' ag c' hs ys ⟨sx.trans fU,fr r hr,fb,tys,hd,(t.mono cT).up dv,bZ,λx hx=>cT x (sub x hx)⟩ l2⟩
end
theorem Qtd{n:Nat}(h:n<=9000):n<=Vs:=VJ h (by rw[Uw];decide)
theorem Zrb(v:V):[v].length<=1000:=show 1<=1000 by decide
theorem JCc{aF:Int}(up:UpR ltK es)(h:QKc es k aF) :
 (∀ (i:Nat) d,aF=(i:Int)->es[i]?=Vo d->Qv d=k->J0 ltK k row es (es.take i++row::es.drop (i+1)))/\((∀ (i:Nat) d,aF=(i:Int)->es[i]?=Vo d->Qv d≠k)->∃ j:Nat,aF+1=(j:Int)/\j<=es.length/\J0 ltK k row es (es.take j++row::es.drop j)):=by
 obtain⟨a,b,rfl,rfl,h1,h2⟩:=h
 constructor
 ·intro i d hi hd e
  have la:i < a.length:=by lia
  rw[Od la]at hd
  have ea:a=a.take i++[d]:=by
   have:a.drop i=[d]:=by
    rw[<- Dv la,IU #[0]]
    rw[I0 la]at hd
    injection hd with hd
    rw[hd]
   rw[<- this,Ir]
  have t1:(a++b).take i=a.take i:=by rw[take_append_of_le_length #[0]]
  have t2:(a++b).drop (i+1)=b:=by rw[show i+1=a.length by lia,drop_left]
  rw[t1,t2];refine⟨a.take i,b,rfl,.inr ⟨d,?_,e⟩,λx hx=>?_,h2⟩
  ·conv=>lhs;rw[ea]
   simp
  ·rw[ea,Iv]at up
   rw[<- e];exact up.across hx #[2]
 ·intro hn
  refine⟨a.length,by lia,by simp,a,b,by simp,.inl rfl,λx hx=>?_,h2⟩
  rcases h1 x hx with z | z
  ·exact z
  ·exfalso
   obtain⟨ini,last,rfl⟩:=Z2 (xs:=a) (λy=>by rw[y]at hx;cases hx)
   have hl:=hn ini.length last #[2] (by rw[Od #[2]];simp)
   rcases mem_append.mp hx with y | y
   ·have u:=up.left.across y (mem_singleton.mpr rfl)
    rw[z]at u
    rcases h1 last #[2] with v | v
    ·exact ltK.irr _ (ltK.tr u v)
    ·exact hl v
   ·rw[mem_singleton.mp y]at z;exact hl z
theorem J0.len{R':List Dt}(h:J0 ltK k row R R'):R'.length<=R.length+1:=by
 obtain⟨A,C,e,e2,_⟩:=h
 rcases e2 with e2 | ⟨o,e2,_⟩ <;> rw[e,e2] <;> simp <;> lia
inductive XOb(tbl:List (Int×Dt))(l:Nat)(M part:List Dt)(k:V)(aF:Int):Prop
 | mk (ini:List Dt) (h:Dt) (bs A N B:List Dt) (n':Int) (az:List Dt) (e1:part=ini++h::bs) (e2:(if (0:Int) > aF then (0:Int) else aF)=(ini.length:Int)) (e:M=A++(N++B)) (tA:Tow QM tbl (l+1) A ini) (tB:Tow QM tbl (l+1) B bs) (eh:h=Zy (Zf N) n') (hm:(n',Zm (l:Int) az)∈tbl) (tp:Tow QM tbl l N az) (hN:N≠[]) (c2:B=[]\/l+1<=QM (Zf B)) (h1:∀ a∈A,ltK (Qv a) k) (h2:∀ b∈B,ltK k (Qv b)) (c1:A=[]\/(l+1<=QM (Zf N)/\(ltK (Zf N) k\/Zf N=k))):XOb tbl l M part k aF
theorem JDc{l:Nat}{part:List Dt}{aF:Int}(t:Tow QM tbl (l+1) M part)(hM:M≠[])(up:UpR ltK M)(hu:QKc part k aF):XOb tbl l M part k aF:=by
 obtain⟨a,b,rfl,rfl,h1,h2⟩:=hu
 by_cases ea:a=[]
 ·subst ea
  cases b with
  | nil=>exact absurd rfl (t.ne hM)
  | cons h bs =>
   obtain⟨A,N,B,n,az,e,tA,tN,tB,eh,hm,tp,hN,c1,c2⟩:=(show Tow QM tbl (l+1) M ([]++h::bs) from t).at_
   have eA:A=[]:=tA.fst.1.mpr rfl;subst eA;rw[LJ]at e;have kN:ltK k (Zf N):=by have:=h2 h #[2];rw[eh]at this;exact this
   refine⟨[],h,bs,[],N,B,n,az,rfl,rfl,by rw[e];rfl,tA,tB,eh,hm,tp,hN,c2,(λa ha=>nomatch ha),λb hb=>?_,.inl rfl⟩
   rw[e]at up;obtain⟨x,hx,ex⟩:=Jqa hN;have:=up.across hx hb;rw[ex]at this;exact ltK.tr kN this
 ·obtain⟨ini,h,rfl⟩:=Z2 ea
  rw[Iv]at t;have le:=h1 h (Ur _ (mem_singleton.mpr rfl));obtain⟨A,N,B,n,az,e,tA,tB,eh,hm,tp,hN,c1,c2,hA,hB⟩:=XFa t up le h2;refine⟨ini,h,b,A,N,B,n,az,by rw[Iv];rfl,?_,e,tA,tB,eh,hm,tp,hN,c2,hA,hB,?_⟩
  ·rw[Oh,Ow,if_neg #[0]];lia
  ·rw[eh,YCa]at le
   exact c1.imp_right λz=>⟨z,le⟩
inductive Qfa(aD:VD)(vs:List V)(H:Hp)(Q:VK)(E:XK):Prop
 | mk:∀ l xs es,∀ aF:Int,∀ rb row k,vs=[.ref l,.int aF,.ref rb]->H l=Vo (.lst xs)->Vm (λd v=>TD H 6 d v) es xs->(∀ d∈es,Za d)->UpR ltK es->TD H 6 row (.ref rb)->Za row->Qv row=k->QKc es k aF->xs.length<=800->(∀ r H' ys aj,Qn H H'->H r=Vp->H' r=Vo (.lst ys)->Vm (λd v=>TD H' 6 d v) aj ys->J0 ltK k row es aj->ys.length<=xs.length+1->Q (.ref r) H')->Qfa aD vs H Q E
seal PE PT PW PA PS PSs PI PG QT PGs PO in
theorem Zsb(Z:Zs mg)(T:Tx K mg CT cs ob)(F:Fun K "rows_with" "rows_with" QNa f fd):QE P w K mg base CX0 1 f fd ["rows","at","row"] (Qfa K):=by
 refine F.ok Zbb (λvs H Q E h=>?_) (λap A outer s H vs Q E hr h=>?_)
 ·walk_at "n"
 obtain⟨l,xs,es,aF,rb,row,k,rfl,hl,re,aS,up,tr,bD,ek,hu,lx,q⟩:=h;refine⟨_,(Qb (QK (PW.pt (JIa (Qq Y3c (pv 1) Qd (Qu _)) (Zea (Qq ZJ (QA QC (QA Zl (pv 0) (pv 1) (λ_ _=>rfl)) Qd (λ_ _=>rfl)) (QA QC (pv 2) Qd (λ_ _=>rfl)) (Qu _))))) (Qg (Qo (XQ (Ql ZH (Ql ZH (QP Q7 (pv 0) Zd (QY (pv 1))) (ZA (Qh (pv 2) Qe))) (QP Q7 (pv 0) (QY (Ql Zk (pv 1) Qd)) Zd))))) Qw)
  (Qg (Qo (XQ (Ql ZH (Ql ZH (QP Q7 (pv 0) Zd (QY (Ql Zk (pv 1) Qd))) (ZA (Qh (pv 2) Qe))) (QP Q7 (pv 0) (QY (Ql Zk (pv 1) Qd)) Zd)))))),?_⟩
 refine Qm (σ:=[Vo (.ref l),Vo (.int aF),Vo (.ref rb)]) rfl ?_
 walk_at "rd";have le:=Vn re;obtain⟨u1,u2⟩:=JCc (row:=row) up hu;obtain⟨kr,cr,ff,rC⟩:=bD;obtain⟨zn,v1,v2,e1,jr,w1,w2⟩:=TD.pair_of (ff ▸ tr);cases e1;obtain⟨_,kQ⟩:=w1.flat;have kR:v1=k:=by rw[kQ,<- ek,ff];rfl
 have skip:(∀ (i:Nat) d,aF=(i:Int)->es[i]?=Vo d->Qv d≠k)->∀ r H',Qn H H'->H r=Vp->H' r=Vo (.lst (Yd xs Vp (Vo (aF+1))++[.ref rb]++Yd xs (Vo (aF+1)) Vp))->Q (.ref r) H':=λhn r H' s hr g=>by
  obtain⟨j,ej,lj,pj⟩:=u2 hn;rw[ej,Qab,XEa,Iv]at g;refine q r H' _ _ s hr g (QI (Zo j (TDs.sameT re s.t)) (.cons (tr.same s) (Zp j (TDs.sameT re s.t)))) pj (by simp;lia)
 refine ZL (λh0=>?_) λh0=>?_
 ·obtain⟨i,ei⟩:∃ i:Nat,aF=(i:Int):=⟨aF.toNat,by lia⟩
  have hi:i < xs.length:=by
   obtain⟨a,b,e,ea,_⟩:=hu;have:es.length=a.length+b.length:=by rw[e,Oh]
   lia
  obtain⟨d,bb,r',hd,ex,hb,qZ,_⟩:=Zqb re (λd hd=>(aS d hd).ent) (I0 hi)
  refine⟨xs,SqL.of hl,.ref bb,by rw[ei,<- ex];exact Zx (I0 hi),bb,rfl,_,SqT.of hb,_,at0 _ _,_,SqT.of jr,_,at0 _ _,Zpb qZ (by rw[kQ];exact rC),ZL (λe=>?_) λe=>?_⟩
  ·refine ZVa (ia:=0) (ic:=0) rfl rfl (λ_ _ q=>q) (λ_ _ q=>⟨_,_,rfl,rfl,q⟩) (λH0 R s0 r=>⟨Zjb _,λp hp=>r p _ (Qf hp _) Qa⟩) hl hl #[0] #[0] (Zrb _) λr H' s hr g=>?_
   rw[ei,show(i:Int)+1=((i+1:Nat):Int) by lia,Qab,XEa,Iv]at g
   exact q r H' _ _ s hr g (QI (Zo i (TDs.sameT re s.t)) (.cons (tr.same s) (Zp (i+1) (TDs.sameT re s.t)))) (u1 i d ei hd (by rw[e,kR])) (by simp;lia)
  ·exact ZVa (ia:=0) (ic:=0) rfl rfl (λ_ _ q=>⟨_,_,rfl,rfl,q⟩) (λ_ _ q=>⟨_,_,rfl,rfl,q⟩) (λH0 R s0 r=>⟨Zjb _,λp hp=>r p _ (Qf hp _) Qa⟩) hl hl #[0] #[0] (Zrb _) (skip λi' d' zo bo z=>e (by
    obtain rfl:i'=i:=by lia
    rw[hd]at bo;cases bo;rw[kR];exact z))
 ·exact ZVa (ia:=0) (ic:=0) rfl rfl (λ_ _ q=>⟨_,_,rfl,rfl,q⟩) (λ_ _ q=>⟨_,_,rfl,rfl,q⟩) (λH0 R s0 r=>⟨Zjb _,λp hp=>r p _ (Qf hp _) Qa⟩) hl hl #[0] #[0] (Zrb _) (skip λi' d' zo bo z=>h0 #[0])
inductive Q8a(P:Vg)(w:Vb)(_cs ob:Nat->Vh)(n:Nat)(vs:List V)(H:Hp)(Q:VK)(E:XK):Prop
 | mk:∀ p d1 d2 st c,∀ m:Int,∀ l:Nat,∀ part M rb row k,vs=[.ref p,.int m,.ref rb]->QF P w ob H p d1 d2 st c->(m,Zm (l:Int) part)∈Qs st->Tow QM (Qs st) l M part->M≠[]->(∀ d∈M,Za d)->UpR ltK M->M.length<=800->l<=n->TD H 6 row (.ref rb)->Za row->Qv row=k->st.length+(l+1) * (M.length+1)<=16000000->(∀ r H' ag c' M' hs ys,XNb P w ob H H' p d1 d2 st ag c' r l M' hs ys->J0 ltK k row M M'->ag.length<=st.length+(l+1) * (M.length+1)->Q (.ref r) H')->Q8a P w _cs ob n vs H Q E
def J9(P:Vg)(w:Vb)(_cs ob:Nat->Vh):Nat->Sp
 | 0=>λ_ _ _ _=>False
 | n+1=>Q8a P w _cs ob n
seal PE PT PW PA PS PSs PI PG QT PGs PO in
theorem Qcb(Z:Zs mg)(T:Tx K mg CT cs ob)(JJ:Cal P w K mg base 4 "last_up_to" ["entries","key"] (Jp K))(Zg:Cal P w K mg base 5 "heads_of" ["pages","level","entries"] (ZO P w ob))(zp:Cal P w K mg base 1 "rows_with" ["rows","at","row"] (Qfa K))(Qt:MeV P w K mg base 5 (ob 3) "page" (QV P w cs ob)){n:Nat}(IH:Cal P w K mg base (6+n) "heads_with" ["pages","number","row"] (J9 P w cs ob n))(F:Fun K "heads_with" "heads_with" X7 f fd):QE P w K mg base CX0 (6+n+1) f fd ["pages","number","row"] (J9 P w cs ob (n+1)):=by
 refine F.ok ZT (λvs H Q E h=>?_) (λap A outer s H vs Q E hr h=>?_)
 ·walk_at "n"
 obtain⟨p,d1,d2,st,c,m,l,part,M,rb,row,k,rfl,hS,hm,tw,hM,aS,up,lM,hl,dO,bD,ek,few,q⟩:=h;refine⟨_,(Qb (Qi 3 ZT.nd (PE1.pe (Zb (k:=(6+n)) (pv 0) hr rfl (Qh (pv 1) Qe)) Ze))
  (Qb (Qi 4 ZT.nd (Z7 JJ (k:=(6+n)) hr #[0] rfl (Qh (Qz (pv 3) rfl) (Qh (QA QC (pv 2) Qd (λ_ _=>rfl)) Qe))))
  (Qb (QK (Qq ZJ (Qz (pv 3) rfl) Qd (Qu _)) (Qg (Qo (Z7 Zg (k:=(6+n)) hr #[0] rfl (Qh (pv 0) (Qh Qd (Qh (Z7 zp (k:=(6+n)) hr #[0] rfl (Qh (QS Q9 rfl (Z.list) Z0 (Qh (Qz (pv 3) rfl) Qe)) (Qh (pv 4) (Qh (pv 2) Qe)))) Qe)))))) Qw)
  (Qb (Qi 5 ZT.nd (Q5 (X1b rfl) rfl (Z.max) XVc (Qh (pv 4) (Qh Qd Qe))))
  (Qb (Qi 6 ZT.nd (QS Q9 rfl (Z.list) Z0 (Qh (Qz (pv 3) rfl) Qe)))
  (Qb (Qi 7 ZT.nd (Z7 IH (k:=(6+n)) hr #[0] rfl (Qh (pv 0) (Qh (QA QC (QA Zl (pv 6) (pv 5) (λ_ _=>rfl)) Qd (λ_ _=>rfl)) (Qh (pv 2) Qe)))))
  (Qg (Qo (Z7 Zg (k:=(6+n)) hr #[0] rfl (Qh (pv 0) (Qh (Qz (pv 3) rfl) (Qh (XQ (Ql ZH (Ql ZH (QP Q7 (pv 6) Zd (QY (pv 5))) (pv 7)) (QP Q7 (pv 6) (QY (Ql Zk (pv 5) Qd)) Zd))) Qe)))))))))))),?_⟩
 refine Qm (σ:=[Vo (.ref p),Vo (.int m),Vo (.ref rb),Vp,Vp,Vp,Vp,Vp]) rfl ?_
 walk_at "rd";obtain⟨kr,cr,ff,rC⟩:=id bD;obtain⟨zn,v1,v2,e1,jr,w1,w2⟩:=TD.pair_of (ff ▸ dO);cases e1;obtain⟨_,kQ⟩:=w1.flat;have kR:v1=k:=by rw[kQ,<- ek,ff];rfl
 have hk:Q6 k:=by rw[<- kR,kQ];exact rC
 rw[kR]at jr;obtain⟨au,cU,lp,gF⟩:=Xx tw aS up;refine Qea T Qt #[0] rfl rfl hS hm λpg H1 s1 ft aW=>?_
 obtain⟨js,rh,t,cy,bh,ht⟩:=id aW;obtain⟨mm,t',xs,em,e,bH,rt⟩:=ht.tup;cases e;obtain rfl:mm=6:=by lia
 have gG:=Vn rt;refine Js T rfl bh ⟨_,SqT.of (s1 _ _ jr),k,at0 _ _,t,xs,part,k,rfl,bH,rt,au,cU,hk,by lia,λH2 aF s2 hu=>?_⟩
 have bK:=s2 _ _ bh;have cC:=s1.trans s2;have iz:=TDs.sameT rt s2.t;have bZ:=hS.same cC;refine Q0a T rfl bK ⟨rfl,ZL (λh0=>?_) λh0=>?_⟩
 ·injection h0 with h0
  obtain rfl:l=0:=by lia
  obtain rfl:js=false:=by rw[cy];rfl
  have ep:part=M:=tw;subst ep;refine QJ (T.ob_ 1 #[1]) #[1] rfl bK rfl ⟨t,rfl,xs,.inr (SqT.of (s2 _ _ bH)),λl1 eZ=>?_⟩
  have s3:=Qf eZ (.lst xs);have g3:upd H2 l1 (.lst xs) l1=Vo (.lst xs):=Qa;generalize upd H2 l1 (.lst xs)=H3 at s3 g3 ⊢;have br:=cC.trans s3;refine⟨l1,xs,part,aF,rb,row,k,rfl,g3,TDs.sameT iz s3.t,aS,up,dO.same br,bD,ek,hu,by lia,λr H4 ys aj s4 zq g4 kT bE lys=>?_⟩
  have bP:=br.trans s4;refine YW (l:=0) (b:=false) (hS.same bP) g4 kT (λd hd=>?_) #[0] #[0] (show Tow QM (Qs st) 0 aj aj from rfl) (bP.x _) (λx h=>h) (λr5 H5 cK c5 kU kW h5 l5=>q r5 H5 cK c5 aj kU kW h5 bE (by simp;lia)) λr hr=>none_of bP hr
  rcases(bE.mem ltK.irr d).mp hd with z | z
  ·rw[z];exact bD.ent
  ·exact au d z.1
 ·have rn:l≠0:=λz=>h0 (by rw[z];rfl)
  obtain⟨l',rfl⟩:∃ l',l=l'+1:=⟨l - 1,by lia⟩
  obtain rfl:js=true:=by rw[cy];exact decide_eq_true #[0]
  obtain⟨ini,h,bs,A,N,B,n',az,ep,ew,eM,tA,tB,eh,dw,fY,hN,cB,hA,hB,cA⟩:=JDc tw hM up hu;subst eh;have hx:part[ini.length]?=Vo (Zy (Zf N) n'):=by rw[ep];simp
  have li:ini.length < xs.length:=by have:=(List.getElem?_eq_some_iff.mp hx).1;lia
  have lM:M.length=A.length+(N.length+B.length):=by rw[eM];simp
  have vG:part.length=ini.length+(bs.length+1):=by rw[ep];simp
  have lA:=tA.len0;have lB:=tB.len0;refine⟨aF,0,⟨rfl,rfl⟩,?_⟩
  rw[ew];refine QJ (T.ob_ 2 #[1]) #[1] rfl bK rfl ⟨t,rfl,xs,.inr (SqT.of (s2 _ _ bH)),λl1 eZ=>?_⟩
  have s3:=Qf eZ (.lst xs);have g3:upd H2 l1 (.lst xs) l1=Vo (.lst xs):=Qa;generalize upd H2 l1 (.lst xs)=H3 at s3 g3 ⊢;have br:=cC.trans s3;have gJ:=TDs.sameT iz s3.t;have tx:=Qx gJ hx (I0 li)
  obtain⟨bb,u1,u2,eb,hb,x1,x2⟩:=TD.pair_of tx;obtain⟨_,rfl⟩:=x2.flat;have ix:(l'+1) * (N.length+1)<=(l'+1) * (M.length+1):=Dk _ #[0]
  have kX:(l'+1+1) * (M.length+1)=(l'+1) * (M.length+1)+(M.length+1):=Dh _ _;obtain⟨n0,rfl⟩:∃ n0,n=n0+1:=⟨n - 1,by lia⟩
  have fZ:∀ d∈N,Za d:=λd hd=>aS d (by rw[eM];simp[hd])
  have oS:UpR ltK N:=by rw[eM]at up;exact up.right.left
  refine⟨xs,SqL.of g3,.ref bb,by rw[<- eb];exact Zx (I0 li),bb,rfl,_,SqT.of hb,_,at1 _ _ _,p,d1,d2,st,c,n',l',az,N,rb,row,k,rfl,hS.same br,dw,fY,hN,fZ,oS,by lia,by lia,dO.same br,bD,ek,by lia,λr7 H7 iM c7 N' iN cW h7 bE l7=>?_⟩
  have fg:QN [p,d1,d2] H H7:=(br.x _).trans h7.sx;have bq:=hS.same br;have kY:=ZN bq h7.sx;have cX:=h7.sx _ _ (bq.off_pg (s3 _ _ bK)) (s3 _ _ bK);have g7:=bq.lst h7.sx g3;have kZ:=TDs.sameT gJ kY;refine QJ (T.ob_ 2 #[1]) #[1] rfl cX rfl ?_
  walk_at "rd";have rE:cW.length<=N.length+1:=by
   have h1:=Vn h7.ty;have h2:=h7.tow.len0;have h3:=J0.len bE
   lia
  refine ZVa (ia:=6) (ic:=6) rfl rfl (λ_ _ q=>q) (λ_ _ q=>⟨_,_,rfl,rfl,q⟩) (λH0 R s0 r=>r _ _ (Qn.refl _) (s0 _ _ h7.at_)) g7 g7 #[0] #[0] #[0] λr8 H8 s8 rF g8=>?_
  rw[show(ini.length:Int)+1=((ini.length+1:Nat):Int) by lia,Qab,XEa]at g8
  have gK:=TDs.sameT kZ s8.t;have ei:part.take ini.length=ini:=by rw[ep];simp
  have zt:part.drop (ini.length+1)=bs:=by rw[ep];simp
  have ri:=Zo ini.length gK;have gL:=Zp (ini.length+1) gK;rw[ei]at ri;rw[zt]at gL;have dP:=QI (QI ri (TDs.sameT h7.ty s8.t)) gL;have lr:=Vn dP;simp only[Oh]at lr;have cY:Tow QM (Qs iM) (l'+1) (A++(N'++B)) (ini++iN++bs):=by
   rw[Iv];refine(tA.mono h7.sub).mid h7.tow (tB.mono h7.sub) ?_ cB
   rcases cA with z | ⟨z1,z2⟩
   ·exact .inl z
   ·refine .inr (.inr ?_)
    rw[bE.fst ltK.irr ltK.tr ek hN z2];exact z1
  refine YW (b:=false) (h7.sA.same s8) g8 dP (λd hd=>?_) (by rw[<- Vn dP];simp only[Oh];have:=Vn h7.ty;lia) (by rw[<- Vn dP];simp only[Oh];have:=Vn h7.ty;lia) cY (fg.trans (s8.x _)) h7.sub (λr9 H9 iO c9 iP iQ h9 l9=>?_) λr hr=>?_
  ·rcases mem_append.mp hd with z | z
   ·rcases mem_append.mp z with z | z
    ·exact au d (by rw[ep];simp[z])
    ·exact(h7.hd d z).ent
   ·exact au d (by rw[ep];simp[z])
  ·refine q r9 H9 iO c9 (A++(N'++B)) iP iQ h9 (by rw[eM];exact bE.mid hA hB) ?_
   rw[<- Vn dP]at l9;simp only[Oh]at l9;have:=Vn h7.ty
   lia
  ·exact hS.none_x fg h7.sA (none_of s8 hr)
theorem JEc{top:Nat}(r:Yna QM tbl R top n):top<=6:=by
 rcases Df 6 top with h | h
 ·exfalso
  obtain⟨k,t⟩:=r.one;obtain⟨L,h0,h1,h2⟩:=t.levels;have t7:=XO h0 h2 7 #[0]
  have l7:=r.two 7 _ #[0] #[0] t7
  rw[t7.many (t.ne' #[2])]at l7
  have:((R.map Qv).tail.filter λk=>decide (6 < QM k))=[]:=filter_eq_nil_iff.mpr λk _ z=>by
   have:=Qrd k;have:=of_decide_eq_true z
   lia
  rw[this]at l7;simp at l7
 ·lia
theorem QH.root{p:Vh}(hS:QF P w ob H p d1 d2 st c)(h:QH st es (.int n)):∃ top,top<=6/\Yna QM (Qs st) es top n:=by
 rcases h with ⟨_,e⟩ | ⟨ax,top,L,k,n',h6,ch,eL,e⟩
 ·cases e
 ·cases e;exact⟨top,h6,ch.toRoot hS.fn eL⟩
theorem QHb{top:Nat}(r:Yna QM (Qs st) es top n):QH st es (.int n):=by
 obtain⟨L,k,ch,e⟩:=r.chain;obtain⟨part,_,_,_,ax⟩:=r.page;exact .inr ⟨ax,top,L,k,n,JEc r,ch,e,rfl⟩
theorem Ups.root{m:Nat}(f:Fn tbl)(t:Tow QM tbl (j+1) R hs)(two:∀ i gs,1<=i->i<=j->Tow QM tbl i R gs->1 < gs.length)(u:Ups QM tbl j hs m [Zy k n]):Yna QM tbl R m n:=by
 have key:∀ {m above},Ups QM tbl j hs m above->Tow QM tbl (m+1) R above/\∀ i gs,1<=i->i<=m->Tow QM tbl i R gs->1 < gs.length:=by
  intro m above u
  induction u with
  | refl=>exact⟨t,two⟩
  | @snoc m' zu cf u h1 h2 ih =>
   refine⟨⟨zu,ih.1,h2⟩,λi gs i1 i2 ti=>?_⟩
   by_cases e:i=m'+1
   ·subst e;rw[ti.det f ih.1];exact h1
   ·exact ih.2 i gs i1 #[0] ti
 exact⟨⟨k,(key u).1⟩,(key u).2⟩
inductive YUb(P:Vg)(w:Vb)(_cs ob:Nat->Vh)(vs:List V)(H:Hp)(Q:VK)(E:XK):Prop
 | mk:∀ p d1 d2 st c v k cv cd es,vs=[.ref p,v,k,cv]->QF P w ob H p d1 d2 st c->QH st es v->Yoa es->es.length<=700->Q6 k->TD H 5 (.t cd) cv->st.length+16 * (es.length+2)<=16000000->(∀ H' ag c' v' aj,QN [p,d1,d2] H H'->QF P w ob H' p d1 d2 ag c'->(∀ x∈Qs st,x∈Qs ag)->ag.length<=st.length+16 * (es.length+2)->J0 ltK k (.t [.v k,.t cd]) es aj->QH ag aj v'->Q v' H')->YUb P w _cs ob vs H Q E
seal PE PT PW PA PS PSs PI PG QT PGs PO in
theorem Qud(Z:Zs mg)(T:Tx K mg CT cs ob)(qR:Cal P w K mg base 6 "crowned" ["pages","level","heads"] (Qda P w ob))(k6:Jgb P w K mg base 7 "built" ["pages","rows"] (Xw P w cs ob))(zv:∀ n,Cal P w K mg base (6+n) "heads_with" ["pages","number","row"] (J9 P w cs ob n))(Jj:MeV P w K mg base 4 (ob 3) "card" (J7 P w cs ob))(F:Fun K "put" "put" Jsc f fd):QE P w K mg base (CX1 P w) 15 f fd ["pages","root","key","cells"] (YUb P w cs ob):=by
 refine F.ok1 YHb (λvs H Q E h=>?_) (λap A outer s H vs Q E hr h=>?_)
 ·walk_at "n"
 obtain⟨p,d1,d2,st,c,v,k,cv,cd,es,rfl,hS,hT,hR,l7,hk,tc,few,q⟩:=h;refine⟨_,(Qb (Qi 4 YHb.nd (ZM (Qh (pv 2) (Qh (pv 3) Qe))))
  (Qb (QK (Qq Y8 (pv 1) Zz (Qu _)) (Qg (Qo (PE1.pe (ZR k6 hr (Qh (pv 0) (Qh (ZA (Qh (pv 4) Qe)) Qe))) Z1))) Qw)
  (Qb (Qi 5 YHb.nd (QA QC (PE1.pe (Zb (k:=14) (pv 0) hr rfl (Qh (pv 1) Qe)) Z1) Qd (λ_ _=>rfl)))
  (Qg (Qo (Qr qR hr (Qh (pv 0) (Qh (pv 5) (Qh (Z7 (zv 8) (k:=14) hr #[1] rfl (Qh (pv 0) (Qh (pv 1) (Qh (pv 4) Qe)))) Qe))))))))),?_⟩
 refine Qm (σ:=[Vo (.ref p),Vo v,Vo k,Vo cv,Vp,Vp]) rfl ?_
 walk_at "rd";refine⟨JA,λrb jr=>?_⟩
 have s1:=Qf jr (.tup [k,cv]);have g1:upd H rb (.tup [k,cv]) rb=Vo (.tup [k,cv]):=Qa;generalize upd H rb (.tup [k,cv])=H1 at s1 g1 ⊢;have dO:TD H1 6 (.t [.v k,.t cd]) (.ref rb):=TD.pair g1 (.ofV (XKb hk)) (tc.same s1);have aS:Za (.t [.v k,.t cd]):=⟨k,cd,rfl,hk⟩;have bI:=hS.same s1;refine ZL (λhv=>?_) λhv=>?_
 ·subst hv
  obtain rfl:es=[]:=by
   rcases hT with ⟨e,_⟩ | ⟨_,_,_,_,_,_,_,_,e⟩
   ·exact e
   ·cases e
  refine⟨Zjb _,λl1 eZ=>?_⟩
  have s2:=Qf eZ (.lst [.ref rb]);have g2:upd H1 l1 (.lst [.ref rb]) l1=Vo (.lst [.ref rb]):=Qa;generalize upd H1 l1 (.lst [.ref rb])=H2 at s2 g2 ⊢;simp only[OF]at few;refine⟨p,d1,d2,st,c,l1,_,[.t [.v k,.t cd]],rfl,hS.same (s1.trans s2),g2,.cons (dO.same s2) .nil,(λd hd=>by rw[mem_singleton.mp hd];exact aS.ent),by simp,by simp;lia,.inl ⟨Lh _ _,λH3 aZ c3 v3 kH bq bV l3 rG=>?_⟩⟩
  exact q H3 aZ c3 v3 [.t [.v k,.t cd]] (((s1.trans s2).x _).trans kH) bq bV (by simp at l3 ⊢;lia) ⟨[],[],rfl,.inl rfl,(λa ha=>nomatch ha),λa ha=>nomatch ha⟩ rG
 ·obtain⟨n,rfl⟩:∃ n,v=.int n:=by
   rcases hT with ⟨_,e⟩ | ⟨_,_,_,_,n,_,_,_,e⟩
   ·exact absurd e hv
   ·exact⟨n,e⟩
  obtain⟨top,h6,rt⟩:=hT.root hS;obtain⟨part,hm,tp,_,ax⟩:=rt.page;obtain⟨dx,ho⟩:=bI.obj;obtain⟨t0,dM⟩:=hS.find hm;refine Jn rfl ho rfl (T.ob_ 3 #[1]).cl (Jj.mono #[1]) ⟨p,d1,d2,st,c,n,rfl,bI,λl2 k2 r2 bO t2 bN a H2 s2 ha rH=>?_,λz=>(z _ dM rfl).elim⟩
  obtain⟨el,_⟩:=Jo (hS.fun_ dM bN).1;subst el;obtain⟨a',u1,u2,ea,iR,x1,x2⟩:=TD.pair_of rH;cases ea;obtain⟨_,rfl⟩:=x1.flat;have cC:=s1.trans s2;have b1:(top+1) * (es.length+1)<=7 * (es.length+1):=Dg _ #[0]
  refine⟨a,rfl,_,SqT.of iR,_,at0 _ _,p,d1,d2,st,c,n,top,part,es,rb,_,k,rfl,hS.same cC,hm,tp,ax,hR.row,hR.up,by lia,(show top<=7 by lia),dO.same s2,aS,rfl,by lia,λr3 H3 aZ c3 aj n6 zw h3 bE l3=>?_⟩
  have vH:=J0.len bE;have l0:=h3.tow.len0;have ly:=Vn h3.ty;have rJ:aj≠[]:=λz=>by
   have:=(bE.mem ltK.irr (.t [.v k,.t cd])).mpr (.inl rfl);rw[z]at this;cases this
  have rK:=h3.tow.ne rJ;refine⟨p,d1,d2,aZ,c3,r3,n6,zw,top,rfl,h6,h3.sA,h3.at_,h3.ty,h3.hd,by lia,by lia,λH4 dS c4 m above v4 du bW cD l4 iI hm7 zx=>?_⟩
  rcases zx with ⟨z,_⟩ | ⟨_,k4,n4,rfl,rfl⟩
  ·exact absurd z rK
  refine q H4 dS c4 (.int n4) aj ((cC.x _).trans (h3.sx.trans du)) bW (λx hx=>cD x (h3.sub x hx)) #[0] bE (QHb (Ups.root bW.fn (h3.tow.mono cD) (λi gs i1 i2 ti=>?_) iI))
  obtain⟨k0,zy⟩:=rt.one;obtain⟨L,q0,q1,q2⟩:=zy.levels;have vI:=XO q0 q2 i #[0]
  have two:=rt.two i _ i1 i2 vI;obtain⟨i',rfl⟩:∃ i',i=i'+1:=⟨i - 1,by lia⟩
  have:=vI.more ti ax (bE.sub rfl)
  lia
theorem Jza{α β:Type}{F:α->β->Prop}:∀ {xs:List α} {x:α} {us:List β},Vm F (xs++[x]) us->∃ ys y,us=ys++[y]/\Vm F xs ys/\F x y
 | [],x,_,.cons r .nil=>⟨[],_,rfl,.nil,r⟩
 | z::xs,x,_,.cons r t=>by
  obtain⟨ys,y,e,a,b⟩:=Jza t;exact⟨_::ys,y,by rw[e];rfl,.cons r a,b⟩
theorem Zub{α β:Type}{F:α->β->Prop}{xs:List α}{x:α}{us:List β}(h:Vm F (x::xs) us):∃ y ys,us=y::ys/\F x y/\Vm F xs ys:=by
 cases h with
 | cons r t=>exact⟨_,_,rfl,r,t⟩
theorem Zld(xs:List V)(v:V):Yd (xs++[v]) Vp (Vo (-1))=xs:=by
 have e2:HT.sIx (xs++[v]).length 0 Vp=0:=rfl;have e1:HT.sIx (xs++[v]).length (xs++[v]).length (Vo (-1))=xs.length:=by
  show(if (-1:Int) < 0 then ((-1:Int)+((xs++[v]).length:Int)).toNat else min (-1:Int).toNat (xs++[v]).length)=_
  rw[if_pos #[1],Oh,Ow];lia
 unfold Yd;rw[e1,e2,DB,Nat.sub_zero];simp
inductive XGa(P:Vg)(w:Vb)(_cs ob:Nat->Vh)(n:Nat)(vs:List V)(H:Hp)(Q:VK)(E:XK):Prop
 | mk:∀ p d1 d2 st c,∀ m1 m2:Int,∀ l:Nat,∀ pa pb M N,vs=[.ref p,.int m1,.int m2]->QF P w ob H p d1 d2 st c->(m1,Zm (l:Int) pa)∈Qs st->(m2,Zm (l:Int) pb)∈Qs st->Tow QM (Qs st) l M pa->Tow QM (Qs st) l N pb->M≠[]->N≠[]->(∀ d∈M,Za d)->(∀ d∈N,Za d)->UpR ltK M->UpR ltK N->M.length+N.length<=800->l<=n->st.length+(l+1) * (M.length+N.length)<=16000000->(∀ r H' ag c' hs ys,XNb P w ob H H' p d1 d2 st ag c' r l (M++N.tail) hs ys->ag.length<=st.length+(l+1) * (M.length+N.length)->Q (.ref r) H')->XGa P w _cs ob n vs H Q E
def Zqa(P:Vg)(w:Vb)(_cs ob:Nat->Vh):Nat->Sp
 | 0=>λ_ _ _ _=>False
 | n+1=>XGa P w _cs ob n
seal PE PT PW PA PS PSs PI PG QT PGs PO in
theorem QLc(Z:Zs mg)(T:Tx K mg CT cs ob)(Zg:Cal P w K mg base 5 "heads_of" ["pages","level","entries"] (ZO P w ob))(Qt:MeV P w K mg base 5 (ob 3) "page" (QV P w cs ob)){n:Nat}(IH:Cal P w K mg base (6+n) "joined" ["pages","left","right"] (Zqa P w cs ob n))(F:Fun K "joined" "joined" Xua f fd):QE P w K mg base CX0 (6+n+1) f fd ["pages","left","right"] (Zqa P w cs ob (n+1)):=by
 refine F.ok Xu (λvs H Q E h=>?_) (λap A outer s H vs Q E hr h=>?_)
 ·walk_at "n"
 obtain⟨p,d1,d2,st,c,m1,m2,l,pa,pb,M,N,rfl,hS,og,bN,tM,tN,hM,hN,rM,rN,uM,uN,lMN,hl,few,q⟩:=h;refine⟨_,(Qb (Qi 3 Xu.nd (PE1.pe (Zb (k:=(6+n)) (pv 0) hr rfl (Qh (pv 1) Qe)) Ze))
  (Qb (Qi 4 Xu.nd (QS Q9 rfl (Z.list) Z0 (Qh (Qz (pv 3) rfl) Qe)))
  (Qb (Qi 5 Xu.nd (QS Q9 rfl (Z.list) Z0 (Qh (Qz (PE1.pe (Zb (k:=(6+n)) (pv 0) hr rfl (Qh (pv 2) Qe)) Ze) rfl) Qe)))
  (Qb (QK (Qq ZJ (Qz (pv 3) rfl) Qd (Qu _)) (Qg (Qo (Z7 Zg (k:=(6+n)) hr #[0] rfl (Qh (pv 0) (Qh Qd (Qh (Ql ZH (pv 4) (QP Q7 (pv 5) (QY Qd) Zd)) Qe)))))) Qw)
  (Qb (Qi 6 Xu.nd (Z7 IH (k:=(6+n)) hr #[0] rfl (Qh (pv 0) (Qh (QA QC (QA Zl (pv 4) (YQa ZPa Qd) (λ_ _=>rfl)) Qd (λ_ _=>rfl)) (Qh (QA QC (QA Zl (pv 5) Qd (λ_ _=>rfl)) Qd (λ_ _=>rfl)) Qe)))))
  (Qg (Qo (Z7 Zg (k:=(6+n)) hr #[0] rfl (Qh (pv 0) (Qh (Qz (pv 3) rfl) (Qh (XQ (Ql ZH (Ql ZH (QP Q7 (pv 4) Zd (QY (YQa ZPa Qd))) (pv 6)) (QP Q7 (pv 5) (QY Qd) Zd))) Qe))))))))))),?_⟩
 refine Qm (σ:=[Vo (.ref p),Vo (.int m1),Vo (.int m2),Vp,Vp,Vp,Vp]) rfl ?_
 walk_at "rd";obtain⟨k7,upA,lpA,hdA⟩:=Xx tM rM uM;obtain⟨lu,upB,lpB,hdB⟩:=Xx tN rN uN;refine Qea T Qt #[0] rfl rfl hS og λpg H1 s1 ft aW=>?_
 obtain⟨js,rh,t,cy,bh,ht⟩:=id aW;obtain⟨mm,t',xs,em,e,bH,rt⟩:=ht.tup;cases e;obtain rfl:mm=6:=by lia
 have gG:=Vn rt;refine Js T rfl bh ⟨t,rfl,xs,.inr (SqT.of bH),λla zC=>?_⟩
 have s2:=Qf zC (.lst xs);have g2:upd H1 la (.lst xs) la=Vo (.lst xs):=Qa;generalize upd H1 la (.lst xs)=H2 at s2 g2 ⊢;have cC:=s1.trans s2;have bZ:=hS.same cC;refine Qea T Qt #[0] rfl rfl bZ bN λrL H3 s3 hpg2 rO=>?_
 obtain⟨rP,dL,t2,bC,bK,rQ⟩:=id rO;obtain⟨mm,t2',zs,em,e,rR,rz⟩:=rQ.tup;cases e;obtain rfl:mm=6:=by lia
 have lzs:=Vn rz;refine⟨rL,_,dL,_,.ref t2,rfl,bK,(T.ob_ _ JFb).cl,(T.ob_ _ JFb).no _ #[1],by cases rP <;> rfl,t2,rfl,zs,.inr (SqT.of rR),λlb zD=>?_⟩
 have s4:=Qf zD (.lst zs);have g4:upd H3 lb (.lst zs) lb=Vo (.lst zs):=Qa;generalize upd H3 lb (.lst zs)=H4 at s4 g4 ⊢;have oU:=s3.trans s4;have bP:=cC.trans oU;have rS:=oU _ _ g2;have fX:=TDs.sameT rt (s2.trans oU).t;have vJ:=TDs.sameT rz s4.t;have bW:=hS.same bP;have cV:=(s2.trans oU) _ _ bh;refine Q0a T rfl cV ⟨rfl,ZL (λh0=>?_) λh0=>?_⟩
 ·injection h0 with h0
  obtain rfl:l=0:=by lia
  have ep:pa=M:=tM;have zE:pb=N:=tN;subst ep zE;refine⟨zs,SqL.of g4,λp3 eC=>⟨xs,Qf eC _ _ _ rS,_,Qa,Qtd (by have:=Yfa zs (Vo 1) Vp;lia),λp4 e7=>?_⟩⟩
  have ec:Yd zs (Vo 1) Vp=zs.drop 1:=XEa zs 1;rw[ec]at e7 ⊢;have s6:=bP.trans ((Qf eC (.lst (zs.drop 1))).trans (Qf e7 (.lst (xs++zs.drop 1))));have rT:=(Qf eC (.lst (zs.drop 1))).trans (Qf e7 (.lst (xs++zs.drop 1)));have g6:upd (upd H4 p3 (.lst (zs.drop 1))) p4 (.lst (xs++zs.drop 1)) p4=Vo (.lst (xs++zs.drop 1)):=Qa;generalize upd (upd H4 p3 (.lst (zs.drop 1))) p4 (.lst (xs++zs.drop 1))=H6 at s6 rT g6 ⊢;have eD:=QI (TDs.sameT fX rT.t) (Zp 1 (TDs.sameT vJ rT.t));rw[drop_one]at eD;have oV:=Vn eD;rw[drop_one]at oV;simp only[Oh,length_tail]at oV;refine YW (l:=0) (b:=false) (hS.same s6) g6 (by rw[drop_one];rw[drop_one]at eD;exact eD) (λd hd=>?_) (by simp;lia) (by simp;lia) (show Tow QM (Qs st) 0 (pa++pb.tail) (pa++pb.tail) from rfl) (s6.x _) (λx h=>h) (λr5 H5 cK c5 kU kW h5 l5=>q r5 H5 cK c5 kU kW h5 (by simp at l5;lia)) λr hr=>none_of s6 hr
  rcases mem_append.mp hd with z | z
  ·exact k7 d z
  ·exact lu d (mem_of_mem_tail z)
 ·have rn:l≠0:=λz=>h0 (by rw[z];rfl)
  obtain⟨l',rfl⟩:∃ l',l=l'+1:=⟨l - 1,by lia⟩
  obtain rfl:js=true:=by rw[cy];exact decide_eq_true #[0]
  obtain⟨ini,h,rfl⟩:=Z2 (tM.ne hM);obtain⟨h',bs,rfl⟩:∃ h' bs,pb=h'::bs:=by
   cases pb with
   | nil=>exact absurd rfl (tN.ne hN)
   | cons x r=>exact⟨x,r,rfl⟩
  obtain⟨A,M1,B0,n1,lC,eM,tA,_,rV,eh,rW,zF,rX,cA,_⟩:=tM.at_;obtain rfl:B0=[]:=rV.fst.1.mpr rfl;rw[UV]at eM;obtain⟨A0,N1,B,n2,lE,eN,zG,_,tB,zH,rY,zI,rZ,_,cB⟩:=(show Tow QM (Qs st) (l'+1) N ([]++h'::bs) from tN).at_
  obtain rfl:A0=[]:=zG.fst.1.mpr rfl;rw[LJ]at eN;subst eh zH;obtain⟨xi,xl,rfl,ri,rl⟩:=Jza fX;obtain⟨zl,zr,rfl,zJ,vK⟩:=Zub vJ;obtain⟨b1,u1,u2,zK,cI,x1,x2⟩:=TD.pair_of rl;obtain⟨_,rfl⟩:=x2.flat;obtain⟨b2,v1,v2,zL,jn,y1,y2⟩:=TD.pair_of zJ;obtain⟨_,rfl⟩:=y2.flat;subst zK zL;have lM:M.length=A.length+M1.length:=by rw[eM,Oh]
  have lN:N.length=N1.length+B.length:=by rw[eN,Oh]
  have ix:(l'+1) * (M1.length+N1.length)<=(l'+1) * (M.length+N.length):=Dk _ #[0]
  have kX:(l'+1+1) * (M.length+N.length)=(l'+1) * (M.length+N.length)+(M.length+N.length):=Dh _ _;obtain⟨n0,rfl⟩:∃ n0,n=n0+1:=⟨n - 1,by lia⟩
  refine⟨_,SqL.of rS,.ref b1,Qya _ _,b1,rfl,_,SqT.of cI,_,at1 _ _ _,_,SqL.of g4,.ref b2,at0 _ _,b2,rfl,_,SqT.of jn,_,at1 _ _ _,p,d1,d2,st,c,n1,n2,l',lC,lE,M1,N1,rfl,bW,rW,rY,zF,zI,rX,rZ,(λd hd=>rM d (by rw[eM];simp[hd])),(λd hd=>rN d (by rw[eN];simp[hd])),by rw[eM]at uM;exact uM.right,by rw[eN]at uN;exact uN.left,by lia,by lia,by lia,λr7 H7 iM c7 iN cW h7 l7=>?_⟩
  have fg:QN [p,d1,d2] H H7:=(bP.x _).trans h7.sx;have vL:=ZN bW h7.sx;have cX:=h7.sx _ _ (bW.off_pg cV) cV;have zM:=bW.lst h7.sx rS;have zN:=bW.lst h7.sx g4;have hne1:M1++N1.tail≠[]:=λz=>rX (append_eq_nil_iff.mp z).1
  have oW:=h7.tow.len0;have rE:=Vn h7.ty;have lri:=Vn ri;have lrz:=Vn vK;have lA:=tA.len0;have lB:=tB.len0;have hN1p:0 < N1.length:=length_pos_iff.mpr rZ;simp only[Oh,length_tail]at oW;refine QJ (T.ob_ 2 #[1]) #[1] rfl cX rfl ?_
  walk_at "rd";refine ZVa (ia:=4) (ic:=5) rfl rfl (λ_ _ q=>⟨_,rfl,q⟩) (λ_ _ q=>q) (λH0 R s0 r=>r _ _ (Qn.refl _) (s0 _ _ h7.at_)) zM zN (by rw[Oh,Ow];lia) (by rw[UB];lia) #[0] λr8 H8 s8 rF g8=>?_
  have ec:Yd (V.ref b2::zr) (Vo 1) Vp=zr:=XEa (V.ref b2::zr) 1;rw[Zld,ec]at g8;have dP:=QI (QI (TDs.sameT ri (vL.trans s8.t)) (TDs.sameT h7.ty s8.t)) (TDs.sameT vK (vL.trans s8.t));have eT:M++N.tail=A++((M1++N1.tail)++B):=by
   rw[eM,eN];cases N1 with
   | nil=>exact absurd rfl rZ
   | cons x r=>simp
  have cY:Tow QM (Qs iM) (l'+1) (M++N.tail) (ini++iN++bs):=by
   rw[eT,Iv ini];refine(tA.mono h7.sub).mid h7.tow (tB.mono h7.sub) ?_ cB
   rcases cA with z | z
   ·exact .inl z
   ·refine .inr (.inr ?_)
    cases M1 with
    | nil=>exact absurd rfl rX
    | cons x r=>exact z
  refine YW (b:=false) (h7.sA.same s8) g8 dP (λd hd=>?_) (by simp only[Oh];lia) (by simp only[Oh];lia) cY (fg.trans (s8.x _)) h7.sub (λr9 H9 iO c9 iP iQ h9 l9=>?_) λr hr=>?_
  ·rcases mem_append.mp hd with z | z
   ·rcases mem_append.mp z with z | z
    ·exact k7 d (by simp[z])
    ·exact(h7.hd d z).ent
   ·exact lu d (by simp[z])
  ·refine q r9 H9 iO c9 iP iQ h9 ?_
   simp only[Oh]at l9
   lia
  ·exact hS.none_x fg h7.sA (none_of s8 hr)
inductive Y5(P:Vg)(w:Vb)(_cs ob:Nat->Vh)(n:Nat)(vs:List V)(H:Hp)(Q:VK)(E:XK):Prop
 | mk:∀ p d1 d2 st c,∀ m:Int,∀ l:Nat,∀ part M k,vs=[.ref p,.int m,k]->QF P w ob H p d1 d2 st c->(m,Zm (l:Int) part)∈Qs st->Tow QM (Qs st) l M part->(∃ o∈M,Qv o=k)->(∀ d∈M,Za d)->UpR ltK M->M.length<=700->l<=n->l<=7->Q6 k->st.length+(l+1) * M.length<=16000000->(∀ r H' ag c' M' hs ys,XNb P w ob H H' p d1 d2 st ag c' r l M' hs ys->XN k M M'->ag.length<=st.length+(l+1) * M.length->Q (.ref r) H')->Y5 P w _cs ob n vs H Q E
def Jk(P:Vg)(w:Vb)(_cs ob:Nat->Vh):Nat->Sp
 | 0=>λ_ _ _ _=>False
 | n+1=>Y5 P w _cs ob n
seal PE PT PW PA PS PSs PI PG QT PGs PO in
theorem J5a(Z:Zs mg)(T:Tx K mg CT cs ob)(JJ:Cal P w K mg base 4 "last_up_to" ["entries","key"] (Jp K))(Zg:Cal P w K mg base 5 "heads_of" ["pages","level","entries"] (ZO P w ob))(zO:∀ n,Cal P w K mg base (6+n) "joined" ["pages","left","right"] (Zqa P w cs ob n))(Qt:MeV P w K mg base 5 (ob 3) "page" (QV P w cs ob)){n:Nat}(IH:Cal P w K mg base (15+n) "heads_without" ["pages","number","key"] (Jk P w cs ob n))(F:Fun K "heads_without" "heads_without" Yp f fd):QE P w K mg base CX0 (15+n+1) f fd ["pages","number","key"] (Jk P w cs ob (n+1)):=by
 refine F.ok Zt (λvs H Q E h=>?_) (λap A outer s H vs Q E hr h=>?_)
 ·walk_at "n"
 obtain⟨p,d1,d2,st,c,m,l,part,M,k,rfl,hS,hm,tw,eO,aS,up,lM,hl,hl7,hk,few,q⟩:=h;refine⟨_,(Qb (Qi 3 Zt.nd (PE1.pe (Zb (k:=(15+n)) (pv 0) hr rfl (Qh (pv 1) Qe)) Ze))
  (Qb (Qi 4 Zt.nd (Z7 JJ (k:=(15+n)) hr #[0] rfl (Qh (Qz (pv 3) rfl) (Qh (pv 2) Qe))))
  (Qb (Qi 5 Zt.nd (QS Q9 rfl (Z.list) Z0 (Qh (Qz (pv 3) rfl) Qe)))
  (Qb (QK (Qq ZJ (Qz (pv 3) rfl) Qd (Qu _)) (Qg (Qo (Z7 Zg (k:=(15+n)) hr #[0] rfl (Qh (pv 0) (Qh Qd (Qh (XQ (Ql ZH (QP Q7 (pv 5) Zd (QY (pv 4))) (QP Q7 (pv 5) (QY (Ql Zk (pv 4) Qd)) Zd))) Qe)))))) Qw)
  (Qb (QK (PW.pt (JIa (Qq Xbb (pv 4) Qd (Qu _)) (Zea (Qq ZJ (QA QC (QA Zl (pv 5) (pv 4) (λ_ _=>rfl)) Qd (λ_ _=>rfl)) (pv 2) (Qu _))))) (Qb (Qi 6 Zt.nd (Z7 (zO 8) (k:=(15+n)) hr #[0] rfl (Qh (pv 0) (Qh (QA QC (QA Zl (pv 5) (Ql Jx (pv 4) Qd) (λ_ _=>rfl)) Qd (λ_ _=>rfl)) (Qh (QA QC (QA Zl (pv 5) (pv 4) (λ_ _=>rfl)) Qd (λ_ _=>rfl)) Qe)))))
  (Qg (Qo (Z7 Zg (k:=(15+n)) hr #[0] rfl (Qh (pv 0) (Qh (Qz (pv 3) rfl) (Qh (XQ (Ql ZH (Ql ZH (QP Q7 (pv 5) Zd (QY (Ql Jx (pv 4) Qd))) (pv 6)) (QP Q7 (pv 5) (QY (Ql Zk (pv 4) Qd)) Zd))) Qe))))))) Qw)
  (Qb (Qi 6 Zt.nd (Z7 IH (k:=(15+n)) hr #[0] rfl (Qh (pv 0) (Qh (QA QC (QA Zl (pv 5) (pv 4) (λ_ _=>rfl)) Qd (λ_ _=>rfl)) (Qh (pv 2) Qe)))))
  (Qg (Qo (Z7 Zg (k:=(15+n)) hr #[0] rfl (Qh (pv 0) (Qh (Qz (pv 3) rfl) (Qh (XQ (Ql ZH (Ql ZH (QP Q7 (pv 5) Zd (QY (pv 4))) (pv 6)) (QP Q7 (pv 5) (QY (Ql Zk (pv 4) Qd)) Zd))) Qe)))))))))))),?_⟩
 refine Qm (σ:=[Vo (.ref p),Vo (.int m),Vo k,Vp,Vp,Vp,Vp]) rfl ?_
 refine XGb λR hR=>?_
 walk_at "rd";have hM:M≠[]:=λz=>by obtain⟨o,ho,_⟩:=eO;rw[z]at ho;cases ho
 obtain⟨au,cU,lp,gF⟩:=Xx tw aS up;refine Qea T Qt #[0] rfl rfl hS hm λpg H1 s1 ft aW=>?_
 obtain⟨js,rh,t,cy,bh,ht⟩:=id aW;obtain⟨mm,t',xs,em,e,bH,rt⟩:=ht.tup;cases e;obtain rfl:mm=6:=by lia
 have gG:=Vn rt;refine Js T rfl bh ⟨t,xs,part,k,rfl,bH,rt,au,cU,hk,by lia,λH2 aF s2 hu=>?_⟩
 have bK:=s2 _ _ bh;have cC:=s1.trans s2;have iz:=TDs.sameT rt s2.t;refine Js T rfl bK ⟨t,rfl,xs,.inr (SqT.of (s2 _ _ bH)),λl1 eZ=>?_⟩
 have s3:=Qf eZ (.lst xs);have g3:upd H2 l1 (.lst xs) l1=Vo (.lst xs):=Qa;generalize upd H2 l1 (.lst xs)=H3 at s3 g3 ⊢;have br:=cC.trans s3;have gJ:=TDs.sameT iz s3.t;have bq:=hS.same br;have fh:=s3 _ _ bK;obtain⟨a,b,ep,ea,h1,h2⟩:=hu;have gH:a≠[]:=λz=>by
  subst z;rw[LJ]at ep;subst ep;obtain⟨o,ho,eo⟩:=eO;have kf:ltK k (Zf M):=by
   rw[<- tw.fst.2];have ax:=tw.ne hM;cases part with
   | nil=>exact absurd rfl ax
   | cons x r=>exact h2 x #[2]
  have:=UpR.behind (M:=[]) (B:=M) up ltK.tr (.inr kf) o ho;rw[eo]at this;exact ltK.irr _ this
 obtain⟨ini,x,rfl⟩:=Z2 gH;rw[Oh,Ow]at ea;obtain rfl:aF=(ini.length:Int):=by lia
 rw[Iv,singleton_append]at ep;have cH:=h1 x (Ur _ (mem_singleton.mpr rfl));have hx:part[ini.length]?=Vo x:=by rw[ep];simp
 have li:ini.length < xs.length:=by have:=(List.getElem?_eq_some_iff.mp hx).1;lia
 have ei:part.take ini.length=ini:=by rw[ep];simp
 have eb:part.drop (ini.length+1)=b:=by rw[ep];simp
 walk_at "rd";refine Q0a T rfl fh ⟨rfl,ZL (λh0=>?_) λh0=>?_⟩
 ·injection h0 with h0
  obtain rfl:l=0:=by lia
  obtain rfl:part=M:=tw;have ex:Qv x=k:=by
   obtain⟨o,ho,eo⟩:=eO;rw[ep]at ho up
   rcases mem_append.mp ho with z | z
   ·have u:=up.across z (VN (a:=x) (l:=b))
    rw[eo]at u
    rcases cH with c | c
    ·exact absurd (ltK.tr u c) (ltK.irr _)
    ·exact c
   ·rcases mem_cons.mp z with z | z
    ·rw[<- z];exact eo
    ·have:=h2 o z
     rw[eo]at this;exact absurd this (ltK.irr _)
  refine Qld (ia:=5) rfl (λ_ _ q=>q) (λ_ _ q=>⟨_,_,rfl,rfl,q⟩) g3 #[0] λr4 H4 s4 zq g4=>?_
  rw[show(ini.length:Int)+1=((ini.length+1:Nat):Int) by lia,Qab,XEa]at g4
  have fX:=TDs.sameT gJ s4.t;have kT:=QI (Zo ini.length fX) (Zp (ini.length+1) fX);rw[ei,eb]at kT;have vG:part.length=ini.length+(b.length+1):=by rw[ep];simp
  have bP:=br.trans s4;have zP:=Vn kT;simp only[Oh]at zP;refine YW (l:=0) (b:=false) (hS.same bP) g4 kT (λd hd=>?_) (by simp only[Oh];lia) (by simp only[Oh];lia) (show Tow QM (Qs st) 0 (ini++b) (ini++b) from rfl) (bP.x _) (λx h=>h) (λr5 H5 cK c5 kU kW h5 l5=>q r5 H5 cK c5 (ini++b) kU kW h5 ⟨ini,x,b,ep,rfl,ex⟩ (by simp only[Oh]at l5;lia)) λr hr=>none_of bP hr
  refine au d ?_
  rw[ep]
  rcases mem_append.mp hd with z | z <;> simp[z]
 ·have rn:l≠0:=λz=>h0 (by rw[z];rfl)
  obtain⟨l',rfl⟩:∃ l',l=l'+1:=⟨l - 1,by lia⟩
  obtain rfl:js=true:=by rw[cy];exact decide_eq_true #[0]
  have vM:=tw;rw[ep]at vM;obtain⟨A,N,B,n',az,eM,tA,tB,ex,dw,fY,hN,cA,cB,hA,hB⟩:=XFa vM up cH h2;subst ex;have tx:=Qx gJ hx (I0 li)
  obtain⟨bb,u1,u2,zQ,hb,x1,x2⟩:=TD.pair_of tx;obtain⟨_,zR⟩:=x1.flat;obtain⟨_,rfl⟩:=x2.flat;subst zR;have kN:Q6 (Zf N):=by
   obtain⟨o,ho,eo⟩:=Jqa hN;rw[<- eo];exact(aS o (by rw[eM];simp[ho])).ent.key
  have fZ:∀ d∈N,Za d:=λd hd=>aS d (by rw[eM];simp[hd])
  have oS:UpR ltK N:=by rw[eM]at up;exact up.right.left
  have lM':M.length=A.length+(N.length+B.length):=by rw[eM];simp
  have vG:part.length=ini.length+(b.length+1):=by rw[ep];simp
  have lA:=tA.len0;have lB:=tB.len0;have kX:(l'+1+1) * M.length=(l'+1) * M.length+M.length:=Dh _ _;have sd:atI xs (ini.length:Int)=Vo (.ref bb):=by rw[<- zQ];exact Zx (I0 li)
  have tail:(A=[]\/Zf N≠k)->R [Vo (.ref p),Vo (.int m),Vo k,Vo (.ref pg),Vo (.int (ini.length:Int)),Vo (.ref l1),Vp] H3:=λhc=>by
   refine hR _ _ ?_
   clear hR;walk_at "rd";have se:∃ o∈N,Qv o=k:=by
    obtain⟨o,ho,eo⟩:=eO;rw[eM]at ho
    rcases mem_append.mp ho with z | z
    ·have:=hA o z;rw[eo]at this;exact absurd this (ltK.irr _)
    ·rcases mem_append.mp z with z | z
     ·exact⟨o,z,eo⟩
     ·have:=hB o z;rw[eo]at this;exact absurd this (ltK.irr _)
   have ix:(l'+1) * N.length<=(l'+1) * M.length:=Dk _ #[0]
   obtain⟨n0,rfl⟩:∃ n0,n=n0+1:=⟨n - 1,by lia⟩
   refine⟨xs,SqL.of g3,.ref bb,sd,bb,rfl,_,SqT.of hb,_,at1 _ _ _,p,d1,d2,st,c,n',l',az,N,k,rfl,bq,dw,fY,se,fZ,oS,by lia,by lia,by lia,hk,by lia,λr7 H7 iM c7 N' iN cW h7 bX l7=>?_⟩
   have fg:QN [p,d1,d2] H H7:=(br.x _).trans h7.sx;have kY:=ZN bq h7.sx;have cX:=h7.sx _ _ (bq.off_pg fh) fh;have g7:=bq.lst h7.sx g3;have kZ:=TDs.sameT gJ kY;have zS:N'.length<=N.length:=by have:=bX.sub.length_le;simpa using this
   have oW:=h7.tow.len0;have rE:=Vn h7.ty;refine QJ (T.ob_ 2 #[1]) #[1] rfl cX rfl ?_
   walk_at "rd";refine ZVa (ia:=5) (ic:=5) rfl rfl (λ_ _ q=>q) (λ_ _ q=>⟨_,_,rfl,rfl,q⟩) (λH0 R s0 r=>r _ _ (Qn.refl _) (s0 _ _ h7.at_)) g7 g7 #[0] #[0] #[0] λr8 H8 s8 rF g8=>?_
   rw[show(ini.length:Int)+1=((ini.length+1:Nat):Int) by lia,Qab,XEa]at g8
   have gK:=TDs.sameT kZ s8.t;have ri:=Zo ini.length gK;have gL:=Zp (ini.length+1) gK;rw[ei]at ri;rw[eb]at gL;have dP:=QI (QI ri (TDs.sameT h7.ty s8.t)) gL;have lr:=Vn dP;have cY:Tow QM (Qs iM) (l'+1) (A++(N'++B)) (ini++iN++b):=by
    rw[Iv ini];refine(tA.mono h7.sub).mid h7.tow (tB.mono h7.sub) ?_ cB
    rcases hc with z | z
    ·exact .inl z
    ·rcases cA with y | y
     ·exact .inl y
     ·exact .inr (.inr (by rw[(bX.fst z).1];exact y))
   refine YW (b:=false) (h7.sA.same s8) g8 dP (λd hd=>?_) (by rw[<- lr];simp only[Oh];lia) (by rw[<- lr];simp only[Oh];lia) cY (fg.trans (s8.x _)) h7.sub (λr9 H9 iO c9 iP iQ h9 l9=>?_) λr hr=>?_
   ·rcases mem_append.mp hd with z | z
    ·rcases mem_append.mp z with z | z
     ·exact au d (by rw[ep];simp[z])
     ·exact(h7.hd d z).ent
    ·exact au d (by rw[ep];simp[z])
   ·refine q r9 H9 iO c9 (A++(N'++B)) iP iQ h9 (by rw[eM];exact bX.mid) ?_
    rw[<- lr]at l9;simp only[Oh]at l9
    lia
   ·exact hS.none_x fg h7.sA (none_of s8 hr)
  refine ZL (λhi=>?_) λhi=>?_
  ·refine⟨xs,SqL.of g3,.ref bb,sd,bb,rfl,_,SqT.of hb,_,at0 _ _,Zpb kN hk,ZL (λe=>?_) λe=>tail (.inr e)⟩
   have zT:ini≠[]:=λz=>by rw[z]at hi;simp at hi
   obtain⟨aY,y,rfl⟩:=Z2 zT;obtain⟨A2,N0,B0,n0,lF,eA,vN,_,rV,ey,jt,zU,vO,zV,_⟩:=tA.at_;obtain rfl:B0=[]:=rV.fst.1.mpr rfl;rw[UV]at eA;subst ey;have hy:part[aY.length]?=Vo (Zy (Zf N0) n0):=by rw[ep];simp
   have vP:aY.length < xs.length:=by have:=(List.getElem?_eq_some_iff.mp hy).1;lia
   have ty:=Qx gJ hy (I0 vP)
   obtain⟨b0,z1,z2,zW,q8,y1,y2⟩:=TD.pair_of ty;obtain⟨_,rfl⟩:=y2.flat;have eL:((aY++[Zy (Zf N0) n0]).length:Int) - 1=(aY.length:Int):=by simp
   have lA2:A.length=A2.length+N0.length:=by rw[eA,Oh]
   have lG:∀ d∈N0,Za d:=λd hd=>aS d (by rw[eM,eA];simp[hd])
   have si:UpR ltK N0:=by rw[eM]at up;have:=up.left;rw[eA]at this;exact this.right
   have ix:(l'+1) * (N0.length+N.length)<=(l'+1) * M.length:=Dk _ #[0]
   rw[eL];refine⟨xs,SqL.of g3,.ref b0,by rw[<- zW];exact Zx (I0 vP),b0,rfl,_,SqT.of q8,_,at1 _ _ _,xs,SqL.of g3,.ref bb,sd,bb,rfl,_,SqT.of hb,_,at1 _ _ _,p,d1,d2,st,c,n0,n',l',lF,az,N0,N,rfl,bq,jt,dw,zU,fY,vO,hN,lG,fZ,si,oS,by lia,(show l'<=7 by lia),by lia,λr7 H7 iM c7 iN cW h7 l7=>?_⟩
   have fg:QN [p,d1,d2] H H7:=(br.x _).trans h7.sx;have kY:=ZN bq h7.sx;have cX:=h7.sx _ _ (bq.off_pg fh) fh;have g7:=bq.lst h7.sx g3;have kZ:=TDs.sameT gJ kY;have oW:=h7.tow.len0;have rE:=Vn h7.ty;have hNp:0 < N.length:=length_pos_iff.mpr hN;simp only[Oh,length_tail]at oW;refine QJ (T.ob_ 2 #[1]) #[1] rfl cX rfl ?_
   walk_at "rd";refine ZVa (ia:=5) (ic:=5) rfl rfl (λ_ _ q=>⟨_,_,rfl,rfl,q⟩) (λ_ _ q=>⟨_,_,rfl,rfl,q⟩) (λH0 R s0 r=>r _ _ (Qn.refl _) (s0 _ _ h7.at_)) g7 g7 #[0] #[0] #[0] λr8 H8 s8 rF g8=>?_
   rw[show((aY++[Zy (Zf N0) n0]).length:Int) - 1=(aY.length:Int) by rw[Oh,Ow];lia,show((aY++[Zy (Zf N0) n0]).length:Int)+1=(((aY++[Zy (Zf N0) n0]).length+1:Nat):Int) by lia,Qab,XEa]at g8
   have gK:=TDs.sameT kZ s8.t;have ri:=Zo aY.length gK;have gL:=Zp ((aY++[Zy (Zf N0) n0]).length+1) gK;rw[show part.take aY.length=aY by rw[ep];simp]at ri
   rw[eb]at gL;have dP:=QI (QI ri (TDs.sameT h7.ty s8.t)) gL;have lr:=Vn dP;have lA2':=vN.len0;have cY:Tow QM (Qs iM) (l'+1) (A2++((N0++N.tail)++B)) (aY++iN++b):=by
    rw[Iv aY];refine(vN.mono h7.sub).mid h7.tow (tB.mono h7.sub) ?_ cB
    rcases zV with z | z
    ·exact .inl z
    ·refine .inr (.inr ?_)
     cases N0 with
     | nil=>exact absurd rfl vO
     | cons x r=>exact z
   refine YW (b:=false) (h7.sA.same s8) g8 dP (λd hd=>?_) (by rw[<- lr];simp only[Oh];lia) (by rw[<- lr];simp only[Oh];lia) cY (fg.trans (s8.x _)) h7.sub (λr9 H9 iO c9 iP iQ h9 l9=>?_) λr hr=>?_
   ·rcases mem_append.mp hd with z | z
    ·rcases mem_append.mp z with z | z
     ·exact au d (by rw[ep];simp[z])
     ·exact(h7.hd d z).ent
    ·exact au d (by rw[ep];simp[z])
   ·refine q r9 H9 iO c9 _ iP iQ h9 ?_ ?_
    ·cases N with
     | nil=>exact absurd rfl hN
     | cons o r=>exact⟨A2++N0,o,r++B,by rw[eM,eA];simp,by simp,e⟩
    ·rw[<- lr]at l9
     simp only[Oh]at l9
     lia
   ·exact hS.none_x fg h7.sA (none_of s8 hr)
  ·refine tail (.inl (tA.fst.1.mpr ?_))
   cases ini with
   | nil=>rfl
   | cons y r=>simp at hi
inductive Z4a(P:Vg)(w:Vb)(_cs ob:Nat->Vh)(vs:List V)(H:Hp)(Q:VK)(E:XK):Prop
 | mk:∀ p d1 d2 st c hb ys hs,∀ l:Nat,∀ M,vs=[.ref p,.ref hb]->QF P w ob H p d1 d2 st c->H hb=Vo (.lst ys)->Vm (λd v=>TD H 6 d v) hs ys->Tow QM (Qs st) (l+1) M hs->hs.length<=1->(∀ d∈M,Za d)->UpR ltK M->M.length<=900->(∀ H' v,Qn H H'->QH st M v->Q v H')->Z4a P w _cs ob vs H Q E
seal PE PT PW PA PS PSs PI PG QT PGs PO in
theorem YVb(Z:Zs mg)(T:Tx K mg CT cs ob)(YD:MeV P w K mg base 1 (ob 0) "under" (ZV K ob))(JI:MeV P w K mg base 1 (ob 1) "under" (ZV K ob))(Ji:MeV P w K mg base 1 (ob 2) "under" (J8 K ob))(Qt:MeV P w K mg base 5 (ob 3) "page" (QV P w cs ob))(F:Fun K "lowered" "lowered" JZa f fd):QE P w K mg base CX0 6 f fd ["pages","heads"] (Z4a P w cs ob):=by
 refine F.ok YQ (λvs H Q E h=>?_) (λap A outer s H vs Q E hr h=>?_)
 ·walk_at "n"
 obtain⟨p,d1,d2,st,c,hb,ys,hs,l,M,rfl,hS,hH,ty,tw,l1,rM,uM,lM,q⟩:=h;refine⟨_,(Qb (QK (YLa (Z9a (pv 1) (λ_=>rfl))) (Qg (Qo Zz)) Qw)
  (Qb (Qi 2 YQ.nd (QA QC (QA Zl (pv 1) Qd (λ_ _=>rfl)) Qd (λ_ _=>rfl)))
  (Qb (Qi 3 YQ.nd (PE1.pe (Xfa (k:=5) (Zb (k:=5) (pv 0) hr rfl (Qh (pv 2) Qe)) hr rfl) Ze))
  (Qb (Qxa Da (Qq ZJ (Q5 Q8 rfl (Z.len) YK (Qh (pv 3) Qe)) Qd (Qu _)) (Qb (Qi 2 YQ.nd (QA Zl (pv 3) Qd (λ_ _=>rfl)))
  (Qg (Qi 3 YQ.nd (PE1.pe (Xfa (k:=5) (Zb (k:=5) (pv 0) hr rfl (Qh (pv 2) Qe)) hr rfl) Ze)))))
  (Qg (Qo (pv 2))))))),?_⟩
 refine Qm (σ:=[Vo (.ref p),Vo (.ref hb),Vp,Vp]) rfl ?_
 walk_at "rd";have vQ:∀ {n:Int} {j:Nat} {part:List Dt} {pg:Vh} {H2:Hp} {Qc:VK},(n,Zm (j:Int) part)∈Qs st->Tow QM (Qs st) j M part->PgD ob H2 pg (j:Int) part->(∀ r H3,Qn H2 H3->H2 r=Vp->H3 r=Vo (.lst (if j=0 then [] else (part.map Zr).map V.int))->Qc (.ref r) H3) ->
  ∃ a,V.ref pg=.ref a/\∃ C dx fs,H2 a=Vo (.ins C dx fs)/\fs.lookup ("under":Str)=Vp/\Cls K C/\∃ sp,MeV P w K mg base 5 C "under" sp/\sp [.ref pg] H2 Qc E0:=by
  intro n j part pg H2 Qc hm tp aW qc;obtain⟨_,_,lp,gF⟩:=Xx tp rM uM;obtain⟨fB,dL,t0,bC,bh,dM⟩:=id aW;cases j with
  | zero =>
   obtain rfl:fB=false:=by rw[bC];rfl
   exact⟨pg,rfl,_,dL,_,bh,rfl,(T.ob_ 1 #[1]).cl,_,JI.mono #[1],pg,rfl,λr H3 s3 h3 g3=>qc r H3 s3 h3 (by rw[if_pos rfl];exact g3)⟩
  | succ j' =>
   obtain rfl:fB=true:=by rw[bC];exact decide_eq_true #[0]
   exact⟨pg,rfl,_,dL,_,bh,rfl,(T.ob_ 2 #[1]).cl,_,Ji.mono #[1],pg,_,part,rfl,aW,by lia,by lia,(λd hd=>let ⟨k,n,e,_⟩:=gF #[0] d hd;⟨k,n,e⟩),λr H3 s3 h3 g3=>qc r H3 s3 h3 (by rw[if_neg #[0]];exact g3)⟩
 have lty:=Vn ty
 match hs,ys,ty,tw,l1,hH with
 | [],_,.nil,tw,_,hH =>
  refine⟨false,.inl ⟨_,SqL.of hH,rfl⟩,?_⟩
  rw[if_pos rfl];exact q H .non (Qn.refl _) (.inl ⟨tw.fst.1.mpr rfl,rfl⟩)
 | [d],_,.cons (b:=x) tx .nil,tw,_,hH =>
  obtain⟨n,part,ed,hm,tp,_⟩:=tw.one;subst ed;obtain⟨b1,u1,u2,eb,cI,w1,w2⟩:=TD.pair_of tx;obtain⟨_,rfl⟩:=w2.flat;subst eb;refine⟨true,.inl ⟨_,SqL.of hH,rfl⟩,?_⟩
  rw[if_neg #[1]]
  refine⟨_,SqL.of hH,.ref b1,at0 _ _,b1,rfl,_,SqT.of cI,_,at1 _ _ _,?_⟩
  refine Qea T Qt #[1] rfl rfl hS hm λpg H1 s1 ft aW=>?_
  refine vQ hm tp aW λr H2 s2 fb g2=>?_
  refine⟨λm σ' H'=>∃ n part r k,σ'=[Vo (.ref p),Vo (.ref hb),Vo (.int n),Vo (.ref r)]/\Qn H H'/\Tow QM (Qs st) (m+1) M [Zy k n]/\(n,Zm (m:Int) part)∈Qs st/\Tow QM (Qs st) m M part/\H' r=Vo (.lst (if m=0 then [] else (part.map Zr).map V.int)),⟨l,n,part,r,_,rfl,s1.trans s2,tw,hm,tp,g2⟩,?_⟩
  clear g2 fb s2 aW ft s1 tx tp hm tw;rintro m σ' H' ⟨n,part,r,k,rfl,s1,tw,hm,tp,g2⟩;walk_at "rd";refine⟨_,.inl (SqL.of g2),ZL (λh1=>?_) λh1=>?_⟩
  ·have jt:m≠0:=λz=>by rw[if_pos z]at h1;simp at h1
   rw[if_neg jt]at h1 g2;obtain⟨m',rfl⟩:∃ m',m=m'+1:=⟨m - 1,by lia⟩
   have l1:part.length=1:=by simp at h1;lia
   obtain⟨d,rfl⟩:=length_eq_one_iff.mp l1;obtain⟨n',az,ed,dw,fY,_⟩:=tp.one;subst ed;refine⟨_,λσ' H' h=>h,_,SqL.of g2,.int n',at0 _ _,?_⟩
   refine Qea T Qt #[1] rfl rfl (hS.same s1) dw λpg H2 s2 ft aW=>?_
   exact vQ dw fY aW λr H3 s3 zX g3=>⟨m',by lia,n',az,r,rfl,s1.trans (s2.trans s3),_,tp,dw,fY,g3⟩
  ·refine q H' (.int n) s1 (QHb (Yna.of_two hS.fn tw tp ?_))
   by_cases jt:m=0
   ·exact .inl jt
   ·right
    rw[if_neg jt]at h1;have hM:M≠[]:=tw.ne' #[2]
    have:=length_pos_iff.mpr (tp.ne hM);simp at h1
    lia
 | d::d'::hs,_,_,_,l1,_=>simp at l1
inductive Zvb(P:Vg)(w:Vb)(cs ob:Nat->Vh)(vs:List V)(H:Hp)(Q:VK)(E:XK):Prop
 | mk:∀ p d1 d2 st c v k es,vs=[.ref p,v,k]->QF P w ob H p d1 d2 st c->QH st es v->Yoa es->es.length<=700->Q6 k->st.length+8 * es.length<=16000000->((∃ d∈es,Qv d=k)->∀ H' ag c' v' aj,QN [p,d1,d2] H H'->QF P w ob H' p d1 d2 ag c'->(∀ x∈Qs st,x∈Qs ag)->ag.length<=st.length+8 * es.length->XN k es aj->QH ag aj v'->Q v' H')->((∀ d∈es,Qv d≠k)->∀ H' d,Qn H H'->H' d=Vp->E (.ref (cs 2)) (Vo d) (upd H' d (xD d [("key",k)])))->Zvb P w cs ob vs H Q E
seal PE PT PW PA PS PSs PI PG QT PGs PO in
theorem YUc(Z:Zs mg)(T:Tx K mg CT cs ob)(zY:Cal P w K mg base 6 "lowered" ["pages","heads"] (Z4a P w cs ob))(zZ:∀ n,Cal P w K mg base (15+n) "heads_without" ["pages","number","key"] (Jk P w cs ob n))(sj:Cal P w K mg base 6 "seek" ["pages","root","key"] (YHa P w cs ob))(sk:MkX P w K mg base 1 "NoRow" (cs 2) CT ["key"])(F:Fun K "take" "take" YIb f fd):QE P w K mg base (CX1 P w) 24 f fd ["pages","root","key"] (Zvb P w cs ob):=by
 refine F.ok1 YKc (λvs H Q E h=>?_) (λap A outer s H vs Q E hr h=>?_)
 ·walk_at "n"
 obtain⟨p,d1,d2,st,c,v,k,es,rfl,hS,hT,hR,l7,hk,few,q1,q3⟩:=h;refine⟨_,(Qb (QK (Qq Y8 (QA QC (Qr sj hr (Qh (pv 0) (Qh (pv 1) (Qh (pv 2) Qe)))) Qd (λ_ _=>rfl)) Zz (Qu _)) (Qg (Zha Z1 rfl rfl rfl sk (k:=23) hr #[1] (Qh (pv 2) Qe))) Qw)
  (Qg (Qo (Qr zY hr (Qh (pv 0) (Qh (Z7 (zZ 8) (k:=23) hr #[1] rfl (Qh (pv 0) (Qh (pv 1) (Qh (pv 2) Qe)))) Qe)))))),?_⟩
 refine Qm (σ:=[Vo (.ref p),Vo v,Vo k]) rfl ?_
 walk_at "rd";refine⟨p,d1,d2,st,c,v,k,es,rfl,hS,hT,hR,hk,λr y H1 cv ws s1 vk g1 gy hy hf _=>⟨r,rfl,_,SqT.of g1,_,at0 _ _,?_⟩⟩
 rcases hf with ⟨c0,hc,tc⟩ | ⟨kO,rfl⟩
 ·obtain⟨_,a0,_,_,rfl,_,_⟩:=tc.tup
  rw[if_neg (λz=>nomatch z)]
  have eO:∃ d∈es,Qv d=k:=⟨_,hc,rfl⟩;obtain⟨n,rfl⟩:∃ n,v=.int n:=by
   rcases hT with ⟨e,_⟩ | ⟨_,_,_,_,n,_,_,_,e⟩
   ·rw[e]at hc;cases hc
   ·exact⟨n,e⟩
  obtain⟨top,h6,rt⟩:=hT.root hS;obtain⟨part,hm,tp,_,ax⟩:=rt.page;have b1:(top+1) * es.length<=8 * es.length:=Dg _ #[0]
  refine⟨p,d1,d2,st,c,n,top,part,es,k,rfl,hS.same s1,hm,tp,eO,hR.row,hR.up,l7,(show top<=7 by lia),by lia,hk,by lia,λr2 H2 bR c2 aj cf qO h2 bX l2=>?_⟩
  have cH:cf.length<=1:=by
   by_cases e:aj=[]
   ·rw[h2.tow.fst.1.mp e];exact Us _
   ·obtain⟨k0,t0⟩:=rt.one
    obtain⟨k',n',e'⟩:=t0.single h2.tow rfl e bX.sub;rw[e'];exact Um _
  have zS:aj.length<=es.length:=by have:=bX.sub.length_le;simpa using this
  exact⟨p,d1,d2,bR,c2,r2,qO,cf,top,aj,rfl,h2.sA,h2.at_,h2.ty,h2.tow,cH,(λd hd=>hR.row d ((bX.mem hR.up ltK.irr d).mp hd).1),bX.up hR.up,by lia,λH3 v3 s3 rG=>q1 eO H3 bR c2 v3 aj ((s1.x _).trans (h2.sx.trans (s3.x _))) (h2.sA.same s3) h2.sub #[0] bX rG⟩
 ·rw[if_pos rfl]
  exact⟨rfl,show 1<=1000 by decide,λd hd=>q3 kO H1 d s1 hd⟩
end
def chF(k o n:V):List (Str×V):=Z3 "new" n (Z3 "old" o (Z3 "key" k []))
def Zva:V->V->Nat
 | .non,_=>5
 | _,.non=>6
 | _,_=>7
theorem ci2{o:V}(h:o≠.non):Zva o .non=6:=by unfold Zva;split <;> first | exact(h rfl).elim | rfl | (rename_i z;exact(z rfl).elim)
theorem ci3{o n:V}(h:o≠.non)(h':n≠.non):Zva o n=7:=by unfold Zva;split <;> first | exact(h rfl).elim | exact(h' rfl).elim | rfl
theorem Zra(o n:V):Zva o n < 8:=by unfold Zva;split <;> decide
def JNb(ob:Nat->Vh)(H:Hp)(a:Vh)(k o n:V):Prop:=∃ dx,H a=Vo (.ins (ob (Zva o n)) dx (chF k o n))
theorem JNb.same{o n:V}(h:JNb ob H a k o n)(s:Qn H H'):JNb ob H' a k o n:=by
 obtain⟨dx,e⟩:=h;exact⟨dx,s _ _ e⟩
inductive Jb(K:VD)(ob:Nat->Vh)(vs:List V)(H:Hp)(Q:VK)(E:XK):Prop
 | mk:∀ a i dx k o n,vs=[.ref a,k,o,n]->i < 8->H a=Vo (.ins (ob i) dx [])->Q .non (upd H a (.ins (ob i) dx (chF k o n)))->Jb K ob vs H Q E
seal PE PT PW PA PS PSs PI PG QT PGs PO in
theorem XHa(Z:Zs mg)(T:Tx K mg CT cs ob)(F:Fun K "__init__" "Change.__init__" Xd f fd):QE P w K mg base CX0 1 f fd ["self","key","old","new"] (Jb K ob):=by
 refine F.ok Xna (λvs H Q E h=>?_) (λap A outer s H vs Q E hr h=>?_)
 ·walk_at "n"
 obtain⟨a,i,dx,k,o,n,rfl,hi,ha,q⟩:=h;refine⟨_,(Qb (Jy (pv 0) (pv 1) rfl)
  (Qb (Jy (pv 0) (pv 2) rfl)
  (Qg (Jy (pv 0) (pv 3) rfl)))),?_⟩
 refine Qm (σ:=[Vo (.ref a),Vo k,Vo o,Vo n]) rfl ?_
 walk_at "rd";have c:=T.ob_ _ hi;refine JPa c #[1] rfl (y:=k) (H1:=H) (λQ q=>q) ha #[1] ?_
 refine⟨a,ob i,dx,_,rfl,Qa,c.cl,c.no _ #[1],show 1 < 1000 by decide,?_⟩
 refine⟨a,ob i,dx,_,rfl,Qa,c.cl,c.no _ #[1],show 2 < 1000 by decide,?_⟩
 rw[ZY,ZY];exact q
inductive JK(K:VD)(ob:Nat->Vh)(vs:List V)(H:Hp)(Q:VK)(E:XK):Prop
 | mk:∀ a dx k o n,vs=[.ref a,k,o,n]->H a=Vo (.ins (ob 7) dx [])->Q .non (upd H a (.ins (ob 7) dx (chF k o n)))->JK K ob vs H Q E
seal PE PT PW PA PS PSs PI PG QT PGs PO in
theorem XIa(Z:Zs mg)(T:Tx K mg CT cs ob)(F:Fun K "__init__" "Change.__init__" Xe f fd):QE P w K mg base CX0 1 f fd ["self","key","old","new"] (JK K ob):=by
 refine F.ok Xoa (λvs H Q E h=>?_) (λap A outer s H vs Q E hr h=>?_)
 ·walk_at "n"
 obtain⟨a,dx,k,o,n,rfl,ha,q⟩:=h;refine⟨_,(Qb (Jy (pv 0) (pv 1) rfl)
  (Qb (Jy (pv 0) (pv 2) rfl)
  (Qg (Jy (pv 0) (pv 3) rfl)))),?_⟩
 refine Qm (σ:=[Vo (.ref a),Vo k,Vo o,Vo n]) rfl ?_
 walk_at "rd";have c:=T.ob_ 7 #[1]
 refine JPa c #[1] rfl (y:=k) (H1:=H) (λQ q=>q) ha #[1] ?_
 refine⟨a,ob 7,dx,_,rfl,Qa,c.cl,c.no _ #[1],show 1 < 1000 by decide,?_⟩
 refine⟨a,ob 7,dx,_,rfl,Qa,c.cl,c.no _ #[1],show 2 < 1000 by decide,?_⟩
 rw[ZY,ZY];exact q
inductive Ya(K:VD)(ob:Nat->Vh)(vs:List V)(H:Hp)(Q:VK)(E:XK):Prop
 | mk:∀ a dx k n,vs=[.ref a,k,n]->H a=Vo (.ins (ob 5) dx [])->Q .non (upd H a (.ins (ob 5) dx (chF k .non n)))->Ya K ob vs H Q E
seal PE PT PW PA PS PSs PI PG QT PGs PO in
theorem Qdb(Z:Zs mg)(T:Tx K mg CT cs ob)(aH:BaI P w K mg base 1 "Change" (Jb K ob))(F:Fun K "__init__" "PutIn.__init__" XZ f fd):QE P w K mg base CX0 2 f fd ["self","key","new"] (Ya K ob):=by
 refine F.ok X1a (λvs H Q E h=>?_) (λap A outer s H vs Q E hr h=>?_)
 ·walk_at "n"
 obtain⟨a,dx,k,n,rfl,ha,q⟩:=h;refine⟨_,(Qg (Zh (Zja aH (k:=1) hr #[1] rfl (Qh (pv 0) (Qh (pv 1) (Qh Zz (Qh (pv 2) Qe))))))),?_⟩
 refine Qm (σ:=[Vo (.ref a),Vo k,Vo n]) rfl ?_
 walk_at "rd";exact⟨a,5,dx,k,.non,n,rfl,by decide,ha,q⟩
inductive Jl(K:VD)(ob:Nat->Vh)(vs:List V)(H:Hp)(Q:VK)(E:XK):Prop
 | mk:∀ a dx k o,vs=[.ref a,k,o]->H a=Vo (.ins (ob 6) dx [])->Q .non (upd H a (.ins (ob 6) dx (chF k o .non)))->Jl K ob vs H Q E
seal PE PT PW PA PS PSs PI PG QT PGs PO in
theorem J6a(Z:Zs mg)(T:Tx K mg CT cs ob)(aH:BaI P w K mg base 1 "Change" (Jb K ob))(F:Fun K "__init__" "TakenOut.__init__" Yn f fd):QE P w K mg base CX0 2 f fd ["self","key","old"] (Jl K ob):=by
 refine F.ok JUa (λvs H Q E h=>?_) (λap A outer s H vs Q E hr h=>?_)
 ·walk_at "n"
 obtain⟨a,dx,k,o,rfl,ha,q⟩:=h;refine⟨_,(Qg (Zh (Zja aH (k:=1) hr #[1] rfl (Qh (pv 0) (Qh (pv 1) (Qh (pv 2) (Qh Zz Qe))))))),?_⟩
 refine Qm (σ:=[Vo (.ref a),Vo k,Vo o]) rfl ?_
 walk_at "rd";exact⟨a,6,dx,k,o,.non,rfl,by decide,ha,q⟩
inductive YE(aD:VD)(ob:Nat->Vh)(vs:List V)(H:Hp)(Q:VK)(E:XK):Prop
 | mk:∀ k o n,vs=[k,o,n]->(∀ a H',Qn H H'->H a=Vp->JNb ob H' a k o n->Q (.ref a) H')->YE aD ob vs H Q E
seal PE PT PW PA PS PSs PI PG QT PGs PO in
theorem Zxb(Z:Zs mg)(T:Tx K mg CT cs ob)(sr:MkV P w K mg base 1 "Turned" (ob 7) (JK K ob))(su:MkV P w K mg base 2 "PutIn" (ob 5) (Ya K ob))(sv:MkV P w K mg base 2 "TakenOut" (ob 6) (Jl K ob))(F:Fun K "change_of" "change_of" QWa f fd):QE P w K mg base CX0 4 f fd ["key","old","new"] (YE K ob):=by
 refine F.ok Zgb (λvs H Q E h=>?_) (λap A outer s H vs Q E hr h=>?_)
 ·walk_at "n"
 obtain⟨k,o,n,rfl,q⟩:=h;refine⟨_,(Qb (QK (Qq Y8 (pv 1) Zz (Qu _)) (Qg (Qo (Jhb su (k:=3) hr #[1] rfl (Qh (pv 0) (Qh (pv 2) Qe))))) Qw)
  (Qb (QK (Qq Y8 (pv 2) Zz (Qu _)) (Qg (Qo (Jhb sv (k:=3) hr #[1] rfl (Qh (pv 0) (Qh (pv 1) Qe))))) Qw)
  (Qg (Qo (Jhb sr (k:=3) hr #[1] rfl (Qh (pv 0) (Qh (pv 1) (Qh (pv 2) Qe)))))))),?_⟩
 refine Qm (σ:=[Vo k,Vo o,Vo n]) rfl ?_
 walk_at "rd";refine ZL (λho=>?_) λho=>?_
 ·refine λx dx hx bt ax=>⟨x,dx,k,n,rfl,Qa,rfl,?_⟩
  rw[ZY];exact q x _ (XJ hx bt (Qn.refl _)) hx ⟨dx,by rw[ho];exact Qa⟩
 refine ZL (λhn=>?_) λhn=>?_
 ·refine λx dx hx bt ax=>⟨x,dx,k,o,rfl,Qa,rfl,?_⟩
  rw[ZY];exact q x _ (XJ hx bt (Qn.refl _)) hx ⟨dx,by rw[hn,show Zva o .non=6 from ci2 ho];exact Qa⟩
 ·refine λx dx hx bt ax=>⟨x,dx,k,o,n,rfl,Qa,rfl,?_⟩
  rw[ZY];exact q x _ (XJ hx bt (Qn.refl _)) hx ⟨dx,by rw[ci3 ho hn];exact Qa⟩
inductive Q2(aD:VD)(ob:Nat->Vh)(vs:List V)(H:Hp)(Q:VK)(E:XK):Prop
 | mk:∀ a k o n,vs=[.ref a]->JNb ob H a k o n->(∀ r H',Qn H H'->H r=Vp->JNb ob H' r k n o->Q (.ref r) H')->Q2 aD ob vs H Q E
seal PE PT PW PA PS PSs PI PG QT PGs PO in
theorem JL(Z:Zs mg)(T:Tx K mg CT cs ob)(sw:Cal P w K mg base 4 "change_of" ["key","old","new"] (YE K ob))(F:Fun K "back" "Change.back" Xi f fd):QE P w K mg base (CX1 P w) 5 f fd ["self"] (Q2 K ob):=by
 refine F.ok1 Xra (λvs H Q E h=>?_) (λap A outer s H vs Q E hr h=>?_)
 ·walk_at "n"
 obtain⟨a,k,o,n,rfl,hC,q⟩:=h;refine⟨_,(Qg (Qo (Qr sw hr (Qh (Qz (pv 0) rfl) (Qh (Qz (pv 0) rfl) (Qh (Qz (pv 0) rfl) Qe)))))),?_⟩
 refine Qm (σ:=[Vo (.ref a)]) rfl ?_
 walk_at "rd";obtain⟨dx,ha⟩:=hC;have c:=T.ob_ _ (Zra o n);exact QJ c #[1] rfl ha rfl (QJ c #[1] rfl ha rfl (QJ c #[1] rfl ha rfl ⟨k,n,o,rfl,λr H' s hr hc=>q r H' s hr hc⟩))
theorem JGc(o n:V):(Zva o n=5/\o=.non)\/(Zva o n=6/\o≠.non/\n=.non)\/(Zva o n=7/\o≠.non/\n≠.non):=by
 by_cases ho:o=.non
 ·subst ho;exact .inl ⟨rfl,rfl⟩
 by_cases hn:n=.non
 ·subst hn;exact .inr (.inl ⟨ci2 ho,ho,rfl⟩)
 ·exact .inr (.inr ⟨ci3 ho hn,ho,hn⟩)
def JAa(k o n:V):List V:=if o=.non then [.str (Ll "in"),k,n] else if n=.non then [.str (Ll "out"),k,o] else [.str (Ll "turned"),k,o,n]
inductive Zv(aD:VD)(ob:Nat->Vh)(vs:List V)(H:Hp)(Q:VK)(E:XK):Prop
 | mk:∀ a k o n,vs=[.ref a]->JNb ob H a k o n->(∀ r H',Qn H H'->H r=Vp->H' r=Vo (.tup (JAa k o n))->Q (.ref r) H')->Zv aD ob vs H Q E
seal PE PT PW PA PS PSs PI PG QT PGs PO in
theorem JM(Z:Zs mg)(T:Tx K mg CT cs ob)(F:Fun K "told" "Change.told" Xf f fd):QE P w K mg base (CX1 P w) 1 f fd ["self"] (Zv K ob):=by
 refine F.ok1 Xpa (λvs H Q E h=>?_) (λap A outer s H vs Q E hr h=>?_)
 ·walk_at "n"
 obtain⟨a,k,o,n,rfl,hC,q⟩:=h;refine⟨_,(Qb (QK (Qq Y8 (Qz (pv 0) rfl) Zz (Qu _)) (Qg (Qo (ZM (Qh JW (Qh (Qz (pv 0) rfl) (Qh (Qz (pv 0) rfl) Qe)))))) Qw)
  (Qb (QK (Qq Y8 (Qz (pv 0) rfl) Zz (Qu _)) (Qg (Qo (ZM (Qh JW (Qh (Qz (pv 0) rfl) (Qh (Qz (pv 0) rfl) Qe)))))) Qw)
  (Qg (Qo (ZM (Qh JW (Qh (Qz (pv 0) rfl) (Qh (Qz (pv 0) rfl) (Qh (Qz (pv 0) rfl) Qe))))))))),?_⟩
 refine Qm (σ:=[Vo (.ref a)]) rfl ?_
 walk_at "rd";obtain⟨dx,ha⟩:=hC;have c:=T.ob_ _ (Zra o n);have fin:∀ zs,zs=JAa k o n->∀ p,H p=Vp->Q (.ref p) (upd H p (.tup zs)):=λzs e p hp=>q p _ (Qf hp _) hp (by rw[e];exact Qa)
 refine QJ c #[1] rfl ha rfl (ZL (λho=>?_) λho=>?_)
 ·exact QJ c #[1] rfl ha rfl (QJ c #[1] rfl ha rfl ⟨show 3<=Vs by decide,fin _ (by unfold JAa;rw[if_pos ho])⟩)
 refine QJ c #[1] rfl ha rfl (ZL (λhn=>?_) λhn=>?_)
 ·exact QJ c #[1] rfl ha rfl (QJ c #[1] rfl ha rfl ⟨show 3<=Vs by decide,fin _ (by unfold JAa;rw[if_neg ho,if_pos hn])⟩)
 ·exact QJ c #[1] rfl ha rfl (QJ c #[1] rfl ha rfl (QJ c #[1] rfl ha rfl ⟨show 4<=Vs by decide,fin _ (by unfold JAa;rw[if_neg ho,if_neg hn])⟩))
def oD:Option (List Dt)->Dt
 | none=>.v .non
 | some c=>.t c
theorem JHc{a b:Option (List Dt)}(h:oD a=oD b):a=b:=by
 cases a <;> cases b <;> first | rfl | (injection h with h;rw[h]) | (injection h)
def QZ(es:List Dt)(k:V):Option (List Dt)->Prop
 | none=>∀ d∈es,Qv d≠k
 | some c=>Dt.t [.v k,.t c]∈es
theorem JIc(up:UpR ltK es){a b:Dt}(ha:a∈es)(hb:b∈es)(e:Qv a=Qv b):a=b:=by
 obtain⟨i,hi,ea⟩:=mem_iff_getElem.mp ha;obtain⟨j,hj,eb⟩:=mem_iff_getElem.mp hb
 rcases Nat.lt_trichotomy i j with h | h | h
 ·have:=pairwise_iff_getElem.mp up i j hi hj h
  rw[ea,eb,e]at this;exact absurd this (ltK.irr _)
 ·subst h;rw[<- ea,<- eb]
 ·have:=pairwise_iff_getElem.mp up j i hj hi h
  rw[ea,eb,e]at this;exact absurd this (ltK.irr _)
theorem QZ.det(up:UpR ltK es){a b:Option (List Dt)}(h:QZ es k a)(h':QZ es k b):a=b:=by
 cases a with
 | none=>cases b with
  | none=>rfl
  | some c=>exact absurd rfl (h _ h')
 | some c=>cases b with
  | none=>exact absurd rfl (h' _ h)
  | some c' =>
   have:=JIc up h h' rfl;injection this with this
   injection this with _ this
   injection this with this
   injection this with this
   rw[this]
theorem QZ.ex(es:List Dt)(k:V)(h:∀ d∈es,Za d):∃ o,QZ es k o:=by
 by_cases e:∃ d∈es,Qv d=k
 ·obtain⟨d,hd,ed⟩:=e
  obtain⟨k',c,rfl,_⟩:=h d hd;have:k'=k:=ed;subst this;exact⟨Vo c,hd⟩
 ·exact⟨Vp,λd hd z=>e ⟨d,hd,z⟩⟩
theorem JLb.get{cv:V}(h:JLb H es k cv):∃ o,QZ es k o/\TD H 5 (oD o) cv:=by
 rcases h with ⟨c,hc,tc⟩ | ⟨hn,rfl⟩
 ·exact⟨Vo c,hc,tc⟩
 ·exact⟨Vp,hn,.ofV rfl⟩
def Zzb(k:V)(n:Option (List Dt))(es aj:List Dt):Prop:=match n with
 | none=>XN k es aj
 | some c=>J0 ltK k (.t [.v k,.t c]) es aj
def ChD(ob:Nat->Vh)(H:Hp)(a:Vh)(k:V)(o n:Option (List Dt)):Prop:=∃ ov nv,JNb ob H a k ov nv/\TD H 5 (oD o) ov/\TD H 5 (oD n) nv
theorem ChD.same{n:Option (List Dt)}(h:ChD ob H a k o n)(s:Qn H H'):ChD ob H' a k o n:=by
 obtain⟨ov,nv,h1,h2,h3⟩:=h;exact⟨ov,nv,h1.same s,h2.same s,h3.same s⟩
theorem Qvd{o n:V}:stF d1 d2 c≠chF k o n:=λhf=>by
 have:=congrArg (UG ("key":Str)) hf;have e1:(stF d1 d2 c).lookup ("key":Str)=Vp:=rfl;have e2:(chF k o n).lookup ("key":Str)=Vo k:=rfl;rw[e1,e2]at this;cases this
theorem ChD.x{p:Vh}{n:Option (List Dt)}(h:ChD ob H a k o n)(hS:QF P w ob H p d1 d2 st c)(s:QN [p,d1,d2] H H'):ChD ob H' a k o n:=by
 obtain⟨ov,nv,⟨dx,h1⟩,h2,h3⟩:=h;have t:=ZN hS s;refine⟨ov,nv,⟨dx,s _ _ (λz=>?_) h1⟩,TD.sameT t 5 h2,TD.sameT t 5 h3⟩
 obtain⟨iE,ho⟩:=hS.obj;simp only[LW,LX,or_false]at z
 rcases z with z | z | z
 ·rw[z,ho]at h1
  injection h1 with h1
  injection h1 with _ _ hf
  exact Qvd hf
 ·rw[z,hS.num]at h1;cases h1
 ·rw[z,hS.tol]at h1;cases h1
theorem Yoa.put{n:Option (List Dt)}(h:Yoa es)(hk:Q6 k)(hc:Zzb k n es aj):(∀ d∈aj,Za d)/\UpR ltK aj/\aj.length<=es.length+1:=by
 cases n with
 | none =>
  have hc:XN k es aj:=hc;refine⟨λd hd=>h.row d ((hc.mem h.up ltK.irr d).mp hd).1,hc.up h.up,?_⟩
  have:=hc.sub.length_le;simp at this;lia
 | some c =>
  have hc:J0 ltK k (.t [.v k,.t c]) es aj:=hc;refine⟨λd hd=>?_,hc.up h.up rfl ltK.tr,J0.len hc⟩
  rcases(hc.mem ltK.irr d).mp hd with z | z
  ·rw[z];exact⟨k,c,rfl,hk⟩
  ·exact h.row d z.1
inductive Zw(P:Vg)(w:Vb)(cs ob:Nat->Vh)(vs:List V)(H:Hp)(Q:VK)(E:XK):Prop
 | mk:∀ a k o n p d1 d2 st c v es,vs=[.ref a,.ref p,v]->ChD ob H a k o n->Q6 k->(o=Vp->n≠Vp)->QF P w ob H p d1 d2 st c->QH st es v->Yoa es->es.length<=700->st.length+16 * (es.length+2)<=16000000->(QZ es k o->∀ H' ag c' v' aj,QN [p,d1,d2] H H'->QF P w ob H' p d1 d2 ag c'->(∀ x∈Qs st,x∈Qs ag)->ag.length<=st.length+16 * (es.length+2)->Zzb k n es aj->QH ag aj v'->Q v' H')->(¬ QZ es k o->∀ H' d,Qn H H'->H' d=Vp->E (.ref (cs 3)) (Vo d) (upd H' d (xD d [("key",k)])))->Zw P w cs ob vs H Q E
seal PE PT PW PA PS PSs PI PG QT PGs PO in
theorem JN(Z:Zs mg)(T:Tx K mg CT cs ob)(z0:Jgb P w K mg base 15 "put" ["pages","root","key","cells"] (YUb P w cs ob))(Qwd:Jgb P w K mg base 24 "take" ["pages","root","key"] (Zvb P w cs ob))(sj:Cal P w K mg base 6 "seek" ["pages","root","key"] (YHa P w cs ob))(ju:MkX P w K mg base 1 "Unfit" (cs 3) CT ["key"])(F:Fun K "onto" "Change.onto" Xl f fd):QE P w K mg base (CX1 P w) 25 f fd ["self","pages","root"] (Zw P w cs ob):=by
 refine F.ok1 Xva (λvs H Q E h=>?_) (λap A outer s H vs Q E hr h=>?_)
 ·walk_at "n"
 obtain⟨a,k,o,n,p,d1,d2,st,c,v,es,rfl,hC,hk,sB,hS,hT,hR,l7,few,q1,q2⟩:=h;refine⟨_,(Qb (QK (Qq (ZTc (hr.units)) (QA QC (Qr sj hr (Qh (pv 1) (Qh (pv 2) (Qh (Qz (pv 0) rfl) Qe)))) Qd (λ_ _=>rfl)) (Qz (pv 0) rfl) (Qu _)) (Qg (Zha Z1 rfl rfl rfl ju (k:=24) hr #[1] (Qh (Qz (pv 0) rfl) Qe))) Qw)
  (Qb (QK (Qq Y8 (Qz (pv 0) rfl) Zz (Qu _)) (Qg (Qo (PE1.pe (ZR Qwd hr (Qh (pv 1) (Qh (pv 2) (Qh (Qz (pv 0) rfl) Qe)))) Z1))) Qw)
  (Qg (Qo (PE1.pe (ZR z0 hr (Qh (pv 1) (Qh (pv 2) (Qh (Qz (pv 0) rfl) (Qh (Qz (pv 0) rfl) Qe))))) Z1))))),?_⟩
 refine Qm (σ:=[Vo (.ref a),Vo (.ref p),Vo v]) rfl ?_
 walk_at "rd";obtain⟨ov,nv,⟨dx,ha⟩,to,tn⟩:=id hC;have cc:=T.ob_ _ (Zra ov nv);refine QJ cc #[1] rfl ha rfl ?_
 refine⟨p,d1,d2,st,c,v,k,es,rfl,hS,hT,hR,hk,λr y H1 cv ws s1 vk g1 gy hy hf _=>⟨r,rfl,_,SqT.of g1,_,at0 _ _,?_⟩⟩
 have a8:=s1 _ _ ha;have bI:=hS.same s1;obtain⟨o',bf,tc⟩:=JLb.get hf;refine QJ cc #[1] rfl a8 rfl ?_
 refine Jhc (n:=5) #[1] tc (to.same s1) ⟨_,rfl,?_⟩
 by_cases e:oD o'=oD o
 ·have eo:=JHc e
  subst eo;rw[if_neg #[2]]
  refine QJ cc #[1] rfl a8 rfl (ZL (λhn=>?_) λhn=>?_)
  ·have en:n=Vp:=by
    cases n with
    | none=>rfl
    | some c' =>
     obtain⟨_,_,_,_,e1,_⟩:=TD.tup tn;rw[e1]at hn;cases hn
   subst en;have hso:∃ c',o'=Vo c':=by
    cases o' with
    | none=>exact absurd rfl (sB rfl)
    | some c'=>exact⟨c',rfl⟩
   obtain⟨c',rfl⟩:=hso;refine QJ cc #[1] rfl a8 rfl ⟨p,d1,d2,st,c,v,k,es,rfl,bI,hT,hR,l7,hk,by lia,λ_ H' ag c' v' aj sx aJ sub l' hd ht=>q1 bf H' ag c' v' aj ((s1.x _).trans sx) aJ sub #[0] hd ht,λkO=>absurd rfl (kO _ bf)⟩
  ·obtain⟨c',rfl⟩:∃ c',n=Vo c':=by
    cases n with
    | none =>
     obtain⟨_,e1⟩:=TD.flat tn;exact absurd e1 hn
    | some c'=>exact⟨c',rfl⟩
   refine QJ cc #[1] rfl a8 rfl (QJ cc #[1] rfl a8 rfl ⟨p,d1,d2,st,c,v,k,_,c',es,rfl,bI,hT,hR,l7,hk,tn.same s1,few,λH' ag c' v' aj sx aJ sub l' hd ht=>q1 bf H' ag c' v' aj ((s1.x _).trans sx) aJ sub l' hd ht⟩)
 ·rw[if_pos (by simp[e])]
  simp only[Xwb,YVa,Jba];refine QJ cc #[1] rfl a8 rfl ⟨rfl,show 1<=1000 by decide,λd hd=>q2 (λz=>e ?_) H1 d s1 hd⟩
  rw[QZ.det hR.up bf z]
inductive Jw:List (V×Option (List Dt)×Option (List Dt))->List Dt->List Dt->Prop
 | nil {es:List Dt}:Jw [] es es
 | cons {k:V} {o n:Option (List Dt)} {r:List (V×Option (List Dt)×Option (List Dt))} {es bj aj:List Dt} (g:QZ es k o) (c:Zzb k n es bj) (m:Jw r bj aj):Jw ((k,o,n)::r) es aj
theorem Jw.snoc{l:List (V×Option (List Dt)×Option (List Dt))}{n:Option (List Dt)}{bj:List Dt}(h:Jw l es bj)(g:QZ bj k o)(c:Zzb k n bj aj):Jw (l++[(k,o,n)]) es aj:=by
 induction h with
 | nil=>exact .cons g c .nil
 | cons g' c' _ ih=>exact .cons g' c' (ih g c)
theorem Zzb.det{n:Option (List Dt)}{a b:List Dt}(h:Yoa es)(x:Zzb k n es a)(y:Zzb k n es b):a=b:=by
 cases n with
 | none =>
  have x:XN k es a:=x;have y:XN k es b:=y;exact UpR.ext ltK.irr ltK.tr (x.up h.up) (y.up h.up) λd=>by rw[x.mem h.up ltK.irr,y.mem h.up ltK.irr]
 | some c =>
  have x:J0 ltK k (.t [.v k,.t c]) es a:=x;have y:J0 ltK k (.t [.v k,.t c]) es b:=y;exact UpR.ext ltK.irr ltK.tr (x.up h.up rfl ltK.tr) (y.up h.up rfl ltK.tr) λd=>by rw[x.mem ltK.irr,y.mem ltK.irr]
def Zbd(aq:List (V×Option (List Dt)×Option (List Dt)))(es:List Dt)(k:V):Prop:=∃ pre o n post bj,aq=pre++(k,o,n)::post/\Jw pre es bj/\¬ QZ bj k o
def Qsa(ob:Nat->Vh)(H:Hp)(aq:List (V×Option (List Dt)×Option (List Dt)))(as:List Vh):Prop:=Vm (λc a=>ChD ob H a c.1 c.2.1 c.2.2) aq as
def Zmd(c:V×Option (List Dt)×Option (List Dt)):Prop:=Q6 c.1/\(c.2.1=Vp->c.2.2≠Vp)
inductive JBa(P:Vg)(w:Vb)(cs ob:Nat->Vh)(vs:List V)(H:Hp)(Q:VK)(E:XK):Prop
 | mk:∀ p d1 d2 st c v es l as aq,vs=[.ref p,v,.ref l]->H l=Vo (.lst (as.map V.ref))->Qsa ob H aq as->(∀ x∈aq,Zmd x)->QF P w ob H p d1 d2 st c->QH st es v->Yoa es->es.length+aq.length<=600->st.length+aq.length * (16 * (es.length+aq.length+2))<=16000000->(∀ H' ag c' v' aj,Jw aq es aj->QN [p,d1,d2] H H'->QF P w ob H' p d1 d2 ag c'->(∀ x∈Qs st,x∈Qs ag)->ag.length<=st.length+aq.length * (16 * (es.length+aq.length+2))->QH ag aj v'->Q v' H')->(∀ k,Zbd aq es k->∀ H' ag c' d,QN [p,d1,d2] H H'->QF P w ob H' p d1 d2 ag c'->(∀ x∈Qs st,x∈Qs ag)->ag.length<=st.length+aq.length * (16 * (es.length+aq.length+2))->H' d=Vp->E (.ref (cs 3)) (Vo d) (upd H' d (xD d [("key",k)])))->JBa P w cs ob vs H Q E
seal PE PT PW PA PS PSs PI PG QT PGs PO in
theorem JJc(Z:Zs mg)(T:Tx K mg CT cs ob)(vR:MeV P w K mg base 25 (ob 4) "onto" (Zw P w cs ob))(vS:MeV P w K mg base 25 (ob 5) "onto" (Zw P w cs ob))(vT:MeV P w K mg base 25 (ob 6) "onto" (Zw P w cs ob))(vU:MeV P w K mg base 25 (ob 7) "onto" (Zw P w cs ob))(F:Fun K "moved" "moved" Zib f fd):QE P w K mg base (CX1 P w) 26 f fd ["pages","root","changes"] (JBa P w cs ob):=by
 refine F.ok1 Xwa (λvs H Q E h=>?_) (λap A outer s H vs Q E hr h=>?_)
 ·walk_at "n"
 obtain⟨p,d1,d2,st,c,v,es,l,as,aq,rfl,hl,hC,hok,hS,hT,hR,lel,few,q1,q2⟩:=h;refine⟨_,(Qb (Jm X6c rfl (ZZ (pv 2)) (ZF (i:=3) Xwa.nd rfl (OB rfl)) (Qg (Qi 1 Xwa.nd (PE1.pe (Zb (k:=25) (pv 3) hr rfl (Qh (pv 0) (Qh (pv 1) Qe))) Z1))))
  (Qg (Qo (pv 1)))),?_⟩
 refine Qm (σ:=[Vo (.ref p),Vo v,Vo (.ref l),Vp]) rfl ?_
 walk_at "rd";have lc:=Vn hC;generalize eB:16 * (es.length+aq.length+2)=B at few q1 q2;refine⟨⟨_,SqL.of hl⟩,Z8 (as.map V.ref) (λi σ' H'=>∃ v' aj ag c' x3,σ'=[Vo (.ref p),Vo v',Vo (.ref l),x3]/\Jw (aq.take i) es aj/\QN [p,d1,d2] H H'/\QF P w ob H' p d1 d2 ag c'/\(∀ x∈Qs st,x∈Qs ag)/\ag.length<=st.length+i * B/\QH ag aj v'/\(∀ d∈aj,Za d)/\UpR ltK aj/\aj.length<=es.length+i) ⟨v,es,st,c,_,rfl,.nil,QN.refl _ _,hS,λx h=>h,by lia,hT,hR.row,hR.up,by lia⟩ ?_ ?_ ?_⟩
 ·rintro i σ' H' _ ⟨v',aj,ag,c',x3,rfl,_,sx,_⟩
  exact SqL.of (hS.lst sx hl)
 ·rintro i x σ' H' hx ⟨v',aj,ag,c',x3,rfl,mv,sx,aJ,sub,l',sC,r',u',vH⟩
  rw[Oe,Dl]at hx
  obtain⟨a,ha,rfl⟩:=hx;have hi:=(List.getElem?_eq_some_iff.mp ha).1
  have bJ:aq[i]?=Vo (aq[i]'#[0]):=I0 _
  obtain⟨⟨k,o,n⟩,ech⟩:∃ x,aq[i]'#[0]=x:=⟨_,rfl⟩
  rw[ech]at bJ;have hD:ChD ob H' a k o n:=(Qx hC bJ ha).x hS sx;obtain⟨hk,sB⟩:=hok _ (Og bJ);obtain⟨ov,nv,⟨dx,hao⟩,to,tn⟩:=id hD;have Mo:MeV P w K mg base 25 (ob (Zva ov nv)) "onto" (Zw P w cs ob):=by
   rcases JGc ov nv with ⟨e,_⟩ | ⟨e,_⟩ | ⟨e,_⟩ <;> rw[e] <;> assumption
  have bi:i * B<=aq.length * B:=Dg _ #[0]
  have bi1:(i+1) * B=i * B+B:=Dh _ _;have bi2:(i+1) * B<=aq.length * B:=Dg _ #[0]
  have tk:aq.take (i+1)=aq.take i++[(k,o,n)]:=by rw[LZ,bJ];rfl
  walk_at "rd";refine Jn rfl hao rfl (T.ob_ _ (Zra ov nv)).cl (Mo.mono #[1]) ⟨a,k,o,n,p,d1,d2,ag,c',v',aj,rfl,hD,hk,sB,aJ,sC,⟨r',u',by lia⟩,by lia,by lia,λhg H2 bR c2 v2 bO fU bZ cT l2 hc rQ=>?_,λhg H2 d s2 hd=>?_⟩
  ·obtain⟨r2,u2,l2'⟩:=Yoa.put ⟨r',u',by lia⟩ hk hc
   exact⟨v2,bO,bR,c2,_,⟨rfl,rfl⟩,by rw[tk];exact mv.snoc hg hc,sx.trans fU,bZ,λx hx=>cT x (sub x hx),by lia,rQ,r2,u2,by lia⟩
  ·refine q2 k ⟨aq.take i,o,n,aq.drop (i+1),aj,?_,mv,hg⟩ H2 ag c' d (sx.trans (s2.x _)) (aJ.same s2) sub #[0] hd
   have:=Ir (i+1) aq;rw[tk,Iv]at this;exact this.symm
 ·rintro σ' H' ⟨v',aj,ag,c',x3,rfl,mv,sx,aJ,sub,l',sC,_⟩
  rw[UJ,<- lc]at mv l';rw[Lr]at mv;walk_at "rd";exact q1 H' ag c' v' aj mv sx aJ sub l' sC
inductive JO(K:VD)(vs:List V)(H:Hp)(Q:VK)(E:XK):Prop
 | mk:∀ (a:Vh) (ns:List Int) (k:Nat),vs=[.ref a,.int k]->SqL K H a (ns.map V.int)->ns.length<=63->(∀ c,Q (.int c) H)->JO K vs H Q E
seal PE PT PW PA PS PSs PI PG QT PGs PO in
theorem ZAb(Z:Zs mg)(T:Tx K mg CT cs ob)(F:Fun K "_law_cell" "_law_cell" QOa f fd):QE P w K mg base CX0 1 f fd ["_law_script","_law_k"] (JO K):=by
 refine F.ok Zcb (λvs H Q E h=>?_) (λap A outer s H vs Q E hr h=>?_)
 ·walk_at "n"
 obtain⟨a,ns,k,rfl,hS,hl,q⟩:=h;refine⟨_,(Qb (QK (Qq ZUb (pv 1) (Q5 Q8 rfl (Z.len) YK (Qh (pv 0) Qe)) (Qu _)) (Qg (Qo (QA Zl (pv 0) (pv 1) (λ_ _=>rfl)))) Qw)
  (Qg (Qo Qd))),?_⟩
 refine Qm (σ:=[Vo (.ref a),Vo (.int k)]) rfl ?_
 walk_at "rd";refine⟨_,.inl hS,ZL (λh=>?_) λ_=>?_⟩
 ·rw[UJ]at h
  have hk:k < ns.length:=by lia
  exact⟨_,hS,.int ns[k],Zx (j:=k) (by simp[hk]),q _⟩
 ·exact q 0
theorem QNc:(Ll " !\"#$&'()*+,-./0123456789:;<=>?@ABCDEFGHIJKLMNOPQRSTUVWXYZ[\\]^_`"++Ll "abcdefghijklmnopqrstuvwxyz{|}~").cps.toList.length=94:=by decide +kernel
inductive Qga(aD:VD)(vs:List V)(H:Hp)(Q:VK)(E:XK):Prop
 | mk:∀ c:Int,vs=[.int c]->(∀ z:Str,z.length<=40->Q (.str z) H)->Qga aD vs H Q E
inductive TxI(H:Hp)(c:Int)(i:Nat)(σ':St)(H':Hp):Prop
 | mk:H'=H->∀ (m:Int) (z:Str) (x:Option V) (many:Option V) (aF:Int) (plain:Bool),σ'=[Vo (.int c),Vo (.str (Ll " !\"#$&'()*+,-./0123456789:;<=>?@ABCDEFGHIJKLMNOPQRSTUVWXYZ[\\]^_`"++Ll "abcdefghijklmnopqrstuvwxyz{|}~")),Vo (.int m),many,Vo (.int aF),Vo (.bl plain),Vo (.str z),x]->0<=m->m < 2147483629->z.length=i->i<=40->TxI H c i σ' H'
seal PE PT PW PA PS PSs PI PG QT PGs PO in
theorem ZBb(Z:Zs mg)(T:Tx K mg CT cs ob)(F:Fun K "_law_text" "_law_text" QPa f fd):QE P w K mg base CX0 1 f fd ["_law_cell_here"] (Qga K):=by
 refine F.ok QW (λvs H Q E h=>?_) (λap A outer s H vs Q E hr h=>?_)
 ·walk_at "n"
 obtain⟨c,rfl,q⟩:=h;refine⟨_,(Qb (Qi 1 QW.nd JW)
  (Qb (Qi 1 QW.nd (Ql XC (pv 1) JW))
  (Qb (Qi 2 QW.nd (Ql QO (Ql Zk (Ql Jz (Ql QO (pv 0) Qd) Qd) Qd) Qd))
  (Qb (Qi 3 QW.nd (Ql Zk Qd (Ql QO (pv 2) Qd)))
  (Qb (QK (Qq ZJ (Ql QO (Ql QL (pv 2) Qd) Qd) Qd (Qu _)) (Qg (Qi 3 QW.nd (Ql Zk Qd (Ql QO (Ql QL (pv 2) Qd) Qd)))) Qw)
  (Qb (Qi 4 QW.nd (Ql QO (Ql QL (pv 2) Qd) (pv 3)))
  (Qb (Qi 5 QW.nd (Yva ZJ (Ql QO (Ql QL (pv 2) Qd) Qd) Qd (Qu _)))
  (Qb (Qi 6 QW.nd JW)
  (Qb (Jm Da rfl (Qlb rfl (Z.range) (Qh (pv 3) Qe)) (ZF (i:=7) QW.nd rfl (OB rfl)) (Qb (Qi 2 QW.nd (Ql QO (Ql Zk (Ql Jz (pv 2) Qd) Qd) Qd))
  (Qg (QK (PW.pt (JIa (Qwa (pv 5) (λ_=>rfl)) (Zea (Qq YSa (pv 7) (pv 4) (Qu _))))) (Qg (Qi 6 QW.nd (Ql XC (pv 6) JW))) (Qg (Qi 6 QW.nd (Ql XC (pv 6) (QA XKc (pv 1) (Ql QO (pv 2) Qd) (λ_ _=>rfl)))))))))
  (Qg (Qo (pv 6)))))))))))),?_⟩
 refine Qm (σ:=[Vo (.int c),Vp,Vp,Vp,Vp,Vp,Vp,Vp]) rfl ?_
 walk_at "rd";refine⟨by decide,?_⟩
 walk_at "go";refine ZL (λ_=>?_) λ_=>?_
 all_goals
  walk_at "go";refine JLa (λi σ' H'=>TxI H c i σ' H') ⟨rfl,_,_,_,_,_,_,rfl,by lia,by lia,rfl,by decide⟩ ?_ ?_
  ·rintro i σ' H' hi ⟨rfl,m,z,x,many,aF,plain,rfl,h1,h2,h3,h4⟩
   walk_at "rd";refine⟨by walk_at "side",?_⟩
   have iS:i+1<=40:=by lia
   have sg:∃ x,atI (Ll " !\"#$&'()*+,-./0123456789:;<=>?@ABCDEFGHIJKLMNOPQRSTUVWXYZ[\\]^_`"++Ll "abcdefghijklmnopqrstuvwxyz{|}~").cps.toList ((m * 48271+12345) % 2147483629 % 94)=Vo x:=YMc #[0] (by rw[QNc];lia)
   have lz:∀ y:Str,y.length=1->z.length+y.length<=Vs/\(z++y).length=i+1:=λy hy=>⟨by rw[hy];exact VL (QD #[0]),by rw[strLen_append,hy,h3]⟩
   have one:∀ x:Nat,z.length+({ cps:=#[x] }:Str).length<=Vs/\(z++({ cps:=#[x] }:Str)).length=i+1:=λx=>lz _ rfl
   obtain⟨x,hx⟩:=sg;refine ZL (λ_=>ZL (λ_=>?_) λ_=>?_) λ_=>?_
   ·exact⟨(lz _ rfl).1,rfl,_,_,_,_,_,_,rfl,by lia,by lia,(lz _ rfl).2,iS⟩
   ·exact⟨by decide,x,hx,(one x).1,rfl,_,_,_,_,_,_,rfl,by lia,by lia,(one x).2,iS⟩
   ·exact⟨by decide,x,hx,(one x).1,rfl,_,_,_,_,_,_,rfl,by lia,by lia,(one x).2,iS⟩
  ·rintro σ' H' ⟨rfl,m,z,x,many,aF,plain,rfl,h1,h2,h3,h4⟩
   exact q z #[0]
inductive Qha(aD:VD)(vs:List V)(H:Hp)(Q:VK)(E:XK):Prop
 | mk:∀ c:Int,vs=[.int c]->(∀ i,0<=i->i < 2147483647->Q (.int i) H)->Qha aD vs H Q E
seal PE PT PW PA PS PSs PI PG QT PGs PO in
theorem ZCb(Z:Zs mg)(T:Tx K mg CT cs ob)(F:Fun K "_law_tall" "_law_tall" QQa f fd):QE P w K mg base CX0 1 f fd ["_law_cell_here"] (Qha K):=by
 refine F.ok XW (λvs H Q E h=>?_) (λap A outer s H vs Q E hr h=>?_)
 ·walk_at "n"
 obtain⟨c,rfl,q⟩:=h;refine⟨_,(Qb (Qi 1 XW.nd (Ql XHc (Ql QO (Ql QL (pv 0) Qd) Qd) (Ql Jz Qd (Ql QO (pv 0) Qd))))
  (Qb (Qi 2 XW.nd (Ql Q1c (pv 1) (Ql Ycb (pv 1) Qd)))
  (Qg (Qo (Ql QO (Ql Jz (Ql Jx (pv 2) Qd) Qd) Qd))))),?_⟩
 refine Qm (σ:=[Vo (.int c),Vp,Vp]) rfl ?_
 walk_at "rd";walk_at "go";exact q _ (Dm _ #[1]) (Int.emod_lt_of_pos _ #[1])
theorem YVc{i a b:Int}(h0:0<=i)(h1:i < 2147483647)(ha:a=0\/a=1)(hb:0<=b/\b < 10 ^ 19):Q6 (.int (i - a * 2147483647 * b)):=by
 show _/\_
 rcases ha with rfl | rfl <;> lia
inductive Y6(aD:VD)(vs:List V)(H:Hp)(Q:VK)(E:XK):Prop
 | mk:∀ c:Int,vs=[.int c]->(∀ v,Q6 v->Q v H)->Y6 aD vs H Q E
seal PE PT PW PA PS PSs PI PG QT PGs PO in
theorem JOb(Z:Zs mg)(T:Tx K mg CT cs ob)(JPb:Cal P w K mg base 1 "_law_text" ["_law_cell_here"] (Qga K))(JQb:Cal P w K mg base 1 "_law_tall" ["_law_cell_here"] (Qha K))(F:Fun K "_law_key" "_law_key" ZXa f fd):QE P w K mg base CX0 2 f fd ["_law_cell_here"] (Y6 K):=by
 refine F.ok Yha (λvs H Q E h=>?_) (λap A outer s H vs Q E hr h=>?_)
 ·walk_at "n"
 obtain⟨c,rfl,q⟩:=h;refine⟨_,(Qb (Qi 1 Yha.nd (Ql QO (pv 0) Qd))
  (Qb (QK (Qq ZJ (pv 1) Qd (Qu _)) (Qg (Qo (Ql Jx (Ql QO (Ql QL (pv 0) Qd) (Ql Jx (Ql Jz Qd (Ql YRa Qd Qd)) Qd)) (Ql Jx (Ql YRa Qd Qd) Qd)))) Qw)
  (Qb (QK (Qq ZJ (pv 1) Qd (Qu _)) (Qg (Qo (Ql Jx (Ql QO (Ql QL (pv 0) Qd) Qd) Qd))) Qw)
  (Qb (QK (Qq ZJ (pv 1) Qd (Qu _)) (Qg (Qo (Qr JPb hr (Qh (Ql QL (pv 0) Qd) Qe)))) Qw)
  (Qg (Qo (Ql Jx (Qr JQb hr (Qh (Ql QL (pv 0) Qd) Qe)) (Ql Jz (Ql Jz (Ql Jx (pv 1) Qd) Qd) (Ql QO (Ql QL (pv 0) Qd) (Ql YRa Qd Qd)))))))))),?_⟩
 refine Qm (σ:=[Vo (.int c),Vp]) rfl ?_
 walk_at "rd";walk_at "go";refine ZL (λ_=>?_) λ_=>ZL (λ_=>?_) λ_=>ZL (λ_=>?_) λ_=>?_
 ·walk_at "go"
  exact q _ (show _/\_ by lia)
 ·walk_at "go"
  exact q _ (show _/\_ by lia)
 ·walk_at "go"
  exact⟨_,rfl,λz hz=>q _ (show _<=_ by lia)⟩
 ·walk_at "go"
  refine⟨_,rfl,λi h0 h1=>?_⟩
  walk_at "rd";walk_at "go";exact q _ (YVc h0 h1 #[0] #[0])
theorem YXb:∀ n:Fin 1000,(Ll (toString ((n.val:Nat):Int))).length<=10:=by decide +kernel
theorem QOc(h:0<=c/\c < 1000):(Ll "x ").length+(Ll (toString c)).length<=Vs:=by
 obtain⟨n,rfl⟩:=Int.eq_ofNat_of_zero_le h.1;have:=YXb ⟨n,by lia⟩
 have e:(Ll "x ").length=2:=by decide
 rw[e];exact VL (QD (by simp only at this;lia))
inductive Yb(K:VD)(vs:List V)(H:Hp)(Q:VK)(E:XK):Prop
 | mk:∀ (c:Int),vs=[.int c]->(∀ r H',Qn H H'->FzH H' 4 (.ref r)->Q (.ref r) H')->Yb K vs H Q E
seal PE PT PW PA PS PSs PI PG QT PGs PO in
theorem Qeb(Z:Zs mg)(T:Tx K mg CT cs ob)(F:Fun K "_law_cells" "_law_cells" XX f fd):QE P w K mg base CX0 1 f fd ["_law_cell_here"] (Yb K):=by
 refine F.ok ZFa (λvs H Q E h=>?_) (λap A outer s H vs Q E hr h=>?_)
 ·walk_at "n"
 obtain⟨c,rfl,q⟩:=h;refine⟨_,(Qb (Qi 1 ZFa.nd (ZA Qe))
  (Qb (QK (Qq ZJ (Ql QO (pv 0) Qd) Qd (Qu _)) (Qg (Zh (Qza Dc Dd De ZS (pv 1) (Qh (ZM (Qh JW (Qh (Ql Jx (Ql QO (Ql QL (pv 0) Qd) Qd) Qd) Qe))) Qe)))) Qw)
  (Qb (QK (Qq ZJ (Ql QO (Ql QL (pv 0) Qd) Qd) Qd (Qu _)) (Qg (Zh (Qza Dc Dd De ZS (pv 1) (Qh (ZM (Qh JW (Qh (Ql XC JW (QS QTb rfl (Z.str) QXb (Qh (Ql QO (Ql QL (pv 0) Qd) Qd) Qe))) Qe))) Qe)))) Qw)
  (Qb (QK (Qq ZJ (Ql QO (Ql QL (pv 0) Qd) Qd) Qd (Qu _)) (Qg (Zh (Qza Dc Dd De ZS (pv 1) (Qh (ZM (Qh JW (Qh (ZM (Qh Zz (Qh (ZM (Qh (Ql QO (Ql QL (pv 0) Qd) Qd) (Qh JW Qe))) Qe))) Qe))) Qe)))) Qw)
  (Qg (Qo (QS Zza rfl (Z.tuple) Z5b (Qh (pv 1) Qe)))))))),?_⟩
 refine Qm (σ:=[Vo (.int c),Vp]) rfl ?_
 refine Zla λR hR=>?_
 have f1:∀ p H1 xs,JT H 3 p H1 xs->xs.length<=1->R [Vo (.int c),Vo (.ref p)] H1:=by
  intro p H1 xs c1 l1;refine hR _ _ (YDa λR2 jv=>?_)
  have f2:∀ H1 xs,JT H 3 p H1 xs->xs.length<=2->R2 [Vo (.int c),Vo (.ref p)] H1:=by
   intro H1 xs c2 l2;refine jv _ _ (YDa λR3 lH=>?_)
   have f3:∀ H1 xs,JT H 3 p H1 xs->R3 [Vo (.int c),Vo (.ref p)] H1:=by
    intro H1 xs c3;refine lH _ _ ?_
    walk_at "rd";exact⟨_,.inl ⟨SqL.of c3.at_,λr hr=>q r _ ((c3.same).trans (Qf hr _)) (.t Qa λx hx=>(c3.fz x hx).same (Qf hr _))⟩⟩
   clear lH jv;walk_at "rd";refine⟨by walk_at "side",ZL (λ_=>?_) λ_=>?_⟩
   ·refine⟨.inl ⟨rfl,_,SqL.of c2.at_⟩,by walk_at "side",JA,λpa ha=>⟨JA,λpb hb=>⟨JA,λpc hc=>⟨_,Qf hc _ _ _ (Qf hb _ _ _ (Qf ha _ _ _ c2.at_)),QD #[0],?_⟩⟩⟩⟩
    exact f3 _ _ (JT.nest (n:=0) (.str (Ll "zz")) .non (.int (c / 24 % 90)) (.str (Ll "x")) c2 ha hb hc)
   ·exact f3 _ _ c2
  clear jv hR;walk_at "rd";refine⟨by walk_at "side",ZL (λ_=>?_) λ_=>?_⟩
  ·refine⟨.inl ⟨rfl,_,SqL.of c1.at_⟩,by walk_at "side",X4c #[0],QOc #[0],JA,λp1 bd=>⟨_,Qf bd _ _ _ c1.at_,QD #[0],?_⟩⟩
   exact f2 _ _ (JT.pair (.str (Ll "b")) (.str (Ll "x "++Ll (toString (c / 6 % 1000)))) c1 bd) (by simp;lia)
  ·exact f2 _ _ c1 #[0]
 clear hR;walk_at "rd";refine⟨by decide,λp hp=>?_⟩
 have c0:=JT.start (n:=3) hp;refine ZL (λ_=>?_) λ_=>?_
 ·refine⟨.inl ⟨rfl,_,SqL.of c0.at_⟩,by walk_at "side",JA,λp0 kE=>⟨_,Qf kE _ _ _ c0.at_,QD #[2],?_⟩⟩
  exact f1 _ _ _ (JT.pair (.str (Ll "ab")) (.int (c / 2 % 2000 - 1000)) c0 kE) #[2]
 ·exact f1 _ _ _ c0 #[2]
theorem QBa(h:Q6 v):∃ k:Key,v=kV k:=by
 cases v with
 | int n=>exact⟨.inl n,rfl⟩
 | str z=>exact⟨.inr z,rfl⟩
 | _=>exact h.elim
theorem QIb(h:Q6 v):Pl.Q1 v:=by
 cases v with
 | int n=>exact h
 | str z=>exact h
 | _=>exact h.elim
theorem YYb{k:Key}(h:(ae.map Do).Nodup):((JY ae k v).map Do).Nodup:=by
 unfold JY
 split
 ·rw[map_map]
  have e:ae.map (Do ∘ λq=>if q.1=k then (q.1,v) else q)=ae.map Do:=map_congr_left λq _=>by
   show(if q.1=k then (q.1,v) else q).1=q.1
   split <;> rfl
  rw[e];exact h
 ·rename_i hn
  rw[LM,Db];refine⟨h,by simp,λa ha b hb=>?_⟩
  have hb:b=k:=by simpa using hb
  subst hb;intro z;subst z;obtain⟨q,hq,e⟩:=mem_map.mp ha;exact hn (any_eq_true.mpr ⟨q,hq,decide_eq_true e⟩)
theorem J7a{a b:Key}(h:kV a=kV b):a=b:=by
 cases a <;> cases b <;> cases h <;> rfl
def J8a:V->Bool | .int _=>true | _=>false
def J9a:V->Bool | .str _=>true | _=>false
theorem YZb{l:List V}(h:∀ v∈l,Q6 v):(l.filter J8a++l.filter J9a).Perm l:=by
 have e:l.filter J9a=l.filter (λv=>!J8a v):=filter_congr λv hv=>by
  have:=h v hv;cases v <;> first | rfl | exact this.elim
 rw[e];exact filter_append_perm _ _
theorem JRb{K:VD}:UP K (.type "int") (.type "int")=Vo true:=by rfl
theorem JSb{K:VD}:UP K (.type "str") (.type "int")=Vo false:=by rfl
theorem QPc{K:VD}{k:Key}(q:Q (.bl (J8a (kV k))) H):Qbc K [kV k,.ty "int"] H Q:=by
 cases k with
 | inl n=>exact QEa (.int n) JRb q
 | inr z=>exact QEa (.str z) JSb q
theorem QQc{K:VD}{k:Key}(q:Q (.bl (J9a (kV k))) H):Qbc K [kV k,.ty "str"] H Q:=by
 cases k with
 | inl n=>exact QEa (.int n) QYa q
 | inr z=>exact QEa (.str z) QZa q
theorem XKa{H2:Hp}{d:Vh}{x y:HO}(n:H1 d=Vo y)(s2:Qn (upd H1 d x) H2):Qn H1 (upd H2 d y):=λb o hb=>by
 by_cases z:b=d
 ·subst z;rw[n]at hb;rw[Qa,hb]
 ·rw[Qk z];exact s2 b o (by rw[Qk z];exact hb)
theorem Xqc{ys:List V}(hk:∀ v∈ys,Q6 v)(ho:(∀ v∈ys,∃ n,v=.int n)\/∀ v∈ys,∃ z,v=.str z)(nd:ys.Nodup)(h:ys.Pairwise λa b=>ltP b a=false):ys.Pairwise λa b=>Pl.ltV a b=true:=by
 refine List.Pairwise.imp_of_mem (λ{a b} ha hb eY=>?_) (h.and nd)
 obtain⟨h1,h2⟩:=eY;have e:Pl.ltV b a=false:=by
  rcases ho with ho | ho
  ·obtain⟨x,rfl⟩:=ho a ha
   obtain⟨y,rfl⟩:=ho b hb;rw[Pl.Xsb];exact h1
  ·obtain⟨x,rfl⟩:=ho a ha
   obtain⟨y,rfl⟩:=ho b hb;rw[Pl.Xtb];exact h1
 cases e2:Pl.ltV a b with
 | true=>rfl
 | false=>exact(h2 (Pl.tri (QIb (hk a ha)) (QIb (hk b hb)) e2 e)).elim
structure Y0b(H:Hp)(ae:List (Key×V))(ks xs:List V):Prop where
 len:xs.length=ks.length
 at_:∀ (i:Nat) x,xs[i]?=Vo x->∃ a k v,x=.ref a/\ks[i]?=Vo (kV k)/\H a=Vo (.tup [kV k,v])/\(k,v)∈ae
 up:ks.Pairwise λa b=>Pl.ltV a b=true
 perm:ks.Perm (ae.map λp=>kV p.1)
theorem JKc{k:Key}{w':V}(h:(k,w')∈ae):∃ w,ZB ae k=Vo w/\(k,w)∈ae:=by
 unfold ZB;cases e:ae.find? λkv=>decide (kv.1=k) with
 | none =>
  have:=find?_eq_none.mp e _ h
  simp at this
 | some p =>
  have h1:=find?_some e
  have h2:=mem_of_find?_eq_some e
  have h1:p.1=k:=by simpa using h1
  exact⟨p.2,rfl,by rw[<- h1];exact h2⟩
inductive ZI(K:VD)(vs:List V)(H:Hp)(Q:VK)(E:XK):Prop
 | mk:∀ d ae,vs=[.ref d]->H d=Vo (.dK ae)->ae.length<=400->(∀ p∈ae,Q6 (kV p.1))->(ae.map Do).Nodup->(∀ r H' xs ks,Qn H H'->H r=Vp->H' r=Vo (.lst xs)->Y0b H' ae ks xs->Q (.ref r) H')->ZI K vs H Q E
seal PE PT PW PA PS PSs PI PG QT PGs PO in
theorem Qfb(Z:Zs mg)(T:Tx K mg CT cs ob)(F:Fun K "_law_risen" "_law_risen" Je f fd):QE P w K mg base CX0 1 f fd ["_law_known"] (ZI K):=by
 refine F.ok Xg (λvs H Q E h=>?_) (λap A outer s H vs Q E hr h=>?_)
 ·walk_at "n"
 obtain⟨d,ae,rfl,g1,l1,k1,nd1,q⟩:=h;refine⟨_,(Qb (Qi 1 Xg.nd (Q5 XH rfl (Z.sorted) Zfa (Qh (Xyb (YJ ["_law_known","_law_numbers","_law_texts"] rfl (Yga (N:=["_law_known","_law_numbers","_law_texts"]) (dsc:=Qj Je) rfl rfl (by decide +kernel)) (Xxb (pv 0)) (λ_ _ _ _ _=>(QWb (Qwa (Q5 (r:=Qbc K) Y1 rfl (Z.isinstance) J3 (Qh (pv 0) (Qh (Yua rfl (Z.int) XWc (v:=.ty "int") rfl) Qe))) (λ_=>rfl)))) (λ_ _ _ _ _=>(pv 0)))) Qe)))
  (Qb (Qi 2 Xg.nd (Q5 XH rfl (Z.sorted) Zfa (Qh (Xyb (YJ ["_law_known","_law_numbers","_law_texts"] rfl (Yga (N:=["_law_known","_law_numbers","_law_texts"]) (dsc:=Qj Je) rfl rfl (by decide +kernel)) (Xxb (pv 0)) (λ_ _ _ _ _=>(QWb (Qwa (Q5 (r:=Qbc K) Y1 rfl (Z.isinstance) J3 (Qh (pv 0) (Qh (Yua rfl (Z.str) QXb (v:=.ty "str") rfl) Qe))) (λ_=>rfl)))) (λ_ _ _ _ _=>(pv 0)))) Qe)))
  (Qg (Qo (YJ ["_law_known","_law_numbers","_law_texts"] rfl (Yga (N:=["_law_known","_law_numbers","_law_texts"]) (dsc:=Qj Je) rfl rfl (by decide +kernel)) (ZZ (Ql ZH (pv 1) (pv 2))) (λ_ _ _ _ _=>Jga) (λ_ _ _ _ _=>(ZM (Qh (pv 0) (Qh (Xkb hr.u1 (pv 1) (pv 0) (λ_ _=>rfl)) Qe))))))))),?_⟩
 refine Qm (σ:=[Vo (.ref d),Vp,Vp]) rfl ?_
 walk_at "rd";have kl:∀ v∈ae.map λq=>kV q.1,Q6 v:=λv hv=>by
  obtain⟨r,hr,rfl⟩:=mem_map.mp hv;exact k1 r hr
 have vV:(ae.map λq=>kV q.1).Nodup:=by
  have:=List.Pairwise.map (S:=(·≠·)) kV (λa b h e=>h (J7a e)) nd1
  rw[map_map]at this;exact this
 refine⟨ae,g1,λob nf=>Jlb J8a (Ja #[0]) Qa (λk v H3 R hm s3 hR=>?_) λD H2 hD s2 hy=>?_⟩
 ·walk_at "rd"
  exact QPc ⟨_,rfl,hR _ (Qn.refl _)⟩
 have dD:D≠d:=λz=>by rw[z,Qa]at hD;cases hD
 have lf:∀ p:V->Bool,((ae.map λq=>kV q.1).filter p).length<=400:=λp=>VJ (OI _ _) (by rw[UJ];lia)
 have kf:∀ p:V->Bool,∀ v∈(ae.map λq=>kV q.1).filter p,Q6 v/\p v=true:=λp v hv=>by
  obtain⟨h1,h2⟩:=mem_filter.mp hv;exact⟨kl v h1,h2⟩
 have i1:∀ v∈(ae.map λq=>kV q.1).filter J8a,∃ n,v=.int n:=λv hv=>by
  have:=(kf _ v hv).2;cases v <;> first | exact⟨_,rfl⟩ | cases this
 have i2:∀ v∈(ae.map λq=>kV q.1).filter J9a,∃ n,v=.str n:=λv hv=>by
  have:=(kf _ v hv).2;cases v <;> first | exact⟨_,rfl⟩ | cases this
 have t2:Qn H (upd H2 d (.dK ae)):=XKa g1 s2;refine⟨d,nf,ob,ae,s2 _ _ Qa,D,_,ltP,rfl,SqL.of (by rw[Qk dD];exact hy),by have:=lf J8a;lia,Jkb i1,λD2 H3 ys s3 oI sD pm so=>?_⟩
 have g3:H3 d=Vo (.dK ae):=s3 _ _ Qa;have vW:D2≠d:=λz=>by rw[z,g3]at sD;cases sD
 refine⟨ae,g3,λu4 nf2=>Jlb J9a (Ja #[0]) Qa (λk v H3 R hm s3 hR=>?_) λE1 H4 hE s4 hy4=>?_⟩
 ·walk_at "rd"
  exact QQc ⟨_,rfl,hR _ (Qn.refl _)⟩
 have dE:E1≠d:=λz=>by rw[z,Qa]at hE;cases hE
 have t4:Qn H (upd H4 d (.dK ae)):=(t2.trans s3).trans (XKa g3 s4);refine⟨d,nf2,u4,ae,s4 _ _ Qa,E1,_,ltP,rfl,SqL.of (by rw[Qk dE];exact hy4),by have:=lf J9a;lia,ZWc i2,λD3 H5 zs s5 vh hy5 jw so2=>?_⟩
 have l2:ys.length<=ae.length:=by rw[pm.length_eq];exact VJ (OI _ _) (by rw[UJ];exact Um _)
 have l3:zs.length<=ae.length:=by rw[jw.length_eq];exact VJ (OI _ _) (by rw[UJ];exact Um _)
 have g5:H5 d=Vo (.dK ae):=s5 _ _ Qa;have t5:=t4.trans s5;refine⟨D2,rfl,D3,rfl,ys,s5 _ _ (by rw[Qk vW];exact s4 _ _ (by rw[Qk vW];exact sD)),zs,hy5,Ja #[0],λp hp=>?_⟩
 have bv:(ys++zs).Perm (ae.map λp=>kV p.1):=(pm.append jw).trans (YZb kl)
 have up:(ys++zs).Pairwise λa b=>Pl.ltV a b=true:=by
  rw[pairwise_append];refine⟨Xqc (λv hv=>(kf _ v (pm.mem_iff.mp hv)).1) (.inl λv hv=>i1 v (pm.mem_iff.mp hv)) (pm.nodup_iff.mpr (vV.filter _)) so,Xqc (λv hv=>(kf _ v (jw.mem_iff.mp hv)).1) (.inr λv hv=>i2 v (jw.mem_iff.mp hv)) (jw.nodup_iff.mpr (vV.filter _)) so2,λa ha b hb=>?_⟩
  obtain⟨x,rfl⟩:=i1 a (pm.mem_iff.mp ha);obtain⟨y,rfl⟩:=i2 b (jw.mem_iff.mp hb);exact Pl.ZHc _ _
 have lk:(ys++zs).length<=400:=by rw[bv.length_eq,UJ];exact l1
 generalize ys++zs=ks at bv up lk ⊢;have s6:Qn H5 (upd H5 p (.lst ks)):=Qf hp _;have g6:upd H5 p (.lst ks) p=Vo (.lst ks):=Qa;have np:H p=Vp:=by
  cases e:H p with
  | none=>rfl
  | some o=>rw[t5 _ _ e]at hp;cases hp
 generalize upd H5 p (.lst ks)=H6 at s6 g6 ⊢;refine⟨⟨_,SqL.of g6⟩,Qmc ks (λH' i v=>∃ a k w,v=.ref a/\ks[i]?=Vo (kV k)/\H' a=Vo (.tup [kV k,w])/\(k,w)∈ae) (λH H' i v st ⟨a,k,w,e1,e2,e3,e4⟩=>⟨a,k,w,e1,e2,st _ _ e3,e4⟩) (SqL.of g6) (Ja #[0]) (λi x H7 R hx s7 hR=>?_) λr H7 xs bD s7 lI le pe=>?_⟩
 ·obtain⟨⟨k,w'⟩,hm,ek⟩:=mem_map.mp (bv.mem_iff.mp (Og hx))
  obtain⟨w,hw,hmw⟩:=JKc hm;subst ek;walk_at "rd";exact⟨w,hw ▸ QCa.k (k:=k) ((s6.trans s7) _ _ g5),JA,λq1 iG=>hR _ _ ⟨q1,k,w,rfl,hx,Qa,hmw⟩ (Qf iG _)⟩
 ·refine q r H7 xs ks (t5.trans (s6.trans s7)) ?_ lI ⟨le,pe,up,bv⟩
  cases e:H r with
  | none=>rfl
  | some o=>rw[(t5.trans s6) _ _ e]at bD;cases bD
theorem Jc{d:Vh}{o:HO}(h:H d=Vo (.dK ae)):ZK H (upd H d o):=λb xs hb=>by
 rw[Qk (Yt hb h (by intro z;cases z))];exact hb
theorem JLc{s:Int}(hi : -(10 ^ 21) < s/\s < 10 ^ 21/\i < 1000):Q6 (.int (s+(0+(i:Int)) * (1+c % 5))):=by
 have h0:0<=(0+(i:Int)) * (1+c % 5):=Int.mul_nonneg #[0] #[0]
 have h1:(0+(i:Int)) * (1+c % 5)<=1000 * 5:=Int.mul_le_mul #[0] #[0] #[0] #[1]
 show _/\_
 lia
structure DkD(H:Hp)(ae:List (Key×V))(es:List Dt):Prop where
 row:∀ d∈es,Za d
 up:UpR ltK es
 nd:(ae.map Do).Nodup
 to:∀ k w,(k,w)∈ae->∃ c,TD H 5 (.t c) w/\Dt.t [.v (kV k),.t c]∈es
 of:∀ d∈es,∃ k w c,(k,w)∈ae/\d=.t [.v (kV k),.t c]/\TD H 5 (.t c) w
theorem DkD.sameT(h:DkD H ae es)(s:ZK H H'):DkD H' ae es :=
 ⟨h.row,h.up,h.nd,λk w hm=>let ⟨c,t,m⟩:=h.to k w hm;⟨c,TD.sameT s 5 t,m⟩,λd hd=>let ⟨k,w,c,a,b,t⟩:=h.of d hd;⟨k,w,c,a,b,TD.sameT s 5 t⟩⟩
theorem DkD.key(h:DkD H ae es){k:Key}{w:V}(hm:(k,w)∈ae):Q6 (kV k):=by
 obtain⟨c,_,m⟩:=h.to k w hm;exact(h.row _ m).ent.key
theorem YIa(nd:(ae.map Do).Nodup){k:Key}{w:V}(h:(k,w)∈ae):ZB ae k=Vo w:=by
 have:=Xs Do nd h;unfold ZB;rw[this];rfl
theorem ZDb{k:Key}{w:V}(h:ZB ae k=Vo w):(k,w)∈ae:=by
 unfold ZB at h;rw[Dl]at h;obtain⟨⟨k',w'⟩,h1,h2⟩:=h;have h3:=find?_some h1
 simp only[decide_eq_true_eq]at h3;dsimp only at h2;subst h2 h3;exact mem_of_find?_eq_some h1
theorem DkD.uniq(h:DkD H ae es)(h':DkD H ae aj):es=aj:=by
 have go:∀ {a b:List Dt},DkD H ae a->DkD H ae b->∀ d∈a,d∈b:=λ{a b} ha hb d hd=>by
  obtain⟨k,w,c,hm,rfl,t⟩:=ha.of d hd;obtain⟨c',t',m⟩:=hb.to k w hm;have:=TD.det 5 t t';injection this with this
  rw[this];exact m
 exact UpR.ext ltK.irr ltK.tr h.up h'.up λd=>⟨go h h' d,go h' h d⟩
theorem XPb(aS:∀ d∈es,Za d)(up:UpR ltK es)(hk:Q6 k):∃ aj,J0 ltK k row es aj:=by
 induction es with
 | nil=>exact⟨[row],[],[],rfl,.inl rfl,(λa h=>nomatch h),λa h=>nomatch h⟩
 | cons x r ih =>
  have ur:=pairwise_cons.mp up
  rcases ltK.tri (aS x #[2]).ent.key hk with z | z | z
  ·obtain⟨aj,A,C,e,e2,h1,h2⟩:=ih (λd hd=>aS d (VO _ hd)) ur.2
   refine⟨x::aj,x::A,C,by rw[e];rfl,?_,λa ha=>?_,h2⟩
   ·rcases e2 with e2 | ⟨o,e2,ho⟩
    ·exact .inl (by rw[e2];rfl)
    ·exact .inr ⟨o,by rw[e2];rfl,ho⟩
   ·rcases mem_cons.mp ha with y | y
    ·rw[y];exact z
    ·exact h1 a y
  ·exact⟨row::r,[],r,rfl,.inr ⟨x,rfl,z⟩,(λa h=>nomatch h),λc hc=>by rw[<- z];exact ur.1 c hc⟩
  ·refine⟨row::x::r,[],x::r,rfl,.inl rfl,(λa h=>nomatch h),λc hc=>?_⟩
   rcases mem_cons.mp hc with y | y
   ·rw[y];exact z
   ·exact ltK.tr z (ur.1 c y)
theorem DkD.put{k:Key}{w:V}{c:List Dt}(h:DkD H ae es)(hk:Q6 (kV k))(t:TD H 5 (.t c) w)(p:J0 ltK (kV k) (.t [.v (kV k),.t c]) es aj):DkD H (JY ae k w) aj:=by
 have mem:∀ k' w',(k',w')∈JY ae k w↔(k'=k/\w'=w)\/(k'≠k/\(k',w')∈ae):=λk' w'=>by
  unfold JY
  by_cases e:(ae.any λx=>decide (x.1=k))=true
  ·rw[if_pos e,mem_map]
   constructor
   ·rintro⟨⟨k2,w2⟩,hm,e2⟩
    dsimp only at e2
    split at e2
    ·rename_i z;injection e2 with a b;exact .inl ⟨by rw[<- a];exact z,b.symm⟩
    ·rename_i z;injection e2 with a b;subst a b;exact .inr ⟨z,hm⟩
   ·rintro(⟨rfl,rfl⟩ | ⟨ax,hm⟩)
    ·obtain⟨⟨k2,w2⟩,bN,e2⟩:=any_eq_true.mp e
     have e2:k2=k':=by simpa using e2
     exact⟨(k2,w2),bN,by dsimp only;rw[if_pos e2,e2]⟩
    ·exact⟨(k',w'),hm,by dsimp only;rw[if_neg ax]⟩
  ·rw[if_neg e,Lq,Ds]
   constructor
   ·rintro(hm | e2)
    ·refine .inr ⟨λz=>e ?_,hm⟩
     exact any_eq_true.mpr ⟨(k',w'),hm,by simpa using z⟩
    ·injection e2 with a b;exact .inl ⟨a,b⟩
   ·rintro(⟨rfl,rfl⟩ | ⟨_,hm⟩)
    ·exact .inr rfl
    ·exact .inl hm
 refine⟨λd hd=>?_,p.up h.up rfl ltK.tr,YYb h.nd,λk' w' hm=>?_,λd hd=>?_⟩
 ·rcases(p.mem ltK.irr d).mp hd with z | z
  ·rw[z];exact⟨_,c,rfl,hk⟩
  ·exact h.row d z.1
 ·rcases(mem k' w').mp hm with ⟨rfl,rfl⟩ | ⟨ax,hm⟩
  ·exact⟨c,t,(p.mem ltK.irr _).mpr (.inl rfl)⟩
  ·obtain⟨c',t',m'⟩:=h.to k' w' hm
   exact⟨c',t',(p.mem ltK.irr _).mpr (.inr ⟨m',λz=>ax (J7a z)⟩)⟩
 ·rcases(p.mem ltK.irr d).mp hd with z | ⟨z,ax⟩
  ·exact⟨k,w,c,(mem k w).mpr (.inl ⟨rfl,rfl⟩),z,t⟩
  ·obtain⟨k',w',c',hm,rfl,t'⟩:=h.of d z
   exact⟨k',w',c',(mem k' w').mpr (.inr ⟨λy=>ax (by rw[y];rfl),hm⟩),rfl,t'⟩
theorem DkD.drop{k:Key}(h:DkD H ae es)(p:XN (kV k) es aj):DkD H (Qpa ae k) aj:=by
 have mem:∀ x,x∈Qpa ae k↔x∈ae/\x.1≠k:=λx=>by
  unfold Qpa;rw[mem_filter];simp
 refine⟨λd hd=>h.row d ((p.mem h.up ltK.irr d).mp hd).1,p.up h.up,?_,λk' w' hm=>?_,λd hd=>?_⟩
 ·unfold Qpa
  exact(filter_sublist.map _).nodup h.nd
 ·obtain⟨h1,h2⟩:=(mem _).mp hm
  obtain⟨c',t',m'⟩:=h.to k' w' h1;exact⟨c',t',(p.mem h.up ltK.irr _).mpr ⟨m',λz=>h2 (J7a z)⟩⟩
 ·obtain⟨h1,ax⟩:=(p.mem h.up ltK.irr d).mp hd
  obtain⟨k',w',c',hm,rfl,t'⟩:=h.of d h1;exact⟨k',w',c',(mem _).mpr ⟨hm,λy=>ax (by rw[<- y];rfl)⟩,rfl,t'⟩
theorem Y0b.dk{ks:List V}(h:Y0b H ae ks xs)(nd:(ae.map Do).Nodup)(hk:∀ p∈ae,Q6 (kV p.1))(hc:∀ p∈ae,∃ c,TD H 5 (.t c) p.2):∃ es,DkD H ae es/\Vm (λd v=>TD H 6 d v) es xs:=by
 obtain⟨es,re,pd⟩:=TDs.of (H:=H) (n:=6) (Pd:=λd=>∃ k w c,(k,w)∈ae/\d=Dt.t [.v (kV k),.t c]/\TD H 5 (.t c) w) (xs:=xs) λx hx=>by
  obtain⟨i,hi⟩:=mem_iff_getElem?.mp hx;obtain⟨a,k,w,rfl,_,ha,hm⟩:=h.at_ i x hi;obtain⟨c,t⟩:=hc _ hm;exact⟨_,TD.pair ha (.ofV (XKb (hk _ hm))) t,k,w,c,hm,rfl,t⟩
 have le:=Vn re;have fi:∀ (i:Nat) d,es[i]?=Vo d->ks[i]?=Vo (Qv d):=λi d hd=>by
  have hi:=(List.getElem?_eq_some_iff.mp hd).1
  have hx:xs[i]?=Vo (xs[i]'#[0]):=I0 _
  obtain⟨a,k,w,ex,iA,ha,hm⟩:=h.at_ i _ hx;have tx:=Qx re hd hx;obtain⟨k',w',c,_,rfl,_⟩:=pd d (Og hd);obtain⟨a',u1,u2,ea,jm,x1,_⟩:=TD.pair_of (n:=5) tx;rw[ex]at ea;cases ea;rw[ha]at jm;cases jm;obtain⟨_,e⟩:=x1.flat;rw[iA,e];rfl
 refine⟨es,⟨λd hd=>?_,?_,nd,λk w hm=>?_,pd⟩,re⟩
 ·obtain⟨k,w,c,hm,rfl,_⟩:=pd d hd
  exact⟨kV k,c,rfl,hk _ hm⟩
 ·refine pairwise_iff_getElem.mpr λi j hi hj di=>?_
  obtain⟨li,e1⟩:=List.getElem?_eq_some_iff.mp (fi i _ (I0 hi))
  obtain⟨lj,e2⟩:=List.getElem?_eq_some_iff.mp (fi j _ (I0 hj))
  have:=pairwise_iff_getElem.mp h.up i j li lj di;rw[e1,e2]at this;have kk:∀ d∈es,Q6 (Qv d):=λd hd=>by obtain⟨k,w,c,hm,rfl,_⟩:=pd d hd;exact hk _ hm
  exact⟨kk _ (IY hi),kk _ (IY hj),this⟩
 ·have:kV k∈ks:=h.perm.mem_iff.mpr (mem_map.mpr ⟨(k,w),hm,rfl⟩)
  obtain⟨i,hi,e⟩:=mem_iff_getElem.mp this;have lx:=h.len;have hd:es[i]?=Vo (es[i]'#[0]):=I0 _
  have dZ:=fi i _ hd;rw[I0 hi,e]at dZ
  obtain⟨k',w',c,dw,ed,t⟩:=pd _ (Og hd);rw[ed]at dZ;injection dZ with dZ
  have ek:k=k':=J7a dZ;subst ek;have ew:w=w':=by have a:=YIa nd hm;rw[YIa nd dw]at a;injection a with a;exact a.symm
  subst ew;exact⟨c,t,by rw[<- ed];exact Og hd⟩
def Xy(H:Hp)(ae:List (Key×V)):Prop:=∃ es,DkD H ae es
theorem Xy.nil:Xy H []:=⟨[],λd h=>(nomatch h),.nil,.nil,λk w h=>(nomatch h),λd h=>(nomatch h)⟩
theorem JMc{r:Vh}(fz:FzH H 4 (.ref r)):∃ cd,TD H 4 (.t cd) (.ref r):=by
 obtain⟨d,td⟩:=fz.td;cases d with
 | v z=>obtain⟨hz,e⟩:=td.flat;rw[<- e]at hz;cases hz
 | l ds=>cases td.h
 | t cd=>exact⟨cd,td⟩
theorem Xy.put{k:Key}{r:Vh}(h:Xy H ae)(s:ZK H H')(hk:Q6 (kV k))(hv:FzH H' 4 (.ref r)):Xy H' (JY ae k (.ref r)):=by
 obtain⟨es,dk⟩:=h;have cE:=dk.sameT s;obtain⟨cd,tc⟩:=JMc hv;obtain⟨aj,pr⟩:=XPb (row:=.t [.v (kV k),.t cd]) cE.row cE.up hk;exact⟨aj,DkD.put cE hk (TD.mono 4 #[1] tc) pr⟩
inductive Qia(K:VD)(vs:List V)(H:Hp)(Q:VK)(E:XK):Prop
 | mk:∀ (a:Vh) (ns:List Int),vs=[.ref a]->SqL K H a (ns.map V.int)->ns.length<=63->(∀ r H' xs es,Qn H H'->H r=Vp->H' r=Vo (.lst xs)->Vm (λd v=>TD H' 6 d v) es xs->(∀ d∈es,Za d)->UpR ltK es->es.length<=91->Q (.ref r) H')->Qia K vs H Q E
seal PE PT PW PA PS PSs PI PG QT PGs PO in
theorem ZEb(Z:Zs mg)(T:Tx K mg CT cs ob)(JP:Cal P w K mg base 1 "_law_risen" ["_law_known"] (ZI K))(Zq:Cal P w K mg base 1 "_law_cell" ["_law_script","_law_k"] (JO K))(JQ:Cal P w K mg base 1 "_law_cells" ["_law_cell_here"] (Yb K))(sE:Cal P w K mg base 2 "_law_key" ["_law_cell_here"] (Y6 K))(F:Fun K "_law_rows" "_law_rows" QUa f fd):QE P w K mg base CX0 3 f fd ["_law_script"] (Qia K):=by
 refine F.ok JD (λvs H Q E h=>?_) (λap A outer s H vs Q E hr h=>?_)
 ·walk_at "n"
 obtain⟨a,ns,rfl,hS,jx,q⟩:=h;refine⟨_,(Qb (Qi 1 JD.nd YZa)
  (Qb (QK (Qq ZJ (Ql QO (Qr Zq hr (Qh (pv 0) (Qh Qd Qe))) Qd) Qd (Qu _)) (Qb (Qi 2 JD.nd (Ql Jx (Ql QO (Qr Zq hr (Qh (pv 0) (Qh Qd Qe))) (Ql YRa Qd Qd)) (Ql YRa Qd Qd)))
  (Qg (Jm Da rfl (Qlb rfl (Z.range) (Qh (Ql QO (Qr Zq hr (Qh (pv 0) (Qh Qd Qe))) Qd) Qe)) (ZF (i:=3) JD.nd rfl (OB rfl)) (Qg (XE hr.u1 (pv 1) (Ql Zk (pv 2) (Ql Jz (pv 3) (Ql Zk Qd (Ql QO (Qr Zq hr (Qh (pv 0) (Qh Qd Qe))) Qd)))) (Qr JQ hr (Qh (Ql Zk (pv 2) (Ql Jz (pv 3) Qd)) Qe)) rfl))))) (Qg (Jm Da rfl (ZZ (QP Q7 (pv 0) (QY Qd) (QY Qd))) (ZF (i:=4) JD.nd rfl (OB rfl)) (Qg (XE hr.u1 (pv 1) (Qr sE hr (Qh (pv 4) Qe)) (Qr JQ hr (Qh (Ql QL (pv 4) Qd) Qe)) rfl)))))
  (Qg (Qo (Qr JP hr (Qh (pv 1) Qe)))))),?_⟩
 refine Qm (σ:=[Vo (.ref a),Vp,Vp,Vp,Vp]) rfl ?_
 walk_at "rd";intro d gM;have s0:Qn H (upd H d (.dK [])):=Qf gM _;have g0:upd H d (.dK []) d=Vo (.dK []):=Qa;generalize upd H d (.dK [])=H0 at s0 g0 ⊢;have fin:∀ (H1:Hp) (ae:List (Key×V)),Qn H H1->H1 d=Vo (.dK ae)->ae.length<=91->Xy H1 ae->ZI K [.ref d] H1 Q E0:=λH1 ae s1 g1 l1 ⟨es,dk⟩=>⟨d,ae,rfl,g1,by lia,λp hp=>dk.key (w:=p.2) hp,dk.nd,λr H' xs ks s2 bD hr ra=>?_⟩
 ·refine⟨a,ns,0,rfl,s0.seq hS,jx,λc0=>⟨_,rfl,?_⟩⟩
  refine ZL (λ_=>?_) λ_=>?_
  ·refine⟨a,ns,1,rfl,s0.seq hS,jx,λc1=>⟨by walk_at "side",_,rfl,by decide,by walk_at "side",?_⟩⟩
   refine⟨a,ns,2,rfl,s0.seq hS,jx,λc2=>⟨_,rfl,by lia,by lia,?_⟩⟩
   refine JLa (λi σ' H'=>∃ (ae:List (Key×V)) (x3:Option V),σ'=[Vo (.ref a),Vo (.ref d),Vo (.int (c1 % 10 ^ 20 - 10 ^ 10)),x3,Vp]/\Qn H H'/\H' d=Vo (.dK ae)/\ae.length<=i/\Xy H' ae) ⟨[],_,rfl,s0,g0,Us _,Xy.nil⟩ ?_ ?_
   ·rintro i σ' H' hi ⟨ae,x3,rfl,s1,g1,l1,k1⟩
    walk_at "rd";refine⟨by walk_at "side",_,rfl,λr H2 s2 fz=>?_⟩
    have g2:=s2 _ _ g1;refine⟨a,ns,1,rfl,s2.seq (s1.seq hS),jx,λc3=>⟨_,rfl,by walk_at "side",_,YYa.k (k:=.inl _) g2 (QD #[0]),Jd (s1.trans s2) gM,_,Qa,VJ (ZG _ _ _) #[0],?_⟩⟩
    exact k1.put (s2.t.trans (Jc g2)) (JLc #[0]) (fz.sameT (Jc g2))
   ·rintro σ' H1 ⟨ae,x3,rfl,s1,g1,l1,k1⟩
    walk_at "rd";exact fin H1 ae s1 g1 #[0] k1
  ·refine⟨_,s0.seq hS,λp hp=>?_⟩
   obtain⟨ms,em,lm,hm⟩:=Z7b V.int ns (Vo 3) (Vo 43);rw[em];have lJ:Qn H (upd H0 p (.lst (ms.map V.int))):=s0.trans (Qf hp _);have lK:upd H0 p (.lst (ms.map V.int)) d=Vo (.dK []):=Qf hp _ _ _ g0;have gp:upd H0 p (.lst (ms.map V.int)) p=Vo (.lst (ms.map V.int)):=Qa;have dp:p≠d:=λz=>by rw[z,g0]at hp;cases hp
   generalize upd H0 p (.lst (ms.map V.int))=H00 at lJ lK gp ⊢;refine⟨⟨_,SqL.of gp⟩,?_⟩
   refine Z8 (ms.map V.int) (λi σ' H'=>∃ (ae:List (Key×V)) (x4:Option V),σ'=[Vo (.ref a),Vo (.ref d),Vp,Vp,x4]/\Qn H H'/\H' p=Vo (.lst (ms.map V.int))/\H' d=Vo (.dK ae)/\ae.length<=i/\Xy H' ae) ⟨[],_,rfl,lJ,gp,lK,Us _,Xy.nil⟩ (λi σ' H' _ ⟨_,_,_,_,h,_⟩=>SqL.of h) ?_ ?_
   ·rintro i x σ' H' hx ⟨ae,x4,rfl,s1,gN,g1,l1,k1⟩
    have hi:i < 63:=by
     have:=(List.getElem?_eq_some_iff.mp hx).1
     rw[UJ]at this
     lia
    rw[Oe]at hx
    obtain⟨n,_,rfl⟩:=Option.map_eq_some_iff.mp hx;walk_at "rd";refine⟨by walk_at "side",_,rfl,λr H2 s2 fz=>⟨n,rfl,λy hy=>?_⟩⟩
    have g2:=s2 _ _ g1;obtain⟨k,rfl⟩:=QBa hy;refine⟨_,YYa.k g2 (QD #[0]),Jd (s1.trans s2) gM,by rw[Qk dp];exact s2 _ _ gN,_,Qa,VJ (ZG _ _ _) #[0],?_⟩
    exact k1.put (s2.t.trans (Jc g2)) hy (fz.sameT (Jc g2))
   ·rintro σ' H1 ⟨ae,x4,rfl,s1,gN,g1,l1,k1⟩
    rw[UJ]at l1;walk_at "rd";exact fin H1 ae s1 g1 #[0] k1
 ·obtain⟨oX,iT,eD⟩:=ra.dk dk.nd (λq hq=>dk.key (w:=q.2) hq) λq hq=>by obtain⟨c,t,_⟩:=dk.to q.1 q.2 hq;exact⟨c,t.same s2⟩
  have oV:=Vn eD;have lks:ks.length=ae.length:=by rw[ra.perm.length_eq,UJ]
  have gG:=ra.len;refine q r H' xs oX (s1.trans s2) ?_ hr eD iT.row iT.up #[0]
  cases e:H r with
  | none=>rfl
  | some o=>rw[s1 _ _ e]at bD;cases bD
theorem QH.sc(h:QH st es v):v=.non\/∃ n,v=.int n:=by
 rcases h with ⟨_,h⟩ | ⟨_,_,_,_,n,_,_,_,h⟩
 ·exact .inl h
 ·exact .inr ⟨n,h⟩
theorem QH.det{v':V}(f:Fn (Qs st))(h:QH st es v)(h':QH st es v'):v=v':=by
 rcases h with ⟨a,b⟩ | ⟨a,top,L,k,n,_,c,e,b⟩
 ·rcases h' with ⟨_,b'⟩ | ⟨a',_⟩
  ·rw[b,b']
  ·exact absurd a a'
 ·rcases h' with ⟨a',_⟩ | ⟨_,cu,L',k',n',_,c',e',b'⟩
  ·exact absurd a' a
  ·obtain⟨et,eL⟩:=c.det f c'
   subst et;have:=eL (top+1) (Um _);rw[e,e']at this;injection this with this
   rw[b,b',(Joa this).2]
theorem QH.mono{ag:StL}(h:QH st es v)(s:∀ x∈Qs st,x∈Qs ag):QH ag es v:=by
 rcases h with h | ⟨a,top,L,k,n,b,c,d⟩
 ·exact .inl h
 ·exact .inr ⟨a,top,L,k,n,b,c.mono s,d⟩
theorem ZFb(h:Q6 k):∃ kk:Key,k=kV kk:=by
 cases k with
 | int n=>exact⟨.inl n,rfl⟩
 | str z=>exact⟨.inr z,rfl⟩
 | _=>exact h.elim
theorem JNc{k:Key}(h:k∉ae.map Do):ZB ae k=Vp:=by
 cases e:ZB ae k with
 | none=>rfl
 | some w=>exact(h (mem_map.mpr ⟨_,ZDb e,rfl⟩)).elim
theorem Qja(nd:(ae.map Do).Nodup):Y9 [] ae=ae:=by
 suffices h:∀ (r p:List (Key×V)),((p++r).map Do).Nodup->Y9 p r=p++r by exact h ae [] (by simpa using nd)
 intro r
 induction r with
 | nil=>intro p _;simp[Y9]
 | cons x r ih =>
  intro p nd;have e:p++x::r=(p++[x])++r:=by simp
  have hx:x.1∉p.map Do:=by
   rw[LM,UH]at nd;intro h;exact(nodup_append.mp nd).2.2 x.1 h x.1 #[2] rfl
  show Y9 (JY p x.1 x.2) r=_;rw[Z0b _ (JNc hx),e];rw[e]at nd;exact ih _ nd
theorem Zaa:∀ {es:List Dt} {xs:List V},Vm (λd v=>TD H 6 d v) es xs->(∀ d∈es,Za d)->∃ ae:List (Key×V),Vm (λ(kv:Key×V) y=>∃ t,y=.ref t/\H t=Vo (.tup [kV kv.1,kv.2])) ae xs/\Vm (λd (kv:Key×V)=>∃ c,d=.t [.v (kV kv.1),.t c]/\TD H 5 (.t c) kv.2) es ae
 | _,_,.nil,_=>⟨[],.nil,.nil⟩
 | _,_,.cons (a:=d) (b:=x) r t,h=>by
  obtain⟨ae,p1,p2⟩:=Zaa t λd hd=>h d (VO _ hd)
  obtain⟨k,c,ed,hk⟩:=h d VN;rw[ed]at r;obtain⟨b,v1,v2,eb,hb,w1,w2⟩:=TD.pair_of r;obtain⟨_,rfl⟩:=w1.flat;obtain⟨kk,ek⟩:=ZFb hk;subst ek;exact⟨(kk,v2)::ae,.cons ⟨b,eb,hb⟩ p1,.cons ⟨c,ed,w2⟩ p2⟩
abbrev QJb(H:Hp)(d:Dt)(kv:Key×V):Prop:=∃ c,d=.t [.v (kV kv.1),.t c]/\TD H 5 (.t c) kv.2
theorem XLa(p:Vm (QJb H) es ae)(up:UpR ltK es):(ae.map Do).Nodup:=by
 rw[List.Nodup,Di];have l:=Vn p;refine pairwise_iff_getElem.mpr λi j hi hj di e=>?_
 have h:=pairwise_iff_getElem.mp up i j #[0] #[0] di
 obtain⟨c1,e1,_⟩:=Qx p (I0 #[0]) (I0 hi)
 obtain⟨c2,e2,_⟩:=Qx p (I0 #[0]) (I0 hj)
 rw[e1,e2,show Qv (.t [.v (kV ae[i].1),.t c1])=kV ae[i].1 from rfl,show Qv (.t [.v (kV ae[j].1),.t c2])=kV ae[j].1 from rfl,e]at h
 exact ltK.irr _ h
theorem YJa(p:Vm (QJb H) es ae)(row:∀ d∈es,Za d)(up:UpR ltK es):DkD H ae es:=by
 have l:=Vn p;have at_:∀ k w,(k,w)∈ae->∃ c,TD H 5 (.t c) w/\Dt.t [.v (kV k),.t c]∈es:=λk w hm=>by
  obtain⟨i,hi,ei⟩:=mem_iff_getElem.mp hm;obtain⟨c,e,t⟩:=Qx p (I0 #[0]) (List.getElem?_eq_some_iff.mpr ⟨hi,ei⟩)
  exact⟨c,t,by rw[<- e];exact IY _⟩
 refine⟨row,up,XLa p up,at_,λd hd=>?_⟩
 obtain⟨i,hi,ei⟩:=mem_iff_getElem.mp hd;obtain⟨c,e,t⟩:=Qx p (List.getElem?_eq_some_iff.mpr ⟨hi,ei⟩) (I0 #[0])
 exact⟨_,_,c,IY #[0],e,t⟩
theorem DkD.get(h:DkD H ae es)(k:Key):∃ o,QZ es (kV k) o/\TD H 5 (oD o) ((ZB ae k).getD .non):=by
 cases e:ZB ae k with
 | none =>
  refine⟨Vp,λd hd z=>?_,.ofV rfl⟩
  obtain⟨k',w,c,hm,rfl,_⟩:=h.of d hd;have:k'=k:=J7a z;subst this;rw[YIa h.nd hm]at e;cases e
 | some w =>
  obtain⟨c,t,m⟩:=h.to k w (ZDb e);exact⟨Vo c,m,t⟩
theorem YF(s:Qn H0 H1)(h:H1 b=Vp):H0 b=Vp:=by
 cases e:H0 b with
 | none=>rfl
 | some o=>rw[s _ _ e]at h;cases h
theorem QF.find_{p:Vh}(_:QF P w ob H p d1 d2 st c)(hm:(n,d)∈Qs st):∃ t,(n,d,t)∈st:=by
 obtain⟨⟨a,b,t⟩,m1,e1⟩:=mem_map.mp hm;cases e1;exact⟨t,m1⟩
def ZGb:V->Int
 | .int n=>n
 | _=>0
def Xrc(tbl:List (Int×Dt))(v:V):Option (Int×Nat×V)->Prop
 | none=>v=.non
 | some (n,top,k)=>v=.int n/\∃ part,(n,Zm (top:Int) part)∈tbl/\Zf part=k
inductive Z7a(P:Vg)(w:Vb)(_cs ob:Nat->Vh)(vs:List V)(H:Hp)(Q:VK)(E:XK):Prop
 | mk:∀ p d1 d2 st c v o,∀ l:Nat,vs=[.ref p,v,.int l]->QF P w ob H p d1 d2 st c->Xrc (Qs st) v o->(∀ r H' xs,Qn H H'->H r=Vp->H' r=Vo (.lst xs)->Vm (λd v=>TD H' 6 d v) (Q4 o l) xs->Q (.ref r) H')->Z7a P w _cs ob vs H Q E
seal PE PT PW PA PS PSs PI PG QT PGs PO in
theorem Y1b(Z:Zs mg)(T:Tx K mg CT cs ob)(Jj:MeV P w K mg base 4 (ob 3) "card" (J7 P w cs ob))(F:Fun K "root_at" "root_at" JXa f fd):QE P w K mg base CX0 5 f fd ["pages","root","level"] (Z7a P w cs ob):=by
 refine F.ok Xsa (λvs H Q E h=>?_) (λap A outer s H vs Q E hr h=>?_)
 ·walk_at "n"
 obtain⟨p,d1,d2,st,c,v,o,l,rfl,hS,hv,q⟩:=h;refine⟨_,(Qb (QK (Qq Y8 (pv 1) Zz (Qu _)) (Qg (Qo (ZA Qe))) Qw)
  (Qb (Qi 3 Xsa.nd (PE1.pe (Zb (k:=4) (pv 0) hr rfl (Qh (pv 1) Qe)) Ze))
  (Qg (Qo (YMa (Qq ZJ (QA QC (pv 3) Qd (λ_ _=>rfl)) (pv 2) (Qu _)) (ZA (Qh (ZM (Qh (QA QC (pv 3) Qd (λ_ _=>rfl)) (Qh (pv 1) Qe))) Qe)) (ZA Qe)))))),?_⟩
 refine Qm (σ:=[Vo (.ref p),Vo v,Vo (.int l),Vp]) rfl ?_
 walk_at "rd";have none_:∀ H',Qn H H'->Q4 o l=[]->[].length (α:=V)<=Vs/\∀ r,H' r=Vp->Q (.ref r) (upd H' r (.lst [])):=λH' s e=>⟨by decide,λr hr=>q r _ [] (s.trans (Qf hr _)) (YF s hr) Qa (by rw[e];exact .nil)⟩
 cases o with
 | none =>
  obtain rfl:v=.non:=hv;rw[if_pos rfl];exact none_ H (Qn.refl _) rfl
 | some x =>
  obtain⟨n,top,k⟩:=x;obtain⟨rfl,part,hm,hk⟩:=hv;rw[if_neg (by intro z;cases z)]
  obtain⟨dx,ho⟩:=hS.obj;obtain⟨t0,dM⟩:=hS.find_ hm;refine Jn rfl ho rfl (T.ob_ 3 #[1]).cl (Jj.mono #[1]) ⟨p,d1,d2,st,c,n,rfl,hS,λl2 k2 r2 bO t2 bN a H2 s2 ha rH=>?_,λz=>(z _ dM rfl).elim⟩
  obtain⟨el,ep⟩:=Jo (hS.fun_ dM bN).1;subst el;have ek:k=k2:=by rw[<- hk,ep];rfl
  subst ek;obtain⟨a',u1,u2,ea,iR,x1,x2⟩:=TD.pair_of rH;cases ea;obtain⟨_,rfl⟩:=x1.flat;obtain⟨f2,e2⟩:=x2.flat;rw[e2]at iR;refine⟨a,rfl,_,SqT.of iR,_,at0 _ _,rfl,?_⟩
  by_cases e:top=l
  ·subst e
   rw[if_pos rfl];refine⟨a,rfl,_,SqT.of iR,_,rfl,JA,λb hb=>⟨show 1<=Vs by decide,λr hr=>?_⟩⟩
   have s3:=Qf hb (.tup [k,.int n]);have s4:=Qf hr (.lst [.ref b]);refine q r _ [.ref b] (s2.trans (s3.trans s4)) (YF (s2.trans s3) hr) Qa ?_
   rw[show Q4 (Vo (n,top,k)) top=[Zy k n] from if_pos rfl]
   exact .cons (TD.mono 1 #[1] (TD.pair (n:=0) (s4 _ _ Qa) (.ofV f2) (.ofV rfl))) .nil
  ·rw[if_neg (λz=>e (by injection z with z;lia))]
   exact none_ H2 s2 (if_neg e)
def JTb(hs:List Dt):Prop:=∀ d∈hs,∃ k n,d=Zy k n
theorem XQb(h:Vm (λd v=>TD H 6 d v) hs xs)(ok:JTb hs){i:Nat}{x:V}(hx:xs[i]?=Vo x):∃ d t k,hs[i]?=Vo d/\x=.ref t/\H t=Vo (.tup [k,.int (Zr d)]):=by
 have l:=Vn h;have hi:=(List.getElem?_eq_some_iff.mp hx).1
 have e:=I0 (l:=hs) (i:=i) #[0]
 have td:=Qx h e hx;obtain⟨k,n,ed⟩:=ok _ (Og e);rw[ed]at td;obtain⟨a',u1,u2,ea,iR,x1,x2⟩:=TD.pair_of td;obtain⟨_,rfl⟩:=x2.flat;exact⟨_,a',u1,e,ea,by rw[ed];exact iR⟩
inductive Yq(aD:VD)(vs:List V)(H:Hp)(Q:VK)(E:XK):Prop
 | mk:∀ (a b:Vh) (xs ys:List V) (hs gs:List Dt),vs=[.ref a,.ref b]->H a=Vo (.lst xs)->H b=Vo (.lst ys)->Vm (λd v=>TD H 6 d v) hs xs->Vm (λd v=>TD H 6 d v) gs ys->JTb hs->JTb gs->hs.length<=1000->gs.length<=1000->(∀ r H',Qn H H'->H r=Vp->H' r=Vo (.lst (((gs.map Zr).filter λn=>!decide (n∈hs.map Zr)).map V.int))->Q (.ref r) H')->Yq aD vs H Q E
seal PE PT PW PA PS PSs PI PG QT PGs PO in
theorem Yqa(Z:Zs mg)(T:Tx K mg CT cs ob)(F:Fun K "missing_from" "missing_from" JC f fd):QE P w K mg base CX0 1 f fd ["others","heads"] (Yq K):=by
 refine F.ok Yl (λvs H Q E h=>?_) (λap A outer s H vs Q E hr h=>?_)
 ·walk_at "n"
 obtain⟨a,b,xs,ys,hs,gs,rfl,ha,hb,ph,pg,okh,sF,lh,lg,q⟩:=h;refine⟨_,(Qb (Qi 2 Yl.nd YZa)
  (Qb (Jm Da rfl (ZZ (pv 0)) (ZF (i:=3) Yl.nd rfl (OB rfl)) (Qg (XE hr.u1 (pv 2) (QA QC (pv 3) Qd (λ_ _=>rfl)) Qjb rfl)))
  (Qg (Qo (YJ ["others","heads","there",""] rfl (Yga (N:=["others","heads","there","head"]) (dsc:=Qj JC) rfl rfl (by decide +kernel)) (ZZ (pv 1)) (λ_ _ _ _ _=>(QWb (J8b (Qvb hr.u1 (QA (r:=X6b K) QC (pv 0) Qd (λ_ _=>rfl)) (pv 3))))) (λ_ _ _ _ _=>(QA (r:=X6b K) QC (pv 0) Qd (λ_ _=>rfl)))))))),?_⟩
 refine Qm (σ:=[Vo (.ref a),Vo (.ref b),Vp,Vp]) rfl ?_
 have lx:=Vn ph;have ly:=Vn pg;walk_at "rd";intro p hp;have s1:=Qf hp (.dK []);refine⟨⟨_,SqL.of (s1 _ _ ha)⟩,Z8 xs (λi σ' H'=>∃ ae x3,σ'=[Vo (.ref a),Vo (.ref b),Vo (.ref p),x3]/\Qn H H'/\H' p=Vo (.dK ae)/\ae.length<=i/\∀ n,(ZB ae (.inl n)).isSome=true↔n∈(hs.take i).map Zr) ⟨[],_,rfl,s1,Qa,Um _,λn=>by simp[ZB]⟩ (λi σ' H' _ ⟨ae,x3,_,s',_⟩=>SqL.of (s' _ _ ha)) ?_ ?_⟩
 ·rintro i x σ' H' hx ⟨ae,x3,rfl,s',g',lk,hk⟩
  obtain⟨d,t,k,hd,rfl,ht⟩:=XQb ph okh hx;have hi:=(List.getElem?_eq_some_iff.mp hx).1
  walk_at "rd";refine⟨_,SqT.of (s' _ _ ht),_,rfl,_,YYa.k (k:=.inl (Zr d)) g' (QD #[0]),s'.updL hp _,_,Qa,VJ (ZG _ _ _) #[0],λn=>?_⟩
  rw[Zdc,Lo,hd,LM,Lq,<- hk n]
  by_cases e:n=Zr d
  ·subst e;simp
  ·rw[if_neg (λz=>e (by injection z))];simp[e]
 ·rintro σ' H' ⟨ae,x3,rfl,s',g',lk,hk⟩
  have ek:∀ n,(ZB ae (.inl n)).isSome=decide (n∈hs.map Zr):=λn=>by
   have:=hk n;rw[<- lx,Lr]at this;rw[Uv,this,decide_eq_true_iff]
  walk_at "rd";refine⟨⟨_,SqL.of (s' _ _ hb)⟩,Z4c ys (λx=>!decide (ZGb (ZEa H x)∈hs.map Zr)) (ZEa H) (SqL.of (s' _ _ hb)) (Ja #[0]) (λi x H2 R hx s2 r=>?_) (λi x H2 R hx _ s2 r=>?_) λD H2 hD s2 hd=>?_⟩
  ·obtain⟨d,t,k,hd,rfl,ht⟩:=XQb pg sF hx
   rw[QHa ht,show ZGb (.int (Zr d))=Zr d from rfl,<- ek]at r
   walk_at "rd";exact⟨_,SqT.of (s2 _ _ (s' _ _ ht)),_,rfl,_,QCa.k (k:=.inl (Zr d)) (s2 _ _ g'),r⟩
  ·obtain⟨d,t,k,hd,rfl,ht⟩:=XQb pg sF hx
   rw[QHa ht]at r;walk_at "rd";exact⟨_,SqT.of (s2 _ _ (s' _ _ ht)),_,rfl,r⟩
  ·refine q D H2 (s'.trans s2) (YF s' hD) ?_
   have em:ys.map (ZEa H)=(gs.map Zr).map V.int:=by
    refine IQ λi=>?_
    rw[Oe,Oe,Oe]
    cases e:ys[i]? with
    | none=>rw[LL (by have:=List.getElem?_eq_none_iff.mp e;lia)];rfl
    | some x =>
     obtain⟨d,t,k,hd,rfl,ht⟩:=XQb pg sF e;rw[hd];show Vo (ZEa H (.ref t))=Vo (V.int (Zr d));rw[QHa ht]
   rw[hd];have:(ys.filter λx=>!decide (ZGb (ZEa H x)∈hs.map Zr)).map (ZEa H)=(ys.map (ZEa H)).filter λy=>!decide (ZGb y∈hs.map Zr):=by rw[filter_map];rfl
   rw[this,em,filter_map]
   rfl
inductive Xo(P:Vg)(w:Vb)(_cs ob:Nat->Vh)(vs:List V)(H:Hp)(Q:VK)(E:XK):Prop
 | mk:∀ p d1 d2 st c a l ns es,vs=[.ref p,.ref a]->QF P w ob H p d1 d2 st c->H a=Vo (.lst (ns.map V.int))->Pgs (Qs st) l ns es->es.length<=1000->ns.length<=1000->(∀ r H' xs,Qn H H'->H r=Vp->H' r=Vo (.lst xs)->Vm (λd v=>TD H' 6 d v) es xs->Q (.ref r) H')->Xo P w _cs ob vs H Q E
seal PE PT PW PA PS PSs PI PG QT PGs PO in
theorem Qgb(Z:Zs mg)(T:Tx K mg CT cs ob)(Qt:MeV P w K mg base 5 (ob 3) "page" (QV P w cs ob))(F:Fun K "entries_of" "entries_of" X6 f fd):QE P w K mg base CX0 6 f fd ["pages","numbers"] (Xo P w cs ob):=by
 refine F.ok Xj (λvs H Q E h=>?_) (λap A outer s H vs Q E hr h=>?_)
 ·walk_at "n"
 obtain⟨p,d1,d2,st,c,a,l,ns,es,rfl,hS,ha,pg,le,ln,q⟩:=h;refine⟨_,(Qb (Qi 2 Xj.nd (ZA Qe))
  (Qb (Jm Da rfl (ZZ (pv 1)) (ZF (i:=3) Xj.nd rfl (OB rfl)) (Qg (Zh (Qza Dc PySem.F.slot_list_extend PySem.F.type_list_extend Xba (pv 2) (Qh (Qz (PE1.pe (Zb (k:=5) (pv 0) hr rfl (Qh (pv 3) Qe)) Ze) rfl) Qe)))))
  (Qg (Qo (pv 2))))),?_⟩
 refine Qm (σ:=[Vo (.ref p),Vo (.ref a),Vp,Vp]) rfl ?_
 walk_at "rd";refine⟨by decide,λr hr=>?_⟩
 have s1:=Qf hr (.lst []);refine⟨⟨_,SqL.of (s1 _ _ ha)⟩,Z8 (ns.map V.int) (λi σ' H'=>∃ xs x3 bj bO,σ'=[Vo (.ref p),Vo (.ref a),Vo (.ref r),x3]/\Qn H H'/\H' r=Vo (.lst xs)/\es=bj++bO/\Pgs (Qs st) l (ns.drop i) bO/\Vm (λd v=>TD H' 6 d v) bj xs) ⟨[],_,[],es,rfl,s1,Qa,rfl,pg,.nil⟩ (λi σ' H' _ ⟨xs,x3,bj,bO,_,s',_⟩=>SqL.of (s' _ _ ha)) ?_ ?_⟩
 ·rintro i x σ' H' hx ⟨xs,x3,bj,bO,rfl,s',g',ee,lL,re⟩
  rw[Oe]at hx
  obtain⟨n,hn,rfl⟩:=Option.map_eq_some_iff.mp hx;have hi:=(List.getElem?_eq_some_iff.mp hn).1
  rw[Iy hi,(List.getElem?_eq_some_iff.mp hn).2]at lL
  obtain⟨part,rest,⟨hm,_⟩,rL,e2⟩:=lL;have lx:=Vn re;have aJ:=hS.same s';obtain⟨t0,dM⟩:=aJ.find_ hm;obtain⟨dx,ho⟩:=aJ.obj;walk_at "rd";refine⟨.inl ⟨rfl,_,SqL.of g'⟩,?_⟩
  unfold Q6c;refine Jn rfl ho rfl (T.ob_ 3 #[1]).cl (Qt.mono #[1]) ⟨p,d1,d2,st,c,n,rfl,aJ,λl2 qX t2 bN pgx H2 s2 ft aW=>?_,λz=>(z _ dM rfl).elim⟩
  obtain⟨el,e3⟩:=Jo (aJ.fun_ dM bN).1;subst el e3;obtain⟨tw,dy,t,_,bh,oq⟩:=aW;obtain⟨m,b,zs,em,eb,hb,pz⟩:=TD.tup oq;cases em;cases eb;have lz:=Vn pz;have vH:es.length=bj.length+(part.length+rest.length):=by rw[ee,e2];simp
  have oc:=T.ob_ (if tw=true then 2 else 1) JFb
  have g2:=s2 _ _ g';have tt:ZK H2 (upd H2 r (.lst (xs++zs))):=JZ g2;exact⟨pgx,_,dy,_,.ref t,rfl,bh,oc.cl,oc.no _ #[1],by cases tw <;> rfl,t,rfl,xs,g2,zs,.inr (SqT.of hb),Ja #[0],(s'.trans s2).updL hr _,_,Qa,bj++part,rest,by rw[ee,e2,Iv],rL,YM (TDs.sameT re (s2.t.trans tt)) (TDs.sameT pz tt)⟩
 ·rintro σ' H' ⟨xs,x3,bj,bO,rfl,s',g',ee,lL,re⟩
  rw[UJ,drop_length]at lL;rw[show bO=[] from lL,UV]at ee
  subst ee;walk_at "rd";exact q r H' xs s' hr g' re
inductive Zba(aD:VD)(vs:List V)(H:Hp)(Q:VK)(E:XK):Prop
 | mk:∀ (a:Vh) (xs:List V),vs=[.ref a]->H a=Vo (.lst xs)->(∀ v∈xs,Q1 v)->xs.length < 1000->(∀ (r:Vh) (H':Hp) (ys:List V),Qn H H'->H r=Vp->H' r=Vo (.lst ys)->ys.length<=xs.length->QWd xs ys->Q (.ref r) H')->Zba aD vs H Q E
theorem JOc{K:VD}(h:∀ v∈xs,Q1 v):Ysb K (YU K) H xs rk ltV :=
 ⟨λv _=>QVd v,λv hv H2 _ R hR=>⟨v,rfl,h v hv,λp hp=>hR p _ (Qf hp _) (SqT.of Qa)⟩,λv hv u hu=>ZGc (h v hv) (h u hu),swo h⟩
seal PE PT PW PA PS PSs PI PG QT PGs PO in
theorem JUb(Z:Zs mg)(T:Tx K mg CT cs ob)(kL:Cal P w K mg base 2 "before" ["one","other"] (Xv K))(oJ:Cal P w K mg base 1 "rank_of" ["value"] (YU K))(F:Fun K "in_order" "in_order" Z0a f fd):QE P w K mg base CX0 4 f fd ["values"] (Zba K):=by
 refine F.ok QVa (λvs H Q E h=>?_) (λap A outer s H vs Q E hr h=>?_)
 ·walk_at "n"
 obtain⟨a,xs,rfl,ha,px,l64,q⟩:=h;refine⟨_,(Qb (Qi 1 QVa.nd (ZA Qe))
  (Qb (Jm Da rfl (ZZ (Jdb oJ (k:=3) hr #[1] rfl (Z.sorted) rfl (pv 0))) (ZF (i:=2) QVa.nd rfl (OB rfl)) (Qg (QK (PW.pt (ZQb (YLa (Z9a (pv 1) (λ_=>rfl))) (YKa (Qwa (Qr kL hr (Qh (QA Zl (pv 1) (YQa ZPa Qd) (λ_ _=>rfl)) (Qh (pv 2) Qe))) (λ_=>rfl))))) (Qg (Zh (Qza Dc Dd De ZS (pv 1) (Qh (pv 2) Qe)))) Qw)))
  (Qg (Qo (pv 1))))),?_⟩
 refine Qm (σ:=[Vo (.ref a),Vp,Vp]) rfl ?_
 walk_at "rd";refine⟨by decide,λf hf=>?_⟩
 have sG:a≠f:=Qy ha hf;refine⟨xs,SqL.of (by rw[Qk sG];exact ha),l64,_,_,JOc px,λD H1 ys s1 km hD hp so=>?_⟩
 have py:∀ v∈ys,Q1 v:=λv hv=>px v (hp.mem_iff.mp hv)
 have hfD:f≠D:=λz=>by rw[<- z,Qa]at km;cases km
 have sf:Qn H H1:=(Qf hf _).trans s1;have ly:=hp.length_eq;refine⟨⟨_,SqL.of hD⟩,Z8 ys (λi σ' H'=>∃ (fs:List V) (x2:Option V),σ'=[Vo (.ref a),Vo (.ref f),x2]/\Qn H H'/\H' D=Vo (.lst ys)/\H' f=Vo (.lst fs)/\JMa ys i fs) ?_ ?_ ?_ ?_⟩
 ·exact⟨[],_,rfl,sf,hD,s1 _ _ Qa,JMa.start ys⟩
 ·rintro i σ' H' _ ⟨fs,x2,rfl,sm,h1,h2,g⟩
  exact SqL.of h1
 ·rintro i x σ' H' hx ⟨fs,x2,rfl,sm,h1,h2,g⟩
  have hi:i < ys.length:=(List.getElem?_eq_some_iff.mp hx).1
  have pf:∀ v∈fs,Q1 v:=λv hv=>py v (Ie ((g.mem v).mp hv))
  have pX:=py x (Og hx);have lf:=g.len;have app:∀ H2:Hp,Qn H' H2->(∀ l,fs.getLast?=Vo l->ltV l x=true)->tyV K "list" (.ref f) H2/\∃ cn,H2 f=Vo (.lst cn)/\cn.length < Vs/\Qn H (upd H2 f (.lst (cn++[x])))/\upd H2 f (.lst (cn++[x])) D=Vo (.lst ys)/\∃ fm:List V,upd H2 f (.lst (cn++[x])) f=Vo (.lst fm)/\JMa ys (i+1) fm:=λH2 s2 hl =>
   ⟨.inl ⟨rfl,_,SqL.of (s2 _ _ h2)⟩,fs,s2 _ _ h2,QD #[0],(sm.trans s2).updL hf _,by rw[Qk (VR hfD)];exact s2 _ _ h1,fs++[x],Qa,g.put py so hx hl⟩
  walk_at "rd";refine⟨_,.inl ⟨fs,SqL.of h2,rfl⟩,?_⟩
  cases hemp:fs.isEmpty with
  | true =>
   rw[if_pos #[1]]
   have e0:fs=[]:=isEmpty_iff.mp hemp;exact app _ (Qn.refl _) λl hl=>by rw[e0]at hl;cases hl
  | false =>
   rw[if_neg #[2]]
   obtain⟨l,hl⟩:∃ l,fs.getLast?=Vo l:=by
    cases q:fs.getLast? with
    | none=>rw[getLast?_eq_none_iff]at q;rw[q]at hemp;cases hemp
    | some l=>exact⟨l,rfl⟩
   obtain⟨fm,ef⟩:=getLast?_eq_some_iff.mp hl
   have pl:Q1 l:=pf l (Lp hl);refine⟨fs,SqL.of h2,l,by rw[ef];exact Qya _ _,l,x,rfl,pl,pX,λH2 s2=>⟨_,rfl,?_⟩⟩
   cases aG:ltV l x with
   | true =>
    rw[if_pos rfl];exact app _ s2 λl' eX=>by rw[hl]at eX;cases eX;exact aG
   | false =>
    rw[if_neg Uc];exact⟨sm.trans s2,s2 _ _ h1,fs,s2 _ _ h2,g.skip py so hx hl aG⟩
 ·rintro σ' H' ⟨fs,x2,rfl,sm,h1,h2,g⟩
  walk_at "rd";have:=g.len;exact q f H' fs sm hf h2 #[0] (g.rise hp)
theorem ChD.updO{p:Vh}{n:Option (List Dt)}{u v:HO}(h:ChD ob H a k o n)(hp:H p=Vo u)(h1:∀ C dx fs,u≠.ins C dx fs)(t:ZK H (upd H p v)):ChD ob (upd H p v) a k o n:=by
 obtain⟨ov,nv,⟨dx,ha⟩,to,tn⟩:=h;refine⟨ov,nv,⟨dx,?_⟩,TD.sameT t 5 to,TD.sameT t 5 tn⟩
 rw[Qk λz=>by rw[z,hp]at ha;injection ha with ha;exact h1 _ _ _ ha]
 exact ha
structure Dif(es fs:List Dt)(aq:List (V×Option (List Dt)×Option (List Dt))):Prop where
 up:aq.Pairwise λa b=>ltK a.1 b.1
 mem:∀ k o n,(k,o,n)∈aq↔Q6 k/\QZ es k o/\QZ fs k n/\o≠n
inductive Jt(aD:VD)(ob:Nat->Vh)(vs:List V)(H:Hp)(Q:VK)(E:XK):Prop
 | mk:∀ (a b:Vh) (xs ys:List V) (es fs:List Dt),vs=[.ref a,.ref b]->H a=Vo (.lst xs)->H b=Vo (.lst ys)->Vm (λd v=>TD H 6 d v) es xs->Vm (λd v=>TD H 6 d v) fs ys->(∀ d∈es,Za d)->UpR ltK es->(∀ d∈fs,Za d)->UpR ltK fs->es.length<=400->fs.length<=400->(∀ r H' as aq,Qn H H'->H r=Vp->H' r=Vo (.lst (as.map V.ref))->Vm (λch a=>ChD ob H' a ch.1 ch.2.1 ch.2.2) aq as->Dif es fs aq->aq.length<=es.length+fs.length->Q (.ref r) H')->Jt aD ob vs H Q E
inductive BtI(ob:Nat->Vh)(H2:Hp)(a b D D' r r7:Vh)(cW:List V)(es fs:List Dt)(i:Nat)(σ':St)(H':Hp):Prop
 | mk:∀ (as:List Vh) (aq:List (V×Option (List Dt)×Option (List Dt))) (x5:Option V),σ'=[Vo (.ref a),Vo (.ref b),Vo (.ref D),Vo (.ref D'),Vo (.ref r),x5]->Qn H2 H'->H' r7=Vo (.lst cW)->H' r=Vo (.lst (as.map V.ref))->Vm (λch a=>ChD ob H' a ch.1 ch.2.1 ch.2.2) aq as->aq.Pairwise (λa b=>ltK a.1 b.1)->(∀ k o n,(k,o,n)∈aq↔k∈cW.take i/\QZ es k o/\QZ fs k n/\o≠n)->aq.length<=i->BtI ob H2 a b D D' r r7 cW es fs i σ' H'
seal PE PT PW PA PS PSs PI PG QT PGs PO in
theorem Z8a(Z:Zs mg)(T:Tx K mg CT cs ob)(Y2b:Cal P w K mg base 4 "in_order" ["values"] (Zba K))(sw:Cal P w K mg base 4 "change_of" ["key","old","new"] (YE K ob))(F:Fun K "changes_between" "changes_between" JE f fd):QE P w K mg base CX0 5 f fd ["old_rows","new_rows"] (Jt K ob):=by
 refine F.ok Zu (λvs H Q E h=>?_) (λap A outer s H vs Q E hr h=>?_)
 ·walk_at "n"
 obtain⟨a,b,xs,ys,es,fs,rfl,ha,hb,re,rf,row,up,bF,cU,le,lf,q⟩:=h;refine⟨_,(Qb (Qi 2 Zu.nd (QS (XM hr.hd) rfl (Z.dict) YEa (Qh (pv 0) Qe)))
  (Qb (Qi 3 Zu.nd (QS (XM hr.hd) rfl (Z.dict) YEa (Qh (pv 1) Qe)))
  (Qb (Qi 4 Zu.nd (ZA Qe))
  (Qb (Jm Da rfl (ZZ (Qr Y2b hr (Qh (Ql ZH (QS (Xja hr.hd) rfl (Z.list) Z0 (Qh (pv 2) Qe)) (QS (Xja hr.hd) rfl (Z.list) Z0 (Qh (pv 3) Qe))) Qe))) (ZF (i:=5) Zu.nd rfl (OB rfl)) (Qg (QK (Qq (ZTc (hr.units)) (Jfa hr.u1 (pv 2) (pv 5) ⟨rfl,rfl,rfl,rfl⟩) (Jfa hr.u1 (pv 3) (pv 5) ⟨rfl,rfl,rfl,rfl⟩) (Qu _)) (Qg (Zh (Qza Dc Dd De ZS (pv 4) (Qh (Qr sw hr (Qh (pv 5) (Qh (Jfa hr.u1 (pv 2) (pv 5) ⟨rfl,rfl,rfl,rfl⟩) (Qh (Jfa hr.u1 (pv 3) (pv 5) ⟨rfl,rfl,rfl,rfl⟩) Qe)))) Qe)))) Qw)))
  (Qg (Qo (pv 4))))))),?_⟩
 refine Qm (σ:=[Vo (.ref a),Vo (.ref b),Vp,Vp,Vp,Vp]) rfl ?_
 have lx:=Vn re;have ly:=Vn rf;walk_at "rd";obtain⟨ae,lO,cF⟩:=Zaa re row;have cF:Vm (QJb H) es ae:=cF;refine⟨a,xs,ae,rfl,ha,by lia,lO,λD hD=>?_⟩
 rw[Qja (XLa cF up)];have s1:=Qf hD (.dK ae);have gD:upd H D (.dK ae) D=Vo (.dK ae):=Qa;have dk:=(YJa cF row up).sameT s1.t;generalize upd H D (.dK ae)=H1 at s1 gD dk ⊢;obtain⟨aT,sI,fj⟩:=Zaa (TDs.sameT rf s1.t) bF;have fj:Vm (QJb H1) fs aT:=fj;refine⟨b,ys,aT,rfl,s1 _ _ hb,by lia,sI,λD' iB=>?_⟩
 rw[Qja (XLa fj cU)];have s2:=Qf iB (.dK aT);have iU:upd H1 D' (.dK aT) D'=Vo (.dK aT):=Qa;have cE:=(YJa fj bF cU).sameT s2.t;have gc:=s2 _ _ gD;have gd:=dk.sameT s2.t;have lk:=Vn cF;have lk':=Vn fj;generalize upd H1 D' (.dK aT)=H2 at s2 iU cE gc gd ⊢;have jy:=s1.trans s2;refine⟨by decide,λr hr=>?_⟩
 have s3:=Qf hr (.lst []);have gr:upd H2 r (.lst []) r=Vo (.lst []):=Qa;generalize upd H2 r (.lst [])=H3 at s3 gr ⊢;refine⟨D,ae,rfl,s3 _ _ gc,by lia,λl1 eZ=>?_⟩
 have s4:=Qf eZ (.lst (ae.map λp=>kV p.1))
 have g4:upd H3 l1 (.lst (ae.map λp=>kV p.1)) l1=Vo (.lst (ae.map λp=>kV p.1)):=Qa
 generalize upd H3 l1 (.lst (ae.map λp=>kV p.1))=H4 at s4 g4 ⊢
 refine⟨D',aT,rfl,s4 _ _ (s3 _ _ iU),by lia,λl2 jR=>?_⟩
 have s5:=Qf jR (.lst (aT.map λp=>kV p.1))
 have g5:upd H4 l2 (.lst (aT.map λp=>kV p.1)) l2=Vo (.lst (aT.map λp=>kV p.1)):=Qa
 generalize upd H4 l2 (.lst (aT.map λp=>kV p.1))=H5 at s5 g5 ⊢
 refine⟨l1,rfl,l2,rfl,_,s5 _ _ g4,_,g5,Ja (by simp;lia),λl3 hl3=>?_⟩
 have s6:=Qf hl3 (.lst ((ae.map λp=>kV p.1)++aT.map λp=>kV p.1))
 have g6:upd H5 l3 (.lst ((ae.map λp=>kV p.1)++aT.map λp=>kV p.1)) l3=Vo (.lst ((ae.map λp=>kV p.1)++aT.map λp=>kV p.1)):=Qa
 generalize upd H5 l3 (.lst ((ae.map λp=>kV p.1)++aT.map λp=>kV p.1))=H6 at s6 g6 ⊢
 have hK:∀ v∈(ae.map λp=>kV p.1)++aT.map λp=>kV p.1,Q6 v:=λv hv=>by
  rcases mem_append.mp hv with z | z
  ·obtain⟨q,hq,rfl⟩:=mem_map.mp z;exact gd.key (w:=q.2) hq
  ·obtain⟨q,hq,rfl⟩:=mem_map.mp z;exact cE.key (w:=q.2) hq
 refine⟨l3,_,rfl,g6,(λv hv=>YV (hK v hv)),by simp;lia,λr7 H7 cW s7 lI g7 l7 rise=>⟨r7,rfl,⟨_,SqL.of g7⟩,?_⟩⟩
 have vX:=s4.trans (s5.trans (s6.trans s7));have s27:=s3.trans vX;have sJ:r7≠r:=λz=>by rw[z,(s4.trans (s5.trans s6)) _ _ gr]at lI;cases lI
 have kx:∀ v∈cW,Q6 v:=λv hv=>hK v ((rise.mem v).mp hv)
 have l7':cW.length<=800:=by simp at l7;lia
 refine Z8 cW (λi σ' H'=>BtI ob H2 a b D D' r r7 cW es fs i σ' H') ⟨[],[],_,rfl,s27,g7,vX _ _ gr,.nil,Ic,(λk o n=>by simp),Um _⟩ (λi σ' H' _ ⟨_,_,_,_,_,g,_,_,_,_,_⟩=>SqL.of g) ?_ ?_
 ·rintro i x σ' H' hx ⟨as,aq,x5,rfl,s',sK,lP,pc,pu,pm,lc⟩
  have hi:=(List.getElem?_eq_some_iff.mp hx).1
  have oR:=kx x (Og hx);obtain⟨k,rfl⟩:=ZFb oR;walk_at "rd";have d1:=s' _ _ gc;have d2:=s' _ _ iU;obtain⟨o,ho,to⟩:=(gd.sameT s'.t).get k;obtain⟨n,hn,tn⟩:=(cE.sameT s'.t).get k;have tk:∀ v,v∈cW.take (i+1)↔v∈cW.take i\/v=kV k:=λv=>by rw[Lo,hx];simp
  refine⟨.inl ⟨_,.inl d1⟩,_,QCa.k (k:=k) d1,.inl ⟨_,.inl d2⟩,_,QCa.k (k:=k) d2,Jhc (n:=5) #[1] to tn ⟨_,rfl,?_⟩⟩
  by_cases e:oD o=oD n
  ·rw[decide_eq_true e,if_neg #[1]]
   refine⟨as,aq,_,rfl,s',sK,lP,pc,pu,λk2 o2 n2=>?_,by lia⟩
   rw[pm,tk];refine⟨λ⟨a1,a2⟩=>⟨.inl a1,a2⟩,λ⟨a1,a2,a3,a4⟩=>⟨a1.elim id λz=>?_,a2,a3,a4⟩⟩
   subst z;exact absurd (by rw[QZ.det up a2 ho,QZ.det cU a3 hn];exact JHc e) a4
  ·rw[decide_eq_false e,if_pos #[1]]
   refine⟨.inl ⟨rfl,_,SqL.of lP⟩,.inl ⟨_,.inl d1⟩,_,QCa.k (k:=k) d1,.inl ⟨_,.inl d2⟩,_,QCa.k (k:=k) d2,kV k,_,_,rfl,λca H8 s8 hca bJ=>?_⟩
   have g8:=s8 _ _ lP;have la:=Vn pc;have t8:ZK H8 (upd H8 r (.lst (as.map V.ref++[.ref ca]))):=JZ g8;refine⟨_,g8,QD (by simp;lia),as++[ca],aq++[(kV k,o,n)],_,rfl,(s'.trans s8).updL hr _,by rw[Qk sJ];exact s8 _ _ sK,by rw[LM];exact Qa,YM (Paired.mapP pc λ_ _ z=>(z.same s8).updO g8 (by intros;intro z;cases z) t8) (.cons (ChD.updO ⟨_,_,bJ,to.same s8,tn.same s8⟩ g8 (by intros;intro z;cases z) t8) .nil),pairwise_append.mpr ⟨pu,Lh _ _,λc hc d hd=>?_⟩,λk2 o2 n2=>?_,by simp;lia⟩
   ·rw[mem_singleton.mp hd]
    obtain⟨k3,o3,n3⟩:=c;have hm:=((pm k3 o3 n3).mp hc).1;obtain⟨j,hj,ej⟩:=mem_iff_getElem.mp hm;rw[Oa]at hj;rw[getElem_take]at ej;have:=pairwise_iff_getElem.mp rise.up j i #[0] hi #[0]
    rw[ej,(List.getElem?_eq_some_iff.mp hx).2]at this
    exact⟨kx k3 (Ie hm),oR,this⟩
   ·rw[Lq,Ds,pm,tk]
    constructor
    ·rintro(⟨a1,a2⟩ | z)
     ·exact⟨.inl a1,a2⟩
     ·injection z with z1 z2
      injection z2 with z2 z3
      subst z1 z2 z3;exact⟨.inr rfl,ho,hn,λz=>e (by rw[z])⟩
    ·rintro⟨a1 | a1,a2,a3,a4⟩
     ·exact .inl ⟨a1,a2,a3,a4⟩
     ·subst a1
      exact .inr (by rw[QZ.det up a2 ho,QZ.det cU a3 hn])
 ·rintro σ' H' ⟨as,aq,x5,rfl,s',sK,lP,pc,pu,pm,lc⟩
  walk_at "rd";rw[Lr]at pm;refine q r H' as aq (jy.trans s') (YF jy hr) lP pc ⟨pu,λk o n=>(pm k o n).trans ⟨λ⟨a1,a2⟩=>⟨kx k a1,a2⟩,λ⟨a1,a2,a3,a4⟩=>⟨(rise.mem k).mpr ?_,a2,a3,a4⟩⟩⟩ (by simp at l7;lia)
  have vY:∀ {H:Hp} {ae:List (Key×V)} {es:List Dt} {c:List Dt},DkD H ae es->QZ es k (Vo c)->k∈ae.map λp=>kV p.1:=λ{H ae es c} dk hg=>by
   obtain⟨k',w',c',hm,e1,_⟩:=dk.of _ hg;rw[show k=kV k' from congrArg Qv e1]
   exact mem_map.mpr ⟨_,hm,rfl⟩
  cases o with
  | some c=>exact VS _ (vY gd a2)
  | none=>cases n with
   | some c=>exact Ur _ (vY cE a3)
   | none=>exact absurd rfl a4
theorem QKb:∀ {zs:List V},(∀ x∈zs,V.int (ZGb x)=x)->zs=(zs.map ZGb).map V.int
 | [],_=>rfl
 | x::zs,h=>by rw[UH,UH,h x VN,<- QKb λy hy=>h y (VO _ hy)]
theorem XRb{n:Nat}(h:n<=100000):n<=Vs:=VJ h #[1]
theorem JDa{S:List Dt}(h:Rst A R B S)(uB:UpR ltK B)(rA:∀ d∈A,Za d){k:V}{o n:Option (List Dt)}(ne:o≠n) :
 (QZ R k o->QZ S k n->QZ A k o)/\(QZ A k o->QZ B k n->QZ R k o):=by
 constructor
 ·intro g1 g2
  cases o with
  | some c=>exact h.a.subset g1
  | none =>
   intro d hd e;have z:=h.ab d hd (λz=>g1 d z e)
   cases n with
   | none=>exact ne rfl
   | some c =>
    have g2:Dt.t [.v k,.t c]∈S:=g2;exact z.2 (by rw[JIc uB z.1 (h.b.subset g2) e];exact g2)
 ·intro g1 g2
  cases o with
  | none=>exact λd hd e=>g1 d (h.a.subset hd) e
  | some c =>
   apply L7
   intro z;have:=h.ab _ g1 z;exact ne (QZ.det uB (a:=Vo c) this.1 g2)
theorem YWc{S:List Dt}{aq:List (V×Option (List Dt)×Option (List Dt))}(h:Rst A R B S)(uA:UpR ltK A)(uB:UpR ltK B)(rA:∀ d∈A,Za d)(rB:∀ d∈B,Za d)(d:Dif R S aq):Dif A B aq :=
 ⟨d.up,λk o n=>(d.mem k o n).trans ⟨λ⟨a1,a2,a3,a4⟩=>⟨a1,(JDa h uB rA a4).1 a2 a3,(JDa h.symm uA rB (VR a4)).1 a3 a2,a4⟩,λ⟨a1,a2,a3,a4⟩=>⟨a1,(JDa h uB rA a4).2 a2 a3,(JDa h.symm uA rB (VR a4)).2 a3 a2,a4⟩⟩⟩
theorem JPc(up:UpR ltK es):es.Nodup:=by
 unfold UpR at up;exact Dj (λ{a b} h (e:a=b)=>ltK.irr _ (by rw[e]at h;exact h)) up
theorem QH.rootV(h:QH st es v):∃ o,Xrc (Qs st) v o/\(∀ x,o=Vo x->Lev (Qs st) x.2.1 [x.1] es/\x.2.1<=6)/\(o=Vp->es=[]):=by
 rcases h with ⟨a,b⟩ | ⟨a,top,L,k,n,h6,c,e,b⟩
 ·exact⟨Vp,b,(λx z=>nomatch z),λ_=>a⟩
 ·obtain⟨k',n',e',hm,_⟩:=c.root
  rw[e]at e';injection e' with e'
  obtain⟨_,en⟩:=Joa e';subst en;refine⟨Vo (n,top,Zf (L top)),⟨b,_,hm,rfl⟩,λx z=>?_,λz=>nomatch z⟩
  cases z;have t:=c.tow (top+1) (Um _);rw[e]at t;exact⟨t.lev,by lia⟩
inductive Yaa(P:Vg)(w:Vb)(_cs ob:Nat->Vh)(vs:List V)(H:Hp)(Q:VK)(E:XK):Prop
 | mk:∀ p d1 d2 st c v u A B,vs=[.ref p,v,u]->QF P w ob H p d1 d2 st c->QH st A v->QH st B u->(∀ d∈A,Za d)->UpR ltK A->(∀ d∈B,Za d)->UpR ltK B->A.length<=300->B.length<=300->(∀ r lc ls H' as aq (ss:List Int),Qn H H'->H r=Vp->H' r=Vo (.tup [.ref lc,.ref ls])->H lc=Vp->H' lc=Vo (.lst (as.map V.ref))->Vm (λch a=>ChD ob H' a ch.1 ch.2.1 ch.2.2) aq as->Dif A B aq->aq.length<=A.length+B.length->H' ls=Vo (.lst (ss.map V.int))->Q (.ref r) H')->Yaa P w _cs ob vs H Q E
inductive UnI(st:StL)(H:Hp)(p:Vh)(v u:V)(oA oB:Option (Int×Nat×V))(RA RB:List Dt)(i:Nat)(σ':St)(H':Hp):Prop
 | mk:∀ (b1 b2 b3:Vh) (xs ys:List V) (hs gs R S:List Dt) (ss:List Int) (x6 x7 x8:Option V),σ'=[Vo (.ref p),Vo v,Vo u,Vo (.ref b1),Vo (.ref b2),Vo (.ref b3),x6,x7,x8]->Qn H H'->H' b1=Vo (.lst xs)->H' b2=Vo (.lst ys)->H' b3=Vo (.lst (ss.map V.int))->Vm (λd v=>TD H' 6 d v) hs xs->Vm (λd v=>TD H' 6 d v) gs ys->Jpc (Qs st) (7 - i) hs R->Jpc (Qs st) (7 - i) gs S->Rst (Jyb oA RA (7 - i)) R (Jyb oB RB (7 - i)) S->ss.length<=600 * i->UnI st H p v u oA oB RA RB i σ' H'
seal PE PT PW PA PS PSs PI PG QT PGs PO in
theorem QRc(Z:Zs mg)(T:Tx K mg CT cs ob)(vZ:Cal P w K mg base 1 "missing_from" ["others","heads"] (Yq K))(v0:Cal P w K mg base 6 "entries_of" ["pages","numbers"] (Xo P w cs ob))(JFa:Cal P w K mg base 5 "changes_between" ["old_rows","new_rows"] (Jt K ob))(v6:Cal P w K mg base 5 "root_at" ["pages","root","level"] (Z7a P w cs ob))(F:Fun K "unlike" "unlike" Xta f fd):QE P w K mg base CX0 7 f fd ["pages","one","other"] (Yaa P w cs ob):=by
 refine F.ok ZD (λvs H Q E h=>?_) (λap A outer s H vs Q E hr h=>?_)
 ·walk_at "n"
 obtain⟨p,d1,d2,st,c,v,u,RA,RB,rfl,hS,tA,tB,rA,uA,rB,uB,lA,lB,q⟩:=h;refine⟨_,(Qb (Qi 3 ZD.nd (ZA Qe))
  (Qb (Qi 4 ZD.nd (ZA Qe))
  (Qb (Qi 5 ZD.nd (ZA Qe))
  (Qb (Jm Da rfl (Qxc rfl (Z.range) (Qh (Yya (Z.TOP_LEVEL) rfl) (Qh (YQa ZPa Qd) (Qh (YQa ZPa Qd) Qe)))) (ZF (i:=6) ZD.nd rfl (OB rfl)) (Qb (Qi 3 ZD.nd (Ql ZH (pv 3) (Qr v6 hr (Qh (pv 0) (Qh (pv 1) (Qh (pv 6) Qe))))))
  (Qb (Qi 4 ZD.nd (Ql ZH (pv 4) (Qr v6 hr (Qh (pv 0) (Qh (pv 2) (Qh (pv 6) Qe))))))
  (Qb (Qi 7 ZD.nd (Qr vZ hr (Qh (pv 4) (Qh (pv 3) Qe))))
  (Qb (Qi 8 ZD.nd (Qr vZ hr (Qh (pv 3) (Qh (pv 4) Qe))))
  (Qb (Qi 5 ZD.nd (Ql ZH (Ql ZH (pv 5) (pv 7)) (pv 8)))
  (Qb (Qi 3 ZD.nd (Qr v0 hr (Qh (pv 0) (Qh (pv 7) Qe))))
  (Qg (Qi 4 ZD.nd (Qr v0 hr (Qh (pv 0) (Qh (pv 8) Qe))))))))))))
  (Qg (Qo (ZM (Qh (Qr JFa hr (Qh (pv 3) (Qh (pv 4) Qe))) (Qh (Q5 XH rfl (Z.sorted) Zfa (Qh (pv 5) Qe)) Qe))))))))),?_⟩
 refine Qm (σ:=[Vo (.ref p),Vo v,Vo u,Vp,Vp,Vp,Vp,Vp,Vp]) rfl ?_
 obtain⟨oA,vA,hA,zA⟩:=tA.rootV;obtain⟨oB,vB,hB,zB⟩:=tB.rootV;walk_at "rd";refine⟨by decide,λa1 h1=>⟨by decide,λa2 h2=>⟨by decide,λa3 h3=>⟨6,-1,⟨rfl,rfl⟩,by decide,?_⟩⟩⟩⟩
 have s1:=Qf h1 (.lst []);have s2:=Qf h2 (.lst []);have s3:=Qf h3 (.lst []);have g1:upd (upd (upd H a1 (.lst [])) a2 (.lst [])) a3 (.lst []) a1=Vo (.lst []):=s3 _ _ (s2 _ _ Qa);have g2:upd (upd (upd H a1 (.lst [])) a2 (.lst [])) a3 (.lst []) a2=Vo (.lst []):=s3 _ _ Qa;have g3:upd (upd (upd H a1 (.lst [])) a2 (.lst [])) a3 (.lst []) a3=Vo (.lst []):=Qa;have lQ:=s1.trans (s2.trans s3);generalize upd (upd (upd H a1 (.lst [])) a2 (.lst [])) a3 (.lst [])=H3 at lQ g1 g2 g3 ⊢;rw[show((6:Int) - -1).toNat=7 from rfl]
 have lT:∀ {o:Option (Int×Nat×V)} {R:List Dt},(∀ x,o=Vo x->Lev (Qs st) x.2.1 [x.1] R/\x.2.1<=6)->Jyb o R 7=[]:=λ{o R} h=>by
  cases o with
  | none=>rfl
  | some x=>exact if_neg (by have:=(h x rfl).2;lia)
 refine Z7c (λi σ' H'=>UnI st H p v u oA oB RA RB i σ' H')
  ⟨a1,a2,a3,[],[],[],[],[],[],[],_,_,_,rfl,lQ,g1,g2,g3,.nil,.nil,⟨(λd hd=>nomatch hd),Lev.nil 6⟩,⟨(λd hd=>nomatch hd),Lev.nil 6⟩,by rw[Nat.sub_zero,lT hA,lT hB];exact Rst.start,by simp⟩ ?_ ?_
 ·rintro i σ' H' hi ⟨b1,b2,b3,xs,ys,hs,gs,R,S,ss,x6,x7,x8,rfl,s',k1,k2,k3,ph,pg,lh,lg,rs,ls⟩
  obtain⟨l,hl⟩:∃ l,7 - i=l+1:=⟨6 - i,by lia⟩
  rw[hl]at lh lg rs;rw[show(6:Int) - (i:Int)=(l:Int) by lia]
  walk_at "rd";have fn:=hS.fn;have lenR:R.length<=300:=VJ (rs.a.trans (Xt oA RA _)).length_le lA;have lenS:S.length<=300:=VJ (rs.b.trans (Xt oB RB _)).length_le lB;have lhs:=lh.2.len;have lgs:=lg.2.len;rw[UJ]at lhs lgs;have lx:=Vn ph;have ly:=Vn pg;have oH:JTb (hs++Q4 oA l):=λd hd=>(mem_append.mp hd).elim (lh.1 d) (QEb oA l d)
  have oG:JTb (gs++Q4 oB l):=λd hd=>(mem_append.mp hd).elim (lg.1 d) (QEb oB l d)
  have rl1:=Xka oA l;have rl2:=Xka oB l;obtain⟨R',iD,rs1⟩:=rs.enter lh.2 λx e=>(hA x e).1
  obtain⟨S',aJ,rs2⟩:=rs1.symm.enter lg.2 λx e=>(hB x e).1
  rw[<- LM]at iD aJ;obtain⟨R2,S2,e1,e2,sL⟩:=rs2.symm.step fn iD aJ (L8 (Xt _ _ _) (JPc uA)) (L8 (Xt _ _ _) (JPc uB));have lenR2:R2.length<=300:=VJ (sL.a.trans (Xt oA RA _)).length_le lA;have lenS2:S2.length<=300:=VJ (sL.b.trans (Xt oB RB _)).length_le lB;have ln1:=e1.len;have ln2:=e2.len;obtain⟨bj,pe1,qg⟩:=e1.down;obtain⟨bO,pe2,v7⟩:=e2.down;have lle1:=qg.len;have lle2:=v7.len;refine⟨p,d1,d2,st,c,v,oA,l,rfl,hS.same s',vA,λr5 H5 zs s5 v9 g5 pz=>⟨r5,rfl,xs,s5 _ _ k1,zs,g5,Ja (by have:=Vn pz;lia),λc1 ol=>?_⟩⟩
  have lz:=Vn pz;have s6:=Qf ol (.lst (xs++zs));have g6:upd H5 c1 (.lst (xs++zs)) c1=Vo (.lst (xs++zs)):=Qa;generalize upd H5 c1 (.lst (xs++zs))=H6 at s6 g6 ⊢;have jz:=s5.trans s6;have ph6:=YM (TDs.sameT ph jz.t) (TDs.sameT pz s6.t);refine⟨p,d1,d2,st,c,u,oB,l,rfl,hS.same (s'.trans jz),vB,λr7 H7 ws s7 lI g7 pw=>⟨r7,rfl,ys,s7 _ _ (jz _ _ k2),ws,g7,Ja (by have:=Vn pw;lia),λc2 dF=>?_⟩⟩
  have lw:=Vn pw;have s8:=Qf dF (.lst (ys++ws));have g8:upd H7 c2 (.lst (ys++ws)) c2=Vo (.lst (ys++ws)):=Qa;generalize upd H7 c2 (.lst (ys++ws))=H8 at s8 g8 ⊢;have lU:=s7.trans s8;have wa:=TDs.sameT ph6 lU.t;have wb:=YM (TDs.sameT pg (jz.trans lU).t) (TDs.sameT pw s8.t);have wc:=lU _ _ g6;refine⟨c2,c1,_,_,_,_,rfl,g8,wc,wb,wa,oG,oH,by rw[Oh];lia,by rw[Oh];lia,λm1 H9 s9 og gm1=>⟨c1,c2,_,_,_,_,rfl,s9 _ _ wc,s9 _ _ g8,TDs.sameT wa s9.t,TDs.sameT wb s9.t,oH,oG,by rw[Oh];lia,by rw[Oh];lia,λm2 lV sM bN wd=>?_⟩⟩
  have sN:=s'.trans (jz.trans (lU.trans (s9.trans sM)));have sO:=(jz.trans (lU.trans (s9.trans sM))) _ _ k3;have lW:=sM _ _ gm1;refine⟨m1,rfl,_,sO,_,lW,XRb (by simp only[UJ];lia),λc3 hc3=>?_⟩
  have iV:=Qf hc3 (.lst (ss.map V.int++(((hs++Q4 oA l).map Zr).filter λn=>!decide (n∈(gs++Q4 oB l).map Zr)).map V.int))
  have jA:upd lV c3 (.lst (ss.map V.int++(((hs++Q4 oA l).map Zr).filter λn=>!decide (n∈(gs++Q4 oB l).map Zr)).map V.int)) c3=Vo (.lst (ss.map V.int++(((hs++Q4 oA l).map Zr).filter λn=>!decide (n∈(gs++Q4 oB l).map Zr)).map V.int)):=Qa
  generalize upd lV c3 (.lst (ss.map V.int++(((hs++Q4 oA l).map Zr).filter λn=>!decide (n∈(gs++Q4 oB l).map Zr)).map V.int))=H11 at iV jA ⊢
  refine⟨m2,rfl,_,jA,_,iV _ _ wd,XRb (by simp only[UJ,Oh]at ln1 ln2 ⊢;lia),λc4 hc4=>?_⟩
  have cC:=Qf hc4 (.lst ((ss.map V.int++(((hs++Q4 oA l).map Zr).filter λn=>!decide (n∈(gs++Q4 oB l).map Zr)).map V.int)++(((gs++Q4 oB l).map Zr).filter λn=>!decide (n∈(hs++Q4 oA l).map Zr)).map V.int))
  have lX:upd H11 c4 (.lst ((ss.map V.int++(((hs++Q4 oA l).map Zr).filter λn=>!decide (n∈(gs++Q4 oB l).map Zr)).map V.int)++(((gs++Q4 oB l).map Zr).filter λn=>!decide (n∈(hs++Q4 oA l).map Zr)).map V.int)) c4=_:=Qa
  generalize upd H11 c4 _=H12 at cC lX ⊢;have cG:=iV.trans cC;refine⟨p,d1,d2,st,c,m1,l,_,bj,rfl,hS.same (sN.trans cG),cG _ _ lW,pe1,by lia,by lia,λb1' sP cn br cI gb1 px=>?_⟩
  refine⟨p,d1,d2,st,c,m2,l,_,bO,rfl,hS.same (sN.trans (cG.trans br)),br _ _ (cG _ _ wd),pe2,by lia,by lia,λb2' H14 gw bP jn gb2 py=>?_⟩
  have eX:7 - (i+1)=l:=by lia
  exact⟨b1',b2',c4,cn,gw,bj,bO,R2,S2,(ss++((hs++Q4 oA l).map Zr).filter λn=>!decide (n∈(gs++Q4 oB l).map Zr))++((gs++Q4 oB l).map Zr).filter λn=>!decide (n∈(hs++Q4 oA l).map Zr),_,_,_,rfl,sN.trans (cG.trans (br.trans bP)),bP _ _ gb1,gb2,(by rw[LM,LM];exact(br.trans bP) _ _ lX),TDs.sameT px bP.t,py,by rw[eX];exact qg,by rw[eX];exact v7,by rw[eX];exact sL,by rw[Oh,Oh];lia⟩
 ·rintro σ' H' ⟨b1,b2,b3,xs,ys,hs,gs,R,S,ss,x6,x7,x8,rfl,s',k1,k2,k3,ph,pg,lh,lg,rs,ls⟩
  walk_at "rd";have eh:hs=R:=lh;have eg:gs=S:=lg;subst eh eg;have all:∀ {o:Option (Int×Nat×V)} {R:List Dt},(o=Vp->R=[])->Jyb o R 0=R:=λ{o R} h=>by
   cases o with
   | none=>rw[h rfl];rfl
   | some x=>exact(show(if 0<=x.2.1 then R else [])=R from if_pos (Us _))
  rw[show 7 - 7=0 from rfl,all zA,all zB]at rs
  have lR:=rs.a.length_le;have lS:=rs.b.length_le;refine⟨b1,b2,xs,ys,hs,gs,rfl,k1,k2,ph,pg,(λd hd=>rA d (rs.a.subset hd)),Dp rs.a uA,(λd hd=>rB d (rs.b.subset hd)),Dp rs.b uB,by lia,by lia,λr5 H5 as aq s5 v9 g5 pc df lc=>?_⟩
  refine⟨b3,_,_,rfl,SqL.of (s5 _ _ k3),by rw[UJ];lia,Jkb (λx hx=>let ⟨n,_,e⟩:=mem_map.mp hx;⟨n,e.symm⟩),λD H6 zs s6 hD g6 pm _=>⟨JA,λr hr=>?_⟩⟩
  have ez:zs=(zs.map ZGb).map V.int:=by
   have hz:∀ x∈zs,V.int (ZGb x)=x:=λx hx=>by
    obtain⟨n,_,e⟩:=mem_map.mp (pm.mem_iff.mp hx);rw[<- e];rfl
   exact QKb hz
  have s7:=Qf hr (.tup [.ref r5,.ref D]);exact q r r5 D _ as aq (zs.map ZGb) (s'.trans (s5.trans (s6.trans s7))) (YF (s'.trans (s5.trans s6)) hr) Qa (YF s' v9) (s7 _ _ (s6 _ _ g5)) (Paired.mapP pc λ_ _ z=>z.same (s6.trans s7)) (YWc rs uA uB rA rB df) #[0] (by rw[<- ez];exact s7 _ _ g6)
theorem YXc(re:Vm (λd v=>TD H 6 d v) es xs)(au:∀ d∈es,Jta d){i:Nat}{x:V}(hx:xs[i]?=Vo x):∃ d b r,es[i]?=Vo d/\x=.ref b/\H b=Vo (.tup (Qv d::r))/\Q6 (Qv d)/\TD H 6 d x:=by
 have hi:=(List.getElem?_eq_some_iff.mp hx).1
 have le:=Vn re;have hd:es[i]?=Vo (es[i]'#[0]):=I0 _
 have tx:=Qx re hd hx;obtain⟨k,rr,ed,hk⟩:=au _ (Og hd);generalize es[i]'#[0]=d at hd tx ed
 subst ed;obtain⟨m,b,ws,_,eb,hb,iF⟩:=id tx.tup;cases iF with
 | cons r1 _ =>
  obtain⟨_,rfl⟩:=r1.flat;exact⟨_,b,_,hd,eb,hb,hk,tx⟩
theorem Xy.same(h:Xy H ae)(s:ZK H H'):Xy H' ae:=let ⟨es,dk⟩:=h;⟨es,dk.sameT s⟩
theorem Xy.del{k:Key}{w:V}(h:Xy H ae)(hv:ZB ae k=Vo w):Xy H (Qpa ae k):=by
 obtain⟨es,dk⟩:=h;obtain⟨c,_,hm⟩:=dk.to k w (ZDb hv);obtain⟨A,C,e⟩:=L6 hm;exact⟨A++C,dk.drop ⟨A,_,C,e,rfl,rfl⟩⟩
inductive Yr(K:VD)(vs:List V)(H:Hp)(Q:VK)(E:XK):Prop
 | mk:∀ (r a:Vh) (xs:List V) (es:List Dt) (ns:List Int),vs=[.ref r,.ref a]->H r=Vo (.lst xs)->Vm (λd v=>TD H 6 d v) es xs->(∀ d∈es,Za d)->UpR ltK es->es.length<=91->SqL K H a (ns.map V.int)->ns.length<=63->(∀ r H' xs es,Qn H H'->H r=Vp->H' r=Vo (.lst xs)->Vm (λd v=>TD H' 6 d v) es xs->(∀ d∈es,Za d)->UpR ltK es->es.length<=218->Q (.ref r) H')->Yr K vs H Q E
inductive ChI(H:Hp)(r a p d:Vh)(c0:Int)(xs:List V)(ms:List Int)(i:Nat)(σ':St)(H':Hp):Prop
 | mk:∀ (ae:List (Key×V)) (x5 x6:Option V),σ'=[Vo (.ref r),Vo (.ref a),Vo (.int (c0 / 4 % 6)),Vo (.int ((xs.length:Int) / 2)),Vo (.ref d),x5,x6]->Qn H H'->H' p=Vo (.lst (ms.map V.int))->H' d=Vo (.dK ae)->ae.length<=91+2 * i->Xy H' ae->ChI H r a p d c0 xs ms i σ' H'
seal PE PT PW PA PS PSs PI PG QT PGs PO in
theorem Yra(Z:Zs mg)(T:Tx K mg CT cs ob)(JP:Cal P w K mg base 1 "_law_risen" ["_law_known"] (ZI K))(Zq:Cal P w K mg base 1 "_law_cell" ["_law_script","_law_k"] (JO K))(JQ:Cal P w K mg base 1 "_law_cells" ["_law_cell_here"] (Yb K))(sE:Cal P w K mg base 2 "_law_key" ["_law_cell_here"] (Y6 K))(F:Fun K "_law_changed" "_law_changed" YN f fd):QE P w K mg base CX0 3 f fd ["_law_rows_here","_law_script"] (Yr K):=by
 refine F.ok ZC (λvs H Q E h=>?_) (λap A outer s H vs Q E hr h=>?_)
 ·walk_at "n"
 obtain⟨r,a,xs,es,ns,rfl,bD,re,row,up,le,hS,jx,q⟩:=h;refine⟨_,(Qb (Qi 2 ZC.nd (Ql QO (Ql QL (Qr Zq hr (Qh (pv 1) (Qh Qd Qe))) Qd) Qd))
  (Qb (Qi 3 ZC.nd (Ql QL (Q5 Q8 rfl (Z.len) YK (Qh (pv 0) Qe)) Qd))
  (Qb (QK (Qq ZJ (pv 2) Qd (Qu _)) (Qg (Qo (QS Q9 rfl (Z.list) Z0 (Qh (pv 0) Qe)))) Qw)
  (Qb (QK (Qq ZJ (pv 2) Qd (Qu _)) (Qg (Qo (QP Q7 (pv 0) Zd (QY (pv 3))))) Qw)
  (Qb (QK (Qq ZJ (pv 2) Qd (Qu _)) (Qg (Qo (QP Q7 (pv 0) (QY (pv 3)) Zd))) Qw)
  (Qb (Qi 4 ZC.nd (QS (XM hr.hd) rfl (Z.dict) YEa (Qh (pv 0) Qe)))
  (Qb (Jm Da rfl (ZZ (QP Q7 (pv 1) (QY Qd) (QY Qd))) (ZF (i:=5) ZC.nd rfl (OB rfl)) (Qb (QK (PW.pt (JIa (Qq ZJ (Ql QO (Ql QL (pv 5) Qd) (Ql Jx (pv 2) Qd)) Qd (Qu _)) (Zea (Qq Xbb (Q5 Q8 rfl (Z.len) YK (Qh (pv 0) Qe)) Qd (Qu _))))) (Qb (Qi 6 ZC.nd (QA QC (QA Zl (pv 0) (Ql QO (Ql QL (pv 5) Qd) (Q5 Q8 rfl (Z.len) YK (Qh (pv 0) Qe))) (λ_ _=>rfl)) Qd (λ_ _=>rfl)))
  (Qg (QK (Qq ZJ (Ql QO (Ql QL (pv 5) Qd) Qd) Qd (Qu _)) (Qg (Zh (Zmc (pv 4) (pv 6) Zz ⟨rfl,rfl,rfl,rfl⟩))) (Qg (XE hr.u1 (pv 4) (pv 6) (Qr JQ hr (Qh (Ql QL (pv 5) Qd) Qe)) rfl))))) Qw)
  (Qg (QK (Qq ZJ (Ql QO (Ql QL (pv 5) Qd) Qd) Qd (Qu _)) (Qg (XE hr.u1 (pv 4) (Qr sE hr (Qh (Ql Zk (Ql QL (pv 5) Qd) (pv 2)) Qe)) (Qr JQ hr (Qh (Ql QL (pv 5) Qd) Qe)) rfl)) Qw))))
  (Qg (Qo (Qr JP hr (Qh (pv 4) Qe))))))))))),?_⟩
 refine Qm (σ:=[Vo (.ref r),Vo (.ref a),Vp,Vp,Vp,Vp,Vp]) rfl ?_
 have lx:=Vn re;walk_at "rd";have lY:((xs.length:Int) / 2)=((xs.length / 2:Nat):Int):=by lia
 refine⟨a,ns,0,rfl,hS,jx,λc0=>⟨c0,rfl,by unfold Zua;decide,xs,.inl (SqL.of bD),by unfold Zua;decide,?_⟩⟩
 have c6:=Dm (c0 / 4) (show(6:Int)≠0 by decide)
 refine ZL (λ_=>⟨xs,.inl (SqL.of bD),λl hl=>q l _ xs es (Qf hl _) hl Qa (TDs.sameT re (Qf hl _).t) row up #[0]⟩) λn0=>?_
 refine ZL (λ_=>⟨xs,SqL.of bD,λl hl=>?_⟩) λn1=>?_
 ·rw[lY,Qab]
  exact q l _ _ (es.take (xs.length / 2)) (Qf hl _) hl Qa (Zo _ (TDs.sameT re (Qf hl _).t)) (λd hd=>row d (Ie hd)) (Dp (Of _ _) up) (by rw[Oa];lia)
 refine ZL (λ_=>⟨xs,SqL.of bD,λl hl=>?_⟩) λn2=>?_
 ·rw[lY,XEa]
  exact q l _ _ (es.drop (xs.length / 2)) (Qf hl _) hl Qa (Zp _ (TDs.sameT re (Qf hl _).t)) (λd hd=>row d (mem_of_mem_drop hd)) (Dp (Iu _ _) up) (by rw[On];lia)
 have w3:0 < c0 / 4 % 6 - 1:=by
  have e0:c0 / 4 % 6≠0:=λz=>n0 (by rw[z])
  have e1:c0 / 4 % 6≠1:=λz=>n1 (by rw[z])
  lia
 obtain⟨bL,lO,cF⟩:=Zaa re row;have cF:Vm (QJb H) es bL:=cF;have lk0:=Vn cF;refine⟨r,xs,bL,rfl,bD,by lia,lO,λd gM=>?_⟩
 rw[Qja (XLa cF up)];have s0:=Qf gM (.dK bL);have g0:upd H d (.dK bL) d=Vo (.dK bL):=Qa;have we:Xy (upd H d (.dK bL)) bL:=⟨es,(YJa cF row up).sameT s0.t⟩;generalize upd H d (.dK bL)=H0 at s0 g0 we ⊢;have fin:∀ (H1:Hp) (ae:List (Key×V)),Qn H H1->H1 d=Vo (.dK ae)->ae.length<=218->Xy H1 ae->ZI K [.ref d] H1 Q E0:=λH1 ae s1 g1 l1 ⟨es,dk⟩=>⟨d,ae,rfl,g1,by lia,λp hp=>dk.key (w:=p.2) hp,dk.nd,λr H' xs ks s2 bD hr ra=>by
  obtain⟨oX,iT,eD⟩:=ra.dk dk.nd (λq hq=>dk.key (w:=q.2) hq) λq hq=>by obtain⟨c,t,_⟩:=dk.to q.1 q.2 hq;exact⟨c,t.same s2⟩
  have oV:=Vn eD;have lks:ks.length=ae.length:=by rw[ra.perm.length_eq,UJ]
  have gG:=ra.len;exact q r H' xs oX (s1.trans s2) (YF s1 bD) hr eD iT.row iT.up #[0]⟩
 refine⟨_,s0.seq hS,λp hp=>?_⟩
 obtain⟨ms,em,lm,hm⟩:=Z7b V.int ns (Vo 3) (Vo 43);rw[em];have lJ:Qn H (upd H0 p (.lst (ms.map V.int))):=s0.trans (Qf hp _);have lK:upd H0 p (.lst (ms.map V.int)) d=Vo (.dK bL):=Qf hp _ _ _ g0;have gp:upd H0 p (.lst (ms.map V.int)) p=Vo (.lst (ms.map V.int)):=Qa;have dp:p≠d:=λz=>by rw[z,g0]at hp;cases hp
 have lZ:=we.same (Qf hp (.lst (ms.map V.int))).t;generalize upd H0 p (.lst (ms.map V.int))=H00 at lJ lK gp lZ ⊢;refine⟨⟨_,SqL.of gp⟩,?_⟩
 refine Z8 (ms.map V.int) (λi σ' H'=>ChI H r a p d c0 xs ms i σ' H') ⟨bL,_,_,rfl,lJ,gp,lK,by lia,lZ⟩ (λi σ' H' _ ⟨_,_,_,_,_,h,_,_,_⟩=>SqL.of h) ?_ ?_
 ·rintro i x σ' H' hx ⟨ae,x5,x6,rfl,s1,gN,g1,l1,k1⟩
  have hi:i < 63:=by
   have:=(List.getElem?_eq_some_iff.mp hx).1
   rw[UJ]at this
   lia
  rw[Oe]at hx
  obtain⟨n,_,rfl⟩:=Option.map_eq_some_iff.mp hx;refine YDa (σ:=[Vo (.ref r),Vo (.ref a),Vo (.int (c0 / 4 % 6)),Vo (.int ((xs.length:Int) / 2)),Vo (.ref d),Vo (.int n),x6]) λR hR=>?_
  have two:∀ (ae:List (Key×V)) (x6:Option V) (H2:Hp),Qn H H2->H2 p=Vo (.lst (ms.map V.int))->H2 d=Vo (.dK ae)->ae.length<=91+2 * i+1->Xy H2 ae->R [Vo (.ref r),Vo (.ref a),Vo (.int (c0 / 4 % 6)),Vo (.int ((xs.length:Int) / 2)),Vo (.ref d),Vo (.int n),x6] H2:=by
   intro ae x6 H2 s2 wg g2 l2 k2;refine hR _ _ ?_
   clear hR;walk_at "rd";refine⟨by unfold Zua;decide,ZL (λ_=>⟨by unfold Zua;decide,_,rfl,λrc H3 s3 fz=>⟨by unfold Zua;decide,_,rfl,λy hy=>?_⟩⟩) λ_=>⟨ae,_,_,rfl,s2,wg,g2,by lia,k2⟩⟩
   have g3:=s3 _ _ g2;obtain⟨k,rfl⟩:=QBa hy;exact⟨_,YYa.k g3 (QD #[0]),_,_,_,rfl,Jd (s2.trans s3) gM,by rw[Qk dp];exact s3 _ _ wg,Qa,VJ (ZG _ _ _) #[0],k2.put (s3.t.trans (Jc g3)) hy (fz.sameT (Jc g3))⟩
  clear hR;walk_at "rd";have oM:=two ae x6 H' s1 gN g1 #[0] k1
  refine⟨by unfold Zua;decide,?_⟩
  try refine⟨w3,?_⟩
  refine ZL (λ_=>⟨xs,.inl (SqL.of (s1 _ _ bD)),ZL (λhp=>?_) λ_=>oM⟩) λ_=>oM
  have h1:=Dm (n / 15) (show(xs.length:Int)≠0 by lia)
  have h2:=Int.emod_lt_of_pos (n / 15) (show(0:Int) < xs.length by lia)
  have hj:(n / 15 % (xs.length:Int)).toNat < xs.length:=by lia
  have sQ:=Zx (xs:=xs) (j:=(n / 15 % (xs.length:Int)).toNat) (I0 hj)
  rw[show(((n / 15 % (xs.length:Int)).toNat:Nat):Int)=n / 15 % (xs.length:Int) by lia]at sQ
  obtain⟨e,b,ws,_,eb,hb,sR,_⟩:=YXc re (λd hd=>(row d hd).ent) (I0 hj)
  rw[eb]at sQ;obtain⟨k2,ek2⟩:=ZFb sR;rw[ek2]at hb sR;refine⟨by unfold Zua;decide,xs,.inl (SqL.of (s1 _ _ bD)),hp,xs,SqL.of (s1 _ _ bD),_,sQ,b,rfl,_,SqT.of (s1 _ _ hb),_,at0 _ _,by unfold Zua;decide,ZL (λ_=>?_) λ_=>?_⟩
  ·refine⟨.inl ⟨_,.inl g1⟩,ae,g1,k2,rfl,λv hv=>?_,λ_=>two ae _ H' s1 gN g1 #[0] k1⟩
   have ld:=YWa ae k2;exact two _ _ _ (Jd s1 gM) (by rw[Qk dp];exact gN) Qa #[0] ((k1.del hv).same (Jc g1))
  ·refine⟨by unfold Zua;decide,_,rfl,λrc H3 s3 fz=>?_⟩
   have g3:=s3 _ _ g1;exact⟨_,YYa.k (k:=k2) g3 (QD #[0]),two _ _ _ (Jd (s1.trans s3) gM) (by rw[Qk dp];exact s3 _ _ gN) Qa (VJ (ZG _ _ _) #[0]) (k1.put (s3.t.trans (Jc g3)) sR (fz.sameT (Jc g3)))⟩
 ·rintro σ' H1 ⟨ae,x5,x6,rfl,s1,gN,g1,l1,k1⟩
  rw[UJ]at l1;walk_at "rd";exact fin H1 ae s1 g1 #[0] k1
abbrev Ch:=V×Option (List Dt)×Option (List Dt)
theorem JVb{fs:List Dt}(r1:∀ d∈es,Za d)(u1:UpR ltK es)(r2:∀ d∈fs,Za d)(u2:UpR ltK fs)(h:∀ k x,Q6 k->(QZ es k x↔QZ fs k x)):es=fs:=by
 refine UpR.ext ltK.irr ltK.tr u1 u2 λd=>⟨λhd=>?_,λhd=>?_⟩
 ·obtain⟨k,c,rfl,hk⟩:=r1 d hd
  exact(h k (Vo c) hk).mp hd
 ·obtain⟨k,c,rfl,hk⟩:=r2 d hd
  exact(h k (Vo c) hk).mpr hd
theorem Qxd{n:Option (List Dt)}(row:∀ d∈es,Za d)(up:UpR ltK es)(hk:Q6 k)(g:QZ es k o)(ne:o≠n):∃ aj,Zzb k n es aj/\(∀ d∈aj,Za d)/\UpR ltK aj/\aj.length<=es.length+1/\∀ k' x,QZ aj k' x↔(k'=k/\x=n)\/(k'≠k/\QZ es k' x):=by
 cases n with
 | some c =>
  obtain⟨aj,p⟩:=XPb (row:=.t [.v k,.t c]) row up hk;have m:=p.mem ltK.irr;have u':=p.up up rfl ltK.tr;have le:aj.length<=es.length+1:=by
   obtain⟨A,C,e,h | ⟨o',h,_⟩,_⟩:=p <;> rw[e,h] <;> simp <;> lia
  have bF:∀ d∈aj,Za d:=λd hd=>by
   rcases(m d).mp hd with rfl | ⟨h,_⟩
   ·exact⟨k,c,rfl,hk⟩
   ·exact row d h
  refine⟨aj,p,bF,u',le,λk' x=>?_⟩
  have eO:Dt.t [.v k,.t c]∈aj:=(m _).mpr (.inl rfl);cases x with
  | some c' =>
   show Dt.t [.v k',.t c']∈aj↔_;rw[m]
   constructor
   ·rintro(e | ⟨h,ne'⟩)
    ·injection e with e
     injection e with e1 e
     injection e with e2 _
     injection e1 with e1
     injection e2 with e2
     exact .inl ⟨e1,by rw[e2]⟩
    ·exact .inr ⟨ne',h⟩
   ·rintro(⟨rfl,e⟩ | ⟨ne',h⟩)
    ·injection e with e
     exact .inl (by rw[e])
    ·exact .inr ⟨h,ne'⟩
  | none =>
   constructor
   ·intro h
    by_cases e:k'=k
    ·subst e;exact absurd rfl (h _ eO)
    ·exact .inr ⟨e,λd hd z=>h d ((m d).mpr (.inr ⟨hd,λz'=>e (by rw[<- z,z'])⟩)) z⟩
   ·rintro(⟨_,e⟩ | ⟨ne',h⟩)
    ·cases e
    ·intro d hd z
     rcases(m d).mp hd with rfl | ⟨h',_⟩
     ·exact ne' z.symm
     ·exact h d h' z
 | none =>
  cases o with
  | none=>exact absurd rfl ne
  | some c =>
   obtain⟨A,C,e⟩:=L6 (show Dt.t [.v k,.t c]∈es from g)
   have p:XN k es (A++C):=⟨A,_,C,e,rfl,rfl⟩;have m:=p.mem up ltK.irr;have bF:∀ d∈A++C,Za d:=λd hd=>row d ((m d).mp hd).1
   refine⟨A++C,p,bF,p.up up,by rw[e];simp;lia,λk' x=>?_⟩
   cases x with
   | some c' =>
    show Dt.t [.v k',.t c']∈A++C↔_;rw[m]
    constructor
    ·rintro⟨h,ne'⟩;exact .inr ⟨ne',h⟩
    ·rintro(⟨_,e⟩ | ⟨ne',h⟩)
     ·cases e
     ·exact⟨h,ne'⟩
   | none =>
    constructor
    ·intro h
     by_cases e':k'=k
     ·exact .inl ⟨e',rfl⟩
     ·exact .inr ⟨e',λd hd z=>h d ((m d).mpr ⟨hd,λz'=>e' (by rw[<- z,z'])⟩) z⟩
    ·rintro(⟨e',_⟩ | ⟨_,h⟩)
     ·intro d hd z;exact((m d).mp hd).2 (by rw[z,e'])
     ·intro d hd z;exact h d ((m d).mp hd).1 z
theorem JWb:∀ {cz:List Ch} {es:List Dt},(∀ d∈es,Za d)->UpR ltK es->(∀ c∈cz,Q6 c.1/\QZ es c.1 c.2.1/\c.2.1≠c.2.2)->(cz.map Do).Nodup->∃ aj,Jw cz es aj/\(∀ d∈aj,Za d)/\UpR ltK aj/\aj.length<=es.length+cz.length/\∀ k x,QZ aj k x↔(∃ c∈cz,c.1=k/\c.2.2=x)\/((∀ c∈cz,c.1≠k)/\QZ es k x)
 | [],es,row,up,_,_=>⟨es,.nil,row,up,Um _,λk x=>by simp⟩
 | (k,o,n)::cz,es,row,up,h,nd=>by
  rw[UH,nodup_cons]at nd;obtain⟨hk,g,ne⟩:=h _ VN;obtain⟨bj,c1,sS,up1,l1,m1⟩:=Qxd row up hk g ne;have nk:∀ c∈cz,c.1≠k:=λc hc z=>nd.1 (mem_map.mpr ⟨c,hc,z⟩)
  obtain⟨aj,mv,bF,cU,l',m'⟩:=JWb (cz:=cz) sS up1 (λc hc=>by
   obtain⟨a,b,d⟩:=h c (VO _ hc);exact⟨a,(m1 _ _).mpr (.inr ⟨nk c hc,b⟩),d⟩) nd.2
  refine⟨aj,.cons g c1 mv,bF,cU,by rw[UB];lia,λk' x=>?_⟩
  rw[m',m1]
  constructor
  ·rintro(⟨c,hc,a,b⟩ | ⟨a,(⟨rfl,rfl⟩ | ⟨ne',b⟩)⟩)
   ·exact .inl ⟨c,VO _ hc,a,b⟩
   ·exact .inl ⟨_,VN,rfl,rfl⟩
   ·exact .inr ⟨λc hc z=>by
     rcases mem_cons.mp hc with rfl | hc
     ·exact ne' z.symm
     ·exact a c hc z,b⟩
  ·rintro(⟨c,hc,a,b⟩ | ⟨a,b⟩)
   ·rcases mem_cons.mp hc with rfl | hc
    ·exact .inr ⟨λc hc z=>nk c hc (z.trans a.symm),.inl ⟨a.symm,b.symm⟩⟩
    ·exact .inl ⟨c,hc,a,b⟩
   ·exact .inr ⟨λc hc=>a c (VO _ hc),.inr ⟨λz=>a _ VN z.symm,b⟩⟩
theorem Jw.det:∀ {cz:List Ch} {es a b:List Dt},(∀ d∈es,Za d)->UpR ltK es->es.length+cz.length<=900->(∀ c∈cz,Q6 c.1)->Jw cz es a->Jw cz es b->a=b
 | [],_,_,_,_,_,_,_,.nil,.nil=>rfl
 | (k,o,n)::cz,es,_,_,row,up,le,hk,.cons g c m,.cons g' c' m'=>by
  rw[UB]at le;have:=Zzb.det ⟨row,up,by lia⟩ c c'
  subst this;obtain⟨r1,u1,l1⟩:=Yoa.put ⟨row,up,by lia⟩ (hk _ VN) c
  exact Jw.det r1 u1 #[0] (λc hc=>hk c (VO _ hc)) m m'
def Xz(c:Ch):Ch:=(c.1,c.2.2,c.2.1)
structure ZX(A B:List Dt)(cz:List Ch):Prop where
 nd:(cz.map Do).Nodup
 mem:∀ c∈cz,Q6 c.1/\QZ A c.1 c.2.1/\QZ B c.1 c.2.2/\c.2.1≠c.2.2
theorem Dif.some{aq:List Ch}(h:Dif A B aq):ZX A B aq:=⟨by
 rw[nodup_iff_pairwise_ne,Di];exact Dj (λ{a b} l e=>by rw[e]at l;exact ltK.irr _ l) h.up,λc hc=>(h.mem c.1 c.2.1 c.2.2).mp hc⟩
theorem ZX.perm(h:ZX A B cz)(p:dz.Perm cz):ZX A B dz:=⟨(p.map Do).nodup_iff.mpr h.nd,λc hc=>h.mem c (p.mem_iff.mp hc)⟩
theorem ZX.sub(h:ZX A B cz)(p:dz.Sublist cz):ZX A B dz:=⟨List.Nodup.sublist (p.map Do) h.nd,λc hc=>h.mem c (p.subset hc)⟩
theorem ZX.back(h:ZX A B cz):ZX B A (cz.map Xz):=⟨by rw[map_map];exact h.nd,λc hc=>by
 obtain⟨d,hd,rfl⟩:=mem_map.mp hc;obtain⟨a,b,c,e⟩:=h.mem d hd;exact⟨a,c,b,VR e⟩⟩
theorem ZX.go(h:ZX A B cz)(row:∀ d∈A,Za d)(up:UpR ltK A):∃ M,Jw cz A M/\(∀ d∈M,Za d)/\UpR ltK M/\M.length<=A.length+cz.length/\∀ k x,QZ M k x↔(∃ c∈cz,c.1=k/\c.2.2=x)\/((∀ c∈cz,c.1≠k)/\QZ A k x) :=
 JWb row up (λc hc=>by obtain⟨a,b,_,e⟩:=h.mem c hc;exact⟨a,b,e⟩) h.nd
theorem JQc(r1:∀ d∈A,Za d)(u1:UpR ltK A)(r2:∀ d∈B,Za d)(u2:UpR ltK B)(h:ZX A B cz)(all:∀ k o n,Q6 k->QZ A k o->QZ B k n->o≠n->∃ c∈cz,c.1=k)(rM:∀ d∈M,Za d)(uM:UpR ltK M)(m:∀ k x,QZ M k x↔(∃ c∈cz,c.1=k/\c.2.2=x)\/((∀ c∈cz,c.1≠k)/\QZ A k x)):M=B:=by
 refine JVb rM uM r2 u2 λk x hk=>?_
 rw[m];obtain⟨o,ho⟩:=QZ.ex A k r1;obtain⟨n,hn⟩:=QZ.ex B k r2
 constructor
 ·rintro(⟨c,hc,rfl,rfl⟩ | ⟨a,b⟩)
  ·exact(h.mem c hc).2.2.1
  ·have e:o=n:=L7 λne=>by
    obtain⟨c,hc,e⟩:=all k o n hk ho hn ne;exact a c hc e
   rw[QZ.det u1 b ho,e];exact hn
 ·intro hx
  by_cases e:∃ c∈cz,c.1=k
  ·obtain⟨c,hc,rfl⟩:=e
   exact .inl ⟨c,hc,rfl,QZ.det u2 (h.mem c hc).2.2.1 hx⟩
  ·have no:∀ c∈cz,c.1≠k:=λc hc z=>e ⟨c,hc,z⟩
   refine .inr ⟨no,?_⟩
   have e':o=n:=L7 λne=>by
    obtain⟨c,hc,z⟩:=all k o n hk ho hn ne;exact no c hc z
   rw[QZ.det u2 hx hn,<- e'];exact ho
theorem Qyd{N:List Dt}(r1:∀ d∈A,Za d)(u1:UpR ltK A)(r2:∀ d∈B,Za d)(u2:UpR ltK B)(h:ZX A B (cz++dz))(all:∀ k o n,Q6 k->QZ A k o->QZ B k n->o≠n->∃ c∈cz++dz,c.1=k)
 (rM:∀ d∈M,Za d) (uM:UpR ltK M) (m:∀ k x,QZ M k x↔(∃ c∈cz,c.1=k/\c.2.2=x)\/((∀ c∈cz,c.1≠k)/\QZ A k x))
 (rN:∀ d∈N,Za d) (uN:UpR ltK N) (n:∀ k x,QZ N k x↔(∃ c∈dz.map Xz,c.1=k/\c.2.2=x)\/((∀ c∈dz.map Xz,c.1≠k)/\QZ B k x)):N=M:=by
 refine JVb rN uN rM uM λk x hk=>?_
 rw[m,n];obtain⟨o,ho⟩:=QZ.ex A k r1;obtain⟨n',hn⟩:=QZ.ex B k r2;have nd:=h.nd;rw[LM,Db]at nd;have l6:∀ c∈cz,∀ d∈dz,c.1≠d.1:=λc hc d hd=>nd.2.2 _ (mem_map.mpr ⟨c,hc,rfl⟩) _ (mem_map.mpr ⟨d,hd,rfl⟩)
 have bk:(∃ c∈dz.map Xz,c.1=k/\c.2.2=x)↔∃ c∈dz,c.1=k/\c.2.1=x:=by
  constructor
  ·rintro⟨c,hc,a,b⟩
   obtain⟨d,hd,rfl⟩:=mem_map.mp hc;exact⟨d,hd,a,b⟩
  ·rintro⟨d,hd,a,b⟩
   exact⟨Xz d,mem_map.mpr ⟨d,hd,rfl⟩,a,b⟩
 have bn:(∀ c∈dz.map Xz,c.1≠k)↔∀ c∈dz,c.1≠k:=by
  constructor
  ·exact λz d hd=>z (Xz d) (mem_map.mpr ⟨d,hd,rfl⟩)
  ·intro z c hc
   obtain⟨d,hd,rfl⟩:=mem_map.mp hc;exact z d hd
 rw[bk,bn]
 by_cases hc:∃ c∈cz,c.1=k
 ·obtain⟨c,hc,rfl⟩:=hc
  have gb:=(h.mem c (VS _ hc)).2.2.1;have jB:∀ d∈dz,d.1≠c.1:=λd hd z=>l6 c hc d hd z.symm
  constructor
  ·rintro(⟨d,hd,a,_⟩ | ⟨_,b⟩)
   ·exact absurd a (jB d hd)
   ·exact .inl ⟨c,hc,rfl,QZ.det u2 gb b⟩
  ·rintro(⟨c',bQ,a,b⟩ | ⟨a,_⟩)
   ·have wj:=(h.mem c' (VS _ bQ)).2.2.1
    rw[a,b]at wj;exact .inr ⟨jB,wj⟩
   ·exact absurd rfl (a c hc)
 ·have ma:∀ c∈cz,c.1≠k:=λc h' z=>hc ⟨c,h',z⟩
  by_cases hd:∃ d∈dz,d.1=k
  ·obtain⟨d,hd,rfl⟩:=hd
   have ga:=(h.mem d (Ur _ hd)).2.1
   constructor
   ·rintro(⟨d',bo,a,b⟩ | ⟨a,_⟩)
    ·have wl:=(h.mem d' (Ur _ bo)).2.1
     rw[a,b]at wl;exact .inr ⟨ma,wl⟩
    ·exact absurd rfl (a d hd)
   ·rintro(⟨c,bQ,a,_⟩ | ⟨_,b⟩)
    ·exact absurd a (ma c bQ)
    ·exact .inl ⟨d,hd,rfl,QZ.det u1 ga b⟩
  ·have jB:∀ d∈dz,d.1≠k:=λd h' z=>hd ⟨d,h',z⟩
   have e:o=n':=L7 λne=>by
    obtain⟨c,bQ,z⟩:=all k o n' hk ho hn ne
    rcases mem_append.mp bQ with h' | h'
    ·exact ma c h' z
    ·exact jB c h' z
   constructor
   ·rintro(⟨d,bo,a,_⟩ | ⟨_,b⟩)
    ·exact absurd a (jB d bo)
    ·exact .inr ⟨ma,by rw[QZ.det u2 b hn,<- e];exact ho⟩
   ·rintro(⟨c,bQ,a,_⟩ | ⟨_,b⟩)
    ·exact absurd a (ma c bQ)
    ·exact .inr ⟨jB,by rw[QZ.det u1 b ho,e];exact hn⟩
inductive J2(K:VD)(vs:List V)(H:Hp)(Q:VK)(E:XK):Prop
 | mk:∀ l xs c,vs=[.ref l,.int c]->H l=Vo (.lst xs)->xs.length<=900->(∀ r H' ys,Qn H H'->H r=Vp->H' r=Vo (.lst ys)->ys.Perm xs->Q (.ref r) H')->J2 K vs H Q E
seal PE PT PW PA PS PSs PI PG QT PGs PO in
theorem Yba(Z:Zs mg)(T:Tx K mg CT cs ob)(F:Fun K "_law_mixed_up" "_law_mixed_up" Ym f fd):QE P w K mg base CX0 1 f fd ["_law_some","_law_cell_here"] (J2 K):=by
 refine F.ok Jf (λvs H Q E h=>?_) (λap A outer s H vs Q E hr h=>?_)
 ·walk_at "n"
 obtain⟨l,xs,c,rfl,hl,lx,q⟩:=h;refine⟨_,(Qb (Qi 2 Jf.nd (QS Q9 rfl (Z.list) Z0 (Qh (pv 0) Qe)))
  (Qb (QK (Qq ZJ (Ql QO (pv 1) Qd) Qd (Qu _)) (Qg (Qi 2 Jf.nd (YBb (pv 2) hr.hd rfl (Z.reversed) rfl (Z.list)))) Qw)
  (Qb (Qi 3 Jf.nd (Ql QO (Ql QL (pv 1) Qd) (Ql Zk (Q5 Q8 rfl (Z.len) YK (Qh (pv 2) Qe)) Qd)))
  (Qg (Qo (Ql ZH (QP Q7 (pv 2) (QY (pv 3)) Zd) (QP Q7 (pv 2) Zd (QY (pv 3))))))))),?_⟩
 refine Qm (σ:=[Vo (.ref l),Vo (.int c),Vp,Vp]) rfl ?_
 refine Zla λR hR=>?_
 have go:∀ f H1 zs,Qn H H1->H1 f=Vo (.lst zs)->zs.Perm xs->R [Vo (.ref l),Vo (.int c),Vo (.ref f),Vp] H1:=by
  intro f H1 zs s1 gf pm;refine hR _ _ ?_
  clear hR;have lz:=pm.length_eq;have h1:=Dm (c / 2) (show(zs.length:Int)+1≠0 by lia)
  have h2:=Int.emod_lt_of_pos (c / 2) (show(0:Int) < (zs.length:Int)+1 by lia)
  obtain⟨j,ej⟩:∃ j:Nat,c / 2 % ((zs.length:Int)+1)=j:=⟨_,(Int.toNat_of_nonneg h1).symm⟩;walk_at "rd";refine⟨by unfold Zua;decide,zs,.inl (SqL.of gf),by lia,zs,SqL.of gf,λp1 bd=>?_⟩
  rw[ej,XEa];have s2:=Qf bd (.lst (zs.drop j));have g2:upd H1 p1 (.lst (zs.drop j)) p1=Vo (.lst (zs.drop j)):=Qa;generalize upd H1 p1 (.lst (zs.drop j))=H2 at s2 g2 ⊢;refine⟨zs,SqL.of (s2 _ _ gf),λp2 bM=>?_⟩
  rw[Qab];have s3:=Qf bM (.lst (zs.take j));refine⟨zs.drop j,s3 _ _ g2,zs.take j,Qa,VL (QD (by rw[On,Oa];lia)),λp3 eC=>?_⟩
  have lQ:=s1.trans (s2.trans s3);exact q p3 _ _ (lQ.trans (Qf eC _)) (YF lQ eC) Qa ((perm_append_comm.trans (by rw[Ir])).trans pm)
 clear hR;walk_at "rd";refine⟨xs,.inl (SqL.of hl),λf hf=>ZL (λ_=>⟨xs,SqL.of Qa,λD hD=>?_⟩) λ_=>go f _ xs (Qf hf _) Qa (Li _)⟩
 exact go D _ _ ((Qf hf _).trans (Qf hD _)) Qa (reverse_perm xs)
inductive Qka(aD:VD)(ob:Nat->Vh)(vs:List V)(H:Hp)(Q:VK)(E:XK):Prop
 | mk:∀ r l xs es as,∀ cs:List Ch,∀ aj,vs=[.ref r,.ref l]->H r=Vo (.lst xs)->Vm (λd v=>TD H 6 d v) es xs->(∀ d∈es,Za d)->UpR ltK es->H l=Vo (.lst (as.map V.ref))->Qsa ob H cs as->(∀ c∈cs,Q6 c.1/\c.2.1≠c.2.2)->Jw cs es aj->es.length+cs.length<=400->(∀ r2 H' cn,Qn H H'->H r2=Vp->H' r2=Vo (.lst cn)->Vm (λd v=>TD H' 6 d v) aj cn->Q (.ref r2) H')->Qka aD ob vs H Q E
seal PE PT PW PA PS PSs PI PG QT PGs PO in
theorem ZHb(Z:Zs mg)(T:Tx K mg CT cs ob)(JP:Cal P w K mg base 1 "_law_risen" ["_law_known"] (ZI K))(wm:MeV P w K mg base 1 (ob 4) "told" (Zv K ob))(sT:MeV P w K mg base 1 (ob 5) "told" (Zv K ob))(Ys:MeV P w K mg base 1 (ob 6) "told" (Zv K ob))(Xp:MeV P w K mg base 1 (ob 7) "told" (Zv K ob))(F:Fun K "_law_with" "_law_with" QTa f fd):QE P w K mg base CX0 2 f fd ["_law_rows_here","_law_changes"] (Qka K ob):=by
 refine F.ok Yy (λvs H Q E h=>?_) (λap A outer s H vs Q E hr h=>?_)
 ·walk_at "n"
 obtain⟨r,l,xs,es,as,cs,aj,rfl,gr,px,row,up,gl,wn,hkc,mv,le,q⟩:=h;refine⟨_,(Qb (Qi 2 Yy.nd (QS (XM hr.hd) rfl (Z.dict) YEa (Qh (pv 0) Qe)))
  (Qb (Jm Da rfl (ZZ (pv 1)) (ZF (i:=3) Yy.nd rfl (OB rfl)) (Qb (Qi 4 Yy.nd (PE1.pe (XI (k:=1) (pv 3) hr rfl) Ze))
  (Qg (QK (Qq ZJ (QA QC (pv 4) Qd (λ_ _=>rfl)) JW (Qu _)) (Qg (Zh (Zlc (pv 2) (QA QC (pv 4) Qd (λ_ _=>rfl)) ⟨rfl,rfl,rfl,rfl⟩))) (Qg (XE hr.u1 (pv 2) (QA QC (pv 4) Qd (λ_ _=>rfl)) (QA QC (pv 4) (YQa ZPa Qd) (λ_ _=>rfl)) rfl))))))
  (Qg (Qo (Qr JP hr (Qh (pv 2) Qe)))))),?_⟩
 refine Qm (σ:=[Vo (.ref r),Vo (.ref l),Vp,Vp,Vp]) rfl ?_
 have lx:=Vn px;walk_at "rd";obtain⟨ae,lO,cF⟩:=Zaa px row;have cF:Vm (QJb H) es ae:=cF;have lk:=Vn cF;refine⟨r,xs,ae,rfl,gr,by lia,lO,λD hD=>?_⟩
 rw[Qja (XLa cF up)];have s1:=Qf hD (.dK ae);have gD:upd H D (.dK ae) D=Vo (.dK ae):=Qa;have dk:=(YJa cF row up).sameT s1.t;generalize upd H D (.dK ae)=H1 at s1 gD dk ⊢;have sU:=Vn wn;have nlD:l≠D:=Qy gl hD;have tol:∀ oo nn:V,MeV P w K mg base 1 (ob (Zva oo nn)) "told" (Zv K ob):=λoo nn=>by
  unfold Zva
  split
  ·exact sT.mono #[1]
  ·exact Ys.mono #[1]
  ·exact Xp.mono #[1]
 refine⟨⟨_,SqL.of (s1 _ _ gl)⟩,Z8 (as.map V.ref) (λi σ' H'=>∃ ae ei x3 x4,σ'=[Vo (.ref r),Vo (.ref l),Vo (.ref D),x3,x4]/\Qn H H'/\H' D=Vo (.dK ae)/\DkD H' ae ei/\Jw (cs.drop i) ei aj/\ae.length<=xs.length+i) ⟨ae,es,_,_,rfl,s1,gD,dk,mv,by lia⟩ (λi σ' H' _ ⟨_,_,_,_,_,s,_⟩=>SqL.of (s _ _ gl)) ?_ ?_⟩
 ·rintro i x σ' H' hx ⟨ae,ei,x3,x4,rfl,s',iU,cE,fk,l'⟩
  rw[Oe,Dl]at hx
  obtain⟨a,ha,rfl⟩:=hx;have hi:=(List.getElem?_eq_some_iff.mp ha).1
  have hc:=I0 (l:=cs) (i:=i) #[0]
  have hC:=Qx wn hc ha;have fL:=hkc _ (Og hc);have ed:=Iy (show i < cs.length by lia)
  rw[ed]at fk;generalize cs[i]'#[0]=c at hC fL fk
  obtain⟨k,o,n⟩:=c;dsimp only at hC fL;obtain⟨hk,one⟩:=fL;obtain⟨ov,nv,hA,tO,tN⟩:=hC;obtain⟨dx,ea⟩:=hA.same s';cases fk with
  | cons g ch fk =>
  rename_i e1;obtain⟨kk,rfl⟩:=ZFb hk;have nn:∀ {c:List Dt} {x:V} {H:Hp},TD H 5 (.t c) x->x≠.non:=λ{c x H} t z=>by obtain⟨_,_,_,_,e,_⟩:=TD.tup t;rw[z]at e;cases e
  walk_at "rd";refine Xr rfl ea rfl (T.ob_ _ (Zra ov nv)).cl (tol ov nv) ⟨a,kV kk,ov,nv,rfl,⟨dx,ea⟩,λt H2 s2 ht gt=>?_⟩
  have jy:=s'.trans s2;have gc:=s2 _ _ iU;have gd:=cE.sameT s2.t;cases n with
  | none =>
   have en:nv=.non:=tN.flat.2;subst en;obtain⟨c0,rfl⟩:∃ c0,o=Vo c0:=by
    cases o with
    | none=>exact absurd rfl one
    | some c0=>exact⟨c0,rfl⟩
   rw[show JAa (kV kk) ov .non=[.str (Ll "out"),kV kk,ov] by unfold JAa;rw[if_neg (nn tO),if_pos rfl]]at gt
   obtain⟨k',w',c',dw,e',_⟩:=gd.of _ g;have ek:kk=k':=J7a (congrArg Qv e');subst ek;refine⟨t,rfl,_,SqT.of gt,_,at0 _ _,rfl,?_⟩
   rw[if_pos rfl];have ld:=YWa ae kk;have st:=Jc (o:=.dK (Qpa ae kk)) gc;exact⟨.inl ⟨_,.inl gc⟩,t,rfl,_,SqT.of gt,_,at1 _ _ _,ae,gc,kk,rfl,w',YIa gd.nd dw,_,e1,_,_,⟨rfl,rfl⟩,Jd jy hD,Qa,(gd.drop ch).sameT st,fk,by lia⟩
  | some c1 =>
   have nnn:=nn tN;obtain⟨z,tl,et,hh,ix1,ixl⟩:∃ (z:Str) (tl:List V),JAa (kV kk) ov nv=.str z::tl/\V.str z≠.str (Ll "out")/\atI (.str z::tl) 1=Vo (kV kk)/\atI (.str z::tl) (-1)=Vo nv:=by
    unfold JAa
    by_cases e:ov=.non
    ·rw[if_pos e];exact⟨_,_,rfl,by decide,at1 _ _ _,rfl⟩
    ·rw[if_neg e,if_neg nnn];exact⟨_,_,rfl,by decide,at1 _ _ _,rfl⟩
   rw[et]at gt;refine⟨t,rfl,_,SqT.of gt,_,at0 _ _,rfl,?_⟩
   rw[if_neg hh];have lp:=ZG ae kk nv;have st:=Jc (o:=.dK (JY ae kk nv)) gc;exact⟨t,rfl,_,SqT.of gt,nv,ixl,t,rfl,_,SqT.of gt,kV kk,ix1,_,YYa.k (k:=kk) gc (QD #[0]),_,e1,_,_,⟨rfl,rfl⟩,Jd jy hD,Qa,(gd.put hk (tN.same jy) ch).sameT st,fk,by lia⟩
 ·rintro σ' H' ⟨ae,ei,x3,x4,rfl,s',iU,cE,fk,l'⟩
  rw[UJ,IU #[0]]at fk
  cases fk;rw[UJ]at l';walk_at "rd";refine⟨D,ae,rfl,iU,by lia,(λp hp=>cE.key (w:=p.2) hp),cE.nd,λr6 H6 xs6 ks s6 hr6 g6 ra=>?_⟩
  obtain⟨oX,iT,eD⟩:=ra.dk cE.nd (λq hq=>cE.key (w:=q.2) hq) λq hq=>by obtain⟨c,t,_⟩:=cE.to q.1 q.2 hq;exact⟨c,t.same s6⟩
  obtain rfl:=iT.uniq (cE.sameT s6.t);exact q r6 H6 xs6 (s'.trans s6) (YF s' hr6) g6 eD
structure L36(P:Vg)(w:Vb)(K:VD)(ob:Nat->Vh)(H:Hp)(p d1 d2 r r2 lc a:Vh)(st:StL)(c:Int)(v u:V)(xs ys:List V)(es fs:List Dt)(as:List Vh)(aq:List Ch)(ns:List Int):Prop where
 sa:QF P w ob H p d1 d2 st c
 t1:QH st es v
 t2:QH st fs u
 l1:H r=Vo (.lst xs)
 p1:Vm (λd v=>TD H 6 d v) es xs
 l2:H r2=Vo (.lst ys)
 p2:Vm (λd v=>TD H 6 d v) fs ys
 lc:H lc=Vo (.lst (as.map V.ref))
 ch:Qsa ob H aq as
 sq:SqL K H a (ns.map V.int)
section
variable{P:Vg}{w:Vb}{K:VD}{cs ob:Nat->Vh}{H H':Hp}{p d1 d2 r r2 lc a:Vh}{st:StL}{c:Int}{v u:V}{xs ys:List V}{es fs:List Dt}{as:List Vh}{aq:List Ch}{ns:List Int}{Q:VK}{E:XK}
theorem Qsa.same(h:Qsa ob H aq as)(s:Qn H H'):Qsa ob H' aq as:=Paired.mapP h λc a h=>h.same s
theorem Qsa.x(h:Qsa ob H aq as)(hS:QF P w ob H p d1 d2 st c)(s:QN [p,d1,d2] H H'):Qsa ob H' aq as:=Paired.mapP h λc a h=>h.x hS s
theorem L36.same(h:L36 P w K ob H p d1 d2 r r2 lc a st c v u xs ys es fs as aq ns)(s:Qn H H'):L36 P w K ob H' p d1 d2 r r2 lc a st c v u xs ys es fs as aq ns :=
 ⟨h.sa.same s,h.t1,h.t2,s _ _ h.l1,TDs.sameT h.p1 s.t,s _ _ h.l2,TDs.sameT h.p2 s.t,s _ _ h.lc,h.ch.same s,s.seq h.sq⟩
theorem L36.x(h:L36 P w K ob H p d1 d2 r r2 lc a st c v u xs ys es fs as aq ns){ag:StL}{c':Int}(s:QN [p,d1,d2] H H')(hS:QF P w ob H' p d1 d2 ag c')(sub:∀ x∈Qs st,x∈Qs ag):L36 P w K ob H' p d1 d2 r r2 lc a ag c' v u xs ys es fs as aq ns :=
 have t:=ZN h.sa s
 ⟨hS,h.t1.mono sub,h.t2.mono sub,h.sa.lst s h.l1,TDs.sameT h.p1 t,h.sa.lst s h.l2,TDs.sameT h.p2 t,h.sa.lst s h.lc,h.ch.x h.sa s,h.sa.seq s h.sq⟩
theorem L36.moved{t:V}{cs':List Ch}{l:Vh}{as':List Vh}{N:Nat}(h:L36 P w K ob H p d1 d2 r r2 lc a st c v u xs ys es fs as aq ns)(tA:QH st A t)(rA:∀ d∈A,Za d)(uA:UpR ltK A)(cZ:ZX A B cs')(gl:H l=Vo (.lst (as'.map V.ref)))(hC:Qsa ob H cs' as')(lA:A.length<=220)(sU:cs'.length<=320)(ls:st.length<=N)(hN:N<=13000000)
 (q:∀ H' ag c' v' M,L36 P w K ob H' p d1 d2 r r2 lc a ag c' v u xs ys es fs as aq ns->QN [p,d1,d2] H H'->(∀ x∈Qs st,x∈Qs ag)->ag.length<=N+2800000->QH ag M v'->Jw cs' A M->(∀ d∈M,Za d)->UpR ltK M->M.length<=A.length+cs'.length->(∀ k x,QZ M k x↔(∃ c∈cs',c.1=k/\c.2.2=x)\/((∀ c∈cs',c.1≠k)/\QZ A k x))->Q v' H'):JBa P w cs ob [.ref p,t,.ref l] H Q E:=by
 have ix:cs'.length * (16 * (A.length+cs'.length+2))<=320 * (16 * (220+320+2)):=Nat.mul_le_mul sU #[0]
 obtain⟨M,mv,rM,uM,lM,mM⟩:=cZ.go rA uA;refine⟨p,d1,d2,st,c,t,A,l,as',cs',rfl,gl,hC,λx hx=>⟨(cZ.mem x hx).1,λe z=>(cZ.mem x hx).2.2.2 (by rw[e,z])⟩,h.sa,tA,⟨rA,uA,by lia⟩,by lia,by lia,λH' ag c' v' M' fk sx aJ sub l' tM=>?_,λk wr=>?_⟩
 ·obtain rfl:=Jw.det rA uA #[0] (λc hc=>(cZ.mem c hc).1) mv fk
  exact q H' ag c' v' M (h.x sx aJ sub) sx sub #[0] tM mv rM uM lM mM
 ·exfalso
  obtain⟨pre,o,n,post,bj,e,mp,ng⟩:=wr;subst e;have sp:=cZ.sub (sublist_append_left pre ((k,o,n)::post));obtain⟨M1,mv1,_,_,_,m1⟩:=sp.go rA uA;simp only[Oh,UB]at sU;obtain rfl:=Jw.det rA uA #[0] (λc hc=>(sp.mem c hc).1) mv1 mp
  refine ng ((m1 k o).mpr (.inr ⟨λc hc z=>?_,(cZ.mem (k,o,n) #[2]).2.1⟩))
  have nd:=cZ.nd;rw[LM,Db]at nd;exact nd.2.2 c.1 (mem_map.mpr ⟨c,hc,rfl⟩) k #[2] z
theorem L36.built{zs:List V}{l:Vh}{N:Nat}(h:L36 P w K ob H p d1 d2 r r2 lc a st c v u xs ys es fs as aq ns)(g:H l=Vo (.lst zs))(re:Vm (λd v=>TD H 6 d v) M zs)(row:∀ d∈M,Za d)(up:UpR ltK M)(le:M.length<=420)(ls:st.length<=N)(hN:N<=13000000)
 (q:∀ H' ag c' v',L36 P w K ob H' p d1 d2 r r2 lc a ag c' v u xs ys es fs as aq ns->(∀ x∈Qs st,x∈Qs ag)->ag.length<=N+3360->QH ag M v'->Q v' H'):Xw P w cs ob [.ref p,.ref l] H Q E:=by
 have lx:=Vn re;have sV:(M.map Qv).Pairwise λa b=>Pl.ltV a b=true:=by rw[Di];exact Dj (λ{a b} h=>h.2.2) up
 exact⟨p,d1,d2,st,c,l,zs,M,rfl,h.sa,g,re,(λd hd=>(row d hd).ent),by lia,by lia,.inl ⟨sV,λH4 dS c4 v4 du bW cD l4 md=>q H4 dS c4 v4 (h.x du bW cD) cD #[0] md⟩⟩
end
section
variable{P:Vg}{w:Vb}{K:VD}{cs ob:Nat->Vh}{H H':Hp}{p d1 d2 r r2:Vh}{st:StL}{c:Int}{v u:V}{xs ys:List V}{es fs:List Dt}{Q:VK}{E:XK}
theorem JXb(hS:QF P w ob H p d1 d2 st c)(g:H r=Vo (.lst xs))(re:Vm (λd v=>TD H 6 d v) es xs)(row:∀ d∈es,Za d)(up:UpR ltK es)(le:es.length<=220)(ls:st.length<=10000)
 (q:∀ H' ag c' v,QN [p,d1,d2] H H'->QF P w ob H' p d1 d2 ag c'->(∀ x∈Qs st,x∈Qs ag)->ag.length<=st.length+1760->QH ag es v->Q v H') (l:Vh) (hl:H l=Vp):Xw P w cs ob [.ref p,.ref l] (upd H l (.lst xs)) Q E:=by
 have s3:=Qf hl (.lst xs);have lx:=Vn re;have sV:(es.map Qv).Pairwise λa b=>Pl.ltV a b=true:=by rw[Di];exact Dj (λ{a b} h=>h.2.2) up
 exact⟨p,d1,d2,st,c,l,xs,es,rfl,hS.same s3,Qa,TDs.sameT re s3.t,(λd hd=>(row d hd).ent),by lia,by lia,.inl ⟨sV,λH4 dS c4 v4 du bW cD l4 md=>q H4 dS c4 v4 (λb o nb e=>du b o nb (s3 _ _ e)) bW cD #[0] md⟩⟩
end
theorem QMb{α β γ:Type}{F:α->β->Prop}{f:β->γ}{zs ws:List γ}(h:zs.Perm ws):∀ {cs:List α} {as:List β},ws=as.map f->Vm F cs as->∃ cs' as',zs=as'.map f/\Vm F cs' as'/\cs'.Perm cs:=by
 induction h with
 | nil =>
  intro cs as e p;exact⟨cs,as,e,p,Li _⟩
 | cons x _ ih =>
  intro cs as e p;cases p with
  | nil=>cases e
  | cons r t =>
   injection e with e1 e2
   obtain⟨cs',as',e',p',q'⟩:=ih e2 t;exact⟨_::cs',_::as',by rw[UH,<- e1,<- e'],.cons r p',q'.cons _⟩
 | swap x y l =>
  intro cs as e p;cases p with
  | nil=>cases e
  | cons r t =>
   cases t with
   | nil=>injection e with _ e;cases e
   | cons r2 t2 =>
    injection e with e1 e2
    injection e2 with e2 e3
    exact⟨_,_,by rw[e1,e2,e3];rfl,.cons r2 (.cons r t2),List.Perm.swap _ _ _⟩
 | trans _ _ ih1 ih2 =>
  intro cs as e p;obtain⟨cs',as',e',p',q'⟩:=ih2 e p;obtain⟨cs2,as2,e2,p2,q2⟩:=ih1 e' p';exact⟨cs2,as2,e2,p2,q2.trans q'⟩
theorem ChD.sl{n:Option (List Dt)}(h:ChD ob H a k o n)(s:Y2 H H'):ChD ob H' a k o n:=by
 obtain⟨ov,nv,⟨dx,e⟩,t1,t2⟩:=h;exact⟨ov,nv,⟨dx,s.ins e⟩,t1.sameT s.t,t2.sameT s.t⟩
theorem XSb{γ:Type}{F:γ->Vh->Prop}:∀ {cs:List γ} {ys:List V},ys.length=cs.length->(∀ (i:Nat) (y:V),ys[i]?=Vo y->∃ (b:Vh) (c:γ),y=V.ref b/\cs[i]?=Vo c/\F c b)->∃ as:List Vh,ys=as.map V.ref/\Vm F cs as
 | [],[],_,_=>⟨[],rfl,.nil⟩
 | [],_::_,e,_=>by cases e
 | _::_,[],e,_=>by cases e
 | c::cs,y::ys,e,h=>by
  obtain⟨b,c',rfl,hc,hf⟩:=h 0 y rfl;cases hc;obtain⟨as,e',p⟩:=XSb (cs:=cs) (ys:=ys) (by simpa using e) λi y hy=>h (i+1) y hy
  exact⟨b::as,by rw[e'];rfl,.cons hf p⟩
theorem JYb{K:VD}{CT:Vh}(T:Tx K mg CT cs ob){k:Nat}(h5:5<=k)(M1:MeV P w K mg base 5 (ob 5) "back" (Q2 K ob))(M2:MeV P w K mg base 5 (ob 6) "back" (Q2 K ob))(M3:MeV P w K mg base 5 (ob 7) "back" (Q2 K ob)){H:Hp}{σ:St}{Q:VK}{l:Vh}{as:List Vh}{aq:List Ch}(g:H l=Vo (.lst (as.map V.ref)))(hC:Qsa ob H aq as)(le:as.length<=900)
 (q:∀ D H' as',Qn H H'->H D=Vp->H' D=Vo (.lst (as'.map V.ref))->Qsa ob H' (aq.map Xz) as'->Q (.ref D) H'):LcR (Itl K l) Z3b (Jqc P w K mg base k "back" (Yv 0)) σ Q H:=by
 have lc:=Vn hC;have bk:∀ oo nn:V,MeV P w K mg base k (ob (Zva oo nn)) "back" (Q2 K ob):=λoo nn=>by
  unfold Zva
  split
  ·exact M1.mono h5
  ·exact M2.mono h5
  ·exact M3.mono h5
 refine QGc (as.map V.ref) (λH i v=>∃ b c,v=.ref b/\(aq.map Xz)[i]?=Vo c/\ChD ob H b c.1 c.2.1 c.2.2) (λH H' i v s ⟨b,c,e,g,h⟩=>⟨b,c,e,g,h.sl s⟩) (SqL.of g) (by rw[UJ];exact VJ le #[1]) ?_ ?_
 ·intro i x H2 R hx s2 hR
  rw[Oe,Dl]at hx
  obtain⟨b,hb,rfl⟩:=hx;have hi:=(List.getElem?_eq_some_iff.mp hb).1
  have hc:=I0 (l:=aq) (i:=i) #[0]
  have hD:=(Qx hC hc hb).same s2;generalize aq[i]'#[0]=c at hc hD
  obtain⟨ov,nv,⟨dx,ea⟩,t1,t2⟩:=hD;exact Xr rfl ea rfl (T.ob_ _ (Zra ov nv)).cl (bk ov nv) ⟨b,_,ov,nv,rfl,⟨dx,ea⟩,λr H3 s3 hr h3=>hR _ _ ⟨r,Xz c,rfl,by rw[Oe,hc];rfl,nv,ov,h3,t2.sameT s3.t,t1.sameT s3.t⟩ s3⟩
 ·intro D H2 ys hD s2 gD ly hp
  obtain⟨as',rfl,p⟩:=XSb (by rw[ly,UJ,UJ];lia) hp
  exact q D H2 as' s2 hD gD p
inductive XMa(K:VD)(vs:List V)(H:Hp)(Q:VK)(E:XK):Prop
 | mk:∀ (a:Vh) (ns:List Int),vs=[.ref a]->SqL K H a (ns.map V.int)->ns.length<=63->(∀ H',Q (.bl true) H')->XMa K vs H Q E
seal PE PT PW PA PS PSs PI PG QT PGs PO in
theorem Qzd(Z:Zs mg)(T:Tx K mg CT cs ob)(JZb:Cal P w K mg base 3 "_law_rows" ["_law_script"] (Qia K))(XNa:Cal P w K mg base 3 "_law_changed" ["_law_rows_here","_law_script"] (Yr K))(k6:Jgb P w K mg base 7 "built" ["pages","rows"] (Xw P w cs ob))(wo:Cal P w K mg base 1 "_law_mixed_up" ["_law_some","_law_cell_here"] (J2 K))(jC:Jgb P w K mg base 26 "moved" ["pages","root","changes"] (JBa P w cs ob))(JRc:Cal P w K mg base 7 "unlike" ["pages","one","other"] (Yaa P w cs ob))(Zq:Cal P w K mg base 1 "_law_cell" ["_law_script","_law_k"] (JO K))(J0b:Cal P w K mg base 2 "_law_with" ["_law_rows_here","_law_changes"] (Qka K ob))(wp:Cal P w K mg base 14 "rows_of" ["pages","root"] (Z3a P w cs ob))(sW:MkV P w K mg base 1 "Pages" (ob 3) (J5 P w ob))(wq:MeV P w K mg base 5 (ob 4) "back" (Q2 K ob))(YG:MeV P w K mg base 5 (ob 5) "back" (Q2 K ob))(Jr:MeV P w K mg base 5 (ob 6) "back" (Q2 K ob))(Yc:MeV P w K mg base 5 (ob 7) "back" (Q2 K ob))(F:Fun K "law" "law" Yia f fd):QE P w K mg base CX0 27 f fd ["_law_script"] (XMa K):=by
 refine F.ok YS (λvs H Q E h=>?_) (λap A outer s H vs Q E hr h=>?_)
 ·walk_at "n"
 obtain⟨a,ns,rfl,hS,me,q⟩:=h;refine⟨_,(Qb (Qi 1 YS.nd (Qed sW (k:=26) hr #[1] rfl))
  (Qb (Qi 2 YS.nd (Qr JZb hr (Qh (pv 0) Qe)))
  (Qb (Qi 3 YS.nd (Qr XNa hr (Qh (pv 2) (Qh (pv 0) Qe))))
  (Qb (Qi 4 YS.nd (PE1.pe (ZR k6 hr (Qh (pv 1) (Qh (QS Q9 rfl (Z.list) Z0 (Qh (pv 2) Qe)) Qe))) Ze))
  (Qb (Qi 5 YS.nd (PE1.pe (ZR k6 hr (Qh (pv 1) (Qh (QS Q9 rfl (Z.list) Z0 (Qh (pv 3) Qe)) Qe))) Ze))
  (Qb (Qi 6 YS.nd (Qr wo hr (Qh (QA QC (Qr JRc hr (Qh (pv 1) (Qh (pv 4) (Qh (pv 5) Qe)))) Qd (λ_ _=>rfl)) (Qh (Ql QL (Qr Zq hr (Qh (pv 0) (Qh Qd Qe))) Qd) Qe))))
  (Qb (Qi 7 YS.nd (QS Q9 rfl (Z.list) Z0 (Qh (pv 6) Qe)))
  (Qb (QK (PW.pt (ZQb (Qq YSa (PE1.pe (ZR jC hr (Qh (pv 1) (Qh (pv 4) (Qh (pv 7) Qe)))) Ze) (pv 5) (Qu _)) (YKa (Qq (Qjd (hr.units0)) (pv 7) (pv 6) (Qu _))))) (Qg (Qo Qjb)) Qw)
  (Qb (Zoc (j:=8) ["_law_script","_law_pages","_law_rows_here","_law_others","_law_one","_law_other","_law_changes","_law_handed","_law_ways","_law_at","_law_middle"] rfl YS.nd rfl rfl (Yga (N:=["_law_script","_law_pages","_law_rows_here","_law_others","_law_one","_law_other","_law_changes","_law_handed","_law_ways","_law_at","_law_middle"]) (dsc:=Qj Yia) rfl rfl (by decide +kernel)) (ZZ (Qr wo hr (Qh (pv 6) (Qh (Ql QL (Qr Zq hr (Qh (pv 0) (Qh Qd Qe))) Qd) Qe)))) (λ_ _ _ _ _=>Jga) (λ_ _ _ _ _=>(QFb (P:=P) (w:=w) (K:=K) (mg:=mg) (base:=base) (k:=26) rfl rfl rfl rfl rfl (pv 0) hr)))
  (Qb (QK (Qq YSa (PE1.pe (ZR jC hr (Qh (pv 1) (Qh (pv 5) (Qh (pv 8) Qe)))) Ze) (pv 4) (Qu _)) (Qg (Qo Qjb)) Qw)
  (Qb (Qi 9 YS.nd (Ql QO (Ql QL (Qr Zq hr (Qh (pv 0) (Qh Qd Qe))) Qd) (Ql Zk (Q5 Q8 rfl (Z.len) YK (Qh (pv 6) Qe)) Qd)))
  (Qb (Qi 10 YS.nd (PE1.pe (ZR jC hr (Qh (pv 1) (Qh (pv 4) (Qh (QP Q7 (pv 6) Zd (QY (pv 9))) Qe)))) Ze))
  (Qb (QK (Qq YSa (pv 10) (PE1.pe (ZR k6 hr (Qh (pv 1) (Qh (Qr J0b hr (Qh (pv 2) (Qh (QP Q7 (pv 6) Zd (QY (pv 9))) Qe))) Qe))) Ze) (Qu _)) (Qg (Qo Qjb)) Qw)
  (Qb (QK (Qq YSa (PE1.pe (ZR jC hr (Qh (pv 1) (Qh (pv 5) (Qh (YJ ["_law_script","_law_pages","_law_rows_here","_law_others","_law_one","_law_other","_law_changes","_law_handed","_law_ways","_law_at","_law_middle"] rfl (Yga (N:=["_law_script","_law_pages","_law_rows_here","_law_others","_law_one","_law_other","_law_changes","_law_handed","_law_ways","_law_at","_law_middle"]) (dsc:=Qj Yia) rfl rfl (by decide +kernel)) (ZZ (QP Q7 (pv 6) (QY (pv 9)) Zd)) (λ_ _ _ _ _=>Jga) (λ_ _ _ _ _=>(QFb (P:=P) (w:=w) (K:=K) (mg:=mg) (base:=base) (k:=26) rfl rfl rfl rfl rfl (pv 0) hr))) Qe)))) Ze) (pv 10) (Qu _)) (Qg (Qo Qjb)) Qw)
  (Qb (QK (PW.pt (ZQb (Qq YSa (PE1.pe (ZR jC hr (Qh (pv 1) (Qh (pv 4) (Qh (ZA Qe) Qe)))) Ze) (pv 4) (Qu _)) (YKa (Qq Xcb (PE1.pe (ZR jC hr (Qh (pv 1) (Qh Zz (Qh (ZA Qe) Qe)))) Ze) Zz (Qu _))))) (Qg (Qo Qjb)) Qw)
  (Qg (Qo (Xyc (Yva (ZSc (hr.units)) (Qr wp hr (Qh (pv 1) (Qh (pv 4) Qe))) (pv 2) (Qu _)) (Xxc (Yva (ZSc (hr.units)) (Qr wp hr (Qh (pv 1) (Qh (pv 5) Qe))) (pv 3) (Qu _))))))))))))))))))))),?_⟩
 refine Qm (σ:=[Vo (.ref a),Vp,Vp,Vp,Vp,Vp,Vp,Vp,Vp,Vp,Vp]) rfl ?_
 refine XGb λR hR=>?_
 have go:∀ p d1 d2 r r2 st c v u xs ys es fs H1,QF P w ob H1 p d1 d2 st c->QH st es v->QH st fs u->H1 r=Vo (.lst xs)->Vm (λd v=>TD H1 6 d v) es xs->H1 r2=Vo (.lst ys)->Vm (λd v=>TD H1 6 d v) fs ys->SqL K H1 a (ns.map V.int)->(∀ d∈es,Za d)->UpR ltK es->es.length<=91->(∀ d∈fs,Za d)->UpR ltK fs->fs.length<=218->st.length<=10000->R [Vo (.ref a),Vo (.ref p),Vo (.ref r),Vo (.ref r2),Vo v,Vo u,Vp,Vp,Vp,Vp,Vp] H1:=by
  intro p d1 d2 r r2 st c v u xs ys es fs H1 hA t1 t2 l1 p1 l2 p2 sq r1 u1 n1 jD u2 n2 ls;refine hR _ _ (YDa λR2 jv=>?_)
  clear hR;walk_at "rd";refine⟨p,d1,d2,st,c,v,u,es,fs,rfl,hA,t1,t2,r1,u1,jD,u2,by lia,by lia,λrt lc0 ls0 H2 as0 chs0 ss s2 hrt wt hlc wu bJ sX lch gls=>?_⟩
  have sY:=Vn bJ;refine⟨rt,rfl,_,SqT.of wt,_,at0 _ _,a,ns,0,rfl,s2.seq sq,me,λc0=>⟨c0,rfl,by unfold Zua;decide,lc0,_,_,rfl,wu,by rw[UJ];lia,λlc H3 zs s3 sZ mf pm=>?_⟩⟩
  obtain⟨aq,as,rfl,iW,tf⟩:=QMb (F:=λc a=>ChD ob H3 a c.1 c.2.1 c.2.2) pm rfl (Paired.mapP bJ λc a h=>h.same s3)
  have lch2:=Vn iW;have lcp:=tf.length_eq;have cZ:ZX es fs aq:=sX.some.perm tf;have all:∀ k o n,Q6 k->QZ es k o->QZ fs k n->o≠n->∃ c∈aq,c.1=k:=λk o n hk a b ne=>⟨(k,o,n),tf.mem_iff.mpr ((sX.mem k o n).mpr ⟨hk,a,b,ne⟩),rfl⟩
  have br:=s2.trans s3;have h3:L36 P w K ob H3 p d1 d2 r r2 lc a st c v u xs ys es fs as aq ns:=⟨hA.same br,t1,t2,br _ _ l1,TDs.sameT p1 br.t,br _ _ l2,TDs.sameT p2 br.t,mf,iW,br.seq sq⟩;clear hA t1 t2 l1 p1 l2 p2 sq hrt wt hlc wu bJ sX gls s2 s3 br sZ mf iW pm sY;refine jv _ _ (Zla λR3 lH=>?_)
  clear jv;walk_at "rd";refine⟨_,.inl (SqL.of h3.lc),λhd gF=>?_⟩
  have s4:=Qf gF (.lst (as.map V.ref));have g4:upd H3 hd (.lst (as.map V.ref)) hd=Vo (.lst (as.map V.ref)):=Qa;generalize upd H3 hd (.lst (as.map V.ref))=H4 at s4 g4 ⊢;have h4:=h3.same s4;refine h4.moved (N:=10000) (B:=fs) h4.t1 r1 u1 cZ g4 h4.ch #[0] #[0] #[0] #[0] λH5 cK c5 v5 M h5 gO iX l5 tM mv rM uM lM mM=>?_
  obtain rfl:=Eq.symm (JQc r1 u1 jD u2 cZ all rM uM mM);refine⟨Jxa tM.sc h5.t2.sc,?_⟩
  rw[if_neg λz=>z (QH.det h5.sa.fn tM h5.t2)]
  refine⟨as,SqL.of (h4.sa.lst gO g4),SqL.of h5.lc,lH _ _ (Zla λR4 wv=>?_)⟩
  clear lH tM mv mM lM h3 h4 s4 g4 gO iX;walk_at "rd";refine⟨a,ns,1,rfl,h5.sq,me,λc1=>⟨c1,rfl,by unfold Zua;decide,lc,_,_,rfl,h5.lc,by rw[UJ];lia,λlm H6 zs s6 hlm tm pm=>?_⟩⟩
  obtain⟨chm,am,rfl,iY,mh⟩:=QMb pm rfl (show Vm (λ(c:Ch) a=>ChD ob H6 a c.1 c.2.1 c.2.2) aq as from h5.ch.same s6)
  have h6:=h5.same s6;have lcm:=mh.length_eq;have lam:=Vn iY;refine⟨lm,rfl,⟨_,SqL.of tm⟩,JYb T #[1] YG Jr Yc tm iY #[0] λD H7 aw s7 hD gD hw=>?_⟩
  have h7:=h6.same s7;have lw:=UJ (f:=Xz) (as:=chm);refine h7.moved (N:=2810000) (B:=es) h7.t2 jD u2 (cZ.perm mh).back gD hw #[0] #[0] #[0] #[0] λH8 st8 c8 v8 M8 h8 sx8 tq l8 tD mv8 rM8 uM8 lM8 ww=>?_
  obtain rfl:=Eq.symm (JQc jD u2 r1 u1 (cZ.perm mh).back (λk o n hk a b ne=>by
   obtain⟨c,hc,e⟩:=all k n o hk b a (VR ne);exact⟨Xz c,mem_map.mpr ⟨c,mh.mem_iff.mpr hc,rfl⟩,e⟩) rM8 uM8 ww)
  refine⟨Jxa tD.sc h8.t1.sc,?_⟩
  rw[if_neg λz=>z (QH.det h8.sa.fn tD h8.t1)]
  refine wv _ _ (Zla λR5 wx=>?_)
  clear wv tD mv8 ww lM8 h6 h7 sx8 tq hw gD hD iY tm mh lcm lam lw pm s6 s7;walk_at "rd";refine⟨a,ns,2,rfl,h8.sq,me,λc2=>⟨c2,rfl,by unfold Zua;decide,_,.inl (SqL.of h8.lc),by lia,_,SqL.of h8.lc,λl9 wy=>?_⟩⟩
  obtain⟨t,et⟩:∃ t:Nat,c2 / 4 % (((as.map V.ref).length:Int)+1)=(t:Int):=⟨_,(Int.toNat_of_nonneg (Dm _ #[0])).symm⟩
  rw[et,Qab,<- map_take];clear et;have s9:=Qf wy (.lst ((as.take t).map V.ref));have g9:upd H8 l9 (.lst ((as.take t).map V.ref)) l9=Vo (.lst ((as.take t).map V.ref)):=Qa;generalize upd H8 l9 (.lst ((as.take t).map V.ref))=H9 at s9 g9 ⊢;have h9:=h8.same s9;have ct:=Zo t h9.ch;have ge:ZX es fs (aq.take t):=cZ.sub (Of _ _);have lt:(aq.take t).length<=aq.length:=by rw[Oa];exact Nat.min_le_right _ _
  refine h9.moved (N:=5610000) (B:=fs) h9.t1 r1 u1 ge g9 ct #[0] #[0] #[0] #[0] λlV st10 c10 v10 M10 i9 tE mn l10 mq mw iZ i0 tF mx=>?_
  refine wx _ _ (Zla λR6 wz=>?_)
  clear wx h8 h9 s9 g9 ct mn tE l8 l5 wy;walk_at "rd";refine⟨_,SqL.of i9.lc,λoY my=>?_⟩
  rw[Qab,<- map_take];have iV:=Qf my (.lst ((as.take t).map V.ref));have jA:upd lV oY (.lst ((as.take t).map V.ref)) oY=Vo (.lst ((as.take t).map V.ref)):=Qa;generalize upd lV oY (.lst ((as.take t).map V.ref))=H11 at iV jA ⊢;have ip:=i9.same iV;refine⟨r,oY,xs,es,as.take t,aq.take t,M10,rfl,ip.l1,ip.p1,r1,u1,jA,Zo t ip.ch,λc hc=>⟨(ge.mem c hc).1,(ge.mem c hc).2.2.2⟩,mw,by lia,λr12 H12 zs12 cC tG lX wA=>?_⟩
  have ki:=ip.same cC;refine ki.built lX wA iZ i0 #[0] (N:=8410000) #[0] #[0] λsP st13 c13 v13 gz gP l13 tH=>?_
  have gh:=mq.mono gP;refine⟨Jxa gh.sc tH.sc,?_⟩
  rw[if_neg λz=>z (QH.det gz.sa.fn gh tH)]
  refine⟨_,SqL.of gz.lc,λtI mz=>?_⟩
  rw[XEa,<- map_drop];have bP:=Qf mz (.lst ((as.drop t).map V.ref));have oZ:upd sP tI (.lst ((as.drop t).map V.ref)) tI=Vo (.lst ((as.drop t).map V.ref)):=Qa;generalize upd sP tI (.lst ((as.drop t).map V.ref))=H14 at bP oZ ⊢;have tJ:=gz.same bP;have cd:=Zp t tJ.ch;have mB:ZX es fs (aq.drop t):=cZ.sub (Iu _ _);have ld:=Vn cd;have ld':(aq.drop t).length<=aq.length:=by rw[On];exact Nat.sub_le _ _
  refine⟨⟨_,SqL.of oZ⟩,JYb T #[1] YG Jr Yc oZ cd #[0] λD15 H15 aw s15 hD gD hw=>?_⟩
  have tK:=tJ.same s15;have lw:=UJ (f:=Xz) (as:=aq.drop t);refine tK.moved (N:=8420000) (B:=es) tK.t2 jD u2 mB.back gD hw #[0] #[0] #[0] #[0] λH16 st16 c16 v16 M16 wB sx16 mC l16 i3 tL mD mE tP mF=>?_
  obtain rfl:=Eq.symm (Qyd r1 u1 jD u2 (by rw[Ir];exact cZ) (by rw[Ir];exact all) iZ i0 mx mD mE mF)
  have i4:=gh.mono mC;refine⟨Jxa i3.sc i4.sc,?_⟩
  rw[if_neg λz=>z (QH.det wB.sa.fn i3 i4)]
  refine wz _ _ ?_
  clear wz;walk_at "rd";clear i4 i3 tL mD mE tP mF tK hw gD hD lw cd ld ld' mB tJ oZ bP mz gh tH l13 gP gz ki ip iV jA my cC tG lX wA mx mw tF mq iZ i0 ge lt i9 l10;refine⟨Us _,λl17 tQ=>?_⟩
  have wC:=wB.same (Qf tQ (.lst []));refine wC.moved (as':=[]) (cs':=[]) (N:=11220000) (B:=es) wC.t1 r1 u1 ⟨Dw,λc hc=>by cases hc⟩ Qa .nil #[0] (Us _) #[0] #[0] λH18 tR c18 v18 M18 o4 _ _ l18 mG tS _ _ _ _=>?_
  cases tS;refine⟨Jxa mG.sc o4.t1.sc,?_⟩
  rw[if_neg λz=>z (QH.det o4.sa.fn mG o4.t1)]
  refine⟨Us _,λl19 tT=>?_⟩
  have wD:=o4.same (Qf tT (.lst []));refine⟨p,d1,d2,tR,c18,.non,[],l19,[],[],rfl,Qa,.nil,(λx hx=>by cases hx),wD.sa,.inl ⟨rfl,rfl⟩,⟨(λx hx=>by cases hx),.nil,Us _⟩,Us _,by simp;lia,λH20 mH wE v20 M20 tU tV tW mI l20 tX=>?_,λk wr=>?_⟩
  ·cases tU
   have jE:=wD.x tV tW mI;rw[if_neg λz=>z (QH.det jE.sa.fn tX (.inl ⟨rfl,rfl⟩))]
   refine⟨p,d1,d2,mH,wE,v,es,rfl,jE.sa,jE.t1,by lia,λrr H6 zs s6 hrr g6 py=>XAb (n:=7) #[1] (Jwa g6 py) (Jwa (s6 _ _ jE.l1) (TDs.sameT jE.p1 s6.t)) ⟨true,rfl,?_⟩⟩
   rw[if_pos rfl];have h6:=jE.same s6;exact⟨p,d1,d2,mH,wE,u,fs,rfl,h6.sa,h6.t2,by lia,λrr H7 zs s7 hrr g7 py=>XAb (n:=7) #[1] (Jwa g7 py) (Jwa (s7 _ _ h6.l2) (TDs.sameT h6.p2 s7.t)) (q _)⟩
  ·obtain⟨pre,o,n,post,bj,e,_⟩:=wr
   cases pre <;> cases e
 clear hR;walk_at "rd";intro x0 dx0 hx0 tY hne0;refine⟨x0,dx0,rfl,Qa,λd1 d2 H1 dx fs f1 f2 s1 gI=>⟨rfl,?_⟩⟩
 have S1:Qn H H1:=by rw[ZY]at s1;exact XJ hx0 tY s1
 walk_at "rd";refine⟨a,ns,rfl,S1.seq hS,me,λr H2 xs es s2 fb g2 re row up le=>?_⟩
 refine⟨r,a,xs,es,ns,rfl,g2,re,row,up,le,(S1.trans s2).seq hS,me,λr2 H3 ys fs s3 zX g3 rf bF cU lf=>?_⟩
 have aZ:=gI.same (s2.trans s3);have g2:=s3 _ _ g2;have re:=TDs.sameT re s3.t;have sq:=(S1.trans (s2.trans s3)).seq hS;refine⟨r,rfl,xs,.inl (SqL.of g2),JXb aZ g2 re row up #[0] #[2] λH4 dS c4 v4 du bW cD l4 md=>?_⟩
 have g2:=aZ.lst du g2;have g3:=aZ.lst du g3;have re:=TDs.sameT re (ZN aZ du);have rf:=TDs.sameT rf (ZN aZ du);have sq:=aZ.seq du sq;refine⟨r2,rfl,ys,.inl (SqL.of g3),JXb bW g3 rf bF cU #[0] (by simp at l4;lia) λH5 cK c5 v5 gO hS5 iX l5 ht5=>?_⟩
 exact go _ _ _ _ _ _ _ _ _ _ _ _ _ _ hS5 (md.mono iX) ht5 (bW.lst gO g2) (TDs.sameT re (ZN bW gO)) (bW.lst gO g3) (TDs.sameT rf (ZN bW gO)) (bW.seq gO sq) row up le bF cU lf (by simp at l4 l5;lia)
theorem QAd{K:VD}{ns:List Int}(hl:ns.length<=63)(_:∀ i∈ns,Ia i<=2 ^ 20)(hS:SqL K H a (ns.map V.int)):XMa K [.ref a] H (λv _=>v=.bl true) λ_ _ _=>False :=
 ⟨a,ns,rfl,hS,hl,λ_=>rfl⟩
theorem JU{α:Type}{C:List α->Prop}(h:∀ a,C [a]):∀ us:List α,us.length=1->C us:=λus hl=>by
 match us,hl with
 | [_],_=>exact h _
theorem ZP{α:Type}{C:List α->Prop}(h:∀ a b,C [a,b]):∀ us:List α,us.length=2->C us:=λus hl=>by
 match us,hl with
 | [_,_],_=>exact h _ _
theorem JV{α:Type}{C:List α->Prop}(h:∀ a b c,C [a,b,c]):∀ us:List α,us.length=3->C us:=λus hl=>by
 match us,hl with
 | [_,_,_],_=>exact h _ _ _
theorem JSc{α:Type}{C:List α->Prop}(h:∀ a b c d,C [a,b,c,d]):∀ us:List α,us.length=4->C us:=λus hl=>by
 match us,hl with
 | [_,_,_,_],_=>exact h _ _ _ _
theorem cq0{P:Vg}{w:Vb}{K:VD}{mg:Str->Option Va}{base h:Vq}(X:K.In h)(G:h.Ns VE mg){k:Nat}{f:Vh}{fd:UU}{ps:List Str}{sp:Sp}{x:Str}(F:QE P w K mg base CX0 k f fd ps sp)(b:Z4 K fd ps [])(kk:UI K (.ref f)=true)(a:Lz K VE x=Vo (Vo (.ref f))):Cal P w K mg base k x ps sp:=⟨_,_,F,b,kk,Dq X G a⟩
theorem cq1{P:Vg}{w:Vb}{K:VD}{mg:Str->Option Va}{base h:Vq}(X:K.In h)(G:h.Ns VE mg){k:Nat}{f:Vh}{fd:UU}{ps:List Str}{sp:Sp}{x:Str}(F:QE P w K mg base (CX1 P w) k f fd ps sp)(b:Z4 K fd ps [])(kk:UI K (.ref f)=true)(a:Lz K VE x=Vo (Vo (.ref f))):Jgb P w K mg base k x ps sp:=⟨_,_,F,b,kk,Dq X G a⟩
theorem mq1{P:Vg}{w:Vb}{K:VD}{mg:Str->Option Va}{base:Vq}{k:Nat}{C f:Vh}{fd:UU}{ps:List Str}{sp:Sp}{m:Str}(F:QE P w K mg base (CX1 P w) k f fd ps sp)(b:Z4 K fd ps [])(a:Uy K (.ref C) m=Vo (Vo (.ref f)))(j:Uz K (.ref f)=true)(kk:UI K (.ref f)=true):MeV P w K mg base k C m sp:=⟨_,_,_,⟨a,j,kk⟩,F,b⟩
theorem QBd{l:W.OpenLaw}{K:VD}{h:Vq}{fa:Vh}(X:K.In h)(G:h.Ns VE mg)(sG:mg "law"=Vo (.ref fa))
 {f1 f2 f3 f4 f5 f6 f7 f8 f9 mJ o5 tZ uc ud wF o6 uf jF wG wH wI wJ wK wL wM wN wO ug ui uj uk ul wP wQ wR wS um wT wU wV wW wX uo wY wZ uq w6 jG w9 xa xb xc xf xg xh xk o7 xm xn xo xp xq xr jH xt xu:Vh} {d1 d2 d3 d4 d5 d6 d7 d8 d9 d10 d11 d12 d13 d14 d15 d16 d17 d18 d19 d20 d21 d22 d23 d24 d25 d26 d27 d28 d29 d30 d31 d32 d33 d34 d35 d36 d37 d38 d39 d40 d41 d42 d43 d44 d45 d46 d47 d48 d49 d50 d51 d52 d53 d54 d55 d56 d57 d58 d59 d60 d61 d62 d63 d64 d65 d66:UU}
 (ta:UO K (.builtin "object.__class__") "__get__"=Vo (Vo (.builtin "getset_descriptor.__get__"))) (tb:W.takesIn K (.builtin "object.__class__")=Vo true)
 {O0:Vh} (oa0:Lz K VE "Page"=Vo (Vo (.ref O0))) (of0:W.Z9 K O0 ["level","rows","heads","entries","told_by_number","number_by_told","count","key","old","new"]=true)
 {O1:Vh} (oa1:Lz K VE "Leaf"=Vo (Vo (.ref O1))) (of1:W.Z9 K O1 ["level","rows","heads","entries","told_by_number","number_by_told","count","key","old","new"]=true)
 (om1:UD K O1=true) (ok1:UI K (.ref O1)=true)
 {O2:Vh} (oa2:Lz K VE "Twig"=Vo (Vo (.ref O2))) (of2:W.Z9 K O2 ["level","rows","heads","entries","told_by_number","number_by_told","count","key","old","new"]=true)
 (om2:UD K O2=true) (ok2:UI K (.ref O2)=true)
 {O3:Vh} (oa3:Lz K VE "Pages"=Vo (Vo (.ref O3))) (of3:W.Z9 K O3 ["level","rows","heads","entries","told_by_number","number_by_told","count","key","old","new"]=true)
 (om3:UD K O3=true) (ok3:UI K (.ref O3)=true)
 {O4:Vh} (oa4:Lz K VE "Change"=Vo (Vo (.ref O4))) (of4:W.Z9 K O4 ["level","rows","heads","entries","told_by_number","number_by_told","count","key","old","new"]=true)
 {O5:Vh} (oa5:Lz K VE "PutIn"=Vo (Vo (.ref O5))) (of5:W.Z9 K O5 ["level","rows","heads","entries","told_by_number","number_by_told","count","key","old","new"]=true)
 (om5:UD K O5=true) (ok5:UI K (.ref O5)=true)
 {O6:Vh} (oa6:Lz K VE "TakenOut"=Vo (Vo (.ref O6))) (of6:W.Z9 K O6 ["level","rows","heads","entries","told_by_number","number_by_told","count","key","old","new"]=true)
 (om6:UD K O6=true) (ok6:UI K (.ref O6)=true)
 {O7:Vh} (oa7:Lz K VE "Turned"=Vo (Vo (.ref O7))) (of7:W.Z9 K O7 ["level","rows","heads","entries","told_by_number","number_by_told","count","key","old","new"]=true)
 (om7:UD K O7=true) (ok7:UI K (.ref O7)=true)
 (oo:W.Z2c K [O0,O1,O2,O3,O4,O5,O6,O7] Q8d=true)
 {CT:Vh} {xw:Bool} {xx yq:Str} {yN:Vh} {xy:List Va} {xz:List Str} {mK:List Va} {xA:Bool} {mL:Option Bool} {xB:Option Vh} {xC xE xF xG xH:Option Va}
 (t1:Lz K VE "TableError"=Vo (Vo (.ref CT))) (t2:K.lookup CT=Vo (Lx xx yq CT yN xy W.bmV xw xz mK xA mL xB xC xE xF xG xH "ValueError.__new__")) (t3:Ly K yN=true) (t4:Lz K yN "__init__"=Vo Vp) (t5:W.tailIn K W.bmV W.bmV=true)
 (t6:UO K (.ref CT) "__getattribute__"=Vo (Vo (.builtin "type.__getattribute__"))) (t7:W.readsIn K CT (.type "type")=true) (t8:W.findCls K (.ref CT) (.type "type") "__init__"=Vo (.val (.builtin "ValueError.__init__")))
 (t9:W.tailIn K W.bmV (.ref CT::W.bmV)=true)
 {C0:Vh} {mN xI:Str} {ut:Vh} {mO:List Va} {mP:List Str} {gQ:List Va} {mQ:Bool} {gR:Option Bool} {mR:Option Vh} {mS mT mU mV mW:Option Va}
 (p0:Lz K VE "NoPage"=Vo (Vo (.ref C0))) (q0:K.lookup C0=Vo (Lx mN xI C0 ut mO (.ref CT::W.bmV) true mP gQ mQ gR mR mS mT mU mV mW "ValueError.__new__")) (r0:Ly K ut=true) (u0:W.QFa K C0 ["number","key"]=true)
 (o0:UI K (.ref C0)=true)
 {C1:Vh} {mX xJ:Str} {uu:Vh} {mY:List Va} {mZ:List Str} {gS:List Va} {m7:Bool} {gT:Option Bool} {m8:Option Vh} {m9 nh ni nj nr:Option Va}
 (p1:Lz K VE "NotRising"=Vo (Vo (.ref C1))) (q1:K.lookup C1=Vo (Lx mX xJ C1 uu mY (.ref CT::W.bmV) true mZ gS m7 gT m8 m9 nh ni nj nr "ValueError.__new__")) (r1:Ly K uu=true) (u1:W.QFa K C1 ["number","key"]=true)
 (o1:UI K (.ref C1)=true)
 {C2:Vh} {nu xK:Str} {uv:Vh} {nz:List Va} {nC:List Str} {gU:List Va} {nD:Bool} {gW:Option Bool} {nE:Option Vh} {nF nG nH nI nJ:Option Va}
 (p2:Lz K VE "NoRow"=Vo (Vo (.ref C2))) (q2:K.lookup C2=Vo (Lx nu xK C2 uv nz (.ref CT::W.bmV) true nC gU nD gW nE nF nG nH nI nJ "ValueError.__new__")) (r2:Ly K uv=true) (u2:W.QFa K C2 ["number","key"]=true)
 (o2:UI K (.ref C2)=true)
 {C3:Vh} {nK xL:Str} {uw:Vh} {nL:List Va} {nM:List Str} {gX:List Va} {nN:Bool} {gY:Option Bool} {nO:Option Vh} {nP nQ nR nT nU:Option Va}
 (p3:Lz K VE "Unfit"=Vo (Vo (.ref C3))) (q3:K.lookup C3=Vo (Lx nK xL C3 uw nL (.ref CT::W.bmV) true nM gX nN gY nO nP nQ nR nT nU "ValueError.__new__")) (r3:Ly K uw=true) (u3:W.QFa K C3 ["number","key"]=true)
 (o3:UI K (.ref C3)=true)
 (tt:W.ZRc K [C0,C1,C2,C3]=true) (tu:W.X9c K [C0,C1,C2,C3]=true)
 (a1:Uy K (.ref C1) "__init__"=Vo (Vo (.ref f1))) (j1:Uz K (.ref f1)=true)
 (F1:Fun K "__init__" "NotRising.__init__" J1 f1 d1)
 (a2:Uy K (.ref C2) "__init__"=Vo (Vo (.ref f2))) (j2:Uz K (.ref f2)=true)
 (F2:Fun K "__init__" "NoRow.__init__" XR f2 d2)
 (a3:Uy K (.ref C3) "__init__"=Vo (Vo (.ref f3))) (j3:Uz K (.ref f3)=true)
 (F3:Fun K "__init__" "Unfit.__init__" XS f3 d3)
 (a4:Uy K (.ref C0) "__init__"=Vo (Vo (.ref f4))) (j4:Uz K (.ref f4)=true)
 (F4:Fun K "__init__" "NoPage.__init__" Xa f4 d4)
 (a5:Lz K VE "rank_of"=Vo (Vo (.ref f5)))
 (F5:Fun K "rank_of" "rank_of" JTa f5 d5)
 (a6:Lz K VE "cells_at"=Vo (Vo (.ref f6)))
 (F6:Fun K "cells_at" "cells_at" ZWa f6 d6)
 (a7:Lz K VE "mixed_first"=Vo (Vo (.ref f7)))
 (F7:Fun K "mixed_first" "mixed_first" Xb f7 d7)
 (a8_0:Uy K (.ref O0) "__init__"=Vo (Vo (.ref f8)))
 (j8:Uz K (.ref f8)=true)
 (F8:Fun K "__init__" "Page.__init__" QLa f8 d8)
 (e8:W.clI K O0 f8=true)
 (a9_0:Uy K (.ref O0) "told"=Vo (Vo (.ref f9)))
 (a9_1:Uy K (.ref O1) "told"=Vo (Vo (.ref f9)))
 (a9_2:Uy K (.ref O2) "told"=Vo (Vo (.ref f9)))
 (j9:Uz K (.ref f9)=true)
 (F9:Fun K "told" "Page.told" QMa f9 d9)
 (a10_0:Uy K (.ref O0) "first"=Vo (Vo (.ref mJ)))
 (a10_1:Uy K (.ref O1) "first"=Vo (Vo (.ref mJ)))
 (a10_2:Uy K (.ref O2) "first"=Vo (Vo (.ref mJ)))
 (j10:Uz K (.ref mJ)=true)
 (F10:Fun K "first" "Page.first" XT mJ d10)
 (a11_0:Uy K (.ref O0) "under"=Vo (Vo (.ref o5)))
 (a11_1:Uy K (.ref O1) "under"=Vo (Vo (.ref o5)))
 (j11:Uz K (.ref o5)=true)
 (F11:Fun K "under" "Page.under" XU o5 d11)
 (a12_1:Uy K (.ref O1) "spread"=Vo (Vo (.ref tZ)))
 (j12:Uz K (.ref tZ)=true)
 (F12:Fun K "spread" "Leaf.spread" Xc tZ d12)
 (a13_2:Uy K (.ref O2) "under"=Vo (Vo (.ref uc)))
 (j13:Uz K (.ref uc)=true)
 (F13:Fun K "under" "Twig.under" Yx uc d13)
 (a14_3:Uy K (.ref O3) "__init__"=Vo (Vo (.ref ud)))
 (j14:Uz K (.ref ud)=true)
 (F14:Fun K "__init__" "Pages.__init__" XV ud d14)
 (a15:Lz K VE "rows_with"=Vo (Vo (.ref wF)))
 (F15:Fun K "rows_with" "rows_with" QNa wF d15)
 (a16_4:Uy K (.ref O4) "__init__"=Vo (Vo (.ref o6)))
 (j16:Uz K (.ref o6)=true)
 (F16:Fun K "__init__" "Change.__init__" Xd o6 d16)
 (e16:W.clI K O4 o6=true)
 (a17_7:Uy K (.ref O7) "__init__"=Vo (Vo (.ref uf)))
 (j17:Uz K (.ref uf)=true)
 (F17:Fun K "__init__" "Change.__init__" Xe uf d17)
 (a18_4:Uy K (.ref O4) "told"=Vo (Vo (.ref jF)))
 (a18_5:Uy K (.ref O5) "told"=Vo (Vo (.ref jF)))
 (a18_6:Uy K (.ref O6) "told"=Vo (Vo (.ref jF)))
 (a18_7:Uy K (.ref O7) "told"=Vo (Vo (.ref jF)))
 (j18:Uz K (.ref jF)=true)
 (F18:Fun K "told" "Change.told" Xf jF d18)
 (a19:Lz K VE "missing_from"=Vo (Vo (.ref wG)))
 (F19:Fun K "missing_from" "missing_from" JC wG d19)
 (a20:Lz K VE "_law_cell"=Vo (Vo (.ref wH)))
 (F20:Fun K "_law_cell" "_law_cell" QOa wH d20)
 (a21:Lz K VE "_law_text"=Vo (Vo (.ref wI)))
 (F21:Fun K "_law_text" "_law_text" QPa wI d21)
 (a22:Lz K VE "_law_tall"=Vo (Vo (.ref wJ)))
 (F22:Fun K "_law_tall" "_law_tall" QQa wJ d22)
 (a23:Lz K VE "_law_cells"=Vo (Vo (.ref wK)))
 (F23:Fun K "_law_cells" "_law_cells" XX wK d23)
 (a24:Lz K VE "_law_risen"=Vo (Vo (.ref wL)))
 (F24:Fun K "_law_risen" "_law_risen" Je wL d24)
 (a25:Lz K VE "_law_mixed_up"=Vo (Vo (.ref wM)))
 (F25:Fun K "_law_mixed_up" "_law_mixed_up" Ym wM d25)
 (a26:Lz K VE "before"=Vo (Vo (.ref wN)))
 (F26:Fun K "before" "before" Xqa wN d26)
 (a27:Lz K VE "mixed"=Vo (Vo (.ref wO)))
 (F27:Fun K "mixed" "mixed" Zdb wO d27)
 (a28_1:Uy K (.ref O1) "__init__"=Vo (Vo (.ref ug)))
 (j28:Uz K (.ref ug)=true)
 (F28:Fun K "__init__" "Leaf.__init__" QRa ug d28)
 (a29_2:Uy K (.ref O2) "__init__"=Vo (Vo (.ref ui)))
 (j29:Uz K (.ref ui)=true)
 (F29:Fun K "__init__" "Twig.__init__" QSa ui d29)
 (a30_3:Uy K (.ref O3) "kept"=Vo (Vo (.ref uj)))
 (j30:Uz K (.ref uj)=true)
 (F30:Fun K "kept" "Pages.kept" XY uj d30)
 (a31_5:Uy K (.ref O5) "__init__"=Vo (Vo (.ref uk)))
 (j31:Uz K (.ref uk)=true)
 (F31:Fun K "__init__" "PutIn.__init__" XZ uk d31)
 (a32_6:Uy K (.ref O6) "__init__"=Vo (Vo (.ref ul)))
 (j32:Uz K (.ref ul)=true)
 (F32:Fun K "__init__" "TakenOut.__init__" Yn ul d32)
 (a33:Lz K VE "_law_key"=Vo (Vo (.ref wP)))
 (F33:Fun K "_law_key" "_law_key" ZXa wP d33)
 (a34:Lz K VE "_law_with"=Vo (Vo (.ref wQ)))
 (F34:Fun K "_law_with" "_law_with" QTa wQ d34)
 (a35:Lz K VE "place_of"=Vo (Vo (.ref wR)))
 (F35:Fun K "place_of" "place_of" ZYa wR d35)
 (a36:Lz K VE "level_of"=Vo (Vo (.ref wS)))
 (F36:Fun K "level_of" "level_of" ZZa wS d36)
 (a37_3:Uy K (.ref O3) "told_at"=Vo (Vo (.ref um)))
 (j37:Uz K (.ref um)=true)
 (F37:Fun K "told_at" "Pages.told_at" Yo um d37)
 (a38:Lz K VE "_law_rows"=Vo (Vo (.ref wT)))
 (F38:Fun K "_law_rows" "_law_rows" QUa wT d38)
 (a39:Lz K VE "_law_changed"=Vo (Vo (.ref wU)))
 (F39:Fun K "_law_changed" "_law_changed" YN wU d39)
 (a40:Lz K VE "in_order"=Vo (Vo (.ref wV)))
 (F40:Fun K "in_order" "in_order" Z0a wV d40)
 (a41:Lz K VE "last_up_to"=Vo (Vo (.ref wW)))
 (F41:Fun K "last_up_to" "last_up_to" Yz wW d41)
 (a42:Lz K VE "page_of"=Vo (Vo (.ref wX)))
 (F42:Fun K "page_of" "page_of" JWa wX d42)
 (a43_3:Uy K (.ref O3) "card"=Vo (Vo (.ref uo)))
 (j43:Uz K (.ref uo)=true)
 (F43:Fun K "card" "Pages.card" X4 uo d43)
 (a44:Lz K VE "cut"=Vo (Vo (.ref wY)))
 (F44:Fun K "cut" "cut" Jrc wY d44)
 (a45:Lz K VE "change_of"=Vo (Vo (.ref wZ)))
 (F45:Fun K "change_of" "change_of" QWa wZ d45)
 (a46_3:Uy K (.ref O3) "page"=Vo (Vo (.ref uq)))
 (j46:Uz K (.ref uq)=true)
 (F46:Fun K "page" "Pages.page" X5 uq d46)
 (a47:Lz K VE "heads_of"=Vo (Vo (.ref w6)))
 (F47:Fun K "heads_of" "heads_of" Z1a w6 d47)
 (a48_4:Uy K (.ref O4) "back"=Vo (Vo (.ref jG)))
 (a48_5:Uy K (.ref O5) "back"=Vo (Vo (.ref jG)))
 (a48_6:Uy K (.ref O6) "back"=Vo (Vo (.ref jG)))
 (a48_7:Uy K (.ref O7) "back"=Vo (Vo (.ref jG)))
 (j48:Uz K (.ref jG)=true)
 (F48:Fun K "back" "Change.back" Xi jG d48)
 (a49:Lz K VE "root_at"=Vo (Vo (.ref w9)))
 (F49:Fun K "root_at" "root_at" JXa w9 d49)
 (a50:Lz K VE "changes_between"=Vo (Vo (.ref xa)))
 (F50:Fun K "changes_between" "changes_between" JE xa d50)
 (a51:Lz K VE "seek"=Vo (Vo (.ref xb)))
 (F51:Fun K "seek" "seek" YFb xb d51)
 (a52:Lz K VE "crowned"=Vo (Vo (.ref xc)))
 (F52:Fun K "crowned" "crowned" JYa xc d52)
 (a53:Lz K VE "lowered"=Vo (Vo (.ref xf)))
 (F53:Fun K "lowered" "lowered" JZa xf d53)
 (a54:Lz K VE "entries_of"=Vo (Vo (.ref xg)))
 (F54:Fun K "entries_of" "entries_of" X6 xg d54)
 (a55:Lz K VE "built"=Vo (Vo (.ref xh)))
 (F55:Fun K "built" "built" Zhb xh d55)
 (a56:Lz K VE "unlike"=Vo (Vo (.ref xk)))
 (F56:Fun K "unlike" "unlike" Xta xk d56)
 (a57_0:Uy K (.ref O0) "spread"=Vo (Vo (.ref o7)))
 (a57_2:Uy K (.ref O2) "spread"=Vo (Vo (.ref o7)))
 (j57:Uz K (.ref o7)=true)
 (F57:Fun K "spread" "Page.spread" Xk o7 d57)
 (a58:Lz K VE "rows_of"=Vo (Vo (.ref xm)))
 (F58:Fun K "rows_of" "rows_of" J0a xm d58)
 (a59:Lz K VE "heads_with"=Vo (Vo (.ref xn)))
 (F59:Fun K "heads_with" "heads_with" X7 xn d59)
 (a60:Lz K VE "joined"=Vo (Vo (.ref xo)))
 (F60:Fun K "joined" "joined" Xua xo d60)
 (a61:Lz K VE "put"=Vo (Vo (.ref xp)))
 (F61:Fun K "put" "put" Jsc xp d61)
 (a62:Lz K VE "heads_without"=Vo (Vo (.ref xq)))
 (F62:Fun K "heads_without" "heads_without" Yp xq d62)
 (a63:Lz K VE "take"=Vo (Vo (.ref xr)))
 (F63:Fun K "take" "take" YIb xr d63)
 (a64_4:Uy K (.ref O4) "onto"=Vo (Vo (.ref jH)))
 (a64_5:Uy K (.ref O5) "onto"=Vo (Vo (.ref jH)))
 (a64_6:Uy K (.ref O6) "onto"=Vo (Vo (.ref jH)))
 (a64_7:Uy K (.ref O7) "onto"=Vo (Vo (.ref jH)))
 (j64:Uz K (.ref jH)=true)
 (F64:Fun K "onto" "Change.onto" Xl jH d64)
 (a65:Lz K VE "moved"=Vo (Vo (.ref xt)))
 (F65:Fun K "moved" "moved" Zib xt d65)
 (a66:Lz K VE "law"=Vo (Vo (.ref xu)))
 (F66:Fun K "law" "law" Yia xu d66)
 (z1:Lz K VE "dict"=Vo Vp)
 (z2:Lz K VE "int"=Vo Vp)
 (z3:Lz K VE "isinstance"=Vo Vp)
 (z4:Lz K VE "len"=Vo Vp)
 (z5:Lz K VE "list"=Vo Vp)
 (z6:Lz K VE "max"=Vo Vp)
 (z7:Lz K VE "ord"=Vo Vp)
 (z8:Lz K VE "range"=Vo Vp)
 (z9:Lz K VE "reversed"=Vo Vp)
 (z10:Lz K VE "sorted"=Vo Vp)
 (z11:Lz K VE "str"=Vo Vp)
 (z12:Lz K VE "tuple"=Vo Vp)
 {qx:Tok} (g1:Lz K VE "MODULUS"=Vo (Vo (.int (2147483647) qx)))
 {tk2:Tok} (g2:Lz K VE "TOP_LEVEL"=Vo (Vo (.int (6) tk2)))
 : ∃ fd:UU,(∀ (s:VH) (v:Va),BindsTo s fd ⟨[v],[]⟩ [("_law_script",v)])/\∀ base:Vq,K.In base->base.Ns VE mg->QE l.prog w K mg base CX0 27 fa fd ["_law_script"] (XMa K):=by
 have e:=sG.symm.trans (Dq X G a66);cases e;have k1:=F1.kp;have b1:=F1.binds (ps:=["self","key"]) λ_ _ _ _ _ _=>ZP λ_ _=>rfl
 have k2:=F2.kp;have b2:=F2.binds (ps:=["self","key"]) λ_ _ _ _ _ _=>ZP λ_ _=>rfl
 have k3:=F3.kp;have b3:=F3.binds (ps:=["self","key"]) λ_ _ _ _ _ _=>ZP λ_ _=>rfl
 have k4:=F4.kp;have b4:=F4.binds (ps:=["self","number"]) λ_ _ _ _ _ _=>ZP λ_ _=>rfl
 have k8:=F8.kp;have b8:=F8.binds (ps:=["self","level","entries"]) λ_ _ _ _ _ _=>JV λ_ _ _=>rfl
 have k9:=F9.kp;have b9:=F9.binds (ps:=["self"]) λ_ _ _ _ _ _=>JU λ_=>rfl
 have ux:=F10.kp;have uy:=F10.binds (ps:=["self"]) λ_ _ _ _ _ _=>JU λ_=>rfl
 have xM:=F11.kp;have xO:=F11.binds (ps:=["self"]) λ_ _ _ _ _ _=>JU λ_=>rfl
 have k12:=F12.kp;have b12:=F12.binds (ps:=["self","pages"]) λ_ _ _ _ _ _=>ZP λ_ _=>rfl
 have k13:=F13.kp;have b13:=F13.binds (ps:=["self"]) λ_ _ _ _ _ _=>JU λ_=>rfl
 have k14:=F14.kp;have b14:=F14.binds (ps:=["self"]) λ_ _ _ _ _ _=>JU λ_=>rfl
 have k16:=F16.kp;have b16:=F16.binds (ps:=["self","key","old","new"]) λ_ _ _ _ _ _=>JSc λ_ _ _ _=>rfl
 have k17:=F17.kp;have b17:=F17.binds (ps:=["self","key","old","new"]) λ_ _ _ _ _ _=>JSc λ_ _ _ _=>rfl
 have o8:=F18.kp;have o9:=F18.binds (ps:=["self"]) λ_ _ _ _ _ _=>JU λ_=>rfl
 have k28:=F28.kp;have b28:=F28.binds (ps:=["self","rows"]) λ_ _ _ _ _ _=>ZP λ_ _=>rfl
 have k29:=F29.kp;have b29:=F29.binds (ps:=["self","level","heads"]) λ_ _ _ _ _ _=>JV λ_ _ _=>rfl
 have k30:=F30.kp;have b30:=F30.binds (ps:=["self","page"]) λ_ _ _ _ _ _=>ZP λ_ _=>rfl
 have k31:=F31.kp;have b31:=F31.binds (ps:=["self","key","new"]) λ_ _ _ _ _ _=>JV λ_ _ _=>rfl
 have k32:=F32.kp;have b32:=F32.binds (ps:=["self","key","old"]) λ_ _ _ _ _ _=>JV λ_ _ _=>rfl
 have k37:=F37.kp;have b37:=F37.binds (ps:=["self","number"]) λ_ _ _ _ _ _=>ZP λ_ _=>rfl
 have k43:=F43.kp;have b43:=F43.binds (ps:=["self","number"]) λ_ _ _ _ _ _=>ZP λ_ _=>rfl
 have k46:=F46.kp;have b46:=F46.binds (ps:=["self","number"]) λ_ _ _ _ _ _=>ZP λ_ _=>rfl
 have pi:=F48.kp;have pk:=F48.binds (ps:=["self"]) λ_ _ _ _ _ _=>JU λ_=>rfl
 have xP:=F57.kp;have xQ:=F57.binds (ps:=["self","pages"]) λ_ _ _ _ _ _=>ZP λ_ _=>rfl
 have xR:=F59.kp;have xS:=F59.binds (ps:=["pages","number","row"]) λ_ _ _ _ _ _=>JV λ_ _ _=>rfl
 have xV:=F60.kp;have xW:=F60.binds (ps:=["pages","left","right"]) λ_ _ _ _ _ _=>JV λ_ _ _=>rfl
 have xX:=F62.kp;have xY:=F62.binds (ps:=["pages","number","key"]) λ_ _ _ _ _ _=>JV λ_ _ _=>rfl
 have pq:=F64.kp;have pA:=F64.binds (ps:=["self","pages","root"]) λ_ _ _ _ _ _=>JV λ_ _ _=>rfl
 have Z:Zs mg:=⟨Dr X G z1,Dr X G z2,Dr X G z3,Dr X G z4,Dr X G z5,Dr X G z6,Dr X G z7,Dr X G z8,Dr X G z9,Dr X G z10,Dr X G z11,Dr X G z12,⟨_,Dq X G g1⟩,⟨_,Dq X G g2⟩⟩;have X0:W.XCl K C0 CT:=W.XCl.of ⟨mN,xI,ut,mO,mP,gQ,mQ,gR,mR,mS,mT,mU,mV,mW,q0,r0⟩ t9 u0 ta tb;have X1:W.XCl K C1 CT:=W.XCl.of ⟨mX,xJ,uu,mY,mZ,gS,m7,gT,m8,m9,nh,ni,nj,nr,q1,r1⟩ t9 u1 ta tb;have X2:W.XCl K C2 CT:=W.XCl.of ⟨nu,xK,uv,nz,nC,gU,nD,gW,nE,nF,nG,nH,nI,nJ,q2,r2⟩ t9 u2 ta tb;have X3:W.XCl K C3 CT:=W.XCl.of ⟨nK,xL,uw,nL,nM,gX,nN,gY,nO,nP,nQ,nR,nT,nU,q3,r3⟩ t9 u3 ta tb;have T:Tx K mg CT (λi=>[C0,C1,C2,C3].getD i 0) (λi=>[O0,O1,O2,O3,O4,O5,O6,O7].getD i 0):=⟨Dq X G oa0,
  Dq X G oa1,
  Dq X G oa2,
  Dq X G oa3,
  Dq X G oa4,
  Dq X G oa5,
  Dq X G oa6,
  Dq X G oa7,
  λi hi=>match i,hi with | 0,_=>ObC.of of0 ta tb | 1,_=>ObC.of of1 ta tb | 2,_=>ObC.of of2 ta tb | 3,_=>ObC.of of3 ta tb | 4,_=>ObC.of of4 ta tb | 5,_=>ObC.of of5 ta tb | 6,_=>ObC.of of6 ta tb | 7,_=>ObC.of of7 ta tb | m+8,h=>absurd h #[0],
  W.Qdd oo,
  ⟨Dq X G t1,⟨⟨xx,yq,yN,xy,xw,xz,mK,xA,mL,xB,xC,xE,xF,xG,xH,t2,t3,t4⟩,t5⟩,t6,t7,t8⟩,
  Dq X G p0,
  Dq X G p1,
  Dq X G p2,
  Dq X G p3,
  λi hi=>match i,hi with | 0,_=>X0 | 1,_=>X1 | 2,_=>X2 | 3,_=>X3 | m+4,h=>absurd h #[0],
  λi hi=>match i,hi with | 0,_=>λf hf=>W.Zga u0 hf | 1,_=>λf hf=>W.Zga u1 hf | 2,_=>λf hf=>W.Zga u2 hf | 3,_=>λf hf=>W.Zga u3 hf | m+4,h=>absurd h #[0],
  W.YAc tt,
  W.Qad tu⟩
 have FL:=F66;obtain⟨_,_,kV,dc,pm,an,ap,ct,_,rfl,_,_⟩:=FL.ex;refine⟨Oi "law" "law" (Jea Yia) (XD Yia) (Qj Yia) .none kV dc pm an ap ct,λs v=>.of_eq rfl,λbase _ _=>?_⟩
 have c0:=@cq0 l.prog w K mg base h X G;have c1:=@cq1 l.prog w K mg base h X G;have m1:=@mq1 l.prog w K mg base;have qS:MkX l.prog w K mg base 1 "NotRising" C1 CT ["key"]:=⟨_,_,_,Jsa Z T F1,b1,X1,a1,j1,o1,Dq X G p1⟩;have sk:MkX l.prog w K mg base 1 "NoRow" C2 CT ["key"]:=⟨_,_,_,X2a Z T F2,b2,X2,a2,j2,o2,Dq X G p2⟩;have ju:MkX l.prog w K mg base 1 "Unfit" C3 CT ["key"]:=⟨_,_,_,X3a Z T F3,b3,X3,a3,j3,o3,Dq X G p3⟩;have qC:MkX l.prog w K mg base 1 "NoPage" C0 CT ["number"]:=⟨_,_,_,Xxa Z T F4,b4,X0,a4,j4,o0,Dq X G p0⟩;have xZ:=c0 (YNb Z T  F5) (F5.binds λ_ _ _ _ _ _=>JU λ_=>rfl) F5.kp a5
 have Y3b:=c0 (JKb Z T  F6) (F6.binds λ_ _ _ _ _ _=>JV λ_ _ _=>rfl) F6.kp a6
 have Qhb:=c0 (Xza Z T  F7) (F7.binds λ_ _ _ _ _ _=>JU λ_=>rfl) F7.kp a7
 have be:BaI l.prog w K mg base 1 "Page" (JF K (λi=>[O0,O1,O2,O3,O4,O5,O6,O7].getD i 0)):=⟨O0,_,_,_,Dq X G oa0,ClI.of e8,k8,Zlb Z T  F8,b8⟩
 have vj:=m1 (X8 Z T  F9) b9 a9_0 j9 k9;have qE:=m1 (X8 Z T  F9) b9 a9_1 j9 k9;have qF:=m1 (X8 Z T  F9) b9 a9_2 j9 k9;have vw:=m1 (Xm Z T  F10) uy a10_0 j10 ux;have qJ:=m1 (Xm Z T  F10) uy a10_1 j10 ux;have qK:=m1 (Xm Z T  F10) uy a10_2 j10 ux;have YD:=m1 (ZJa Z T  F11) xO a11_0 j11 xM;have JI:=m1 (ZJa Z T  F11) xO a11_1 j11 xM;have ZW:=m1 (XCa Z T  F12) b12 a12_1 j12 k12;have Ji:=m1 (X9a Z T  F13) b13 a13_2 j13 k13;have sW:MkV l.prog w K mg base 1 "Pages" O3 (J5 l.prog w (λi=>[O0,O1,O2,O3,O4,O5,O6,O7].getD i 0)):=⟨_,_,_,⟨om3,a14_3,j14,ok3⟩,X5a Z T  F14,b14,Dq X G oa3⟩
 have J1b:=c0 (Zsb Z T  F15) (F15.binds λ_ _ _ _ _ _=>JV λ_ _ _=>rfl) F15.kp a15
 have aH:BaI l.prog w K mg base 1 "Change" (Jb K (λi=>[O0,O1,O2,O3,O4,O5,O6,O7].getD i 0)):=⟨O4,_,_,_,Dq X G oa4,ClI.of e16,k16,XHa Z T  F16,b16⟩
 have sr:MkV l.prog w K mg base 1 "Turned" O7 (JK K (λi=>[O0,O1,O2,O3,O4,O5,O6,O7].getD i 0)):=⟨_,_,_,⟨om7,a17_7,j17,ok7⟩,XIa Z T  F17,b17,Dq X G oa7⟩
 have wm:=m1 (JM Z T  F18) o9 a18_4 j18 o8;have sT:=m1 (JM Z T  F18) o9 a18_5 j18 o8;have Ys:=m1 (JM Z T  F18) o9 a18_6 j18 o8;have Xp:=m1 (JM Z T  F18) o9 a18_7 j18 o8;have XOa:=c0 (Yqa Z T  F19) (F19.binds λ_ _ _ _ _ _=>ZP λ_ _=>rfl) F19.kp a19
 have uz:=c0 (ZAb Z T  F20) (F20.binds λ_ _ _ _ _ _=>ZP λ_ _=>rfl) F20.kp a20
 have J2b:=c0 (ZBb Z T  F21) (F21.binds λ_ _ _ _ _ _=>JU λ_=>rfl) F21.kp a21
 have J3b:=c0 (ZCb Z T  F22) (F22.binds λ_ _ _ _ _ _=>JU λ_=>rfl) F22.kp a22
 have x9:=c0 (Qeb Z T  F23) (F23.binds λ_ _ _ _ _ _=>JU λ_=>rfl) F23.kp a23
 have uC:=c0 (Qfb Z T  F24) (F24.binds λ_ _ _ _ _ _=>JU λ_=>rfl) F24.kp a24
 have Ysa:=c0 (Yba Z T  F25) (F25.binds λ_ _ _ _ _ _=>ZP λ_ _=>rfl) F25.kp a25
 have uD:=c0 (QJc Z T xZ F26) (F26.binds λ_ _ _ _ _ _=>ZP λ_ _=>rfl) F26.kp a26
 have YYc:=c0 (Jwc Z T Qhb F27) (F27.binds λ_ _ _ _ _ _=>JU λ_=>rfl) F27.kp a27
 have qA:MkV l.prog w K mg base 2 "Leaf" O1 (YA K (λi=>[O0,O1,O2,O3,O4,O5,O6,O7].getD i 0)):=⟨_,_,_,⟨om1,a28_1,j28,ok1⟩,Zmb Z T be F28,b28,Dq X G oa1⟩
 have qz:MkV l.prog w K mg base 2 "Twig" O2 (YB K (λi=>[O0,O1,O2,O3,O4,O5,O6,O7].getD i 0)):=⟨_,_,_,⟨om2,a29_2,j29,ok2⟩,Znb Z T be F29,b29,Dq X G oa2⟩
 have qL:=m1 (X7a Z T vj qE qF F30) b30 a30_3 j30 k30;have su:MkV l.prog w K mg base 2 "PutIn" O5 (Ya K (λi=>[O0,O1,O2,O3,O4,O5,O6,O7].getD i 0)):=⟨_,_,_,⟨om5,a31_5,j31,ok5⟩,Qdb Z T aH F31,b31,Dq X G oa5⟩
 have sv:MkV l.prog w K mg base 2 "TakenOut" O6 (Jl K (λi=>[O0,O1,O2,O3,O4,O5,O6,O7].getD i 0)):=⟨_,_,_,⟨om6,a32_6,j32,ok6⟩,J6a Z T aH F32,b32,Dq X G oa6⟩
 have ya:=c0 (JOb Z T J2b J3b F33) (F33.binds λ_ _ _ _ _ _=>JU λ_=>rfl) F33.kp a33
 have J4b:=c0 (ZHb Z T uC wm sT Ys Xp F34) (F34.binds λ_ _ _ _ _ _=>ZP λ_ _=>rfl) F34.kp a34
 have Y4b:=c0 (JIb Z T uD F35) (F35.binds λ_ _ _ _ _ _=>ZP λ_ _=>rfl) F35.kp a35
 have Y5b:=c0 (JEb Z T YYc F36) (F36.binds λ_ _ _ _ _ _=>JU λ_=>rfl) F36.kp a36
 have ZE:=m1 (J1a Z T qC F37) b37 a37_3 j37 k37;have J5b:=c0 (ZEb Z T uC uz x9 ya F38) (F38.binds λ_ _ _ _ _ _=>JU λ_=>rfl) F38.kp a38
 have XRa:=c0 (Yra Z T uC uz x9 ya F39) (F39.binds λ_ _ _ _ _ _=>ZP λ_ _=>rfl) F39.kp a39
 have Y6b:=c0 (JUb Z T uD xZ F40) (F40.binds λ_ _ _ _ _ _=>JU λ_=>rfl) F40.kp a40
 have uE:=c0 (Qbb Z T Y4b F41) (F41.binds λ_ _ _ _ _ _=>ZP λ_ _=>rfl) F41.kp a41
 have yb:=c0 (YKb Z T qz qA F42) (F42.binds λ_ _ _ _ _ _=>ZP λ_ _=>rfl) F42.kp a42
 have Jj:=m1 (X8a Z T ZE F43) b43 a43_3 j43 k43;have Zcd:=c0 (Qsd Z T Y5b F44) (F44.binds λ_ _ _ _ _ _=>ZP λ_ _=>rfl) F44.kp a44
 have Yj:=c0 (Zxb Z T sr su sv F45) (F45.binds λ_ _ _ _ _ _=>JV λ_ _ _=>rfl) F45.kp a45
 have Qt:=m1 (X6a Z T yb ZE F46) b46 a46_3 j46 k46;have YX:=c0 (JHb Z T Zcd yb vw qJ qK qL F47) (F47.binds λ_ _ _ _ _ _=>JV λ_ _ _=>rfl) F47.kp a47
 have wq:=m1 (JL Z T Yj F48) pk a48_4 j48 pi;have YG:=m1 (JL Z T Yj F48) pk a48_5 j48 pi;have Jr:=m1 (JL Z T Yj F48) pk a48_6 j48 pi;have Yc:=m1 (JL Z T Yj F48) pk a48_7 j48 pi;have QSc:=c0 (Y1b Z T Jj F49) (F49.binds λ_ _ _ _ _ _=>JV λ_ _ _=>rfl) F49.kp a49
 have JHa:=c0 (Z8a Z T Y6b Yj F50) (F50.binds λ_ _ _ _ _ _=>ZP λ_ _=>rfl) F50.kp a50
 have nV:=c0 (YTc Z T uE Y3b Qt F51) (F51.binds λ_ _ _ _ _ _=>JV λ_ _ _=>rfl) F51.kp a51
 have yc:=c0 (YQb Z T YX F52) (F52.binds λ_ _ _ _ _ _=>JV λ_ _ _=>rfl) F52.kp a52
 have QTc:=c0 (YVb Z T YD JI Ji Qt F53) (F53.binds λ_ _ _ _ _ _=>ZP λ_ _=>rfl) F53.kp a53
 have ZJb:=c0 (Qgb Z T Qt F54) (F54.binds λ_ _ _ _ _ _=>ZP λ_ _=>rfl) F54.kp a54
 have yd:=c1 (Jzc Z T yc YX uD qS F55) (F55.binds λ_ _ _ _ _ _=>ZP λ_ _=>rfl) F55.kp a55
 have JTc:=c0 (QRc Z T XOa ZJb JHa QSc F56) (F56.binds λ_ _ _ _ _ _=>JV λ_ _ _=>rfl) F56.kp a56
 have Xn:∀ n,MeV l.prog w K mg base (5+n) O2 "spread" (JH l.prog w (λi=>[C0,C1,C2,C3].getD i 0) (λi=>[O0,O1,O2,O3,O4,O5,O6,O7].getD i 0) n):=λn=>by
  induction n with
  | zero=>exact⟨_,_,_,⟨a57_2,j57,xP⟩,Zpa,xQ⟩
  | succ n ih=>exact⟨_,_,_,⟨a57_2,j57,xP⟩,XDa Z T YD JI Ji ZW Qt ih F57,xQ⟩
 have QUc:=c0 (YRb Z T Xn ZW Qt F58) (F58.binds λ_ _ _ _ _ _=>ZP λ_ _=>rfl) F58.kp a58
 have ZKb:∀ n,Cal l.prog w K mg base (6+n) "heads_with" ["pages","number","row"] (J9 l.prog w (λi=>[C0,C1,C2,C3].getD i 0) (λi=>[O0,O1,O2,O3,O4,O5,O6,O7].getD i 0) n):=λn=>by
  induction n with
  | zero=>exact c0 Zpa xS xR a59
  | succ n ih=>exact c0 (Qcb Z T uE YX J1b Qt ih F59) xS xR a59
 have JUc:∀ n,Cal l.prog w K mg base (6+n) "joined" ["pages","left","right"] (Zqa l.prog w (λi=>[C0,C1,C2,C3].getD i 0) (λi=>[O0,O1,O2,O3,O4,O5,O6,O7].getD i 0) n):=λn=>by
  induction n with
  | zero=>exact c0 Zpa xW xV a60
  | succ n ih=>exact c0 (QLc Z T YX Qt ih F60) xW xV a60
 have pB:=c1 (Qud Z T yc yd ZKb Jj F61) (F61.binds λ_ _ _ _ _ _=>JSc λ_ _ _ _=>rfl) F61.kp a61
 have Yta:∀ n,Cal l.prog w K mg base (15+n) "heads_without" ["pages","number","key"] (Jk l.prog w (λi=>[C0,C1,C2,C3].getD i 0) (λi=>[O0,O1,O2,O3,O4,O5,O6,O7].getD i 0) n):=λn=>by
  induction n with
  | zero=>exact c0 Zpa xY xX a62
  | succ n ih=>exact c0 (J5a Z T uE YX JUc Qt ih F62) xY xX a62
 have pC:=c1 (YUc Z T QTc Yta nV sk F63) (F63.binds λ_ _ _ _ _ _=>JV λ_ _ _=>rfl) F63.kp a63
 have vR:=m1 (JN Z T pB pC nV ju F64) pA a64_4 j64 pq;have vS:=m1 (JN Z T pB pC nV ju F64) pA a64_5 j64 pq;have vT:=m1 (JN Z T pB pC nV ju F64) pA a64_6 j64 pq;have vU:=m1 (JN Z T pB pC nV ju F64) pA a64_7 j64 pq;have YZc:=c1 (JJc Z T vR vS vT vU F65) (F65.binds λ_ _ _ _ _ _=>JV λ_ _ _=>rfl) F65.kp a65
 exact Qzd Z T J5b XRa yd Ysa YZc JTc uz J4b QUc sW wq YG Jr Yc F66
end My
namespace PySem.W.Fast
def tw10091382285243682939:=0
def tw4607798481650452869:=0
def tw6721477155833492946:=0
def tw17106512936083063181:=0
def tw14616350831572604343:=0
def tw16950857318059730753:=0
def tw2855214671840878736:=0
def tw10646834199413928327:=0
def tw85327013427656253:=0
def tw11421172381230418892:=0
def tw12296920885254826832:=0
def tw10164032733728173619:=0
def tw15999158833815380295:=0
def tw14386833836633391059:=0
def tw6586569035767064645:=0
def tw816454877150264265:=0
def tw15413430577060884478:=0
def tw7457810714196787227:=0
def tw11054419087168802479:=0
def tw6250005721739531527:=0
def tw8445854311500703013:=0
def tw17603409602759234813:=0
def tw3653153601826815003:=0
def tw9267124448928117135:=0
def tw2141527590089149731:=0
def tw9118201697357681410:=0
def tw560949932341584054:=0
def tw16970032507795847811:=0
def tw10749968450917767191:=0
def tw13133880072277966688:=0
def tw3908933430121166450:=0
def tw13088163033690878716:=0
def tw11817694767379157659:=0
def tw1248285933048651704:=0
def tw12906703639871956827:=0
def tw437284172205352107:=0
def tw14404481740791555554:=0
def tw18055196573603196280:=0
def tw12256724924783942547:=0
def tw13919335050220312437:=0
def tw13192305898467396544:=0
def tw10368814043914347049:=0
def tw8101128189893430099:=0
def tw2458528228432761271:=0
def tw1714360007762093017:=0
def tw8809126403417835089:=0
def tw2444823656376422464:=0
def tw8076963523014973303:=0
def tw4582704517231262103:=0
def tw5004900185835317679:=0
def tw14293914343118601362:=0
def tw8256145560244636257:=0
def tw11047256610816889061:=0
def tw11021926713516220301:=0
def tw11739443990861358742:=0
def tw3439933501310432982:=0
def tw13648023139664289563:=0
def tw14091971333021777140:=0
def tw5361588335650166269:=0
def tw2834681717764594815:=0
def tw5480288431909177135:=0
def tw12368787775109829474:=0
def tw18145218824377918425:=0
def tw14700176430449591653:=0
def tw12465738449049879862:=0
def tw11165360334825052384:=0
def tw6385195087197437031:=0
def tw17563491998536963469:=0
def tw15819998715822514880:=0
def tw582092333967820050:=0
def tw8387270397126896432:=0
def tw2334227462094392879:=0
def tw2578927336057867288:=0
def tw7997003805446998038:=0
def tw6726959953339741625:=0
def tw13928981113007165381:=0
def tw5725503774859725083:=0
def tw14111070620128026801:=0
def tw11426300859096785595:=0
def tw9563211508585180379:=0
def tw17373874398442433334:=0
def tw7144851955708453222:=0
def tw14642727473946805980:=0
def tw2323971202205380805:=0
def tw17479137289629243920:=0
def tw9934374477768624290:=0
def tw14935711522577835199:=0
def tw1078219978220402728:=0
def tw5865885061936379866:=0
def tw17952381274637113274:=0
def tw11229795657529954599:=0
def tw12951490253625377701:=0
def tw15828749866937968151:=0
def tw2205292581178782128:=0
def tw12592129668940483549:=0
def tw1423672685569245990:=0
def tw9637362042966995980:=0
def tw12557540288077557474:=0
def tw17185917855961098204:=0
def tw1238413176539551346:=0
def tw2791970526741205340:=0
def tw14390235244310791451:=0
def tw3112563748310704594:=0
def tw12812085646436216258:=0
def tw373120733662319402:=0
def tw18159412560781678783:=0
def tw3336937214548198900:=0
def tw17229496564152361890:=0
def tw10845825860302485428:=0
def tw11612549256945608132:=0
def tw6891352470650284714:=0
def tw7181343523115785710:=0
def tw9115829347935346675:=0
def tw14289814746288601807:=0
def tw10096654592580901992:=0
def tw2984649559310822410:=0
def tw15778829176857753095:=0
def tw469283788956167675:=0
def tw9581487114530109659:=0
def tw2260363706473945689:=0
def tw5561167070229772139:=0
def tw843670159158242257:=0
def tw11328957611891655983:=0
def tw15261020399222794680:=0
def tw8901322974571861138:=0
def tw5799595354671593675:=0
def tw7787143345682136373:=0
def tw4856480905243827073:=0
def tw17328307940177311508:=0
def tw7488239335780591270:=0
def tw186596185850607608:=0
def tw776300889684346533:=0
def tw7976975463832404638:=0
def tw9366163528472305350:=0
def tw6561291144109011584:=0
def tw4919638812379551112:=0
def tw18041459942453511502:=0
def tw17476740392998198556:=0
def tw7203848872416717414:=0
def tw11945741163604366930:=0
def tw11928143071361258935:=0
def tw12360885815642271952:=0
def tw8333392657835931452:=0
def tw5276946189628674206:=0
def tw14208334028384414288:=0
def tw7704343631110599766:=0
def tw285833881934440791:=0
def tw6636040969505107219:=0
def tw5758485511357638340:=0
def tw14541049270459399861:=0
def tw12635692380853036357:=0
def tw8753162000905725530:=0
def tw13306366534291478518:=0
def tw3401684596019454858:=0
def tw17340142449687188567:=0
def tw11108347623890680497:=0
def tw2110012266918209349:=0
def tw2532623530630243391:=0
def tw1401884922143249116:=0
def tw1089958052124612418:=0
def tw16027825943845514375:=0
def tw5431320591429805111:=0
def tw8545057232530011520:=0
def tw13531320533983643553:=0
def tw12377428451061447392:=0
def tw3151552339832708506:=0
def tw1223125425161818666:=0
def tw11060271389477097819:=0
def tw2391780149919784637:=0
def tw320065954691814879:=0
def tw204617377281705374:=0
def tw15603043905365966436:=0
def tw11704431574635809997:=0
def tw13089111131948640386:=0
def tw16872883378217865656:=0
def tw18412517251829941675:=0
def tw12704724289789109527:=0
def tw12104450452235320409:=0
def tw10910778329682677516:=0
def tw9865793650087760999:=0
def tw11605398386346407711:=0
def tw4667349586008152506:=0
def tw15433236185950013934:=0
def tw5469093890348730534:=0
def tw5678173702418305457:=0
def tw15646164604247538740:=0
def tw15767460304223889173:=0
def tw1753810165378705425:=0
def tw12531389846728854494:=0
def tw5922607533050736997:=0
def tw7347031521950460418:=0
def tw14064194342126919247:=0
def tw18019474404311959096:=0
def tw900619536603839532:=0
def tw16810297238334505380:=0
def tw3559386811651976416:=0
def tw16612087793400254851:=0
def tw2821923960639382883:=0
def tw653309230358138513:=0
def tw7303058487475296939:=0
def tw7165898575351396659:=0
def tw6492088175882565831:=0
def tw11103761024610661501:=0
def tw8649188357327790337:=0
def tw10914474430684022303:=0
def tw4300267070212590829:=0
def tw3027860186363502237:=0
def tw15070464735643238927:=0
def tw14099997824288237649:=0
def tw4830081175379082974:=0
def tw3421624085364381264:=0
def tw6061194351228307097:=0
def tw15415015129909796169:=0
def tw4155848095907884781:=0
def tw3776522957156777726:=0
def tw5014810739036752576:=0
def tw5772281725591773831:=0
def tw12660061856751672294:=0
def tw4115376673976119215:=0
def tw1776779591547639741:=0
def tw17712238393401641280:=0
def tw568370756310539931:=0
def tw2182266541039635643:=0
def tw16287771177605925787:=0
def tw13428897983568177358:=0
def tw7444520183913137329:=0
def tw9055715889773867527:=0
def tw2221675450819486698:=0
def tw13556176287424549136:=0
def tw2634016938733436690:=0
def tw9448531073687221823:=0
def tw12316379076222159139:=0
def tw13716080248566032211:=0
def tw8239643671516802880:=0
def tw3912715522018635607:=0
def tw7094216908633253442:=0
def tw13525209706508480415:=0
def tw18268424490353421918:=0
def tw7602147493547768319:=0
def tw17293377568655872155:=0
def tw1049075841920448894:=0
def tw13847687710305139591:=0
def tw14809401128880959729:=0
def tw736019370738561268:=0
def tw4717178796323115030:=0
def tw2353785121113076481:=0
def tw843061997152840001:=0
def tw458896474757524560:=0
def tw16000743307610940127:=0
def tw6759493044368315671:=0
def tw13648886400662044330:=0
def tw14342296660445278808:=0
def tw4626048407141017519:=0
def tw2511977130626346507:=0
def tw18236729672470514873:=0
def tw3373224623534222578:=0
def tw15835313069071207233:=0
def tw10056492246917949438:=0
def tw464225534928547655:=0
def tw7304297749027651608:=0
def tw5605448063399725079:=0
def tw7513875662693702031:=0
def tw1148358641399364774:=0
def tw17525170273227679858:=0
def tw1256539011683247195:=0
def tw9534106899223552956:=0
def tw8353936746777460370:=0
def tw10140115218055893361:=0
def tw14854608781318165687:=0
def tw14364731131338245769:=0
def tw14088413940879313780:=0
def tw16916535624962442402:=0
def tw196185090889196900:=0
def tw3047813635919338894:=0
def tw10587485760194928903:=0
def tw10784884831848902491:=0
def tw10334976376700519361:=0
def tw2959102681172339113:=0
def tw18074971147527254213:=0
def tw13851168925675103902:=0
def tw11314718037456734165:=0
def tw3702924490104364502:=0
def tw3909725116975638990:=0
def tw13725280563431866182:=0
def tw17092910284891721989:=0
def tw10384684899532205854:=0
def tw2278632455736849834:=0
def tw5879720485644605565:=0
def tw4945119048162777217:=0
def tw5894701220845952323:=0
def tw697949957117841953:=0
def tw1755981321330315128:=0
def tw8189322628150456499:=0
def tw14272486623351532330:=0
def tw11592621829820786897:=0
def tw15086521104178488616:=0
def tw2558790833245510383:=0
def tw2382304723001250605:=0
def tw5993138764942576391:=0
def tw3715377780227282584:=0
def tw16597956691101930953:=0
def tw13595129469751410457:=0
def tw7047945769297449866:=0
def tw17152209116961023069:=0
def tw3663142129217746171:=0
def tw2454705361727584684:=0
def tw8816462045702093724:=0
def tw15219659985221844547:=0
def tw13662038504373791064:=0
def tw14597837301816196900:=0
def tw4431978834783238034:=0
def tw8236995204676909474:=0
def tw7533000725401995910:=0
def tw3782537551075366577:=0
def tw1274900473392430599:=0
def tw1545214801944207490:=0
def tw17953038273336252929:=0
def tw4092271810512945140:=0
def tw9128433842704822687:=0
def tw14518420861957945091:=0
def tw13100942822352019119:=0
def tw14708982370598062334:=0
def tw4433108704642318351:=0
def tw7426680672426005618:=0
def tw7565334183173272482:=0
def tw6104394757979046886:=0
def tw8300568261290343553:=0
def tw285601110795571069:=0
def tw16897879016000125166:=0
def tw16067208140051114186:=0
def tw1820036782093701039:=0
def tw10894729648643305363:=0
def tw2547077823345244154:=0
def tw5546225898029852135:=0
def tw14409376316240277696:=0
def tw15052141402512283356:=0
def tw12838364514905538667:=0
def tw17312124266384867785:=0
def tw9030613420873980750:=0
def tw10507398693250751729:=0
def tw17815593590462809104:=0
def tw7118330124888985850:=0
def tw8450079817991134340:=0
def tw4517088733435146398:=0
def tw13496809202389748623:=0
def tw8437710096924540869:=0
def tw18210598286957393666:=0
def tw4733095546485944726:=0
def tw4708558617968260732:=0
def tw3385645020852492808:=0
def tw928701924337951004:=0
def tw11528504172224798562:=0
def tw2969334032587018090:=0
def tw7720276118376769442:=0
def tw11701103047627319765:=0
def tw16688002355228973993:=0
def tw12119235881536667106:=0
def tw2821213195967633368:=0
def tw7695846192869232555:=0
def tw4285669636361264602:=0
def tw9603503662374718784:=0
def tw14594971583042175929:=0
def tw11520494285513956403:=0
def tw6296628013340554351:=0
def tw8765558472239038182:=0
def tw16321950286243463436:=0
def tw10192585051098146652:=0
def tw720475627309532017:=0
def tw10268349198567969369:=0
def tw11762642475698304736:=0
def tw8638924335646084684:=0
def tw2219083777140295588:=0
def tw252083685532328201:=0
def tw3111451452586857432:=0
def tw9956958740733419349:=0
def tw17892294247153577702:=0
def tw15032684795718141595:=0
def tw11832626383362200323:=0
def tw4433350847078741586:=0
def tw7922104967174080573:=0
def tw15396172097329091627:=0
def tw1185024064868517896:=0
def tw10533734613267009597:=0
def tw2566994033175462990:=0
def tw2997999088649781112:=0
def tw15233843158313641468:=0
def tw14876220380754231221:=0
def tw15157541624935603334:=0
def tw16989836239010303535:=0
def tw8382589170933898024:=0
def tw8619098530988819324:=0
def tw9144186226310058715:=0
def tw8257673717709738145:=0
def tw5691340691636050768:=0
def tw3747743321645172361:=0
def tw17471843287168730330:=0
def tw987473255792742681:=0
def tw3708298237060202865:=0
def tw17059681444754785659:=0
def tw2252899390561570212:=0
def tw6456771638048178328:=0
def tw10074907988272187529:=0
def tw17694927599600005507:=0
def tw1694073326636626532:=0
def tw17708750056802191669:=0
def tw2917204909631644805:=0
def tw16759513365267232178:=0
def tw6608105597071635132:=0
def tw7754554425539692403:=0
def tw6126215994275798443:=0
def tw13420399403828814409:=0
def tw1649896193336623268:=0
def tw3733326883018736103:=0
def tw12933878460216294076:=0
def tw3527667899979624920:=0
def tw15259817039000359061:=0
end PySem.W.Fast
open PySem PySem.W PyProof.Rows
local macro_rules | `(tactic| walk_at "fn") => `(tactic| exact L2.XNc (by k_is) (by k_is) (by k_is))
set_option maxRecDepth 100000 in
set_option maxHeartbeats 0 in
theorem PySem.Challenge.cw_twigtable_k36_whole_moved_to_and_fro_holds : PySem.Challenge.rw_twigtable_k36_whole_moved_to_and_fro.Holds := by
 w_on;o_law;k_head;(case hw=>w_witness2)
 k_fill
 refine L2.Zrc (l:=PySem.Challenge.rw_twigtable_k36_whole_moved_to_and_fro) (n:=63) (k:=27) (x:="_law_script") (CX:=λ_=>L2.CX0) (sp:=My.XMa) rfl #[1] rfl ⟨rfl,by decide,by decide⟩ (λw h Y=>W.kIn_of Y) ?F ?S ?C
 case F =>
  intro w mg fa h KX G kg;refine' My.QBd KX G kg ?ta ?tb ?oa0 ?of0 ?oa1 ?of1 ?om1 ?ok1 ?oa2 ?of2 ?om2 ?ok2 ?oa3 ?of3 ?om3 ?ok3 ?oa4 ?of4 ?oa5 ?of5 ?om5 ?ok5 ?oa6 ?of6 ?om6 ?ok6 ?oa7 ?of7 ?om7 ?ok7 ?oo ?t1 ?t2 ?t3 ?t4 ?t5 ?t6 ?t7 ?t8 ?t9 ?p0 ?q0 ?r0 ?u0 ?o0 ?p1 ?q1 ?r1 ?u1 ?o1 ?p2 ?q2 ?r2 ?u2 ?o2 ?p3 ?q3 ?r3 ?u3 ?o3 ?tt ?tu ?a1 ?j1 ?F1 ?a2 ?j2 ?F2 ?a3 ?j3 ?F3 ?a4 ?j4 ?F4 ?a5 ?F5 ?a6 ?F6 ?a7 ?F7 ?a8_0 ?j8 ?F8 ?e8 ?a9_0 ?a9_1 ?a9_2 ?j9 ?F9 ?a10_0 ?a10_1 ?a10_2 ?j10 ?F10 ?a11_0 ?a11_1 ?j11 ?F11 ?a12_1 ?j12 ?F12 ?a13_2 ?j13 ?F13 ?a14_3 ?j14 ?F14 ?a15 ?F15 ?a16_4 ?j16 ?F16 ?e16 ?a17_7 ?j17 ?F17 ?a18_4 ?a18_5 ?a18_6 ?a18_7 ?j18 ?F18 ?a19 ?F19 ?a20 ?F20 ?a21 ?F21 ?a22 ?F22 ?a23 ?F23 ?a24 ?F24 ?a25 ?F25 ?a26 ?F26 ?a27 ?F27 ?a28_1 ?j28 ?F28 ?a29_2 ?j29 ?F29 ?a30_3 ?j30 ?F30 ?a31_5 ?j31 ?F31 ?a32_6 ?j32 ?F32 ?a33 ?F33 ?a34 ?F34 ?a35 ?F35 ?a36 ?F36 ?a37_3 ?j37 ?F37 ?a38 ?F38 ?a39 ?F39 ?a40 ?F40 ?a41 ?F41 ?a42 ?F42 ?a43_3 ?j43 ?F43 ?a44 ?F44 ?a45 ?F45 ?a46_3 ?j46 ?F46 ?a47 ?F47 ?a48_4 ?a48_5 ?a48_6 ?a48_7 ?j48 ?F48 ?a49 ?F49 ?a50 ?F50 ?a51 ?F51 ?a52 ?F52 ?a53 ?F53 ?a54 ?F54 ?a55 ?F55 ?a56 ?F56 ?a57_0 ?a57_2 ?j57 ?F57 ?a58 ?F58 ?a59 ?F59 ?a60 ?F60 ?a61 ?F61 ?a62 ?F62 ?a63 ?F63 ?a64_4 ?a64_5 ?a64_6 ?a64_7 ?j64 ?F64 ?a65 ?F65 ?a66 ?F66 ?z1 ?z2 ?z3 ?z4 ?z5 ?z6 ?z7 ?z8 ?z9 ?z10 ?z11 ?z12 ?g1 ?g2
  (case ta=>(first | rfl | kernel_rfl | decide +kernel))
  (case tb=>(first | rfl | kernel_rfl | decide +kernel))
  (case oa0=>k_is)
  (case of0=>(first | rfl | kernel_rfl | decide +kernel))
  (case oa1=>k_is)
  (case of1=>(first | rfl | kernel_rfl | decide +kernel))
  (case om1|ok1|oa2=>k_is)
  (case of2=>(first | rfl | kernel_rfl | decide +kernel))
  (case om2|ok2|oa3=>k_is)
  (case of3=>(first | rfl | kernel_rfl | decide +kernel))
  (case om3|ok3|oa4=>k_is)
  (case of4=>(first | rfl | kernel_rfl | decide +kernel))
  (case oa5=>k_is)
  (case of5=>(first | rfl | kernel_rfl | decide +kernel))
  (case om5|ok5|oa6=>k_is)
  (case of6=>(first | rfl | kernel_rfl | decide +kernel))
  (case om6|ok6|oa7=>k_is)
  (case of7=>(first | rfl | kernel_rfl | decide +kernel))
  (case om7|ok7=>k_is)
  (case oo=>(first | rfl | kernel_rfl | decide +kernel))
  (case t1|t2=>k_is)
  (case t3=>(first | rfl | kernel_rfl | decide +kernel))
  (case t4=>(first | rfl | kernel_rfl | decide +kernel))
  (case t5=>(first | rfl | kernel_rfl | decide +kernel))
  (case t6=>(first | rfl | kernel_rfl | decide +kernel))
  (case t7=>(first | rfl | kernel_rfl | decide +kernel))
  (case t8=>(first | rfl | kernel_rfl | decide +kernel))
  (case t9=>(first | rfl | kernel_rfl | decide +kernel))
  (case p0|q0=>k_is)
  (case r0=>(first | rfl | kernel_rfl | decide +kernel))
  (case u0=>(first | rfl | kernel_rfl | decide +kernel))
  (case o0|p1|q1=>k_is)
  (case r1=>(first | rfl | kernel_rfl | decide +kernel))
  (case u1=>(first | rfl | kernel_rfl | decide +kernel))
  (case o1|p2|q2=>k_is)
  (case r2=>(first | rfl | kernel_rfl | decide +kernel))
  (case u2=>(first | rfl | kernel_rfl | decide +kernel))
  (case o2|p3|q3=>k_is)
  (case r3=>(first | rfl | kernel_rfl | decide +kernel))
  (case u3=>(first | rfl | kernel_rfl | decide +kernel))
  (case o3=>k_is)
  (case tt=>(first | rfl | kernel_rfl | decide +kernel))
  (case tu=>(first | rfl | kernel_rfl | decide +kernel))
  (case a1|j1|a2|j2|a3|j3|a4|j4|a5|a6|a7|a8_0|j8=>k_is)
  (case e8=>(first | rfl | kernel_rfl | decide +kernel))
  (case a9_0|a9_1|a9_2|j9|a10_0|a10_1|a10_2|j10|a11_0|a11_1|j11|a12_1|j12|a13_2|j13|a14_3|j14|a15|a16_4|j16=>k_is)
  (case e16=>(first | rfl | kernel_rfl | decide +kernel))
  (case a17_7|j17|a18_4|a18_5|a18_6|a18_7|j18|a19|a20|a21|a22|a23|a24|a25|a26|a27|a28_1|j28|a29_2|j29|a30_3|j30|a31_5|j31|a32_6|j32|a33|a34|a35|a36|a37_3|j37|a38|a39|a40|a41|a42|a43_3|j43|a44|a45|a46_3|j46|a47|a48_4|a48_5|a48_6|a48_7|j48|a49|a50|a51|a52|a53|a54|a55|a56|a57_0|a57_2|j57|a58|a59|a60|a61|a62|a63|a64_4|a64_5|a64_6|a64_7|j64|a65|a66|z1|z2|z3|z4|z5|z6|z7|z8|z9|z10|z11|z12|g1|g2=>k_is)
  (case F1 | F2 | F3 | F4 | F5 | F6 | F7 | F8 | F9 | F10 | F11 | F12 | F13 | F14 | F15 | F16 | F17 | F18 | F19 | F20 | F21 | F22 | F23 | F24 | F25 | F26 | F27 | F28 | F29 | F30 | F31 | F32 | F33 | F34 | F35 | F36 | F37 | F38 | F39 | F40 | F41 | F42 | F43 | F44 | F45 | F46 | F47 | F48 | F49 | F50 | F51 | F52 | F53 | F54 | F55 | F56 | F57 | F58 | F59 | F60 | F61 | F62 | F63 | F64 | F65 | F66=>walk_at "fn")
 case S=>exact λw H a ns hl hb hO hS=>My.QAd hl hb hS
 case C=>exact λ_ _ _ _ _ z=>z
end
