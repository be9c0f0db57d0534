import PyProof.Rows.All
import Wide.All
import OpenK.AllK
import Wide.FinOn
import Lean
import PyProof.EqAt
import PyProof.EqKinds
import PyProof.TupleCall
import PyProof.NeKinds
import PyProof.StrOps2
import PySem.Challenge.RW_twigtable_k26_columns
local macro_rules | `(#[0]) => `(by lia)
local macro_rules | `(#[1]) => `(by decide)
local macro_rules | `(#[2]) => `(by simp)
abbrev YQ_:=PySem.Value->PySem.Shared->Prop
abbrev YP_:=List (PySem.Addr×PySem.Obj)
open List
open Array renaming length_toList → V7,getD_eq_getD_getElem? → Ix,forIn_toList → LQ
open Bool renaming false_ne_true → Uh,eq_iff_iff → UC,and_eq_true → OC,false_eq_true → O8,and_false → LG,noConfusion → Dr
open False renaming elim → V8
open ForInStep renaming yield → O7
open Int renaming toNat_natCast → Os,eq_ofNat_of_zero_le → Du
open Lean renaming mkIdent → Db
open List renaming range → VC,filterMap_cons → VM,mem_cons_self → VN,mem_cons_of_mem → VO,mem_append_left → VS,iter → Um,mem_append_right → Ux,size_toArray → UE,length_cons → UI,lookup → UN,map_cons → UO,length_map → UQ,append_nil → U1,replicate → Od,length → Of,length_take → Og,getElem?_append_right → Oi,getElem?_append_left → Oj,getElem?_map → Ol,mem_of_getElem? → Om,length_append → On,length_drop → Ov,any_cons → OD,length_singleton → OH,map_nil → OJ,find?_cons → OO,length_nil → OP,filter_cons → OT,length_filter_le → OU,lookup_cons → O5,all_eq_true → Ig,map_append → Ip,take_add_one → Iq,map_congr_left → Ir,take_of_length_le → Iu,eq_nil_of_length_eq_zero → Iv,toArray → Iw,getD_eq_getElem?_getD → ID,getElem?_eq_getElem → IE,getElem_mem → IF,ext_getElem → IG,lt_irrefl → IS,mem_of_mem_take → IT,mem_of_getLast? → IU,mem_append → IV,take_length → IW,filter_append → IX,append_assoc → IY,foldl_cons → IZ,mem_cons → Lv,not_mem_nil → Lw,mem_map_of_mem → Lx,contains_cons → LC,nil_append → LL,nodup_nil → LR,nodup_cons → LS,flatten_append → LU,flatten_cons → LV,dropLast_concat → L8,map → Da,nodup_append → Dd,getElem_map → Dj,take_append_drop → Dm,drop_of_length_le → Do,pairwise_map → Dp,mem_or_eq_of_mem_set → Ds,map_map → Dv,mem_map → Dx,mem_singleton → DB,mem_filter → DC,any_eq_true → DD,mem_range → DE,getElem_cons_drop → DF,forIn_cons → DG,flatMap_cons → DI,all_cons → DJ,zipIdx_nil → DK,map_const' → DL,drop_zero → DM
open List.Pairwise renaming nil → Ik,imp → Dq
open Nat renaming lt_of_lt_of_le → Vz,lt_irrefl → VA,ne_of_lt → VB,le_trans → VJ,le_of_lt → VL,ne_of_gt → Ui,le_refl → Uu,zero_le → Uy,lt_succ_self → UT,le_succ → U6,lt_or_ge → Dh,mul_le_mul_right → Di
open Ne renaming symm → VR
open Option renaming some → Vo,none → Vp,map_some → O6
open Option.some renaming inj → Vr,injEq → O9
open Or renaming inl → ON
open Prod renaming fst → Dw
open PyProof.Rows renaming IsTup → Vt,AllBare → VI,callWith_type1 → Uw,envOfC → Oe,Keyed → IA,SortKind → IC,seqObj → IJ,failedOf → IK,get?_update_seq → IM,listUpdate_at → IN,seqEpoch_at → IP,ext_toList → IQ,listItems_at → LO,lt_str → DN,fill → DO
open PySem renaming Value → Va,World → Vb,Program → Vg,Addr → Vh,Paired → Vm,Heap → Vq,sizeLine → Vs,sysModules → Vu,tupleKind → Vv,Within → Vx,mainGlobals → VE,bootBuiltins → VF,Around → VG,Shared → VH,GenState → VQ,Model → VT,wpAny → VV,model → VW,eval → VX,backTo → VY,starEach → VZ,Stmt → V0,wpAny_mono → V1,compareOp → V2,behindInMarks → V3,wpAny_truthy_bool → V4,standAt → V5,holding → V6,wpAny_execs_nil → V9,swapsWith → Ua,assign → Ub,assignEach → Uc,wpAny_bind → Ud,wpAny_holding → Ue,wpAny_standAt → Uf,wpAny_passesOwn → Ug,pyNext → Uj,letOwnedTupleGo → Uk,pyIter → Ul,wpAny_pure → Uo,rawInt → Uq,wpAny_pyIter_list → Ur,wpAny_pyIter_tuple → Uv,call → Uz,binaryOp → UA,intBits_le_64 → UB,sizeLine_eq → UD,getMethod → UH,Result → UJ,codeAny → UL,attributeBase → UU,cLine → UY,FuncData → U0,wpAny_call → U2,codeAny_mono → U3,wpAny_Call_Name_kw → U4,Keyword → U7,backToKw → U8,keywordEach → U9,NameKind → Oa,bindL → Ob,bindC → Oc,mem_of_lookup → Oh,typeLookup → Ot,getItem → Ou,subscripted → Ow,sliceBounds → OB,callerA → OM,valueAt → OQ,stored → OR,atKey → OV,tupleKind_room_in1 → OW,call_meetsIn → OX,merged → OY,wpAny_newObj_type → Ia,Builtin → Ib,wpAny_getItem_str_slice → Il,post_val_or_str → Im,Fin → II,wpAny_callSpecial?_slot → Lb,wpAny_call_entry → Le,field → Lf,wpAny_field → Lg,wpAny_seqItems → Lh,wpAny_setField → Li,wpAny_rule → Lo,IsPair → Lp,wpAny_attempt → Lq,wpAny_setField_rec → Lu,excClassObj → Ly,getAttrBy → LD,codeAny_call_builtin → LH,wpAny_loadPart_at → LI,callWith → LJ,wpAny_typeOf → LN,typeLookup_type → LW,builtinLookup_eq_fast → LX,sub_AttributeError → LZ,getattributeRaised → L3,codeAny_builtin → L4,plainId_quiet → L6,wpAny_newList → L9,refuseLoop_ref → DH
open PySem.Around renaming under_plainId → L5
open PySem.Builtin.Dict renaming updateFrom → L7
open PySem.Builtin.Int renaming intBits → Ii
open PySem.Builtin.List renaming listTooLong → OG
open PySem.Builtin.SmallTypes renaming nextOf → La,ownedTupleIsFree → Ls
open PySem.Builtin.Tuple renaming tupleHashOf → LP
open PySem.Calls renaming spliced_cons → UZ,callWith_builtin → OE,evalArgs_plain → OF
open PySem.F renaming slot_tuple_iterator_next → Ld,slot_zip_next → Lr,plainAttrs_list → De,slot_list_append → Df,type_list_append → Dg,slot_list_extend → Dk,type_list_extend → Dl,excBase_ValueError → Dy
open PySem.Heap renaming lt_size → Vy,get?_none_of_le → VP,SameBut → VU,get?_push_of_some → Us,get?_push_size → Ut,size_push → US,get?_update_self → Oz,get?_update_other → OA,NewAttrErr → LY
open PySem.Heap.SameBut renaming update → IL
open PySem.NameKind renaming free → OZ,cell → O4
open PySem.Obj renaming mapSeq → Oy,mapFields → Lj,isFreed_of_fields → Ll,data_mapFields → Lm
open PySem.Paired renaming length → Vn,snoc → OS
open PySem.PassesOwn renaming never → Dc
open PySem.SeqAt renaming EqAt → Oq
open PySem.Str renaming length → Ox,ofString → Lc
open PySem.StrLaws renaming glued_eq_join → I0
open PySem.Txt renaming join → Ic,slice → Ie,slice_le → Io
open PySem.Value renaming int → Vd,str → Vf,none → Vi,bool → Vj,ref → Vk,type → Vl,builtin → LF
open PySem.Value.type renaming inj → LM
open PySem.W renaming instObj → Vw,Frag → VD,findIn → UF,isFn → UG,makesIn → UK,emptyDict → UM,keepIn → UP,specialIn → UV,kitOne → UW,kia_one → UX,callWith_K → U5,fnOf → Oo,codeIn → Op,kas_rev → Iy,kas_desc → Iz,nsOkIn → Lz,nsIn → LA,methodCall_KW → LK,mg_of → Dz,mg_none_of → DA
open PySem.W.KT renaming app_list → IR
open PySem.W.WData renaming int → OI,weightAll → Ih,weight → Ij
open Sum renaming inl → Vc,inr → Ve
open True renaming intro → UR
set_option Elab.async false
set_option linter.all false
set_option maxRecDepth 100000
set_option maxHeartbeats 4000000
section
namespace L2
open PySem PySem.Spec PyProof.Rows
abbrev Key:=Sum Int Str
def ZLa:Key->Va->Bool
 | .inl k,v=>Value.isInt k v
 | .inr x,v=>Value.isStrOf x v
def YBd(w:Vb):Key->Int
 | .inl k=>hashInt k
 | .inr x=>hashStr w x
theorem Zc:∀ {k:Key} {v:Va},ZLa k v=true->(∃ i t,k=Vc i/\v=Vd i t)\/(∃ x t,k=Ve x/\v=Vf x t)
 | .inl i,v,h=>by
  obtain⟨t,e⟩:=Value.isInt_shape (k:=i) (v:=v) h;exact .inl ⟨i,t,rfl,e⟩
 | .inr x,v,h=>by
  obtain⟨t,e⟩:=Value.isStrOf_shape (x:=x) (v:=v) h;exact .inr ⟨x,t,rfl,e⟩
theorem ZHc(i:Int)(t:Tok):ZLa (.inl i) (.int i t)=true:=by simp[ZLa,Value.isInt]
theorem ZIc(x:Str)(t:Tok):ZLa (.inr x) (.str x t)=true:=by simp[ZLa,Value.isStrOf]
theorem ZHd(a b:Int):decide ((Vc a:Key)=Vc b)=(a == b):=by
 by_cases e:a=b
 ·subst e;simp
 ·have h:¬ (Vc a:Key)=Vc b:=λq=>e (Sum.inl.inj q)
  rw[decide_eq_false h];exact(beq_eq_false_iff_ne.mpr e).symm
theorem ZId(a b:Str):decide ((Ve a:Key)=Ve b)=decide (a=b):=by
 by_cases e:a=b
 ·subst e;simp
 ·have h:¬ (Ve a:Key)=Ve b:=λq=>e (Sum.inr.inj q)
  rw[decide_eq_false h,decide_eq_false e]
theorem ZJd(a:Int)(b:Str):decide ((Vc a:Key)=Ve b)=false:=decide_eq_false (λq=>nomatch q)
theorem ZKd(a:Str)(b:Int):decide ((Ve a:Key)=Vc b)=false:=decide_eq_false (λq=>nomatch q)
def QP(prog:Vg)(w:Vb):PySem.KeyKind prog w Key where
 is:=ZLa
 hash:=YBd w
 inj:=λv a b ha hb=>by
  rcases Zc ha with ⟨i,t,rfl,rfl⟩ | ⟨x,t,rfl,rfl⟩
  ·rcases Zc hb with ⟨j,u,rfl,e⟩ | ⟨y,u,rfl,e⟩
   ·injection e with e1 _;rw[e1]
   ·exact nomatch e
  ·rcases Zc hb with ⟨j,u,rfl,e⟩ | ⟨y,u,rfl,e⟩
   ·exact nomatch e
   ·injection e with e1 _;rw[e1]
 byValue:=λk v h=>by
  rcases Zc h with ⟨i,t,rfl,rfl⟩ | ⟨x,t,rfl,rfl⟩ <;> rfl
 pyHash:=λhv h=>by
  rcases Zc hv with ⟨i,t,rfl,rfl⟩ | ⟨x,t,rfl,rfl⟩
  ·exact wpAny_pyHash_int h
  ·exact wpAny_pyHash_str h
 eqBool:=λhu hv h=>by
  rcases Zc hu with ⟨i,t,rfl,rfl⟩ | ⟨x,t,rfl,rfl⟩
  ·rcases Zc hv with ⟨j,u,rfl,rfl⟩ | ⟨y,u,rfl,rfl⟩
   ·rw[ZHd]at h;exact wpAny_eqBool_int h
   ·rw[ZJd]at h;exact SeqAt.EqAt.int_str i t y u _ _ _ _ h
  ·rcases Zc hv with ⟨j,u,rfl,rfl⟩ | ⟨y,u,rfl,rfl⟩
   ·rw[ZKd]at h;exact SeqAt.EqAt.str_int x t j u _ _ _ _ h
   ·rw[ZId]at h;exact wpAny_eqBool_str h
 «strs»:=λk x t v h=>by
  rcases Zc h with ⟨i,u,rfl,e⟩ | ⟨y,u,rfl,e⟩
  ·exact nomatch e
  ·injection e with e1 _
   subst e1;cases v <;> rfl
theorem JZb(prog:Vg)(w:Vb)(i:Int)(t:Tok):(QP prog w).is (.inl i) (.int i t)=true:=ZHc i t
theorem J0b(prog:Vg)(w:Vb)(x:Str)(t:Tok):(QP prog w).is (.inr x) (.str x t)=true:=ZIc x t
inductive V where
 | non | bl (b:Bool) | int (i:Int) | str (x:Str) | byt (b:Array UInt8) | flt (b:UInt64) | ref (a:Vh) | ty (n:String)
 deriving DecidableEq
def QB:V->Va->Prop
 | .non,u=>u=Vi
 | .bl b,u=>u=Vj b
 | .int i,u=>∃ t,u=Vd i t
 | .str x,u=>∃ t,u=Vf x t
 | .byt b,u=>∃ t,u=Value.bytes b t
 | .flt b,u=>∃ t,u=Value.float b t
 | .ref a,u=>u=Vk a
 | .ty n,u=>u=Vl n
abbrev Qz:List V->List Va->Prop:=Vm QB
theorem Qz.length{xs:List V}{us:List Va}(r:Qz xs us):xs.length=us.length:=Vn r
theorem Qz.get:∀ {xs:List V} {us:List Va} {i:Nat} {x:V},Qz xs us->xs[i]?=Vo x->∃ u,us[i]?=Vo u/\QB x u
 | _,_,_,_,.nil,e=>by simp at e
 | _,_,0,_,.cons r _,e=>by simp at e;subst e;exact⟨_,rfl,r⟩
 | _,_,i+1,x,.cons _ t,e=>by
  obtain⟨u,h1,h2⟩:=Qz.get (i:=i) (x:=x) t (by simpa using e)
  exact⟨u,by simpa using h1,h2⟩
theorem Qz.set{x:V}{u:Va}(r:QB x u):∀ {xs:List V} {us:List Va} (i:Nat),Qz xs us->Qz (xs.set i x) (us.set i u)
 | _,_,_,.nil=>.nil
 | _,_,0,.cons _ t=>.cons r t
 | _,_,i+1,.cons q t=>.cons q (Qz.set r i t)
theorem Qz.append:∀ {xs ys:List V} {us ws:List Va},Qz xs us->Qz ys ws->Qz (xs++ys) (us++ws)
 | _,_,_,_,.nil,s=>s
 | _,_,_,_,.cons r t,s=>.cons r (Qz.append t s)
theorem Qz.take:∀ {xs:List V} {us:List Va} (n:Nat),Qz xs us->Qz (xs.take n) (us.take n)
 | _,_,0,_=>.nil
 | _,_,_+1,.nil=>.nil
 | _,_,n+1,.cons r t=>.cons r (Qz.take n t)
theorem Qz.drop:∀ {xs:List V} {us:List Va} (n:Nat),Qz xs us->Qz (xs.drop n) (us.drop n)
 | _,_,0,r=>r
 | _,_,_+1,.nil=>.nil
 | _,_,n+1,.cons _ t=>Qz.drop n t
theorem Qz.none_of:∀ {xs:List V} {us:List Va} {i:Nat},Qz xs us->xs[i]?=Vp->us[i]?=Vp:=λ{xs us i} r e=>by
 have h1:=r.length;have h2:xs.length<=i:=List.getElem?_eq_none_iff.mp e
 exact List.getElem?_eq_none_iff.mpr #[0]
def Yh:Option V->Option Va->Prop
 | some v,Vo u=>QB v u
 | none,Vp=>True
 | _,_=>False
def KV{κ:Type}:List (κ×V)->List (κ×Va)->Prop:=Vm λ(p:κ×V) (q:κ×Va)=>p.1=q.1/\QB p.2 q.2
def kV:Key->V
 | .inl i=>.int i
 | .inr x=>.str x
inductive HO where
 | lst (xs:List V)
 | tup (xs:List V)
 | dK (ac:List (Key×V)) | dT (ac:List (List Key×V))
 | set (S:Int->Bool) (n:Nat)
 | ins (C dx:Vh) (fs:List (Str×V))
 | own (x:Vh)
 | xd (fs:List (Str×V))
 | met (f x:Vh)
 | rng (lo hi:Int)
 | frz (o:Obj) (u:HO)
 | tbl (ps:Array Va)
 | ext (φ:Vq->Prop)
abbrev Hp:=Vh->Option HO
def upd(H:Hp)(a:Vh)(o:HO):Hp:=λb=>if b=a then Vo o else H b
theorem Qa{H:Hp}{a:Vh}{o:HO}:upd H a o a=Vo o:=by unfold upd;rw[if_pos rfl]
theorem Qh{H:Hp}{a b:Vh}{o:HO}(h:b≠a):upd H a o b=H b:=by unfold upd;rw[if_neg h]
theorem Y1{H:Hp}{a:Vh}{o u:HO}:upd (upd H a o) a u=upd H a u:=by
 funext b;unfold upd;split <;> rfl
theorem Jd{H:Hp}{a b:Vh}{o u:HO}(h:H a=Vo o)(h':H b=Vo u)(d:o≠u):a≠b:=by
 intro e;subst e;rw[h]at h';exact d (Vr h')
theorem QC{H:Hp}{a b:Vh}{o:HO}(h:H a=Vo o)(h':H b=Vp):a≠b:=by
 intro e;subst e;rw[h]at h';cases h'
section
variable(P:Vg)(w:Vb)
def QN(H:Hp)(h:Vq)(a:Vh):HO->Prop
 | .lst xs=>xs.length<=Vs/\∃ (ag:List Va) (n:Nat),Qz xs ag/\h.get? a=Vo { cls:=.type "list",data:=.seq ag.toArray n }
 | .tup xs=>(xs.length<=Vs/\∃ o,h.get? a=Vo o/\o.dict=Vp)/\∃ ag:List Va,Qz xs ag/\Vt h a ag.toArray
 | .dK ac=>ac.length<=Vs/\(a == Vu)=false/\∃ vs,KV ac vs/\h.DictOf (QP P w) a vs
 | .dT ac=>ac.length<=Vs/\(a == Vu)=false/\∃ xs:List (List Key×Vh×Va),
  Vm (λ(p:List Key×V) (q:List Key×Vh×Va)=>p.1=q.1/\H q.2.1=Vo (.tup (p.1.map kV))/\QB p.2 q.2.2) ac xs /\
  ∃ o es ep,h.get? a=Vo o/\o.ExactDict/\o.data=.dict es ep/\es.toList=xs.map (entryOfKey (Vv (QP P w)))/\(xs.map (·.1)).Nodup
 | .set S n=>h.SetOf (intKind P w) a S n
 | .ins C dx fs=>H dx=Vo (.own a)/\fs.length<=1000/\dx≠a/\h.get? a=Vo (Vw C dx) /\
  ∃ mA,h.Ns1 dx mA/\(∀ f,Yh (fs.lookup f) (mA f))/\Vx mA (fs.map (·.1))
 | .own _=>∃ o,h.get? a=Vo o
 | .xd fs=>∃ mA,h.Ns1 a mA/\∀ f,Yh (fs.lookup f) (mA f)
 | .rng lo hi=>∃ t u v,h.get? a=Vo { cls:=.type "range",data:=.fields #[.int lo t,.int hi u,.int 1 v] }
 | .frz o u=>h.get? a=Vo o/\QN H h a u
 | .tbl ps=>h.get? a=Vo { cls:=.none,data:=.fields ps }
 | .met f x=>h.get? a=Vo (W.methodObj (.ref f) (.ref x))
 | .ext φ=>φ h/\(∃ o,h.get? a=Vo o)/\∀ h1 h2:Vq,φ h1->(∀ o,h1.get? a=Vo o->h2.get? a=Vo o)->φ h2
def HOk(H:Hp)(h:Vq):Prop:=∀ a o,H a=Vo o->QN P w H h a o
end
section
variable{P:Vg}{w:Vb}{H H':Hp}{h h':Vq}{a:Vh}{o:HO}
theorem QN.lt(x:QN P w H h a o):a < h.objs.size:=by
 cases o with
 | lst xs=>obtain⟨_,_,_,_,e⟩:=x;exact Vy e
 | tup xs=>obtain⟨_,_,_,p⟩:=x;exact p.lt
 | dK ac=>obtain⟨_,_,_,_,o,_,_,e,_⟩:=x;exact Vy e
 | dT ac=>obtain⟨_,_,_,_,o,_,_,e,_⟩:=x;exact Vy e
 | set S n=>obtain⟨o,_,_,_,e,_⟩:=x;exact Vy e
 | ins C dx fs=>obtain⟨_,_,_,e,_⟩:=x;exact Vy e
 | own y=>obtain⟨_,e⟩:=x;exact Vy e
 | xd fs=>obtain⟨_,⟨_,_,_,e,_⟩,_⟩:=x;exact Vy e
 | rng lo hi=>obtain⟨_,_,_,e⟩:=x;exact Vy e
 | frz ob u=>obtain⟨e,_⟩:=x;exact Vy e
 | tbl ps=>exact Vy (show h.get? a=Vo _ from x)
 | met f y=>exact Vy (show h.get? a=Vo _ from x)
 | ext φ=>obtain⟨_,⟨_,e⟩,_⟩:=x;exact Vy e
theorem Paired.mapP{α β:Type}{F G:α->β->Prop}:∀ {l₁:List α} {l₂:List β},Vm F l₁ l₂->(∀ a b,F a b->G a b)->Vm G l₁ l₂
 | _,_,.nil,_=>.nil
 | _,_,.cons r t,f=>.cons (f _ _ r) (Paired.mapP t f)
theorem QN.stay(x:QN P w H h a o)(k:∀ b u,(b=a\/H b=Vo (.own a))->h.get? b=Vo u->h'.get? b=Vo u)
 (ho:∀ b,H b=Vo (.own a)->H' b=Vo (.own a)) (ht:∀ b xs,H b=Vo (.tup xs)->H' b=Vo (.tup xs)):QN P w H' h' a o:=by
 induction o with
 | lst xs=>obtain⟨z,ag,n,r,e⟩:=x;exact⟨z,ag,n,r,k _ _ (.inl rfl) e⟩
 | tup xs=>obtain⟨⟨z,o1,e1,d1⟩,ag,r,ob,e,c⟩:=x;exact⟨⟨z,o1,k _ _ (.inl rfl) e1,d1⟩,ag,r,ob,k _ _ (.inl rfl) e,c⟩
 | dK ac=>obtain⟨z,y,vs,r,ob,es,ep,e,c⟩:=x;exact⟨z,y,vs,r,ob,es,ep,k _ _ (.inl rfl) e,c⟩
 | dT ac =>
  obtain⟨z,y,xs,r,ob,es,ep,e,c⟩:=x;exact⟨z,y,xs,Paired.mapP r λp q z=>⟨z.1,ht _ _ z.2.1,z.2.2⟩,ob,es,ep,k _ _ (.inl rfl) e,c⟩
 | set S n=>obtain⟨ob,es,ep,t,e,c⟩:=x;exact⟨ob,es,ep,t,k _ _ (.inl rfl) e,c⟩
 | ins C dx fs =>
  obtain⟨d,z,ne,e,mA,⟨od,es,ep,e2,c⟩,r⟩:=x;exact⟨ho _ d,z,ne,k _ _ (.inl rfl) e,mA,⟨od,es,ep,k _ _ (.inr d) e2,c⟩,r⟩
 | own y=>obtain⟨ob,e⟩:=x;exact⟨ob,k _ _ (.inl rfl) e⟩
 | xd fs=>obtain⟨mA,⟨od,es,ep,e,c⟩,r⟩:=x;exact⟨mA,⟨od,es,ep,k _ _ (.inl rfl) e,c⟩,r⟩
 | rng lo hi=>obtain⟨t,u,v,e⟩:=x;exact⟨t,u,v,k _ _ (.inl rfl) e⟩
 | frz ob u ih=>obtain⟨e,q⟩:=x;exact⟨k _ _ (.inl rfl) e,ih q⟩
 | tbl ps =>
  have e:h.get? a=Vo { cls:=.none,data:=.fields ps }:=x;show h'.get? a=Vo { cls:=.none,data:=.fields ps };exact k a _ (.inl rfl) e
 | met f y =>
  have e:h.get? a=Vo (W.methodObj (.ref f) (.ref y)):=x;show h'.get? a=Vo (W.methodObj (.ref f) (.ref y));exact k a _ (.inl rfl) e
 | ext φ=>obtain⟨p,⟨o,e⟩,st⟩:=x;exact⟨st _ _ p λo q=>k _ _ (.inl rfl) q,⟨o,k _ _ (.inl rfl) e⟩,st⟩
theorem HOk.lt(x:HOk P w H h)(e:H a=Vo o):a < h.objs.size:=(x a o e).lt
theorem HOk.fresh(x:HOk P w H h)(e:h.objs.size<=a):H a=Vp:=by
 cases q:H a with
 | none=>rfl
 | some u=>exact absurd (Vz (x.lt q) e) (VA _)
theorem HOk.kept(x:HOk P w H h)(k:∀ b u,h.get? b=Vo u->h'.get? b=Vo u):HOk P w H h':=λa o e =>
 (x a o e).stay (λb u _ q=>k b u q) (λ_ q=>q) λ_ _ q=>q
theorem HOk.laid(x:HOk P w H h)(k:∀ b u,h.get? b=Vo u->h'.get? b=Vo u)(hp:h.objs.size<=a)(new:QN P w (upd H a o) h' a o):HOk P w (upd H a o) h':=λb u e=>by
 have hn:=x.fresh hp
 by_cases hb:b=a
 ·subst hb;rw[Qa]at e;cases e;exact new
 ·rw[Qh hb]at e
  exact(x b u e).stay (λc v _ q=>k c v q) (λc q=>by rw[Qh (QC q hn)];exact q) λc xs q=>by rw[Qh (QC q hn)];exact q
end
def Rd(H:Hp)(a:Vh)(u:HO):Prop:=H a=Vo u\/∃ o,H a=Vo (.frz o u)
theorem Rd.ok{P:Vg}{w:Vb}{H:Hp}{h:Vq}{a:Vh}{u:HO}(r:Rd H a u)(x:HOk P w H h):QN P w H h a u:=by
 rcases r with r | ⟨o,r⟩
 ·exact x a u r
 ·obtain⟨_,q⟩:=x a _ r
  exact q
def Mut:Option HO->Prop
 | some (.lst _)=>True
 | some (.dK _)=>True
 | some (.dT _)=>True
 | some (.set _ _)=>True
 | some (.ins _ _ _)=>True
 | some (.ext _)=>True
 | _=>False
section
variable{P:Vg}{w:Vb}{H:Hp}{h h':Vq}{x e:Vh}{o':HO}
theorem HOk.write(ok:HOk P w H h)(mu:Mut (H x))(he:e=x\/H e=Vo (.own x))(k:∀ b u,b≠e->h.get? b=Vo u->h'.get? b=Vo u)(fj:∃ u,h'.get? e=Vo u)
 (new:QN P w (upd H x o') h' x o'):HOk P w (upd H x o') h':=λb u q=>by
 have jg:∀ c y,H c=Vo (.own y)->c≠x:=λc y r z=>by subst z;rw[r]at mu;exact mu
 have mV:∀ c xs,H c=Vo (.tup xs)->c≠x:=λc xs r z=>by subst z;rw[r]at mu;exact mu
 by_cases hb:b=x
 ·subst hb;rw[Qa]at q;cases q;exact new
 ·rw[Qh hb]at q
  by_cases hbe:b=e
  ·have q':H b=Vo (.own x):=by
    rcases he with z | z
    ·exact absurd (hbe.trans z) hb
    ·rw[hbe];exact z
   rw[q]at q';cases q';obtain⟨v,hv⟩:=fj;exact⟨v,by rw[hbe];exact hv⟩
  ·refine(ok b u q).stay (λc v hc r=>k c v ?_ r) (λc r=>by rw[Qh (jg c b r)];exact r) λc xs r=>by rw[Qh (mV c xs r)];exact r
   rcases hc with rfl | hc
   ·exact hbe
   ·rintro rfl
    rcases he with z | z
    ·exact jg c b hc z
    ·rw[hc]at z;cases z;exact hb rfl
end
structure Un(fs ex:List Vh)(H H':Hp)(h h':Vq):Prop where
 keep:∀ b o,h.get? b=Vo o->H b=Vp->b∉fs->b∉ex->h'.get? b=Vo o
 slot:∀ b o,h.get? b=Vo o->H b=Vp->b∈fs->b∉ex->∃ sl,h'.get? b=Vo { o with slots:=sl }
 free:∀ b o,h.get? b=Vo o->H b=Vp->b∉ex->H' b=Vp
 there:∀ b o,h.get? b=Vo o->b∉ex->∃ o',h'.get? b=Vo o'
 tups:∀ b xs,H b=Vo (.tup xs)->H' b=Vo (.tup xs)
 frzs:∀ b o u,H b=Vo (.frz o u)->H' b=Vo (.frz o u)
 tbls:∀ b ps,H b=Vo (.tbl ps)->∃ more,H' b=Vo (.tbl (ps++more))
section
variable{fs dQ ex vC:List Vh}{H H1 H2:Hp}{h h1 h2 h':Vq}{a x e:Vh}{o:HO}
theorem Un.any(u:Un fs ex H H1 h h1){b:Vh}{ob:Obj}(q:h.get? b=Vo ob)(n:H b=Vp)(hx:b∉ex):∃ sl,h1.get? b=Vo { ob with slots:=sl }:=by
 by_cases hb:b∈fs
 ·exact u.slot b ob q n hb hx
 ·exact⟨ob.slots,u.keep b ob q n hb hx⟩
theorem Un.kept(k:∀ b u,h.get? b=Vo u->h'.get? b=Vo u):Un fs ex H H h h' :=
 ⟨λb ob q _ _ _=>k b ob q,λb ob q _ _ _=>⟨ob.slots,k b ob q⟩,λ_ _ _ n _=>n,λb ob q _=>⟨ob,k b ob q⟩,λ_ _ q=>q,λ_ _ _ q=>q,λ_ ps q=>⟨#[],by rw[q];simp⟩⟩
theorem Un.refl:Un fs ex H H h h:=Un.kept λ_ _ q=>q
theorem Un.laid(k:∀ b u,h.get? b=Vo u->h'.get? b=Vo u)(hp:h.objs.size<=a)(hn:H a=Vp):Un fs ex H (upd H a o) h h' where
 keep:=λb u q _ _ _=>k b u q
 slot:=λb u q _ _ _=>⟨u.slots,k b u q⟩
 free:=λb u q n _=>by rw[Qh (VB (Vz (Vy q) hp))];exact n
 there:=λb u q _=>⟨u,k b u q⟩
 tups:=λb xs q=>by rw[Qh (QC q hn)];exact q
 frzs:=λb u xs q=>by rw[Qh (QC q hn)];exact q
 tbls:=λb ps q=>⟨#[],by rw[Qh (QC q hn),q];simp⟩
theorem Un.write(mu:Mut (H x))(he:e=x\/H e=Vo (.own x))(k:∀ b u,b≠e->h.get? b=Vo u->h'.get? b=Vo u)(fj:∃ u,h'.get? e=Vo u):Un fs ex H (upd H x o) h h':=by
 have hx:∀ b,H b=Vp->b≠x:=λb n z=>by subst z;rw[n]at mu;exact mu
 have hb:∀ b,H b=Vp->b≠e:=λb n z=>by
  subst z
  rcases he with r | r
  ·exact hx b n r
  ·rw[n]at r;cases r
 have hm:∀ b u,H b=Vo u->¬ Mut (Vo u)->b≠x:=λb u q nm z=>by subst z;rw[q]at mu;exact nm mu
 refine⟨λb u q n _ _=>k b u (hb b n) q,λb u q n _ _=>⟨u.slots,k b u (hb b n) q⟩,λb u q n _=>by rw[Qh (hx b n)];exact n,λb u q _=>?_,
  λb xs q=>by rw[Qh (hm b _ q λz=>z)];exact q,λb u xs q=>by rw[Qh (hm b _ q λz=>z)];exact q,λb ps q=>⟨#[],by rw[Qh (hm b _ q λz=>z),q];simp⟩⟩
 by_cases hbe:b=e
 ·subst hbe;exact fj
 ·exact⟨u,k b u hbe q⟩
end
def trk(h:Vq)(H:Hp):List Vh:=(VC h.objs.size).filter λa=>(H a).isSome
def ZJb(h:Vq)(H:Hp):Vq:=W.hideAll h (trk h H)
theorem ZJc(h:Vq)(H:Hp):(ZJb h H).objs.size=h.objs.size:=W.hideAll_size _ _
theorem JUc{h:Vq}{H:Hp}{b:Vh}{o:Obj}(e:h.get? b=Vo o)(n:H b=Vp):(ZJb h H).get? b=Vo o :=
 W.hideAll_get _ e λhm=>by
  have q:(H b).isSome=true:=(mem_filter.mp hm).2;rw[n]at q;simp at q
theorem X2c{h:Vq}{H:Hp}{b:Vh}{o:Obj}(e:(ZJb h H).get? b=Vo o):h.get? b=Vo o/\H b=Vp:=by
 have e':h.get? b=Vo o:=W.of_hideAll (trk h H) e;refine⟨e',?_⟩
 cases q:H b with
 | none=>rfl
 | some x =>
  have hm:b∈trk h H:=mem_filter.mpr ⟨mem_range.mpr (Vy e'),by simp[q]⟩
  have z:(ZJb h H).get? b=Vp:=W.hideAll_none (trk h H) hm;rw[z]at e;cases e
def X3c(g h:Vq)(L:Vh):YP_:=(VC h.objs.size).filterMap λa=>if a=L\/(g.get? a).isSome=true then Vp else (h.get? a).map λo=>(a,o)
def rest(g h:Vq)(L d:Vh):YP_:=(X3c g h L).filter λp=>decide (p.1≠d)
structure Mod(K:VD)(mg:Str->Option Va)(base:Vq):Prop where
 kin:K.In base
 glob:base.Ns VE mg
 blt:∃ mb,base.Ns builtinsNs mb/\∀ x:Str,x≠"__name__"->mb x=VF x
 nolimit:base.NoLimit
structure Cx where
 prog:Vg
 w:Vb
 K:VD
 mg:Str->Option Va
 base:Vq
 A:VG
 N:List Str
 s₀:VH
 H₀:Hp
 env:Env
 outer:List Env
 stack:List Env
 ex:List Vh
 fn:Str->Bool
 calm:Bool
 pn:YP_
 xe:YQ_
def frs(l:List Env):List Vh:=l.filterMap (·.frame)
abbrev Cx.fs(X:Cx):List Vh:=frs X.outer
def Vis(sc:Scope)(x:Str):Prop:=sc.names.lookup x=Vo .local\/sc.names.lookup x=Vo .cell\/sc.names.lookup x=Vo .free
def Loc(sc:Scope)(x:Str):Prop:=sc.names.lookup x=Vo .local\/sc.names.lookup x=Vo .cell
def Qub(env:Env)(h:Vq)(m:Str->Option Va)(x:Str)(u:Va):Prop :=
 (env.kindOf x=Vo .local/\m x=Vo u)\/((env.kindOf x=Vo .cell\/env.kindOf x=Vo .free)/\∃ c,env.cells.lookup x=Vo c/\h.IsCell c (Vo u))
structure Cx.Ok(X:Cx):Prop where
 mod:Mod X.K X.mg X.base
 kind:X.env.scope.kind=.function
 glob:X.env.globals=VE
 blt:X.env.builtins=builtinsNs
 above:X.s₀.heap.objs.size<=X.env.locals
 inj:∀ x y c,X.env.cells.lookup x=Vo c->X.env.cells.lookup y=Vo c->x=y
 has:∀ x,(X.env.kindOf x=Vo .cell\/X.env.kindOf x=Vo .free)->∃ c,X.env.cells.lookup x=Vo c
 cab:∀ x c,X.fn x=true->X.env.cells.lookup x=Vo c->X.s₀.heap.objs.size<=c
 hd:X.calm=true->X.A.handled=Vp
 frames:X.A.frames=Vo X.stack
 stk:X.stack=X.outer\/(X.stack=X.env::X.outer/\X.env.frame=Vo X.env.locals)
 exf:∀ b∈X.ex,b≠X.env.locals/\∀ x c,X.env.cells.lookup x=Vo c->c≠b
 bs:∀ b o,X.base.get? b=Vo o->X.s₀.heap.get? b=Vo o/\X.H₀ b=Vp
 bsz:X.base.objs.size<=X.s₀.heap.objs.size
 noex:∀ b o,X.base.get? b=Vo o->b∉X.ex
 exfs:∀ b∈X.ex,b∉X.fs
 funs:X.s₀.heap.FunFrames X.base X.outer
 frf:∀ b∈X.fs,X.H₀ b=Vp
structure Inv(X:Cx)(aa:YP_)(σ:List (Option V))(H:Hp)(s:VH):Prop where
 ok:X.Ok
 os:s.os=X.s₀.os
 bare:VI s.gens
 base:Un X.fs X.ex X.H₀ H X.s₀.heap s.heap
 loc:∃ m,s.heap.Ns X.env.locals m/\∀ (i:Nat) (x:Str) (v:V),X.N[i]?=Vo x->σ[i]?=Vo (Vo v)->Vis X.env.scope x->∃ u,QB v u/\Qub X.env s.heap m x u
 cell:∀ x c,X.env.cells.lookup x=Vo c->∃ v,s.heap.IsCell c v
 free:H X.env.locals=Vp
 freeC:∀ x c,X.env.cells.lookup x=Vo c->H c=Vp
 pin:∀ p∈X.pn++aa,s.heap.get? p.1=Vo p.2/\H p.1=Vp/\p.1≠X.env.locals/\p.1∉X.fs/\∀ v,p.2.data≠.cell v
 hok:HOk X.prog X.w H s.heap
 len:σ.length=X.N.length
section
variable{X:Cx}{aa:YP_}{σ:List (Option V)}{H H':Hp}{s:VH}{h':Vq}
theorem Cx.Ok.nofr(ok:X.Ok){b:Vh}{o:Obj}(e:X.base.get? b=Vo o):b∉X.fs:=λhb=>by
 have:=(ok.funs.mem hb).1;rw[e]at this;cases this
theorem Inv.bs(I:Inv X aa σ H s):∀ b o,X.base.get? b=Vo o->s.heap.get? b=Vo o/\H b=Vp:=λb o e =>
 ⟨I.base.keep b o (I.ok.bs b o e).1 (I.ok.bs b o e).2 (I.ok.nofr e) (I.ok.noex b o e),I.base.free b o (I.ok.bs b o e).1 (I.ok.bs b o e).2 (I.ok.noex b o e)⟩
theorem Inv.bk(I:Inv X aa σ H s):∀ b o,X.base.get? b=Vo o->s.heap.get? b=Vo o:=λb o e=>(I.bs b o e).1
theorem Inv.mod(I:Inv X aa σ H s):Mod X.K X.mg X.base:=I.ok.mod
theorem Inv.kIn(I:Inv X aa σ H s):X.K.In s.heap:=I.ok.mod.kin.keeps I.bk
theorem Inv.lt(I:Inv X aa σ H s):X.env.locals < s.heap.objs.size:=let ⟨_,hn,_⟩:=I.loc;hn.lt
theorem Inv.sz(I:Inv X aa σ H s):X.s₀.heap.objs.size<=s.heap.objs.size:=VJ I.ok.above (VL I.lt)
theorem Inv.nofs(I:Inv X aa σ H s){a:Vh}(h:s.heap.objs.size<=a):a∉X.fs:=λhb=>by
 obtain⟨_,o,ho,_⟩:=I.ok.funs.mem hb;exact absurd (Vz (Vy ho) (VJ I.sz h)) (VA _)
theorem Inv.cne(I:Inv X aa σ H s):∀ x c,X.env.cells.lookup x=Vo c->c≠X.env.locals:=λx c e z=>by
 obtain⟨v,o,ho,hd⟩:=I.cell x c e;obtain⟨m,⟨o',es,ep,aN,bo,_⟩,_⟩:=I.loc;rw[z,aN]at ho;cases ho;rw[bo]at hd;cases hd
theorem Inv.funs(I:Inv X aa σ H s):s.heap.FunFrames X.base X.outer:=by
 have all:∀ (l:List Env),(∀ b∈frs l,b∈X.fs)->X.s₀.heap.FunFrames X.base l->s.heap.FunFrames X.base l:=by
  intro l
  induction l with
  | nil=>intro _ _;trivial
  | cons env r ih =>
   intro hs hl;obtain⟨hk,⟨L,o,hf,hn,ho,hd⟩,hr⟩:=hl;have hL:L∈X.fs:=hs L (by unfold frs;rw[VM,hf];exact VN)
   obtain⟨sl,e⟩:=I.base.slot L o ho (I.ok.frf L hL) hL λz=>I.ok.exfs L z hL
   exact⟨hk,⟨L,_,hf,hn,e,hd⟩,ih (λb hb=>hs b (by unfold frs;rw[VM,hf];exact VO _ hb)) hr⟩
 exact all X.outer (λ_ hb=>hb) I.ok.funs
theorem Inv.stack(I:Inv X aa σ H s):s.heap.FunFrames X.base X.stack:=by
 rcases I.ok.stk with e | ⟨e,hf⟩
 ·rw[e];exact I.funs
 ·rw[e]
  obtain⟨m,hn,_⟩:=I.loc;refine .cons (by rw[I.ok.kind];decide) hf hn ?_ I.funs
  exact VP (VJ I.ok.bsz I.ok.above)
theorem Inv.stkSub(I:Inv X aa σ H s):∀ b∈frs X.stack,b∈X.env.locals::X.fs:=λb hb=>by
 rcases I.ok.stk with e | ⟨e,hf⟩
 ·rw[e]at hb;exact VO _ hb
 ·rw[e]at hb
  unfold frs at hb;rw[VM,hf]at hb;exact hb
theorem Inv.stkFree(I:Inv X aa σ H s):∀ b∈frs X.stack,H b=Vp:=λb hb=>by
 rcases mem_cons.mp (I.stkSub b hb) with e | hb
 ·rw[e];exact I.free
 ·obtain⟨_,o,ho,_⟩:=I.ok.funs.mem hb
  exact I.base.free b o ho (I.ok.frf b hb) λz=>I.ok.exfs b z hb
theorem Inv.step{g':Array VQ}{t':Nat}{d':Drawn}{ch:List Vh}(I:Inv X aa σ H s)
 (dR:∀ b∈ch,(b∈X.ex\/X.s₀.heap.objs.size<=b)/\b≠X.env.locals/\(∀ x c,X.env.cells.lookup x=Vo c->c≠b)/\∀ p∈X.pn++aa,p.1≠b)
 (keep:∀ b o,b≠X.env.locals->b∉X.fs->b∉ch->s.heap.get? b=Vo o->H b=Vp->h'.get? b=Vo o)
 (slot:∀ b o,b≠X.env.locals->b∈X.fs->b∉ch->s.heap.get? b=Vo o->H b=Vp->∃ sl,h'.get? b=Vo { o with slots:=sl }) (free:∀ b o,b∉ch->s.heap.get? b=Vo o->H b=Vp->H' b=Vp)
 (there:∀ b o,b∉ch->s.heap.get? b=Vo o->∃ o',h'.get? b=Vo o')
 (tups:∀ b xs,H b=Vo (.tup xs)->H' b=Vo (.tup xs)) (frzs:∀ b o u,H b=Vo (.frz o u)->H' b=Vo (.frz o u)) (tbls:∀ b ps,H b=Vo (.tbl ps)->∃ more,H' b=Vo (.tbl (ps++more)))
 (ns:∀ m,s.heap.Ns X.env.locals m->h'.Ns X.env.locals m) (hok:HOk X.prog X.w H' h') (hg:VI g') :
 Inv X aa σ H' { s with heap:=h',gens:=g',drawn:=d',toks:=t' }:=by
 have qC:∀ b o,X.s₀.heap.get? b=Vo o->b≠X.env.locals:=λb o e=>VB (Vz (Vy e) I.ok.above)
 have lU:∀ b o,X.s₀.heap.get? b=Vo o->b∉X.ex->b∉ch:=λb o e hx hb=>by
  rcases(dR b hb).1 with z | z
  ·exact hx z
  ·exact absurd (Vz (Vy e) z) (VA _)
 have fk:∀ x c,X.env.cells.lookup x=Vo c->∀ v,s.heap.IsCell c v->h'.IsCell c v:=λx c e v ⟨o,ho,hd⟩=>by
  have jh:c∉ch:=λz=>(dR c z).2.2.1 x c e rfl
  by_cases hc:c∈X.fs
  ·obtain⟨sl,q⟩:=slot c o (I.cne x c e) hc jh ho (I.freeC x c e)
   exact⟨_,q,hd⟩
  ·exact⟨o,keep c o (I.cne x c e) hc jh ho (I.freeC x c e),hd⟩
 refine⟨I.ok,I.os,hg,⟨λb o e n hb hx=>?_,λb o e n hb hx=>?_,λb o e n hx=>?_,λb o e hx=>?_,λb xs e=>tups b xs (I.base.tups b xs e),λb o xs e=>frzs b o xs (I.base.frzs b o xs e),λb ps e=>?_⟩,?_,λx c e=>?_,?_,λx c e=>?_,λp hp=>?_,hok,I.len⟩
 ·exact keep b o (qC b o e) hb (lU b o e hx) (I.base.keep b o e n hb hx) (I.base.free b o e n hx)
 ·obtain⟨sl,e1⟩:=I.base.slot b o e n hb hx
  obtain⟨mW,e2⟩:=slot b _ (qC b o e) hb (lU b o e hx) e1 (I.base.free b o e n hx);exact⟨mW,e2⟩
 ·obtain⟨o',e1⟩:=I.base.there b o e hx
  exact free b o' (lU b o e hx) e1 (I.base.free b o e n hx)
 ·obtain⟨o',e1⟩:=I.base.there b o e hx
  exact there b o' (lU b o e hx) e1
 ·obtain⟨m1,e1⟩:=I.base.tbls b ps e
  obtain⟨m2,e2⟩:=tbls b _ e1;exact⟨m1++m2,by rw[e2,Array.append_assoc]⟩
 ·obtain⟨m,hn,hl⟩:=I.loc
  refine⟨m,ns m hn,λi x v e1 e2 e3=>?_⟩
  obtain⟨u,r,l⟩:=hl i x v e1 e2 e3;refine⟨u,r,?_⟩
  rcases l with l | ⟨k,c,e,z⟩
  ·exact .inl l
  ·exact .inr ⟨k,c,e,fk x c e _ z⟩
 ·obtain⟨v,z⟩:=I.cell x c e
  exact⟨v,fk x c e v z⟩
 ·obtain⟨m,⟨o,_,_,ho,_⟩,_⟩:=I.loc
  exact free _ o (λz=>(dR _ z).2.1 rfl) ho I.free
 ·obtain⟨v,o,ho,hd⟩:=I.cell x c e
  exact free c o (λz=>(dR c z).2.2.1 x c e rfl) ho (I.freeC x c e)
 ·obtain⟨e,n,ne,nf,d⟩:=I.pin p hp
  have jh:p.1∉ch:=λz=>(dR p.1 z).2.2.2 p hp rfl
  exact⟨keep p.1 p.2 ne nf jh e n,free p.1 p.2 jh e n,ne,nf,d⟩
theorem Inv.un{t':Nat}(I:Inv X aa σ H s)(u:Un X.fs [] H H' s.heap h')(hok:HOk X.prog X.w H' h'):Inv X aa σ H' { s with heap:=h',toks:=t' }:=by
 obtain⟨m,⟨o,es,ep,ho,r⟩,_⟩:=id I.loc;obtain⟨sl,hL⟩:=u.any ho I.free #[2]
 exact I.step (g':=s.gens) (d':=s.drawn) (ch:=[]) (λ_ z=>nomatch z) (λb o _ hb _ e n=>u.keep b o e n hb #[2]) (λb o _ hb _ e n=>u.slot b o e n hb #[2]) (λb o _ e n=>u.free b o e n #[2]) (λb o _ e=>u.there b o e #[2]) u.tups u.frzs u.tbls (λm' hm=>by
  obtain⟨o',aM,lV,aN,r'⟩:=hm;rw[ho]at aN;cases aN;exact⟨_,aM,lV,hL,r'⟩) hok I.bare
theorem Inv.call{g':Array VQ}{t':Nat}{d':Drawn}{ch:List Vh}(I:Inv X aa σ H s)(u:Un (frs X.stack) ch H H' s.heap h')(hok:HOk X.prog X.w H' h')(hg:VI g')
 (dR:∀ b∈ch,(b∈X.ex\/X.s₀.heap.objs.size<=b)/\b≠X.env.locals/\(∀ x c,X.env.cells.lookup x=Vo c->c≠b)/\∀ p∈X.pn++aa,p.1≠b) :
 Inv X aa σ H' { s with heap:=h',gens:=g',drawn:=d',toks:=t' }:=by
 obtain⟨m,⟨o,es,ep,ho,r⟩,_⟩:=id I.loc;obtain⟨sl,hL⟩:=u.any ho I.free λz=>(dR _ z).2.1 rfl
 exact I.step (ch:=ch) dR (λb o hL hb hc e n=>u.keep b o e n (λz=>(mem_cons.mp (I.stkSub b z)).elim hL hb) hc) (λb o _ _ hc e n=>u.any e n hc) (λb o hc e n=>u.free b o e n hc) (λb o hc e=>u.there b o e hc) u.tups u.frzs u.tbls (λm' hm=>by
  obtain⟨o',aM,lV,aN,r'⟩:=hm;rw[ho]at aN;cases aN;exact⟨_,aM,lV,hL,r'⟩) hok hg
theorem Inv.turned{t':Nat}{it:Vh}(I:Inv X aa σ H s)(k:∀ b o,b≠it->s.heap.get? b=Vo o->h'.get? b=Vo o)(hn:H it=Vp)(hL:it≠X.env.locals)
 (h1:it∈X.ex\/X.s₀.heap.objs.size<=it) (h2:∀ x c,X.env.cells.lookup x=Vo c->c≠it) (h3:∀ p∈X.pn++aa,p.1≠it):Inv X aa σ H { s with heap:=h',toks:=t' }:=by
 have cR:∀ b u,H b=Vo u->b≠it:=λb u e z=>by rw[z,hn]at e;cases e
 refine I.step (g':=s.gens) (d':=s.drawn) (ch:=[it]) (λb hb=>?_) (λb o _ _ hc e _=>k b o (λz=>hc (by simp[z])) e) (λb o _ _ hc e _=>⟨o.slots,k b o (λz=>hc (by simp[z])) e⟩) (λ_ _ _ _ n=>n)
  (λb o hc e=>⟨o,k b o (λz=>hc (by simp[z])) e⟩) (λ_ _ e=>e) (λ_ _ _ e=>e) (λb ps e=>⟨#[],by rw[e];simp⟩) (λm hm=>?_) (λb u e=>?_) I.bare
 ·have e:b=it:=by simpa using hb
  subst e;exact⟨h1,hL,h2,h3⟩
 ·obtain⟨o,es,ep,ho,r⟩:=hm
  exact⟨o,es,ep,k _ o (VR hL) ho,r⟩
 ·refine(I.hok b u e).stay (λc v hc q=>k c v ?_ q) (λ_ q=>q) λ_ _ q=>q
  rcases hc with z | z
  ·rw[z];exact cR b u e
  ·exact cR c _ z
theorem Inv.tok(I:Inv X aa σ H s)(t:Nat):Inv X aa σ H { s with toks:=t }:=I.un (h':=s.heap) (t':=t) Un.refl I.hok
theorem Inv.kept{t':Nat}(I:Inv X aa σ H s)(k:∀ b u,s.heap.get? b=Vo u->h'.get? b=Vo u):Inv X aa σ H { s with heap:=h',toks:=t' }:=I.un (Un.kept k) (I.hok.kept k)
theorem Inv.laid{a:Vh}{o:HO}{t':Nat}(I:Inv X aa σ H s)(k:∀ b u,s.heap.get? b=Vo u->h'.get? b=Vo u)(hp:s.heap.objs.size<=a)(new:QN X.prog X.w (upd H a o) h' a o) :
 Inv X aa σ (upd H a o) { s with heap:=h',toks:=t' }:=I.un (Un.laid k hp (I.hok.fresh hp)) (I.hok.laid k hp new)
theorem Inv.write{x e:Vh}{o:HO}{t':Nat}(I:Inv X aa σ H s)(mu:Mut (H x))(he:e=x\/H e=Vo (.own x))(k:∀ b u,b≠e->s.heap.get? b=Vo u->h'.get? b=Vo u)(fj:∃ u,h'.get? e=Vo u)
 (new:QN X.prog X.w (upd H x o) h' x o):Inv X aa σ (upd H x o) { s with heap:=h',toks:=t' }:=I.un (Un.write mu he k fj) (I.hok.write mu he k fj new)
theorem Inv.pins_of{fm:YP_}(I:Inv X aa σ H s)(h:∀ p∈fm,s.heap.get? p.1=Vo p.2/\H p.1=Vp/\p.1≠X.env.locals/\p.1∉X.fs/\∀ v,p.2.data≠.cell v):Inv X fm σ H s :=
 ⟨I.ok,I.os,I.bare,I.base,I.loc,I.cell,I.free,I.freeC,λp hp=>(mem_append.mp hp).elim (λz=>I.pin p (VS _ z)) (h p),I.hok,I.len⟩
theorem J1b{N:List Str}(hN:N.Nodup){i j:Nat}{x:Str}(a:N[i]?=Vo x)(b:N[j]?=Vo x):i=j:=by
 obtain⟨h1,e1⟩:=List.getElem?_eq_some_iff.mp a
 obtain⟨h2,e2⟩:=List.getElem?_eq_some_iff.mp b
 exact(getElem_inj hN).mp (e1.trans e2.symm)
theorem Q4b{M:VT}{A:VG}{E:YQ_}{i:Nat}{x:Str}{v:V}{u:Va}{Q:Unit->VH->Prop}(I:Inv X aa σ H s)(hN:X.N.Nodup)(hi:X.N[i]?=Vo x)(hx:Loc X.env.scope x)(r:QB v u)
 (h:∀ s',Inv X aa (σ.set i (Vo v)) H s'->(∃ a,VU a s.heap s'.heap/\(a=X.env.locals\/X.env.cells.lookup x=Vo a))->Q () s') (hf:X.fn x=true\/X.env.scope.names.lookup x=Vo .local:=by first | exact .inl rfl | exact .inr rfl | assumption):VV M A (storeName X.env x u) Q E s:=by
 obtain⟨m,hn,hl⟩:=id I.loc;have mX:(X.env.scope.kind == .class || (X.env.scope.kind == .module && X.env.locals != X.env.globals))=false:=by rw[I.ok.kind];rfl
 have qD:i < σ.length:=by rw[I.len];exact(List.getElem?_eq_some_iff.mp hi).1
 have cne:=I.cne;have cp:∀ {a:Vh} {h':Vq},(∃ o,s.heap.get? a=Vo o/\H a=Vp)->VU a s.heap h'->HOk X.prog X.w H h':=λ{a h'} ha hs b ob e=>by
  obtain⟨_,_,fq⟩:=ha;refine(I.hok b ob e).stay (λc w' hc q=>(hs.2 c ?_).trans q) (λ_ q=>q) λ_ _ q=>q
  rintro rfl
  rcases hc with rfl | hc
  ·rw[fq]at e;cases e
  ·rw[fq]at hc;cases hc
 rcases hx with hk | hk
 ·refine wpAny_storeName_local hk hn (λh' lW hs=>?_) mX
  obtain⟨oL,_,_,bP,_⟩:=id hn;refine h _ ⟨I.ok,I.os,I.bare,⟨λb o e n hb hx=>?_,λb o e n hb hx=>?_,I.base.free,λb o e hx=>?_,I.base.tups,I.base.frzs,I.base.tbls⟩,⟨_,lW,λj y v' e1 e2 e3=>?_⟩,λy c e=>?_,I.free,I.freeC,λp hp=>?_,cp ⟨oL,bP,I.free⟩ hs,by simpa using I.len⟩ ⟨_,hs,.inl rfl⟩
  ·exact(hs.2 b (VB (Vz (Vy e) I.ok.above))).trans (I.base.keep b o e n hb hx)
  ·obtain⟨sl,e1⟩:=I.base.slot b o e n hb hx
   exact⟨sl,(hs.2 b (VB (Vz (Vy e) I.ok.above))).trans e1⟩
  ·obtain⟨o',e1⟩:=I.base.there b o e hx
   exact⟨o',(hs.2 b (VB (Vz (Vy e) I.ok.above))).trans e1⟩
  ·by_cases hj:j=i
   ·subst hj
    rw[hi]at e1;cases e1;rw[getElem?_set_self qD]at e2
    cases e2;exact⟨u,r,.inl ⟨hk,by simp⟩⟩
   ·rw[getElem?_set_ne (VR hj)]at e2
    obtain⟨u',r',q⟩:=hl j y v' e1 e2 e3;refine⟨u',r',?_⟩
    rcases q with ⟨k,e⟩ | ⟨k,c,e,z⟩
    ·refine .inl ⟨k,?_⟩
     have:y≠x:=λe=>hj (J1b hN e1 (e ▸ hi))
     simp[this,e]
    ·exact .inr ⟨k,c,e,z.sameBut hs (cne y c e)⟩
  ·obtain⟨w',z⟩:=I.cell y c e
   exact⟨w',z.sameBut hs (cne y c e)⟩
  ·obtain⟨e,n,ne,nf,d⟩:=I.pin p hp
   exact⟨(hs.2 p.1 ne).trans e,n,ne,nf,d⟩
 ·have eG:X.fn x=true:=by
   rcases hf with z | z
   ·exact z
   ·rw[z]at hk;cases hk
  obtain⟨c,hc⟩:=I.ok.has x (.inl hk);obtain⟨w',z⟩:=I.cell x c hc;refine wpAny_storeName_cell I.ok.kind hk hc z (λh' bA hs=>?_)
  obtain⟨oc,qE,mY⟩:=id z;refine h { s with heap:=h' } ⟨I.ok,I.os,I.bare,⟨λb o e n hb hx=>?_,λb o e n hb hx=>?_,I.base.free,λb o e hx=>?_,I.base.tups,I.base.frzs,I.base.tbls⟩,⟨m,hn.sameBut hs (VR (cne x c hc)),λj y v' e1 e2 e3=>?_⟩,λy c' e=>?_,I.free,I.freeC,λp hp=>?_,cp ⟨oc,qE,I.freeC x c hc⟩ hs,by simpa using I.len⟩ ⟨c,hs,.inr hc⟩
  ·exact(hs.2 b (VB (Vz (Vy e) (I.ok.cab x c eG hc)))).trans (I.base.keep b o e n hb hx)
  ·obtain⟨sl,e1⟩:=I.base.slot b o e n hb hx
   exact⟨sl,(hs.2 b (VB (Vz (Vy e) (I.ok.cab x c eG hc)))).trans e1⟩
  ·obtain⟨o',e1⟩:=I.base.there b o e hx
   exact⟨o',(hs.2 b (VB (Vz (Vy e) (I.ok.cab x c eG hc)))).trans e1⟩
  ·by_cases hj:j=i
   ·subst hj
    rw[hi]at e1;cases e1;rw[getElem?_set_self qD]at e2
    cases e2;exact⟨u,r,.inr ⟨.inl hk,c,hc,bA⟩⟩
   ·rw[getElem?_set_ne (VR hj)]at e2
    obtain⟨u',r',q⟩:=hl j y v' e1 e2 e3;refine⟨u',r',?_⟩
    rcases q with q | ⟨k,c',e,z'⟩
    ·exact .inl q
    ·refine .inr ⟨k,c',e,z'.sameBut hs ?_⟩
     rintro rfl;exact hj (J1b hN e1 (I.ok.inj _ _ _ e hc ▸ hi))
  ·by_cases hcc:c'=c
   ·subst hcc;exact⟨_,bA⟩
   ·obtain⟨w2,z2⟩:=I.cell y c' e
    exact⟨w2,z2.sameBut hs hcc⟩
  ·obtain⟨e,n,ne,nf,d⟩:=I.pin p hp
   refine⟨(hs.2 p.1 ?_).trans e,n,ne,nf,d⟩
   intro q;rw[q,qE]at e;have q':oc=p.2:=Vr e;exact d w' (by rw[<- q'];exact mY)
theorem J2b{M:VT}{A:VG}{E:YQ_}{i:Nat}{x:Str}{v:V}{u:Va}{Q:Unit->VH->Prop}(I:Inv X aa σ H s)(hN:X.N.Nodup)(hi:X.N[i]?=Vo x)(hx:Loc X.env.scope x)(r:QB v u)
 (h:∀ s',Inv X aa (σ.set i (Vo v)) H s'->Q () s') (hf:X.fn x=true\/X.env.scope.names.lookup x=Vo .local:=by first | exact .inl rfl | exact .inr rfl | assumption):VV M A (storeName X.env x u) Q E s :=
 Q4b I hN hi hx r (λs' I' _=>h s' I') hf
theorem Inv.call'{s':VH}{ch:List Vh}(I:Inv X aa σ H s)(ho:s'.os=s.os)(u:Un (frs X.stack) ch H H' s.heap s'.heap)(hok:HOk X.prog X.w H' s'.heap)(hg:VI s'.gens)
 (dR:∀ b∈ch,(b∈X.ex\/X.s₀.heap.objs.size<=b)/\b≠X.env.locals/\(∀ x c,X.env.cells.lookup x=Vo c->c≠b)/\∀ p∈X.pn++aa,p.1≠b):Inv X aa σ H' s':=by
 obtain⟨h',g',d',t',o'⟩:=s';have e:o'=s.os:=ho;subst e;exact I.call (g':=g') (t':=t') (d':=d') u hok hg dR
end
abbrev XK:=Va->Option Vh->Hp->Prop
abbrev St:=List (Option V)
abbrev VK:=V->Hp->Prop
abbrev TE:=St->Hp->VK->Prop
abbrev TT:=St->Hp->(Bool->Hp->Prop)->Prop
abbrev TA:=St->Hp->(List V->Hp->Prop)->Prop
structure ZL where
 nx:St->Hp->Prop
 rt:VK
 bk:St->Hp->Prop:=λ_ _=>False
 ct:St->Hp->Prop:=λ_ _=>False
abbrev TS:=ZL->St->Hp->Prop
inductive EP(X:Cx)(aa:YP_)(σ:St)(Q:VK)(u:Va)(s':VH):Prop
 | mk (v:V) (H':Hp) (i:Inv X aa σ H' s') (r:QB v u) (q:Q v H'):EP X aa σ Q u s'
inductive TP(X:Cx)(aa:YP_)(σ:St)(Q:Bool->Hp->Prop)(b:Bool)(s':VH):Prop
 | mk (H':Hp) (i:Inv X aa σ H' s') (q:Q b H'):TP X aa σ Q b s'
inductive AP(X:Cx)(aa:YP_)(σ:St)(Q:List V->Hp->Prop)(us:List Va)(s':VH):Prop
 | mk (vs:List V) (H':Hp) (i:Inv X aa σ H' s') (r:Qz vs us) (q:Q vs H'):AP X aa σ Q us s'
def SP(X:Cx)(aa:YP_)(D:ZL)(f:Flow)(s':VH):Prop :=
 match f with
 | .next=>∃ σ' H',Inv X aa σ' H' s'/\D.nx σ' H'
 | .brk=>∃ σ' H',Inv X aa σ' H' s'/\D.bk σ' H'
 | .cont=>∃ σ' H',Inv X aa σ' H' s'/\D.ct σ' H'
 | .ret u=>∃ v σ' H',Inv X aa σ' H' s'/\QB v u/\D.rt v H'
def PE(X:Cx)(e:Expr)(t:TE):Prop :=
 ∀ (aa:YP_) (s:VH) (σ:St) (H:Hp) (Q:VK),Inv X aa σ H s->t σ H Q->VV (VW X.prog X.w) X.A (VX e X.env) (EP X aa σ Q) X.xe s
def PT(X:Cx)(e:Expr)(t:TT):Prop :=
 ∀ (aa:YP_) (s:VH) (σ:St) (H:Hp) (Q:Bool->Hp->Prop),Inv X aa σ H s->t σ H Q->VV (VW X.prog X.w) X.A (isTrue e X.env (VX e X.env)) (TP X aa σ Q) X.xe s
def PW(X:Cx)(e:Expr)(t:TT):Prop :=
 ∀ (bg:Sem Va) (aa:YP_) (s:VH) (σ:St) (H:Hp) (Q:Bool->Hp->Prop),Inv X aa σ H s->t σ H Q->VV (VW X.prog X.w) X.A (isTrue e X.env bg) (TP X aa σ Q) X.xe s
theorem PW.pt{X:Cx}{e:Expr}{t:TT}(h:PW X e t):PT X e t:=h _
def PA(X:Cx)(es:List Expr)(t:TA):Prop :=
 ∀ (pos:Pos) (aa:YP_) (s:VH) (σ:St) (H:Hp) (Q:List V->Hp->Prop),Inv X aa σ H s->t σ H Q->VV (VW X.prog X.w) X.A (spliced (VY pos (VZ es X.env))) (AP X aa σ Q) X.xe s
def PS(X:Cx)(st:V0)(t:TS):Prop :=
 ∀ (aa:YP_) (s:VH) (σ:St) (H:Hp) (D:ZL),Inv X aa σ H s->t D σ H->VV (VW X.prog X.w) X.A (exec st X.env) (SP X aa D) X.xe s
def PSs(X:Cx)(st:List V0)(t:TS):Prop :=
 ∀ (aa:YP_) (s:VH) (σ:St) (H:Hp) (D:ZL),Inv X aa σ H s->t D σ H->VV (VW X.prog X.w) X.A (execs st X.env) (SP X aa D) X.xe s
theorem thn{α:Type}{t:Sem α}{Q Q':α->VH->Prop}{M:VT}{A:VG}{E:YQ_}{s:VH}(h:VV M A t Q E s)(hQ:∀ a s,Q a s->Q' a s):VV M A t Q' E s:=V1 h hQ λ_ _ x=>x
section
variable{X:Cx}
def Yi(i:Nat):TE:=λσ H Q=>match σ[i]? with | some (Vo v)=>Q v H | _=>False
theorem X4c{i:Nat}{σ:St}{H:Hp}{Q:VK}(h:Yi i σ H Q):∃ v,σ[i]?=Vo (Vo v)/\Q v H:=by
 unfold Yi at h
 split at h
 ·exact⟨_,‹_›,h⟩
 ·exact h.elim
theorem XN{i:Nat}{σ:St}{H:Hp}{Q:VK}{v:V}(e:σ[i]?=Vo (Vo v))(q:Q v H):Yi i σ H Q:=by
 unfold Yi;rw[e];exact q
theorem XBb{σ:St}{H:Hp}{Q:VK}{v:V}:Yi 0 (Vo v::σ) H Q=Q v H:=rfl
theorem XCb{σ:St}{H:Hp}{Q:VK}{i:Nat}{x:Option V}:Yi (i+1) (x::σ) H Q=Yi i σ H Q:=rfl
def tC(v:V):TE:=λ_ H Q=>Q v H
theorem ZLd{i:Nat}{x:Str}{pos:Pos}(hN:X.N[i]?=Vo x)(hv:Vis X.env.scope x)(hd:(x == ("__debug__":Str))=false:=by decide)(bc:(x == ("__classdict__":Str))=false:=by decide):PE X (.Name x pos) (Yi i):=by
 intro aa s σ H Q I h;obtain⟨v,e,h⟩:=X4c h;obtain⟨m,hn,hl⟩:=I.loc;obtain⟨u,r,l⟩:=hl i x v hN e hv;have fin:EP X aa σ Q u s:=⟨v,H,I,r,h⟩
 rcases l with ⟨hk,hm⟩ | ⟨hk,c,hc,ft⟩
 ·exact wpAny_Name (wpAny_loadName_local I.ok.kind hk hn hm fin) hd
 ·rcases hk with hk | hk
  ·exact wpAny_Name (wpAny_loadName_cell I.ok.kind hk hc ft fin) hd
  ·exact wpAny_Name (wpAny_loadName_free I.ok.kind hk hc ft fin bc) hd
theorem Qd{i j pos}:PE X (.Constant (.int i) j pos) (tC (.int i)):=λ_ _ _ H _ I h=>wpAny_Constant_int ⟨.int i,H,I.tok _,⟨_,rfl⟩,h⟩
theorem JU{b j pos}:PE X (.Constant (.bool b) j pos) (tC (.bl b)):=λ_ _ _ H _ I h=>Constant_bool ⟨.bl b,H,I,rfl,h⟩
theorem YE{j pos}:PE X (.Constant .none j pos) (tC .non):=λ_ _ _ H _ I h=>Constant_none ⟨.non,H,I,rfl,h⟩
theorem Xk{x j pos}:PE X (.Constant (.str x) j pos) (tC (.str x)):=λ_ _ _ H _ I h=>Calls.Constant_str ⟨.str x,H,I.tok _,⟨_,rfl⟩,h⟩
def Gl(X:Cx)(x:Str):Prop:=X.env.kindOf x=Vo .globalImplicit
theorem JI{E:YQ_}{aa:YP_}{s:VH}{σ:St}{H:Hp}{x:Str}{u:Va}{pos:Pos}{Q:YQ_}(I:Inv X aa σ H s)(hg:Gl X x)(hm:X.mg x=Vo u)(h:Q u s)
 (hd:(x == ("__debug__":Str))=false:=by decide):VV (VW X.prog X.w) X.A (VX (.Name x pos) X.env) Q E s :=
 Calls.Name_function_global I.ok.kind hg (Calls.loadGlobal_global (by rw[I.ok.glob];exact I.mod.glob.keeps I.bk) hm h) hd
theorem ZZa{E:YQ_}{aa:YP_}{s:VH}{σ:St}{H:Hp}{x:Str}{u:Va}{pos:Pos}{Q:YQ_}(I:Inv X aa σ H s)(hg:Gl X x)(hm:X.mg x=Vp)(hv:VF x=Vo u)(h:Q u s)
 (hn:x≠"__name__":=by decide) (hd:(x == ("__debug__":Str))=false:=by decide):VV (VW X.prog X.w) X.A (VX (.Name x pos) X.env) Q E s:=by
 obtain⟨mb,h1,h2⟩:=I.mod.blt;exact Calls.Name_function_global I.ok.kind hg (Calls.loadGlobal_builtin (by rw[I.ok.glob];exact I.mod.glob.keeps I.bk) hm (by rw[I.ok.blt];exact h1.keeps I.bk) ((h2 x hn).trans hv) h) hd
theorem QWc{x:Str}{v:V}{u:Va}{pos:Pos}(hg:Gl X x)(hm:X.mg x=Vo u)(r:QB v u)(hd:(x == ("__debug__":Str))=false:=by decide):PE X (.Name x pos) (tC v) :=
 λ_ _ _ H _ I h=>JI I hg hm ⟨v,H,I,r,h⟩ hd
theorem Q4{x:Str}{v:V}{u:Va}{pos:Pos}(hg:Gl X x)(hm:X.mg x=Vp)(hv:VF x=Vo u)(r:QB v u)(hn:x≠"__name__":=by decide)(hd:(x == ("__debug__":Str))=false:=by decide):PE X (.Name x pos) (tC v) :=
 λ_ _ _ H _ I h=>ZZa I hg hm hv ⟨v,H,I,r,h⟩ hn hd
variable{a b:Expr}{ta tb:TE}{pos:Pos}
def PC(X:Cx)(op:CmpOp)(a b:Expr)(t:TE):Prop :=
 ∀ (aa:YP_) (s:VH) (σ:St) (H:Hp) (Q:VK),Inv X aa σ H s->t σ H Q ->
  VV (VW X.prog X.w) X.A (VX a X.env) (λv s₁=>VV (VW X.prog X.w) X.A (VX b X.env) (λu s₂=>VV (VW X.prog X.w) X.A (V2 op v u) (EP X aa σ Q) X.xe s₂) X.xe s₁) X.xe s
def tB(t:TE):TT:=λσ H Q=>t σ H λx H1=>∃ c,x=.bl c/\Q c H1
theorem JVc{op:CmpOp}{t:TE}(h:PC X op a b t)(h1:V3 op b=false:=by first | exact nobehind _ #[1] #[1] | rfl):PT X (.Compare a [op] [b] pos) (tB t):=by
 intro aa s σ H Q I hw;refine wpAny_isTrue_Compare1 (thn (h aa s σ H _ I hw) λv s1 h1=>thn h1 λu s2 h2=>thn h2 λc s3 hZ=>?_) h1
 obtain⟨x,H1,I1,r1,q1⟩:=hZ;obtain⟨d,rfl,q⟩:=q1;cases r1;exact V4 ⟨H1,I1,q⟩
theorem QR{e:Expr}{t:TE}(h:PE X e t)(he:∀ bg,isTrue e X.env bg=(do let v <- bg;V5 e.pos;V6 [v] (truthy v)):=by intro _;rfl):PT X e (tB t):=by
 intro aa s σ H Q I hw;refine isTrue_plain (thn (h aa s σ H _ I hw) λv s1 hZ=>?_) (he _)
 obtain⟨x,H1,I1,r1,q1⟩:=hZ;obtain⟨d,rfl,q⟩:=q1;cases r1;exact V4 ⟨H1,I1,q⟩
variable{tA ji:TT}{rest:List Expr}
def JOd(t u:TT):TT:=λσ H Q=>t σ H λc H1=>if c=true then u σ H1 Q else Q false H1
def tOr(t u:TT):TT:=λσ H Q=>t σ H λc H1=>if c=true then Q true H1 else u σ H1 Q
def JPd(t:TT):TT:=λσ H Q=>t σ H λc H1=>Q (!c) H1
theorem Y2(ha:PT X a tA):PW X (.BoolOp .And [a] pos) tA:=by
 intro wh aa s σ H Q I h;refine isTrue_and (thn (ha aa s σ H Q I h) λc s1 e=>?_)
 cases c with
 | true=>exact isTrue_and_nil e
 | false=>exact e
theorem J5(ha:PT X a tA):PW X (.BoolOp .Or [a] pos) tA:=by
 intro wh aa s σ H Q I h;refine isTrue_or (thn (ha aa s σ H Q I h) λc s1 e=>?_)
 cases c with
 | false=>exact isTrue_or_nil e
 | true=>exact e
theorem QKa(ha:PT X a tA)(hb:PW X (.BoolOp .And (b::rest) pos) ji):PW X (.BoolOp .And (a::b::rest) pos) (JOd tA ji):=by
 intro wh aa s σ H Q I h;refine isTrue_and (thn (ha aa s σ H _ I h) λc s1 hZ=>?_)
 obtain⟨H1,I1,q1⟩:=hZ;cases c with
 | true=>exact hb wh aa s1 σ H1 Q I1 q1
 | false=>exact⟨H1,I1,q1⟩
theorem Y3(ha:PT X a tA)(hb:PW X (.BoolOp .Or (b::rest) pos) ji):PW X (.BoolOp .Or (a::b::rest) pos) (tOr tA ji):=by
 intro wh aa s σ H Q I h;refine isTrue_or (thn (ha aa s σ H _ I h) λc s1 hZ=>?_)
 obtain⟨H1,I1,q1⟩:=hZ;cases c with
 | true=>exact⟨H1,I1,q1⟩
 | false=>exact hb wh aa s1 σ H1 Q I1 q1
theorem Q8(ha:PT X a tA):PT X (.UnaryOp .Not a pos) (JPd tA):=by
 intro aa s σ H Q I h;exact isTrue_not (thn (ha aa s σ H (λc H1=>Q (!c) H1) I h) λ_ _ hZ=>by obtain⟨H1,I1,q1⟩:=hZ;exact⟨H1,I1,q1⟩)
def Zed(ta tb:TE):TE:=λσ H Q=>ta σ H λx H1=>∃ c,x=.bl c/\if c=true then tb σ H1 Q else Q (.bl false) H1
def JQd(ta tb:TE):TE:=λσ H Q=>ta σ H λx H1=>∃ c,x=.bl c/\if c=true then Q (.bl true) H1 else tb σ H1 Q
def Zfd(ta:TE):TE:=λσ H Q=>ta σ H λx H1=>∃ c,x=.bl c/\Q (.bl (!c)) H1
theorem J6{op}{t:TE}(h:PE X a t):PE X (.BoolOp op [a] pos) t:=λaa s σ H Q I hw=>BoolOp_one (h aa s σ H Q I hw)
theorem XO(ha:PE X a ta)(hb:PE X (.BoolOp .And (b::rest) pos) tb):PE X (.BoolOp .And (a::b::rest) pos) (Zed ta tb):=by
 intro aa s σ H Q I h;refine BoolOp_and (thn (ha aa s σ H _ I h) λv s1 hZ=>?_)
 obtain⟨x,H1,I1,r1,q1⟩:=hZ;obtain⟨c,rfl,q1⟩:=q1;cases r1;refine V4 ?_
 cases c with
 | true=>exact hb aa s1 σ H1 Q I1 q1
 | false=>exact⟨.bl false,H1,I1,rfl,q1⟩
theorem QXc(ha:PE X a ta)(hb:PE X (.BoolOp .Or (b::rest) pos) tb):PE X (.BoolOp .Or (a::b::rest) pos) (JQd ta tb):=by
 intro aa s σ H Q I h;refine BoolOp_or (thn (ha aa s σ H _ I h) λv s1 hZ=>?_)
 obtain⟨x,H1,I1,r1,q1⟩:=hZ;obtain⟨c,rfl,q1⟩:=q1;cases r1;refine V4 ?_
 cases c with
 | false=>exact hb aa s1 σ H1 Q I1 q1
 | true=>exact⟨.bl true,H1,I1,rfl,q1⟩
theorem ZKb(ha:PE X a ta):PE X (.UnaryOp .Not a pos) (Zfd ta):=by
 intro aa s σ H Q I h;refine UnaryOp_ (thn (ha aa s σ H _ I h) λv s1 hZ=>?_)
 obtain⟨x,H1,I1,r1,q1⟩:=hZ;obtain⟨c,rfl,q1⟩:=q1;cases r1;exact not_of (V4 ⟨.bl (!c),H1,I1,rfl,q1⟩)
def tIf(t:TT)(ta tb:TE):TE:=λσ H Q=>t σ H λc H1=>if c=true then ta σ H1 Q else tb σ H1 Q
theorem J3b{c:Expr}(hc:PT X c tA)(ha:PE X a ta)(hb:PE X b tb):PE X (.IfExp c a b pos) (tIf tA ta tb):=by
 intro aa s σ H Q I h;refine wpAny_IfExp (thn (hc aa s σ H _ I h) λd s1 hZ=>?_)
 obtain⟨H1,I1,q1⟩:=hZ;cases d with
 | true=>exact ha aa s1 σ H1 Q I1 q1
 | false=>exact hb aa s1 σ H1 Q I1 q1
end
def SqL(K:VD)(H:Hp)(a:Vh)(xs:List V):Prop :=
 Rd H a (.lst xs) \/
  ∃ (o:Obj) (ag:Array Va) (n:Nat),K.lookup a=Vo o/\o.cls=.type "list"/\o.dict=Vp/\o.data=.seq ag n/\ag.size<=Vs/\Qz xs ag.toList
def SqT(K:VD)(H:Hp)(a:Vh)(xs:List V):Prop :=
 Rd H a (.tup xs) \/
  ∃ (o:Obj) (ag:Array Va) (n:Nat),K.lookup a=Vo o/\o.cls=.type "tuple"/\o.data=.seq ag n/\ag.size<=Vs/\Qz xs ag.toList
def YCd:Va->Option V
 | .none=>Vo .non
 | .bool b=>Vo (.bl b)
 | .int i _=>Vo (.int i)
 | .str x _=>Vo (.str x)
 | .bytes b _=>Vo (.byt b)
 | .float b _=>Vo (.flt b)
 | .ref a=>Vo (.ref a)
 | .type n=>Vo (.ty n)
 | _=>Vp
theorem QB.abs{x:V}{u:Va}(r:QB x u):YCd u=Vo x:=by
 cases x with
 | non=>cases r;rfl
 | bl _=>cases r;rfl
 | int _=>obtain⟨t,rfl⟩:=r;rfl
 | str _=>obtain⟨t,rfl⟩:=r;rfl
 | byt _=>obtain⟨t,rfl⟩:=r;rfl
 | flt _=>obtain⟨t,rfl⟩:=r;rfl
 | ref _=>cases r;rfl
 | ty _=>cases r;rfl
theorem QB.inj{x y:V}{u:Va}(r:QB x u)(q:QB y u):x=y:=Vr (r.abs.symm.trans q.abs)
theorem Qz.inj:∀ {xs ys:List V} {us:List Va},Qz xs us->Qz ys us->xs=ys
 | _,_,_,.nil,.nil=>rfl
 | _,_,_,.cons r t,.cons r' t'=>by rw[r.inj r',Qz.inj t t']
section
variable{X:Cx}{aa:YP_}{σ:St}{H:Hp}{s:VH}{a:Vh}{xs ys:List V}
theorem SqL.of{K:VD}(h:H a=Vo (.lst xs)):SqL K H a xs:=.inl (.inl h)
theorem SqT.of{K:VD}(h:H a=Vo (.tup xs)):SqT K H a xs:=.inl (.inl h)
theorem Inv.list(I:Inv X aa σ H s)(h:SqL X.K H a xs):∃ ag:List Va,Qz xs ag/\PlainL s.heap a ag.toArray/\xs.length<=Vs:=by
 rcases h with h | ⟨o,ag,n,hk,hc,hd,hs,hz,r⟩
 ·obtain⟨z,ag,n,r,e⟩:=h.ok I.hok
  exact⟨ag,r,⟨_,n,e,rfl,rfl,rfl⟩,z⟩
 ·refine⟨ag.toList,r,⟨o,n,I.kIn a o hk,hc,hd,by simpa using hs⟩,?_⟩
  have e:=r.length;simp only[V7]at e
  lia
theorem Inv.tuple(I:Inv X aa σ H s)(h:SqT X.K H a xs):∃ ag:List Va,Qz xs ag/\Vt s.heap a ag.toArray/\xs.length<=Vs:=by
 rcases h with h | ⟨o,ag,n,hk,hc,hs,hz,r⟩
 ·obtain⟨⟨z,_⟩,ag,r,p⟩:=h.ok I.hok
  exact⟨ag,r,p,z⟩
 ·refine⟨ag.toList,r,⟨o,I.kIn a o hk,hc,n,by simpa using hs⟩,?_⟩
  have e:=r.length;simp only[V7]at e
  lia
theorem Inv.list_inj(I:Inv X aa σ H s)(h:SqL X.K H a xs)(h':SqL X.K H a ys):xs=ys:=by
 obtain⟨ag,r,⟨o,n,e,_,_,d⟩,_⟩:=I.list h;obtain⟨its',r',⟨o',n',e',_,_,d'⟩,_⟩:=I.list h';rw[e]at e';cases e';rw[d]at d';injection d' with d1 _
 have:ag=its':=by simpa using congrArg Array.toList d1
 subst this;exact r.inj r'
theorem Inv.tuple_inj(I:Inv X aa σ H s)(h:SqT X.K H a xs)(h':SqT X.K H a ys):xs=ys:=by
 obtain⟨ag,r,⟨o,e,_,n,d⟩,_⟩:=I.tuple h;obtain⟨its',r',⟨o',e',_,n',d'⟩,_⟩:=I.tuple h';rw[e]at e';cases e';rw[d]at d';injection d' with d1 _
 have:ag=its':=by simpa using congrArg Array.toList d1
 subst this;exact r.inj r'
end
abbrev Cx.wish(X:Cx)(E:YQ_):Cx:={ X with xe:=E }
abbrev Cx.nox(X:Cx):Cx:=X.wish λ_ _=>False
theorem Cx.Ok.wish{X:Cx}(ok:X.Ok)(E:YQ_):(X.wish E).Ok :=
 ⟨ok.mod,ok.kind,ok.glob,ok.blt,ok.above,ok.inj,ok.has,ok.cab,ok.hd,ok.frames,ok.stk,ok.exf,ok.bs,ok.bsz,ok.noex,ok.exfs,ok.funs,ok.frf⟩
theorem Cx.Ok.unwish{X:Cx}{E:YQ_}(ok:(X.wish E).Ok):X.Ok :=
 ⟨ok.mod,ok.kind,ok.glob,ok.blt,ok.above,ok.inj,ok.has,ok.cab,ok.hd,ok.frames,ok.stk,ok.exf,ok.bs,ok.bsz,ok.noex,ok.exfs,ok.funs,ok.frf⟩
section
variable{X:Cx}{aa:YP_}{σ:St}{H:Hp}{s:VH}{E:YQ_}
theorem Inv.wish(I:Inv X aa σ H s)(E:YQ_):Inv (X.wish E) aa σ H s:=⟨I.ok.wish E,I.os,I.bare,I.base,I.loc,I.cell,I.free,I.freeC,I.pin,I.hok,I.len⟩
theorem Inv.unwish(I:Inv (X.wish E) aa σ H s):Inv X aa σ H s:=⟨I.ok.unwish,I.os,I.bare,I.base,I.loc,I.cell,I.free,I.freeC,I.pin,I.hok,I.len⟩
theorem SP.unwish{D:ZL}{f:Flow}{s':VH}(h:SP (X.wish E) aa D f s'):SP X aa D f s':=by
 cases f with
 | next=>obtain⟨σ',H',I,q⟩:=h;exact⟨σ',H',I.unwish,q⟩
 | brk=>obtain⟨σ',H',I,q⟩:=h;exact⟨σ',H',I.unwish,q⟩
 | cont=>obtain⟨σ',H',I,q⟩:=h;exact⟨σ',H',I.unwish,q⟩
 | ret u=>obtain⟨v,σ',H',I,r,q⟩:=h;exact⟨v,σ',H',I.unwish,r,q⟩
theorem PSs.nox{st:List V0}{t:TS}(h:PSs X.nox st t):PSs X st t:=λaa s σ H D I hw =>
 V1 (h aa s σ H D (I.wish _) hw) (λ_ _ q=>q.unwish) λ_ _ z=>V8 z
end
section
variable{X:Cx}{st:V0}{rest:List V0}{t u:TS}{e:Expr}{te:TE}{pos:Pos}
def Zgd:TS:=λD σ H=>D.nx σ H
def YYa(t u:TS):TS:=λD σ H=>t { D with nx:=u D } σ H
theorem Qr:PSs X [] Zgd:=λ_ _ σ H _ I h=>V9 ⟨σ,H,I,h⟩
theorem Qc(h1:PS X st t)(h2:PSs X rest u):PSs X (st::rest) (YYa t u):=by
 intro aa s σ H D I h;refine wpAny_execs_cons (thn (h1 aa s σ H { D with nx:=u D } I h) λf s1 q=>?_)
 cases f with
 | next =>
  obtain⟨σ',H',I',q⟩:=q;exact h2 aa s1 σ' H' D I' q
 | ret v=>exact q
 | brk=>exact q
 | cont=>exact q
theorem Qe(h1:PS X st t):PSs X [st] t:=by
 intro aa s σ H D I h;refine wpAny_execs_cons (thn (h1 aa s σ H D I h) λf s1 q=>?_)
 cases f with
 | next=>exact V9 q
 | ret v=>exact q
 | brk=>exact q
 | cont=>exact q
theorem Inv.quiet{aa:YP_}{σ:St}{H:Hp}{s:VH}(I:Inv X aa σ H s):interactive X.env=false:=by simp[interactive,I.ok.kind]
def Zhd(te:TE):TS:=λD σ H=>te σ H λ_ H1=>D.nx σ H1
theorem QZ(he:PE X e te)(hs:Ua e Vp pos.line X.env=pure false:=by rfl):PS X (.Expr e pos) (Zhd te):=by
 intro aa s σ H D I h;exact wpAny_Expr_any (thn (he aa s σ H _ I h) λv s1 ⟨x,H1,I1,r1,q1⟩=>⟨σ,H1,I1,q1⟩) I.quiet hs
def JRd(te:TE):TS:=λD σ H=>te σ H D.rt
theorem Qn(he:PE X e te):PS X (.Return (Vo e) pos) (JRd te):=by
 intro aa s σ H D I h;exact wpAny_Return_some (thn (he aa s σ H _ I h) λv s1 ⟨x,H1,I1,r1,q1⟩=>⟨x,σ,H1,I1,r1,q1⟩)
def JSd(c:TT)(t u:TS):TS:=λD σ H=>c σ H λb H1=>if b=true then t D σ H1 else u D σ H1
theorem QG{c:Expr}{a b:List V0}{tc:TT}(hc:PT X c tc)(ha:PSs X a t)(hb:PSs X b u):PS X (.If c a b pos) (JSd tc t u):=by
 intro aa s σ H D I h;refine wpAny_If (thn (hc aa s σ H _ I h) λd s1 hZ=>?_)
 obtain⟨H1,I1,q1⟩:=hZ;cases d with
 | true=>exact ha aa s1 σ H1 D I1 q1
 | false=>exact hb aa s1 σ H1 D I1 q1
end
abbrev TG:=V->St->Hp->(St->Hp->Prop)->Prop
abbrev TGs:=List V->St->Hp->(St->Hp->Prop)->Prop
def PG(X:Cx)(aS:Expr)(t:TG):Prop :=
 ∀ (aa:YP_) (s:VH) (σ:St) (H:Hp) (v:V) (u:Va) (Q:St->Hp->Prop),Inv X aa σ H s->QB v u->t v σ H Q ->
  VV (VW X.prog X.w) X.A (Ub aS X.env u) (λ_ s'=>∃ σ' H',Inv X aa σ' H' s'/\Q σ' H') X.xe s
def PGs(X:Cx)(ts:List Expr)(t:TGs):Prop :=
 ∀ (aa:YP_) (s:VH) (σ:St) (H:Hp) (vs:List V) (us:List Va) (Q:St->Hp->Prop),Inv X aa σ H s->Qz vs us->t vs σ H Q ->
  VV (VW X.prog X.w) X.A (assignInOrder ((Uc ts X.env).map (·.2)) us) (λ_ s'=>∃ σ' H',Inv X aa σ' H' s'/\Q σ' H') X.xe s
abbrev ZMd:=V->V->V->Hp->(Hp->Prop)->Prop
def JTd(X:Cx)(t:ZMd):Prop :=
 ∀ (aa:YP_) (s:VH) (σ:St) (H:Hp) (o i v:V) (ov iv u:Va) (Q:Hp->Prop),Inv X aa σ H s->QB o ov->QB i iv->QB v u->t o i v H Q ->
  VV (VW X.prog X.w) X.A (setItem ov iv u) (λ_ s'=>∃ H',Inv X aa σ H' s'/\Q H') X.xe s
section
variable{X:Cx}{pos:Pos}
def J4b(i:Nat):TG:=λv σ H Q=>Q (σ.set i (Vo v)) H
theorem QW{i:Nat}{x:Str}(hN:X.N.Nodup)(hi:X.N[i]?=Vo x)(hx:Loc X.env.scope x)(hf:X.fn x=true\/X.env.scope.names.lookup x=Vo .local:=by first | exact .inl rfl | exact .inr rfl | assumption):PG X (.Name x pos) (J4b i):=by
 intro aa s σ H v u Q I r h;exact wpAny_assign_Name (J2b I hN hi hx r (λs' I'=>⟨_,H,I',h⟩) hf)
def JUd:TGs:=λvs σ H Q=>vs=[]/\Q σ H
def Zid(t:TG)(u:TGs):TGs:=λvs σ H Q=>∃ v r,vs=v::r/\t v σ H λσ' H'=>u r σ' H' Q
theorem ZLb:PGs X [] JUd:=by
 intro aa s σ H vs us Q I r h;obtain⟨e,h⟩:=h;subst e;cases r;exact assignInOrder_nil ⟨σ,H,I,h⟩
theorem XA{e:Expr}{es:List Expr}{t:TG}{u:TGs}(h1:PG X e t)(h2:PGs X es u)
 (hs:(Uc (e::es) X.env).map (·.2)=Ub e X.env::(Uc es X.env).map (·.2):=by rfl):PGs X (e::es) (Zid t u):=by
 intro aa s σ H vs us Q I r h;obtain⟨v,vr,e1,h⟩:=h;subst e1;cases r with
 | cons r rr =>
  rw[hs];refine assignInOrder_cons (thn (h1 aa s σ H _ _ _ I r h) λ_ s1 hZ=>?_)
  obtain⟨σ1,H1,I1,q1⟩:=hZ;exact h2 aa s1 σ1 H1 _ _ Q I1 rr q1
def JVd(K:VD)(n:Nat)(t:TGs):TG:=λv σ H Q=>∃ a xs,v=.ref a/\SqT K H a xs/\xs.length=n/\t xs σ H Q
theorem XDb{es:List Expr}{k:Nat}{t:TGs}{n:Nat}(hc:X.calm=true)(h:PGs X es t)
 (hn:(Uc es X.env).length=n:=by rfl) (bB:(Uc es X.env).findIdx? (·.1)=Vp:=by rfl):PG X (.Tuple es k pos) (JVd X.K n t):=by
 intro aa s σ H v u Q I r hw;obtain⟨a,xs,e1,hq,hl,hw⟩:=hw;subst e1;cases r;obtain⟨ag,rv,ht,hz⟩:=I.tuple hq;refine assign_Tuple_tuple (I.ok.hd hc) ht (by simp[hn,<- hl,rv.length]) bB λh' hx=>?_
 have I1:Inv X aa σ H { s with heap:=h' }:=I.kept (t':=s.toks) λb o e=>hx b o (VB (Vy e)) e
 exact h aa _ σ H xs _ Q I1 (by simpa using rv) hw
def JWd(to ti:TE)(t:ZMd):TG:=λv σ H Q=>to σ H λo H1=>ti σ H1 λi H2=>t o i v H2 λH3=>Q σ H3
theorem JWc{o i:Expr}{to ti:TE}{t:ZMd}(ho:PE X o to)(hi:PE X i ti)(hs:JTd X t)
 (ha:∀ v,Ub (.Subscript o i pos) X.env v=(do
  let ov <- V6 [v] (VX o X.env)
  let iv <- V6 [v,ov] (VX i X.env)
  V5 pos
  V6 [v,ov,iv] (setItem ov iv v)
  release [v,ov,iv] []):=by intro _;rfl):PG X (.Subscript o i pos) (JWd to ti t):=by
 intro aa s σ H v u Q I r h;rw[ha];refine Ud (Ue (thn (ho aa s σ H _ I h) λov s1 hZ=>?_))
 obtain⟨x,H1,I1,r1,q1⟩:=hZ;refine Ud (Ue (thn (hi aa s1 σ H1 _ I1 q1) λiv s2 hZ=>?_))
 obtain⟨y,H2,I2,r2,q2⟩:=hZ;refine Ud (Uf (Ud (Ue (thn (hs aa s2 σ H2 x y v ov iv u _ I2 r1 r2 r q2) λ_ s3 hZ=>?_))))
 obtain⟨H3,I3,q3⟩:=hZ;exact wpAny_release ⟨σ,H3,I3,q3⟩
def X5c(te:TE)(g:TG):TS:=λD σ H=>te σ H λx H1=>g x σ H1 D.nx
theorem JXc{tg e:Expr}{te:TE}{g:TG}(he:PE X e te)(hg:PG X tg g)(hs:swapsWithSole [tg] e pos.line X.env=pure false:=by rfl)(hw:swappedStores [tg] e X.env=pure Vp:=by rfl)
 (h1:(Uc [tg] X.env).map (·.2)=[Ub tg X.env]:=by rfl):PS X (.Assign [tg] e pos) (X5c te g):=by
 intro aa s σ H D I h;refine wpAny_Assign_stores (thn (he aa s σ H _ I h) λv s1 hZ=>?_) hs hw
 obtain⟨x,H1,I1,r1,q1⟩:=hZ;rw[h1];exact thn (hg aa s1 σ H1 x v _ I1 r1 q1) λ_ s2 q=>q
theorem ZNd{i:Nat}{x:Str}{e:Expr}{te:TE}{aH:Pos}(hN:X.N.Nodup)(hi:X.N[i]?=Vo x)(hx:Loc X.env.scope x)(he:PE X e te)(hs:Ua e (Vo (.Name x aH)) pos.line X.env=pure false:=by rfl)(hf:X.fn x=true\/X.env.scope.names.lookup x=Vo .local:=by first | exact .inl rfl | exact .inr rfl | assumption) :
 PS X (.Assign [.Name x aH] e pos) (X5c te (J4b i)):=by
 intro aa s σ H D I h;refine wpAny_Assign_Name (thn (he aa s σ H _ I h) λv s1 hZ=>?_) hs
 obtain⟨y,H1,I1,r1,q1⟩:=hZ;exact J2b I1 hN hi hx r1 (λs2 I2=>⟨_,H1,I2,q1⟩) hf
end
section
variable{X:Cx}{pos:Pos}
def ZOd(c:TT)(tb:TS):TS:=λD σ H=>∃ W:Nat->St->Hp->Prop,(∃ m,W m σ H)/\∀ m σ H,W m σ H ->
 c σ H λb H1=>if b=true then ∃ N:St->Hp->Prop,(∀ σ' H',N σ' H'->∃ m',m' < m/\W m' σ' H')/\tb { D with nx:=N,ct:=N,bk:=D.nx } σ H1 else D.nx σ H1
theorem Xma{c:Expr}{body:List V0}{tc:TT}{tb:TS}(hp:PassesOwn (VW X.prog X.w) X.A X.env X.xe)(hc:PT X c tc)(hb:PSs X body tb):PS X (.While c body [] pos) (ZOd tc tb):=by
 intro aa s σ H D I h;obtain⟨W,⟨m0,w0⟩,turn⟩:=h;refine wpAny_While (codeAny_whileLoop (λn s'=>∃ σ' H',Inv X aa σ' H' s'/\W n σ' H') ?_ m0 ⟨σ,H,I,w0⟩)
 rintro n s1 ⟨σ1,H1,I1,w1⟩;refine Ug hp (thn (hc aa s1 σ1 H1 _ I1 (turn n σ1 H1 w1)) λb s2 hZ=>?_)
 obtain⟨H2,I2,q2⟩:=hZ;cases b with
 | true =>
  obtain⟨N,hN,q2⟩:=q2;rw[if_pos rfl];refine Ug hp (thn (hb aa s2 σ1 H2 _ I2 q2) λf s3 q3=>?_)
  cases f with
  | next =>
   obtain⟨σ3,H3,I3,n3⟩:=q3;obtain⟨m',hm,w3⟩:=hN σ3 H3 n3;exact⟨m',hm,σ3,H3,I3,w3⟩
  | cont =>
   obtain⟨σ3,H3,I3,n3⟩:=q3;obtain⟨m',hm,w3⟩:=hN σ3 H3 n3;exact⟨m',hm,σ3,H3,I3,w3⟩
  | brk=>exact q3
  | ret v=>exact q3
 | false =>
  rw[if_neg Uh];exact V9 ⟨σ1,H2,I2,q2⟩
end
structure It where
 go:Nat->Hp->Prop
 yld:Nat->Hp->V->Hp->Prop
 stop:Nat->Hp->Prop
def Yj(X:Cx)(aa:YP_)(H:Hp)(b:Vh):Prop :=
 H b=Vp/\b≠X.env.locals/\b∉X.fs/\(b∈X.ex\/X.s₀.heap.objs.size<=b)/\(∀ x c,X.env.cells.lookup x=Vo c->c≠b)/\∀ p∈X.pn++aa,p.1≠b
theorem Inv.fpOk{X:Cx}{aa:YP_}{σ:St}{H H':Hp}{s:VH}{b:Vh}(I:Inv X aa σ H s)(hb:s.heap.objs.size<=b)(hn:H' b=Vp):Yj X aa H' b:=by
 refine⟨hn,Ui (Vz I.lt hb),I.nofs hb,.inr (VJ I.sz hb),λx c e z=>?_,λp hp z=>?_⟩
 ·obtain⟨v,q⟩:=I.cell x c e
  exact absurd (Vz q.lt (by rw[z];exact hb)) (VA _)
 ·exact absurd (Vz (Vy (I.pin p hp).1) (by rw[z];exact hb)) (VA _)
structure ZMb(P:Vg)(w:Vb)(K:VD)(tg:Expr)(J:It)(fp:List Vh)(it:Vh)(tn:Nat->Vq->Prop):Prop where
 mem:it∈fp
 obj:∀ i h,tn i h->∀ b∈fp,∃ o,h.get? b=Vo o/\∀ v,o.data≠.cell v
 keep:∀ i h h',tn i h->(∀ b∈fp,∀ o,h.get? b=Vo o->h'.get? b=Vo o)->tn i h'
 item:∀ (X:Cx),X.prog=P->X.w=w->X.K=K->X.calm=true->∀ (i:Nat) (aa:YP_) (s:VH) (σ:St) (H:Hp) (E:YQ_),Inv X aa σ H s->(∀ b∈fp,Yj X aa H b)->tn i s.heap->J.go i H ->
  VV (VW P w) X.A (Uj (.ref it)) (λr s1=>∃ u,r=Vo u /\
   VV (VW P w) X.A (Uk tg (.ref it) u) (λ_ s2=>∃ x H',Inv X aa σ H' s2/\QB x u/\J.yld i H x H'/\tn (i+1) s2.heap/\∀ b∈fp,H' b=Vp) E s1) E s
 done:∀ (X:Cx),X.prog=P->X.w=w->X.K=K->X.calm=true->∀ (i:Nat) (aa:YP_) (s:VH) (σ:St) (H:Hp) (E:YQ_),Inv X aa σ H s->(∀ b∈fp,Yj X aa H b)->tn i s.heap->J.stop i H ->
  VV (VW P w) X.A (Uj (.ref it)) (λr s1=>r=Vp/\Inv X aa σ H s1) E s
 self:∀ (A:VG) (i:Nat) (s:VH) (Q:YQ_) (E:YQ_),tn i s.heap->Q (.ref it) s->VV (VW P w) A (Ul (.ref it)) Q E s
abbrev TI:=St->Hp->(It->Hp->Prop)->Prop
def PIE(X:Cx)(aa:YP_)(σ:St)(tg:Expr)(R:It->Hp->Prop)(mZ:Va)(s2:VH):Prop :=
 ∃ (it:Vh) (fp:List Vh) (tn:Nat->Vq->Prop) (J:It) (H':Hp),mZ=.ref it/\Inv X aa σ H' s2/\ZMb X.prog X.w X.K tg J fp it tn/\tn 0 s2.heap/\(∀ b∈fp,Yj X aa H' b)/\R J H'
def PI(X:Cx)(tg Um:Expr)(wi:TI):Prop :=
 ∀ (aa:YP_) (s:VH) (σ:St) (H:Hp) (R:It->Hp->Prop),Inv X aa σ H s->wi σ H R ->
  VV (VW X.prog X.w) X.A (VX Um X.env) (λv s1=>VV (VW X.prog X.w) X.A (Ul v) (PIE X aa σ tg R) X.xe s1) X.xe s
theorem Q5b{M:VT}{A:VG}{E:YQ_}{s:VH}{tg:Expr}{it:Vh}{u:Va}{o:Obj}{n:String}{vs:Array Va}{Q:Unit->VH->Prop}(ho:s.heap.get? it=Vo o)(hc:o.cls=.type n)(hd:o.data=.fields vs)
 (hn:["enumerate","zip","dict_itemiterator","dict_reverseitemiterator","odict_iterator","itertools.zip_longest","itertools.pairwise"].contains n=false) (hQ:Q () s):VV M A (Uk tg (.ref it) u) Q E s:=by
 unfold Uk;cases tg <;> first
  | exact Uo hQ
  | (cases u <;> first
   | exact Uo hQ
   | (refine Ud (wpAny_load ho ?_)
      rw[hc,hd];show VV M A (if (["enumerate","zip","dict_itemiterator","dict_reverseitemiterator","odict_iterator","itertools.zip_longest","itertools.pairwise"].contains n && vs[0]? == Vo (Uq _))=true then _ else _) Q E s
      rw[if_neg (by intro h;rw[hn,Bool.false_and]at h;cases h)]
      exact Uo hQ))
def Itl(K:VD)(a:Vh):It :=
 ⟨λi H=>∃ xs x,SqL K H a xs/\xs[i]?=Vo x,λi H x H'=>H'=H/\∀ xs,SqL K H a xs->xs[i]?=Vo x,λi H=>∃ xs,SqL K H a xs/\xs.length<=i⟩
def Itt(K:VD)(a:Vh):It :=
 ⟨λi H=>∃ xs x,SqT K H a xs/\xs[i]?=Vo x,λi H x H'=>H'=H/\∀ xs,SqT K H a xs->xs[i]?=Vo x,λi H=>∃ xs,SqT K H a xs/\xs.length<=i⟩
def Itr(lo:Int)(n:Nat):It:=⟨λi _=>i < n,λi H x H'=>H'=H/\x=.int (lo+i),λi _=>n<=i⟩
theorem Q6b{P:Vg}{w:Vb}{K:VD}{tg:Expr}(a it:Vh):ZMb P w K tg (Itl K a) [it] it (λi h=>h.IsListIter it a i) where
 mem:=by simp
 obj:=λi h st b hb=>by
  have e:b=it:=by simpa using hb
  subst e;obtain⟨o,e,c,d⟩:=st;exact⟨o,e,λv z=>by rw[d]at z;cases z⟩
 keep:=λi h h' st k=>st.at λo e=>k it #[2] o e
 item:=by
  intro X hP hw hK hc i aa s σ H E I hf st hg;subst hP hw hK;obtain⟨xs,x,hq,hx⟩:=hg;obtain⟨ag,rv,p,hz⟩:=I.list hq;obtain⟨u,hu,ru⟩:=rv.get hx;obtain⟨f0,f1,f2,f3,f4,f5⟩:=hf it #[2]
  refine wpAny_pyNext_list_item st p.isList (x:=u) (by simpa using hu) λh' ai sb=>?_
  have I1:Inv X aa σ H { s with heap:=h' }:=I.turned (t':=s.toks) (λb o hb e=>(sb.2 b hb).trans e) f0 f1 f3 f4 f5
  obtain⟨o,e,c,d⟩:=id ai;exact⟨u,rfl,Q5b (s:={ s with heap:=h' }) e c d #[1] ⟨x,H,I1,ru,⟨rfl,λys hy=>by rw[I.list_inj hy hq];exact hx⟩,ai,λb hb=>(hf b hb).1⟩⟩
 done:=by
  intro X hP hw hK hc i aa s σ H E I hf st hg;subst hP hw hK;obtain⟨xs,hq,hx⟩:=hg;obtain⟨ag,rv,p,hz⟩:=I.list hq;obtain⟨f0,f1,f2,f3,f4,f5⟩:=hf it #[2]
  have hl:=rv.length;exact wpAny_pyNext_list_end (I.ok.hd hc) st p.isList (by simp;lia) λh' eb=>⟨rfl,I.turned (t':=s.toks) (λb o hb e=>eb b o hb e) f0 f1 f3 f4 f5⟩
 self:=λ_ _ _ _ _ st h=>wpAny_pyIter_listiter st h
theorem Xna{P:Vg}{w:Vb}{K:VD}{tg:Expr}(a it:Vh):ZMb P w K tg (Itt K a) [it] it (λi h=>h.IsTupleIter it a i) where
 mem:=by simp
 obj:=λi h st b hb=>by
  have e:b=it:=by simpa using hb
  subst e;obtain⟨o,e,c,d⟩:=st;exact⟨o,e,λv z=>by rw[d]at z;cases z⟩
 keep:=λi h h' st k=>st.at λo e=>k it #[2] o e
 item:=by
  intro X hP hw hK hc i aa s σ H E I hf st hg;subst hP hw hK;obtain⟨xs,x,hq,hx⟩:=hg;obtain⟨ag,rv,p,hz⟩:=I.tuple hq;obtain⟨u,hu,ru⟩:=rv.get hx;obtain⟨f0,f1,f2,f3,f4,f5⟩:=hf it #[2]
  refine wpAny_pyNext_tuple_item st (show s.heap.IsTuple a ag.toArray from p) (x:=u) (by simpa using hu) λh' ai sb=>?_
  have I1:Inv X aa σ H { s with heap:=h' }:=I.turned (t':=s.toks) (λb o hb e=>(sb.2 b hb).trans e) f0 f1 f3 f4 f5
  obtain⟨o,e,c,d⟩:=id ai;exact⟨u,rfl,Q5b (s:={ s with heap:=h' }) e c d #[1] ⟨x,H,I1,ru,⟨rfl,λys hy=>by rw[I.tuple_inj hy hq];exact hx⟩,ai,λb hb=>(hf b hb).1⟩⟩
 done:=by
  intro X hP hw hK hc i aa s σ H E I hf st hg;subst hP hw hK;obtain⟨xs,hq,hx⟩:=hg;obtain⟨ag,rv,p,hz⟩:=I.tuple hq;obtain⟨f0,f1,f2,f3,f4,f5⟩:=hf it #[2]
  have hl:=rv.length;exact wpAny_pyNext_tuple_end (I.ok.hd hc) st (show s.heap.IsTuple a ag.toArray from p) (by simp;lia) λh' eb=>⟨rfl,I.turned (t':=s.toks) (λb o hb e=>eb b o hb e) f0 f1 f3 f4 f5⟩
 self:=λ_ _ _ _ _ st h=>wpAny_pyIter_tupleiter st h
theorem XEb{P:Vg}{w:Vb}{K:VD}{tg:Expr}(it:Vh)(lo:Int)(n:Nat):ZMb P w K tg (Itr lo n) [it] it (λi h=>IsRangeIter h it (lo+(i:Nat) * 1) ((n:Int) - (i:Nat)) 1) where
 mem:=by simp
 obj:=λi h st b hb=>by
  have e:b=it:=by simpa using hb
  subst e;exact⟨_,st,λv z=>by
   have z':Data.fields _=Data.cell v:=z;cases z'⟩
 keep:=λi h h' st k=>k it #[2] _ st
 item:=by
  intro X hP hw hK hc i aa s σ H E I hf st hg;subst hP hw hK;obtain⟨f0,f1,f2,f3,f4,f5⟩:=hf it #[2]
  have W:=Walks.range (prog:=X.prog) (w:=X.w) (I.ok.hd hc) it lo 1 n;refine W.item i s _ _ hg st λv h' tk hv ai kk=>?_
  obtain⟨t,rfl⟩:=hv;have I1:Inv X aa σ H { s with heap:=h',toks:=tk }:=I.turned (λb o hb e=>kk b o (by simpa using hb) e) f0 f1 f3 f4 f5
  refine⟨_,rfl,Q5b (s:={ s with heap:=h',toks:=tk }) (n:="range_iterator") ai rfl rfl #[1] ⟨.int (lo+i),H,I1,⟨t,?_⟩,⟨rfl,rfl⟩,ai,λb hb=>(hf b hb).1⟩⟩
  rw[Int.mul_one]
 done:=by
  intro X hP hw hK hc i aa s σ H E I hf st hg;subst hP hw hK;obtain⟨f0,f1,f2,f3,f4,f5⟩:=hf it #[2]
  exact wpAny_pyNext_range_end (I.ok.hd hc) st (by have:n<=i:=hg;lia) λh' eb=>⟨rfl,I.turned (t':=s.toks) (λb o hb e=>eb b o hb e) f0 f1 f3 f4 f5⟩
 self:=λ_ _ _ _ _ st h=>wpAny_pyIter_rangeiter st h
section
variable{X:Cx}{tg:Expr}
def JYc(K:VD)(tl:TE):TI:=λσ H R=>tl σ H λx H1=>∃ a,x=.ref a/\(∃ xs,SqL K H1 a xs)/\R (Itl K a) H1
def ZPd(K:VD)(tl:TE):TI:=λσ H R=>tl σ H λx H1=>∃ a,x=.ref a/\(∃ xs,SqT K H1 a xs)/\R (Itt K a) H1
theorem Jh{l:Expr}{tl:TE}(hl:PE X l tl):PI X tg l (JYc X.K tl):=by
 intro aa s σ H R I h;refine thn (hl aa s σ H _ I h) λv s1 hZ=>?_
 obtain⟨x,H1,I1,r1,q1⟩:=hZ;obtain⟨a,e,⟨xs,hq⟩,q⟩:=q1;subst e;cases r1;obtain⟨ag,rv,p,hz⟩:=I1.list hq;refine Ur p.isList ?_
 refine⟨s1.heap.objs.size,[s1.heap.objs.size],_,_,H1,rfl,I1.kept (t':=s1.toks) λb o e=>Us _ e,Q6b a _,⟨_,Ut _ rfl,rfl,rfl⟩,λb hb=>?_,q⟩
 have e:b=s1.heap.objs.size:=by simpa using hb
 subst e;exact I1.fpOk (Uu _) (I1.hok.fresh (Uu _))
theorem Xoa{l:Expr}{tl:TE}(hl:PE X l tl):PI X tg l (ZPd X.K tl):=by
 intro aa s σ H R I h;refine thn (hl aa s σ H _ I h) λv s1 hZ=>?_
 obtain⟨x,H1,I1,r1,q1⟩:=hZ;obtain⟨a,e,⟨xs,hq⟩,q⟩:=q1;subst e;cases r1;obtain⟨ag,rv,p,hz⟩:=I1.tuple hq;refine Uv (show s1.heap.IsTuple a ag.toArray from p) ?_
 refine⟨s1.heap.objs.size,[s1.heap.objs.size],_,_,H1,rfl,I1.kept (t':=s1.toks) λb o e=>Us _ e,Xna a _,⟨_,Ut _ rfl,rfl,rfl⟩,λb hb=>?_,q⟩
 have e:b=s1.heap.objs.size:=by simpa using hb
 subst e;exact I1.fpOk (Uu _) (I1.hok.fresh (Uu _))
theorem J5b{aa:YP_}{σ:St}{H:Hp}{s:VH}{R:It->Hp->Prop}{E:YQ_}{lo hi:Int}{t u v:Tok}{tk:Nat}(I:Inv X aa σ H s)(h1 : -(2 ^ 62)<=lo)(h2:lo < 2 ^ 62)(h3 : -(2 ^ 62)<=hi)(h4:hi < 2 ^ 62)
 (q:R (Itr lo (hi - lo).toNat) H):VV (VW X.prog X.w) X.A (Ul (.ref s.heap.objs.size)) (PIE X aa σ tg R) E { s with heap:=s.heap.push { cls:=.type "range",data:=.fields #[.int lo t,.int hi u,.int 1 v] },toks:=tk }:=by
 refine wpAny_pyIter_range (IsRange.new ..) (small_one h1 h2 h3 h4) ?_
 have I1:Inv X aa σ H { s with heap:=s.heap.push { cls:=.type "range",data:=.fields #[.int lo t,.int hi u,.int 1 v] },toks:=tk }:=I.kept λb o e=>Us _ e
 refine⟨(s.heap.push { cls:=.type "range",data:=.fields #[.int lo t,.int hi u,.int 1 v] }).objs.size,[(s.heap.push { cls:=.type "range",data:=.fields #[.int lo t,.int hi u,.int 1 v] }).objs.size],_,_,H,rfl,
  I1.kept (t':=tk) λb o e=>Us _ e,XEb _ lo (hi - lo).toNat,?_,λb hb=>?_,q⟩
 ·have e1:lo+((0:Nat):Int) * 1=lo:=by simp
  have e2:(((hi - lo).toNat:Nat):Int) - ((0:Nat):Int)=Builtin.Range.rangeSize lo hi 1:=by rw[rangeSize_one];split <;> lia
  show IsRangeIter _ _ (lo+((0:Nat):Int) * 1) ((((hi - lo).toNat:Nat):Int) - ((0:Nat):Int)) 1;rw[e1,e2];exact Ut _ rfl
 ·have e:b=(s.heap.push { cls:=.type "range",data:=.fields #[.int lo t,.int hi u,.int 1 v] }).objs.size:=by simpa using hb
  subst e;exact I1.fpOk (Uu _) (I1.hok.fresh (Uu _))
def JZc(ta:TA):TI:=λσ H R=>ta σ H λvs H1=>∃ j:Int,vs=[.int j] /\ -(2 ^ 62)<=j/\j < 2 ^ 62/\R (Itr 0 j.toNat) H1
def J0c(ta:TA):TI:=λσ H R=>ta σ H λvs H1=>∃ i j:Int,vs=[.int i,.int j]/\(-(2 ^ 62)<=i/\i < 2 ^ 62 /\ -(2 ^ 62)<=j/\j < 2 ^ 62)/\R (Itr i (j - i).toNat) H1
theorem YA{a:Expr}{ta:TA}{p pos:Pos}(hg:Gl X "range")(hm:X.mg "range"=Vp)(ha:PA X [a] ta)(hs:VZ [a] X.env=[(false,VX a X.env)]:=by rfl):PI X tg (.Call (.Name "range" p) [a] [] pos) (JZc ta):=by
 intro aa s σ H R I h;refine Call_ (ZZa I hg hm boot_range (Uw (thn (ha pos aa s σ H _ I h) λus s1 hZ=>?_) hs rfl))
 obtain⟨vs,H1,I1,r1,q1⟩:=hZ;obtain⟨j,e,q1,q2,q⟩:=q1;subst e;cases r1 with
 | cons r rr =>
  cases rr;obtain⟨t,rfl⟩:=r;exact call_range_1 (J5b I1 #[0] #[0] q1 q2 (by simpa using q))
theorem Q7b{a b:Expr}{ta:TA}{p pos:Pos}(hg:Gl X "range")(hm:X.mg "range"=Vp)(ha:PA X [a,b] ta)(hs:VZ [a,b] X.env=[(false,VX a X.env),(false,VX b X.env)]:=by rfl)(fw:VZ [b] X.env=[(false,VX b X.env)]:=by rfl) :
 PI X tg (.Call (.Name "range" p) [a,b] [] pos) (J0c ta):=by
 intro aa s σ H R I h;refine Call_ (ZZa I hg hm boot_range (Uw (thn (ha pos aa s σ H _ I h) λus s1 ⟨vs,H1,I1,r1,q1⟩=>?_) (by rw[hs,fw]) (by rw[fw];rfl)))
 obtain⟨i,j,e,⟨q1,q2,q3,q4⟩,q⟩:=q1;subst e;cases r1 with
 | cons r rr =>
  cases rr with
  | cons r' rr =>
   cases rr;obtain⟨t,rfl⟩:=r;obtain⟨t',rfl⟩:=r';exact call_range_2 (J5b I1 q1 q2 q3 q4 q)
def Qvb(wi:TI)(g:TG)(tb:TS):TS:=λD σ H=>wi σ H λJ H1=>∃ W:Nat->Nat->St->Hp->Prop,(∃ m,W 0 m σ H1)/\∀ i m σ H,W i m σ H ->
 (J.stop i H/\D.nx σ H)\/(J.go i H/\∃ N:St->Hp->Prop,(∀ σ' H',N σ' H'->∃ m',m' < m/\W (i+1) m' σ' H')/\∀ x H',J.yld i H x H'->g x σ H' λσ2 H2=>tb { D with nx:=N,ct:=N,bk:=D.nx } σ2 H2)
def Xpa(fp:List Vh)(h:Vq):YP_:=fp.filterMap λb=>(h.get? b).map λo=>(b,o)
theorem XQ{fp:List Vh}{h:Vq}{b:Vh}{o:Obj}(hb:b∈fp)(e:h.get? b=Vo o):(b,o)∈Xpa fp h:=mem_filterMap.mpr ⟨b,hb,by rw[e];rfl⟩
theorem ZKc{fp:List Vh}{h:Vq}{p:Vh×Obj}(hp:p∈Xpa fp h):p.1∈fp/\h.get? p.1=Vo p.2:=by
 obtain⟨b,hb,e⟩:=mem_filterMap.mp hp;cases q:h.get? b with
 | none=>rw[q]at e;cases e
 | some o =>
  rw[q]at e;have e':(b,o)=p:=Vr e;subst e';exact⟨hb,q⟩
theorem Inv.pinned{aa:YP_}{σ:St}{H:Hp}{s:VH}{fp:List Vh}(I:Inv X aa σ H s)(hf:∀ b∈fp,Yj X aa H b)(ho:∀ b∈fp,∃ o,s.heap.get? b=Vo o/\∀ v,o.data≠.cell v):Inv X (aa++Xpa fp s.heap) σ H s :=
 I.pins_of λp hp=>(mem_append.mp hp).elim (λz=>I.pin p (Ux _ z)) λz=>by
  obtain⟨hb,e⟩:=ZKc z;obtain⟨f0,f1,f2,_⟩:=hf p.1 hb;obtain⟨o,e',d⟩:=ho p.1 hb;rw[e]at e';cases e';exact⟨e,f0,f1,f2,d⟩
theorem Inv.unpinned{aa pl:YP_}{σ:St}{H:Hp}{s:VH}(I:Inv X (aa++pl) σ H s):Inv X aa σ H s:=I.pins_of λp hp=>I.pin p (Ux _ (VS _ hp))
theorem Zw{Um:Expr}{body:List V0}{wi:TI}{g:TG}{tb:TS}{pos:Pos}(hp:PassesOwn (VW X.prog X.w) X.A X.env X.xe)(hc:X.calm=true)(hi:PI X tg Um wi)(hg:PG X tg g)(hb:PSs X body tb)
 (hs:∀ x,foldedSetIterable Um X.env x=pure x:=by intro _;rfl):PS X (.For tg Um body [] pos) (Qvb wi g tb):=by
 intro aa s σ H D I h;refine wpAny_For (thn (hi aa s σ H _ I h) λv s1 h1=>thn h1 λmZ s2 h2=>?_) hs
 obtain⟨it,fp,tn,J,H2,e,I2,T,bC,f2,W,⟨m0,w0⟩,turn⟩:=h2;subst e;have gl:∀ {H':Hp},(∀ b∈fp,H' b=Vp)->∀ b∈fp,Yj X aa H' b:=λhn b hb=>⟨hn b hb,(f2 b hb).2⟩
 refine codeAny_forLoop_any (λn s'=>∃ i σ' H',Inv X aa σ' H' s'/\tn i s'.heap/\(∀ b∈fp,H' b=Vp)/\W i n σ' H') ?_ m0 ⟨0,σ,H2,I2,bC,λb hb=>(f2 b hb).1,w0⟩
 rintro n s3 ⟨i,σ3,H3,I3,bp,qF,w3⟩
 rcases turn i n σ3 H3 w3 with ⟨stop,qn⟩ | ⟨go,N,hN,step⟩
 ·refine Ug hp (thn (T.done X rfl rfl rfl hc i aa s3 σ3 H3 X.xe I3 (gl qF) bp stop) λr s4 hZ=>?_)
  obtain⟨hr,I4⟩:=hZ;subst hr;exact V9 ⟨σ3,H3,I4,qn⟩
 ·refine Ug hp (thn (T.item X rfl rfl rfl hc i aa s3 σ3 H3 X.xe I3 (gl qF) bp go) λr s4 hZ=>?_)
  obtain⟨u,hr,h4⟩:=hZ;subst hr;refine Ug hp (thn h4 λ_ s5 hZ=>?_)
  obtain⟨x,H5,I5,r5,y5,bX,m3⟩:=hZ;have m4:=I5.pinned (gl m3) (T.obj _ _ bX);refine Ug hp (thn (hg _ s5 σ3 H5 x u _ m4 r5 (step x H5 y5)) λ_ s6 hZ=>?_)
  obtain⟨σ6,H6,I6,q6⟩:=hZ;refine Ug hp (thn (hb _ s6 σ6 H6 _ I6 q6) λf s7 q7=>?_)
  have again:∀ {σ7:St} {H7:Hp},Inv X (aa++Xpa fp s5.heap) σ7 H7 s7->N σ7 H7->∃ m,m < n/\∃ i σ' H',Inv X aa σ' H' s7/\tn i s7.heap/\(∀ b∈fp,H' b=Vp)/\W i m σ' H':=λ{σ7 H7} I7 n7=>by
   obtain⟨m',hm,w7⟩:=hN σ7 H7 n7;refine⟨m',hm,i+1,σ7,H7,I7.unpinned,T.keep _ _ _ bX λb hb o e=>(I7.pin (b,o) (Ux _ (Ux _ (XQ hb e)))).1,λb hb=>?_,w7⟩
   obtain⟨o,e,d⟩:=T.obj _ _ bX b hb;exact(I7.pin (b,o) (Ux _ (Ux _ (XQ hb e)))).2.1
  cases f with
  | next=>obtain⟨σ7,H7,I7,n7⟩:=q7;exact again I7 n7
  | cont=>obtain⟨σ7,H7,I7,n7⟩:=q7;exact again I7 n7
  | brk=>obtain⟨σ7,H7,I7,q7⟩:=q7;exact⟨σ7,H7,I7.unpinned,q7⟩
  | ret v=>obtain⟨x7,σ7,H7,I7,r7,q7⟩:=q7;exact⟨x7,σ7,H7,I7.unpinned,r7,q7⟩
end
theorem J1c{K:VD}{a:Vh}{xs:List V}{g:TG}{tb:TS}{D:ZL}{σ:St}{H:Hp}(Pv:Nat->St->Hp->Prop)(h0:Pv 0 σ H)(hl:∀ i σ H,i<=xs.length->Pv i σ H->SqL K H a xs)
 (hs:∀ i x σ H,xs[i]?=Vo x->Pv i σ H->g x σ H λσ2 H2=>tb { D with nx:=Pv (i+1),ct:=Pv (i+1),bk:=D.nx } σ2 H2) (hd:∀ σ H,Pv xs.length σ H->D.nx σ H) :
 ∃ W:Nat->Nat->St->Hp->Prop,(∃ m,W 0 m σ H)/\∀ i m σ H,W i m σ H ->
  ((Itl K a).stop i H/\D.nx σ H)\/((Itl K a).go i H/\∃ N:St->Hp->Prop,(∀ σ' H',N σ' H'->∃ m',m' < m/\W (i+1) m' σ' H')/\∀ x H',(Itl K a).yld i H x H'->g x σ H' λσ2 H2=>tb { D with nx:=N,ct:=N,bk:=D.nx } σ2 H2):=by
 refine⟨λi m σ H=>m=xs.length - i/\i<=xs.length/\Pv i σ H,⟨xs.length,by simp,Uy _,h0⟩,?_⟩
 rintro i m σ H ⟨rfl,hi,p⟩;have q:=hl i σ H hi p
 by_cases ax:i < xs.length
 ·refine .inr ⟨⟨xs,xs[i],q,by simp[ax]⟩,Pv (i+1),λσ' H' p'=>⟨xs.length - (i+1),by lia,rfl,ax,p'⟩,λx H' y=>?_⟩
  obtain⟨e,y⟩:=y;subst e;exact hs i x σ _ (y xs q) p
 ·have e:i=xs.length:=by lia
  subst e;exact .inl ⟨⟨xs,q,Uu _⟩,hd σ H p⟩
theorem X6c{K:VD}{a:Vh}{xs:List V}{g:TG}{tb:TS}{D:ZL}{σ:St}{H:Hp}(Pv:Nat->St->Hp->Prop)(h0:Pv 0 σ H)(hl:∀ i σ H,i<=xs.length->Pv i σ H->SqT K H a xs)
 (hs:∀ i x σ H,xs[i]?=Vo x->Pv i σ H->g x σ H λσ2 H2=>tb { D with nx:=Pv (i+1),ct:=Pv (i+1),bk:=D.nx } σ2 H2) (hd:∀ σ H,Pv xs.length σ H->D.nx σ H) :
 ∃ W:Nat->Nat->St->Hp->Prop,(∃ m,W 0 m σ H)/\∀ i m σ H,W i m σ H ->
  ((Itt K a).stop i H/\D.nx σ H)\/((Itt K a).go i H/\∃ N:St->Hp->Prop,(∀ σ' H',N σ' H'->∃ m',m' < m/\W (i+1) m' σ' H')/\∀ x H',(Itt K a).yld i H x H'->g x σ H' λσ2 H2=>tb { D with nx:=N,ct:=N,bk:=D.nx } σ2 H2):=by
 refine⟨λi m σ H=>m=xs.length - i/\i<=xs.length/\Pv i σ H,⟨xs.length,by simp,Uy _,h0⟩,?_⟩
 rintro i m σ H ⟨rfl,hi,p⟩;have q:=hl i σ H hi p
 by_cases ax:i < xs.length
 ·refine .inr ⟨⟨xs,xs[i],q,by simp[ax]⟩,Pv (i+1),λσ' H' p'=>⟨xs.length - (i+1),by lia,rfl,ax,p'⟩,λx H' y=>?_⟩
  obtain⟨e,y⟩:=y;subst e;exact hs i x σ _ (y xs q) p
 ·have e:i=xs.length:=by lia
  subst e;exact .inl ⟨⟨xs,q,Uu _⟩,hd σ H p⟩
theorem ZLc{lo:Int}{n:Nat}{g:TG}{tb:TS}{D:ZL}{σ:St}{H:Hp}(Pv:Nat->St->Hp->Prop)(h0:Pv 0 σ H)
 (hs:∀ i σ H,i < n->Pv i σ H->g (.int (lo+i)) σ H λσ2 H2=>tb { D with nx:=Pv (i+1),ct:=Pv (i+1),bk:=D.nx } σ2 H2) (hd:∀ σ H,Pv n σ H->D.nx σ H) :
 ∃ W:Nat->Nat->St->Hp->Prop,(∃ m,W 0 m σ H)/\∀ i m σ H,W i m σ H ->
  ((Itr lo n).stop i H/\D.nx σ H)\/((Itr lo n).go i H/\∃ N:St->Hp->Prop,(∀ σ' H',N σ' H'->∃ m',m' < m/\W (i+1) m' σ' H')/\∀ x H',(Itr lo n).yld i H x H'->g x σ H' λσ2 H2=>tb { D with nx:=N,ct:=N,bk:=D.nx } σ2 H2):=by
 refine⟨λi m σ H=>m=n - i/\i<=n/\Pv i σ H,⟨n,by simp,Uy _,h0⟩,?_⟩
 rintro i m σ H ⟨rfl,hi,p⟩
 by_cases ax:i < n
 ·refine .inr ⟨ax,Pv (i+1),λσ' H' p'=>⟨n - (i+1),by lia,rfl,ax,p'⟩,λx H' y=>?_⟩
  obtain⟨e,y⟩:=y;subst e y;exact hs i σ _ ax p
 ·have e:i=n:=by lia
  subst e;exact .inl ⟨Uu _,hd σ H p⟩
abbrev R2:=V->V->Hp->VK->Prop
def OpR(X:Cx)(f:Va->Va->Sem Va)(r:R2):Prop :=
 ∀ (aa:YP_) (s:VH) (σ:St) (H:Hp) (x y:V) (v u:Va) (Q:VK),Inv X aa σ H s->QB x v->QB y u->r x y H Q ->
  VV (VW X.prog X.w) X.A (f v u) (EP X aa σ Q) X.xe s
def UnR(X:Cx)(f:Va->Sem Va)(r:V->Hp->VK->Prop):Prop :=
 ∀ (aa:YP_) (s:VH) (σ:St) (H:Hp) (x:V) (v:Va) (Q:VK),Inv X aa σ H s->QB x v->r x H Q ->
  VV (VW X.prog X.w) X.A (f v) (EP X aa σ Q) X.xe s
def JV(X:Cx)(f:Va)(r:List V->Hp->VK->Prop):Prop :=
 ∀ (aa:YP_) (s:VH) (σ:St) (H:Hp) (xs:List V) (us:List Va) (Q:VK),Inv X aa σ H s->Qz xs us->r xs H Q ->
  VV (VW X.prog X.w) X.A (Uz f us) (EP X aa σ Q) X.xe s
def YDd(X:Cx)(r:V->Hp->(Bool->Hp->Prop)->Prop):Prop :=
 ∀ (aa:YP_) (s:VH) (σ:St) (H:Hp) (x:V) (v:Va) (Q:Bool->Hp->Prop),Inv X aa σ H s->QB x v->r x H Q ->
  VV (VW X.prog X.w) X.A (truthy v) (TP X aa σ Q) X.xe s
def tOp(r:R2)(ta tb:TE):TE:=λσ H Q=>ta σ H λx H1=>tb σ H1 λy H2=>r x y H2 Q
def tUn(r:V->Hp->VK->Prop)(ta:TE):TE:=λσ H Q=>ta σ H λx H1=>r x H1 Q
def rI(C:Int->Int->Prop)(g:Int->Int->V):R2:=λx y H Q=>∃ i j,x=.int i/\y=.int j/\C i j/\Q (g i j) H
def rI0(g:Int->Int->V):R2:=λx y H Q=>∃ i j,x=.int i/\y=.int j/\Q (g i j) H
def rU(g:Int->V):V->Hp->VK->Prop:=λx H Q=>∃ i,x=.int i/\Q (g i) H
section
variable{X:Cx}{a b c:Expr}{ta tb tc:TE}{pos:Pos}
theorem ZQd(ha:PE X a ta)(hb:PE X b tb){aa:YP_}{s:VH}{σ:St}{H:Hp}{R:V->V->Hp->Prop}(I:Inv X aa σ H s)
 (h:ta σ H λx H1=>tb σ H1 λy H2=>R x y H2) {Q:YQ_} {f:Va->Va->Sem Va}
 (hf:∀ v u s2 x y H2,Inv X aa σ H2 s2->QB x v->QB y u->R x y H2->VV (VW X.prog X.w) X.A (f v u) Q X.xe s2) :
 VV (VW X.prog X.w) X.A (VX a X.env) (λv s₁=>VV (VW X.prog X.w) X.A (VX b X.env) (λu s₂=>VV (VW X.prog X.w) X.A (f v u) Q X.xe s₂) X.xe s₁) X.xe s:=by
 refine thn (ha aa s σ H _ I h) λv s1 hZ=>?_
 obtain⟨x,H1,I1,r1,q1⟩:=hZ;refine thn (hb aa s1 σ H1 _ I1 q1) λu s2 hZ=>?_
 obtain⟨y,H2,I2,r2,q2⟩:=hZ;exact hf v u s2 x y H2 I2 r1 r2 q2
theorem Qm{op:Operator}{r:R2}(ho:OpR X (UA op) r)(ha:PE X a ta)(hb:PE X b tb):PE X (.BinOp a op b pos) (tOp r ta tb):=by
 intro aa s σ H Q I h;exact wpAny_BinOp (ZQd ha hb I h λv u s2 x y H2 I2 rx ry q=>ho aa s2 σ H2 x y v u Q I2 rx ry q)
theorem J6b{op:UnaryOp}{r:V->Hp->VK->Prop}(ho:UnR X (unaryOp op) r)(ha:PE X a ta):PE X (.UnaryOp op a pos) (tUn r ta):=by
 intro aa s σ H Q I h;exact UnaryOp_ (thn (ha aa s σ H _ I h) λv s1 ⟨x,H1,I1,r1,q1⟩=>ho aa s1 σ H1 x v Q I1 r1 q1)
theorem opI{f:Va->Va->Sem Va}{C:Int->Int->Prop}{g:Int->Int->Int}
 (rule:∀ (i j:Int) (t u:Tok) (s:VH) (Q:YQ_) (E:YQ_),C i j->Q (.int (g i j) s.toks) { s with toks:=s.toks+1 }->VV (VW X.prog X.w) X.A (f (.int i t) (.int j u)) Q E s) :
 OpR X f (rI C λi j=>.int (g i j)):=by
 intro aa s σ H x y v u Q I rx ry h;obtain⟨i,j,rfl,rfl,hc,q⟩:=h;obtain⟨t,rfl⟩:=rx;obtain⟨t',rfl⟩:=ry;exact rule i j t t' s _ _ hc ⟨.int (g i j),H,I.tok _,⟨_,rfl⟩,q⟩
theorem ZRd{f:Va->Va->Sem Va}{g:Int->Int->Int}
 (rule:∀ (i j:Int) (t u:Tok) (s:VH) (Q:YQ_) (E:YQ_),Q (.int (g i j) s.toks) { s with toks:=s.toks+1 }->VV (VW X.prog X.w) X.A (f (.int i t) (.int j u)) Q E s) :
 OpR X f (rI0 λi j=>.int (g i j)):=by
 intro aa s σ H x y v u Q I rx ry h;obtain⟨i,j,rfl,rfl,q⟩:=h;obtain⟨t,rfl⟩:=rx;obtain⟨t',rfl⟩:=ry;exact rule i j t t' s _ _ ⟨.int (g i j),H,I.tok _,⟨_,rfl⟩,q⟩
theorem X7c{f:Va->Va->Sem Va}{g:Int->Int->Bool}
 (rule:∀ (i j:Int) (t u:Tok) (s:VH) (Q:YQ_) (E:YQ_),Q (.bool (g i j)) s->VV (VW X.prog X.w) X.A (f (.int i t) (.int j u)) Q E s) :
 OpR X f (rI0 λi j=>.bl (g i j)):=by
 intro aa s σ H x y v u Q I rx ry h;obtain⟨i,j,rfl,rfl,q⟩:=h;obtain⟨t,rfl⟩:=rx;obtain⟨t',rfl⟩:=ry;exact rule i j t t' s _ _ ⟨.bl (g i j),H,I,rfl,q⟩
def Z0a(i j:Int):Prop:=0 < j/\j < 1073741824
def Qwb(i j:Int):Prop:=0<=j/\j<=1000000/\i.natAbs < 2 ^ 64
def XFb(i j:Int):Prop:=(-(2 ^ 64) < i/\i < 2 ^ 64)\/(-(2 ^ 64) < j/\j < 2 ^ 64)
theorem XFb.ok{i j:Int}(h:XFb i j):IntMulOk i j:=by
 rcases h with ⟨h1,h2⟩ | ⟨h1,h2⟩
 ·exact .of_left (UB h1 h2)
 ·exact .of_right (UB h1 h2)
theorem XGb(k:Nat):(0:Int)<=2 ^ k:=by
 rw[two_pow_cast];exact Int.natCast_nonneg _
theorem QQ:OpR X (UA .Add) (rI0 λi j=>.int (i+j)):=ZRd λ_ _ _ _ _ _ _ q=>add_int q
theorem Ji:OpR X (UA .Sub) (rI0 λi j=>.int (i - j)):=ZRd λ_ _ _ _ _ _ _ q=>sub_int q
theorem ZP:OpR X (UA .FloorDiv) (rI Z0a λi j=>.int (i / j)):=opI λi j _ _ _ _ _ hc q=>by
 have h1:(0:Int) < j:=hc.1;have h2:j < 1073741824:=hc.2;exact floordiv_int #[0] (by rw[Int.fdiv_eq_ediv_of_nonneg i #[0]];exact q) (.inl (PyProof.noPylong_small #[0]))
theorem QF:OpR X (UA .Mod) (rI (λ_ j=>0 < j) λi j=>.int (i % j)):=opI λi j _ _ _ _ _ hc q=>by
 have h1:(0:Int) < j:=hc;exact mod_int' #[0] (by rw[Int.fmod_eq_emod_of_nonneg i #[0]];exact q)
theorem XR:OpR X (UA .Pow) (rI Qwb λi j=>.int (i ^ j.toNat)):=opI λ_ _ _ _ _ _ _ hc q=>pow_int_small hc.1 hc.2.1 hc.2.2 q
theorem J2c:OpR X (UA .RShift) (rI (λ_ j=>0<=j) λi j=>.int (i / 2 ^ j.toNat)):=opI λi j _ _ _ _ _ hc q =>
 rshift_int hc (by rw[Int.fdiv_eq_ediv_of_nonneg i (XGb _)];exact q)
theorem J3c:OpR X (UA .BitXor) (rI0 λi j=>.int (Builtin.bitXor i j)):=ZRd λ_ _ _ _ _ _ _ q=>xor_int q
theorem unI{f:Va->Sem Va}{g:Int->Int}
 (rule:∀ (i:Int) (t:Tok) (s:VH) (Q:YQ_) (E:YQ_),Q (.int (g i) s.toks) { s with toks:=s.toks+1 }->VV (VW X.prog X.w) X.A (f (.int i t)) Q E s) :
 UnR X f (rU λi=>.int (g i)):=by
 intro aa s σ H x v Q I rx h;obtain⟨i,rfl,q⟩:=h;obtain⟨t,rfl⟩:=rx;exact rule i t s _ _ ⟨.int (g i),H,I.tok _,⟨_,rfl⟩,q⟩
theorem Xqa:UnR X (unaryOp .USub) (rU λi=>.int (-i)):=unI λ_ _ _ _ _ q=>neg_int q
end
def QLa:V->V->Bool
 | .non,.non=>true | .non,.int _=>true | .int _,.non=>true | .non,.bl _=>true | .bl _,.non=>true | .non,.str _=>true | .str _,.non=>true
 | .int _,.int _=>true | .bl _,.bl _=>true | .str _,.str _=>true | .byt _,.byt _=>true
 | .int _,.str _=>true | .str _,.int _=>true | .bl _,.str _=>true | .str _,.bl _=>true
 | _,_=>false
theorem X8c:QLa .non .non=true:=rfl
theorem X9c{b:Int}:QLa .non (.int b)=true:=rfl
theorem Qad{a:Int}:QLa (.int a) .non=true:=rfl
theorem Qbd{b:Bool}:QLa .non (.bl b)=true:=rfl
theorem Qcd{a:Bool}:QLa (.bl a) .non=true:=rfl
theorem Qdd{b:Str}:QLa .non (.str b)=true:=rfl
theorem Qed{a:Str}:QLa (.str a) .non=true:=rfl
theorem Qfd{a:Int}{b:Int}:QLa (.int a) (.int b)=true:=rfl
theorem Qgd{a:Bool}{b:Bool}:QLa (.bl a) (.bl b)=true:=rfl
theorem Qhd{a:Str}{b:Str}:QLa (.str a) (.str b)=true:=rfl
theorem Qid{a:Int}{b:Str}:QLa (.int a) (.str b)=true:=rfl
theorem Qjd{a:Str}{b:Int}:QLa (.str a) (.int b)=true:=rfl
theorem Qkd{a:Bool}{b:Str}:QLa (.bl a) (.str b)=true:=rfl
theorem Qld{a:Str}{b:Bool}:QLa (.str a) (.bl b)=true:=rfl
def rEq:R2:=λx y H Q=>QLa x y=true/\Q (.bl (decide (x=y))) H
def rNe:R2:=λx y H Q=>QLa x y=true/\Q (.bl (!decide (x=y))) H
theorem QYc{i j:Int}:decide (V.int i=V.int j)=(i == j):=by
 rw[UC];simp
theorem J4c{i j:Bool}:decide (V.bl i=V.bl j)=(i == j):=by
 rw[UC];simp
theorem QZc{i j:Str}:decide (V.str i=V.str j)=(i == j):=by
 rw[UC];simp
theorem Q0c{i j:Array UInt8}:decide (V.byt i=V.byt j)=(i.toList == j.toList):=by
 rw[UC];cases i;cases j;simp
section
variable{X:Cx}{a b c:Expr}{ta tb tc:TE}{pos:Pos}
theorem QT{aa:YP_}{σ:St}{H:Hp}{s:VH}{Q:VK}{k k':Bool}(I:Inv X aa σ H s)(q:Q (.bl k) H)(e:k=k'):EP X aa σ Q (.bool k') s:=by
 subst e;exact⟨.bl k,H,I,rfl,q⟩
theorem ZK:OpR X (V2 .Eq) rEq:=by
 intro aa s σ H x y v u Q I rx ry h;obtain⟨hs,q⟩:=h;cases x with
 | non =>
  cases rx;cases y with
  | non=>cases ry;exact PySem.EqNone.eq_none_none (QT I q #[2])
  | bl j=>cases ry;exact PySem.EqNone.eq_none_bool (QT I q #[2])
  | int j=>obtain⟨t',rfl⟩:=ry;exact PySem.EqNone.eq_none_int (QT I q #[2])
  | str j=>obtain⟨t',rfl⟩:=ry;exact PySem.EqNone.eq_none_str (QT I q #[2])
  | _=>exact absurd (show false=true from hs) Uh
 | bl i =>
  cases rx;cases y with
  | non=>cases ry;exact PySem.EqNone.eq_bool_none (QT I q #[2])
  | bl j=>cases ry;exact eq_bool (QT I q J4c)
  | str j=>obtain⟨t',rfl⟩:=ry;exact PySem.EqMixed.eq_bool_str (QT I q #[2])
  | _=>exact absurd (show false=true from hs) Uh
 | int i =>
  obtain⟨t,rfl⟩:=rx;cases y with
  | non=>cases ry;exact PySem.EqNone.eq_int_none (QT I q #[2])
  | int j=>obtain⟨t',rfl⟩:=ry;exact eq_int (QT I q QYc)
  | str j=>obtain⟨t',rfl⟩:=ry;exact PySem.EqMixed.eq_int_str (QT I q #[2])
  | _=>exact absurd (show false=true from hs) Uh
 | str i =>
  obtain⟨t,rfl⟩:=rx;cases y with
  | non=>cases ry;exact PySem.EqNone.eq_str_none (QT I q #[2])
  | bl j=>cases ry;exact PySem.EqMixed.eq_str_bool (QT I q #[2])
  | int j=>obtain⟨t',rfl⟩:=ry;exact PySem.EqMixed.eq_str_int (QT I q #[2])
  | str j=>obtain⟨t',rfl⟩:=ry;exact eq_str (QT I q QZc)
  | _=>exact absurd (show false=true from hs) Uh
 | byt i =>
  obtain⟨t,rfl⟩:=rx;cases y with
  | byt j=>obtain⟨t',rfl⟩:=ry;exact W.eq_bytes (QT I q Q0c)
  | _=>exact absurd (show false=true from hs) Uh
 | _=>cases y <;> exact absurd (show false=true from hs) Uh
theorem JEa:OpR X (V2 .NotEq) rNe:=by
 intro aa s σ H x y v u Q I rx ry h;obtain⟨hs,q⟩:=h;cases x with
 | non =>
  cases rx;cases y with
  | non=>cases ry;exact PySem.EqNone.ne_none_none (QT I q #[2])
  | bl j=>cases ry;exact PySem.EqNone.ne_none_bool (QT I q #[2])
  | int j=>obtain⟨t',rfl⟩:=ry;exact PySem.EqNone.ne_none_int (QT I q #[2])
  | str j=>obtain⟨t',rfl⟩:=ry;exact PySem.EqNone.ne_none_str (QT I q #[2])
  | _=>exact absurd (show false=true from hs) Uh
 | bl i =>
  cases rx;cases y with
  | non=>cases ry;exact PySem.EqNone.ne_bool_none (QT I q #[2])
  | bl j=>cases ry;exact ne_bool (QT I q (congrArg not J4c))
  | str j=>obtain⟨t',rfl⟩:=ry;exact PySem.EqMixed.ne_bool_str (QT I q #[2])
  | _=>exact absurd (show false=true from hs) Uh
 | int i =>
  obtain⟨t,rfl⟩:=rx;cases y with
  | non=>cases ry;exact PySem.EqNone.ne_int_none (QT I q #[2])
  | int j=>obtain⟨t',rfl⟩:=ry;exact ne_int (QT I q (congrArg not QYc))
  | str j=>obtain⟨t',rfl⟩:=ry;exact PySem.EqMixed.ne_int_str (QT I q #[2])
  | _=>exact absurd (show false=true from hs) Uh
 | str i =>
  obtain⟨t,rfl⟩:=rx;cases y with
  | non=>cases ry;exact PySem.EqNone.ne_str_none (QT I q #[2])
  | bl j=>cases ry;exact PySem.EqMixed.ne_str_bool (QT I q #[2])
  | int j=>obtain⟨t',rfl⟩:=ry;exact PySem.EqMixed.ne_str_int (QT I q #[2])
  | str j=>obtain⟨t',rfl⟩:=ry;exact ne_str (QT I q (congrArg not QZc))
  | _=>exact absurd (show false=true from hs) Uh
 | byt i =>
  obtain⟨t,rfl⟩:=rx;cases y with
  | byt j=>obtain⟨t',rfl⟩:=ry;exact W.ne_bytes (QT I q (congrArg not Q0c))
  | _=>exact absurd (show false=true from hs) Uh
 | _=>cases y <;> exact absurd (show false=true from hs) Uh
theorem QMa:OpR X (V2 .Lt) (rI0 λi j=>.bl (decide (i < j))):=X7c λ_ _ _ _ _ _ _ q=>lt_int q
theorem Q1c:OpR X (V2 .LtE) (rI0 λi j=>.bl (decide (i<=j))):=X7c λ_ _ _ _ _ _ _ q=>le_int q
theorem Xra:OpR X (V2 .Gt) (rI0 λi j=>.bl (decide (j < i))):=X7c λ_ _ _ _ _ _ _ q=>gt_int q
theorem JXd:OpR X (V2 .GtE) (rI0 λi j=>.bl (decide (j<=i))):=X7c λ_ _ _ _ _ _ _ q=>ge_int q
theorem Xsa:OpR X (V2 .Is) (λx y H Q=>y=.non/\Q (.bl (decide (x=.non))) H):=by
 intro aa s σ H x y v u Q I rx ry h;obtain⟨rfl,q⟩:=h;cases ry;refine is_none_gen (QT I q ?_)
 cases x <;> first
  | (cases rx;rfl)
  | (obtain⟨t,rfl⟩:=rx;rfl)
theorem Q2c:OpR X (V2 .IsNot) (λx y H Q=>y=.non/\Q (.bl (!decide (x=.non))) H):=by
 intro aa s σ H x y v u Q I rx ry h;obtain⟨rfl,q⟩:=h;cases ry;refine isnot_none_gen (QT I q ?_)
 cases x <;> first
  | (cases rx;rfl)
  | (obtain⟨t,rfl⟩:=rx;rfl)
theorem Qv(b:Expr){op:CmpOp}(h:op≠.In:=by decide)(h2:op≠.NotIn:=by decide):V3 op b=false:=by
 have e1:(op == CmpOp.In)=false:=by cases op <;> first | rfl | exact absurd rfl h
 have e2:(op == CmpOp.NotIn)=false:=by cases op <;> first | rfl | exact absurd rfl h2
 cases b <;> simp[V3,e1,e2]
theorem Y4{op:CmpOp}{r:R2}(ho:OpR X (V2 op) r)(ha:PE X a ta)(hb:PE X b tb)(hm:V3 op b=false):PE X (.Compare a [op] [b] pos) (tOp r ta tb):=by
 intro aa s σ H Q I h;exact wpAny_Compare1 (ZQd ha hb I h λv u s2 x y H2 I2 rx ry q=>ho aa s2 σ H2 x y v u Q I2 rx ry q) hm
def J5c(t:TE):TT:=λσ H Q=>t σ H λx H'=>∃ k,x=.bl k/\Q k H'
theorem Qs{op:CmpOp}{r:R2}(ho:OpR X (V2 op) r)(ha:PE X a ta)(hb:PE X b tb)(hm:V3 op b=false):PT X (.Compare a [op] [b] pos) (J5c (tOp r ta tb)):=by
 intro aa s σ H Q I h;refine wpAny_isTrue_Compare1 (thn (ha aa s σ H _ I h) λv s1 ⟨x,H1,I1,r1,q1⟩=>thn (hb aa s1 σ H1 _ I1 q1) λu s2 ⟨y,H2,I2,r2,q2⟩ =>
  thn (ho aa s2 σ H2 x y v u _ I2 r1 r2 q2) λc s3 ⟨z,H3,I3,r3,k,e,q3⟩=>?_) hm
 subst e;cases r3;exact V4 ⟨H3,I3,q3⟩
def XHb(r r':R2)(ta tb tc:TE):TE:=λσ H Q=>ta σ H λx H1=>tb σ H1 λy H2=>r x y H2 λz H3=>∃ k,z=.bl k /\
 (if k=true then tc σ H3 λw' H4=>r' y w' H4 Q else Q (.bl false) H3)
theorem JFa{op gm:CmpOp}{r r':R2}(ho:OpR X (V2 op) r)(aN:OpR X (V2 gm) r')(ha:PE X a ta)(hb:PE X b tb)(hc:PE X c tc)
 (hm:lastMarks [op,gm] [b,c]=false:=by with_unfolding_all rfl):PE X (.Compare a [op,gm] [b,c] pos) (XHb r r' ta tb tc):=by
 intro aa s σ H Q I h;refine Compare_chain (thn (ha aa s σ H _ I h) λv s1 ⟨x,H1,I1,r1,q1⟩=>chain_link (thn (hb aa s1 σ H1 _ I1 q1) λu s2 ⟨y,H2,I2,r2,q2⟩ =>
  thn (ho aa s2 σ H2 x y v u _ I2 r1 r2 q2) λd s3 ⟨z,H3,I3,r3,k,e,q3⟩=>?_)) hm
 subst e;cases r3;refine V4 ?_
 cases k with
 | false=>exact ite_ff ⟨.bl false,H3,I3,rfl,q3⟩
 | true=>exact ite_tt (chain_last (thn (hc aa s3 σ H3 _ I3 q3) λw' s4 ⟨z',H4,I4,r4,q4⟩=>aN aa s4 σ H4 y z' u w' Q I4 r2 r4 q4))
theorem J7b{op gm:CmpOp}{r r':R2}(ho:OpR X (V2 op) r)(aN:OpR X (V2 gm) r')(ha:PE X a ta)(hb:PE X b tb)(hc:PE X c tc)
 (hm:lastMarks [op,gm] [b,c]=false:=by with_unfolding_all rfl):PT X (.Compare a [op,gm] [b,c] pos) (J5c (XHb r r' ta tb tc)):=by
 intro aa s σ H Q I h;refine isTrue_chain (thn (ha aa s σ H _ I h) λv s1 ⟨x,H1,I1,r1,q1⟩=>test_link (thn (hb aa s1 σ H1 _ I1 q1) λu s2 ⟨y,H2,I2,r2,q2⟩ =>
  thn (ho aa s2 σ H2 x y v u _ I2 r1 r2 q2) λd s3 ⟨z,H3,I3,r3,k,e,q3⟩=>?_)) hm
 subst e;cases r3;refine V4 ?_
 cases k with
 | false =>
  obtain⟨k',e',q'⟩:=q3;cases e';exact ite_ff ⟨H3,I3,q'⟩
 | true =>
  refine ite_tt (test_last (thn (hc aa s3 σ H3 _ I3 q3) λw' s4 ⟨z',H4,I4,r4,q4⟩=>thn (aN aa s4 σ H4 y z' u w' _ I4 r2 r4 q4) λd' s5 hZ=>?_))
  obtain⟨z2,H5,I5,r5,k2,e2,q5⟩:=hZ;subst e2;cases r5;exact V4 ⟨H5,I5,q5⟩
def JYd(K:VD)(x:V)(H:Hp)(k:Bool):Prop :=
 match x with
 | .non=>k=false
 | .bl b=>k=b
 | .int i=>k=(i != 0)
 | .str y=>y.length<=Vs/\k=((y.length:Int) != 0)
 | .byt y=>y.size<=Vs/\k=((y.size:Int) != 0)
 | .ref p=>(∃ xs,SqL K H p xs/\k=!xs.isEmpty)\/(∃ xs,SqT K H p xs/\k=!xs.isEmpty)\/∃ ac,H p=Vo (.dK ac)/\k=!ac.isEmpty
 | _=>False
theorem XIb{κ:Type}{ac:List (κ×V)}{vs:List (κ×Va)}(r:KV ac vs):(!vs.isEmpty)=!ac.isEmpty:=by
 cases r <;> rfl
theorem Xta{xs:List V}{ag:List Va}(r:Qz xs ag):(!ag.toArray.isEmpty)=!xs.isEmpty:=by
 cases r <;> simp
theorem Z1a:(Vs:Nat) < 2 ^ 63:=by rw[UD];decide
theorem ZSd:YDd X (λx H Q=>∃ k,JYd X.K x H k/\Q k H):=by
 intro aa s σ H x v Q I rx h;obtain⟨k,e,q⟩:=h;have hl:=Z1a;have hs:Vs=16777216:=UD;cases x with
 | non =>
  cases rx;have e':k=false:=e;subst e';exact truthy_none ⟨H,I,q⟩
 | bl b =>
  cases rx;have e':k=b:=e;subst e';exact V4 ⟨H,I,q⟩
 | int i =>
  obtain⟨t,rfl⟩:=rx;have e':k=(i != 0):=e;subst e';exact PySem.P.truthy_int ⟨H,I,q⟩
 | str y =>
  obtain⟨t,rfl⟩:=rx;obtain⟨hy,e'⟩:y.length<=Vs/\k=((y.length:Int) != 0):=e;subst e';exact PySem.P.truthy_str #[0] ⟨H,I.tok _,q⟩
 | byt y =>
  obtain⟨t,rfl⟩:=rx;obtain⟨hy,e'⟩:y.size<=Vs/\k=((y.size:Int) != 0):=e;subst e';exact W.truthy_bytes #[0] ⟨H,I.tok _,q⟩
 | ref p =>
  cases rx;have e':(∃ xs,SqL X.K H p xs/\k=!xs.isEmpty)\/(∃ xs,SqT X.K H p xs/\k=!xs.isEmpty)\/∃ ac,H p=Vo (.dK ac)/\k=!ac.isEmpty:=e
  rcases e' with ⟨xs,hx,e'⟩ | ⟨xs,hx,e'⟩ | ⟨ac,hx,e'⟩
  ·subst e'
   obtain⟨ag,r,pl,hz⟩:=I.list hx;have av:=r.length;exact wpAny_truthy_list pl.isList (by simp only[UE];lia) ⟨H,I.tok _,by rw[Xta r];exact q⟩
  ·subst e'
   obtain⟨ag,r,pl,hz⟩:=I.tuple hx;have av:=r.length;exact truthy_tuple pl (by simp only[UE];lia) ⟨H,I.tok _,by rw[Xta r];exact q⟩
  ·subst e'
   obtain⟨hz,hS,vs,r,m⟩:ac.length<=Vs/\(p == Vu)=false/\∃ vs,KV ac vs/\s.heap.DictOf (QP X.prog X.w) p vs:=I.hok p _ hx;have av:ac.length=vs.length:=Vn r;exact wpAny_truthy_dict hS m #[0] ⟨H,I.tok _,by rw[XIb r];exact q⟩
 | _=>exact(show False from e).elim
theorem Xua(ha:PE X a ta)(he:∀ bg,isTrue a X.env bg=(do let v <- bg;V5 a.pos;V6 [v] (truthy v))) :
 PT X a (λσ H Q=>ta σ H λx H'=>∃ k,JYd X.K x H' k/\Q k H'):=by
 intro aa s σ H Q I h;exact isTrue_plain (thn (ha aa s σ H _ I h) λv s1 ⟨x,H1,I1,r1,q1⟩=>ZSd aa s1 σ H1 x v Q I1 r1 q1) (he _)
theorem Xva:OpR X (UA .Add) (λx y H Q=>∃ i j,x=.str i/\y=.str j/\i.length+j.length<=Vs/\Q (.str (i++j)) H):=by
 intro aa s σ H x y v u Q I rx ry h;obtain⟨i,j,rfl,rfl,hz,q⟩:=h;obtain⟨t,rfl⟩:=rx;obtain⟨t',rfl⟩:=ry;exact add_str (λt' tk=>⟨.str (i++j),H,I.tok _,⟨_,rfl⟩,q⟩) hz
theorem Y5{x:V}{us:List Va}(r:Qz [x] us):∃ u,us=[u]/\QB x u:=by
 cases r with
 | cons r1 r2=>cases r2;exact⟨_,rfl,r1⟩
theorem Q3c{x y:V}{us:List Va}(r:Qz [x,y] us):∃ u w',us=[u,w']/\QB x u/\QB y w':=by
 cases r with
 | cons r1 r2 =>
  cases r2 with
  | cons r3 r4=>cases r4;exact⟨_,_,rfl,r1,r3⟩
theorem Q8b(hc:X.calm=true):JV X (.builtin "max") (λxs H Q=>∃ i j,xs=[.int i,.int j]/\Q (.int (if j > i then j else i)) H):=by
 intro aa s σ H xs us Q I r h;obtain⟨i,j,rfl,q⟩:=h;obtain⟨u,w',rfl,⟨t,rfl⟩,⟨t',rfl⟩⟩:=Q3c r;refine max_two_ints (I.ok.hd hc) λh' tk k=>⟨_,H,I.kept k,?_,q⟩
 by_cases hj:j > i
 ·rw[if_pos hj,if_pos hj];exact⟨_,rfl⟩
 ·rw[if_neg hj,if_neg hj];exact⟨_,rfl⟩
theorem ZMc(hc:X.calm=true):JV X (.builtin "min") (λxs H Q=>∃ i j,xs=[.int i,.int j]/\Q (.int (if j < i then j else i)) H):=by
 intro aa s σ H xs us Q I r h;obtain⟨i,j,rfl,q⟩:=h;obtain⟨u,w',rfl,⟨t,rfl⟩,⟨t',rfl⟩⟩:=Q3c r;refine min_two_ints (I.ok.hd hc) λh' tk k=>⟨_,H,I.kept k,?_,q⟩
 by_cases hj:j < i
 ·rw[if_pos hj,if_pos hj];exact⟨_,rfl⟩
 ·rw[if_neg hj,if_neg hj];exact⟨_,rfl⟩
theorem J8b:JV X (.builtin "ord") (λxs H Q=>∃ x,xs=[.str x]/\x.length=1/\Q (.int (x.cps.getD 0 0:Nat)) H):=by
 intro aa s σ H xs us Q I r h;obtain⟨x,rfl,hz,q⟩:=h;obtain⟨u,rfl,t,rfl⟩:=Y5 r;exact ord_of_one hz ⟨.int _,H,I.tok _,⟨_,rfl⟩,q⟩
end
structure XJb(h:Vq)(x dx C:Vh)(mA:Str->Option Va):Prop where
 obj:h.get? x=Vo (Vw C dx)
 ns:h.Ns1 dx mA
 ne:dx≠x
theorem ZNc{h:Vq}{dx:Vh}{mA:Str->Option Va}(n:h.Ns1 dx mA):∃ od,h.get? dx=Vo od/\∀ name,W.lookIn name od=Vo (mA name):=by
 obtain⟨o,es,ep,ho,hd,hk,_,hm⟩:=n;refine⟨o,ho,λname=>?_⟩
 have e:=hm name;unfold nsFind findBy at e;rw[<- Array.find?_toList]at e
 unfold W.lookIn;rw[hd];dsimp only
 split
 ·rename_i y q
  rw[q]at e;exact congrArg Vo e
 ·rename_i q
  rw[q]at e;have a:es.toList.any (·.refKey)=false:=by
   rw[any_eq_false];intro y hy;obtain⟨z,t,cZ⟩:=hk y (Array.mem_toList_iff.mp hy);simp[DictEntry.refKey,cZ]
  have a':¬ es.toList.any (·.refKey)=true:=by rw[a];exact Uh
  rw[if_neg a'];exact congrArg Vo e
theorem XJb.look{h:Vq}{x dx C:Vh}{mA:Str->Option Va}(I:XJb h x dx C mA):∃ od,W.InstAt h x (Vw C dx) C (Vo od)/\∀ name,W.lookIn name od=Vo (mA name) :=
 let ⟨od,ho,hl⟩:=ZNc I.ns
 ⟨od,⟨I.obj,rfl,rfl,ho⟩,hl⟩
section
variable{prog:Vg}{w:Vb}{A:VG}{E:YQ_}{s:VH}{K:VD}{x dx C f:Vh}{mA:Str->Option Va}{name:Str}{v:Va}
theorem Qmd{eI:Bool}{Q:YQ_}(X:K.In s.heap)(I:XJb s.heap x dx C mA)(hg:W.plainGet K C name=true)(hh:W.hasDictIn K C=true)
 (ha:UF K (.ref C) name=Vo Vp) (hv:mA name=Vo v) (fz:W.handedIn v=true) (h:Q v { s with toks:=s.toks+1 }) :
 VV (VW prog w) A (getAttr (.ref x) name eI) Q E s:=by
 obtain⟨od,J,hl⟩:=I.look;exact W.get_value X J (W.plainGet_of hg).1 (W.findObj_own hh ha rfl (by rw[hl,hv])) fz h
theorem J6c{pl:Sem Bool}{Q:Va×List Va->VH->Prop}(X:K.In s.heap)(I:XJb s.heap x dx C mA)(hg:W.plainGet K C name=true)
 (hf:UF K (.ref C) name=Vo (Vo (.ref f))) (ht:UG K (.ref f)=true) (hv:mA name=Vp) (h:Q (.ref f,[.ref x]) s) :
 VV (VW prog w) A (UH (.ref x) name pl) Q E s:=by
 obtain⟨od,J,hl⟩:=I.look;exact W.method_fn X J (W.plainGet_of hg).1 (W.plainGet_of hg).2 hf (beq_iff_eq.mp ht) (by show(W.lookIn name od).map (·.isSome)=Vo false;rw[hl,hv];rfl) h
theorem Qnd{ns:List Str}{Q:Unit->VH->Prop}(X:K.In s.heap)(I:XJb s.heap x dx C mA)
 (hs:UF K (.ref C) "__setattr__"=Vo (Vo (.builtin "object.__setattr__"))) (hp:W.plainOver K C=true) (ht:W.takerIn K C name=Vo Vp) (hh:W.hasDictIn K C=true)
 (hw:Vx mA ns) (hsz:ns.length<=Vs)
 (h:∀ h',XJb h' x dx C (λy=>if y=name then Vo v else mA y)->VU dx s.heap h'->Q () { s with heap:=h',toks:=s.toks+2 }) :
 VV (VW prog w) A (setAttr (.ref x) name v) Q E s:=by
 obtain⟨od,J,hl⟩:=I.look;refine W.set_plain X J hs (W.osa_open (s:={ s with toks:=s.toks+1 }) (r:=Vp) X J hp ht λb=>?_)
 obtain⟨cd,hc,bo⟩:=W.any_some hh;have hx:s.heap.get? x=Vo ⟨.ref C,Vo dx,.plain,#[]⟩:=I.obj;refine Ud (Uo (Ud (Ud (wpAny_loadPart hx (Ud (W.Looks.here (s:={ s with toks:=s.toks+1 }) (W.looks_clsIn X hc) ?_))))))
 rw[bo];refine Uo (a:=Vo dx) (Ud (Uo (Ud ?_)))
 refine wpAny_nsSet1 (s:={ s with toks:=s.toks+1 }) I.ns λh' iR fw=>?_
 obtain⟨oD,vD,vE,m5,m7,m8⟩:=iR.count (PySem.Within.cons name v hw);refine Ud (wpAny_lookBehind m5 (by rw[m7];exact pastItsLine_dict (VJ m8 (by rw[UI];lia))) ?_)
 exact Uo (h _ ⟨(fw.2 _ (VR I.ne)).trans I.obj,iR,I.ne⟩ fw)
theorem J7c{R:UJ->VH->Prop}{vs:List Va}{kw:List (Str×Va)}(X:K.In s.heap)(hm:UK K C=true)
 (hi:UF K (.ref C) "__init__"=Vo (Vo (.ref f))) (hf:W.typeIn K (.ref f)=Vo (.type "function"))
 (h:UL (VW prog w) (A.under (.builtin "type.__call__" ⟨.ref C::vs,kw⟩)) (.call (.ref f) ⟨.ref (s.heap.objs.size+1)::vs,kw⟩) (W.InitBack (s.heap.objs.size+1) R)
  { s with heap:=(s.heap.push UM).push (Vw C s.heap.objs.size) }) :
 UL (VW prog w) A (.call (.ref C) ⟨vs,kw⟩) R s:=by
 obtain⟨hh,g,d,t,os⟩:=s;exact W.make_core (W.makes_of X hm) (W.looks_findIn X hi) (λself=>W.bind_fn X self hf) (.inl rfl) h
end
def ZW(f:Str)(v:V):List (Str×V)->List (Str×V)
 | []=>[(f,v)]
 | (g,x)::r=>if g=f then (g,v)::r else (g,x)::ZW f v r
theorem YJa(f g:Str)(v:V):∀ fs:List (Str×V),(ZW f v fs).lookup g=if g=f then Vo v else fs.lookup g
 | []=>by
  show UN g [(f,v)]=_
  by_cases h:g=f
  ·have hb:(g == f)=true:=beq_iff_eq.mpr h
   simp only[UN,hb,if_pos h]
  ·have hb:(g == f)=false:=beq_eq_false_iff_ne.mpr h
   simp only[UN,hb,if_neg h]
 | (k,x)::r=>by
  have ih:=YJa f g v r;rw[show ZW f v ((k,x)::r)=(if k=f then (k,v)::r else (k,x)::ZW f v r) from rfl]
  by_cases hk:k=f
  ·rw[if_pos hk]
   by_cases h:g=k
   ·have hb:(g == k)=true:=beq_iff_eq.mpr h
    simp only[UN,hb,if_pos (h.trans hk)]
   ·have hb:(g == k)=false:=beq_eq_false_iff_ne.mpr h
    simp only[UN,hb,if_neg (λe:g=f=>h (e.trans hk.symm))]
  ·rw[if_neg hk]
   by_cases h:g=k
   ·have hb:(g == k)=true:=beq_iff_eq.mpr h
    simp only[UN,hb,if_neg (λe:g=f=>hk (h.symm.trans e))]
   ·have hb:(g == k)=false:=beq_eq_false_iff_ne.mpr h
    simp only[UN,hb];exact ih
theorem Yba(f:Str)(v:V):∀ fs:List (Str×V),f∈(ZW f v fs).map (·.1)/\∀ g,g∈fs.map (·.1)->g∈(ZW f v fs).map (·.1)
 | []=>⟨by simp[ZW],λg h=>by simp at h⟩
 | (k,x)::r=>by
  obtain⟨i1,i2⟩:=Yba f v r;rw[show ZW f v ((k,x)::r)=(if k=f then (k,v)::r else (k,x)::ZW f v r) from rfl]
  by_cases hk:k=f
  ·rw[if_pos hk]
   subst hk;exact⟨by simp,λg h=>by simpa using h⟩
  ·rw[if_neg hk]
   refine⟨?_,λg h=>?_⟩
   ·rw[UO]
    exact VO _ i1
   ·rw[UO]at h ⊢
    rcases mem_cons.mp h with e | e
    ·exact mem_cons.mpr (.inl e)
    ·exact VO _ (i2 g e)
theorem YKa(f:Str)(v:V):∀ fs:List (Str×V),(ZW f v fs).length<=fs.length+1
 | []=>by simp[ZW]
 | (k,x)::r=>by
  have ih:=YKa f v r;rw[show ZW f v ((k,x)::r)=(if k=f then (k,v)::r else (k,x)::ZW f v r) from rfl]
  by_cases hk:k=f
  ·rw[if_pos hk,UI,UI];lia
  ·rw[if_neg hk,UI,UI];lia
theorem Yh.some_of{v:V}{o:Option Va}(r:Yh (Vo v) o):∃ u,o=Vo u/\QB v u:=by
 cases o with
 | none=>exact(show False from r).elim
 | some u=>exact⟨u,rfl,r⟩
theorem Yh.none_of{o:Option Va}(r:Yh Vp o):o=Vp:=by
 cases o with
 | none=>rfl
 | some u=>exact(show False from r).elim
theorem ZOc{v:V}{u:Va}(r:QB v u):W.handedIn u=true:=by
 cases v with
 | non=>cases (show u=Vi from r);rfl
 | bl b=>cases (show u=Vj b from r);rfl
 | int i=>obtain⟨t,e⟩:=(show ∃ t,u=Vd i t from r);cases e;rfl
 | str x=>obtain⟨t,e⟩:=(show ∃ t,u=Vf x t from r);cases e;rfl
 | byt b=>obtain⟨t,e⟩:=(show ∃ t,u=Value.bytes b t from r);cases e;rfl
 | flt b=>obtain⟨t,e⟩:=(show ∃ t,u=Value.float b t from r);cases e;rfl
 | ref a=>cases (show u=Vk a from r);rfl
 | ty n=>cases (show u=Vl n from r);rfl
section
variable{P:Vg}{w:Vb}{H H':Hp}{h h':Vq}{a C dx:Vh}{fs dQ:List (Str×V)}
theorem Xaa(hok:HOk P w H h)(e:H a=Vo (.ins C dx fs)):∃ mA,XJb h a dx C mA/\(∀ f,Yh (fs.lookup f) (mA f))/\Vx mA (fs.map (·.1))/\fs.length<=1000/\H dx=Vo (.own a):=by
 obtain⟨d,z,ne,ob,mA,n,r,q⟩:=(show QN P w H h a (.ins C dx fs) from hok a _ e)
 exact⟨mA,⟨ob,n,ne⟩,r,q,z,d⟩
end
structure Cls(K:VD)(C:Vh):Prop where
 pg:W.plainGet K C Str.empty=true
 hd:W.hasDictIn K C=true
 po:W.plainOver K C=true
 sa:UF K (.ref C) "__setattr__"=Vo (Vo (.builtin "object.__setattr__"))
theorem Cls.get{K:VD}{C:Vh}(c:Cls K C)(f:Str):W.plainGet K C f=true:=c.pg
def Jv(K:VD)(C:Vh)(f:Str):Prop:=UF K (.ref C) f=Vo Vp
theorem Jv.taker{K:VD}{C:Vh}{f:Str}(n:Jv K C f):W.takerIn K C f=Vo Vp:=by
 unfold W.takerIn;rw[show UF K (.ref C) f=Vo Vp from n]
 rfl
structure JZd(K:VD)(C:Vh)(m:Str)(f:Vh):Prop where
 at_:UF K (.ref C) m=Vo (Vo (.ref f))
 fn:UG K (.ref f)=true
 kp:UP K (.ref f)=true
section
variable{X:Cx}{aa:YP_}{σ:St}{H:Hp}{s:VH}{a C dx:Vh}{fs:List (Str×V)}{f:Str}{v:V}{A:VG}{E:YQ_}
theorem XKb{b:Bool}{Q:YQ_}(I:Inv X aa σ H s)(e:H a=Vo (.ins C dx fs))(c:Cls X.K C)(n:Jv X.K C f)(l:fs.lookup f=Vo v)
 (h:∀ u s',Inv X aa σ H s'->QB v u->Q u s'):VV (VW X.prog X.w) A (getAttr (.ref a) f b) Q E s:=by
 obtain⟨mA,O,r,_,_,_⟩:=Xaa I.hok e;obtain⟨u,hu,ru⟩:=Yh.some_of (v:=v) (o:=mA f) (by rw[<- l];exact r f)
 exact Qmd I.kIn O (c.get f) c.hd n hu (ZOc ru) (h u _ (I.tok _) ru)
theorem Z2a{m:Str}{g:Vh}{pl:Sem Bool}{Q:Va×List Va->VH->Prop}(I:Inv X aa σ H s)(e:H a=Vo (.ins C dx fs))(c:Cls X.K C)(k:JZd X.K C m g)(l:fs.lookup m=Vp)
 (h:Q (.ref g,[.ref a]) s):VV (VW X.prog X.w) A (UH (.ref a) m pl) Q E s:=by
 obtain⟨mA,O,r,_,_,_⟩:=Xaa I.hok e;have hn:mA m=Vp:=Yh.none_of (by rw[<- l];exact r m)
 exact J6c I.kIn O (c.get m) k.at_ k.fn hn h
theorem XLb{y:V}{u:Va}{Q:Unit->VH->Prop}(I:Inv X aa σ H s)(e:H a=Vo (.ins C dx fs))(c:Cls X.K C)(n:Jv X.K C f)(hl:fs.length < 1000)(ry:QB y u)
 (h:∀ s',Inv X aa σ (upd H a (.ins C dx (ZW f y fs))) s'->Q () s'):VV (VW X.prog X.w) A (setAttr (.ref a) f u) Q E s:=by
 obtain⟨mA,O,r,wi,_,ho⟩:=Xaa I.hok e;have hz:(fs.map (·.1)).length<=Vs:=by rw[UQ,UD];lia
 refine Qnd I.kIn O c.sa c.po n.taker c.hd wi hz λh' O' sb=>h _ ?_
 have hd:∃ o,h'.get? dx=Vo o:=let ⟨o,_,_,e',_⟩:=O'.ns;⟨o,e'⟩
 refine I.write (x:=a) (e:=dx) (by rw[e];exact UR) (.inr ho) (λb q hb z=>(sb.2 b hb).trans z) hd ?_
 refine⟨by rw[Qh O.ne];exact ho,?_,O.ne,O'.obj,_,O'.ns,λg=>?_,λg hg=>?_⟩
 ·have:=YKa f y fs;lia
 ·show Yh ((ZW f y fs).lookup g) (if g=f then Vo u else mA g)
  rw[YJa]
  by_cases q:g=f
  ·rw[if_pos q,if_pos q];exact ry
  ·rw[if_neg q,if_neg q];exact r g
 ·by_cases q:g=f
  ·rw[q];exact(Yba f y fs).1
  ·refine(Yba f y fs).2 g (wi g λz=>hg ?_)
   show(if g=f then Vo u else mA g)=Vp
   rw[if_neg q];exact z
theorem Inv.made(I:Inv X aa σ H s):Inv X aa σ (upd (upd H s.heap.objs.size (.own (s.heap.objs.size+1))) (s.heap.objs.size+1) (.ins C s.heap.objs.size []))
 { s with heap:=(s.heap.push UM).push (Vw C s.heap.objs.size) }:=by
 have e1:(s.heap.push UM).get? s.heap.objs.size=Vo UM:=Ut s.heap rfl
 have e2:((s.heap.push UM).push (Vw C s.heap.objs.size)).get? (s.heap.objs.size+1)=Vo (Vw C s.heap.objs.size):=by
  have:=Ut (s.heap.push UM) (o:=Vw C s.heap.objs.size) rfl
  rwa [US]at this
 have e3:(s.heap.push UM).Ns s.heap.objs.size (λ_=>Vp):=⟨UM,#[],_,e1,rfl,(λe he=>absurd he #[2]),λ_=>rfl⟩
 have I1:=I.laid (a:=s.heap.objs.size) (o:=.own (s.heap.objs.size+1)) (h':=s.heap.push UM) (t':=s.toks) (λb u q=>Us _ q) (Uu _) ⟨_,e1⟩
 refine I1.laid (a:=s.heap.objs.size+1) (o:=.ins C s.heap.objs.size []) (t':=s.toks) (λb u q=>Us _ q) (Nat.le_of_eq (US _ _)) ?_
 have ne:s.heap.objs.size≠s.heap.objs.size+1:=VB (UT _);refine⟨by rw[Qh ne,Qa],Uy _,ne,e2,λ_=>Vp,(Heap.Ns1.of_empty e3).at λo q=>Us _ q,λ_=>UR,λy hy=>absurd rfl hy⟩
theorem Qod{prog:Vg}{w:Vb}{env:Env}{e:Expr}{f:Str}{pos:Pos}{s:VH}{Q:YQ_}(hb:UU e f env (VX e env)=VX e env)
 (h:VV (VW prog w) A (VX e env) (λo s₁=>VV (VW prog w) A (getAttr o f true) Q E s₁) E s):VV (VW prog w) A (VX (.Attribute e f pos) env) Q E s :=
 Attribute_any_ h (by rw[arm_eval_Attribute,hb])
end
def Qpd(K:VD)(ta:TE)(f:Str):TE:=λσ H Q=>ta σ H λx H1=>∃ a C dx fs v,x=.ref a/\H1 a=Vo (.ins C dx fs)/\Cls K C/\Jv K C f/\fs.lookup f=Vo v/\Q v H1
def J0d(K:VD)(ta tv:TE)(f:Str):TS:=λD σ H=>tv σ H λy H1=>ta σ H1 λx H2=>∃ a C dx fs,x=.ref a/\H2 a=Vo (.ins C dx fs)/\Cls K C/\Jv K C f/\fs.length < 1000 /\
 D.nx σ (upd H2 a (.ins C dx (ZW f y fs)))
section
variable{X:Cx}{o e value:Expr}{f:Str}{pos aH bq:Pos}{ta tv:TE}
theorem Ze(he:PE X e ta)(hb:UU e f X.env (VX e X.env)=VX e X.env):PE X (.Attribute e f pos) (Qpd X.K ta f):=by
 intro aa s σ H Q I h;refine Qod hb (thn (he aa s σ H _ I h) λu s1 hZ=>?_)
 obtain⟨x,H1,I1,rx,a,C,dx,fs,v,ex,ea,c,n,l,q⟩:=hZ;subst ex;obtain rfl:u=Vk a:=rx;exact XKb I1 ea c n l λu' s2 I2 ru=>⟨v,H1,I2,ru,q⟩
theorem QNa(ha:PE X o ta)(hv:PE X value tv)(hs:Ua value (Vo (.Attribute o f aH)) pos.line X.env=pure false):PS X (.Assign [.Attribute o f aH] value pos) (J0d X.K ta tv f):=by
 intro aa s σ H D I h;refine plainObj_wpAny_Assign_Attribute (thn (hv aa s σ H _ I h) λu s1 ⟨y,H1,I1,ry,q⟩=>thn (ha aa s1 σ H1 _ I1 q) λov s2 hZ=>?_) hs
 obtain⟨x,H2,I2,rx,a,C,dx,fs,ex,ea,c,n,l,q2⟩:=hZ;subst ex;obtain rfl:ov=Vk a:=rx;exact XLb I2 ea c n l ry λs3 I3=>⟨σ,_,I3,q2⟩
end
section
variable{X:Cx}{aa:YP_}{σ:St}{H:Hp}{s:VH}{A:VG}{E:YQ_}{Q:YQ_}{c:Va}{b:Bool}
inductive JGa(K:VD)(H:Hp):V->Va->Prop where
 | non:JGa K H .non (.type "NoneType")
 | bl (x:Bool):JGa K H (.bl x) (.type "bool")
 | int (i:Int):JGa K H (.int i) (.type "int")
 | str (x:Str):JGa K H (.str x) (.type "str")
 | flt (x:UInt64):JGa K H (.flt x) (.type "float")
 | lst {a:Vh} {xs:List V} (e:H a=Vo (.lst xs)):JGa K H (.ref a) (.type "list")
 | frz {a:Vh} {o:Obj} {xs:List V} (e:H a=Vo (.frz o (.lst xs))):JGa K H (.ref a) (.type "list")
 | tup {a:Vh} {xs:List V} (e:H a=Vo (.tup xs)):JGa K H (.ref a) (.type "tuple")
 | dK {a:Vh} {ac:List (Key×V)} (e:H a=Vo (.dK ac)):JGa K H (.ref a) (.type "dict")
 | dT {a:Vh} {ac:List (List Key×V)} (e:H a=Vo (.dT ac)):JGa K H (.ref a) (.type "dict")
 | ins {a C dx:Vh} {fs:List (Str×V)} (e:H a=Vo (.ins C dx fs)) (cl:Cls K C) (ha:UF K (.ref C) "__class__"=Vo (Vo (.builtin "object.__class__")))
  (hn:UV K (.builtin "object.__class__") "__get__"=Vo (Vo (.builtin "getset_descriptor.__get__"))) (qG:W.takesIn K (.builtin "object.__class__")=Vo true)
  (hm:W.mroIn K C (.type "object")=Vo true):JGa K H (.ref a) (.ref C)
theorem ZPc{x:V}{u t:Va}(I:Inv X aa σ H s)(rx:QB x u)(ty:JGa X.K H x t)(e:UW X.K t c=Vo b)(h:∀ tk,Q (.bool b) { s with toks:=tk }) :
 VV (VW X.prog X.w) A (Uz (.builtin "isinstance") [u,c]) Q E s:=by
 cases ty with
 | non=>cases (show u=Vi from rx);exact UX W.kitx_none I.kIn UR e (λz=>nomatch z) h
 | bl y=>cases (show u=Vj y from rx);exact UX W.kitx_bool I.kIn UR e (λz=>nomatch z) h
 | int i=>obtain⟨t,q⟩:=(show ∃ t,u=Vd i t from rx);cases q;exact UX W.kitx_int I.kIn UR e (λz=>nomatch z) h
 | str y=>obtain⟨t,q⟩:=(show ∃ t,u=Vf y t from rx);cases q;exact UX W.kitx_str I.kIn UR e (λz=>nomatch z) h
 | flt y=>obtain⟨t,q⟩:=(show ∃ t,u=Value.float y t from rx);cases q;exact UX W.kitx_float I.kIn UR e (λz=>nomatch z) h
 | @lst a xs ea =>
  cases (show u=Vk a from rx)
  obtain⟨_,_,n,_,h1⟩:=(show QN X.prog X.w H s.heap a (.lst xs) from I.hok a _ ea)
  exact UX W.kitx_list I.kIn ⟨_,h1,rfl⟩ e (λz=>nomatch z) h
 | @frz a ob xs ea =>
  cases (show u=Vk a from rx)
  obtain⟨_,_,_,n,_,h1⟩:=(show QN X.prog X.w H s.heap a (.frz ob (.lst xs)) from I.hok a _ ea)
  exact UX W.kitx_list I.kIn ⟨_,h1,rfl⟩ e (λz=>nomatch z) h
 | @tup a xs ea =>
  cases (show u=Vk a from rx)
  obtain⟨_,_,_,p⟩:=(show QN X.prog X.w H s.heap a (.tup xs) from I.hok a _ ea)
  obtain⟨o,h1,h2,_⟩:=p;exact UX W.kitx_tuple I.kIn ⟨o,h1,h2⟩ e (λz=>nomatch z) h
 | @dK a ac ea =>
  cases (show u=Vk a from rx)
  obtain⟨_,_,vs,_,p⟩:=(show QN X.prog X.w H s.heap a (.dK ac) from I.hok a _ ea)
  obtain⟨o,es,ep,h1,h2,_⟩:=p;exact UX W.kitx_dict I.kIn ⟨o,h1,h2.1⟩ e (λz=>nomatch z) h
 | @dT a ac ea =>
  cases (show u=Vk a from rx)
  obtain⟨_,_,xs,_,o,es,ep,h1,h2,_⟩:=(show QN X.prog X.w H s.heap a (.dT ac) from I.hok a _ ea)
  exact UX W.kitx_dict I.kIn ⟨o,h1,h2.1⟩ e (λz=>nomatch z) h
 | @ins a C dx fs ea cl ha hn qG hm =>
  cases (show u=Vk a from rx)
  obtain⟨mA,O,_⟩:=Xaa I.hok ea;obtain⟨od,J,_⟩:=O.look;exact UX (W.kitx_own (cl.get _) cl.hd ha hn qG hm) I.kIn J e (λz=>nomatch z) h
end
structure Q5(k:Nat)(A:VG):Prop where
 hd:A.handled=Vp
 dp:A.depth+3 * k+5 < recursionLimit
 un:A.units+16 * k+200 < UY
theorem Q5.mono{j k:Nat}{A:VG}(r:Q5 k A)(h:j<=k):Q5 j A:=⟨r.hd,by have:=r.dp;lia,by have:=r.un;lia⟩
theorem Q5.deeper{k:Nat}{A:VG}(r:Q5 (k+1) A)(env:Env):Q5 k (A.deeper env) :=
 ⟨r.hd,by have:=r.dp;show A.depth+1+3 * k+5 < _;lia,by have:=r.un;show A.units+3+16 * k+200 < _;lia⟩
theorem Q5.in1{k:Nat}{A:VG}(r:Q5 (k+1) A):Q5 k A.in1 :=
 ⟨r.hd,by have:=r.dp;show A.depth+3 * k+5 < _;lia,by have:=r.un;show A.units+1+16 * k+200 < _;lia⟩
theorem XMb{A:VG}{C:Vh}{us:List Va}{kw:List (Str×Va)}:(A.under (.builtin "type.__call__" ⟨.ref C::us,kw⟩)).depth=A.depth+1:=by
 first | rfl | simp[Around.under,Code.weight,Code.isCreation,Code.isGuard,Code.isCaller,Code.frames,Code.isFrame,guardIds]
theorem XNb{A:VG}{C:Vh}{us:List Va}{kw:List (Str×Va)}:(A.under (.builtin "type.__call__" ⟨.ref C::us,kw⟩)).units=A.units+1:=by
 first | rfl | simp[Around.under,Code.cUnits,Code.frames,Code.isFrame]
theorem Q5.make{k:Nat}{A:VG}(r:Q5 (k+1) A)(C:Vh)(us:List Va)(kw:List (Str×Va)):Q5 k (A.under (.builtin "type.__call__" ⟨.ref C::us,kw⟩)) :=
 ⟨r.hd,by have:=r.dp;rw[XMb];lia,by have:=r.un;rw[XNb];lia⟩
theorem Q5.depth{k:Nat}{A:VG}(r:Q5 k A):A.depth < recursionLimit:=by have:=r.dp;lia
theorem Q5.units{k:Nat}{A:VG}(r:Q5 k A):A.units+64 < UY:=by have:=r.un;lia
theorem Q5.units0{k:Nat}{A:VG}(r:Q5 k A):A.units < UY:=by have:=r.un;lia
def Yca:TA:=λ_ H Q=>Q [] H
def Q9b(ta:TE)(tr:TA):TA:=λσ H Q=>ta σ H λx H1=>tr σ H1 λxs H2=>Q (x::xs) H2
section
variable{X:Cx}{e:Expr}{es:List Expr}{te:TE}{t:TA}{pos:Pos}
theorem Qb:PA X [] Yca:=λ_ _ _ _ H Q I h=>Calls.spliced_nil ⟨[],H,I,.nil,h⟩
theorem Q4c(ha:PE X e te)(hr:PA X es t)(hs:VZ (e::es) X.env=(false,VX e X.env)::VZ es X.env:=by rfl):PA X (e::es) (Q9b te t):=by
 intro pos aa s σ H Q I h;rw[hs];show VV _ _ (spliced ((false,VX e X.env)::VY pos (VZ es X.env))) _ _ s;refine UZ (thn (ha aa s σ H _ I h) λu s1 hZ=>?_)
 obtain⟨x,H1,I1,r1,q1⟩:=hZ;exact thn (hr pos aa s1 σ H1 _ I1 q1) λus s2 ⟨xs,H2,I2,r2,q2⟩=>⟨x::xs,H2,I2,.cons r1 r2,q2⟩
def J1d(t:TA):TE:=λσ H Q=>t σ H λxs H1=>xs.length<=Vs/\∀ p,H1 p=Vp->Q (.ref p) (upd H1 p (.tup xs))
def J2d(t:TA):TE:=λσ H Q=>t σ H λxs H1=>xs.length<=Vs/\∀ p,H1 p=Vp->Q (.ref p) (upd H1 p (.lst xs))
theorem Zf{x1}(h:PA X es t):PE X (.Tuple es x1 pos) (J1d t):=by
 intro aa s σ H Q I hq;refine wpAny_Tuple_spliced (thn (h pos aa s σ H _ I hq) λus s1 ⟨xs,H1,I1,r,z,q⟩=>⟨by rw[<- r.length];exact z,?_⟩)
 have hf:H1 s1.heap.objs.size=Vp:=I1.hok.fresh (Uu _);refine⟨.ref s1.heap.objs.size,upd H1 s1.heap.objs.size (.tup xs),I1.laid (t':=s1.toks) (λb u e=>Us _ e) (Uu _) ?_,rfl,q _ hf⟩
 exact⟨⟨z,_,Ut _ rfl,rfl⟩,us,r,⟨_,Ut _ rfl,rfl,_,rfl⟩⟩
theorem Zj(h:PA X es t):PE X (.List es pos) (J2d t):=by
 intro aa s σ H Q I hq;refine wpAny_List_spliced (thn (h pos aa s σ H _ I hq) λus s1 ⟨xs,H1,I1,r,z,q⟩=>⟨by rw[<- r.length];exact z,?_⟩)
 have hf:H1 s1.heap.objs.size=Vp:=I1.hok.fresh (Uu _);refine⟨.ref s1.heap.objs.size,upd H1 s1.heap.objs.size (.lst xs),I1.laid (t':=s1.toks) (λb u e=>Us _ e) (Uu _) ?_,rfl,q _ hf⟩
 exact⟨z,us,0,r,Ut _ rfl⟩
end
abbrev Sp:=List V->Hp->VK->XK->Prop
abbrev CXT:=List Env->Hp->VH->XK->YQ_
structure XOb(P:Vg)(w:Vb)(K:VD)(mg:Str->Option Va)(base:Vq)(A:VG)(outer:List Env)(s:VH)(H:Hp):Prop where
 frames:A.frames=Vo outer
 mod:Mod K mg base
 bs:∀ b o,base.get? b=Vo o->s.heap.get? b=Vo o/\H b=Vp
 bsz:base.objs.size<=s.heap.objs.size
 funs:s.heap.FunFrames base outer
 frf:∀ b∈frs outer,H b=Vp
 hok:HOk P w H s.heap
 bare:VI s.gens
def CE(outer:List Env)(P:Vg)(w:Vb)(H:Hp)(s:VH)(Q:VK)(u:Va)(s':VH):Prop :=
 ∃ v H',s'.os=s.os/\VI s'.gens/\Un (frs outer) [] H H' s.heap s'.heap/\HOk P w H' s'.heap/\QB v u/\Q v H'
def CR(CX:CXT)(outer:List Env)(P:Vg)(w:Vb)(H:Hp)(s:VH)(Q:VK)(E:XK)(r:UJ)(s':VH):Prop :=
 match r with
 | .ok (.ret u)=>CE outer P w H s Q u s'
 | .ok _=>False
 | .error e=>CX outer H s E e s'
structure Qy(P:Vg)(w:Vb)(K:VD)(mg:Str->Option Va)(base:Vq)(CX:CXT)(k:Nat)(f:Vh)(fd:U0)(ps:List Str)(sp:Sp):Prop where
 len:∀ vs H Q E,sp vs H Q E->vs.length=ps.length
 run:∀ (A:VG) (outer:List Env) (s:VH) (H:Hp) (args:Args) (us:List Va) (vs:List V) (Q:VK) (E:XK),Q5 k A->XOb P w K mg base A outer s H->BindsTo s fd args (ps.zip us)->Qz vs us->sp vs H Q E ->
  UL (VW P w) A (.call (.ref f) args) (CR CX outer P w H s Q E) s
theorem Qy.mono{P:Vg}{w:Vb}{K:VD}{mg:Str->Option Va}{base:Vq}{CX:CXT}{j k:Nat}{f:Vh}{fd:U0}{ps:List Str}{sp:Sp}(F:Qy P w K mg base CX j f fd ps sp)(h:j<=k) :
 Qy P w K mg base CX k f fd ps sp:=⟨F.len,λA outer s H args us vs Q E hr=>F.run A outer s H args us vs Q E (hr.mono h)⟩
theorem XOb.make{P:Vg}{w:Vb}{K:VD}{mg:Str->Option Va}{base:Vq}{A:VG}{outer:List Env}{s:VH}{H:Hp}(e:XOb P w K mg base A outer s H)(C:Vh)(us:List Va)(kw:List (Str×Va)) :
 XOb P w K mg base (A.under (.builtin "type.__call__" ⟨.ref C::us,kw⟩)) outer s H:=⟨by first | exact e.frames | (simpa[Around.under,Code.envs,Code.isFrame,pushEnvs]using e.frames),e.mod,e.bs,e.bsz,e.funs,e.frf,e.hok,e.bare⟩
section
variable{X:Cx}{aa:YP_}{σ:St}{H:Hp}{s s':VH}
theorem Inv.env0(I:Inv X aa σ H s):XOb X.prog X.w X.K X.mg X.base X.A X.stack s H :=
 ⟨I.ok.frames,I.ok.mod,I.bs,VJ I.ok.bsz I.sz,I.stack,I.stkFree,I.hok,I.bare⟩
theorem Inv.after{Q:VK}{u:Va}(I:Inv X aa σ H s)(h:CE X.stack X.prog X.w H s Q u s'):EP X aa σ Q u s':=by
 obtain⟨v,H',os,bare,un,hok,r,q⟩:=h;obtain⟨hh,g,d,t,vF⟩:=s';obtain rfl:vF=s.os:=os;exact⟨v,H',I.call (h':=hh) (g':=g) (d':=d) (t':=t) (ch:=[]) un hok bare (λb z=>absurd z #[2]),r,q⟩
end
def YLa(sp:Sp)(bu:List V)(E:XK)(t:TA):TE:=λσ H Q=>t σ H λvs H1=>sp (vs++bu) H1 Q E
def Q5c(C:Vh)(sp:Sp)(bu:List V)(E:XK)(t:TA):TE:=λσ H Q=>t σ H λvs H1=>∀ x dx,H1 x=Vp->H1 dx=Vp->dx≠x ->
 sp (.ref x::(vs++bu)) (upd (upd H1 dx (.own x)) x (.ins C dx [])) (λv H2=>v=.non/\Q (.ref x) H2) E
def ZA(K:VD)(fd:U0)(ps:List Str)(ds:List Va):Prop :=
 ∀ (s:VH) (us:List Va),K.In s.heap->(us++ds).length=ps.length->BindsTo s fd ⟨us,[]⟩ (ps.zip (us++ds))
theorem ZA.all{K:VD}{fd:U0}{ps:List Str}(h:∀ us:List Va,us.length=ps.length->bindArgs fd ⟨us,[]⟩=pure (ps.zip us)):ZA K fd ps []:=λs us _ hl=>by
 rw[U1]at hl ⊢;exact .of_eq (h us hl)
def Z3a(CX:CXT)(X:Cx)(E:XK):Prop:=∀ (aa:YP_) (σ:St) (H:Hp) (s:VH) (e:Va) (s':VH),Inv X aa σ H s->CX X.stack H s E e s'->X.xe e s'
section
variable{X:Cx}{CX:CXT}{k:Nat}{f C:Vh}{fd:U0}{ps:List Str}{sp:Sp}{bu:List V}{ds:List Va}{E:XK}{x m:Str}{p pos ak:Pos}{e o:Expr}{es:List Expr}{ta:TE}{t:TA}
theorem XPb{aa:YP_}{σ:St}{H:Hp}{s:VH}{Q:VK}{us:List Va}{vs:List V}(F:Qy X.prog X.w X.K X.mg X.base CX k f fd ps sp)(hr:Q5 k X.A)(hb:ZA X.K fd ps ds)(hd:Qz bu ds)(hx:Z3a CX X E)
 (I:Inv X aa σ H s) (r:Qz vs us) (h:sp (vs++bu) H Q E):VV (VW X.prog X.w) X.A (Uz (.ref f) us) (EP X aa σ Q) X.xe s:=by
 have r2:Qz (vs++bu) (us++ds):=r.append hd;have hl:(us++ds).length=ps.length:=by rw[<- r2.length];exact F.len _ _ _ _ h
 refine U2 (U3 (F.run X.A X.stack s H ⟨us,[]⟩ (us++ds) (vs++bu) Q E hr I.env0 (hb s us I.kIn hl) r2 h) λr s' hq=>?_)
 cases r with
 | error e=>exact hx aa σ H s e s' I hq
 | ok fl =>
  cases fl with
  | ret u=>exact I.after hq
  | next=>exact V8 hq
  | brk=>exact V8 hq
  | cont=>exact V8 hq
theorem Q6c(F:Qy X.prog X.w X.K X.mg X.base CX k f fd ps sp)(hr:Q5 k X.A)(hg:Gl X x)(hm:X.mg x=Vo (.ref f))(hk:UP X.K (.ref f)=true)(hb:ZA X.K fd ps ds)(hd:Qz bu ds)(hx:Z3a CX X E)
 (ha:PA X (e::es) t) (aF:(x == ("__debug__":Str))=false:=by decide) (he:VZ (e::es) X.env=(false,VX e X.env)::VZ es X.env:=by rfl) (aI:(VY pos (VZ es X.env)).any (·.1)=false:=by rfl) :
 PE X (.Call (.Name x p) (e::es) [] pos) (YLa sp bu E t):=by
 intro aa s σ H Q I h;refine U4 (JI I hg hm ?_ aF)
 refine U5 (h₀:=X.base) I.ok.mod.kin hk (thn (ha pos aa s σ H _ I h) λus s1 ⟨vs,H1,I1,r,q⟩=>⟨I1.kIn,?_⟩) he aI
 exact XPb F hr hb hd hx I1 r q
theorem J8c(F:Qy X.prog X.w X.K X.mg X.base CX k f fd ps sp)(hr:Q5 k X.A)(hg:Gl X x)(hm:X.mg x=Vo (.ref f))(hk:UP X.K (.ref f)=true)(hb:ZA X.K fd ps ds)(hd:Qz bu ds)(hx:Z3a CX X E)
 (aF:(x == ("__debug__":Str))=false:=by decide):PE X (.Call (.Name x p) [] [] pos) (YLa sp bu E Yca):=by
 intro aa s σ H Q I h;refine U4 (JI I hg hm ?_ aF)
 exact W.callWith_K0 I.kIn hk (XPb (us:=[]) F hr hb hd hx I .nil h)
structure Mk(K:VD)(C f:Vh):Prop where
 makes:UK K C=true
 init:UF K (.ref C) "__init__"=Vo (Vo (.ref f))
 fn:UG K (.ref f)=true
 kp:UP K (.ref C)=true
theorem J9b{aa:YP_}{σ:St}{H:Hp}{s:VH}{Q:VK}{us:List Va}{vs:List V}(M:Mk X.K C f)(F:Qy X.prog X.w X.K X.mg X.base CX k f fd ps sp)(hr:Q5 (k+1) X.A)(hb:ZA X.K fd ps ds)(hd:Qz bu ds)
 (hx:Z3a CX X E) (I:Inv X aa σ H s) (r:Qz vs us)
 (h:∀ x dx,H x=Vp->H dx=Vp->dx≠x->sp (.ref x::(vs++bu)) (upd (upd H dx (.own x)) x (.ins C dx [])) (λv H2=>v=.non/\Q (.ref x) H2) E) :
 VV (VW X.prog X.w) X.A (Uz (.ref C) us) (EP X aa σ Q) X.xe s:=by
 have hq:=h (s.heap.objs.size+1) s.heap.objs.size (I.hok.fresh (U6 _)) (I.hok.fresh (Uu _)) (VB (UT _));have I2:=Inv.made (C:=C) I;have r2:Qz (V.ref (s.heap.objs.size+1)::(vs++bu)) (Vk (s.heap.objs.size+1)::(us++ds)):=.cons rfl (r.append hd);have hl:(Vk (s.heap.objs.size+1)::us++ds).length=ps.length:=by
  have e:=r2.length;rw[F.len _ _ _ _ hq]at e;exact e.symm
 refine U2 (J7c (f:=f) I.kIn M.makes M.init (beq_iff_eq.mp M.fn) (U3 (F.run _ X.stack _ _ ⟨Vk (s.heap.objs.size+1)::us,[]⟩ (Vk (s.heap.objs.size+1)::(us++ds)) _ _ E (hr.make C us [])
  (I2.env0.make C us []) (hb _ (Vk (s.heap.objs.size+1)::us) I2.kIn hl) r2 hq) λr s' iS=>?_))
 cases r with
 | error e=>exact hx aa σ _ _ e s' I2 iS
 | ok fl =>
  cases fl with
  | ret u =>
   obtain⟨v,H',I3,rv,ev,q3⟩:=I2.after iS;subst ev;exact⟨rv,⟨V.ref (s.heap.objs.size+1),H',I3,rfl,q3⟩⟩
  | next=>exact V8 iS
  | brk=>exact V8 iS
  | cont=>exact V8 iS
theorem Qqd(M:Mk X.K C f)(F:Qy X.prog X.w X.K X.mg X.base CX k f fd ps sp)(hr:Q5 (k+1) X.A)(hg:Gl X x)(hm:X.mg x=Vo (.ref C))(hb:ZA X.K fd ps ds)(hd:Qz bu ds)(hx:Z3a CX X E)
 (ha:PA X (e::es) t) (aF:(x == ("__debug__":Str))=false:=by decide) (he:VZ (e::es) X.env=(false,VX e X.env)::VZ es X.env:=by rfl) (aI:(VY pos (VZ es X.env)).any (·.1)=false:=by rfl) :
 PE X (.Call (.Name x p) (e::es) [] pos) (Q5c C sp bu E t):=by
 intro aa s σ H Q I h;refine U4 (JI I hg hm ?_ aF)
 refine U5 (h₀:=X.base) I.ok.mod.kin M.kp (thn (ha pos aa s σ H _ I h) λus s1 ⟨vs,H1,I1,r,q⟩=>⟨I1.kIn,?_⟩) he aI
 exact J9b M F hr hb hd hx I1 r q
theorem J9c(M:Mk X.K C f)(F:Qy X.prog X.w X.K X.mg X.base CX k f fd ps sp)(hr:Q5 (k+1) X.A)(hg:Gl X x)(hm:X.mg x=Vo (.ref C))(hb:ZA X.K fd ps ds)(hd:Qz bu ds)(hx:Z3a CX X E)
 (aF:(x == ("__debug__":Str))=false:=by decide):PE X (.Call (.Name x p) [] [] pos) (Q5c C sp bu E Yca):=by
 intro aa s σ H Q I h;refine U4 (JI I hg hm ?_ aF)
 exact W.callWith_K0 I.kIn M.kp (J9b (us:=[]) M F hr hb hd hx I .nil h)
end
def PK(X:Cx)(iT:List U7)(t:TA):Prop :=
 ∀ (pos:Pos) (aa:YP_) (s:VH) (σ:St) (H:Hp) (Q:List V->Hp->Prop),Inv X aa σ H s->t σ H Q->VV (VW X.prog X.w) X.A (evalAll ((U8 pos (U9 iT X.env)).map (·.2))) (AP X aa σ Q) X.xe s
section
variable{X:Cx}{CX:CXT}{k:Nat}{f C:Vh}{fd:U0}{ps ks:List Str}{sp:Sp}{E:XK}{x m:Str}{p pos ak c6:Pos}{e o:Expr}{es:List Expr}{iT:List U7}{te ta:TE}{t tk:TA}{nm:Option Str}
theorem ZTd:PK X [] Yca:=λ_ _ _ _ H Q I h=>wpAny_evalAll_nil ⟨[],H,I,.nil,h⟩
theorem Qrd(ha:PE X e te)(hr:PK X iT t):PK X (⟨nm,e,c6⟩::iT) (Q9b te t):=by
 intro pos aa s σ H Q I h;show VV _ _ (evalAll ((do let v <- VX e X.env;V5 pos;pure v)::(U8 pos (U9 iT X.env)).map (·.2))) _ _ s
 refine wpAny_evalAll_cons (Ud (thn (ha aa s σ H _ I h) λu s1 ⟨x,H1,I1,r1,q1⟩=>Ud (Uf (Uo ?_))))
 exact thn (hr pos aa s1 σ H1 _ I1 q1) λus s2 ⟨xs,H2,I2,r2,q2⟩=>⟨x::xs,H2,I2,.cons r1 r2,q2⟩
variable{g:List Va->List Va->List Va}{gV:List V->List V->List V}
end
structure Qp(N P:List Str)(sc:Scope):Prop where
 kind:sc.kind=.function
 co:sc.isCoroutine=false
 gen:sc.isGenerator=false
 nd:N.Nodup
 pre:N.take P.length=P
 par:∀ x∈P,sc.names.lookup x=Vo .local\/sc.names.lookup x=Vo .cell
 nofree:∀ y∈sc.names,y.2≠.free
theorem Zab{kindOf:Str->Option Oa}{x:Str}:∀ {binds:List (Str×Va)} {m:Str->Option Va},(∀ v,(x,v)∉binds)->Ob kindOf binds m x=m x
 | [],_,_=>rfl
 | (n,v)::r,m,h=>by
  unfold Ob;rw[Zab λw hw=>h w (VO _ hw)]
  split
  ·have:x≠n:=by rintro rfl;exact h v VN
   simp[this]
  ·rfl
theorem Zbb{kindOf:Str->Option Oa}{x:Str}:∀ {binds:List (Str×Va)} {m:Str->Option Va},(∀ v,(x,v)∉binds)->Oc kindOf binds m x=m x
 | [],_,_=>rfl
 | (n,v)::r,m,h=>by
  unfold Oc;rw[Zbb λw hw=>h w (VO _ hw)]
  split
  ·rfl
  ·have:x≠n:=by rintro rfl;exact h v VN
   simp[this]
theorem Zcb{kindOf:Str->Option Oa}{x:Str}{v:Va}:∀ {P:List Str} {vs:List Va} {i:Nat} {m:Str->Option Va},P.Nodup->P[i]?=Vo x->vs[i]?=Vo v->kindOf x=Vo .local ->
 Ob kindOf (P.zip vs) m x=Vo v
 | [],_,_,_,_,h,_,_=>by simp at h
 | _::_,[],_,_,_,_,h,_=>by simp at h
 | p::P,w::vs,0,m,nd,h1,h2,hk=>by
  simp at h1 h2;subst h1;subst h2;show Ob kindOf ((p,w)::P.zip vs) m p=_;unfold Ob;rw[Zab λv hv=>(nodup_cons.mp nd).1 (of_mem_zip hv).1,if_pos hk]
  simp
 | p::P,w::vs,i+1,m,nd,h1,h2,hk=>by
  show Ob kindOf ((p,w)::P.zip vs) m x=_;unfold Ob;exact Zcb (i:=i) (nodup_cons.mp nd).2 (by simpa using h1) (by simpa using h2) hk
theorem Zdb{kindOf:Str->Option Oa}{x:Str}{v:Va}:∀ {P:List Str} {vs:List Va} {i:Nat} {m:Str->Option Va},P.Nodup->P[i]?=Vo x->vs[i]?=Vo v->kindOf x≠Vo .local ->
 Oc kindOf (P.zip vs) m x=Vo v
 | [],_,_,_,_,h,_,_=>by simp at h
 | _::_,[],_,_,_,_,h,_=>by simp at h
 | p::P,w::vs,0,m,nd,h1,h2,hk=>by
  simp at h1 h2;subst h1;subst h2;show Oc kindOf ((p,w)::P.zip vs) m p=_;unfold Oc;rw[Zbb λv hv=>(nodup_cons.mp nd).1 (of_mem_zip hv).1,if_neg hk]
  simp
 | p::P,w::vs,i+1,m,nd,h1,h2,hk=>by
  show Oc kindOf ((p,w)::P.zip vs) m x=_;unfold Oc;exact Zdb (i:=i) (nodup_cons.mp nd).2 (by simpa using h1) (by simpa using h2) hk
def ZMa(N:List Str)(vs:List V):St:=vs.map Vo++Od (N.length - vs.length) Vp
def Z4a(CX:CXT)(P:Vg)(w:Vb)(K:VD)(mg:Str->Option Va)(base:Vq)(N:List Str)(qual:Str)(scope:Scope)(f:Vh)(cd:Va)(A:VG)(outer:List Env)(s:VH)(H:Hp)(E:XK):Cx where
 prog:=P
 w:=w
 K:=K
 mg:=mg
 base:=base
 A:=A.deeper (Oe qual scope s.heap.objs.size f cd)
 N:=N
 s₀:=s
 H₀:=H
 env:=Oe qual scope s.heap.objs.size f cd
 outer:=outer
 stack:=Oe qual scope s.heap.objs.size f cd::outer
 ex:=[]
 calm:=true
 fn:=λ_=>true
 pn:=[]
 xe:=λe s'=>VV (VW P w) (A.deeper (Oe qual scope s.heap.objs.size f cd)) (leaving (Oe qual scope s.heap.objs.size f cd) e) (λ_ bY=>CX outer H s E e bY) (λe' bY=>CX outer H s E e' bY) s'
theorem Yab{sc:Scope}{n:Nat}{x:Str}(h:sc.names.lookup x=Vo .cell):∃ c,(cellsFrom n sc.names []).lookup x=Vo c:=by
 have q:=W.cellsFrom_some sc.names n [] (.inl h);exact Option.isSome_iff_exists.mp q
theorem ZQc{CX:CXT}{P:Vg}{w:Vb}{K:VD}{mg:Str->Option Va}{base:Vq}{N ps:List Str}{qual:Str}{scope:Scope}{f:Vh}{cd:Va}{A:VG}{outer:List Env}{s s1:VH}{H:Hp}{E:XK}{us:List Va}{vs:List V}
 (S:Qp N ps scope) (hd:A.handled=Vp) (e0:XOb P w K mg base A outer s H) (hl:vs.length=ps.length) (r:Qz vs us)
 (x:InCallC s s.heap.objs.size (Ob (Oe qual scope s.heap.objs.size f cd).kindOf (ps.zip us) λ_=>Vp) (cellsFrom (s.heap.objs.size+1) scope.names []) (Oc (Oe qual scope s.heap.objs.size f cd).kindOf (ps.zip us) λ_=>Vp) s1) :
 Inv (Z4a CX P w K mg base N qual scope f cd A outer s H E) [] (ZMa N vs) H s1:=by
 have aI:ps.length<=N.length:=by have:=congrArg Of S.pre;rw[Og]at this;lia
 obtain⟨h1,tk,rfl,hk⟩:=x.done;have jj:∀ b:Vh,b∉(Z4a CX P w K mg base N qual scope f cd A outer s H E).ex:=λb z=>absurd (show b∈([]:List Vh) from z) #[2]
 refine⟨⟨e0.mod,S.kind,rfl,rfl,Uu _,λy z c h1 h2=>?_,λy hy=>?_,λy c _ h=>?_,λ_=>hd,Around.frames_deeper e0.frames,.inr ⟨rfl,rfl⟩,λb z=>absurd z (jj b),e0.bs,e0.bsz,λb _ _=>jj b,λb z=>absurd z (jj b),e0.funs,e0.frf⟩,
  rfl,e0.bare,Un.kept hk,⟨_,x.toInCall.ns,λi y v h1 h2 h3=>?_⟩,λy c h=>⟨_,x.cell y c h⟩,e0.hok.fresh (Uu _),λy c h=>?_,λp hp=>absurd (show p∈([]:YP_) from hp) #[2],e0.hok.kept hk,?_⟩
 ·exact name_of_addr x.apart (Oh h1) (Oh h2)
 ·have hy:scope.names.lookup y=Vo .cell\/scope.names.lookup y=Vo .free:=hy
  rcases hy with hy | hy
  ·exact Yab hy
  ·exact absurd rfl (S.nofree _ (Oh hy))
 ·exact VL (x.above y c (Oh h))
 ·have hi:i < vs.length:=by
   unfold ZMa at h2
   by_cases hi:i < vs.length
   ·exact hi
   ·rw[Oi (by simpa using hi)]at h2
    rw[getElem?_replicate]at h2
    split at h2 <;> cases h2
  have ha:vs[i]?=Vo v:=by
   unfold ZMa at h2;rw[Oj (by simpa using hi),Ol]at h2
   cases e:vs[i]? with
   | none=>rw[e]at h2;cases h2
   | some a=>rw[e]at h2;cases h2;rfl
  obtain⟨u,hu,rv⟩:=r.get ha;have hp:ps[i]?=Vo y:=by
   rw[<- S.pre,getElem?_take_of_lt #[0]];exact h1
  have qH:ps.Nodup:=by rw[<- S.pre];exact S.nd.sublist (take_sublist _ _)
  refine⟨u,rv,?_⟩
  rcases S.par y (Om hp) with k | k
  ·exact .inl ⟨k,Zcb qH hp hu k⟩
  ·obtain⟨c,e⟩:=Yab (n:=s.heap.objs.size+1) k
   refine .inr ⟨.inl k,c,e,?_⟩
   have q:=x.cell y c e;rw[Zdb qH hp hu (by show scope.names.lookup y≠_;rw[k];decide)]at q
   exact q
 ·exact e0.hok.fresh (VL (x.above y c (Oh h)))
 ·unfold ZMa
  show _=N.length;rw[On,UQ,length_replicate]
  lia
theorem Yac{CX:CXT}{P:Vg}{w:Vb}{K:VD}{mg:Str->Option Va}{base:Vq}{k:Nat}{f:Vh}{name qual:Str}{params:Arguments}{body:List V0}{scope:Scope}{dV kV aO pm ah ct oc:Va}{an od:Option Vh}
 {bv:Array (Option Va)} {N ps:List Str} {sp:Sp} (lk:K.lookup f=Vo ⟨oc,od,.func (Oo name qual params body scope dV kV aO pm an ah ct),bv⟩) (bc:Op K ah qual=true) (S:Qp N ps scope)
 (len:∀ vs H Q E,sp vs H Q E->vs.length=ps.length)
 (bh:∀ (A:VG) (outer:List Env) (s:VH) (H:Hp) (vs:List V) (Q:VK) (E:XK),Q5 k (A.deeper (Oe qual scope s.heap.objs.size f ah))->sp vs H Q E ->
  ∃ t,PSs (Z4a CX P w K mg base N qual scope f ah A outer s H E) body t/\t { nx:=λ_ H'=>Q .non H',rt:=Q } (ZMa N vs) H) :
 Qy P w K mg base CX (k+1) f (Oo name qual params body scope dV kV aO pm an ah ct) ps sp:=by
 refine⟨len,λA outer s H args us vs Q E hr e0 hb r b9=>?_⟩
 have hl:=len _ _ _ _ b9;have KX:K.In s.heap:=e0.mod.kin.keeps λb o e=>(e0.bs b o e).1
 have vG:s.heap.NoLimit:=e0.mod.nolimit.keeps λb o e=>(e0.bs b o e).1
 have jk:∀ y∈ps.zip us,scope.names.lookup y.1=Vo .local\/(scope.names.lookup y.1=Vo .cell/\((cellsFrom (s.heap.objs.size+1) scope.names []).lookup y.1).isSome=true):=λ⟨n,v⟩ hy=>by
  rcases S.par n (of_mem_zip hy).1 with q | q
  ·exact .inl q
  ·exact .inr ⟨q,W.cellsFrom_some _ _ _ (.inl q)⟩
 refine codeAny_call_function hr.depth (KX _ _ lk) rfl S.co S.gen rfl (W.codeRec_of KX bc) (hb _ _ _ _ ?_)
 refine wpAny_newFunctionEnv_cells S.kind jk λenv he s1 x=>?_
 subst he;refine⟨vG.keeps x.toInCall.keep,codeAny_func ?_⟩
 obtain⟨t,ht,hq⟩:=bh A outer s H vs Q E (hr.deeper _) b9;have I:Inv (Z4a CX P w K mg base N qual scope f ah A outer s H E) [] (ZMa N vs) H s1:=ZQc S hr.hd e0 hl r x;refine V1 (ht [] s1 (ZMa N vs) H _ I hq) (λfl s' hs=>?_) λe s' hs=>hs
 have fin:∀ {σ':St} {H':Hp} {v:V} {u:Va},Inv (Z4a CX P w K mg base N qual scope f ah A outer s H E) [] σ' H' s'->QB v u->Q v H'->CE outer P w H s Q u s' :=
  λ{σ' H' v u} J rv q=>⟨v,H',J.os,J.bare,J.base,J.hok,rv,q⟩
 cases fl with
 | ret u =>
  obtain⟨v,σ',H',J,rv,q⟩:=hs;exact fin J rv q
 | next =>
  obtain⟨σ',H',J,q⟩:=hs;exact fin (v:=V.non) (u:=Vi) J rfl q
 | brk =>
  obtain⟨_,_,_,q⟩:=hs;exact V8 q
 | cont =>
  obtain⟨_,_,_,q⟩:=hs;exact V8 q
section
variable{X:Cx}{x:Str}{p pos:Pos}{e:Expr}{es:List Expr}{t:TA}{id T:String}{r:List V->Hp->VK->Prop}
def tCB(r:List V->Hp->VK->Prop)(t:TA):TE:=λσ H Q=>t σ H λvs H1=>r vs H1 Q
theorem Qq(hc:JV X (.builtin id) r)(hg:Gl X x)(hm:X.mg x=Vp)(hv:VF x=Vo (.builtin id))(ha:PA X (e::es) t)(hn:x≠"__name__":=by decide)(aF:(x == ("__debug__":Str))=false:=by decide)
 (he:VZ (e::es) X.env=(false,VX e X.env)::VZ es X.env:=by rfl) (aI:(VY pos (VZ es X.env)).any (·.1)=false:=by rfl):PE X (.Call (.Name x p) (e::es) [] pos) (tCB r t):=by
 intro aa s σ H Q I h;refine U4 (ZZa I hg hm hv ?_ hn aF)
 exact PyProof.Rows.callWith_builtin1 (thn (ha pos aa s σ H _ I h) λus s1 ⟨vs,H1,I1,r1,q1⟩=>hc aa s1 σ H1 vs us Q I1 r1 q1) he aI
theorem QX(hc:JV X (.type T) r)(hg:Gl X x)(hm:X.mg x=Vp)(hv:VF x=Vo (.type T))(ha:PA X (e::es) t)(hn:x≠"__name__":=by decide)(aF:(x == ("__debug__":Str))=false:=by decide)
 (he:VZ (e::es) X.env=(false,VX e X.env)::VZ es X.env:=by rfl) (aI:(VY pos (VZ es X.env)).any (·.1)=false:=by rfl):PE X (.Call (.Name x p) (e::es) [] pos) (tCB r t):=by
 intro aa s σ H Q I h;refine U4 (ZZa I hg hm hv ?_ hn aF)
 exact Uw (thn (ha pos aa s σ H _ I h) λus s1 ⟨vs,H1,I1,r1,q1⟩=>hc aa s1 σ H1 vs us Q I1 r1 q1) he aI
end
end L2
namespace HT
open PySem PyProof.Rows
theorem Ybc(A:VG)(s:VH)(a:Int)(t:Tok)(c:Int)(u:Tok):∃ e,Oq A s (.int a t) (.int c u) e/\(e=true↔a=c) :=
 ⟨(a == c),SeqAt.EqAt.int_int a t c u,by simp⟩
theorem Ycc(A:VG)(s:VH)(a:Int)(t:Tok)(c:Int)(u:Tok)(prog:Vg)(w:Vb)(E:YQ_)(Q:YQ_)(h:Q (.bool (decide (a < c))) s) :
 VV (VW prog w) A (richCompare .Lt (.int a t) (.int c u)) Q E s :=
 (PyProof.Rows.lt_int h:VV (VW prog w) A (V2 .Lt (.int a t) (.int c u)) Q E s)
section
open PySem.SeqAt
open PySem.AutoSeq1 (wpAny_loadPart')
open PySem.MeetsSeq PySem.MeetsSeq2 PySem.MeetsSeq3
end
section
variable{prog:Vg}{w:Vb}{A:VG}{E:YQ_}{s:VH}
def sIx(n d:Nat):Option Int->Nat
 | none=>d
 | some v=>if v < 0 then (v+(n:Int)).toNat else min v.toNat n
theorem Ybb(n d:Nat):sIx n d Vp=d:=rfl
theorem ZNb(n d k:Nat):sIx n d (Vo (k:Int))=min k n:=by
 show(if (k:Int) < 0 then ((k:Int)+(n:Int)).toNat else min (k:Int).toNat n)=min k n
 rw[if_neg #[0],Os]
theorem ZUd(n d:Nat)(hd:d<=n)(o:Option Int):sIx n d o<=n:=by
 cases o with
 | none=>exact hd
 | some v =>
  show(if v < 0 then (v+(n:Int)).toNat else min v.toNat n)<=n
  by_cases hv:v < 0
  ·rw[if_pos hv];lia
  ·rw[if_neg hv];exact Nat.min_le_right _ _
end
end HT
namespace L2
open PySem PySem.Spec PyProof.Rows
abbrev TO:=St->Hp->(Option Int->Hp->Prop)->Prop
def PO(X:Cx)(e:Option Expr)(t:TO):Prop :=
 ∀ (aa:YP_) (s:VH) (σ:St) (H:Hp) (Q:Option Int->Hp->Prop),Inv X aa σ H s->t σ H Q ->
  VV (VW X.prog X.w) X.A (evalPart e X.env) (λu s'=>∃ o H',Inv X aa σ H' s'/\IsPart u o/\Q o H') X.xe s
def JHa:TO:=λ_ H Q=>Q Vp H
def Ycb(t:TE):TO:=λσ H Q=>t σ H λx H1=>∃ i,x=.int i/\Q (Vo i) H1
section
variable{X:Cx}{e:Expr}{te:TE}{lo hi:Option Expr}{tl th:TO}{pos p2:Pos}
theorem Y6:PO X Vp JHa:=by
 intro aa s σ H Q I h;rw[evalPart_none];exact Uo ⟨Vp,H,I,.none,h⟩
theorem Y7(h:PE X e te):PO X (Vo e) (Ycb te):=by
 intro aa s σ H Q I hw;rw[evalPart_some];refine thn (h aa s σ H _ I hw) λu s1 hZ=>?_
 obtain⟨x,H1,I1,r1,q1⟩:=hZ;obtain⟨i,rfl,q⟩:=q1;obtain⟨t,rfl⟩:=r1;exact⟨Vo i,H1,I1,.int i t,q⟩
def SlR(X:Cx)(r:V->Option Int->Option Int->Hp->VK->Prop):Prop :=
 ∀ (aa:YP_) (s:VH) (σ:St) (H:Hp) (x:V) (v vl vu:Va) (lo hi:Option Int) (sl:Vh) (Q:VK),Inv X aa σ H s->QB x v->s.heap.IsSliceOf sl vl vu .none->IsPart vl lo->IsPart vu hi->r x lo hi H Q ->
  ∃ T id,Ot (.type T) "__getitem__"=pure (Vo (.builtin id))/\s.TypeIs v T/\VV (VW X.prog X.w) X.A (Ou v (.ref sl)) (EP X aa σ Q) X.xe s
def tSl(r:V->Option Int->Option Int->Hp->VK->Prop)(te:TE)(tl th:TO):TE:=λσ H Q=>te σ H λx H1=>tl σ H1 λl H2=>th σ H2 λu H3=>r x l u H3 Q
theorem JW{r:V->Option Int->Option Int->Hp->VK->Prop}(hr:SlR X r)(he:PE X e te)(hl:PO X lo tl)(hu:PO X hi th):PE X (.Subscript e (.Slice lo hi Vp p2) pos) (tSl r te tl th):=by
 intro aa s σ H Q I h;refine Subscript_ (thn (he aa s σ H _ I h) λv s1 hZ=>?_)
 obtain⟨x,H1,I1,r1,q1⟩:=hZ;refine wpAny_Slice (thn (hl aa s1 σ H1 _ I1 q1) λvl s2 ⟨l,H2,I2,pl,q2⟩=>thn (hu aa s2 σ H2 _ I2 q2) λvu s3 hZ=>?_)
 obtain⟨u,H3,I3,pu,q3⟩:=hZ;rw[evalPart_none];refine Uo ?_
 have I4:Inv X aa σ H3 { s3 with heap:=s3.heap.push { cls:=.type "slice",data:=.fields #[vl,vu,.none] } }:=I3.kept (t':=s3.toks) λb ob q=>Us _ q
 obtain⟨T,id,hT,ht,hg⟩:=hr aa { s3 with heap:=s3.heap.push { cls:=.type "slice",data:=.fields #[vl,vu,.none] } } σ H3 x v vl vu l u s3.heap.objs.size Q I4 r1 (Heap.IsSliceOf.new ..) pl pu q3
 show VV (VW X.prog X.w) X.A (subscriptTail e (.Slice lo hi Vp p2) v (.ref s3.heap.objs.size)) (EP X aa σ Q) X.xe { s3 with heap:=s3.heap.push { cls:=.type "slice",data:=.fields #[vl,vu,.none] } }
 exact tail_any (ops:=[.ref s3.heap.objs.size,v]) ht hT hg (by with_unfolding_all rfl)
def XB(xs:List V)(lo hi:Option Int):List V:=(xs.drop (HT.sIx xs.length 0 lo)).take (HT.sIx xs.length xs.length hi - HT.sIx xs.length 0 lo)
theorem Ydb(xs:List V)(lo hi:Option Int):(XB xs lo hi).length<=xs.length:=by
 unfold XB;rw[Og,Ov]
 lia
end
def ixN(n:Nat)(i:Int):Option Nat:=if 0<=i then (if i < n then Vo i.toNat else Vp) else if -(n:Int)<=i then Vo (i+n).toNat else Vp
def atI{α:Type}(xs:List α)(i:Int):Option α:=(ixN xs.length i).bind λj=>xs[j]?
theorem Q7c{n:Nat}{i:Int}{j:Nat}(h:ixN n i=Vo j):seqIndex? i n=Vo j/\j < n /\ -(n:Int)<=i/\i < n:=by
 unfold ixN at h
 by_cases h0:0<=i
 ·rw[if_pos h0]at h
  by_cases h1:i < n
  ·rw[if_pos h1]at h
   have e:i.toNat=j:=Vr h;exact⟨by rw[seqIndex_of h0 h1,e],by lia,by lia,h1⟩
  ·rw[if_neg h1]at h;cases h
 ·rw[if_neg h0]at h
  by_cases h1 : -(n:Int)<=i
  ·rw[if_pos h1]at h
   have e:(i+n).toNat=j:=Vr h;exact⟨by rw[seqIndex_neg #[0] h1,e],by lia,h1,by lia⟩
  ·rw[if_neg h1]at h;cases h
theorem ZOb{α:Type}{xs:List α}{i:Int}{v:α}(h:atI xs i=Vo v):∃ j,seqIndex? i xs.length=Vo j/\xs[j]?=Vo v/\j < xs.length /\ -(xs.length:Int)<=i/\i < xs.length:=by
 unfold atI at h;cases e:ixN xs.length i with
 | none=>rw[e]at h;cases h
 | some j =>
  rw[e]at h;obtain⟨h1,h2,h3,h4⟩:=Q7c e;exact⟨j,h1,h,h2,h3,h4⟩
theorem Za{α:Type}{xs:List α}{j:Nat}{v:α}(h:xs[j]?=Vo v):atI xs (j:Int)=Vo v:=by
 have hj:j < xs.length:=(List.getElem?_eq_some_iff.mp h).1
 have e:ixN xs.length (j:Int)=Vo j:=by
  unfold ixN;rw[if_pos #[0],if_pos #[0]];simp
 unfold atI;rw[e];exact h
theorem JIa{α:Type}(xs:List α)(v:α):atI (xs++[v]) (-1)=Vo v:=by
 have hl:(xs++[v]).length=xs.length+1:=by simp
 have e:ixN (xs++[v]).length (-1)=Vo xs.length:=by
  unfold ixN;rw[hl,if_neg #[1],if_pos #[0]]
  congr 1
  lia
 unfold atI;rw[e];show(xs++[v])[xs.length]?=Vo v;simp
def Qsd(b:Expr):Prop:=∀ o i,Ow b false o i=operate [o,i] (Ou o i)
def IxR(X:Cx)(r:R2):Prop :=
 ∀ (value slice:Expr) (aa:YP_) (s:VH) (σ:St) (H:Hp) (x y:V) (v u:Va) (Q:VK),Inv X aa σ H s->QB x v->QB y u->r x y H Q ->
  Ow slice false v u=operate [v,u] (Ou v u)->VV (VW X.prog X.w) X.A (subscriptTail value slice v u) (EP X aa σ Q) X.xe s
def MtR(X:Cx)(id:String)(r:V->List V->Hp->VK->Prop):Prop :=
 ∀ (aa:YP_) (s:VH) (σ:St) (H:Hp) (x:V) (xs:List V) (v:Va) (us:List Va) (Q:VK),Inv X aa σ H s->QB x v->Qz xs us->r x xs H Q ->
  VV (VW X.prog X.w) X.A (Uz (.builtin id) (v::us)) (EP X aa σ Q) X.xe s
section
variable{X:Cx}{a b:Expr}{ta tb:TE}{pos:Pos}
theorem Qt{r:R2}(hr:IxR X r)(ha:PE X a ta)(hb:PE X b tb)(hs:Qsd b):PE X (.Subscript a b pos) (tOp r ta tb):=by
 intro aa s σ H Q I h;exact Subscript_ (ZQd ha hb I h λv u s2 x y H2 I2 rx ry q=>hr a b aa s2 σ H2 x y v u Q I2 rx ry q (hs _ _))
def J3d(K:VD):R2:=λx y H Q=>∃ p xs i v,x=.ref p/\y=.int i/\SqL K H p xs/\atI xs i=Vo v/\Q v H
def ZPb(K:VD):R2:=λx y H Q=>∃ p xs i v,x=.ref p/\y=.int i/\SqT K H p xs/\atI xs i=Vo v/\Q v H
def J4d:R2:=λx y H Q=>∃ z i c,x=.str z/\y=.int i/\z.length<=Vs/\atI z.cps.toList i=Vo c/\Q (.str ⟨#[c]⟩) H
theorem Q0:IxR X (J3d X.K):=by
 intro value slice aa s σ H x y v u Q I rx ry h hs;obtain⟨p,xs,i,z,rfl,rfl,hq,he,q⟩:=h;cases rx;obtain⟨t,rfl⟩:=ry;obtain⟨ag,r,pl,hz⟩:=I.list hq;obtain⟨j,h1,h2,h3,h4,h5⟩:=ZOb he;obtain⟨w,ew,br⟩:=r.get h2;have hl:=r.length;have hn:=Z1a;have fin:EP X aa σ Q w s:=⟨z,H,I,br,q⟩
 by_cases h0:0<=i
 ·have hj:i.toNat=j:=by
   rw[seqIndex_of h0 h5]at h1;exact Vr h1
  exact item_listR pl.isList h0 #[0] (by rw[hj];simpa using ew) fin hs
 ·have hj:(i+(ag.toArray.size:Int)).toNat=j:=by
   rw[seqIndex_neg #[0] h4]at h1
   rw[UE,<- hl];exact Vr h1
  exact subscriptTail_builtinR (x:=w) pl.isList.typeIs slot_list_getitem.lookup
   (wpAny_getItem_list_neg (Q:=λr s'=>r=w/\EP X aa σ Q r s') pl.isList #[0] (by rw[UE] <;> lia) #[0] (by rw[hj];simpa using ew) ⟨rfl,fin⟩) hs
theorem Qw:IxR X (ZPb X.K):=by
 intro value slice aa s σ H x y v u Q I rx ry h hs;obtain⟨p,xs,i,z,rfl,rfl,hq,he,q⟩:=h;cases rx;obtain⟨t,rfl⟩:=ry;obtain⟨ag,r,pl,hz⟩:=I.tuple hq;obtain⟨j,h1,h2,h3,h4,h5⟩:=ZOb he;obtain⟨w,ew,br⟩:=r.get h2;have hl:=r.length;have hn:=Z1a;have fin:EP X aa σ Q w s:=⟨z,H,I,br,q⟩;exact subscriptTail_builtinR (x:=w) pl.typeIs slot_tuple_getitem.lookup
  (getItem_tuple (j:=j) (Q:=λr s'=>r=w/\EP X aa σ Q r s') pl #[0] #[0] (by rw[UE,<- hl];exact h1) (by simpa using ew) ⟨rfl,fin⟩) hs
theorem Ydc:IxR X J4d:=by
 intro value slice aa s σ H x y v u Q I rx ry h hs;obtain⟨z,i,c,rfl,rfl,hz,he,q⟩:=h;obtain⟨t,rfl⟩:=rx;obtain⟨t',rfl⟩:=ry;obtain⟨j,h1,h2,h3,h4,h5⟩:=ZOb he;have hl:z.cps.toList.length=z.length:=by simp[Ox]
 rw[hl]at h1 h4 h5;have hn:=Z1a;exact tail_any (typeIs_str s z t) slot_str_getitem.lookup (getItem_str (c:=c) (by
  have e1:decide (i < -(2 ^ 63:Int))=false:=decide_eq_false #[0]
  have e2:decide (i >= 2 ^ 63)=false:=decide_eq_false #[0]
  rw[e1,e2,Bool.or_false]) (by rw[h1];simpa using h2) ⟨.str ⟨#[c]⟩,H,I.tok _,⟨_,rfl⟩,q⟩) hs
theorem XQb(ag:List Va)(n j:Nat)(u:Va):Oy (·.setIfInBounds j u) { cls:=.type "list",data:=.seq ag.toArray n }={ cls:=.type "list",data:=.seq (ag.set j u).toArray n }:=by
 simp[Oy]
theorem Inv.lst{aa:YP_}{σ:St}{H:Hp}{s:VH}{p:Vh}{xs:List V}(I:Inv X aa σ H s)(h:H p=Vo (.lst xs)) :
 ∃ (ag:List Va) (n:Nat),Qz xs ag/\s.heap.get? p=Vo { cls:=.type "list",data:=.seq ag.toArray n }/\xs.length<=Vs:=by
 obtain⟨z,ag,n,r,e⟩:=I.hok p _ h;exact⟨ag,n,r,e,z⟩
theorem Inv.lstUpd{aa:YP_}{σ:St}{H:Hp}{s:VH}{p:Vh}{xs ys:List V}{ag its':List Va}{n n':Nat}{f:Obj->Obj}(I:Inv X aa σ H s)(h:H p=Vo (.lst xs))
 (ho:s.heap.get? p=Vo { cls:=.type "list",data:=.seq ag.toArray n }) (hf:f { cls:=.type "list",data:=.seq ag.toArray n }={ cls:=.type "list",data:=.seq its'.toArray n' }) (r:Qz ys its') (hz:ys.length<=Vs) (t:Nat) :
 Inv X aa σ (upd H p (.lst ys)) { s with heap:=s.heap.update p f,toks:=t }:=by
 have e:(s.heap.update p f).get? p=Vo { cls:=.type "list",data:=.seq its'.toArray n' }:=by
  rw[Oz f ho (by rw[hf] <;> rfl),hf]
 refine I.write (x:=p) (e:=p) (by rw[h];trivial) (.inl rfl) (λb u hb q=>(OA _ _ (VR hb)).trans q) ⟨_,e⟩ ?_
 exact⟨hz,its',n',r,e⟩
def Zjd:V->V->V->Hp->(Hp->Prop)->Prop:=λo i v H Q=>∃ p xs k j,o=.ref p/\i=.int k/\H p=Vo (.lst xs)/\ixN xs.length k=Vo j/\Q (upd H p (.lst (xs.set j v)))
theorem Yeb:JTd X Zjd:=by
 intro aa s σ H o i v ov iv u Q I ro ri rv h;obtain⟨p,xs,k,j,rfl,rfl,hp,hj,q⟩:=h;cases ro;obtain⟨t,rfl⟩:=ri;obtain⟨ag,n,r,ho,hz⟩:=I.lst hp;obtain⟨h1,h2,h3,h4⟩:=Q7c hj;have hl:=r.length;have hn:=Z1a;have I':Inv X aa σ (upd H p (.lst (xs.set j v))) { s with heap:=s.heap.update p (Oy (·.setIfInBounds j u)) } :=
  I.lstUpd hp ho (XQb ag n j u) (r.set rv j) (by rw[length_set];exact hz) s.toks
 by_cases h0:0<=k
 ·have hk:k.toNat=j:=by
   rw[seqIndex_of h0 h4]at h1;exact Vr h1
  exact W.ki_setAt ho h0 #[0] (by rw[UE,<- hl];exact h4) (by rw[hk];exact⟨_,I',q⟩)
 ·have hk:(k+(ag.toArray.size:Int)).toNat=j:=by
   rw[seqIndex_neg #[0] h3]at h1
   rw[UE,<- hl];exact Vr h1
  exact W.ki_setBack ho #[0] (by rw[UE,<- hl];exact h3) #[0] (by rw[hk];exact⟨_,I',q⟩)
theorem JJa(lo hi:Option Int)(n:Nat):(OB lo hi Vp n).1=((HT.sIx n 0 lo:Nat):Int)/\(OB lo hi Vp n).2.1=((HT.sIx n n hi:Nat):Int)/\(OB lo hi Vp n).2.2=1:=by
 refine⟨?_,?_,rfl⟩
 ·cases lo with
  | none=>simp[OB,HT.sIx]
  | some i =>
   simp only[OB,HT.sIx,Option.getD_none,show(1:Int) > 0 by decide,if_true]
   by_cases h:i < 0
   ·simp only[h,if_true] <;> lia
   ·simp only[h,if_false] <;> lia
 ·cases hi with
  | none=>simp[OB,HT.sIx]
  | some i =>
   simp only[OB,HT.sIx,Option.getD_none,show(1:Int) > 0 by decide,if_true]
   by_cases h:i < 0
   ·simp only[h,if_true] <;> lia
   ·simp only[h,if_false] <;> lia
theorem Qxb(ag:List Va)(lo hi:Option Int):slicePick ag.toArray lo hi Vp=((ag.drop (HT.sIx ag.length 0 lo)).take (HT.sIx ag.length ag.length hi - HT.sIx ag.length 0 lo)).toArray:=by
 obtain⟨h1,h2,h3⟩:=JJa lo hi ag.toArray.size;unfold slicePick;rw[h1,h2,h3];simp only[sliceRange_one,pick_run,UE] <;> rfl
def Yec(K:VD):V->Option Int->Option Int->Hp->VK->Prop:=λx lo hi H Q=>∃ a xs,x=.ref a/\SqL K H a xs/\∀ p,H p=Vp->Q (.ref p) (upd H p (.lst (XB xs lo hi)))
theorem XS:SlR X (Yec X.K):=by
 intro aa s σ H x v vl vu lo hi sl Q I rx hs pl pu h;obtain⟨a,xs,rfl,hx,q⟩:=h;cases rx;obtain⟨ag,r,ht,hz⟩:=I.list hx;have av:=r.length;refine⟨"list",_,slot_list_getitem.lookup,ht.isList.typeIs,?_⟩
 refine wpAny_getItem_list_slice ht.isList hs pl pu .none #[2] ?_ (by rw[UE] <;> lia)
 rw[Qxb,<- av];refine⟨.ref s.heap.objs.size,_,I.laid (t':=s.toks) (o:=.lst (XB xs lo hi)) (λb ob q=>Us _ q) (Uu _) ?_,rfl,q _ (I.hok.fresh (Uu _))⟩
 exact⟨VJ (Ydb xs lo hi) hz,_,0,(r.drop (HT.sIx xs.length 0 lo)).take (HT.sIx xs.length xs.length hi - HT.sIx xs.length 0 lo),Ut _ rfl⟩
def Yd:V->Bool
 | .non=>true
 | .bl _=>true
 | .int _=>true
 | .str _=>true
 | _=>false
def eqV:V->V->Bool
 | .non,.non=>true
 | .bl a,.bl b=>a == b
 | .bl a,.int b=>(if a then 1 else 0) == b
 | .int a,.bl b=>a == (if b then 1 else 0)
 | .int a,.int b=>a == b
 | .str a,.str b=>a == b
 | _,_=>false
theorem Xwa{A:VG}{s:VH}{y x:V}{u v:Va}(ry:QB y u)(rx:QB x v)(fy:Yd y=true)(fx:Yd x=true):Oq A s u v (eqV y x):=by
 cases y with
 | non =>
  cases ry;cases x with
  | non=>cases rx;exact SeqAt.EqAt.same _
  | bl b=>cases rx;exact SeqAt.EqAt.none_bool b
  | int b=>obtain⟨t,rfl⟩:=rx;exact SeqAt.EqAt.none_int b t
  | str b=>obtain⟨t,rfl⟩:=rx;exact SeqAt.EqAt.none_str b t
  | _=>exact absurd (show false=true from fx) Uh
 | bl a =>
  cases ry;cases x with
  | non=>cases rx;exact SeqAt.EqAt.bool_none a
  | bl b=>cases rx;exact SeqAt.EqAt.bool_bool a b
  | int b=>obtain⟨t,rfl⟩:=rx;exact SeqAt.EqAt.bool_int a b t
  | str b=>obtain⟨t,rfl⟩:=rx;exact SeqAt.EqAt.bool_str a b t
  | _=>exact absurd (show false=true from fx) Uh
 | int a =>
  obtain⟨t',rfl⟩:=ry;cases x with
  | non=>cases rx;exact SeqAt.EqAt.int_none a t'
  | bl b=>cases rx;exact SeqAt.EqAt.int_bool a t' b
  | int b=>obtain⟨t,rfl⟩:=rx;exact SeqAt.EqAt.int_int a t' b t
  | str b=>obtain⟨t,rfl⟩:=rx;exact SeqAt.EqAt.int_str a t' b t
  | _=>exact absurd (show false=true from fx) Uh
 | str a =>
  obtain⟨t',rfl⟩:=ry;cases x with
  | non=>cases rx;exact SeqAt.EqAt.str_none a t'
  | bl b=>cases rx;exact SeqAt.EqAt.str_bool a t' b
  | int b=>obtain⟨t,rfl⟩:=rx;exact SeqAt.EqAt.str_int a t' b t
  | str b=>obtain⟨t,rfl⟩:=rx;exact SeqAt.EqAt.str_str a t' b t
  | _=>exact absurd (show false=true from fx) Uh
 | _=>exact absurd (show false=true from fy) Uh
def eqU(x:V)(u:Va):Bool:=match u with
 | .none=>eqV .non x
 | .bool b=>eqV (.bl b) x
 | .int i _=>eqV (.int i) x
 | .str z _=>eqV (.str z) x
 | _=>false
theorem Yfc{x y:V}{u:Va}(r:QB y u)(f:Yd y=true):eqU x u=eqV y x:=by
 cases y with
 | non=>cases r;rfl
 | bl b=>cases r;rfl
 | int i=>obtain⟨t,rfl⟩:=r;rfl
 | str z=>obtain⟨t,rfl⟩:=r;rfl
 | _=>exact absurd (show false=true from f) Uh
theorem ZQb{x:V}:∀ {xs:List V} {us:List Va},Qz xs us->xs.all Yd=true->us.any (eqU x)=xs.any λy=>eqV y x
 | _,_,.nil,_=>rfl
 | y::xs,u::us,.cons r t,f=>by
  rw[DJ,OC]at f;rw[OD,OD,Yfc r f.1,ZQb t f.2]
theorem Xxa{A:VG}{s:VH}{x:V}{v:Va}(rx:QB x v)(fx:Yd x=true):∀ {xs:List V} {us:List Va},Qz xs us->xs.all Yd=true->∀ u∈us,Oq A s u v (eqU x u)
 | _,_,.nil,_=>λu hu=>by cases hu
 | y::xs,u::us,.cons r t,f=>λu' hu=>by
  rw[DJ,OC]at f
  rcases mem_cons.mp hu with rfl | hu
  ·rw[Yfc r f.1];exact Xwa r rx f.1 fx
  ·exact Xxa rx fx t f.2 u' hu
def inV(x:V)(xs:List V):Bool:=xs.any λy=>eqV y x
def rIn(K:VD)(neg:Bool):R2:=λx y H Q=>∃ p xs,y=.ref p/\(SqL K H p xs\/SqT K H p xs)/\Yd x=true/\xs.all Yd=true/\Q (.bl (if neg then !inV x xs else inV x xs)) H
theorem ZRc:OpR X (V2 .In) (rIn X.K false):=by
 intro aa s σ H x y v u Q I rx ry h;obtain⟨p,xs,rfl,hq,fx,fs,q⟩:=h;cases ry
 rcases hq with hq | hq
 ·obtain⟨ag,r,pl,hz⟩:=I.list hq
  refine SeqAt.in_listAt (eqU x) pl.isList (λw hw=>Xxa rx fx r fs w (by simpa using hw)) ⟨.bl _,H,I,rfl,?_⟩
  rw[show ag.toArray.any (eqU x)=ag.any (eqU x) by simp,ZQb r fs]
  exact q
 ·obtain⟨ag,r,pl,hz⟩:=I.tuple hq
  refine SeqAt.in_tupleAt (eqU x) pl (λw hw=>Xxa rx fx r fs w (by simpa using hw)) ⟨.bl _,H,I,rfl,?_⟩
  rw[show ag.toArray.any (eqU x)=ag.any (eqU x) by simp,ZQb r fs]
  exact q
theorem QJ:JV X (.builtin "len") (λxs H Q=>∃ p ys,xs=[.ref p]/\(SqL X.K H p ys\/SqT X.K H p ys)/\Q (.int ys.length) H):=by
 intro aa s σ H xs us Q I r h;obtain⟨p,ys,rfl,hq,q⟩:=h;obtain⟨u,rfl,rx⟩:=Y5 r;cases rx;have hn:=Z1a
 rcases hq with hq | hq
 ·obtain⟨ag,r',pl,hz⟩:=I.list hq
  have av:=r'.length;exact Calls.call_len_list pl.isList (by simp only[UE] <;> lia) ⟨.int ys.length,H,I.tok _,⟨s.toks+1,by rw[UE,av]⟩,q⟩
 ·obtain⟨ag,r',pl,hz⟩:=I.tuple hq
  have av:=r'.length;exact len_tuple pl (by simp only[UE] <;> lia) ⟨.int ys.length,H,I.tok _,⟨s.toks+1,by rw[UE,av]⟩,q⟩
theorem Yk:JV X (.builtin "len") (λxs H Q=>∃ z,xs=[.str z]/\z.length<=Vs/\Q (.int z.length) H):=by
 intro aa s σ H xs us Q I r h;obtain⟨z,rfl,hz,q⟩:=h;obtain⟨u,rfl,t,rfl⟩:=Y5 r;have hn:=Z1a;exact len_str #[0] ⟨.int z.length,H,I.tok _,⟨_,rfl⟩,q⟩
theorem Yl:JV X (.type "list") (λxs H Q=>∃ p ys,xs=[.ref p]/\(SqL X.K H p ys\/SqT X.K H p ys)/\∀ l,H l=Vp->Q (.ref l) (upd H l (.lst ys))):=by
 intro aa s σ H xs us Q I r h;obtain⟨p,ys,rfl,hq,q⟩:=h;obtain⟨u,rfl,rx⟩:=Y5 r;cases rx;have fin:∀ (ag:List Va),Qz ys ag->ys.length<=Vs->∀ (h':Vq) (c':Nat),(∀ b o',s.heap.get? b=Vo o'->h'.get? b=Vo o') ->
  h'.get? s.heap.objs.size=Vo { cls:=.type "list",dict:=Vp,data:=.seq ag.toArray c',slots:=#[] }->EP X aa σ Q (.ref s.heap.objs.size) { s with heap:=h' }:=λag r' hz h' c' kp e =>
  ⟨.ref s.heap.objs.size,_,I.laid (t':=s.toks) kp (Uu _) (show QN X.prog X.w _ h' _ (.lst ys) from⟨hz,ag,c',r',e⟩),rfl,q _ (I.hok.fresh (Uu _))⟩
 rcases hq with hq | hq
 ·obtain⟨ag,r',pl,hz⟩:=I.list hq
  have av:=r'.length;obtain⟨o,ho,hc,n,hd⟩:=pl.isList;exact call_list_seq p (.inl rfl) ho hc hd (λh' c' kp e=>fin ag r' hz h' c' kp e) (by simp only[UE] <;> lia)
 ·obtain⟨ag,r',pl,hz⟩:=I.tuple hq
  have av:=r'.length;obtain⟨o,ho,hc,n,hd⟩:=pl;exact call_list_seq p (.inr rfl) ho hc hd (λh' c' kp e=>fin ag r' hz h' c' kp e) (by simp only[UE] <;> lia)
theorem ZY:JV X (.type "tuple") (λxs H Q=>∃ p ys,xs=[.ref p]/\((SqL X.K H p ys/\∀ l,H l=Vp->Q (.ref l) (upd H l (.tup ys)))\/(SqT X.K H p ys/\Q (.ref p) H))):=by
 intro aa s σ H xs us Q I r h;obtain⟨p,ys,rfl,h⟩:=h;obtain⟨u,rfl,rx⟩:=Y5 r;cases rx
 rcases h with ⟨hq,q⟩ | ⟨hq,q⟩
 ·obtain⟨ag,r',pl,hz⟩:=I.list hq
  have av:=r'.length;refine call_tuple_list pl.isList (λh' kp=>?_) (by simp only[UE] <;> lia)
  have I1:Inv X aa σ H { s with heap:=h' }:=I.kept (t':=s.toks) kp
  have I2:Inv X aa σ (upd H h'.objs.size (.tup ys)) { s with heap:=h'.push { cls:=.type "tuple",data:=.seq ag.toArray } } :=
   I1.laid (t':=s.toks) (λb o e=>Us _ e) (Uu _) (show QN X.prog X.w _ _ _ (.tup ys) from⟨⟨hz,_,Ut _ rfl,rfl⟩,ag,r',IsTup.new _ _⟩)
  exact⟨.ref h'.objs.size,_,I2,rfl,q _ (I1.hok.fresh (Uu _))⟩
 ·obtain⟨ag,r',pl,hz⟩:=I.tuple hq
  exact call_tuple_same pl ⟨.ref p,H,I,rfl,q⟩
def tyV(K:VD)(T:String)(x:V)(H:Hp):Prop:=match x with
 | .str _=>T="str"
 | .int _=>T="int"
 | .ref p=>(T="list"/\∃ xs,SqL K H p xs)\/(T="tuple"/\∃ o,K.lookup p=Vo o/\o.cls=.type "tuple"/\o.dict=Vp) \/
  (T="dict"/\((∃ ac,H p=Vo (.dK ac))\/∃ ac,H p=Vo (.dT ac)))\/(T="set"/\∃ S n,H p=Vo (.set S n))
 | _=>False
theorem ZVd{aa:YP_}{σ:St}{H:Hp}{s:VH}{T:String}{x:V}{v:Va}(I:Inv X aa σ H s)(r:QB x v)(ty:tyV X.K T x H) :
 s.TypeIs v T/\∀ a,v=.ref a->∃ ob,s.heap.get? a=Vo ob/\ob.dict=Vp:=by
 cases x with
 | str z =>
  obtain⟨t,rfl⟩:=r;cases (show T="str" from ty)
  exact⟨typeIs_str s z t,λ_ e=>nomatch e⟩
 | int i =>
  obtain⟨t,rfl⟩:=r;cases (show T="int" from ty)
  exact⟨typeIs_int s i t,λ_ e=>nomatch e⟩
 | ref p =>
  cases r
  rcases ty with ⟨rfl,xs,hq⟩ | ⟨rfl,o,hk,hc,hd⟩ | ⟨rfl,hk⟩ | ⟨rfl,S,n,hk⟩
  ·obtain⟨ag,_,pl,_⟩:=I.list hq
   refine⟨pl.isList.typeIs,λa e=>?_⟩
   cases e;obtain⟨o,n,e,c,hd,_⟩:=pl;exact⟨o,e,hd⟩
  ·refine⟨⟨o,I.kIn p o hk,hc⟩,λa e=>?_⟩
   cases e;exact⟨o,I.kIn _ o hk,hd⟩
  ·have z:∃ o,s.heap.get? p=Vo o/\o.ExactDict:=by
    rcases hk with ⟨ac,hk⟩ | ⟨ac,hk⟩
    ·obtain⟨_,_,_,_,o,_,_,e,ex,_⟩:=I.hok p _ hk
     exact⟨o,e,ex⟩
    ·obtain⟨_,_,_,_,o,_,_,e,ex,_⟩:=I.hok p _ hk
     exact⟨o,e,ex⟩
   obtain⟨o,e,ex⟩:=z;refine⟨⟨o,e,ex.1⟩,λa e2=>?_⟩
   cases e2;exact⟨o,e,ex.2.1⟩
  ·obtain⟨o,_,_,_,e,ex,_⟩:=I.hok p _ hk
   refine⟨⟨o,e,ex.1⟩,λa e2=>?_⟩
   cases e2;exact⟨o,e,ex.2.1⟩
 | _=>exact V8 ty
def tBM(K:VD)(T:String)(r:V->List V->Hp->VK->Prop)(to:TE)(t:TA):TE:=λσ H Q=>to σ H λx H1=>tyV K T x H1/\t σ H1 λxs H2=>r x xs H2 Q
variable{o e:Expr}{es:List Expr}{to:TE}{t:TA}{name:Str}{ak aq:Pos}{T id:String}{r:V->List V->Hp->VK->Prop}
theorem YF(pa:PlainAttrs T)(slot:Slot T name id)(vH:typeOf (.builtin id)=pure (.type "method_descriptor"))(hm:MtR X id r)(ho:PE X o to)(ha:PA X (e::es) t)
 (bQ:UU o name X.env (VX o X.env)=VX o X.env:=by rfl)
 (jm:((VY aq (VZ (e::es) X.env)).all (λx=>!x.1) && (U8 aq (U9 [] X.env)).all (λx=>x.1.isSome)
  && decide ((e::es).length+([]:List U7).length+(if ([]:List U7).isEmpty then 0 else 1) < 30))=true:=by rfl)
 (c8:(ak.endLine == aq.line)=true:=by rfl) (hs:VZ (e::es) X.env=(false,VX e X.env)::VZ es X.env:=by rfl) (gn:(VY aq (VZ es X.env)).any (·.1)=false:=by rfl) :
 PE X (.Call (.Attribute o name ak) (e::es) [] aq) (tBM X.K T r to t):=by
 intro aa s σ H Q I h;refine wpAny_Call_method_late bQ jm c8 rfl (thn (ho aa s σ H _ I h) λv s1 hZ=>?_)
 obtain⟨x,H1,I1,r1,ty,q1⟩:=hZ;obtain⟨h1,h2⟩:=ZVd I1 r1 ty;refine⟨T,id,pa,slot,vH,h1,h2,?_⟩
 have hA:=ha aq aa s1 σ H1 _ I1 q1;rw[hs]at hA ⊢;refine OE (by show(false || (VY aq (VZ es X.env)).any (·.1))=false;rw[gn] <;> rfl) (OF ?_)
 exact thn hA λus s2 ⟨vs,H2,I2,r2,q2⟩=>hm aa s2 σ H2 x vs v us Q I2 r1 r2 q2
end
def MtM(X:Cx)(id:String)(r:V->List V->Hp->VK->Prop):Prop :=
 ∀ (aa:YP_) (s:VH) (σ:St) (H:Hp) (x:V) (xs:List V) (v:Va) (us:List Va) (Q:VK),Inv X aa σ H s->QB x v->Qz xs us->r x xs H Q ->
  VV (VW X.prog X.w) X.A (Uz (.builtin id) (v::us)) (EP X aa σ Q) X.xe s
theorem Qz.one:∀ {x:V} {us:List Va},Qz [x] us->∃ u,us=[u]/\QB x u
 | _,_,.cons r .nil=>⟨_,rfl,r⟩
section
variable{X:Cx}{aa:YP_}{σ:St}{H:Hp}{s:VH}{l b:Vh}{xs ys zs:List V}
theorem Inv.lset{ag its':List Va}{n:Nat}{f:Array Va->Array Va}{t':Nat}(I:Inv X aa σ H s)(hH:H l=Vo (.lst xs))
 (e:s.heap.get? l=Vo { cls:=.type "list",data:=.seq ag.toArray n }) (hf:f ag.toArray=its'.toArray) (hv:Qz ys its') (hz:ys.length<=Vs) :
 Inv X aa σ (upd H l (.lst ys)) { s with heap:=s.heap.update l (Oy f),toks:=t' }:=by
 have q:=PySem.IsL.update e f;rw[hf]at q;refine I.write (x:=l) (e:=l) (by rw[hH];exact trivial) (.inl rfl) (λb' u hb hu=>(OA s.heap (Oy f) (VR hb)).trans hu) ⟨_,q⟩ ?_
 exact⟨hz,its',_,hv,q⟩
theorem Inv.lnew{ag:List Va}{t':Nat}(I:Inv X aa σ H s)(hv:Qz ys ag)(hz:ys.length<=Vs) :
 Inv X aa σ (upd H s.heap.objs.size (.lst ys)) { s with heap:=s.heap.push { cls:=.type "list",data:=.seq ag.toArray },toks:=t' } :=
 I.laid (λ_ _ q=>Us _ q) (Uu _) ⟨hz,ag,0,hv,Ut _ rfl⟩
theorem Inv.fresh(I:Inv X aa σ H s):H s.heap.objs.size=Vp:=I.hok.fresh (Uu _)
theorem Inv.lstM(I:Inv X aa σ H s)(hH:H l=Vo (.lst xs)):xs.length<=Vs/\∃ (ag:List Va) (n:Nat),Qz xs ag/\xs.length=ag.length/\s.heap.get? l=Vo { cls:=.type "list",data:=.seq ag.toArray n }:=by
 obtain⟨z,ag,n,r,e⟩:=I.hok l _ hH;exact⟨z,ag,n,r,r.length,e⟩
theorem Ygc{n:Nat}(h:n<=Vs):OG n=false:=by
 unfold OG;exact decide_eq_false #[0]
end
section
variable{X:Cx}
def Q8c:V->List V->Hp->VK->Prop:=λx vs H Q=>∃ l xs y,x=.ref l/\vs=[y]/\H l=Vo (.lst xs)/\xs.length < Vs/\Q .non (upd H l (.lst (xs++[y])))
theorem ZB:MtM X "list.append" Q8c:=by
 intro aa s σ H x vs v us Q I rx rv h;obtain⟨l,xs,y,rfl,rfl,hH,hz,q⟩:=h;cases rx;obtain⟨u,rfl,ru⟩:=rv.one;obtain⟨z,ag,n,r,hl,e⟩:=I.lstM hH;refine call_meets F.slot_list_append ⟨_,e,rfl⟩ F.entry_list_append (F.args_list_append_2 _ _) (PySem.list_append l ag.toArray n u (by rw[UE];lia)) ⟨e,?_⟩
 refine⟨.non,_,I.lset (its':=ag++[u]) hH e #[2] (r.append (.cons ru .nil)) ?_,rfl,q⟩
 rw[On,OH]
 lia
def Yhc:R2:=λx y H Q=>∃ l b xs zs,x=.ref l/\y=.ref b/\H l=Vo (.lst xs)/\H b=Vo (.lst zs)/\xs.length+zs.length<=Vs/\∀ p,H p=Vp->Q (.ref p) (upd H p (.lst (xs++zs)))
theorem QOa:OpR X (UA .Add) Yhc:=by
 intro aa s σ H x y v u Q I rx ry h;obtain⟨l,b,xs,zs,rfl,rfl,hH,hB,hz,q⟩:=h;cases rx;cases ry;obtain⟨z,ag,n,r,hl,e⟩:=I.lstM hH;obtain⟨z2,aG,n2,r2,iU,e2⟩:=I.lstM hB;refine PySem.P.add_list e e2 ?_ (by rw[UE,UE];lia)
 have ea:ag.toArray++aG.toArray=(ag++aG).toArray:=by simp
 rw[ea];exact⟨.ref _,_,I.lnew (t':=s.toks) (r.append r2) (by rw[On];lia),rfl,q _ I.fresh⟩
end
section
variable{prog:Vg}{w:Vb}{A:VG}{E:YQ_}{s:VH}
end
section
variable{X:Cx}
end
end L2
namespace Att
open PySem PySem.W PySem.Calls PyProof.Rows
theorem YZa{P:Params}{h:Vq}:∀ (ns:List Int) (vs:List Va),WellAll P h vs (ns.map OI)->IntsAre vs ns:=by
 intro ns
 induction ns with
 | nil =>
  intro vs w;rw[OJ]at w;cases w;exact .nil
 | cons n ns ih =>
  intro vs w;rw[UO]at w;cases w with
  | cons a b =>
   cases a;exact .cons _ _ (ih _ b)
theorem ZSc{l:OpenLaw}{n:Nat}(hn:l.most=Vo n){P:Params}{h:Vq}{args:List WData}{gq:List Va}
 (eJ:l.row.toRowW.claim.pre args=true) (m9:WellAll P h gq args) :
 ∃ a vs ns,gq=[Vk a]/\args=[WData.list (ns.map OI)]/\h.get? a=Vo { cls:=.type "list",data:=.seq vs.toArray }/\IntsAre vs ns/\ns.length<=n:=by
 have jn:WShape.hasAll [] args [.list .int]=true:=(pre_splitW eJ).1;have hc:l.pre.holds [] { args:=args }=true:=(pre_splitW eJ).2;obtain⟨d,r,rfl,h1,h2⟩:=hasAllW_cons jn;obtain rfl:=hasAllW_nil h2;obtain⟨xs,rfl,h3⟩:=hasW_list h1;obtain⟨ns,rfl⟩:=items_int h3;have av:ns.length<=n:=by
  unfold OpenLaw.pre at hc;have h4:(WTm.not (.lt (.lit (.int (n:Int))) (.len (.arg 0)))).holds [] { args:=[.list (ns.map .int)] }=true:=by
   have h4:=(holds_andW hc).1;rw[hn]at h4;exact h4
  have h5:=condW_of h4 (w_not (w_lt w_lit (w_len_list (w_arg rfl))));rw[UQ]at h5;refine Nat.le_of_not_lt λq=>?_
  have q':(n:Int) < ((ns.length:Nat):Int):=by lia
  first
   | (rw[decide_eq_true q']at h5;exact absurd h5 #[1])
   | (simp at h5;lia)
 cases m9 with
 | cons w1 w2 =>
  cases w2;cases w1 with
  | list ho hall=>exact⟨_,_,ns,rfl,rfl,ho,YZa ns _ hall,av⟩
theorem ZTc(l:OpenLaw)(args:List WData):l.row.toRowW.claim.post args (.bool true) args=true :=
 postW_of (r:=l.row.toRowW) (X:=(true == true))
  (show WShape.has [] (.bool true) .bool=true by first | rfl | decide | simp[WShape.has,WShape.arms,WShape.armsAll])
  (show(WTm.eq .res (.lit (.bool true))).value [] { args:=args,res:=Vo (.bool true),after:=args }=Vo (.bool (true == true)) from w_eq_bool (w_res rfl) w_lit) rfl
section
variable{prog:Vg}{w:Vb}{A:VG}{E:YQ_}{s:VH}{K:VD}
end
end Att
namespace L2
open PySem PySem.Spec PyProof.Rows
theorem Zeb:∀ {vs:List Va} {ns:List Int},IntsAre vs ns->Qz (ns.map V.int) vs
 | _,_,.nil=>.nil
 | _,_,.cons n t h=>.cons ⟨t,rfl⟩ (Zeb h)
def ZWd(H:Hp):Prop:=∀ b,H b=Vp\/∃ o xs,H b=Vo (.frz o (.lst xs))
theorem Yic{P:Vg}{w:Vb}{K:VD}{mg mb:Str->Option Va}{CX:CXT}{k:Nat}{fa a:Vh}{fd:U0}{x:Str}{sp:Sp}{s₁:VH}{vs:List Va}{ns:List Int}
 (KX:K.In s₁.heap) (lX:s₁.heap.Ns VE mg) (hb:s₁.heap.Ns builtinsNs mb) (vI:∀ x:Str,x≠"__name__"->mb x=VF x) (ng:s₁.heap.NoLimit) (hg:s₁.gens=#[])
 (ha:s₁.heap.get? a=Vo { cls:=.type "list",data:=.seq vs.toArray }) (hi:IntsAre vs ns) (hl:ns.length<=Vs) (hr:Q5 k OM)
 (F:∀ base:Vq,K.In base->base.Ns VE mg->Qy P w K mg base CX k fa fd [x] sp) (jo:∀ (s:VH) (u:Va),BindsTo s fd ⟨[u],[]⟩ [(x,u)])
 (b9:∀ H:Hp,ZWd H->SqL K H a (ns.map V.int)->sp [.ref a] H (λv _=>v=.bl true) λ_ _ _=>False)
 (nh:∀ H e s',CX [] H s₁ (λ_ _ _=>False) e s'->False) :
 UL (VW P w) OM (.call (.ref fa) ⟨[.ref a],[]⟩) (λr s'=>r=.ok (.ret (.bool true))/\OldK s₁.heap s'.heap/\s'.os=s₁.os/\VI s'.gens) s₁:=by
 have rv:=Zeb hi;have ni:=hi.length;have eK:∀ H:Hp,ZWd H->SqL K H a (ns.map V.int)->HOk P w H s₁.heap->(∀ b,H b≠Vp->b=a)->(H a≠Vp->K.lookup a=Vp) ->
  UL (VW P w) OM (.call (.ref fa) ⟨[.ref a],[]⟩) (λr s'=>r=.ok (.ret (.bool true))/\OldK s₁.heap s'.heap/\s'.os=s₁.os/\VI s'.gens) s₁:=by
  intro H hO hS hok hA hK;have cq:∀ {b:Vh} {o:Obj},s₁.heap.get? b=Vo o->H b=Vp->(ZJb s₁.heap H).get? b=Vo o:=λe n=>JUc e n
  have jj:∀ {b:Vh} {o:Obj} {es:Array DictEntry} {ep:Nat},s₁.heap.get? b=Vo o->o.data=.dict es ep->H b=Vp:=λ{b o es ep} e d=>by
   cases q:H b with
   | none=>rfl
   | some u =>
    have e':b=a:=hA b (by rw[q];simp)
    subst e';rw[ha]at e;cases e;have d':Data.seq vs.toArray _=Data.dict es ep:=d;cases d'
  have lY:∀ {b:Vh} {m:Str->Option Va},s₁.heap.Ns b m->(ZJb s₁.heap H).Ns b m:=λ{b m} ⟨o,es,ep,e,d,r⟩=>⟨o,es,ep,cq e (jj e d),d,r⟩
  have qI:K.In (ZJb s₁.heap H):=λb o e=>cq (KX b o e) (by
   cases q:H b with
   | none=>rfl
   | some u =>
    have e':b=a:=hA b (by rw[q];simp)
    subst e';rw[hK (by rw[q];simp)]at e;cases e)
  have hM:Mod K mg (ZJb s₁.heap H):=⟨qI,lY lX,⟨mb,lY hb,vI⟩,let ⟨mc,h1,h2⟩:=ng;⟨mc,lY h1,h2⟩⟩
  have e0:XOb P w K mg (ZJb s₁.heap H) OM [] s₁ H:=⟨rfl,hM,λb o e=>X2c e,Nat.le_of_eq (ZJc _ _),trivial,λb hb=>absurd (show b∈([]:List Vh) from hb) #[2],hok,.of_eq hg⟩
  refine U3 ((F _ qI (lY lX)).run OM [] s₁ H ⟨[.ref a],[]⟩ [.ref a] [.ref a] _ _ hr e0 (jo s₁ (.ref a)) (.cons rfl .nil) (b9 H hO hS)) λr s' h=>?_
  cases r with
  | error e=>exact(nh H e s' h).elim
  | ok fl =>
   cases fl with
   | next=>exact V8 h
   | brk=>exact V8 h
   | cont=>exact V8 h
   | ret u =>
    obtain⟨v,H',os,bare,un,nj,r',q⟩:=h;have q':v=.bl true:=q;subst q';obtain rfl:u=Vj true:=r';refine⟨rfl,OldK.of_keep λb o e=>?_,os,bare⟩
    cases q:H b with
    | none=>exact un.keep b o e q (by intro z;exact absurd (show b∈([]:List Vh) from z) #[2]) #[2]
    | some u =>
     rcases hO b with z | ⟨ob,xs,z⟩
     ·rw[q]at z;cases z
     ·have z2:=un.frzs b ob _ z
      obtain⟨e1,_⟩:=hok b _ z;obtain⟨e2,_⟩:=nj b _ z2;rw[e]at e1;cases e1;exact e2
 cases hk:K.lookup a with
 | some o =>
  have e:=KX a o hk;rw[ha]at e;cases e;refine eK (λ_=>Vp) (λ_=>.inl rfl) (.inr ⟨_,vs.toArray,_,hk,rfl,rfl,rfl,by rw[UE,ni];exact hl,by simpa using rv⟩) (λb u z=>by have z':(Vp:Option HO)=Vo u:=z;cases z') (λb z=>absurd rfl z) λz=>absurd rfl z
 | none =>
  refine eK (λb=>if b=a then Vo (.frz { cls:=.type "list",data:=.seq vs.toArray } (.lst (ns.map V.int))) else Vp) (λb=>?_) (.inl (.inr ⟨{ cls:=.type "list",data:=.seq vs.toArray },if_pos rfl⟩)) (λb u z=>?_) (λb z=>?_) λ_=>hk
  ·by_cases hb:b=a
   ·exact .inr ⟨_,_,if_pos hb⟩
   ·exact .inl (if_neg hb)
  ·by_cases hb:b=a
   ·have z':=(if_pos hb).symm.trans z
    cases z';subst hb;exact⟨ha,by rw[UQ];exact hl,vs,_,rv,ha⟩
   ·have z':=(if_neg hb).symm.trans z
    cases z'
  ·by_cases hb:b=a
   ·exact hb
   ·exact absurd (if_neg hb) z
def Ym(s:V0):Arguments:=match s with
 | .FunctionDef _ a _ _ _ _ _ _ _ _=>a
 | _=>{ posonlyargs:=[],args:=[],vararg:=Vp,kwonlyargs:=[],kw_defaults:=[],kwarg:=Vp,defaults:=[] }
def Z8(s:V0):List V0:=match s with
 | .FunctionDef _ _ b _ _ _ _ _ _ _=>b
 | _=>[]
def Qg(s:V0):Scope:=match s with
 | .FunctionDef _ _ _ _ _ _ sc _ _ _=>sc
 | _=>{ kind:=.function,names:=[],isGenerator:=false,isCoroutine:=false }
abbrev CX0:CXT:=λ_ _ _ _ _ _=>False
abbrev E0:XK:=λ_ _ _=>False
theorem Zfb{X:Cx}:Z3a CX0 X E0:=λ_ _ _ _ _ _ _ h=>h.elim
structure Fun(K:VD)(x qual:Str)(st:V0)(f:Vh)(fd:U0):Prop where
 ex:∃ (oc:Va) (od:Option Vh) (kV aO pm:Va) (an:Option Vh) (ah ct:Va) (bv:Array (Option Va)),
  fd=Oo x qual (Ym st) (Z8 st) (Qg st) .none kV aO pm an ah ct/\K.lookup f=Vo ⟨oc,od,.func fd,bv⟩/\Op K ah qual=true
 kp:UP K (.ref f)=true
section
variable{P:Vg}{w:Vb}{K:VD}{mg:Str->Option Va}{base:Vq}
theorem Fun.ok{x qual:Str}{st:V0}{f:Vh}{fd:U0}{N ps:List Str}{k:Nat}{sp:Sp}(F:Fun K x qual st f fd)(S:Qp N ps (Qg st))(len:∀ vs H Q E,sp vs H Q E->vs.length=ps.length)
 (bh:∀ (ah:Va) (A:VG) (outer:List Env) (s:VH) (H:Hp) (vs:List V) (Q:VK) (E:XK),Q5 k (A.deeper (Oe qual (Qg st) s.heap.objs.size f ah))->sp vs H Q E ->
  ∃ t,PSs (Z4a CX0 P w K mg base N qual (Qg st) f ah A outer s H E).nox (Z8 st) t/\t { nx:=λ_ H'=>Q .non H',rt:=Q } (ZMa N vs) H):Qy P w K mg base CX0 (k+1) f fd ps sp:=by
 obtain⟨oc,od,kV,aO,pm,an,ah,ct,bv,rfl,lk,bc⟩:=F.ex;refine Yac lk bc S len λA outer s H vs Q E hr b9=>?_
 obtain⟨t,h,q⟩:=bh ah A outer s H vs Q E hr b9;exact⟨t,h.nox,q⟩
theorem Fun.binds{x qual:Str}{st:V0}{f:Vh}{fd:U0}{ps:List Str}(F:Fun K x qual st f fd)
 (h:∀ (kV aO pm:Va) (an:Option Vh) (ah ct:Va) (us:List Va),us.length=ps.length->bindArgs (Oo x qual (Ym st) (Z8 st) (Qg st) .none kV aO pm an ah ct) ⟨us,[]⟩=pure (ps.zip us)):ZA K fd ps []:=by
 obtain⟨oc,od,kV,aO,pm,an,ah,ct,bv,rfl,lk,bc⟩:=F.ex;exact .all (h kV aO pm an ah ct)
theorem ZXd{x qual:Str}{st:V0}{f:Vh}{oc:Va}{od an:Option Vh}{bv:Array (Option Va)}{kV aO pm ah ct:Va}(l:K.lookup f=Vo ⟨oc,od,.func (Oo x qual (Ym st) (Z8 st) (Qg st) .none kV aO pm an ah ct),bv⟩)
 (c:Op K ah qual=true) (k:UP K (.ref f)=true):Fun K x qual st f (Oo x qual (Ym st) (Z8 st) (Qg st) .none kV aO pm an ah ct):=⟨⟨oc,od,kV,aO,pm,an,ah,ct,bv,rfl,l,c⟩,k⟩
end
theorem QA{n:Nat}(h:n<=1000):n < Vs:=Nat.lt_of_le_of_lt h #[1]
section
variable{X:Cx}
theorem pv(i:Nat){x:Str}{pos:Pos}(hN:X.N[i]?=Vo x:=by rfl)(hv:Vis X.env.scope x:=by first | exact ON rfl | exact Or.inr (ON rfl) | exact Or.inr (Or.inr rfl))(hd:(x == ("__debug__":Str))=false:=by decide)
 (bc:(x == ("__classdict__":Str))=false:=by decide):PE X (.Name x pos) (Yi i):=ZLd hN hv hd bc
end
theorem Qtd{A B:Prop}(h:A):if true=true then A else B:=by
 rw[if_pos rfl];exact h
theorem Zm{c A B:Prop}[Decidable c](h1:c->A)(h2:¬ c->B):if c then A else B:=by
 by_cases h:c
 ·rw[if_pos h]
  exact h1 h
 ·rw[if_neg h]
  exact h2 h
def Qj(H H':Hp):Prop:=∀ b o,H b=Vo o->H' b=Vo o
theorem Qj.refl(H:Hp):Qj H H:=λ_ _ h=>h
theorem Qj.trans{H H1 H2:Hp}(a:Qj H H1)(b:Qj H1 H2):Qj H H2:=λc o h=>b c o (a c o h)
theorem Qj.seq{K:VD}{H H':Hp}{a:Vh}{xs:List V}(e:Qj H H')(h:SqL K H a xs):SqL K H' a xs:=by
 rcases h with (h | ⟨o,h⟩) | h
 ·exact .inl (.inl (e _ _ h))
 ·exact .inl (.inr ⟨o,e _ _ h⟩)
 ·exact .inr h
section
variable(P:Vg)(w:Vb)
end
section
variable{P:Vg}{w:Vb}{H H':Hp}{h h':Vq}{a:Vh}{o:HO}
end
section
variable{P:Vg}{w:Vb}{H:Hp}{h h':Vq}{x e:Vh}{o':HO}
end
section
variable{fs dQ ex vC:List Vh}{H H1 H2:Hp}{h h1 h2 h':Vq}{a x e:Vh}{o:HO}
end
section
variable{X:Cx}{aa:YP_}{σ:List (Option V)}{H H':Hp}{s:VH}{h':Vq}
end
section
variable{X:Cx}
variable{a b:Expr}{ta tb:TE}{pos:Pos}
variable{tA ji:TT}{rest:List Expr}
end
section
variable{X:Cx}{aa:YP_}{σ:St}{H:Hp}{s:VH}{a:Vh}{xs ys:List V}
end
section
variable{X:Cx}{aa:YP_}{σ:St}{H:Hp}{s:VH}{E:YQ_}
end
section
variable{X:Cx}{st:V0}{rest:List V0}{t u:TS}{e:Expr}{te:TE}{pos:Pos}
end
section
variable{X:Cx}{pos:Pos}
end
section
variable{X:Cx}{pos:Pos}
end
section
variable{X:Cx}{tg:Expr}
end
section
variable{X:Cx}{a b c:Expr}{ta tb tc:TE}{pos:Pos}
end
section
variable{X:Cx}{a b c:Expr}{ta tb tc:TE}{pos:Pos}
end
section
variable{prog:Vg}{w:Vb}{A:VG}{E:YQ_}{s:VH}{K:VD}{x dx C f:Vh}{mA:Str->Option Va}{name:Str}{v:Va}
end
section
variable{P:Vg}{w:Vb}{H H':Hp}{h h':Vq}{a C dx:Vh}{fs dQ:List (Str×V)}
end
section
variable{X:Cx}{aa:YP_}{σ:St}{H:Hp}{s:VH}{a C dx:Vh}{fs:List (Str×V)}{f:Str}{v:V}{A:VG}{E:YQ_}
end
section
variable{X:Cx}{o e value:Expr}{f:Str}{pos aH bq:Pos}{ta tv:TE}
end
section
variable{X:Cx}{aa:YP_}{σ:St}{H:Hp}{s:VH}{A:VG}{E:YQ_}{Q:YQ_}{c:Va}{b:Bool}
end
section
variable{X:Cx}{e:Expr}{es:List Expr}{te:TE}{t:TA}{pos:Pos}
end
section
variable{X:Cx}{aa:YP_}{σ:St}{H:Hp}{s s':VH}
end
section
variable{X:Cx}{CX:CXT}{k:Nat}{f C:Vh}{fd:U0}{ps:List Str}{sp:Sp}{bu:List V}{ds:List Va}{E:XK}{x m:Str}{p pos ak:Pos}{e o:Expr}{es:List Expr}{ta:TE}{t:TA}
end
section
variable{X:Cx}{CX:CXT}{k:Nat}{f C:Vh}{fd:U0}{ps ks:List Str}{sp:Sp}{E:XK}{x m:Str}{p pos ak c6:Pos}{e o:Expr}{es:List Expr}{iT:List U7}{te ta:TE}{t tk:TA}{nm:Option Str}
variable{g:List Va->List Va->List Va}{gV:List V->List V->List V}
end
section
variable{X:Cx}{x:Str}{p pos:Pos}{e:Expr}{es:List Expr}{t:TA}{id T:String}{r:List V->Hp->VK->Prop}
end
section
variable{κ:Type}[DecidableEq κ]
def ZM(ac:List (κ×V))(k:κ):Option V:=(ac.find? λkv=>decide (kv.1=k)).map (·.2)
def Yn(ac:List (κ×V))(k:κ)(v:V):List (κ×V) :=
 if (ac.any λkv=>decide (kv.1=k))=true then ac.map (λkv=>if kv.1=k then (kv.1,v) else kv) else ac++[(k,v)]
def YMa(ac:List (κ×V))(k:κ):List (κ×V):=ac.filter λkv=>decide (kv.1≠k)
theorem Xya{p:κ×V}{r:List (κ×V)}{k:κ}(e:p.1=k):ZM (p::r) k=Vo p.2:=by simp[ZM,OO,e]
theorem Xza{p:κ×V}{r:List (κ×V)}{k:κ}(e:¬ p.1=k):ZM (p::r) k=ZM r k:=by simp[ZM,OO,e]
theorem JKa(k:κ):∀ ac:List (κ×V),(ac.any λkv=>decide (kv.1=k))=(ZM ac k).isSome
 | []=>rfl
 | p::r=>by
  rw[OD]
  by_cases e:p.1=k
  ·simp only[Xya e,decide_eq_true e,Bool.true_or,Option.isSome_some]
  ·rw[Xza e,decide_eq_false e,Bool.false_or];exact JKa k r
theorem QPa(ac:List (κ×V))(k:κ)(v:V):(Yn ac k v).length<=ac.length+1:=by
 unfold Yn
 split
 ·rw[UQ];lia
 ·rw[On,UI,OP];lia
theorem Yjc{ac:List (κ×V)}{k:κ}(v:V)(h:ZM ac k=Vp):Yn ac k v=ac++[(k,v)]:=by
 unfold Yn;rw[JKa,h];exact if_neg #[1]
theorem Yh.isSome_eq{o:Option V}{u:Option Va}(r:Yh o u):o.isSome=u.isSome:=by
 cases o with
 | none=>cases u with
  | none=>rfl
  | some _=>exact(show False from r).elim
 | some _=>cases u with
  | none=>exact(show False from r).elim
  | some _=>rfl
theorem Yh.getD{o:Option V}{u:Option Va}{d:V}{d':Va}(r:Yh o u)(rd:QB d d'):QB (o.getD d) (u.getD d'):=by
 cases o with
 | none=>cases u with
  | none=>exact rd
  | some _=>exact(show False from r).elim
 | some _=>cases u with
  | none=>exact(show False from r).elim
  | some _=>exact r
theorem KV.val{ac:List (κ×V)}{vs:List (κ×Va)}(r:KV ac vs)(k:κ):Yh (ZM ac k) (OQ vs k):=by
 unfold KV at r
 induction r with
 | nil=>exact UR
 | @cons p q ps qs h t ih =>
  obtain⟨h1,h2⟩:=h
  by_cases e:p.1=k
  ·have e':q.1=k:=h1.symm.trans e
   have b:OQ (q::qs) k=Vo q.2:=by simp[OQ,OO,e']
   rw[Xya e,b];exact h2
  ·have e':¬ q.1=k:=λz=>e (h1.trans z)
   have b:OQ (q::qs) k=OQ qs k:=by simp[OQ,OO,e']
   rw[Xza e,b];exact ih
theorem KV.any{ac:List (κ×V)}{vs:List (κ×Va)}(r:KV ac vs)(k:κ):(ac.any λkv=>decide (kv.1=k))=vs.any λkv=>decide (kv.1=k):=by
 unfold KV at r
 induction r with
 | nil=>rfl
 | cons h t ih=>rw[OD,OD,ih,h.1]
theorem KV.repl{ac:List (κ×V)}{vs:List (κ×Va)}(r:KV ac vs)(k:κ){y:V}{u:Va}(ry:QB y u) :
 KV (ac.map λkv=>if kv.1=k then (kv.1,y) else kv) (vs.map λkv=>if kv.1=k then (kv.1,u) else kv):=by
 unfold KV at r ⊢
 induction r with
 | nil=>exact .nil
 | @cons p q ps qs h t ih =>
  rw[UO,UO];refine .cons ?_ ih
  obtain⟨h1,h2⟩:=h
  by_cases e:p.1=k
  ·rw[if_pos e,if_pos (h1.symm.trans e)];exact⟨h1,ry⟩
  ·rw[if_neg e,if_neg (λz=>e (h1.trans z))];exact⟨h1,h2⟩
theorem KV.put{ac:List (κ×V)}{vs:List (κ×Va)}(r:KV ac vs)(k:κ){y:V}{u:Va}(ry:QB y u):KV (Yn ac k y) (OR vs k u):=by
 unfold Yn OR;rw[r.any k]
 by_cases e:(vs.any λkv=>decide (kv.1=k))=true
 ·rw[if_pos e,if_pos e];exact r.repl k ry
 ·rw[if_neg e,if_neg e];exact OS r ⟨rfl,ry⟩
theorem KV.drop{ac:List (κ×V)}{vs:List (κ×Va)}(r:KV ac vs)(k:κ):KV (YMa ac k) (without vs k):=by
 unfold KV at r ⊢;unfold YMa without
 induction r with
 | nil=>exact .nil
 | @cons p q ps qs h t ih =>
  obtain⟨h1,h2⟩:=h;rw[OT,OT]
  by_cases e:p.1=k
  ·have a:¬ decide (p.1≠k)=true:=by simp[e]
   have b:¬ decide (q.1≠k)=true:=by simp[h1.symm.trans e]
   rw[if_neg a,if_neg b];exact ih
  ·have e':¬ q.1=k:=λz=>e (h1.trans z)
   have a:decide (p.1≠k)=true:=by simp[e]
   have b:decide (q.1≠k)=true:=by simp[e']
   rw[if_pos a,if_pos b];exact .cons ⟨h1,h2⟩ ih
theorem KV.length{ac:List (κ×V)}{vs:List (κ×Va)}(r:KV ac vs):ac.length=vs.length:=Vn r
theorem Ykc(ac:List (κ×V))(k:κ):(YMa ac k).length<=ac.length:=OU _ _
end
theorem XAa{P:Vg}{w:Vb}{k:Key}{u:Va}(r:QB (kV k) u):(QP P w).is k u=true:=by
 cases k with
 | inl i=>obtain⟨t,e⟩:=(show ∃ t,u=Vd i t from r);subst e;exact JZb P w i t
 | inr x=>obtain⟨t,e⟩:=(show ∃ t,u=Vf x t from r);subst e;exact J0b P w x t
theorem Zgb{P:Vg}{w:Vb}:∀ {ks:List Key} {us:List Va},Qz (ks.map kV) us->ItemsAre (QP P w) ks us
 | [],_,r=>by rw[OJ]at r;cases r;exact .nil
 | k::ks,_,r=>by
  rw[UO]at r;cases r with
  | cons h t=>exact .cons (XAa h) (Zgb t)
abbrev KT(H:Hp):List (List Key×V)->List (List Key×Vh×Va)->Prop:=Vm λp q=>p.1=q.1/\H q.2.1=Vo (.tup (p.1.map kV))/\QB p.2 q.2.2
theorem KT.val{H:Hp}{ac:List (List Key×V)}{xs:List (List Key×Vh×Va)}(r:KT H ac xs)(k:List Key):Yh (ZM ac k) ((OV xs k).map (·.2)):=by
 induction r with
 | nil=>exact UR
 | @cons p q ps qs h t ih =>
  obtain⟨h1,_,h2⟩:=h
  by_cases e:p.1=k
  ·have e':q.1=k:=h1.symm.trans e
   have b:OV (q::qs) k=Vo q.2:=by simp[OV,OO,e']
   rw[Xya e,b];exact h2
  ·have e':¬ q.1=k:=λz=>e (h1.trans z)
   have b:OV (q::qs) k=OV qs k:=by simp[OV,OO,e']
   rw[Xza e,b];exact ih
theorem KT.repl{H:Hp}{ac:List (List Key×V)}{xs:List (List Key×Vh×Va)}(r:KT H ac xs)(k:List Key){y:V}{u:Va}(ry:QB y u) :
 KT H (ac.map λkv=>if kv.1=k then (kv.1,y) else kv) (xs.map (putAt k u)):=by
 induction r with
 | nil=>exact .nil
 | @cons p q ps qs h t ih =>
  rw[UO,UO];refine .cons ?_ ih
  obtain⟨h1,h2,h3⟩:=h;unfold putAt
  by_cases e:p.1=k
  ·rw[if_pos e,if_pos (h1.symm.trans e)];exact⟨h1,h2,ry⟩
  ·rw[if_neg e,if_neg (λz=>e (h1.trans z))];exact⟨h1,h2,h3⟩
theorem KT.put{H:Hp}{ac:List (List Key×V)}{xs:List (List Key×Vh×Va)}(r:KT H ac xs)(k:List Key){b:Vh}{y:V}{u:Va}(hb:H b=Vo (.tup (k.map kV)))(ry:QB y u) :
 KT H (Yn ac k y) (storedH xs k b u):=by
 have e:(ac.any λkv=>decide (kv.1=k))=(OV xs k).isSome:=by
  rw[JKa,(r.val k).isSome_eq,Option.isSome_map]
 unfold Yn storedH;rw[e]
 by_cases q:(OV xs k).isSome=true
 ·rw[if_pos q,if_pos q];exact r.repl k ry
 ·rw[if_neg q,if_neg q];exact OS r ⟨rfl,hb,ry⟩
theorem KT.keeps{H H':Hp}{ac:List (List Key×V)}{xs:List (List Key×Vh×Va)}(r:KT H ac xs)(ht:∀ b ys,H b=Vo (.tup ys)->H' b=Vo (.tup ys)):KT H' ac xs :=
 Paired.mapP r λ_ _ z=>⟨z.1,ht _ _ z.2.1,z.2.2⟩
section
variable{P:Vg}{w:Vb}{H:Hp}{h:Vq}{a:Vh}
theorem Zkd{u:HO}(ok:HOk P w H h)(e:Rd H a u):QN P w H h a u:=e.ok ok
theorem XBa{ac:List (Key×V)}(ok:HOk P w H h)(e:Rd H a (.dK ac)):ac.length<=Vs/\(a == Vu)=false/\∃ vs,KV ac vs/\h.DictOf (QP P w) a vs :=
 show QN P w H h a (.dK ac) from Zkd ok e
theorem Ylc{ac:List (Key×V)}(ok:HOk P w H h)(e:H a=Vo (.dK ac)):ac.length<=Vs/\(a == Vu)=false/\∃ vs,KV ac vs/\h.DictOf (QP P w) a vs:=XBa ok (.inl e)
theorem Z5a{ks:List Key}(ok:HOk P w H h)(e:H a=Vo (.tup (ks.map kV))):(Vv (QP P w)).is h ks a:=by
 obtain⟨_,ag,r,o,h1,h2,n,h3⟩:=(show QN P w H h a (.tup (ks.map kV)) from ok a _ e)
 exact⟨o,ag.toArray,n,h1,h2,h3,by simpa using Zgb r⟩
theorem Zhb{ac:List (List Key×V)}(ok:HOk P w H h)(e:Rd H a (.dT ac)):ac.length<=Vs/\(a == Vu)=false /\
 ∃ xs,KT H ac xs/\h.DictOfH (Vv (QP P w)) a xs:=by
 obtain⟨z,y,xs,r,o,es,ep,h1,h2,h3,h4,h5⟩:=(show QN P w H h a (.dT ac) from Zkd ok e)
 refine⟨z,y,xs,r,o,es,ep,h1,h2,h3,h4,λx hx=>?_,h5⟩
 have all:∀ {l:List (List Key×V)} {m:List (List Key×Vh×Va)},KT H l m->∀ x∈m,(Vv (QP P w)).is h x.1 x.2.1:=by
  intro l m q
  induction q with
  | nil=>intro x hx;exact nomatch hx
  | @cons p q ps qs hq t ih =>
   intro x hx
   rcases mem_cons.mp hx with e | hx
   ·subst e
    exact Z5a ok (by rw[<- hq.1];exact hq.2.1)
   ·exact ih x hx
 exact all r x hx
theorem J5d{ac:List (List Key×V)}(ok:HOk P w H h)(e:H a=Vo (.dT ac)):ac.length<=Vs/\(a == Vu)=false /\
 ∃ xs,KT H ac xs/\h.DictOfH (Vv (QP P w)) a xs:=Zhb ok (.inl e)
end
def QHa(H:Hp)(a:Vh)(y:V)(r:Option V):Prop :=
 (∃ ac k,Rd H a (.dK ac)/\y=kV k/\r=ZM ac k)\/∃ ac k b,Rd H a (.dT ac)/\y=.ref b/\H b=Vo (.tup (k.map kV))/\r=ZM ac k
def Qyb(H:Hp)(a:Vh)(y v:V)(H':Hp):Prop :=
 (∃ ac k,H a=Vo (.dK ac)/\y=kV k/\ac.length < Vs/\H'=upd H a (.dK (Yn ac k v))) \/
 ∃ ac k b,H a=Vo (.dT ac)/\y=.ref b/\H b=Vo (.tup (k.map kV))/\ac.length < Vs/\H'=upd H a (.dT (Yn ac k v))
theorem QHa.k{H:Hp}{a:Vh}{ac:List (Key×V)}{k:Key}(e:H a=Vo (.dK ac)):QHa H a (kV k) (ZM ac k):=.inl ⟨ac,k,.inl e,rfl,rfl⟩
theorem Qyb.k{H:Hp}{a:Vh}{ac:List (Key×V)}{k:Key}{v:V}(e:H a=Vo (.dK ac))(hl:ac.length < Vs):Qyb H a (kV k) v (upd H a (.dK (Yn ac k v))):=.inl ⟨ac,k,e,rfl,hl,rfl⟩
section
variable{X:Cx}{aa:YP_}{σ:St}{H:Hp}{s:VH}{a:Vh}{y v:V}{u r:Va}{o:Option V}{A:VG}{E:YQ_}
theorem Inv.big(I:Inv X aa σ H s):Vu < s.heap.objs.size:=by
 have h:VE < s.heap.objs.size:=(I.mod.glob.keeps I.bk).lt;exact Nat.lt_trans #[1] h
theorem ZUc{Q:YQ_}(hu:A.units+1 < UY)(I:Inv X aa σ H s)(g:QHa H a y (Vo v))(ry:QB y u)(h:∀ w' s',Inv X aa σ H s'->QB v w'->Q w' s') :
 VV (VW X.prog X.w) A (Ou (.ref a) u) Q E s:=by
 rcases g with ⟨ac,k,e,ey,l⟩ | ⟨ac,k,b,e,ey,eb,l⟩
 ·subst ey
  obtain⟨z,hd,vs,aJ,dd⟩:=XBa I.hok e;obtain⟨w',hw,br⟩:=Yh.some_of (v:=v) (o:=OQ vs k) (by rw[l];exact aJ.val k)
  exact wpAny_getItem_of (XAa ry) dd.mapOf hw (h w' _ (I.tok _) br)
 ·subst ey
  cases (show u=Vk b from ry)
  obtain⟨z,hd,xs,aJ,dd⟩:=Zhb I.hok e;obtain⟨w',hw,br⟩:=Yh.some_of (v:=v) (o:=(OV xs k).map (·.2)) (by rw[l];exact aJ.val k)
  obtain⟨p,hp,aP⟩:=Option.map_eq_some_iff.mp hw;refine wpAny_getItem_heap (OW hu) (Z5a I.hok eb) dd hp ?_
  rw[aP];exact h w' _ (I.tok _) br
theorem Qud{Q:YQ_}(hu:A.units+1 < UY)(I:Inv X aa σ H s)(g:QHa H a y o)(ry:QB y u)(h:∀ s',Inv X aa σ H s'->Q (.bool (!o.isSome)) s') :
 VV (VW X.prog X.w) A (V2 .NotIn u (.ref a)) Q E s:=by
 rcases g with ⟨ac,k,e,ey,l⟩ | ⟨ac,k,b,e,ey,eb,l⟩
 ·subst ey
  obtain⟨z,hd,vs,aJ,dd⟩:=XBa I.hok e;refine wpAny_notIn_of (XAa ry) hd dd.mapOf ?_
  rw[<- (aJ.val k).isSome_eq,<- l];exact h _ (I.tok _)
 ·subst ey
  cases (show u=Vk b from ry)
  obtain⟨z,hd,xs,aJ,dd⟩:=Zhb I.hok e;refine wpAny_notIn_heap (OW hu) (Z5a I.hok eb) hd dd ?_
  have q:=(aJ.val k).isSome_eq;rw[Option.isSome_map]at q;rw[<- q,<- l];exact h _ (I.tok _)
theorem Xba{h':Vq}{t':Nat}{ob:HO}(I:Inv X aa σ H s)(mu:Mut (H a))(hs:VU a s.heap h')(he:∃ q,h'.get? a=Vo q)(new:QN X.prog X.w (upd H a ob) h' a ob) :
 Inv X aa σ (upd H a ob) { s with heap:=h',toks:=t' } :=
 I.write (x:=a) (e:=a) mu (.inl rfl) (λb q hb z=>(hs.2 b hb).trans z) he new
theorem Ymc{P:Vg}{w:Vb}{H':Hp}{h':Vq}{ac:List (Key×V)}{vs:List (Key×Va)}(z:ac.length<=Vs)(hd:(a == Vu)=false)(aJ:KV ac vs)(dd:h'.DictOf (QP P w) a vs) :
 QN P w H' h' a (.dK ac):=⟨z,hd,vs,aJ,dd⟩
theorem ZVc{H':Hp}{Q:Unit->VH->Prop}(hu:A.units+1 < UY)(I:Inv X aa σ H s)(g:Qyb H a y v H')(ry:QB y u)(rv:QB v r)(h:∀ s',Inv X aa σ H' s'->Q () s') :
 VV (VW X.prog X.w) A (setItem (.ref a) u r) Q E s:=by
 rcases g with ⟨ac,k,e,ey,l,eH⟩ | ⟨ac,k,b,e,ey,eb,l,eH⟩
 ·subst ey eH
  obtain⟨z,hd,vs,aJ,dd⟩:=Ylc I.hok e;have hz:vs.length<=Vs:=by rw[<- aJ.length];exact z
  have hl:(Yn ac k v).length<=Vs:=by have:=QPa ac k v;lia
  refine wpAny_setItem_pairs (hsz:=hz) (XAa ry) dd λh' dS hs=>h _ ?_
  have he:∃ q,h'.get? a=Vo q:=let ⟨q,_,_,hq,_⟩:=dS;⟨q,hq⟩
  exact Xba I (by rw[e];exact UR) hs he (Ymc hl hd (aJ.put k rv) dS)
 ·subst ey eH
  cases (show u=Vk b from ry)
  obtain⟨z,hd,xs,aJ,dd⟩:=J5d I.hok e;have hz:xs.length<=Vs:=by rw[<- Vn aJ];exact z
  have hl:(Yn ac k v).length<=Vs:=by have:=QPa ac k v;lia
  refine wpAny_setItem_heap (hsz:=hz) (OW hu) (Z5a I.hok eb) dd λh' dS hs=>h _ ?_
  obtain⟨q,es,ep,hq,h2,h3,h4,_,h5⟩:=dS;refine Xba I (by rw[e];exact UR) hs ⟨q,hq⟩ ⟨hl,hd,_,(aJ.put k eb rv).keeps λc ys ec=>?_,q,es,ep,hq,h2,h3,h4,h5⟩
  rw[Qh (Jd ec e (λz=>nomatch z))]
  exact ec
end
section
variable{X:Cx}{aa:YP_}{σ:St}{H:Hp}{s:VH}{a:Vh}{ac:List (Key×V)}{k:Key}{u:Va}{A:VG}{E:YQ_}
theorem J6d{v:V}{more:List Va}{Q:YQ_}(I:Inv X aa σ H s)(e:H a=Vo (.dK ac))(ry:QB (kV k) u)(l:ZM ac k=Vo v)(hm:more=[]\/∃ x,more=[x])
 (h:∀ w' s',Inv X aa σ (upd H a (.dK (YMa ac k))) s'->QB v w'->Q w' s'):VV (VW X.prog X.w) A (Uz (.builtin "dict.pop") (.ref a::u::more)) Q E s:=by
 obtain⟨z,hd,vs,aJ,dd⟩:=Ylc I.hok e;obtain⟨w',hw,br⟩:=Yh.some_of (v:=v) (o:=OQ vs k) (by rw[<- l];exact aJ.val k)
 have hp:(keyPart u).isSome=true:=by
  cases k with
  | inl i=>obtain⟨t,q⟩:=(show ∃ t,u=Vd i t from ry);subst q;rfl
  | inr x=>obtain⟨t,q⟩:=(show ∃ t,u=Vf x t from ry);subst q;rfl
 have ha:argsOk "dict.pop" ⟨.ref a::u::more,[]⟩:=by
  rcases hm with q | ⟨x,q⟩
  ·subst q;exact F.args_dict_pop_2 _ _
  ·subst q;exact F.args_dict_pop_3 _ _ _
 refine OX F.slot_dict_pop dd.typeIs F.entry_dict_pop ha (meets_dict_pop_there (QP X.prog X.w) a (XAa ry) more hm hp)
  ⟨vs,w',dd,by rw[<- aJ.length];exact z,hw,λh' dS hs=>h w' _ ?_ br⟩
 have he:∃ q,h'.get? a=Vo q:=let ⟨q,_,_,hq,_⟩:=dS;⟨q,hq⟩
 exact Xba I (by rw[e];exact UR) hs he (Ymc (VJ (Ykc ac k) z) hd (aJ.drop k) dS)
theorem ZYd{r:Va}{Q:YQ_}(I:Inv X aa σ H s)(e:H a=Vo (.dK ac))(ry:QB (kV k) u)(l:ZM ac k=Vp)(h:∀ s',Inv X aa σ H s'->Q r s') :
 VV (VW X.prog X.w) A (Uz (.builtin "dict.pop") [.ref a,u,r]) Q E s:=by
 obtain⟨z,hd,vs,aJ,dd⟩:=Ylc I.hok e;have hn:OQ vs k=Vp:=Yh.none_of (by rw[<- l];exact aJ.val k)
 have hp:(keyPart u).isSome=true:=by
  cases k with
  | inl i=>obtain⟨t,q⟩:=(show ∃ t,u=Vd i t from ry);subst q;rfl
  | inr x=>obtain⟨t,q⟩:=(show ∃ t,u=Vf x t from ry);subst q;rfl
 exact OX F.slot_dict_pop dd.typeIs F.entry_dict_pop (F.args_dict_pop_3 _ _ _) (meets_dict_pop_default (QP X.prog X.w) a (XAa ry) hd hp r) ⟨vs,dd,hn,h _ (I.tok _)⟩
theorem J7d{Q:YQ_}(I:Inv X aa σ H s)(e:Rd H a (.dK ac))(h:∀ t s',Inv X aa σ H s'->Q (.int ac.length t) s'):VV (VW X.prog X.w) A (Uz (.builtin "len") [.ref a]) Q E s:=by
 obtain⟨z,hd,vs,aJ,dd⟩:=XBa I.hok e;refine call_len_dict hd dd (by rw[<- aJ.length];rw[UD]at z;lia) ?_
 rw[<- aJ.length];exact h _ _ (I.tok _)
end
def ZZd(i:Expr):Prop:=∀ ov iv,Ow i false ov iv=operate [ov,iv] (Ou ov iv)
theorem Q9c{prog:Vg}{w:Vb}{A:VG}{E:YQ_}{s:VH}{env:Env}{value slice:Expr}{pos:Pos}{T id:String}{Q:YQ_}
 (hl:Ot (.type T) "__getitem__"=pure (Vo (.builtin id))) (hs:ZZd slice)
 (h:VV (VW prog w) A (VX value env) (λo s₁=>VV (VW prog w) A (VX slice env) (λi s₂=>s₂.TypeIs o T/\VV (VW prog w) A (Ou o i) Q E s₂) E s₁) E s) :
 VV (VW prog w) A (VX (.Subscript value slice pos) env) Q E s:=by
 refine Subscript_ (V1 h (λo s₁ h₁=>V1 h₁ (λi s₂ h₂=>?_) λ_ _ x=>x) λ_ _ x=>x)
 obtain⟨hT,h₂⟩:=h₂;unfold subscriptTail;refine Ud ?_
 rw[getitemInPython_of_ne hT.not_modules];refine Ud (wpAny_specialOf hT hl ?_)
 have fin:VV (VW prog w) A (Ow slice false o i) (λr s₃=>VV (VW prog w) A (letTemporaryGo value o r >>= λ_=>pure r) Q E s₃) E s₂:=by
  rw[hs o i];exact wpAny_operating (V1 h₂ (λr s₃ h₃=>Ud (wpAny_letTemporaryGo (Uo h₃))) λ_ _ x=>x)
 first
  | exact Uo (Ud fin)
  | exact Ud (Uo (Ud fin))
  | exact Ud fin
theorem Yfb{X:Cx}{aa:YP_}{σ:St}{H:Hp}{s:VH}{a:Vh}{y:V}{o:Option V}(I:Inv X aa σ H s)(g:QHa H a y o):s.TypeIs (.ref a) "dict":=by
 rcases g with ⟨ac,k,e,_,_⟩ | ⟨ac,k,b,e,_,_,_⟩
 ·obtain⟨_,_,vs,_,dd⟩:=XBa I.hok e
  exact dd.typeIs
 ·obtain⟨_,_,xs,_,dd⟩:=Zhb I.hok e
  exact dd.typeIs
def Zld(td ty:TE):TE:=λσ H Q=>td σ H λx H1=>ty σ H1 λy H2=>∃ a v,x=.ref a/\QHa H2 a y (Vo v)/\Q v H2
def Zac(ty td:TE):TE:=λσ H Q=>ty σ H λy H1=>td σ H1 λx H2=>∃ a o,x=.ref a/\QHa H2 a y o/\Q (.bl (!o.isSome)) H2
def Zmd(td ty tv:TE):TS:=λD σ H=>tv σ H λv H1=>td σ H1 λx H2=>ty σ H2 λy H3=>∃ a H4,x=.ref a/\Qyb H3 a y v H4/\D.nx σ H4
section
variable{X:Cx}{o i e value:Expr}{pos aH bq:Pos}{td ty tv:TE}
theorem Y8(hu:X.A.units+1 < UY)(ho:PE X o td)(hi:PE X i ty)(hs:ZZd i):PE X (.Subscript o i pos) (Zld td ty):=by
 intro aa s σ H Q I h;refine Q9c F.slot_dict_getitem.lookup hs (thn (ho aa s σ H _ I h) λu s1 ⟨x,H1,I1,rx,q1⟩=>thn (hi aa s1 σ H1 _ I1 q1) λiv s2 hZ=>?_)
 obtain⟨y,H2,I2,ry,a,v,ex,g,q2⟩:=hZ;subst ex;obtain rfl:u=Vk a:=rx;exact⟨Yfb I2 g,ZUc hu I2 g ry λw' s3 I3 br=>⟨v,H2,I3,br,q2⟩⟩
theorem ZWc(hu:X.A.units+1 < UY)(hi:PE X i ty)(ho:PE X o td):PC X .NotIn i o (Zac ty td):=by
 intro aa s σ H Q I h;refine thn (hi aa s σ H _ I h) λiv s1 ⟨y,H1,I1,ry,q1⟩=>thn (ho aa s1 σ H1 _ I1 q1) λu s2 hZ=>?_
 obtain⟨x,H2,I2,rx,a,ov,ex,g,q2⟩:=hZ;subst ex;obtain rfl:u=Vk a:=rx;exact Qud hu I2 g ry λs3 I3=>⟨.bl (!ov.isSome),H2,I3,rfl,q2⟩
theorem JLa(hu:X.A.units+1 < UY)(ho:PE X o td)(hi:PE X i ty)(hv:PE X value tv)(hs:Ua value (Vo (.Subscript o i aH)) pos.line X.env=pure false) :
 PS X (.Assign [.Subscript o i aH] value pos) (Zmd td ty tv):=by
 intro aa s σ H D I h;refine wpAny_Assign_Subscript (thn (hv aa s σ H _ I h) λr s1 ⟨v,H1,I1,rv,q1⟩=>thn (ho aa s1 σ H1 _ I1 q1) λu s2 ⟨x,H2,I2,rx,q2⟩=>thn (hi aa s2 σ H2 _ I2 q2) λiv s3 hZ=>?_) hs
 obtain⟨y,H3,I3,ry,a,H4,ex,g,q3⟩:=hZ;subst ex;obtain rfl:u=Vk a:=rx;exact ZVc hu I3 g ry rv λs4 I4=>⟨σ,H4,I4,q3⟩
end
theorem Ync{P:Vg}{w:Vb}{H:Hp}(h:Vq)(hb:Vu < h.objs.size):QN P w H (h.push { cls:=.type "dict",data:=.dict #[] }) h.objs.size (.dK []) :=
 ⟨Uy _,beq_eq_false_iff_ne.mpr (VR (VB hb)),[],.nil,Heap.DictOf.new h⟩
def Yoc:TE:=λ_ H Q=>∀ p,H p=Vp->Q (.ref p) (upd H p (.dK []))
section
variable{X:Cx}{pos:Pos}
theorem QQa:PE X (.Dict [] [] pos) Yoc:=λaa s σ H Q I h =>
 wpAny_Dict_empty ⟨.ref s.heap.objs.size,_,I.laid (a:=s.heap.objs.size) (o:=.dK []) (t':=s.toks) (λ_ _ q=>Us _ q) (Uu _) (Ync s.heap I.big),rfl,h _ (I.hok.fresh (Uu _))⟩
end
def Jw(ac more:List (Key×V)):List (Key×V):=more.foldl (λaQ kv=>Yn aQ kv.1 kv.2) ac
theorem KV.merge:∀ {more:List (Key×V)} {rs:List (Key×Va)} {ac:List (Key×V)} {vs:List (Key×Va)},KV more rs->KV ac vs->KV (Jw ac more) (OY vs rs):=by
 intro more rs ac vs r;unfold KV at r
 induction r generalizing ac vs with
 | nil=>intro q;exact q
 | @cons p q ps qs h t ih =>
  intro r0;have e:KV (Yn ac p.1 p.2) (OR vs q.1 q.2):=by
   have:=r0.put p.1 h.2;rw[<- h.1];exact this
  exact ih e
theorem Xl:∀ (more ac:List (Key×V)),(Jw ac more).length<=ac.length+more.length
 | [],ac=>by show ac.length<=ac.length+0;lia
 | p::r,ac=>by
  have h1:=Xl r (Yn ac p.1 p.2);have h2:=QPa ac p.1 p.2;show(Jw (Yn ac p.1 p.2) r).length<=_;rw[UI];lia
structure M1(X:Cx)(o:Expr)(m:Str)(ak:Pos)(e:Expr)(aq:Pos):Prop where
 base:UU o m X.env (VX o X.env)=VX o X.env
 few:((VY aq (VZ [e] X.env)).all (λx=>!x.1) && (U8 aq (U9 [] X.env)).all (λx=>x.1.isSome)
  && decide (([e]:List Expr).length+([]:List U7).length+(if ([]:List U7).isEmpty then 0 else 1) < 30))=true
 line:(ak.endLine == aq.line)=true
 trees:VY aq (VZ [e] X.env)=[(false,VX e X.env)]
structure M2(X:Cx)(o:Expr)(m:Str)(ak:Pos)(e f:Expr)(aq:Pos):Prop where
 base:UU o m X.env (VX o X.env)=VX o X.env
 few:((VY aq (VZ [e,f] X.env)).all (λx=>!x.1) && (U8 aq (U9 [] X.env)).all (λx=>x.1.isSome)
  && decide (([e,f]:List Expr).length+([]:List U7).length+(if ([]:List U7).isEmpty then 0 else 1) < 30))=true
 line:(ak.endLine == aq.line)=true
 trees:VY aq (VZ [e,f] X.env)=[(false,VX e X.env),(false,VX f X.env)]
def IsD(H:Hp)(a:Vh):Prop:=(∃ ac,Rd H a (.dK ac))\/∃ ac,Rd H a (.dT ac)
theorem XRb{X:Cx}{aa:YP_}{σ:St}{H:Hp}{s:VH}{a:Vh}(I:Inv X aa σ H s)(d:IsD H a) :
 s.TypeIs (.ref a) "dict"/\(∀ b,Vk a=.ref b->∃ ob,s.heap.get? b=Vo ob/\ob.dict=Vp)/\(a == Vu)=false:=by
 rcases d with ⟨ac,e⟩ | ⟨ac,e⟩
 ·obtain⟨_,hd,vs,_,dd⟩:=XBa I.hok e
  refine⟨dd.typeIs,λb q=>?_,hd⟩
  cases q;obtain⟨ob,_,_,h1,h2,_⟩:=dd;exact⟨ob,h1,h2.2.1⟩
 ·obtain⟨_,hd,xs,_,dd⟩:=Zhb I.hok e
  refine⟨dd.typeIs,λb q=>?_,hd⟩
  cases q;obtain⟨ob,_,_,h1,h2,_⟩:=dd;exact⟨ob,h1,h2.2.1⟩
section
variable{X:Cx}{aa:YP_}{σ:St}{H:Hp}{s:VH}{a:Vh}{y d:V}{u r:Va}{o:Option V}{A:VG}{E:YQ_}
theorem Z0d{Q:YQ_}(hu:A.units+1 < UY)(I:Inv X aa σ H s)(g:QHa H a y o)(ry:QB y u)(h:∀ w' s',Inv X aa σ H s'->QB (o.getD .non) w'->Q w' s') :
 VV (VW X.prog X.w) A (Uz (.builtin "dict.get") [.ref a,u]) Q E s:=by
 rcases g with ⟨ac,k,e,ey,l⟩ | ⟨ac,k,b,e,ey,eb,l⟩
 ·subst ey
  obtain⟨z,hd,vs,aJ,dd⟩:=XBa I.hok e;refine OX F.slot_dict_get dd.typeIs F.entry_dict_get (F.args_dict_get_2 _ _) (meets_dict_get (QP X.prog X.w) a (XAa ry) hd) ⟨_,dd.mapOf,h _ _ (I.tok _) ?_⟩
  rw[l];exact(aJ.val k).getD rfl
 ·subst ey
  cases (show u=Vk b from ry)
  obtain⟨z,hd,xs,aJ,dd⟩:=Zhb I.hok e;refine OX F.slot_dict_get dd.typeIs F.entry_dict_get (F.args_dict_get_2 _ _) (meetsH_dict_get (Vv (QP X.prog X.w)) a b hd) ⟨OW hu,k,xs,Z5a I.hok eb,dd,h _ _ (I.tok _) ?_⟩
  rw[l];exact(aJ.val k).getD rfl
end
def Ypc(td ty:TE):TE:=λσ H Q=>td σ H λx H1=>∃ a,x=.ref a/\IsD H1 a/\ty σ H1 λy H2=>∃ o,QHa H2 a y o/\Q (o.getD .non) H2
def Yqc(td ty tx:TE):TE:=λσ H Q=>td σ H λx H1=>∃ a,x=.ref a/\IsD H1 a/\ty σ H1 λy H2=>tx σ H2 λz H3=>∃ ac k,H3 a=Vo (.dK ac)/\y=kV k /\
 (∀ v,ZM ac k=Vo v->Q v (upd H3 a (.dK (YMa ac k))))/\(ZM ac k=Vp->Q z H3)
section
variable{X:Cx}{o e f:Expr}{ak aq:Pos}{td ty tx:TE}
theorem Ygb(hu:X.A.units+1 < UY)(ho:PE X o td)(he:PE X e ty)(m:M1 X o "get" ak e aq):PE X (.Call (.Attribute o "get" ak) [e] [] aq) (Ypc td ty):=by
 intro aa s σ H Q I h;refine wpAny_Call_method m.base m.few m.line F.plainAttrs_dict F.slot_dict_get F.type_dict_get (thn (ho aa s σ H _ I h) λu s1 hZ=>?_)
 obtain⟨x,H1,I1,rx,a,ex,d,q1⟩:=hZ;subst ex;obtain rfl:u=Vk a:=rx;obtain⟨t1,t2,_⟩:=XRb I1 d;refine⟨t1,t2,?_⟩
 rw[m.trees];refine OE rfl (OF (UZ (thn (he aa s1 σ H1 _ I1 q1) λiv s2 ⟨y,H2,I2,ry,ov,g,q2⟩=>Calls.spliced_nil ?_)))
 exact Z0d hu I2 g ry λw' s3 I3 br=>⟨_,H2,I3,br,q2⟩
theorem Yrc(ho:PE X o td)(he:PE X e ty)(hf:PE X f tx)(m:M2 X o "pop" ak e f aq):PE X (.Call (.Attribute o "pop" ak) [e,f] [] aq) (Yqc td ty tx):=by
 intro aa s σ H Q I h;refine wpAny_Call_method m.base m.few m.line F.plainAttrs_dict F.slot_dict_pop F.type_dict_pop (thn (ho aa s σ H _ I h) λu s1 hZ=>?_)
 obtain⟨x,H1,I1,rx,a,ex,d,q1⟩:=hZ;subst ex;obtain rfl:u=Vk a:=rx;obtain⟨t1,t2,_⟩:=XRb I1 d;refine⟨t1,t2,?_⟩
 rw[m.trees];refine OE rfl (OF (UZ (thn (he aa s1 σ H1 _ I1 q1) λiv s2 ⟨y,H2,I2,ry,q2⟩ =>
  UZ (thn (hf aa s2 σ H2 _ I2 q2) λfv s3 ⟨z,H3,I3,rz,ac,k,ea,ey,q3,q4⟩=>Calls.spliced_nil ?_))))
 subst ey;cases l:ZM ac k with
 | some v=>exact J6d I3 ea ry l (.inr ⟨fv,rfl⟩) λw' s4 I4 br=>⟨v,_,I4,br,q3 v l⟩
 | none=>exact ZYd I3 ea ry l λs4 I4=>⟨z,H3,I4,rz,q4 l⟩
end
section
variable{X:Cx}{aa:YP_}{σ:St}{H:Hp}{s:VH}{a:Vh}{ac:List (Key×V)}{A:VG}{E:YQ_}
end
section
variable{X:Cx}{aa:YP_}{σ:St}{H:Hp}{s:VH}{a:Vh}{y:V}{u:Va}{A:VG}{E:YQ_}
end
end L2
namespace Att
open PySem PySem.W PySem.Calls PyProof.Rows
section
variable{prog:Vg}{w:Vb}{A:VG}{E:YQ_}{s:VH}{K:VD}
end
end Att
namespace L2
open PySem PySem.Spec PyProof.Rows
section
variable{P:Vg}{w:Vb}{K:VD}{mg:Str->Option Va}{base:Vq}
end
section
variable{X:Cx}
theorem ZXc:JV X (.builtin "len") (λxs H Q=>∃ a ac,xs=[V.ref a]/\H a=Vo (.dK ac)/\Q (.int ac.length) H):=by
 intro aa s σ H xs us Q I r h;obtain⟨a,ac,rfl,ha,q⟩:=h;obtain⟨u,rfl,ru⟩:=Y5 r;cases ru;exact J7d I (.inl ha) λt s' I'=>⟨.int ac.length,H,I',⟨t,rfl⟩,q⟩
end
section
variable{κ:Type}[DecidableEq κ]
end
theorem QRa(env:Env):∀ (l:List (Str×Oa)) (x:Str),
 (l.map λ(n,k)=>if (k == OZ && env.scope.kind == .function && env.kindOf n == Vo .cell) then (n,O4) else (n,k)).lookup x
  = (l.lookup x).map λk=>if (k == OZ && env.scope.kind == .function && env.kindOf x == Vo .cell) then O4 else k
 | [],_=>rfl
 | (n,k)::r,x=>by
  have ih:=QRa env r x;show UN x ((if (k == OZ && env.scope.kind == .function && env.kindOf n == Vo .cell)=true then (n,O4) else (n,k))::_)=_
  cases hx:x == n with
  | true =>
   have e:x=n:=by simpa using hx
   subst e
   by_cases hc:(k == OZ && env.scope.kind == .function && env.kindOf x == Vo .cell)=true
   ·rw[if_pos hc];simp only[O5,hx,O6,hc,if_true]
   ·rw[if_neg hc];simp only[O5,hx,O6,if_neg hc]
  | false =>
   by_cases hc:(k == OZ && env.scope.kind == .function && env.kindOf n == Vo .cell)=true
   ·rw[if_pos hc];simp only[O5,hx];exact ih
   ·rw[if_neg hc];simp only[O5,hx];exact ih
theorem Z6a{env:Env}:∀ (l:List (Str×Oa)) (aQ:List (Str×Vh)),(∀ y∈l,y.2=.free->∃ c,env.cells.lookup y.1=Vo c)->(∀ y c,aQ.lookup y=Vo c->env.cells.lookup y=Vo c) ->
 ∃ cl,(forIn l aQ λx (cs:List (Str×Vh))=>(if (x.2 == OZ)=true then (do let a <- cellOf env x.1;pure (O7 ((x.1,a)::cs))) else pure (O7 cs):Sem (ForInStep (List (Str×Vh)))))=pure cl/\(∀ y c,cl.lookup y=Vo c->env.cells.lookup y=Vo c)/\(∀ y c,aQ.lookup y=Vo c->∃ c',cl.lookup y=Vo c') /\
  ∀ y∈l,y.2=.free->∃ c,cl.lookup y.1=Vo c
 | [],aQ,_,h2=>⟨aQ,rfl,h2,λ_ c h=>⟨c,h⟩,λ_ h=>nomatch h⟩
 | (n,k)::r,aQ,h1,h2=>by
  by_cases hk:k=.free
  ·subst hk
   obtain⟨c,hc⟩:=h1 (n,.free) VN rfl;have bD:∀ y c',((n,c)::aQ).lookup y=Vo c'->env.cells.lookup y=Vo c':=λy c' h=>by
    rw[O5]at h;cases hy:y == n with
    | true=>rw[hy]at h;have e:y=n:=by simpa using hy
            subst e;cases h;exact hc
    | false=>rw[hy]at h;exact h2 y c' h
   obtain⟨cl,e,q1,q2,q3⟩:=Z6a r ((n,c)::aQ) (λy hy=>h1 y (VO _ hy)) bD
   refine⟨cl,?_,q1,λy c' h=>?_,λy hy hf=>?_⟩
   ·rw[DG]
    simp only[beq_self_eq_true,if_true];unfold cellOf;rw[hc];exact e
   ·cases hy:y == n with
    | true=>exact q2 y c (by rw[O5,hy])
    | false=>exact q2 y c' (by rw[O5,hy];exact h)
   ·rcases mem_cons.mp hy with e' | hy
    ·subst e'
     exact q2 n c (by simp[O5])
    ·exact q3 y hy hf
  ·have hb:(k == OZ)=false:=by simpa using hk
   obtain⟨cl,e,q1,q2,q3⟩:=Z6a r aQ (λy hy=>h1 y (VO _ hy)) h2
   refine⟨cl,?_,q1,q2,λy hy hf=>?_⟩
   ·rw[DG]
    simp only[hb,O8,if_false];exact e
   ·rcases mem_cons.mp hy with e' | hy
    ·subst e';exact absurd hf hk
    ·exact q3 y hy hf
theorem XCa(env:Env)(sc:Scope)(h:∀ y∈sc.names,y.2=.free->∃ c,env.cells.lookup y.1=Vo c) :
 ∃ cl,closureFor sc env=pure cl/\(∀ y c,cl.lookup y=Vo c->env.cells.lookup y=Vo c)/\∀ y∈sc.names,y.2=.free->∃ c,cl.lookup y.1=Vo c:=by
 obtain⟨cl,e,q1,_,q3⟩:=Z6a (env:=env) sc.names [] h (λy c z=>by simp at z)
 refine⟨cl,?_,q1,q3⟩
 unfold closureFor;rw[<- e];simp only[bind_pure]
def blk(X:Cx)(sc:Scope)(x:Str)(M:List Str)(cl:List (Str×Vh))(C:Vh)(s:VH)(H:Hp)(fp:List Vh):Cx :=
 { X with N:=x::M,s₀:=s,H₀:=H,env:=compEnvC sc cl C X.env,outer:=X.stack,ex:=fp,fn:=λ_=>false,pn:=[],xe:=λ_ _=>False }
structure Yhb(X:Cx)(sc:Scope)(x:Str)(M:List Str):Prop where
 kind:sc.kind=.function
 nocell:∀ y∈sc.names,y.2≠.cell
 names:∀ y∈sc.names,y.2=.local->sc.names.lookup y.1=Vo .local
 own:sc.names.lookup x=Vo .local
 nd:(x::M).Nodup
 len:M.length=X.N.length
 free:∀ y∈sc.names,y.2=.free->X.env.kindOf y.1=Vo .cell\/X.env.kindOf y.1=Vo .free
 same:∀ (i:Nat) (y:Str),M[i]?=Vo y->sc.names.lookup y=Vo .free->X.N[i]?=Vo y
 noloc:∀ y∈M,sc.names.lookup y≠Vo .local
section
variable{X:Cx}
theorem Inv.toBlk{aa:YP_}{σ:St}{H:Hp}{s:VH}{sc:Scope}{x:Str}{M:List Str}{cl:List (Str×Vh)}{fp:List Vh}{h₁:Vq}{tk:Nat}
 (I:Inv X aa σ H s) (B:Yhb X sc x M) (q1:∀ y c,cl.lookup y=Vo c->X.env.cells.lookup y=Vo c) (q3:∀ y∈sc.names,y.2=.free->∃ c,cl.lookup y.1=Vo c)
 (jp:∀ b∈fp,Yj X aa H b) (lZ:∀ b∈fp,b < s.heap.objs.size) {m:Str->Option Va} (hn:h₁.Ns s.heap.objs.size m) (keep:∀ b o,s.heap.get? b=Vo o->h₁.get? b=Vo o) :
 Inv (blk X sc x M cl s.heap.objs.size s H fp) [] (Vp::σ) H { s with heap:=h₁,toks:=tk }:=by
 have bE:∀ y,(blk X sc x M cl s.heap.objs.size s H fp).env.kindOf y=(sc.names.lookup y).map λk=>if (k == OZ && X.env.scope.kind == .function && X.env.kindOf y == Vo .cell) then O4 else k:=λy=>QRa X.env sc.names y
 have ca:∀ y,((blk X sc x M cl s.heap.objs.size s H fp).env.kindOf y=Vo .cell\/(blk X sc x M cl s.heap.objs.size s H fp).env.kindOf y=Vo .free)->sc.names.lookup y=Vo .free:=λy hy=>by
  rw[bE]at hy;cases e:sc.names.lookup y with
  | none=>rw[e]at hy;simp at hy
  | some k =>
   rw[e]at hy
   by_cases hk:k=.free
   ·rw[hk]
   ·exfalso
    have hb:(k == OZ)=false:=by simpa using hk
    simp only[hb,Bool.false_and,O6,O8,if_false,O9]at hy
    rcases hy with z | z
    ·exact B.nocell (y,k) (Oh e) z
    ·exact hk z
 have ncell:∀ y c,X.env.cells.lookup y=Vo c->c < s.heap.objs.size:=λy c e=>by
  obtain⟨v,o,ho,_⟩:=I.cell y c e;exact Vy ho
 have below:∀ b∈fp,Yj X aa H b:=jp;refine⟨⟨I.ok.mod,B.kind,I.ok.glob,I.ok.blt,Uu _,λy z c h1 h2=>I.ok.inj y z c (q1 y c h1) (q1 z c h2),λy hy=>q3 _ (Oh (ca y hy)) rfl,λy c h _=>absurd (show false=true from h) Uh,I.ok.hd,I.ok.frames,.inl rfl,
  λb hb=>?_,I.bs,VJ I.ok.bsz I.sz,λb o e hb=>?_,λb hb z=>?_,I.stack,I.stkFree⟩,rfl,I.bare,Un.kept keep,⟨_,hn,λi y v e1 e2 e3=>?_⟩,λy c h=>?_,I.hok.fresh (Uu _),λy c h=>I.freeC y c (q1 y c h),λp hp=>absurd (show p∈([]:YP_) from hp) #[2],I.hok.kept keep,?_⟩
 ·exact⟨VB (lZ b hb),λy c h=>(jp b hb).2.2.2.2.1 y c (q1 y c h)⟩
 ·rcases(jp b hb).2.2.2.1 with z | z
  ·exact I.ok.noex b o e z
  ·exact absurd (Vz (Vy e) (VJ I.ok.bsz z)) (VA _)
 ·rcases mem_cons.mp (I.stkSub b z) with e | z
  ·exact(jp b hb).2.1 e
  ·exact(jp b hb).2.2.1 z
 ·cases i with
  | zero=>simp at e2
  | succ i =>
   have l6:M[i]?=Vo y:=e1;have nk:σ[i]?=Vo (Vo v):=e2;have hy:sc.names.lookup y=Vo .free:=by
    rcases e3 with z | z | z
    ·exfalso
     have z':(blk X sc x M cl s.heap.objs.size s H fp).env.kindOf y=Vo .local:=z;rw[bE]at z';cases e:sc.names.lookup y with
     | none=>rw[e]at z';simp at z'
     | some k =>
      rw[e]at z';simp only[O6,O9]at z'
      split at z'
      ·cases z'
      ·subst z'
       exact B.noloc y (Om l6) e
    ·exact ca y (.inl z)
    ·exact ca y (.inr z)
   have hk:=B.free _ (Oh hy) rfl;obtain⟨m0,hn0,hl⟩:=I.loc;obtain⟨u,r,l⟩:=hl i y v (B.same i y l6 hy) nk (hk.elim (λz=>.inr (.inl z)) λz=>.inr (.inr z))
   refine⟨u,r,.inr ⟨?_,?_⟩⟩
   ·rcases e3 with z | z | z
    ·exfalso
     have z':(blk X sc x M cl s.heap.objs.size s H fp).env.kindOf y=Vo .local:=z;rw[bE,hy]at z';simp only[O6,O9]at z'
     split at z' <;> cases z'
    ·exact .inl z
    ·exact .inr z
   ·rcases l with ⟨k,_⟩ | ⟨_,c,e,hc⟩
    ·rcases hk with z | z <;> (have z':X.env.kindOf y=_:=z;rw[k]at z';cases z')
    ·obtain⟨c',e'⟩:=q3 _ (Oh hy) rfl
     have qJ:=q1 y c' e';rw[e]at qJ;cases qJ;obtain⟨o,ho,hd⟩:=hc;exact⟨c,e',o,keep c o ho,hd⟩
 ·obtain⟨v,o,ho,hd⟩:=I.cell y c (q1 y c h)
  exact⟨v,o,keep c o ho,hd⟩
 ·show(Vp::σ).length=(x::M).length
  rw[UI,UI,I.len,B.len]
end
def QM(X:Cx)(bR:List Expr)(t:TT):Prop :=
 ∀ (aa:YP_) (s:VH) (σ:St) (H:Hp) (Q:Bool->Hp->Prop),Inv X aa σ H s->t σ H Q ->
  VV (VW X.prog X.w) X.A (forIn bR true λc r=>if r=true then do let ok <- isTrue c X.env (VX c X.env);pure (O7 ok) else pure (O7 r)) (TP X aa σ Q) X.xe s
def Yda:TT:=λ_ H Q=>Q true H
theorem Jj{X:Cx}:QM X [] Yda:=λ_ _ _ H _ I h=>wpAny_tests_nil ⟨H,I,h⟩
theorem JMa{X:Cx}{c:Expr}{t:TT}(h:PT X c t):QM X [c] t:=λaa s σ H Q I q=>wpAny_tests_one (h aa s σ H Q I q)
section
variable{prog:Vg}{w:Vb}{A:VG}{E:YQ_}{R:UJ->VH->Prop}{s:VH}
theorem Yib{cb aS Um:Expr}{bR:List Expr}{scope:Scope}{pos:Pos}{it aQ:Va}{env:Env}(I:Nat->VH->Prop)
 (turn:∀ n s,I n s->VV (VW prog w) A (Uj it) (λr s₁=>match r with
  | none=>R (.ok .next) s₁
  | some v=>VV (VW prog w) A (Uk aS it v) (λ_ s₁=>VV (VW prog w) A (Ub aS env v) (λ_ s₂ =>
   VV (VW prog w) A (forIn bR true λc r=>if r=true then do let ok <- isTrue c env (VX c env);pure (O7 ok) else pure (O7 r)) (λok s₃ =>
    if ok=true then VV (VW prog w) A (VX cb env) (λx s₄ =>
     VV (VW prog w) A (Uz (.builtin "list.append") [aQ,x]) (λ_ s₅=>∃ m,m < n/\I m s₅) (λ_ _=>False) s₄) (λ_ _=>False) s₃
    else ∃ m,m < n/\I m s₃) (λ_ _=>False) s₂) (λ_ _=>False) s₁) (λ_ _=>False) s₁) (λ_ _=>False) s)
 (n:Nat) (h:I n s) :
 UL (VW prog w) A (.compLoop (.ListComp cb [⟨aS,Um,bR,0⟩] scope pos) 0 it aQ env) R s:=by
 refine codeAny_loop rfl I (λn s hI=>?_) n h
 show VV _ A ((compTurn (.ListComp cb [⟨aS,Um,bR,0⟩] scope pos) 0 it aQ env).onRaise (λx=>do noteFrame x env;theTreesLotGoes x)) _ _ s
 refine wpAny_noted ?_
 rw[compTurn_list];refine Ud (Uf (Ud (V1 (turn n s hI) (λr s₁ h₁=>?_) λ_ _ h'=>h'.elim)))
 cases r with
 | none=>exact Uo h₁
 | some v =>
  refine Ud (V1 h₁ (λ_ s₁ h₁=>?_) λ_ _ h'=>h'.elim)
  refine Ud (V1 h₁ (λ_ s₂ h₂=>Ud (V1 h₂ (λok s₃ h₃=>?_) λ_ _ h'=>h'.elim)) λ_ _ h'=>h'.elim)
  cases ok with
  | false=>exact Uo ⟨rfl,h₃⟩
  | true =>
   exact Ud (Ud (V1 h₃ (λx s₄ h₄=>Ud (V1 h₄ (λ_ s₅ h₅=>Uo (Uo ⟨rfl,h₅⟩)) λ_ _ h'=>h'.elim)) λ_ _ h'=>h'.elim))
end
def tLc(wi:TI)(tt:TT)(te:TE):TE:=λσ H Q=>wi σ H λJ H1=>∀ D,H1 D=Vp->∃ W:Nat->Nat->List V->Hp->Prop,(∃ m,W 0 m [] (upd H1 D (.lst [])))/\∀ i m ys H,W i m ys H ->
 H D=Vo (.lst ys)/\((J.stop i H/\Q (.ref D) H)\/(J.go i H/\ys.length < Vs/\∀ x H',J.yld i H x H'->tt (Vo x::σ) H' λb H2=>if b=true then te (Vo x::σ) H2 λv H3 =>
  H3 D=Vo (.lst ys)/\∃ m',m' < m/\W (i+1) m' (ys++[v]) (upd H3 D (.lst (ys++[v]))) else ∃ m',m' < m/\W (i+1) m' ys H2))
section
variable{X:Cx}
theorem XDa{sc:Scope}{x:Str}{px pos:Pos}{Um cb:Expr}{bR:List Expr}{M:List Str}{wi:TI}{tt:TT}{te:TE}{cl:List (Str×Vh)}{RR:Va->Vh->UJ->VH->Prop}{aa:YP_}{s:VH}{σ:St}{H:Hp}{Q:VK}
 (hc:X.calm=true) (B:Yhb X sc x M) (hi:PI X (.Name x px) Um wi) (ht:∀ C s H fp,QM (blk X sc x M cl C s H fp) bR tt) (he:∀ C s H fp,PE (blk X sc x M cl C s H fp) cb te)
 (q1:∀ y c,cl.lookup y=Vo c->X.env.cells.lookup y=Vo c) (q3:∀ y∈sc.names,y.2=.free->∃ c,cl.lookup y.1=Vo c)
 (I:Inv X aa σ H s) (h:tLc wi tt te σ H Q)
 (vJ:∀ (D C:Vh) (s':VH) (m:Str->Option Va) (H':Hp),Inv X aa σ H' s'->s'.heap.Ns C m->Yj X aa H' C->Q (.ref D) H'->RR (.ref D) C (.ok .next) s') :
 VV (VW X.prog X.w) X.A (VX Um X.env) (λxv s₁=>VV (VW X.prog X.w) X.A (Ul xv) (λit s₂=>VV (VW X.prog X.w) X.A (newList []) (λaQ s₃ =>
  VV (VW X.prog X.w) X.A (newFunctionEnv sc X.env.globals cl [] X.env.qual Vp .none (Vo X.env)) (λjq s₄ =>
   UL (VW X.prog X.w) X.A (.compStart (.ListComp cb [⟨.Name x px,Um,bR,0⟩] sc pos) 0 it aQ { jq with scope:=relabel sc X.env }) (RR aQ jq.locals) s₄) X.xe s₃) X.xe s₂) X.xe s₁) X.xe s:=by
 refine thn (hi aa s σ H _ I h) λv s1 h1=>thn h1 λmZ s2 h2=>?_
 obtain⟨it,fp,tn,J,H2,rfl,I2,T,bC,f2,q2⟩:=h2;refine Ia (wpAny_newFunctionEnv B.nocell (by intro y hy;simp at hy) (λh₁ gu gA=>?_) B.kind)
 dsimp only at gu gA ⊢;obtain⟨W,⟨m0,w0⟩,turn⟩:=q2 s2.heap.objs.size I2.fresh;have I3:Inv X aa σ (upd H2 s2.heap.objs.size (.lst [])) { s2 with heap:=s2.heap.push { cls:=.type "list",data:=.seq ([]:List Va).toArray },toks:=s2.toks }:=I2.lnew .nil (Uy _)
 generalize l8:({ s2 with heap:=s2.heap.push { cls:=.type "list",data:=.seq ([]:List Va).toArray },toks:=s2.toks }:VH)=s3 at I3
 have eh:s2.heap.push { cls:=.type "list",dict:=Vp,data:=.seq ([]:List Va).toArray }=s3.heap:=by rw[<- l8]
 have lZ:∀ b∈fp,b < s2.heap.objs.size:=λb hb=>by
  obtain⟨o,e,_⟩:=T.obj _ _ bC b hb;exact Vy e
 have sz:s3.heap.objs.size=s2.heap.objs.size+1:=by rw[<- eh,US]
 have jr:∀ b∈fp,b < s3.heap.objs.size:=λb hb=>by rw[sz];exact Nat.lt_succ_of_lt (lZ b hb)
 have gB:∀ b∈fp,Yj X aa (upd H2 s2.heap.objs.size (.lst [])) b:=λb hb=>⟨by rw[Qh (VB (lZ b hb))];exact(f2 b hb).1,(f2 b hb).2⟩
 rw[eh]at gu gA ⊢;have keep:∀ b o,s3.heap.get? b=Vo o->h₁.get? b=Vo o:=λb o e=>gA.extBut b o (VB (Vy e)) (Us _ e)
 have IB:=I3.toBlk (tk:=s2.toks+([]:List (Str×Va)).length) B q1 q3 gB jr gu keep;have gC:tn 0 h₁:=T.keep _ _ _ bC λb hb o e=>keep b o (by rw[<- eh];exact Us _ e)
 have es:({ s3 with heap:=h₁,toks:=s2.toks+([]:List (Str×Va)).length }:VH)={ s2 with heap:=h₁,toks:=s2.toks+([]:List (Str×Va)).length }:=by rw[<- l8]
 rw[es]at IB;have aC:(blk X sc x M cl s3.heap.objs.size s3 (upd H2 s2.heap.objs.size (.lst [])) fp).env.scope.names.lookup x=Vo .local:=lookup_relabel_local B.own;have hg:PG (blk X sc x M cl s3.heap.objs.size s3 (upd H2 s2.heap.objs.size (.lst [])) fp) (.Name x px) (J4b 0):=QW B.nd rfl (.inl aC) (.inr aC);have nr:=he s3.heap.objs.size s3 (upd H2 s2.heap.objs.size (.lst [])) fp;have aR:=ht s3.heap.objs.size s3 (upd H2 s2.heap.objs.size (.lst [])) fp;have js:∀ s₄:VH,s₄={ s2 with heap:=h₁,toks:=s2.toks+([]:List (Str×Va)).length } ->
  UL (VW X.prog X.w) X.A (.compLoop (.ListComp cb [⟨.Name x px,Um,bR,0⟩] sc pos) 0 (.ref it) (.ref s2.heap.objs.size) (compEnvC sc cl s3.heap.objs.size X.env)) (RR (.ref s2.heap.objs.size) s3.heap.objs.size) s₄:=by
  rintro s₄ rfl;refine Yib (λn s'=>∃ i ys o H',Inv (blk X sc x M cl s3.heap.objs.size s3 (upd H2 s2.heap.objs.size (.lst [])) fp) [] (o::σ) H' s'/\tn i s'.heap/\(∀ b∈fp,H' b=Vp)/\W i n ys H') ?_ m0
   ⟨0,[],Vp,_,IB,gC,λb hb=>(gB b hb).1,w0⟩
  rintro n s' ⟨i,ys,o,H',I',ai,qK,w'⟩;have nu:∀ {H':Hp} {pl:YP_},(∀ b∈fp,H' b=Vp)->∀ b∈fp,Yj (blk X sc x M cl s3.heap.objs.size s3 (upd H2 s2.heap.objs.size (.lst [])) fp) [] H' b:=λ{H' pl} hn b hb =>
   ⟨hn b hb,VB (jr b hb),λz=>I'.ok.exfs b hb z,.inl hb,λy c hy=>(gB b hb).2.2.2.2.1 y c (q1 y c hy),λp hp=>absurd (show p∈([]:YP_) from hp) #[2]⟩
  obtain⟨hD,⟨stop,q⟩ | ⟨go,av,step⟩⟩:=turn i n ys H' w'
  ·refine V1 (T.done (blk X sc x M cl s3.heap.objs.size s3 (upd H2 s2.heap.objs.size (.lst [])) fp) rfl rfl rfl hc i [] s' (o::σ) H' (λ_ _=>False) I' (nu (pl:=[]) qK) ai stop) (λr s4 hZ=>?_) λ_ _ f=>f.elim
   obtain⟨hr,I4⟩:=hZ;subst hr;obtain⟨m,hn,_⟩:=I4.loc;refine vJ _ _ s4 m H' (I3.call' (ch:=fp) I4.os I4.base I4.hok I4.bare λb hb=>⟨(gB b hb).2.2.2.1,(gB b hb).2.1,(gB b hb).2.2.2.2.1,(gB b hb).2.2.2.2.2⟩) hn (I3.fpOk (Uu _) I4.free) q
  ·refine V1 (T.item (blk X sc x M cl s3.heap.objs.size s3 (upd H2 s2.heap.objs.size (.lst [])) fp) rfl rfl rfl hc i [] s' (o::σ) H' (λ_ _=>False) I' (nu (pl:=[]) qK) ai go) (λr s4 hZ=>?_) λ_ _ f=>f.elim
   obtain⟨u,hr,h4⟩:=hZ;subst hr;refine V1 h4 (λ_ s5 hZ=>?_) λ_ _ f=>f.elim
   obtain⟨y,H5,I5,r5,y5,bX,m3⟩:=hZ;have m4:=I5.pinned (nu (pl:=[]) m3) (T.obj _ _ bX);refine V1 (hg _ s5 (o::σ) H5 y u (λσ' H'=>σ'=Vo y::σ/\H'=H5) m4 r5 ⟨rfl,rfl⟩) (λ_ s6 hZ=>?_) λ_ _ f=>f.elim
   obtain⟨σ6,H6,I6,e6,vK⟩:=hZ;subst e6 vK;have again:∀ {H7:Hp} {s7:VH} {zs:List V} {m':Nat},Inv (blk X sc x M cl s3.heap.objs.size s3 (upd H2 s2.heap.objs.size (.lst [])) fp) ([]++Xpa fp s5.heap) (Vo y::σ) H7 s7->m' < n->W (i+1) m' zs H7 ->
    ∃ m,m < n/\∃ i ys o H',Inv (blk X sc x M cl s3.heap.objs.size s3 (upd H2 s2.heap.objs.size (.lst [])) fp) [] (o::σ) H' s7/\tn i s7.heap/\(∀ b∈fp,H' b=Vp)/\W i m ys H':=λ{H7 s7 zs m'} I7 hm w7=>by
    refine⟨m',hm,i+1,zs,Vo y,H7,I7.unpinned,T.keep _ _ _ bX λb hb o e=>(I7.pin (b,o) (Ux _ (Ux _ (XQ hb e)))).1,λb hb=>?_,w7⟩
    obtain⟨o,e,d⟩:=T.obj _ _ bX b hb;exact(I7.pin (b,o) (Ux _ (Ux _ (XQ hb e)))).2.1
   refine V1 (aR _ s6 (Vo y::σ) H6 _ I6 (step y H6 y5)) (λb s7 hZ=>?_) λ_ _ f=>f.elim
   obtain⟨H7,I7,q7⟩:=hZ;cases b with
   | false =>
    rw[if_neg Uh]at q7 ⊢;obtain⟨m',hm,w7⟩:=q7;exact again I7 hm w7
   | true =>
    rw[if_pos rfl]at q7 ⊢;refine V1 (nr _ s7 (Vo y::σ) H7 _ I7 q7) (λu8 s8 hZ=>?_) λ_ _ f=>f.elim
    obtain⟨v8,H8,I8,r8,vL,m',hm,w8⟩:=hZ;refine V1 (ZB (X:=blk X sc x M cl s3.heap.objs.size s3 (upd H2 s2.heap.objs.size (.lst [])) fp) _ s8 (Vo y::σ) H8 (.ref s2.heap.objs.size) [v8] (.ref s2.heap.objs.size) [u8] (λ_ H9=>H9=upd H8 s2.heap.objs.size (.lst (ys++[v8]))) I8 rfl (.cons r8 .nil) ⟨_,ys,v8,rfl,rfl,vL,av,rfl⟩) (λ_ s9 hZ=>?_) λ_ _ f=>f.elim
    obtain⟨_,H9,I9,_,e9⟩:=hZ;subst e9;exact again I9 hm w8
 exact codeAny_compStart_list (js _ rfl) (T.self X.A 0 _ _ _ gC (js _ rfl))
theorem Zo{sc:Scope}{x:Str}{px pos:Pos}{Um cb:Expr}{bR:List Expr}(M:List Str){wi:TI}{tt:TT}{te:TE}(hc:X.calm=true)(B:Yhb X sc x M)(hi:PI X (.Name x px) Um wi)
 (ht:∀ cl C s H fp,QM (blk X sc x M cl C s H fp) bR tt) (he:∀ cl C s H fp,PE (blk X sc x M cl C s H fp) cb te) (hs:∀ x,foldedSetIterable Um X.env x=pure x:=by intro _;rfl) :
 PE X (.ListComp cb [⟨.Name x px,Um,bR,0⟩] sc pos) (tLc wi tt te):=by
 intro aa s σ H Q I h;obtain⟨cl,gD,q1,q3⟩:=XCa X.env sc (λy hy hf=>I.ok.has y.1 (B.free y hy hf))
 rw[eval_ListComp];refine wpAny_comprehension_free (use:=Vp) rfl hs gD B.kind B.names (XDa (RR:=λaQ C=>compPost (VW X.prog X.w) X.A X.xe Vp (EP X aa σ Q) aQ C) hc B hi (ht cl) (he cl) q1 q3 I h ?_)
 intro D C s' m H' I' hn cJ q;exact⟨m,hn,λh' sb=>⟨.ref D,H',I'.turned (t':=s'.toks) (λb o hb e=>sb.extBut b o hb e) cJ.1 cJ.2.1 cJ.2.2.2.1 cJ.2.2.2.2.1 cJ.2.2.2.2.2,rfl,q⟩⟩
def Ysc(j:Nat)(wi:TI)(tt:TT)(te:TE):TS:=λD σ H=>tLc wi tt te σ H λv H'=>D.nx (σ.set j (Vo v)) H'
theorem XEa{sc:Scope}{x y:Str}{px py pos jt:Pos}{Um cb:Expr}{bR:List Expr}{j:Nat}(M:List Str){wi:TI}{tt:TT}{te:TE}(hc:X.calm=true)(hN:X.N.Nodup)(hj:X.N[j]?=Vo y)(hy:X.env.scope.names.lookup y=Vo .local)
 (B:Yhb X sc x M) (hi:PI X (.Name x px) Um wi)
 (ht:∀ cl C s H fp,QM (blk X sc x M cl C s H fp) bR tt) (he:∀ cl C s H fp,PE (blk X sc x M cl C s H fp) cb te)
 (vM:Ua (.ListComp cb [⟨.Name x px,Um,bR,0⟩] sc pos) (Vo (.Name y py)) jt.line X.env=pure true:=by rfl) (hs:∀ x,foldedSetIterable Um X.env x=pure x:=by intro _;rfl) :
 PS X (.Assign [.Name y py] (.ListComp cb [⟨.Name x px,Um,bR,0⟩] sc pos) jt) (Ysc j wi tt te):=by
 intro aa s σ H D I h;obtain⟨cl,gD,q1,q3⟩:=XCa X.env sc (λy hy hf=>I.ok.has y.1 (B.free y hy hf))
 rw[exec_Assign_Name_used _ _ _ _ vM];refine Ud (Uf (Ud ?_))
 show VV _ X.A (do let _ <- comprehension (.ListComp cb [⟨.Name x px,Um,bR,0⟩] sc pos) sc X.env _ (newList []) false (VX Um X.env) (Vo (Ub (.Name y py) X.env))) _ _ s
 refine Ud (V1 (wpAny_comprehension_free (use:=Vo (Ub (.Name y py) X.env)) (Q:=λ_ s'=>SP X aa D .next s') rfl hs gD B.kind B.names
  (XDa (RR:=λaQ C=>compPost (VW X.prog X.w) X.A X.xe (Vo (Ub (.Name y py) X.env)) (λ_ s'=>SP X aa D .next s') aQ C) hc B hi (ht cl) (he cl) q1 q3 I h ?_)) (λ_ s' hq=>Uo (Uo hq)) λ_ _ e=>e)
 intro A C s' m H' I' hn cJ q;show VV _ X.A (Ub (.Name y py) X.env (.ref A)) _ _ s';refine wpAny_assign_Name (Q4b I' hN hj (.inl hy) (v:=.ref A) rfl (λbY nA hZ=>?_) (.inr hy))
 obtain⟨a,sb,ha⟩:=hZ;have au:C≠a:=by
  rcases ha with e | e
  ·rw[e];exact cJ.2.1
  ·exact λz=>cJ.2.2.2.2.1 y a e z.symm
 exact⟨m,hn.sameBut sb au,λh' vN=>⟨_,H',nA.turned (t':=bY.toks) (λb o hb e=>vN.extBut b o hb e) cJ.1 cJ.2.1 cJ.2.2.2.1 cJ.2.2.2.2.1 cJ.2.2.2.2.2,q⟩⟩
end
end L2
end
section
namespace HT
open PySem PyProof.Rows L2
def JX:List V->List V->Option Bool
 | [],[]=>Vo false
 | [],_::_=>Vo true
 | _::_,[]=>Vo false
 | .int i::xs,.int j::ys=>if i=j then JX xs ys else Vo (decide (i < j))
 | .str i::xs,.str j::ys=>if i=j then JX xs ys else Vo (decide (i.cps.toList < j.cps.toList))
 | _::_,_::_=>Vp
theorem JNa:JX [] []=Vo false:=rfl
theorem ZNa(y:V)(ys:List V):JX [] (y::ys)=Vo true:=rfl
theorem ZOa(x:V)(xs:List V):JX (x::xs) []=Vo false:=by cases x <;> rfl
theorem Ytc(A:VG)(s:VH)(a:Str)(t:Tok)(c:Str)(u:Tok)(prog:Vg)(w:Vb)(E:YQ_)(Q:YQ_)(h:Q (.bool (decide (a.cps.toList < c.cps.toList))) s) :
 VV (VW prog w) A (richCompare .Lt (.str a t) (.str c u)) Q E s :=
 (DN h:VV (VW prog w) A (V2 .Lt (.str a t) (.str c u)) Q E s)
section
open PySem.SeqAt
open PySem.AutoSeq1 (wpAny_loadPart')
open PySem.MeetsSeq PySem.MeetsSeq2 PySem.MeetsSeq3
theorem XSb(l b:Vh)(ao ar:Array Va)(n n2:Nat)(dd nC:Option Vh)(sl nE:Array (Option Va))(xs ys:List V)(hi:Qz xs ao.toList)(hj:Qz ys ar.toList)(r:Bool)(hr:JX xs ys=Vo r) :
 Meets (Ib.«tuple.__lt__» ⟨[.ref l,.ref b],[]⟩)
  (λ_ R s=>s.heap.get? l=Vo { cls:=.type "tuple",dict:=dd,data:=.seq ao n,slots:=sl }/\s.heap.get? b=Vo { cls:=.type "tuple",dict:=nC,data:=.seq ar n2,slots:=nE } /\
   R (.ok (.ret (.bool r))) s) :=
 .of_wp λprog w A R s h=>by
  obtain⟨hp,g,d,tk,os⟩:=s;obtain⟨hl,hb,h⟩:=h;have f2:=AutoSeq1.sub_tuple_tuple;have z1:ao.size=xs.length:=by rw[hi.length];simp
  have z2:ar.size=ys.length:=by rw[hj.length];simp
  wp_walk using wpAny_loadPart' hl,wpAny_loadPart' hb,wpAny_forIn_list _ (λrest b s'=>b.1=Vp/\s'=⟨hp,g,d,tk,os⟩/\∃ (vs ws:List Va) (cS gE:List V),rest=vs.zip ws /\
   Qz cS vs/\Qz gE ws/\cS.length+ar.size=gE.length+ao.size/\JX cS gE=Vo r) _
  case turn =>
   rintro⟨y,x⟩ rest b s' ⟨dU,rfl,vs,ws,cS,gE,hz,gF,ma,av,hR⟩;cases gF with
   | nil=>rw[zip_nil_left]at hz;cases hz
   | cons ra ju =>
    cases ma with
    | nil=>rw[zip_nil_right]at hz;cases hz
    | cons rb jv =>
     rename_i a1 v1 l1 l2 a2 v2 l3 l4;rw[zip_cons_cons]at hz;injection hz with hyx fA
     injection hyx with hy hx
     subst hy hx;simp only[UI]at av;cases a1 with
     | int i =>
      cases a2 with
      | int j =>
       obtain⟨t,rfl⟩:=ra;obtain⟨u,rfl⟩:=rb;simp only[JX]at hR;obtain⟨e,he,jw⟩:=Ybc A.in1 ⟨hp,g,d,tk,os⟩ i t j u;refine Ud (he prog w _ _ ?_)
       cases e with
       | true =>
        rw[if_pos (jw.mp rfl)]at hR
        wp_walk
        exact⟨rfl,rfl,_,_,_,_,fA,ju,jv,by lia,hR⟩
       | false =>
        rw[if_neg (λq=>absurd (jw.mpr q) Uh)]at hR
        cases hR;have nF:=Ycc A.in1 ⟨hp,g,d,tk,os⟩ i t j u prog w
        wp_walk using nF
        exact⟨_,rfl,by simpa using h⟩
      | _=>simp[JX]at hR
     | str i =>
      cases a2 with
      | str j =>
       obtain⟨t,rfl⟩:=ra;obtain⟨u,rfl⟩:=rb;simp only[JX]at hR;refine Ud (SeqAt.EqAt.str_str (A:=A.in1) (s:=⟨hp,g,d,tk,os⟩) i t j u prog w _ _ ?_)
       cases e:(i == j) with
       | true =>
        rw[if_pos (by simpa using e)]at hR
        wp_walk
        exact⟨rfl,rfl,_,_,_,_,fA,ju,jv,by lia,hR⟩
       | false =>
        rw[if_neg (by simpa using e)]at hR
        cases hR;have nF:=Ytc A.in1 ⟨hp,g,d,tk,os⟩ i t j u prog w
        wp_walk using nF
        exact⟨_,rfl,by simpa using h⟩
      | _=>simp[JX]at hR
     | _=>cases a2 <;> simp[JX]at hR
  case fin =>
   rintro⟨b1,b2⟩ s' ⟨dU,rfl,vs,ws,cS,gE,hz,gF,ma,av,hR⟩;simp only at dU;subst dU;have hv:r=decide (ao.size < ar.size):=by
    cases gF with
    | nil =>
     cases ma with
     | nil =>
      simp only[OP]at av;rw[JNa]at hR;cases hR;exact(decide_eq_false #[0]).symm
     | cons c hw =>
      simp only[OP,UI]at av;rw[ZNa]at hR;cases hR;exact(decide_eq_true #[0]).symm
    | cons a hv =>
     cases ma with
     | nil =>
      simp only[OP,UI]at av;rw[ZOa]at hR;cases hR;exact(decide_eq_false #[0]).symm
     | cons c hw =>
      rw[zip_cons_cons]at hz;cases hz
   rw[hv]at h
   wp_walk
   exact⟨_,rfl,by simpa[Builtin.Tuple.tupleCompareSizes]using h⟩
  case h =>
   exact⟨rfl,rfl,ao.toList,ar.toList,xs,ys,rfl,hi,hj,by lia,hr⟩
end
section
variable{prog:Vg}{w:Vb}{A:VG}{E:YQ_}{s:VH}
theorem Qvd{l b:Vh}{ao ar:Array Va}{xs ys:List V}{r:Bool}{Q:YQ_}(hl:Vt s.heap l ao)(hb:Vt s.heap b ar)(hi:Qz xs ao.toList)(hj:Qz ys ar.toList)(hr:JX xs ys=Vo r)
 (hu:A.units < UY) (h:Q (.bool r) s):VV (VW prog w) A (V2 .Lt (.ref l) (.ref b)) Q E s:=by
 obtain⟨⟨cls,dd,data,sl⟩,ho,hc,n,hd⟩:=id hl;obtain⟨⟨cls2,nC,data2,nE⟩,md,fC,n2,cw⟩:=id hb;simp only at hc hd fC cw;subst hc hd fC cw;exact richCompare_meets_room (op:=.Lt) ⟨_,ho,rfl⟩ ⟨_,md,rfl⟩ F.slot_tuple_lt F.entry_tuple_lt (F.args_tuple_lt_2 _ _) (XSb l b ao ar n n2 dd nC sl nE xs ys hi hj r hr)
  ⟨ho,md,show Vj r≠Value.notImplemented/\Q (.bool r) s from⟨(λx=>nomatch x),h⟩⟩ hu
end
end HT
namespace L2
open PySem PySem.Spec PyProof.Rows
section
variable{X:Cx}
def J8d:V->Option Va
 | .ty n=>Vo (.type n)
 | .ref a=>Vo (.ref a)
 | _=>Vp
def XTb(K:VD):List V->Hp->VK->Prop:=λxs H Q=>∃ x c t cv b,xs=[x,c]/\J8d c=Vo cv/\JGa K H x t/\UW K t cv=Vo b/\Q (.bl b) H
theorem QE:JV X (.builtin "isinstance") (XTb X.K):=by
 intro aa s σ H xs us Q I r h;obtain⟨x,c,t,cv,b,rfl,hc,ty,e,q⟩:=h;obtain⟨u,w',rfl,rx,rc⟩:=Q3c r;have ec:w'=cv:=by
  cases c <;> simp[J8d]at hc
  ·subst hc;exact rc
  ·subst hc;exact rc
 subst ec;exact ZPc I rx ty e λtk=>⟨.bl b,H,I.tok tk,rfl,q⟩
def J9d(K:VD):R2:=λx y H Q=>∃ a b xs ys r,x=.ref a/\y=.ref b/\SqT K H a xs/\SqT K H b ys/\HT.JX xs ys=Vo r/\Q (.bl r) H
theorem Z1d(hu:X.A.units < UY):OpR X (V2 .Lt) (J9d X.K):=by
 intro aa s σ H x y v u Q I rx ry h;obtain⟨a,b,xs,ys,r,rfl,rfl,ha,hb,e,q⟩:=h;cases rx;cases ry;obtain⟨ag,r1,p1,_⟩:=I.tuple ha;obtain⟨aG,r2,p2,_⟩:=I.tuple hb;exact HT.Qvd p1 p2 (by simpa using r1) (by simpa using r2) e hu ⟨.bl r,H,I,rfl,q⟩
def Its(z:Str):It:=⟨λi _=>i < z.length,λi H x H'=>H'=H/\∃ c,z.cps[i]?=Vo c/\x=.str ⟨#[c]⟩,λi _=>z.length<=i⟩
theorem ZYc{P:Vg}{w:Vb}{K:VD}{tg:Expr}(it:Vh)(z:Str)(t:Tok):ZMb P w K tg (Its z) [it] it (λi h=>h.IsStrIter it "str_ascii_iterator" z t i) where
 mem:=by simp
 obj:=λi h st b hb=>by
  have e:b=it:=by simpa using hb
  subst e;obtain⟨o,e,c,d⟩:=st;exact⟨o,e,λv z=>by rw[d]at z;cases z⟩
 keep:=λi h h' st k=>let ⟨o,ho,r⟩:=st;⟨o,k it #[2] o ho,r⟩
 item:=by
  intro X hP hw hK hc i aa s σ H E I hf st hg;subst hP hw hK;obtain⟨f0,f1,f2,f3,f4,f5⟩:=hf it #[2]
  have W:=Walks.strAscii (prog:=X.prog) (w:=X.w) (I.ok.hd hc) it z t;refine W.item i s _ _ hg st λv h' tk hv ai kk=>?_
  obtain⟨c,u,nG,rfl⟩:=hv;have I1:Inv X aa σ H { s with heap:=h',toks:=tk }:=I.turned (λb o hb e=>kk b o (by simpa using hb) e) f0 f1 f3 f4 f5
  obtain⟨o,e,c',d⟩:=id ai;exact⟨_,rfl,Q5b (s:={ s with heap:=h',toks:=tk }) e c' d #[1] ⟨.str ⟨#[c]⟩,H,I1,⟨_,rfl⟩,⟨rfl,c,nG,rfl⟩,ai,λb hb=>(hf b hb).1⟩⟩
 done:=by
  intro X hP hw hK hc i aa s σ H E I hf st hg;subst hP hw hK;obtain⟨f0,f1,f2,f3,f4,f5⟩:=hf it #[2]
  have nH:z.length<=i:=hg;exact wpAny_pyNext_ascii_end (I.ok.hd hc) st (by simpa[Ox]using nH) λh' eb=>⟨rfl,I.turned (t':=s.toks) (λb o hb e=>eb b o hb e) f0 f1 f3 f4 f5⟩
 self:=λ_ _ _ _ _ st h=>wpAny_pyIter_striter_ascii st h
theorem ZZc{P:Vg}{w:Vb}{K:VD}{tg:Expr}(it:Vh)(z:Str)(t:Tok):ZMb P w K tg (Its z) [it] it (λi h=>h.IsStrIter it "str_iterator" z t i) where
 mem:=by simp
 obj:=λi h st b hb=>by
  have e:b=it:=by simpa using hb
  subst e;obtain⟨o,e,c,d⟩:=st;exact⟨o,e,λv z=>by rw[d]at z;cases z⟩
 keep:=λi h h' st k=>let ⟨o,ho,r⟩:=st;⟨o,k it #[2] o ho,r⟩
 item:=by
  intro X hP hw hK hc i aa s σ H E I hf st hg;subst hP hw hK;obtain⟨f0,f1,f2,f3,f4,f5⟩:=hf it #[2]
  have W:=Walks.strWide (prog:=X.prog) (w:=X.w) (I.ok.hd hc) it z t;refine W.item i s _ _ hg st λv h' tk hv ai kk=>?_
  obtain⟨c,u,nG,rfl⟩:=hv;have I1:Inv X aa σ H { s with heap:=h',toks:=tk }:=I.turned (λb o hb e=>kk b o (by simpa using hb) e) f0 f1 f3 f4 f5
  obtain⟨o,e,c',d⟩:=id ai;exact⟨_,rfl,Q5b (s:={ s with heap:=h',toks:=tk }) e c' d #[1] ⟨.str ⟨#[c]⟩,H,I1,⟨_,rfl⟩,⟨rfl,c,nG,rfl⟩,ai,λb hb=>(hf b hb).1⟩⟩
 done:=by
  intro X hP hw hK hc i aa s σ H E I hf st hg;subst hP hw hK;obtain⟨f0,f1,f2,f3,f4,f5⟩:=hf it #[2]
  have nH:z.length<=i:=hg;exact wpAny_pyNext_wide_end (I.ok.hd hc) st (by simpa[Ox]using nH) λh' eb=>⟨rfl,I.turned (t':=s.toks) (λb o hb e=>eb b o hb e) f0 f1 f3 f4 f5⟩
 self:=λ_ _ _ _ _ st h=>wpAny_pyIter_striter_wide st h
end
section
variable{X:Cx}
def Z2d(tl:TE):TI:=λσ H R=>tl σ H λx H1=>∃ z,x=.str z/\R (Its z) H1
theorem XUb{tg l:Expr}{tl:TE}(hl:PE X l tl):PI X tg l (Z2d tl):=by
 intro aa s σ H R I h;refine thn (hl aa s σ H _ I h) λv s1 hZ=>?_
 obtain⟨x,H1,I1,r1,q1⟩:=hZ;obtain⟨z,e,q⟩:=q1;subst e;obtain⟨t,rfl⟩:=r1;cases ha:z.cps.all (· < 128)
 ·refine wpAny_pyIter_wide ha ?_
  refine⟨s1.heap.objs.size,[s1.heap.objs.size],_,_,H1,rfl,I1.kept (t':=s1.toks) λb o e=>Us _ e,ZZc _ z t,⟨_,Ut _ rfl,rfl,rfl⟩,λb hb=>?_,q⟩
  have e:b=s1.heap.objs.size:=by simpa using hb
  subst e;exact I1.fpOk (Uu _) (I1.hok.fresh (Uu _))
 ·refine wpAny_pyIter_ascii ha ?_
  refine⟨s1.heap.objs.size,[s1.heap.objs.size],_,_,H1,rfl,I1.kept (t':=s1.toks) λb o e=>Us _ e,ZYc _ z t,⟨_,Ut _ rfl,rfl,rfl⟩,λb hb=>?_,q⟩
  have e:b=s1.heap.objs.size:=by simpa using hb
  subst e;exact I1.fpOk (Uu _) (I1.hok.fresh (Uu _))
theorem Qwd{z:Str}{g:TG}{tb:TS}{D:ZL}{σ:St}{H:Hp}(Pv:Nat->St->Hp->Prop)(h0:Pv 0 σ H)
 (hs:∀ i c σ H,z.cps.toList[i]?=Vo c->Pv i σ H->g (.str ⟨#[c]⟩) σ H λσ2 H2=>tb { D with nx:=Pv (i+1),ct:=Pv (i+1),bk:=D.nx } σ2 H2) (hd:∀ σ H,Pv z.length σ H->D.nx σ H) :
 ∃ W:Nat->Nat->St->Hp->Prop,(∃ m,W 0 m σ H)/\∀ i m σ H,W i m σ H ->
  ((Its z).stop i H/\D.nx σ H)\/((Its z).go i H/\∃ N:St->Hp->Prop,(∀ σ' H',N σ' H'->∃ m',m' < m/\W (i+1) m' σ' H')/\∀ x H',(Its z).yld i H x H'->g x σ H' λσ2 H2=>tb { D with nx:=N,ct:=N,bk:=D.nx } σ2 H2):=by
 refine⟨λi m σ H=>m=z.length - i/\i<=z.length/\Pv i σ H,⟨z.length,by simp,Uy _,h0⟩,?_⟩
 rintro i m σ H ⟨rfl,hi,p⟩
 by_cases ax:i < z.length
 ·refine .inr ⟨ax,Pv (i+1),λσ' H' p'=>⟨z.length - (i+1),by lia,rfl,ax,p'⟩,λx H' y=>?_⟩
  obtain⟨e,c,hc,e2⟩:=y;subst e e2;exact hs i c σ _ (by simpa using hc) p
 ·have e:i=z.length:=by lia
  subst e;exact .inl ⟨Uu _,hd σ H p⟩
theorem XFa:∀ {ys:List Str} {us:List Va},Qz (ys.map V.str) us->StrsAre us ys
 | [],_,.nil=>.nil
 | y::ys,_,.cons r t=>by
  obtain⟨tk,rfl⟩:=r;exact .cons y tk (XFa t)
def Znd(K:VD):V->List V->Hp->VK->Prop:=λx xs H Q=>∃ z l ys,x=.str z/\xs=[.ref l]/\SqL K H l (ys.map V.str)/\(ys.map (·.length)).sum+ys.length * z.length<=16777216/\Q (.str (Ic z ys)) H
theorem Zbc:MtR X "str.join" (Znd X.K):=by
 intro aa s σ H x xs v us Q I rx rv h;obtain⟨z,l,ys,rfl,rfl,hq,hok,q⟩:=h;obtain⟨t,rfl⟩:=rx;obtain⟨u,rfl,ru⟩:=rv.one;cases ru;obtain⟨ag,r,p,hz⟩:=I.list hq;exact join_list p.isList (XFa (by simpa using r)) hok λt' k=>⟨.str _,H,I.tok k,⟨_,rfl⟩,q⟩
def Yad:V->Option Int->Option Int->Hp->VK->Prop:=λx lo hi H Q=>∃ z,x=.str z/\z.length<=Vs/\Q (.str (Ie z lo hi)) H
theorem Yuc{x:V}(f:Yd x=true):eqV x x=true:=by cases x <;> simp[eqV,Yd]at *
end
theorem Zk:VF "len"=Vo (.builtin "len"):=by decide +kernel
theorem Qu:VF "isinstance"=Vo (.builtin "isinstance"):=by decide +kernel
theorem Yvc:VF "ord"=Vo (.builtin "ord"):=by decide +kernel
theorem Ywc:VF "max"=Vo (.builtin "max"):=by decide +kernel
theorem Z3d:VF "min"=Vo (.builtin "min"):=by decide +kernel
theorem XT:VF "str"=Vo (.type "str"):=by decide +kernel
theorem Yxc:VF "int"=Vo (.type "int"):=by decide +kernel
theorem Xca:VF "bool"=Vo (.type "bool"):=by decide +kernel
theorem XU:VF "list"=Vo (.type "list"):=by decide +kernel
theorem Jk:VF "tuple"=Vo (.type "tuple"):=by decide +kernel
def Ybd(dsc sc:Scope)(x:Str)(N M:List Str):Bool :=
 decide (sc.kind=.function) && sc.names.all (λy=>decide (y.2≠.cell)) && sc.names.all (λy=>decide (y.2=.local->sc.names.lookup y.1=Vo .local)) && decide (sc.names.lookup x=Vo .local) && decide ((x::M).Nodup) &&
 decide (M.length=N.length) && sc.names.all (λy=>decide (y.2=.free->dsc.names.lookup y.1=Vo .cell\/dsc.names.lookup y.1=Vo .free)) &&
 (VC M.length).all (λi=>match M[i]? with | some y=>decide (sc.names.lookup y=Vo .free->N[i]?=Vo y) | none=>true) && M.all (λy=>decide (sc.names.lookup y≠Vo .local))
theorem Ye{X:Cx}{sc dsc:Scope}{x:Str}{N M:List Str}(hN:X.N=N)(hs:X.env.scope=dsc)(h:Ybd dsc sc x N M=true):Yhb X sc x M:=by
 unfold Ybd at h;simp only[OC,decide_eq_true_eq,Ig]at h;obtain⟨⟨⟨⟨⟨⟨⟨⟨h1,h2⟩,h3⟩,h4⟩,h5⟩,h6⟩,h7⟩,h8⟩,h9⟩:=h;refine⟨h1,h2,h3,h4,h5,by rw[hN];exact h6,λy hy hf=>?_,λi y hi hf=>?_,h9⟩
 ·have:=h7 y hy hf
  rw[<- hs]at this;exact this
 ·have hl:i < M.length:=(List.getElem?_eq_some_iff.mp hi).1
  have:=h8 i (mem_range.mpr hl);rw[hi]at this;rw[hN];exact(decide_eq_true_eq.mp this) hf
def Cal(P:Vg)(w:Vb)(K:VD)(mg:Str->Option Va)(base:Vq)(k:Nat)(x:Str)(ps:List Str)(sp:Sp):Prop :=
 ∃ f fd,Qy P w K mg base CX0 k f fd ps sp/\ZA K fd ps []/\UP K (.ref f)=true/\mg x=Vo (.ref f)
section
variable{X:Cx}{e:Expr}{es:List Expr}{t:TA}{p pos:Pos}
theorem Jl{j k:Nat}{x:Str}{ps:List Str}{sp:Sp}(G:Cal X.prog X.w X.K X.mg X.base j x ps sp)(hr:Q5 k X.A)(hj:j<=k)(hg:Gl X x)(ha:PA X (e::es) t)(aF:(x == ("__debug__":Str))=false:=by decide)
 (he:VZ (e::es) X.env=(false,VX e X.env)::VZ es X.env:=by rfl) (aI:(VY pos (VZ es X.env)).any (·.1)=false:=by rfl):PE X (.Call (.Name x p) (e::es) [] pos) (YLa sp [] E0 t):=by
 obtain⟨f,fd,F,b,kp,m⟩:=G;exact Q6c F (hr.mono hj) hg m kp b .nil Zfb ha aF he aI
theorem Zxa{x:Str}{i:Int}(h:∃ t,X.mg x=Vo (.int i t))(hg:Gl X x)(hd:(x == ("__debug__":Str))=false:=by decide):PE X (.Name x pos) (tC (.int i)):=by
 obtain⟨t,h⟩:=h;exact QWc hg h ⟨t,rfl⟩ hd
end
theorem Q3{K:VD}{H:Hp}{Q:VK}{x:V}{n:String}{t:Va}{b:Bool}(ty:JGa K H x t)(e:UW K t (.type n)=Vo b)(q:Q (.bl b) H):XTb K [x,.ty n] H Q:=⟨x,.ty n,t,.type n,b,rfl,rfl,ty,e,q⟩
section
variable{K:VD}
theorem Yjb:UW K (.type "int") (.type "int")=Vo true:=by rfl
theorem Ykb:UW K (.type "str") (.type "int")=Vo false:=by rfl
theorem JOa:UW K (.type "int") (.type "bool")=Vo false:=by rfl
end
theorem Ycd{c:Bool}{p:Bool->Prop}:(∃ k,V.bl c=V.bl k/\p k)=p c:=propext ⟨λ⟨_,e,q⟩=>by cases e;exact q,λq=>⟨c,rfl,q⟩⟩
theorem Z4d{c:Int}{p:Int->Prop}:(∃ k,V.int c=V.int k/\p k)=p c:=propext ⟨λ⟨_,e,q⟩=>by cases e;exact q,λq=>⟨c,rfl,q⟩⟩
theorem Z5d{c:Str}{p:Str->Prop}:(∃ k,V.str c=V.str k/\p k)=p c:=propext ⟨λ⟨_,e,q⟩=>by cases e;exact q,λq=>⟨c,rfl,q⟩⟩
theorem Z6d{c:Vh}{p:Vh->Prop}:(∃ k,V.ref c=V.ref k/\p k)=p c:=propext ⟨λ⟨_,e,q⟩=>by cases e;exact q,λq=>⟨c,rfl,q⟩⟩
theorem Qxd{a b:Int}{p:Int->Int->Prop}:(∃ i j,V.int a=V.int i/\V.int b=V.int j/\p i j)=p a b:=propext ⟨λ⟨_,_,e,f,q⟩=>by cases e;cases f;exact q,λq=>⟨a,b,rfl,rfl,q⟩⟩
theorem Qk{t:TS}{D:ZL}{σ σ':St}{H:Hp}(e:σ'=σ)(h:t D σ H):t D σ' H:=by rw[e];exact h
end L2
end
section
namespace Att
open PySem PySem.W PySem.Calls PyProof.Rows
theorem Ylb:∀ (ns:List Int),Ih (ns.map OI)<=2 ^ 20->∀ n∈ns,Ii n<=2 ^ 20
 | [],_,_,h=>nomatch h
 | m::ns,hw,n,h=>by
  rw[UO]at hw;have e:Ih (OI m::ns.map OI)=Ij (.int m)+1+Ih (ns.map OI):=by simp only[Ih]
  rw[e]at hw
  rcases mem_cons.mp h with rfl | h
  ·have:Ij (.int n)<=2 ^ 20:=by lia
   simpa only[Ij,Ii]using this
  ·exact Ylb ns #[0] n h
theorem ZRb{l:OpenLaw}{n:Nat}{q:Vg}{cx:List Str}{XP:(Str->Option Va)->Vq->Prop}{YP:Vb->Vq->Prop}{d:DefRec}
 (hn:l.most=Vo n) (nI:d.params.defaults=[])
 (Uz:∀ (w:Vb) (s₀ s₁:VH) (mg mb:Str->Option Va) (fa:Vh) (o:Obj) (pm cd aO:Va) (a:Vh) (vs:List Va) (ns:List Int),
  Ground q cx [] XP w s₀ mg mb s₁.heap->YP w s₁.heap ->
  s₁.heap.get? fa=Vo o->o.data=.func (docDef d.name d.params d.body d.scope pm cd aO)->s₁.heap.CodeRec cd d.name->mg d.name=Vo (.ref fa) ->
  s₁.heap.get? a=Vo { cls:=.type "list",data:=.seq vs.toArray }->IntsAre vs ns->ns.length<=n->(∀ i∈ns,Ii i<=2 ^ 20)->s₁.gens=#[] ->
  UL (VW l.prog w) OM (.call (.ref fa) ⟨[.ref a],[]⟩) (λr s'=>r=.ok (.ret (.bool true))/\OldK s₁.heap s'.heap/\s'.os=s₁.os/\VI s'.gens) s₁) :
 WalkO q cx XP YP l.row.toRowW d [] (λf vs=>PySem.call f vs):=by
 intro w s₀ s₁ mg mb G Y fa o pm cd aO dV kV ho hd bc hD jx hg args gq as eJ nJ hrd m9 bw;obtain rfl:dV=.none:=Dflts.none hD nI;obtain rfl:kV=.none:=Dflts.noKw hD;obtain⟨a,vs,ns,rfl,rfl,gG,db,av⟩:=ZSc hn eJ m9;have hb:∀ i∈ns,Ii i<=2 ^ 20:=by
  have h1:WData.layable (.list (ns.map OI))=true:=by
   have:=nJ;unfold WData.layableAll at this;exact all_eq_true.mp this _ VN
  have h2:Ij (.list (ns.map OI))<=2 ^ 20:=of_decide_eq_true (Bool.and_eq_true_iff.mp h1).2;exact Ylb ns (by simpa only[Ij]using h2)
 refine enter_call (U3 (Uz w s₀ s₁ mg mb fa o pm cd aO a vs ns G Y ho (fd_plain hd) bc jx gG db av hb hg) λr s' hq=>?_)
 obtain⟨rfl,h2,h3,h4⟩:=hq;exact⟨.inl ⟨.bool true,.bool true,[],rfl,λ_=>rfl,.bool true,ZTc l _,λ_=>⟨Ik,λ_ hm=>(nomatch hm)⟩⟩,h2,h3,h4⟩
end Att
namespace L2
open PySem PySem.Spec PyProof.Rows
theorem Yyc{l:W.OpenLaw}{n k:Nat}{q:Vg}{cx:List Str}{XP:(Str->Option Va)->Vq->Prop}{YP:Vb->Vq->Prop}{d:DefRec}{K:Params->VD}{CX:Vb->CXT}{sp:VD->Sp}{x:Str}
 (hn:l.most=Vo n) (iR:n<=Vs) (nI:d.params.defaults=[]) (hr:Q5 k OM)
 (hY:∀ (w:Vb) (h:Vq),YP w h->(K w.params).In h)
 (F:∀ (w:Vb) (mg:Str->Option Va) (fa:Vh) (h:Vq),(K w.params).In h->h.Ns VE mg->mg d.name=Vo (.ref fa) ->
  ∃ fd:U0,(∀ (s:VH) (u:Va),BindsTo s fd ⟨[u],[]⟩ [(x,u)]) /\
   ∀ base:Vq,(K w.params).In base->base.Ns VE mg->Qy l.prog w (K w.params) mg base (CX w) k fa fd [x] (sp (K w.params)))
 (b9:∀ (K:VD) (H:Hp) (a:Vh) (ns:List Int),ns.length<=n->(∀ i∈ns,Ii i<=2 ^ 20)->ZWd H->SqL K H a (ns.map V.int)->sp K [.ref a] H (λv _=>v=.bl true) λ_ _ _=>False)
 (nh:∀ (w:Vb) (H:Hp) (s:VH) (e:Va) (s':VH),CX w [] H s (λ_ _ _=>False) e s'->False) :
 W.WalkO q cx XP YP l.row.toRowW d [] (λf vs=>PySem.call f vs):=by
 refine Att.ZRb hn nI λw s₀ s₁ mg mb fa o pm cd aO a vs ns G Y ho hd bc jx gG db av hb hg=>?_
 have KX:=hY w _ Y;obtain⟨fd,vO,hF⟩:=F w mg fa _ KX G.T.g jx;exact Yic KX G.T.g G.T.b G.T.builtins G.T.nolimit hg gG db (VJ av iR) hr hF vO (λH hO hS=>b9 _ H a ns av hb hO hS) λH e s'=>nh w H s₁ e s'
section
variable{X:Cx}
theorem Z9:OpR X (UA .Mult) (rI IntMulOk λi j=>.int (i * j)):=opI λ_ _ _ _ _ _ _ hc q=>mul_int q hc
end
section
variable{X:Cx}
theorem Z7d:SlR X Yad:=by
 intro aa s σ H x v vl vu lo hi sl Q I rx hs pl pu h;obtain⟨z,rfl,hz,q⟩:=h;obtain⟨t,rfl⟩:=rx;refine⟨"str",_,F.slot_str_getitem.lookup,typeIs_str _ _ _,?_⟩
 cases pl with
 | none =>
  cases pu with
  | none=>exact Il (l:=Vp) (u:=Vp) (st:=Vp) hs rfl (Im ⟨VJ (Io z _ _) hz,λt' k=>⟨.str (Ie z Vp Vp),H,I.tok k,⟨_,rfl⟩,q⟩⟩)
  | int j uj=>exact Il (l:=Vp) (u:=Vo (j,uj)) (st:=Vp) hs rfl (Im ⟨VJ (Io z _ _) hz,λt' k=>⟨.str (Ie z Vp (Vo j)),H,I.tok k,⟨_,rfl⟩,q⟩⟩)
 | int i ui =>
  cases pu with
  | none=>exact Il (l:=Vo (i,ui)) (u:=Vp) (st:=Vp) hs rfl (Im ⟨VJ (Io z _ _) hz,λt' k=>⟨.str (Ie z (Vo i) Vp),H,I.tok k,⟨_,rfl⟩,q⟩⟩)
  | int j uj=>exact Il (l:=Vo (i,ui)) (u:=Vo (j,uj)) (st:=Vp) hs rfl (Im ⟨VJ (Io z _ _) hz,λt' k=>⟨.str (Ie z (Vo i) (Vo j)),H,I.tok k,⟨_,rfl⟩,q⟩⟩)
end
theorem Qi{H:Hp}{p:Vh}(h:H p=Vp)(o:HO):Qj H (upd H p o):=λb u q=>by rw[Qh (QC q h)];exact q
theorem Qj.updL{H H':Hp}{p:Vh}(s:Qj H H')(h:H p=Vp)(o:HO):Qj H (upd H' p o):=λb u q=>by rw[Qh (QC q h)];exact s b u q
theorem Qj.seqT{K:VD}{H H':Hp}{a:Vh}{xs:List V}(e:Qj H H')(h:SqT K H a xs):SqT K H' a xs:=by
 rcases h with (h | ⟨o,h⟩) | h
 ·exact .inl (.inl (e _ _ h))
 ·exact .inl (.inr ⟨o,e _ _ h⟩)
 ·exact .inr h
theorem Zod{α:Type}(xs:List α)(i:Nat):∀ k:Nat,((VC k).map (i+·)).filterMap (xs[·]?)=(xs.drop i).take k
 | 0=>by simp
 | k+1=>by
  rw[range_succ,Ip,filterMap_append,Zod xs i k,Iq,getElem?_drop]
  cases h:xs[i+k]? <;> simp[h]
theorem Z0c(lo hi:Option Int)(n:Nat):Builtin.Str.strSliceIndices lo hi 1 n=(VC (HT.sIx n n hi - HT.sIx n 0 lo)).map (HT.sIx n 0 lo+·):=by
 obtain⟨h1,h2,h3⟩:=JJa lo hi n;have e:Builtin.Str.strSliceIndices lo hi 1 n=sliceRange (OB lo hi Vp n).1 (OB lo hi Vp n).2.1 (OB lo hi Vp n).2.2:=rfl;rw[e,h1,h2,h3];unfold sliceRange;have h4:(1:Int) > 0:=by decide
 simp only[h4,if_true];have e2:(if ((HT.sIx n 0 lo:Nat):Int) < ((HT.sIx n n hi:Nat):Int) then (((HT.sIx n n hi:Nat):Int) - ((HT.sIx n 0 lo:Nat):Int)+1 - 1) / 1 else 0).toNat=HT.sIx n n hi - HT.sIx n 0 lo:=by
  split <;> lia
 rw[e2]
 apply Ir
 intro k _
 lia
def Yzc(z:Str)(lo hi:Option Int):List Nat:=(z.cps.toList.drop (HT.sIx z.length 0 lo)).take (HT.sIx z.length z.length hi - HT.sIx z.length 0 lo)
theorem XGa(z:Str)(lo hi:Option Int):(Ie z lo hi).cps.toList=Yzc z lo hi:=by
 have hn:z.cps.toList.length=z.length:=by simp[Ox]
 unfold Ie Yzc;rw[Z0c]
 split
 ·rename_i h
  have hl:HT.sIx z.length z.length hi - HT.sIx z.length 0 lo=z.length:=by
   have:=(Bool.and_eq_true_iff.mp h).2
   simpa using this
  have hb:=HT.ZUd z.length z.length (Uu _) hi;have ha:HT.sIx z.length 0 lo=0\/z.length=0:=by lia
  rcases ha with ha | ha
  ·rw[hl,ha,DM,Iu #[0]]
  ·have:z.cps.toList=[]:=Iv #[0]
   rw[this];simp
 ·show(Iw _).toList=_
  rw[toList_toArray];have e:(λ(x:Nat)=>z.cps[x]?)=λ(x:Nat)=>z.cps.toList[x]?:=by funext x;simp
  rw[e];exact Zod _ _ _
theorem Z1c(z:Str)(lo hi:Option Int):(Ie z lo hi).length=(Yzc z lo hi).length:=by
 rw[<- XGa];simp[Ox]
def FoR(J:It)(g:TG)(tb:TS)(D:ZL)(σ:St)(H1:Hp):Prop:=∃ W:Nat->Nat->St->Hp->Prop,(∃ m,W 0 m σ H1)/\∀ i m σ H,W i m σ H ->
 (J.stop i H/\D.nx σ H)\/(J.go i H/\∃ N:St->Hp->Prop,(∀ σ' H',N σ' H'->∃ m',m' < m/\W (i+1) m' σ' H')/\∀ x H',J.yld i H x H'->g x σ H' λσ2 H2=>tb { D with nx:=N,ct:=N,bk:=D.nx } σ2 H2)
def LcR(J:It)(tt:TT)(te:TE)(σ:St)(Q:VK)(H1:Hp):Prop:=∀ D,H1 D=Vp->∃ W:Nat->Nat->List V->Hp->Prop,(∃ m,W 0 m [] (upd H1 D (.lst [])))/\∀ i m ys H,W i m ys H ->
 H D=Vo (.lst ys)/\((J.stop i H/\Q (.ref D) H)\/(J.go i H/\ys.length < Vs/\∀ x H',J.yld i H x H'->tt (Vo x::σ) H' λb H2=>if b=true then te (Vo x::σ) H2 λv H3 =>
  H3 D=Vo (.lst ys)/\∃ m',m' < m/\W (i+1) m' (ys++[v]) (upd H3 D (.lst (ys++[v]))) else ∃ m',m' < m/\W (i+1) m' ys H2))
theorem Z2c{ta:TA}{g:TG}{tb:TS}{D:ZL}{σ:St}{H:Hp}:Qvb (JZc ta) g tb D σ H=ta σ H λvs H1=>∃ j:Int,vs=[.int j] /\ -(2 ^ 62)<=j/\j < 2 ^ 62/\FoR (Itr 0 j.toNat) g tb D σ H1:=rfl
theorem Z3c{ta:TA}{g:TG}{tb:TS}{D:ZL}{σ:St}{H:Hp}:Qvb (J0c ta) g tb D σ H=ta σ H λvs H1=>∃ i j:Int,vs=[.int i,.int j]/\(-(2 ^ 62)<=i/\i < 2 ^ 62 /\ -(2 ^ 62)<=j/\j < 2 ^ 62)/\FoR (Itr i (j - i).toNat) g tb D σ H1:=rfl
theorem Z4c{K:VD}{tl:TE}{g:TG}{tb:TS}{D:ZL}{σ:St}{H:Hp}:Qvb (JYc K tl) g tb D σ H=tl σ H λx H1=>∃ a,x=.ref a/\(∃ xs,SqL K H1 a xs)/\FoR (Itl K a) g tb D σ H1:=rfl
theorem YAc{K:VD}{tl:TE}{g:TG}{tb:TS}{D:ZL}{σ:St}{H:Hp}:Qvb (ZPd K tl) g tb D σ H=tl σ H λx H1=>∃ a,x=.ref a/\(∃ xs,SqT K H1 a xs)/\FoR (Itt K a) g tb D σ H1:=rfl
theorem YBc{tl:TE}{g:TG}{tb:TS}{D:ZL}{σ:St}{H:Hp}:Qvb (Z2d tl) g tb D σ H=tl σ H λx H1=>∃ z,x=.str z/\FoR (Its z) g tb D σ H1:=rfl
theorem YCc{ta:TA}{tt:TT}{te:TE}{σ:St}{H:Hp}{Q:VK}:tLc (JZc ta) tt te σ H Q=ta σ H λvs H1=>∃ j:Int,vs=[.int j] /\ -(2 ^ 62)<=j/\j < 2 ^ 62/\LcR (Itr 0 j.toNat) tt te σ Q H1:=rfl
theorem YDc{K:VD}{tl:TE}{tt:TT}{te:TE}{σ:St}{H:Hp}{Q:VK}:tLc (JYc K tl) tt te σ H Q=tl σ H λx H1=>∃ a,x=.ref a/\(∃ xs,SqL K H1 a xs)/\LcR (Itl K a) tt te σ Q H1:=rfl
theorem Qyd{K:VD}{tl:TE}{tt:TT}{te:TE}{σ:St}{H:Hp}{Q:VK}:tLc (ZPd K tl) tt te σ H Q=tl σ H λx H1=>∃ a,x=.ref a/\(∃ xs,SqT K H1 a xs)/\LcR (Itt K a) tt te σ Q H1:=rfl
theorem Qzd{tl:TE}{tt:TT}{te:TE}{σ:St}{H:Hp}{Q:VK}:tLc (Z2d tl) tt te σ H Q=tl σ H λx H1=>∃ z,x=.str z/\LcR (Its z) tt te σ Q H1:=rfl
theorem Jx{lo:Int}{n:Nat}{g:TG}{tb:TS}{D:ZL}{σ:St}{H:Hp}(Pv:Nat->St->Hp->Prop)(h0:Pv 0 σ H)
 (hs:∀ i σ H,i < n->Pv i σ H->g (.int (lo+i)) σ H λσ2 H2=>tb { D with nx:=Pv (i+1),ct:=Pv (i+1),bk:=D.nx } σ2 H2) (hd:∀ σ H,Pv n σ H->D.nx σ H):FoR (Itr lo n) g tb D σ H:=ZLc Pv h0 hs hd
theorem YG{K:VD}{a:Vh}(xs:List V){g:TG}{tb:TS}{D:ZL}{σ:St}{H:Hp}(Pv:Nat->St->Hp->Prop)(h0:Pv 0 σ H)(hl:∀ i σ H,i<=xs.length->Pv i σ H->SqL K H a xs)
 (hs:∀ i x σ H,xs[i]?=Vo x->Pv i σ H->g x σ H λσ2 H2=>tb { D with nx:=Pv (i+1),ct:=Pv (i+1),bk:=D.nx } σ2 H2) (hd:∀ σ H,Pv xs.length σ H->D.nx σ H):FoR (Itl K a) g tb D σ H:=J1c Pv h0 hl hs hd
theorem Zcc{K:VD}{a:Vh}(xs:List V){g:TG}{tb:TS}{D:ZL}{σ:St}{H:Hp}(Pv:Nat->St->Hp->Prop)(h0:Pv 0 σ H)(hl:∀ i σ H,i<=xs.length->Pv i σ H->SqT K H a xs)
 (hs:∀ i x σ H,xs[i]?=Vo x->Pv i σ H->g x σ H λσ2 H2=>tb { D with nx:=Pv (i+1),ct:=Pv (i+1),bk:=D.nx } σ2 H2) (hd:∀ σ H,Pv xs.length σ H->D.nx σ H):FoR (Itt K a) g tb D σ H:=X6c Pv h0 hl hs hd
theorem QAd{z:Str}{g:TG}{tb:TS}{D:ZL}{σ:St}{H:Hp}(Pv:Nat->St->Hp->Prop)(h0:Pv 0 σ H)
 (hs:∀ i c σ H,z.cps.toList[i]?=Vo c->Pv i σ H->g (.str ⟨#[c]⟩) σ H λσ2 H2=>tb { D with nx:=Pv (i+1),ct:=Pv (i+1),bk:=D.nx } σ2 H2) (hd:∀ σ H,Pv z.length σ H->D.nx σ H):FoR (Its z) g tb D σ H:=Qwd Pv h0 hs hd
theorem YEc{J:It}{te:TE}{σ:St}{H1:Hp}{Q:VK}(n:Nat)(item:Nat->V->Prop)(P:Nat->V->Prop)(hz:n<=Vs)
 (eN:∀ i H2,i < n->Qj H1 H2->J.go i H2/\∀ x H',J.yld i H2 x H'->H'=H2/\item i x) (bB:∀ H2,Qj H1 H2->J.stop n H2)
 (he:∀ i x H2 (R:VK),item i x->Qj H1 H2->(∀ v H3,P i v->Qj H2 H3->R v H3)->te (Vo x::σ) H2 R)
 (hq:∀ D H2 ys,H1 D=Vp->Qj H1 H2->H2 D=Vo (.lst ys)->ys.length=n->(∀ i y,ys[i]?=Vo y->P i y)->Q (.ref D) H2):LcR J Yda te σ Q H1:=by
 intro D hD;refine⟨λi m ys H2=>m=n - i/\i<=n/\ys.length=i/\H2 D=Vo (.lst ys)/\Qj H1 H2/\∀ j y,ys[j]?=Vo y->P j y,⟨_,rfl,Uy _,rfl,Qa,Qi hD _,λj y h=>by simp at h⟩,?_⟩
 rintro i m ys H2 ⟨rfl,hi,hl,hd,sm,hp⟩;refine⟨hd,?_⟩
 by_cases ax:i < n
 ·obtain⟨go,yl⟩:=eN i H2 ax sm
  refine .inr ⟨go,by lia,λx H' y=>?_⟩
  obtain⟨e,hx⟩:=yl x H' y;subst e;unfold Yda;refine Qtd ?_
  refine he i x _ _ hx sm λv H3 pv s3=>⟨s3 _ _ hd,n - (i+1),by lia,rfl,ax,by rw[On,hl];rfl,Qa,(sm.trans s3).updL hD _,λj y h=>?_⟩
  by_cases hj:j < ys.length
  ·rw[Oj hj]at h
   exact hp j y h
  ·rw[Oi #[0]]at h
   have dW:j=i:=by
    have:=(List.getElem?_eq_some_iff.mp h).1
    simp at this
    lia
   subst dW;rw[hl]at h;simp at h;subst h;exact pv
 ·have e:i=n:=by lia
  subst e;exact .inl ⟨bB H2 sm,hq D H2 ys hD sm hd hl hp⟩
theorem Zib{te:TE}{σ:St}{H1:Hp}{Q:VK}{lo:Int}{n:Nat}(P:Nat->V->Prop)(hz:n<=Vs)
 (he:∀ (i:Nat) H2 (R:VK),i < n->Qj H1 H2->(∀ v H3,P i v->Qj H2 H3->R v H3)->te (Vo (.int (lo+i))::σ) H2 R)
 (hq:∀ D H2 ys,H1 D=Vp->Qj H1 H2->H2 D=Vo (.lst ys)->ys.length=n->(∀ i y,ys[i]?=Vo y->P i y)->Q (.ref D) H2):LcR (Itr lo n) Yda te σ Q H1 :=
 YEc n (λi x=>i < n/\x=.int (lo+i)) P hz (λi H2 hi _=>⟨hi,λx H' y=>⟨y.1,hi,y.2⟩⟩) (λ_ _=>Uu _) (λi x H2 R ⟨hi,e⟩ s r=>by subst e;exact he i H2 R hi s r) hq
theorem Zdc{z:Str}{te:TE}{σ:St}{H1:Hp}{Q:VK}(P:Nat->V->Prop)(hz:z.length<=Vs)
 (he:∀ i c H2 (R:VK),z.cps.toList[i]?=Vo c->Qj H1 H2->(∀ v H3,P i v->Qj H2 H3->R v H3)->te (Vo (.str ⟨#[c]⟩)::σ) H2 R)
 (hq:∀ D H2 ys,H1 D=Vp->Qj H1 H2->H2 D=Vo (.lst ys)->ys.length=z.length->(∀ i y,ys[i]?=Vo y->P i y)->Q (.ref D) H2):LcR (Its z) Yda te σ Q H1 :=
 YEc z.length (λi x=>∃ c,z.cps.toList[i]?=Vo c/\x=.str ⟨#[c]⟩) P hz (λi H2 hi _=>⟨hi,λx H' ⟨e,c,hc,ex⟩=>⟨e,c,by simpa using hc,ex⟩⟩) (λ_ _=>Uu _) (λi x H2 R ⟨c,hc,e⟩ s r=>by subst e;exact he i c H2 R hc s r) hq
end L2
end
section
namespace SortT
open PySem PySem.W PyProof.Rows
def XC{α:Type}(n:Nat)(r:Nat->Nat):KasT α->(α->Prop)->Prop
 | .ret a,Q=>Q a
 | .ask i j k,Q=>i < n/\j < n/\XC n r (k (decide (r i < r j))) Q
theorem Zp{α:Type}{n:Nat}{r:Nat->Nat}{Q Q':α->Prop}(h:∀ a,Q a->Q' a):∀ t:KasT α,XC n r t Q->XC n r t Q'
 | .ret a,q=>h a q
 | .ask i j k,q=>⟨q.1,q.2.1,Zp h (k _) q.2.2⟩
theorem YB{α β:Type}{n:Nat}{r:Nat->Nat}{f:α->KasT β}{Q:β->Prop}:∀ t:KasT α,XC n r t (λa=>XC n r (f a) Q)->XC n r (t.bind f) Q
 | .ret a,q=>q
 | .ask i j k,q=>⟨q.1,q.2.1,YB (k _) q.2.2⟩
theorem Zec{α:Type}{n:Nat}{r:Nat->Nat}{qL:Nat->Nat->(Bool->VH->Prop)->VH->Prop}{Q:α->VH->Prop}{I:VH->Prop}(hc:∀ i j C s,i < n->j < n->I s->(∀ s',I s'->C (decide (r i < r j)) s')->qL i j C s) :
 ∀ (t:KasT α) (s:VH),I s->XC n r t (λa=>∀ s',I s'->Q a s')->t.kasWp qL Q s
 | .ret a,s,hs,q=>q s hs
 | .ask i j k,s,hs,q=>hc i j _ s q.1 q.2.1 hs λs' aT=>Zec hc (k _) s' aT q.2.2
def K(r:Nat->Nat)(p:Array Nat)(i:Nat):Nat:=r (p.getD i 0)
structure Ok(n:Nat)(p:Array Nat):Prop where
 size:p.size=n
 perm:p.Perm (VC n).toArray
theorem Ok.lt{n:Nat}{p:Array Nat}(h:Ok n p)(hn:0 < n)(i:Nat):p.getD i 0 < n:=by
 rw[Ix];cases e:p[i]? with
 | none=>exact hn
 | some x =>
  have hx:x∈p:=Array.mem_of_getElem? e;have:=(h.perm.mem_iff (a:=x)).mp hx
  simpa using this
theorem Ok.start(n:Nat):Ok n (VC n).toArray:=⟨by simp,Array.Perm.refl _⟩
theorem Ok.rev{n:Nat}{p:Array Nat}(h:Ok n p)(i j:Nat):Ok n (Iy p i j):=⟨(mirror_size _ _ _ _).trans h.size,(mirror_perm _ _ _ _).trans h.perm⟩
theorem Ok.bub{n:Nat}{p:Array Nat}(h:Ok n p)(i j:Nat):Ok n (bubble p i j):=⟨(bubble_size _ _ _).trans h.size,(bubble_perm _ _ _).trans h.perm⟩
theorem Z5c{r:Nat->Nat}{p q:Array Nat}{i j:Nat}(h:p[i]?=q[j]?):K r p i=K r q j:=by
 unfold K;rw[Ix,Ix,h]
theorem YFc{r:Nat->Nat}{p:Array Nat}{i j:Nat}(hj:j<=p.size)(k:Nat):K r (Iy p i j) k=if i<=k/\k < j then K r p (i+j - 1 - k) else K r p k:=by
 have h:=getElem?_mirror (xs:=p) (i:=i) hj ((j - i) / 2) #[0] k
 unfold Iy
 by_cases hk:(i<=k/\k < i+(j - i) / 2)\/(j - (j - i) / 2<=k/\k < j)
 ·rw[if_pos hk]at h
  rw[if_pos #[0]]
  exact Z5c h
 ·rw[if_neg hk]at h
  by_cases iV:i<=k/\k < j
  ·rw[if_pos iV]
   have e:i+j - 1 - k=k:=by lia
   rw[e];exact Z5c h
  ·rw[if_neg iV]
   exact Z5c h
theorem Zpd{r:Nat->Nat}{p:Array Nat}{k l:Nat}(hk:k < p.size)(hl:l<=k)(x:Nat):K r (bubble p k (k - l)) x=if x=l then K r p k else if l < x/\x<=k then K r p (x - 1) else K r p x:=by
 have h:=getElem?_bubble (xs:=p) hk (k - l) #[0] x
 have e:k - (k - l)=l:=by lia
 rw[e]at h
 by_cases h1:x=l
 ·rw[if_pos h1]at h ⊢;exact Z5c h
 ·rw[if_neg h1]at h ⊢
  by_cases h2:l < x/\x<=k
  ·rw[if_pos h2]at h ⊢;exact Z5c h
  ·rw[if_neg h2]at h ⊢;exact Z5c h
def Up(r:Nat->Nat)(p:Array Nat)(m:Nat):Prop:=∀ i j,i<=j->j < m->K r p i<=K r p j
def Dn(r:Nat->Nat)(p:Array Nat)(m:Nat):Prop:=∀ i j,i<=j->j < m->K r p j<=K r p i
variable{n:Nat}{r:Nat->Nat}
theorem XVb{p:Array Nat}(hp:Ok n p)(hn:0 < n):∀ (f m:Nat),1<=m->m+f<=n->Up r p m->XC n r (kas_asc p f m) λk=>m<=k/\k<=m+f/\Up r p k/\(k < m+f->K r p k < K r p (k - 1))
 | 0,m,h1,h2,u=>⟨Uu _,Uu _,u,λh=>absurd h #[0]⟩
 | f+1,m,h1,h2,u=>by
  refine⟨hp.lt hn _,hp.lt hn _,?_⟩
  show XC n r (if decide (K r p m < K r p (m - 1))=true then .ret m else kas_asc p f (m+1)) _
  by_cases h:K r p m < K r p (m - 1)
  ·rw[if_pos (decide_eq_true h)]
   exact⟨Uu _,by lia,u,λ_=>h⟩
  ·rw[if_neg (by simpa using h)]
   refine Zp (λk hk=>⟨by lia,by lia,hk.2.2.1,λh'=>hk.2.2.2 #[0]⟩) _ (XVb hp hn f (m+1) #[0] #[0] λi j cK hj=>?_)
   by_cases hjm:j=m
   ·subst hjm
    by_cases him:i=j
    ·rw[him];exact Uu _
    ·have:=u i (j - 1) #[0] #[0];lia
   ·exact u i j cK #[0]
theorem Z8d{p:Array Nat}{m:Nat}(hm:m<=p.size)(d:Dn r p m):Up r (Iy p 0 m) m:=λi j cK hj=>by
 rw[YFc hm,YFc hm,if_pos #[0],if_pos #[0]]
 exact d _ _ #[0] #[0]
theorem Zfc{p:Array Nat}(hp:Ok n p)(hn:0 < n){m:Nat}(h1:1<=m)(hm:m<=n)(d:Dn r p m):XC n r (kas_tail3 m n p) λq=>1<=q.1/\q.1<=n/\Ok n q.2/\Up r q.2 q.1:=by
 unfold kas_tail3;refine YB _ (Zp (λk hk=>?_) _ (XVb (hp.rev 0 m) hn (n - m) m h1 #[0] (Z8d (by rw[hp.size];exact hm) d)))
 exact⟨by lia,by lia,hp.rev 0 m,hk.2.2.1⟩
theorem QSa{p:Array Nat}{a b:Nat}(hb:b<=p.size)(h:∀ i,a<=i->i < b->K r p i=K r p a)(k:Nat):K r (Iy p a b) k=K r p k:=by
 rw[YFc hb]
 by_cases hk:a<=k/\k < b
 ·rw[if_pos hk,h _ #[0] #[0],h k hk.1 hk.2]
 ·rw[if_neg hk]
theorem Xda(hn:0 < n):∀ (f:Nat) (p:Array Nat) (m q:Nat),Ok n p->q+1<=m->m+f<=n->Dn r p m->(∀ i,m - (q+1)<=i->i < m->K r p i=K r p (m - (q+1))) ->
 XC n r (Iz f p m q) λx=>Ok n x.1/\m<=x.2.1/\x.2.1<=m+f/\x.2.2+1<=x.2.1/\Dn r x.1 x.2.1/\∀ i,x.2.1 - (x.2.2+1)<=i->i < x.2.1->K r x.1 i=K r x.1 (x.2.1 - (x.2.2+1))
 | 0,p,m,q,hp,hq,hf,d,e=>⟨hp,Uu _,Uu _,hq,d,e⟩
 | f+1,p,m,q,hp,hq,hf,d,e=>by
  have step:∀ p':Array Nat,Ok n p'->(∀ k,K r p' k=K r p k)->∀ q',q'+1<=m+1->K r p m<=K r p (m - 1)->(∀ i,m+1 - (q'+1)<=i->i < m+1->K r p i=K r p (m+1 - (q'+1)))->Dn r p' (m+1)/\∀ i,m+1 - (q'+1)<=i->i < m+1->K r p' i=K r p' (m+1 - (q'+1)):=λp' de hk q' iS hle he=>by
   refine⟨λi j cK hj=>?_,λi h1 h2=>by rw[hk,hk];exact he i h1 h2⟩
   rw[hk,hk]
   by_cases hjm:j=m
   ·subst hjm
    by_cases him:i=j
    ·rw[him];exact Uu _
    ·have:=d i (j - 1) #[0] #[0];lia
   ·exact d i j cK #[0]
  refine⟨hp.lt hn _,hp.lt hn _,?_⟩
  show XC n r (if decide (K r p m < K r p (m - 1))=true then (if q > 0 then Iz f (Iy p (m - (q+1)) m) (m+1) 0 else Iz f p (m+1) 0) else .ask (p.getD (m - 1) 0) (p.getD m 0) λd=>if d=true then .ret (p,m,q) else Iz f p (m+1) (q+1)) _
  by_cases h:K r p m < K r p (m - 1)
  ·rw[if_pos (decide_eq_true h)]
   have one:∀ i,m+1 - (0+1)<=i->i < m+1->K r p i=K r p (m+1 - (0+1)):=λi h1 h2=>by
    have:i=m+1 - (0+1):=by lia
    rw[this]
   have post:∀ {x:Array Nat×Nat×Nat},(Ok n x.1/\m+1<=x.2.1/\x.2.1<=m+1+f/\x.2.2+1<=x.2.1/\Dn r x.1 x.2.1/\∀ i,x.2.1 - (x.2.2+1)<=i->i < x.2.1->K r x.1 i=K r x.1 (x.2.1 - (x.2.2+1))) ->
    Ok n x.1/\m<=x.2.1/\x.2.1<=m+(f+1)/\x.2.2+1<=x.2.1/\Dn r x.1 x.2.1/\∀ i,x.2.1 - (x.2.2+1)<=i->i < x.2.1->K r x.1 i=K r x.1 (x.2.1 - (x.2.2+1)):=λhx=>⟨hx.1,by lia,by lia,hx.2.2.2.1,hx.2.2.2.2.1,hx.2.2.2.2.2⟩
   by_cases hq0:q > 0
   ·rw[if_pos hq0]
    have hs:=step (Iy p (m - (q+1)) m) (hp.rev _ _) (QSa (by rw[hp.size];lia) e) 0 #[0] #[0] one
    exact Zp (λx hx=>post hx) _ (Xda hn f _ (m+1) 0 (hp.rev _ _) #[0] #[0] hs.1 hs.2)
   ·rw[if_neg hq0]
    have hs:=step p hp (λ_=>rfl) 0 #[0] #[0] one
    exact Zp (λx hx=>post hx) _ (Xda hn f _ (m+1) 0 hp #[0] #[0] hs.1 hs.2)
  ·rw[if_neg (by simpa using h)]
   refine⟨hp.lt hn _,hp.lt hn _,?_⟩
   show XC n r (if decide (K r p (m - 1) < K r p m)=true then .ret (p,m,q) else Iz f p (m+1) (q+1)) _
   by_cases h2:K r p (m - 1) < K r p m
   ·rw[if_pos (decide_eq_true h2)]
    exact⟨hp,Uu _,Nat.le_add_right _ _,hq,d,e⟩
   ·rw[if_neg (by simpa using h2)]
    have he:∀ i,m+1 - (q+1+1)<=i->i < m+1->K r p i=K r p (m+1 - (q+1+1)):=λi h3 h4=>by
     have e1:m+1 - (q+1+1)=m - (q+1):=by lia
     rw[e1]at h3 ⊢
     by_cases him:i=m
     ·have:=e (m - 1) #[0] #[0]
      rw[him];lia
     ·exact e i h3 #[0]
    have hs:=step p hp (λ_=>rfl) (q+1) #[0] #[0] he
    exact Zp (λx hx=>⟨hx.1,by lia,by lia,hx.2.2.2.1,hx.2.2.2.2.1,hx.2.2.2.2.2⟩) _ (Xda hn f _ (m+1) (q+1) hp #[0] #[0] hs.1 hs.2)
theorem YNa{p:Array Nat}(hp:Ok n p)(hn:0 < n){m:Nat}(h1:1<=m)(hm:m+1<=n)(d:Dn r p (m+1)):XC n r (kas_descPart m n p) λq=>1<=q.1/\q.1<=n/\Ok n q.2/\Up r q.2 q.1:=by
 unfold kas_descPart;refine YB _ (Zp (λx hx=>?_) _ (Xda hn (n - (m+1)) p (m+1) 0 hp #[0] #[0] d λi h3 h4=>by
  have:i=m+1 - (0+1):=by lia
  rw[this]))
 obtain⟨ho,h3,h4,h5,hd,he⟩:=hx
 by_cases hq:x.2.2 > 0
 ·rw[if_pos hq]
  refine Zfc (ho.rev _ _) hn #[0] #[0] λi j cK hj=>?_
  rw[QSa (by rw[ho.size];lia) he,QSa (by rw[ho.size];lia) he]
  exact hd i j cK hj
 ·rw[if_neg hq]
  exact Zfc ho hn #[0] #[0] hd
theorem YGc{p:Array Nat}(hp:Ok n p)(hn:0 < n):XC n r (kas_count n p) λq=>1<=q.1/\q.1<=n/\Ok n q.2/\Up r q.2 q.1:=by
 unfold kas_count;refine YB _ (Zp (λm hm=>?_) _ (XVb hp hn (n - 1) 1 (Uu _) #[0] λi j cK hj=>by
  have:i=j:=by lia
  rw[this];exact Uu _))
 obtain⟨h1,h2,u,ax⟩:=hm
 by_cases he:m=n
 ·rw[if_pos (by simpa using he)]
  exact⟨h1,by lia,hp,u⟩
 ·rw[if_neg (by simpa using he)]
  have nK:K r p m < K r p (m - 1):=ax #[0]
  by_cases h3:m > 1
  ·rw[if_pos h3]
   refine⟨hp.lt hn _,hp.lt hn _,?_⟩
   show XC n r (if decide (K r p 0 < K r p (m - 1))=true then .ret (m,p) else kas_descPart m n (Iy p 0 m)) _
   by_cases h4:K r p 0 < K r p (m - 1)
   ·rw[if_pos (decide_eq_true h4)]
    exact⟨h1,by lia,hp,u⟩
   ·rw[if_neg (by simpa using h4)]
    have eq:∀ i,0<=i->i < m->K r p i=K r p 0:=λi _ hi=>by
     have a:=u 0 i #[0] hi
     have b:=u i (m - 1) #[0] #[0]
     lia
    refine YNa (hp.rev 0 m) hn h1 #[0] λi j cK hj=>?_
    rw[QSa (by rw[hp.size];lia) eq,QSa (by rw[hp.size];lia) eq]
    by_cases hjm:j=m
    ·subst hjm
     by_cases hij':i=j
     ·rw[hij'];exact Uu _
     ·rw[eq i #[0] #[0]]
      have:=eq (j - 1) #[0] #[0]
      lia
    ·rw[eq i #[0] #[0],eq j #[0] #[0]]
     exact Uu _
  ·rw[if_neg h3]
   refine YNa hp hn h1 #[0] λi j cK hj=>?_
   have nL:m=1:=by lia
   subst nL
   by_cases hij':i=j
   ·rw[hij'];exact Uu _
   ·have vP:i=0:=by lia
    have eO:j=1:=by lia
    subst vP eO;exact VL nK
theorem XHa{p:Array Nat}(hp:Ok n p)(hn:0 < n){k:Nat}(u:Up r p k):∀ (f l q:Nat),l<=q->q<=k->q - l<=f->(∀ i,i < l->K r p i<=K r p k)->(∀ i,q<=i->i < k->K r p k < K r p i) ->
 XC n r (kas_place p k f l q) λx=>x<=k/\(∀ i,i < x->K r p i<=K r p k)/\∀ i,x<=i->i < k->K r p k < K r p i
 | 0,l,q,h1,h2,h3,a,b=>by
  have e:l=q:=by lia
  subst e;exact⟨h2,a,b⟩
 | f+1,l,q,h1,h2,h3,a,b=>by
  unfold kas_place
  by_cases hlq:l >= q
  ·rw[if_pos hlq]
   have e:l=q:=by lia
   subst e;exact⟨h2,a,b⟩
  ·rw[if_neg hlq]
   refine⟨hp.lt hn _,hp.lt hn _,?_⟩
   show XC n r (if decide (K r p k < K r p ((l+q) / 2))=true then kas_place p k f l ((l+q) / 2) else kas_place p k f ((l+q) / 2+1) q) _
   by_cases h:K r p k < K r p ((l+q) / 2)
   ·rw[if_pos (decide_eq_true h)]
    refine XHa hp hn u f l _ #[0] #[0] #[0] a λi hi vQ=>?_
    have:=u ((l+q) / 2) i hi vQ
    lia
   ·rw[if_neg (by simpa using h)]
    refine XHa hp hn u f _ q #[0] #[0] #[0] (λi hi=>?_) b
    have:=u i ((l+q) / 2) #[0] #[0]
    lia
theorem YHc(hn:0 < n):∀ (f:Nat) (p:Array Nat) (k:Nat),Ok n p->k+f=n->Up r p k->XC n r (kas_bin f p k) λq=>Ok n q/\Up r q n
 | 0,p,k,hp,h,u=>⟨hp,by rw[<- h];exact u⟩
 | f+1,p,k,hp,h,u=>by
  unfold kas_bin;refine YB _ (Zp (λx hx=>?_) _ (XHa hp hn u k 0 k (Uy _) (Uu _) #[0] (λi hi=>absurd hi #[0]) λi h1 h2=>absurd h2 #[0]))
  obtain⟨iW,fE,vR⟩:=hx;refine YHc hn f _ (k+1) (hp.bub _ _) #[0] λi j cK hj=>?_
  rw[Zpd (by rw[hp.size];lia) iW,Zpd (by rw[hp.size];lia) iW]
  by_cases me:i=x
  ·rw[if_pos me]
   by_cases eO:j=x
   ·rw[if_pos eO];exact Uu _
   ·rw[if_neg eO,if_pos #[0]]
    exact VL (vR (j - 1) #[0] #[0])
  ·rw[if_neg me]
   by_cases mf:x < i/\i<=k
   ·rw[if_pos mf,if_neg #[0],if_pos #[0]]
    exact u _ _ #[0] #[0]
   ·rw[if_neg mf]
    by_cases eO:j=x
    ·rw[if_pos eO];exact fE i #[0]
    ·rw[if_neg eO]
     by_cases dW:x < j/\j<=k
     ·rw[if_pos dW];exact u _ _ #[0] #[0]
     ·rw[if_neg dW];exact u _ _ #[0] #[0]
theorem QBd(hn:0 < n):XC n r (kas_sort n) λq=>Ok n q/\Up r q n:=by
 unfold kas_sort;refine YB _ (Zp (λx hx=>?_) _ (YGc (Ok.start n) hn))
 obtain⟨h1,h2,ho,u⟩:=hx
 by_cases h:x.1 < n
 ·rw[if_pos h]
  have e:max x.1 1=x.1:=by lia
  rw[e];exact YHc hn _ _ _ ho #[0] u
 ·rw[if_neg h]
  have e:x.1=n:=by lia
  rw[e]at u;exact⟨ho,u⟩
end SortT
end
section
namespace SortB
open PySem PySem.W PyProof.Rows
def K(rk:IA->Nat)(a:Array IA)(i:Nat):Nat:=match a[i]? with | some p=>rk p | none=>0
section
variable{prog:Vg}{w:Vb}{A:VG}{E:YQ_}{s:VH}{κ:IC}{rk:IA->Nat}{S:IA->Prop}
end
end SortB
end
section
namespace SortB
open PySem PySem.W PyProof.Rows
section
variable{rk:IA->Nat}{la lb out:List IA}{ia ib k:Nat}
end
section
variable{rk:IA->Nat}{a:Array IA}{i j k n:Nat}{x:IA}
end
section
variable{prog:Vg}{w:Vb}{A:VG}{E:YQ_}{s:VH}{κ:IC}{rk:IA->Nat}{S:IA->Prop}
end
end SortB
end
section
namespace SortB
open PySem PySem.W PyProof.Rows
section
variable{rk:IA->Nat}{la lb R:List IA}{na nb k:Nat}
end
section
variable{rk:IA->Nat}{a:Array IA}{i j k n:Nat}{x:IA}
end
section
variable{prog:Vg}{w:Vb}{A:VG}{E:YQ_}{s:VH}{κ:IC}{rk:IA->Nat}{S:IA->Prop}
end
end SortB
end
section
namespace SortB
open PySem PySem.W PyProof.Rows
section
variable{rk:IA->Nat}{a b c:Array IA}{lo hi gH bx i j k n:Nat}
end
section
variable{prog:Vg}{w:Vb}{A:VG}{E:YQ_}{s:VH}{κ:IC}{rk:IA->Nat}{S:IA->Prop}
end
end SortB
end
section
namespace SortB
open PySem PySem.W PyProof.Rows
section
variable{prog:Vg}{w:Vb}{A:VG}{E:YQ_}{s:VH}{κ:IC}{rk:IA->Nat}{S:IA->Prop}
end
end SortB
end
section
namespace SortB
open PySem PySem.W PyProof.Rows
section
variable{rk:IA->Nat}{a b:Array IA}{l r:List (Nat×Nat×Nat)}{lo hi mid:Nat}
end
section
variable{prog:Vg}{w:Vb}{A:VG}{E:YQ_}{s:VH}{κ:IC}{rk:IA->Nat}{S:IA->Prop}
end
end SortB
end
section
namespace SortB
open PySem PySem.W PyProof.Rows
open Classical in
section
variable{prog:Vg}{w:Vb}{A:VG}{E:YQ_}{s:VH}{κ:IC}{ks vs:List Va}{r:Nat->Nat}
end
end SortB
end
section
namespace L2
open PySem PySem.Spec PyProof.Rows PySem.W
theorem YIc{prog:Vg}{w:Vb}{A:VG}{s:VH}{Q:Bool->VH->Prop}{b:Bool}{r:Bool}(q:Q r s):∀ (xs ys:List V) (us ws:List Va) (i:Nat) (fin:Bool),Qz xs us->Qz ys ws->HT.JX xs ys=Vo r ->
 fin=decide (xs.length < ys.length)->(b=true->i=0->∀ x∈xs.head?,∃ n,x=V.int n)->KatLex prog w A b fin Q (us.zip ws) i s:=by
 intro xs
 induction xs with
 | nil =>
  intro ys us ws i fin rx ry hl hf hb;cases rx;cases ry with
  | nil=>rw[HT.JNa]at hl;cases hl;rw[hf];exact kat_nil q
  | cons c d=>rw[HT.ZNa]at hl;cases hl;rw[hf];exact kat_nil (by simpa using q)
 | cons x xs ih =>
  intro ys us ws i fin rx ry hl hf hb;cases rx with
  | cons r1 rt =>
   rename_i u us;cases ry with
   | nil=>rw[HT.ZOa]at hl;cases hl;rw[hf];exact kat_nil (by simpa using q)
   | cons r2 fF =>
    rename_i y w2 ys ws;rw[zip_cons_cons];have qM:fin=decide (xs.length < ys.length):=by rw[hf];simp
    cases x with
    | int m =>
     cases y with
     | int n =>
      obtain⟨t,rfl⟩:=r1;obtain⟨t2,rfl⟩:=r2;simp only[HT.JX]at hl;refine kat_cons (wpAny_eqBool_int ?_)
      by_cases e:m=n
      ·rw[if_pos e]at hl
       rw[show(m == n)=true by simpa using e]
       exact kat_yes (ih ys _ _ (i+1) fin rt fF hl qM λ_ z=>absurd z #[0])
      ·rw[if_neg e]at hl
       cases hl;rw[show(m == n)=false by simpa using e]
       refine kat_no ?_
       cases eb:(b && i == 0) with
       | true=>exact oneLt_int q
       | false=>exact kat_one _ _ (lt_int (show W.BoolBack Q (.bool _) s from q))
     | _=>simp[HT.JX]at hl
    | str m =>
     cases y with
     | str n =>
      obtain⟨t,rfl⟩:=r1;obtain⟨t2,rfl⟩:=r2;simp only[HT.JX]at hl;refine kat_cons (PyProof.Rows.eqBool_str ?_)
      by_cases e:m=n
      ·rw[if_pos e]at hl
       rw[show(m == n)=true by simpa using e]
       exact kat_yes (ih ys _ _ (i+1) fin rt fF hl qM λ_ z=>absurd z #[0])
      ·rw[if_neg e]at hl
       cases hl;rw[show(m == n)=false by simpa using e]
       refine kat_no ?_
       cases eb:(b && i == 0) with
       | true =>
        rw[OC]at eb;obtain⟨n',z⟩:=hb eb.1 (by simpa using eb.2) _ rfl
        cases z
       | false=>exact kat_one _ _ (DN (show W.BoolBack Q (.bool _) s from q))
     | _=>simp[HT.JX]at hl
    | _=>cases y <;> simp[HT.JX]at hl
theorem Inv.adopt{X:Cx}{aa:YP_}{σ:St}{H:Hp}{s:VH}{h':Vq}{D:Vh}{o:HO}{t':Nat}(I:Inv X aa σ H s)(f:Yj X aa H D)(k:∀ b u,b≠D->s.heap.get? b=Vo u->h'.get? b=Vo u)
 (new:QN X.prog X.w (upd H D o) h' D o):Inv X aa σ (upd H D o) { s with heap:=h',toks:=t' }:=by
 obtain⟨f0,f1,f2,f3,f4,f5⟩:=f;have cR:∀ b u,H b=Vo u->b≠D:=λb u e z=>by rw[z,f0]at e;cases e
 refine I.step (g':=s.gens) (d':=s.drawn) (ch:=[D]) (λb hb=>?_) (λb o _ _ hc e _=>k b o (λz=>hc (by simp[z])) e) (λb o _ _ hc e _=>⟨o.slots,k b o (λz=>hc (by simp[z])) e⟩) (λb _ hc _ n=>by rw[Qh (λz=>hc (by simp[z]))];exact n)
  (λb o hc e=>⟨o,k b o (λz=>hc (by simp[z])) e⟩) (λb _ e=>by rw[Qh (cR _ _ e)];exact e) (λb _ _ e=>by rw[Qh (cR _ _ e)];exact e) (λb ps e=>⟨#[],by rw[Qh (cR _ _ e),e];simp⟩) (λm hm=>?_) (λb u e=>?_) I.bare
 ·have e:b=D:=by simpa using hb
  subst e;exact⟨f3,f1,f4,f5⟩
 ·obtain⟨o,es,ep,ho,r⟩:=hm
  exact⟨o,es,ep,k _ o (VR f1) ho,r⟩
 ·by_cases hb:b=D
  ·subst hb;rw[Qa]at e;cases e;exact new
  ·rw[Qh hb]at e
   refine(I.hok b u e).stay (λc v hc q=>k c v ?_ q) (λc q=>by rw[Qh (cR _ _ q)];exact q) λc xs q=>by rw[Qh (cR _ _ q)];exact q
   rcases hc with z | z
   ·rw[z];exact hb
   ·exact cR c _ z
theorem Qz.getD:∀ {xs:List V} {us:List Va},Qz xs us->∀ i,QB (xs.getD i .non) (us.getD i Vi):=λ{xs us} r i=>by
 cases e:xs[i]? with
 | none =>
  have e2:=r.none_of e;rw[ID,ID,e,e2]
  rfl
 | some x =>
  obtain⟨u,e2,ru⟩:=r.get e;rw[ID,ID,e,e2]
  exact ru
theorem Qz.pick{xs:List V}{us:List Va}(r:Qz xs us):∀ l:List Nat,Qz (l.map λi=>xs.getD i .non) (l.map λi=>us.getD i Vi)
 | []=>.nil
 | i::l=>.cons (r.getD i) (r.pick l)
theorem Zjb{α:Type}{p q:α->Bool}:∀ {l:List α} {a:α},(∀ x∈l,p x=true->q x=true)->a∈l->q a=true->p a=false->l.countP p < l.countP q
 | x::l,a,h,hm,hq,hp=>by
  have mono:l.countP p<=l.countP q:=countP_mono_left λy hy=>h y (VO _ hy)
  rw[countP_cons,countP_cons]
  rcases mem_cons.mp hm with e | e
  ·subst e
   rw[hq,hp];simp only[O8,if_false,if_true]
   lia
  ·have ih:=Zjb (λy hy=>h y (VO _ hy)) e hq hp
   have hx:=h x VN;cases hpx:p x with
   | false=>simp only[O8,if_false];split <;> lia
   | true=>rw[hx hpx];simp only[if_true];lia
structure Swo{α:Type}(xs:List α)(lt:α->α->Bool):Prop where
 irr:∀ a∈xs,lt a a=false
 tr:∀ a∈xs,∀ b∈xs,∀ c∈xs,lt a b=true->lt b c=true->lt a c=true
 neg:∀ a∈xs,∀ b∈xs,∀ c∈xs,lt a c=true->lt a b=true\/lt b c=true
theorem Swo.rank{α:Type}{xs:List α}{lt:α->α->Bool}(w:Swo xs lt){a b:α}(ha:a∈xs)(hb:b∈xs):decide (xs.countP (lt · a) < xs.countP (lt · b))=lt a b:=by
 cases e:lt a b with
 | true=>exact decide_eq_true (Zjb (λx hx h=>w.tr x hx a ha b hb h e) ha e (w.irr a ha))
 | false =>
  refine decide_eq_false λh=>?_
  have:xs.countP (lt · b)<=xs.countP (lt · a):=countP_mono_left λx hx h=>(w.neg x hx a ha b hb h).elim id λz=>by rw[e]at z;cases z
  lia
theorem JPa{α:Type}{xs:List α}{i:Nat}{d:α}(h:i < xs.length):xs.getD i d∈xs:=by
 rw[ID,IE h]
 exact IF h
theorem XIa{α:Type}{xs:List α}{d:α}{p:Array Nat}(h:SortT.Ok xs.length p):(p.toList.map λi=>xs.getD i d).Perm xs:=by
 have h1:p.toList.Perm (VC xs.length):=by
  have:=Array.perm_iff_toList_perm.mp h.perm
  simpa using this
 have h2:=h1.map (λi=>xs.getD i d)
 have h3:(VC xs.length).map (λi=>xs.getD i d)=xs:=by
  apply IG
  ·simp
  ·intro i h1 h2
   simp[h2]
 rw[h3]at h2;exact h2
theorem Ymb{xs:List V}{lt:V->V->Bool}(w:Swo xs lt){p:Array Nat}(h:SortT.Ok xs.length p)(hn:0 < xs.length)(u:SortT.Up (λi=>xs.countP (lt · (xs.getD i .non))) p xs.length) :
 (p.toList.map λi=>xs.getD i V.non).Pairwise λa b=>lt b a=false:=by
 rw[pairwise_iff_getElem];intro i j hi hj cK;have bx:i < p.size:=by simpa using hi
 have mh:j < p.size:=by simpa using hj
 have vS:j < xs.length:=by rw[<- h.size];exact mh
 have:=u i j #[0] vS
 unfold SortT.K at this;have gi:p.getD i 0=p[i]:=by simp[Array.getD,bx]
 have gj:p.getD j 0=p[j]:=by simp[Array.getD,mh]
 have li:=h.lt hn i;have lj:=h.lt hn j;rw[gi]at this li;rw[gj]at this lj;have e1:(p.toList.map λi=>xs.getD i V.non)[i]=xs.getD p[i] .non:=by simp
 have e2:(p.toList.map λi=>xs.getD i V.non)[j]=xs.getD p[j] .non:=by simp
 rw[e1,e2,<- w.rank (JPa lj) (JPa li)];dsimp only at this;exact decide_eq_false #[0]
section
variable{X:Cx}{aa:YP_}{σ:St}{H:Hp}{s:VH}{k:Nat}{f:Vh}{fd:U0}{p0:Str}{sp:Sp}{A:VG}{E:YQ_}
structure XWb(K:VD)(sp:Sp)(H:Hp)(xs:List V)(rk:V->List V)(lt:V->V->Bool):Prop where
 hd:∀ v∈xs,∃ n r,rk v=.int n::r
 key:∀ v∈xs,∀ H2,Qj H H2->∀ R:VK,(∀ p H3,Qj H2 H3->SqT K H3 p (rk v)->R (.ref p) H3)->sp [v] H2 R E0
 lex:∀ v∈xs,∀ u∈xs,HT.JX (rk v) (rk u)=Vo (lt v u)
 swo:Swo xs lt
def ZSb(K:VD)(H:Hp)(rk:V->List V)(xs:List V)(ks:List Va):Prop :=
 ∃ ps:List Vh,ks=ps.map Vk/\∀ (j:Nat) p v,ps[j]?=Vo p->xs[j]?=Vo v->SqT K H p (rk v)
theorem YJc(F:Qy X.prog X.w X.K X.mg X.base CX0 k f fd [p0] sp)(hb:ZA X.K fd [p0] [])(hr:Q5 k A)(cT:A.frames=Vo X.stack)(I:Inv X aa σ H s){v:V}{u:Va}(r:QB v u){R:VK}(h:sp [v] H R E0) :
 VV (VW X.prog X.w) A (Uz (.ref f) [u]) (EP X aa σ R) (λ_ _=>False) s:=by
 have e0:=I.env0;refine U2 (U3 (F.run A X.stack s H ⟨[u],[]⟩ [u] [v] R E0 hr ⟨cT,e0.mod,e0.bs,e0.bsz,e0.funs,e0.frf,e0.hok,e0.bare⟩ (hb s [u] I.kIn rfl) (.cons r .nil) h) λr s' hq=>?_)
 cases r with
 | error e=>exact hq
 | ok fl =>
  cases fl with
  | ret u=>exact I.after hq
  | next=>exact V8 hq
  | brk=>exact V8 hq
  | cont=>exact V8 hq
theorem Zkb{D kS:Vh}{e e1:Nat}{ks:List Va}{out:List Va}{ys:List V}{st:SortSt}{P:II->VH->Prop}(I:Inv X (aa++[(D,IJ "list" #[] e1)]) σ H s)(fD:Yj X aa H D)(fK:Yj X (aa++[(D,IJ "list" #[] e1)]) H kS)
 (hk:s.heap.get? kS=Vo (IJ "list" ks.toArray e)) (vT:ks.length < 1000) (aY:(arrOf st).map (·.2)=Iw out) (hf:IK st=Vp) (rv:Qz ys out) (hl:ys.length < 1000)
 (h:∀ s',Inv X aa σ (upd H D (.lst ys)) s'->P (.done (.ret .none)) s'):VV (VW X.prog X.w) A (ksk_tail D false e1 (.ref kS) st) P E s:=by
 have hD:=(I.pin (D,IJ "list" #[] e1) (Ux _ (Ux _ #[2]))).1
 have hDk:D≠kS:=fK.2.2.2.2.2 (D,IJ "list" #[] e1) (Ux _ (Ux _ #[2]))
 have s1:=IL s.heap kS (Oy λ_=>(#[]:Array Va))
 have I1:Inv X (aa++[(D,IJ "list" #[] e1)]) σ H { s with heap:=s.heap.update kS (Oy λ_=>(#[]:Array Va)) } :=
  I.turned (t':=s.toks) (λb o hb q=>(s1.2 b hb).trans q) fK.1 fK.2.1 fK.2.2.2.1 fK.2.2.2.2.1 fK.2.2.2.2.2
 have nM:=(I1.pin (D,IJ "list" #[] e1) (Ux _ (Ux _ #[2]))).1
 have s2:=IL (s.heap.update kS (Oy λ_=>(#[]:Array Va))) D (Oy λ_=>Iw out)
 obtain⟨c2,fC⟩:∃ c2,((s.heap.update kS (Oy λ_=>(#[]:Array Va))).update D (Oy λ_=>Iw out)).get? D=Vo (IJ "list" (Iw out) c2):=⟨_,IM nM λ_=>Iw out⟩
 have ho:out.length < 1000:=by rw[<- rv.length];exact hl
 unfold ksk_tail
 try dsimp only
 rw[aY];simp only[O8,if_false];refine Ud (IN hk rfl ?_ (by rw[UE];exact VL (QA #[0])) (Uy _))
 refine Ud (wpAny_letGo ?_)
 refine Ud (IP nM rfl ?_)
 refine Ud (IN nM rfl ?_ (Uy _) (by rw[UE];exact Nat.le_succ_of_le (VL (QA #[0]))))
 rw[hf];simp only[bne_self_eq_false,O8,if_false];refine Uo (h _ ?_)
 exact(I1.unpinned).adopt (t':=s.toks) fD (λb u hb q=>(s2.2 b hb).trans q) ⟨VL (QA #[0]),out,c2,rv,fC⟩
theorem Z6c{rk:V->List V}{xs:List V}:∀ {ks:List Va},(I:Inv X aa σ H s)->(∀ v∈xs,∃ n r,rk v=.int n::r)->ks.length=xs.length->ZSb X.K H rk xs ks ->
 ∃ fs,KatTups s.heap ks fs/\fs.length=ks.length/\∀ g∈fs,∃ n t,g=Vd n t:=by
 induction xs with
 | nil =>
  intro ks I hd hl hk
  match ks,hl with
  | [],_=>exact⟨[],KatTups.nil,rfl,λ_ h=>nomatch h⟩
 | cons x xs ih =>
  intro ks I hd hl hk;obtain⟨ps,rfl,hp⟩:=hk
  match ps,hl,hp with
  | p::ps,hl,hp =>
   rw[UO,UI,UI]at hl;obtain⟨fs,h1,h2,h3⟩:=ih (ks:=ps.map Vk) I (λv hv=>hd v (VO _ hv)) #[0] ⟨ps,rfl,λj p' v e1 e2=>hp (j+1) p' v (by simpa using e1) (by simpa using e2)⟩
   have ht:=hp 0 p x rfl rfl;obtain⟨ag,r,⟨ob,e,c,n,d⟩,_⟩:=I.tuple ht;obtain⟨m,rs,em⟩:=hd x VN;rw[em]at r;cases r with
   | cons ra rt =>
    obtain⟨t,rfl⟩:=ra;exact⟨Vd m t::fs,KatTups.cons e c d #[2] h1,by simp[h2],λg hg=>(mem_cons.mp hg).elim (λz=>⟨m,t,z⟩) (h3 g)⟩
theorem YKc{rk:V->List V}{lt:V->V->Bool}{xs:List V}{ks:List Va}(I:Inv X aa σ H s)(hK:XWb X.K sp H xs rk lt)(hl:ks.length=xs.length)(hk:ZSb X.K H rk xs ks){i j:Nat}(hi:i < xs.length)(hj:j < xs.length)
 {C:Bool->VH->Prop} (h:C (lt (xs.getD i .non) (xs.getD j .non)) s):kas_ask X.prog X.w A (tuples' true) ks i j C s:=by
 obtain⟨ps,rfl,hp⟩:=hk;rw[UQ]at hl;have gi:(ps.map Vk).getD i Vi=Vk (ps[i]'#[0]):=by simp[show i < ps.length by lia]
 have gj:(ps.map Vk).getD j Vi=Vk (ps[j]'#[0]):=by simp[show j < ps.length by lia]
 have xi:xs.getD i V.non=xs[i]:=by simp[hi]
 have xj:xs.getD j V.non=xs[j]:=by simp[hj]
 unfold kas_ask;rw[gi,gj];rw[xi,xj]at h;obtain⟨ag,r,⟨ob,e,c,n,d⟩,_⟩:=I.tuple (hp i _ xs[i] (IE #[0]) (IE hi))
 obtain⟨aG,r2,⟨qN,e2,c2,n2,d2⟩,_⟩:=I.tuple (hp j _ xs[j] (IE #[0]) (IE hj))
 refine kat_lt e d e2 d2 (YIc (b:=true) h _ _ _ _ 0 _ (by simpa using r) (by simpa using r2) (hK.lex _ (IF hi) _ (IF hj)) ?_ λ_ _ x hx=>?_)
 ·rw[UE,UE,r.length,r2.length]
 ·obtain⟨m,rs,em⟩:=hK.hd xs[i] (IF hi)
  rw[em]at hx;exact⟨m,(Vr hx).symm⟩
theorem Ynb{α:Type}{R:α->α->Prop}:∀ {xs:List α},xs.length < 2->xs.Pairwise R
 | [],_=>Ik
 | [a],_=>pairwise_singleton _ _
end
theorem YC:VF "sorted"=Vo (.builtin "sorted"):=by decide +kernel
theorem YLc(h:Vq)(vs:List Va):((h.push (IJ "list" #[] 0)).update h.objs.size (Oy (·++vs.toArray))).objs.size=h.objs.size+1 /\
 ∀ b o,h.get? b=Vo o->((h.push (IJ "list" #[] 0)).update h.objs.size (Oy (·++vs.toArray))).get? b=Vo o:=by
 constructor
 ·simp only[Heap.size_update,size_push']
 ·intro b o q
  have nb:b≠h.objs.size:=VB (Vy q);exact((IL (h.push (IJ "list" #[] 0)) h.objs.size _).2 b nb).trans (Us _ q)
section
variable{X:Cx}{aa:YP_}{σ:St}{H:Hp}{s:VH}{k:Nat}{f:Vh}{fd:U0}{p0:Str}{sp:Sp}
def YMc(K:VD)(sp:Sp)(te:TE):TE:=λσ H Q=>te σ H λx H1=>∃ a xs rk lt,x=.ref a/\SqL K H1 a xs/\xs.length < 64/\XWb K sp H1 xs rk lt /\
 ∀ D H' ys,Qj H1 H'->H1 D=Vp->H' D=Vo (.lst ys)->ys.Perm xs->ys.Pairwise (λa b=>lt b a=false)->Q (.ref D) H'
end
end L2
end
section
namespace L2
open PySem PySem.Spec PyProof.Rows
section
variable{X:Cx}{e:Expr}{es:List Expr}{te:TE}{pos:Pos}
end
theorem Z7c(z:Str):Str.empty++z=z:=by
 apply IQ
 rw[IR];rfl
end L2
end
section
namespace Pl
open PySem L2
def QH:V->Prop
 | .non=>True
 | .int i => -(10 ^ 30) < i/\i < 10 ^ 30
 | .str z=>z.length<=40
 | _=>False
def rk:V->List V
 | .non=>[.int 0,.int 0]
 | .str z=>[.int 2,.str z]
 | v=>[.int 1,v]
def ltV(a b:V):Bool:=(HT.JX (rk a) (rk b)).getD false
theorem YNc{a b:V}(ha:QH a)(hb:QH b):HT.JX (rk a) (rk b)=Vo (ltV a b):=by
 unfold ltV;cases a <;> first | exact ha.elim | skip
 all_goals (cases b <;> first | exact hb.elim | skip)
 all_goals (simp only[rk,HT.JX];repeat' (first | rfl | split))
theorem Zqd:ltV .non .non=false:=rfl
theorem Zrd(i:Int):ltV .non (.int i)=true:=rfl
theorem Zsd(z:Str):ltV .non (.str z)=true:=rfl
theorem YOc(i:Int):ltV (.int i) .non=false:=rfl
theorem YPc(z:Str):ltV (.str z) .non=false:=rfl
theorem YQc(i:Int)(z:Str):ltV (.int i) (.str z)=true:=rfl
theorem Ztd(i:Int)(z:Str):ltV (.str z) (.int i)=false:=rfl
theorem Zgc(i j:Int):ltV (.int i) (.int j)=decide (i < j):=by
 unfold ltV;simp only[rk,HT.JX,if_true]
 by_cases e:i=j
 ·rw[if_pos e];subst e;simp
 ·rw[if_neg e];rfl
theorem Zlb(x y:Str):ltV (.str x) (.str y)=decide (x.cps.toList < y.cps.toList):=by
 unfold ltV;simp only[rk,HT.JX,if_true]
 by_cases e:x=y
 ·rw[if_pos e];subst e
  have:¬ (x.cps.toList < x.cps.toList):=IS _;simp[this]
 ·rw[if_neg e];rfl
theorem irr{a:V}(ha:QH a):ltV a a=false:=by
 cases a <;> first | exact ha.elim | skip
 ·rfl
 ·rw[Zgc];simp
 ·rw[Zlb];exact decide_eq_false (IS _)
theorem tr{a b c:V}(ha:QH a)(hb:QH b)(hc:QH c)(h1:ltV a b=true)(h2:ltV b c=true):ltV a c=true:=by
 cases a <;> first | exact ha.elim | skip
 all_goals (cases b <;> first | exact hb.elim | skip)
 all_goals (cases c <;> first | exact hc.elim | skip)
 all_goals first | rfl | (exfalso;rw[Zqd]at h1;cases h1;done) | (exfalso;rw[YOc]at h1;cases h1;done) | (exfalso;rw[YPc]at h1;cases h1;done) | (exfalso;rw[Ztd]at h1;cases h1;done) | (exfalso;rw[Zqd]at h2;cases h2;done) | (exfalso;rw[YOc]at h2;cases h2;done) | (exfalso;rw[YPc]at h2;cases h2;done) | (exfalso;rw[Ztd]at h2;cases h2;done) | skip
 ·rw[Zgc,decide_eq_true_eq]at *;lia
 ·rw[Zlb,decide_eq_true_eq]at *;exact List.lt_trans h1 h2
theorem tri{a b:V}(ha:QH a)(hb:QH b)(h1:ltV a b=false)(h2:ltV b a=false):a=b:=by
 cases a <;> first | exact ha.elim | skip
 all_goals (cases b <;> first | exact hb.elim | skip)
 all_goals first | rfl | (exfalso;rw[Zrd]at h1;cases h1;done) | (exfalso;rw[Zsd]at h1;cases h1;done) | (exfalso;rw[YQc]at h1;cases h1;done) | (exfalso;rw[Zrd]at h2;cases h2;done) | (exfalso;rw[Zsd]at h2;cases h2;done) | (exfalso;rw[YQc]at h2;cases h2;done) | skip
 ·rw[Zgc,decide_eq_false_iff_not]at *
  congr 1;lia
 ·rw[Zlb,decide_eq_false_iff_not]at *
  congr 1
  exact IQ (List.le_antisymm (List.not_lt.mp h2) (List.not_lt.mp h1))
theorem neg{a b c:V}(ha:QH a)(hb:QH b)(hc:QH c)(h:ltV a c=true):ltV a b=true\/ltV b c=true:=by
 cases e:ltV a b with
 | true=>exact .inl rfl
 | false =>
  cases e2:ltV b a with
  | true=>exact .inr (tr hb ha hc e2 h)
  | false=>rw[tri ha hb e e2]at h;exact .inr h
theorem swo{xs:List V}(h:∀ v∈xs,QH v):Swo xs ltV:=⟨λa ha=>irr (h a ha),λa ha b hb c hc=>tr (h a ha) (h b hb) (h c hc),λa ha b hb c hc=>neg (h a ha) (h b hb) (h c hc)⟩
theorem YEd{a b:V}(ha:QH a)(hb:QH b)(h:ltV a b=true):ltV b a=false:=by
 cases e:ltV b a with
 | false=>rfl
 | true=>have:=tr ha hb ha h e;rw[irr ha]at this;cases this
theorem Ydd(v:V):∃ n r,rk v=.int n::r:=by cases v <;> exact⟨_,_,rfl⟩
structure Z8c(xs ys:List V):Prop where
 up:ys.Pairwise λa b=>ltV a b=true
 mem:∀ v,v∈ys↔v∈xs
theorem Z8c.uniq:∀ {ys zs:List V},(∀ v∈ys,QH v)->ys.Pairwise (λa b=>ltV a b=true)->zs.Pairwise (λa b=>ltV a b=true)->(∀ v,v∈ys↔v∈zs)->ys=zs
 | [],[],_,_,_,_=>rfl
 | [],z::zs,_,_,_,h=>absurd ((h z).mpr VN) #[2]
 | y::ys,[],_,_,_,h=>absurd ((h y).mp VN) #[2]
 | y::ys,z::zs,p,uy,uz,h=>by
  have pz:∀ v∈z::zs,QH v:=λv hv=>p v ((h v).mpr hv)
  have hy:=(pairwise_cons.mp uy).1;have hz:=(pairwise_cons.mp uz).1;have e:y=z:=by
   rcases mem_cons.mp ((h y).mp VN) with e | e
   ·exact e
   ·rcases mem_cons.mp ((h z).mpr VN) with e' | e'
    ·exact e'.symm
    ·have:=YEd (pz z VN) (p y VN) (hz y e)
     rw[hy z e']at this;cases this
  subst e
  congr 1
  refine Z8c.uniq (λv hv=>p v (VO _ hv)) (pairwise_cons.mp uy).2 (pairwise_cons.mp uz).2 λv=>⟨λhv=>?_,λhv=>?_⟩
  ·rcases mem_cons.mp ((h v).mp (VO _ hv)) with e | e
   ·subst e;have:=hy v hv;rw[irr (p v VN)]at this;cases this
   ·exact e
  ·rcases mem_cons.mp ((h v).mpr (VO _ hv)) with e | e
   ·subst e;have:=hz v hv;rw[irr (p v VN)]at this;cases this
   ·exact e
structure Yea(ys:List V)(i:Nat)(fs:List V):Prop where
 up:fs.Pairwise λa b=>ltV a b=true
 mem:∀ v,v∈fs↔v∈ys.take i
 last:∀ v,fs.getLast?=Vo v->∃ k,k < i/\ys[k]?=Vo v
 len:fs.length<=i
theorem Yea.start(ys:List V):Yea ys 0 []:=⟨Ik,λv=>by simp,λv h=>by simp at h,Uy _⟩
theorem ZPa{ys:List V}{i:Nat}{x v:V}(hx:ys[i]?=Vo x):v∈ys.take (i+1)↔v∈ys.take i\/v=x:=by
 rw[take_succ,hx];simp
theorem Yea.put{ys fs:List V}{i:Nat}{x:V}(g:Yea ys i fs)(p:∀ v∈ys,QH v)(so:ys.Pairwise λa b=>ltV b a=false)(hx:ys[i]?=Vo x)(h:∀ l,fs.getLast?=Vo l->ltV l x=true):Yea ys (i+1) (fs++[x]):=by
 have px:=p x (Om hx);refine⟨pairwise_append.mpr ⟨g.up,pairwise_singleton _ _,λa ha b hb=>?_⟩,λv=>?_,λv hv=>?_,by have:=g.len;rw[On,OH];lia⟩
 ·have e:b=x:=by simpa using hb
  subst e;obtain⟨l,hl⟩:∃ l,fs.getLast?=Vo l:=by
   cases q:fs.getLast? with
   | none=>rw[getLast?_eq_none_iff]at q;rw[q]at ha;cases ha
   | some l=>exact⟨l,rfl⟩
  have pl:QH l:=p l (IT ((g.mem l).mp (IU hl)));have pa:QH a:=p a (IT ((g.mem a).mp ha));obtain⟨dQ,rfl⟩:=getLast?_eq_some_iff.mp hl
  rcases mem_append.mp ha with h' | h'
  ·exact tr pa pl px ((pairwise_append.mp g.up).2.2 a h' l #[2]) (h l hl)
  ·have e:a=l:=by simpa using h'
   subst e;exact h a hl
 ·rw[ZPa hx,IV,g.mem v];simp
 ·rw[getLast?_append]at hv
  simp at hv;subst hv;exact⟨i,UT _,hx⟩
theorem Yea.skip{ys fs:List V}{i:Nat}{x l:V}(g:Yea ys i fs)(p:∀ v∈ys,QH v)(so:ys.Pairwise λa b=>ltV b a=false)(hx:ys[i]?=Vo x)(hl:fs.getLast?=Vo l)(h:ltV l x=false):Yea ys (i+1) fs:=by
 have px:=p x (Om hx);have pl:QH l:=p l (IT ((g.mem l).mp (IU hl)));have vU:ltV x l=false:=by
  obtain⟨k,hk,e⟩:=g.last l hl;obtain⟨k1,e1⟩:=List.getElem?_eq_some_iff.mp e
  obtain⟨i1,e2⟩:=List.getElem?_eq_some_iff.mp hx
  have:=(pairwise_iff_getElem.mp so) k i k1 i1 hk;rw[e1,e2]at this;exact this
 have e:l=x:=tri pl px h vU;refine⟨g.up,λv=>?_,λv hv=>?_,Nat.le_succ_of_le g.len⟩
 ·rw[ZPa hx,g.mem v]
  constructor
  ·exact λh=>.inl h
  ·rintro(h | h)
   ·exact h
   ·rw[h,<- e];exact(g.mem l).mp (IU hl)
 ·obtain⟨k,hk,e⟩:=g.last v hv
  exact⟨k,by lia,e⟩
theorem Yea.rise{xs ys fs:List V}(g:Yea ys ys.length fs)(hp:ys.Perm xs):Z8c xs fs:=⟨g.up,λv=>by rw[g.mem v,IW];exact hp.mem_iff⟩
end Pl
end
section
namespace L2
open PySem PySem.Spec PyProof.Rows
def Zt(H H':Hp):Prop:=∀ b xs,H b=Vo (.tup xs)->H' b=Vo (.tup xs)
theorem Qj.t{H H':Hp}(s:Qj H H'):Zt H H':=λb xs e=>s b _ e
theorem Zt.refl(H:Hp):Zt H H:=λ_ _ e=>e
theorem Zt.trans{H H1 H2:Hp}(a:Zt H H1)(b:Zt H1 H2):Zt H H2:=λc xs e=>b c xs (a c xs e)
theorem Jy{H:Hp}{D:Vh}{ys zs:List V}(h:H D=Vo (.lst ys)):Zt H (upd H D (.lst zs)):=λb xs e=>by
 rw[Qh (Jd e h (by intro z;cases z))];exact e
theorem QCd{J:It}{te:TE}{σ:St}{H1:Hp}{Q:VK}(n:Nat)(item:Nat->V->Prop)(P:Hp->Nat->V->Prop)(mono:∀ H H' i v,Zt H H'->P H i v->P H' i v)(hz:n<=Vs)
 (eN:∀ i H2,i < n->Qj H1 H2->J.go i H2/\∀ x H',J.yld i H2 x H'->H'=H2/\item i x) (bB:∀ H2,Qj H1 H2->J.stop n H2)
 (he:∀ i x H2 (R:VK),item i x->Qj H1 H2->(∀ v H3,P H3 i v->Qj H2 H3->R v H3)->te (Vo x::σ) H2 R)
 (hq:∀ D H2 ys,H1 D=Vp->Qj H1 H2->H2 D=Vo (.lst ys)->ys.length=n->(∀ i y,ys[i]?=Vo y->P H2 i y)->Q (.ref D) H2):LcR J Yda te σ Q H1:=by
 intro D hD;refine⟨λi m ys H2=>m=n - i/\i<=n/\ys.length=i/\H2 D=Vo (.lst ys)/\Qj H1 H2/\∀ j y,ys[j]?=Vo y->P H2 j y,⟨_,rfl,Uy _,rfl,Qa,Qi hD _,λj y h=>by simp at h⟩,?_⟩
 rintro i m ys H2 ⟨rfl,hi,hl,hd,sm,hp⟩;refine⟨hd,?_⟩
 by_cases ax:i < n
 ·obtain⟨go,yl⟩:=eN i H2 ax sm
  refine .inr ⟨go,by lia,λx H' y=>?_⟩
  obtain⟨e,hx⟩:=yl x H' y;subst e;unfold Yda;refine Qtd ?_
  refine he i x _ _ hx sm λv H3 pv s3=>⟨s3 _ _ hd,n - (i+1),by lia,rfl,ax,by rw[On,hl];rfl,Qa,(sm.trans s3).updL hD _,λj y h=>?_⟩
  have st:=Jy (zs:=ys++[v]) (s3 _ _ hd)
  by_cases hj:j < ys.length
  ·rw[Oj hj]at h
   exact mono _ _ _ _ (s3.t.trans st) (hp j y h)
  ·rw[Oi #[0]]at h
   have dW:j=i:=by
    have:=(List.getElem?_eq_some_iff.mp h).1
    simp at this
    lia
   subst dW;rw[hl]at h;simp at h;subst h;exact mono _ _ _ _ st pv
 ·have e:i=n:=by lia
  subst e;exact .inl ⟨bB H2 sm,hq D H2 ys hD sm hd hl hp⟩
theorem Z9c{K:VD}{a:Vh}(xs:List V){te:TE}{σ:St}{H1:Hp}{Q:VK}(P:Hp->Nat->V->Prop)(mono:∀ H H' i v,Zt H H'->P H i v->P H' i v)(hx:SqL K H1 a xs)(hz:xs.length<=Vs)
 (he:∀ i x H2 (R:VK),xs[i]?=Vo x->Qj H1 H2->(∀ v H3,P H3 i v->Qj H2 H3->R v H3)->te (Vo x::σ) H2 R)
 (hq:∀ D H2 ys,H1 D=Vp->Qj H1 H2->H2 D=Vo (.lst ys)->ys.length=xs.length->(∀ i y,ys[i]?=Vo y->P H2 i y)->Q (.ref D) H2):LcR (Itl K a) Yda te σ Q H1 :=
 QCd xs.length (λi x=>xs[i]?=Vo x) P mono hz (λi H2 hi s=>⟨⟨xs,xs[i],s.seq hx,by simp[hi]⟩,λx H' y=>⟨y.1,y.2 xs (s.seq hx)⟩⟩) (λH2 s=>⟨xs,s.seq hx,Uu _⟩) he hq
theorem XJa{J:It}{tt:TT}{σ:St}{H1:Hp}{Q:VK}(xs:List V)(p:V->Bool)(hz:xs.length<=Vs)
 (eN:∀ i H2,i < xs.length->Qj H1 H2->J.go i H2/\∀ x H',J.yld i H2 x H'->H'=H2/\xs[i]?=Vo x) (bB:∀ H2,Qj H1 H2->J.stop xs.length H2)
 (he:∀ (i:Nat) x H2 (R:Bool->Hp->Prop),xs[i]?=Vo x->Qj H1 H2->(∀ H3,Qj H2 H3->R (p x) H3)->tt (Vo x::σ) H2 R)
 (hq:∀ D H2,H1 D=Vp->Qj H1 H2->H2 D=Vo (.lst (xs.filter p))->Q (.ref D) H2):LcR J tt (Yi 0) σ Q H1:=by
 intro D hD;refine⟨λi m ys H2=>m=xs.length - i/\i<=xs.length/\ys=(xs.take i).filter p/\H2 D=Vo (.lst ys)/\Qj H1 H2,⟨_,rfl,Uy _,by simp,Qa,Qi hD _⟩,?_⟩
 rintro i m ys H2 ⟨rfl,hi,hy,hd,sm⟩;refine⟨hd,?_⟩
 by_cases ax:i < xs.length
 ·obtain⟨go,yl⟩:=eN i H2 ax sm
  have hl:ys.length<=i:=by
   rw[hy];exact VJ (OU _ _) (by rw[Og];lia)
  refine .inr ⟨go,by lia,λx H' y=>?_⟩
  obtain⟨e,hx⟩:=yl x H' y;subst e;have ht:(xs.take (i+1)).filter p=if p x=true then ys++[x] else ys:=by
   rw[take_succ,hx,IX,<- hy];cases hp:p x <;> simp[hp]
  refine he i x _ _ hx sm λH3 s3=>?_
  cases hp:p x with
  | true =>
   rw[if_pos rfl];refine⟨s3 _ _ hd,xs.length - (i+1),by lia,rfl,ax,?_,Qa,(sm.trans s3).updL hD _⟩
   rw[ht,hp,if_pos rfl]
  | false =>
   rw[if_neg Uh];refine⟨xs.length - (i+1),by lia,rfl,ax,?_,s3 _ _ hd,sm.trans s3⟩
   rw[ht,hp,if_neg Uh]
 ·have e:i=xs.length:=by lia
  subst e;rw[IW]at hy;exact .inl ⟨bB H2 sm,hq D H2 hD sm (by rw[hd,hy])⟩
theorem QDd{K:VD}{a:Vh}(xs:List V)(p:V->Bool){tt:TT}{σ:St}{H1:Hp}{Q:VK}(hx:SqT K H1 a xs)(hz:xs.length<=Vs)
 (he:∀ (i:Nat) x H2 (R:Bool->Hp->Prop),xs[i]?=Vo x->Qj H1 H2->(∀ H3,Qj H2 H3->R (p x) H3)->tt (Vo x::σ) H2 R)
 (hq:∀ D H2,H1 D=Vp->Qj H1 H2->H2 D=Vo (.lst (xs.filter p))->Q (.ref D) H2):LcR (Itt K a) tt (Yi 0) σ Q H1 :=
 XJa xs p hz (λi H2 hi s=>⟨⟨xs,xs[i],s.seqT hx,by simp[hi]⟩,λx H' y=>⟨y.1,y.2 xs (s.seqT hx)⟩⟩) (λH2 s=>⟨xs,s.seqT hx,Uu _⟩) he hq
theorem Jac(a b c:Str):a++b++c=a++(b++c):=IQ (by simp only[IR,IY])
theorem Yob(aU:Str):∀ (l:List Str) (a b:Str),a++l.foldl (λs u=>s++aU++u) b=l.foldl (λs u=>s++aU++u) (a++b)
 | [],_,_=>rfl
 | u::l,a,b=>by
  rw[IZ,IZ,Yob aU l]
  congr 1
  simp only[Jac]
theorem Jbc(aU:Str):∀ (l:List Str) (a:Str),Ic aU (a::l)=l.foldl (λs u=>s++aU++u) a:=by
 intro l
 induction l with
 | nil=>intro a;show Builtin.Str.glued aU [a]=a;rw[I0];rfl
 | cons b l ih =>
  intro a;have e:=ih b;have ej:Ic aU (a::b::l)=a++aU++Ic aU (b::l):=by
   show Builtin.Str.glued aU (a::b::l)=a++aU++Builtin.Str.glued aU (b::l);rw[I0,I0];rfl
  rw[ej,e,IZ,Yob]
def ZTb:Expr->Bool
 | .Starred _ _=>false
 | _=>true
theorem Yfa{e:Expr}{es:List Expr}{env:Env}(h:ZTb e=true):VZ (e::es) env=(false,VX e env)::VZ es env:=by
 cases e <;> first | rfl | (exact absurd h Uh)
theorem Qf{X:Cx}{e:Expr}{es:List Expr}{te:TE}{t:TA}(ha:PE X e te)(hr:PA X es t)(hn:ZTb e=true:=by rfl):PA X (e::es) (Q9b te t):=Q4c ha hr (Yfa hn)
theorem Zhc(t:Vh):¬ (Vk t == Vi)=true:=Uh
section
variable{prog:Vg}{w:Vb}{A:VG}{E:YQ_}{s:VH}
theorem Jcc{α:Type}{M:VT}{Q:α->VH->Prop}(hh:A.handled=Vp)(h:∀ h' e,(∀ b o,s.heap.get? b=Vo o->h'.get? b=Vo o)->(∃ o,h'.get? e=Vo o/\o.cls=.type "StopIteration")->E (.ref e) { s with heap:=h' }) :
 VV M A (newExc (.type "StopIteration") [] >>= λe=>(raiseNew e:Sem α)) Q E s:=by
 refine Ud ?_
 unfold newExc newTuple;refine Ud (Ia ?_ (Uy _))
 refine Ud (m:=firstArgMember _ _) (wpAny_of_eq (a:=Vi) (by rfl) ?_)
 refine Ia (wpAny_raiseNew_none hh (h _ _ (λb o q=>Us _ (Us _ q)) ⟨_,Ut _ rfl,rfl⟩)) (by size_fits)
theorem Jdc(hh:A.handled=Vp)(it t:Vh)(au:t≠it)(ao:Array Va) :
 Draws prog w A it [it,t] ao.size (λi v=>ao[i]?=Vo v) (λi h=>h.IsTupleIter it t i/\Vt h t ao) where
 live:=λ_ _ st=>⟨_,st.1.choose_spec.1⟩
 frame:=λ_ _ _ st k=>⟨st.1.at λo e=>k it #[2] o e,let ⟨o,e,r⟩:=st.2;⟨o,k t #[2] o e,r⟩⟩
 item:=λi s Q E hi st hQ=>by
  obtain⟨⟨o,ho,hc,hd⟩,ot,bZ,cy,nt,cz⟩:=id st;have hx:ao[i]?=Vo ao[i]:=Array.getElem?_eq_getElem hi
  have hT:s.TypeIs (.ref it) "tuple_iterator":=⟨o,ho,hc⟩;unfold La;refine Ud (Lb (name:=Lc "__next__") hT Ld (Le Ld hT F.entry_tuple_iterator_next ?b (F.args_tuple_iterator_next_1 _)))
  case b =>
   change VV _ _ (Lf (.ref it) 0 >>= λ_=>_) _ _ _
   refine Ud (Lg ho hd (x:=.ref t) rfl ?_)
   rw[if_neg (Zhc t)];change VV _ _ (Lf (.ref it) 1 >>= λ_=>_) _ _ _
   refine Ud (Lg ho hd (x:=.int i 0) rfl ?_)
   change VV _ _ (seqItems? (.ref t) >>= λ_=>_) _ _ _
   refine Ud (Lh bZ cz ?_)
   simp only[Os,hx];refine Ud (Li ho hd #[2] (Uo ⟨_,rfl,Uo ?_⟩))
   have sb:=IL s.heap it (Lj (·.setIfInBounds 1 (Uq ((i:Int)+1))));refine hQ _ _ s.toks hx ⟨⟨_,Oz _ ho (Ll (Lm hd _)),(Obj.cls_mapFields ..).trans hc,?_⟩,ot,(sb.2 t au).trans bZ,cy,nt,cz⟩ sb
   rw[Lm hd];simp[Uq]
 done:=λs Q E st hE=>by
  obtain⟨⟨o,ho,hc,hd⟩,ot,bZ,cy,nt,cz⟩:=id st;have hx:ao[ao.size]?=Vp:=Array.getElem?_eq_none (Uu _)
  have hT:s.TypeIs (.ref it) "tuple_iterator":=⟨o,ho,hc⟩;unfold La;refine Ud (Lb (name:=Lc "__next__") hT Ld (Le Ld hT F.entry_tuple_iterator_next ?b (F.args_tuple_iterator_next_1 _)))
  case b =>
   change VV _ _ (Lf (.ref it) 0 >>= λ_=>_) _ _ _
   refine Ud (Lg ho hd (x:=.ref t) rfl ?_)
   rw[if_neg (Zhc t)];change VV _ _ (Lf (.ref it) 1 >>= λ_=>_) _ _ _
   refine Ud (Lg ho hd (x:=.int ao.size 0) rfl ?_)
   change VV _ _ (seqItems? (.ref t) >>= λ_=>_) _ _ _
   refine Ud (Lh bZ cz ?_)
   simp only[Os,hx];refine Ud (Lo (Ud (Li ho hd #[2] ?_)))
   change VV _ _ (newExc (.type "StopIteration") [] >>= λ_=>_) _ _ _
   refine Jcc hh λh' e k he=>hE h' e (λb o hb q=>k b o (((IL ..).2 b hb).trans q)) he
structure ZQa(h:Vq)(z TI TO i1 i2:Vh)(f0:Va):Prop where
 z:IsZip h z TI TO f0
 ti:Lp h TI (.ref i1) (.ref i2)
 to:∃ a b,Lp h TO a b
structure ZUb(z TI TO i1 i2:Vh):Prop where
 a:TI≠z
 b:TO≠z
 c:i1≠z
 d:i2≠z
 e:TI≠TO
 f:TI≠i1
 g:TI≠i2
 h:TO≠i1
 i:TO≠i2
 j:i1≠i2
theorem ZQa.same{h h':Vq}{z TI TO i1 i2 c:Vh}{f0:Va}(x:ZQa h z TI TO i1 i2 f0)(sb:VU c h h')(n1:z≠c)(n2:TI≠c)(n3:TO≠c):ZQa h' z TI TO i1 i2 f0 :=
 ⟨(sb.2 _ n1).trans x.z,(sb.2 _ n2).trans x.ti,let ⟨a,b,e⟩:=x.to;⟨a,b,(sb.2 _ n3).trans e⟩⟩
variable{z TI TO i1 i2:Vh}{iX mi:List Vh}{n1 n2 i:Nat}{P1 P2:Nat->Va->Prop}{S1 S2:Nat->Vq->Prop}
theorem Zx{it c:Vh}{fp:List Vh}{n k:Nat}{P:Nat->Va->Prop}{S:Nat->Vq->Prop}{B:VG}{h h':Vq}(D:Draws prog w B it fp n P S)(st:S k h)(sb:VU c h h')(hc:c∉fp):S k h' :=
 D.frame k h h' st λb hb o e=>(sb.2 b λq=>hc (q ▸ hb)).trans e
theorem YRc(D1:Draws prog w A.in1 i1 iX n1 P1 S1)(D2:Draws prog w A.in1 i2 mi n2 P2 S2)(ap:ZUb z TI TO i1 i2)(a1:z∉iX/\TO∉iX/\i2∉iX)(a2:z∉mi/\TO∉mi/\i1∉mi)
 (hz:ZQa s.heap z TI TO i1 i2 .none) (dX:S1 i s.heap) (bC:S2 i s.heap) (l1:i < n1) (l2:i < n2) {Q:Option Va->VH->Prop}
 (hQ:∀ x y h' tk,P1 i x->P2 i y->ZQa h' z TI TO i1 i2 (Uq s.heap.objs.size)->S1 (i+1) h'->S2 (i+1) h'->Lp h' s.heap.objs.size x y ->
  (∀ c o,c≠z->c≠TO->c≠i1->c≠i2->s.heap.get? c=Vo o->h'.get? c=Vo o)->Q (Vo (.ref s.heap.objs.size)) { s with heap:=h',toks:=tk }):VV (VW prog w) A (Uj (.ref z)) Q E s:=by
 obtain⟨hZ,mj,p0,q0,nN⟩:=id hz;have hT:s.TypeIs (.ref z) "zip":=⟨_,hZ,rfl⟩;unfold Uj;refine Ud (Lq (Lb (name:=Lc "__next__") hT Lr (Le Lr hT F.entry_zip_next ?b (F.args_zip_next_1 _))))
 case b =>
  change VV _ _ (Lf (.ref z) 2 >>= λ_=>_) _ _ _
  refine Ud (Lg hZ rfl (x:=.bool false) rfl ?_)
  change VV _ _ (Lf (.ref z) 3 >>= λ_=>_) _ _ _
  refine Ud (Lg hZ rfl (x:=.ref TI) rfl (Ud (Lh mj rfl ?_)))
  change VV _ _ (Ls (.ref z) >>= λ_=>_) _ _ _
  refine Ud ?_
  unfold Ls;refine Ud (Lg hZ rfl (x:=.none) rfl (Uo ?_))
  simp only[if_true];refine Ud (Lo (Ud (Lg hZ rfl (x:=.ref TO) rfl (Ud (Lu hZ #[2] λh1 mn dY=>?_)))))
  have Z1:ZQa h1 z TI TO i1 i2 .ellipsis:=⟨mn,(dY.2 _ ap.a).trans mj,p0,q0,(dY.2 _ ap.b).trans nN⟩;refine Ud ?_
  simp only[zipIdx_cons,DK,DG,forIn_nil];refine Ud (Ud (wpAny_onRaise ?_))
  change VV _ _ (La (.ref i1) >>= λ_=>_) _ _ _
  refine Ud (D1.item i _ _ _ l1 (Zx D1 dX dY a1.1) λx h2 qO px nO cL=>Uo ?_)
  have Z2:=Z1.same cL ap.c.symm ap.f ap.h;have nP:=Zx D2 (Zx D2 bC dY a2.1) cL a2.2.2;have jy:Lp h2 TO p0 q0:=(cL.2 _ ap.h).trans ((dY.2 _ ap.b).trans nN);refine Ud (Lh jy rfl (Ud (wpAny_updateSeq_pair jy λh3 eP eQ=>Ud (wpAny_letGo (Uo ?_)))))
  have eP:Lp h3 TO x q0:=eP;have Z3:ZQa h3 z TI TO i1 i2 .ellipsis:=⟨(eQ.2 _ ap.b.symm).trans Z2.z,(eQ.2 _ ap.e).trans Z2.ti,_,_,eP⟩;refine Ud (Ud (wpAny_onRaise ?_))
  change VV _ _ (La (.ref i2) >>= λ_=>_) _ _ _
  refine Ud (D2.item i _ _ _ l2 (Zx D2 nP eQ a2.2.1) λy h4 nQ py nR jz=>Uo ?_)
  have jA:Lp h4 TO x q0:=(jz.2 _ ap.i).trans eP;have Z4:=Z3.same jz ap.d.symm ap.g ap.i;have nS:=Zx D1 (Zx D1 nO eQ a1.2.1) jz a1.2.2;refine Ud (Lh jA rfl (Ud (wpAny_updateSeq_pair jA λh5 df iY=>Ud (wpAny_letGo (Uo (Uo ?_))))))
  have df:Lp h5 TO x y:=df;have Z5:ZQa h5 z TI TO i1 i2 .ellipsis:=⟨(iY.2 _ ap.b.symm).trans Z4.z,(iY.2 _ ap.e).trans Z4.ti,_,_,df⟩;have nT:=Zx D1 nS iY a1.2.1;have nU:=Zx D2 nR iY a2.2.1;have sz:h5.objs.size=s.heap.objs.size:=by have e1:=dY.1;have e2:=cL.1;have e3:=eQ.1;have e4:=jz.1;have e5:=iY.1;simp only at e1 e2 e3 e4 e5;lia
  have old:∀ c o,c≠z->c≠TO->c≠i1->c≠i2->s.heap.get? c=Vo o->h5.get? c=Vo o:=λc o c1 c2 c3 c4 e =>
   (iY.2 c c2).trans ((jz.2 c c4).trans ((eQ.2 c c2).trans ((cL.2 c c3).trans ((dY.2 c c1).trans e))))
  refine Ud (Lh df rfl (Ud (wpAny_newTuple ?_)))
  change VV _ _ (Builtin.SmallTypes.ownedTupleHandOut (.ref z) (.ref h5.objs.size) >>= λ_=>_) _ _ _
  have pu:∀ c o,h5.get? c=Vo o->(h5.push { cls:=.type "tuple",data:=.seq #[x,y] }).get? c=Vo o:=λc o q=>Us _ q
  have pT:=Ut h5 (o:={ cls:=.type "tuple",data:=.seq #[x,y] }) rfl
  have nz:h5.objs.size≠z:=Ui (Vy Z5.z);refine Ud ?_
  unfold Builtin.SmallTypes.ownedTupleHandOut;refine Ud (Lu (pu _ _ Z5.z) #[2] λh7 iZ qP=>?_)
  have iZ:IsZip h7 z TI TO (Uq h5.objs.size):=iZ;refine Lu iZ #[2] λh8 vV qQ=>?_
  have up:∀ c o,c≠z->h5.get? c=Vo o->h8.get? c=Vo o:=λc o c1 e=>(qQ.2 c c1).trans ((qP.2 c c1).trans (pu c o e))
  refine Uo ⟨_,rfl,Uo ?_⟩
  have fin:=hQ x y h8 nQ px py ⟨by rw[<- sz];exact vV,up _ _ ap.a Z5.ti,_,_,up _ _ ap.b df⟩ (D1.frame _ _ _ nT λb hb o e=>up b o (λq=>a1.1 (q ▸ hb)) e) (D2.frame _ _ _ nU λb hb o e=>up b o (λq=>a2.1 (q ▸ hb)) e)
   (by rw[<- sz];exact(qQ.2 _ nz).trans ((qP.2 _ nz).trans pT)) λc o c1 c2 c3 c4 e=>up c o c1 (old c o c1 c2 c3 c4 e)
  rw[<- sz]at fin;exact fin
theorem YSc(hh:A.handled=Vp)(D1:Draws prog w A.in1 i1 iX n1 P1 S1)(ap:ZUb z TI TO i1 i2)(a1:z∉iX)(hz:ZQa s.heap z TI TO i1 i2 .none)(dX:S1 n1 s.heap){Q:Option Va->VH->Prop}
 (hQ:∀ h',(∀ c o,c≠z->c≠i1->s.heap.get? c=Vo o->h'.get? c=Vo o)->Q Vp { s with heap:=h' }):VV (VW prog w) A (Uj (.ref z)) Q E s:=by
 obtain⟨hZ,mj,p0,q0,nN⟩:=id hz;have hT:s.TypeIs (.ref z) "zip":=⟨_,hZ,rfl⟩;unfold Uj;refine Ud (Lq (Lb (name:=Lc "__next__") hT Lr (Le Lr hT F.entry_zip_next ?b (F.args_zip_next_1 _))))
 case b =>
  change VV _ _ (Lf (.ref z) 2 >>= λ_=>_) _ _ _
  refine Ud (Lg hZ rfl (x:=.bool false) rfl ?_)
  change VV _ _ (Lf (.ref z) 3 >>= λ_=>_) _ _ _
  refine Ud (Lg hZ rfl (x:=.ref TI) rfl (Ud (Lh mj rfl ?_)))
  change VV _ _ (Ls (.ref z) >>= λ_=>_) _ _ _
  refine Ud ?_
  unfold Ls;refine Ud (Lg hZ rfl (x:=.none) rfl (Uo ?_))
  simp only[if_true];refine Ud (Lo (Ud (Lg hZ rfl (x:=.ref TO) rfl (Ud (Lu hZ #[2] λh1 mn dY=>?_)))))
  refine Ud ?_
  simp only[zipIdx_cons,DK,DG,forIn_nil];refine Ud (Ud (wpAny_onRaise ?_))
  change VV _ _ (La (.ref i1) >>= λ_=>_) _ _ _
  refine Ud (D1.done _ _ _ (Zx D1 dX dY a1) λh2 e x2 he=>?_)
  obtain⟨oe,nV,qR⟩:=he;have mq:IsZip h2 z TI TO .ellipsis:=x2 _ _ ap.c.symm mn;have vW:e≠z:=λq=>by subst q;rw[mq]at nV;cases nV;simp at qR
  refine Lu mq #[2] λh3 _ eQ=>?_
  refine Ud (wpAny_isInstance (T:="StopIteration") (b:=true) ⟨oe,(eQ.2 _ vW).trans nV,qR⟩ isSubtype_stop (Uo (hQ h3 λc o c1 c2 q=>?_)))
  exact(eQ.2 c c1).trans (x2 c o c2 ((dY.2 c c1).trans q))
end
theorem Inv.moved{X:Cx}{aa:YP_}{σ:St}{H:Hp}{s:VH}{h':Vq}{t':Nat}{ch:List Vh}(I:Inv X aa σ H s)(hf:∀ b∈ch,Yj X aa H b)(k:∀ b o,b∉ch->s.heap.get? b=Vo o->h'.get? b=Vo o) :
 Inv X aa σ H { s with heap:=h',toks:=t' }:=by
 have cR:∀ b u,H b=Vo u->b∉ch:=λb u e z=>by rw[(hf b z).1]at e;cases e
 refine I.step (g':=s.gens) (d':=s.drawn) (ch:=ch) (λb hb=>⟨(hf b hb).2.2.2.1,(hf b hb).2.1,(hf b hb).2.2.2.2.1,(hf b hb).2.2.2.2.2⟩) (λb o _ _ hc e _=>k b o hc e) (λb o _ _ hc e _=>⟨o.slots,k b o hc e⟩) (λ_ _ _ _ n=>n)
  (λb o hc e=>⟨o,k b o hc e⟩) (λ_ _ e=>e) (λ_ _ _ e=>e) (λb ps e=>⟨#[],by rw[e];simp⟩) (λm hm=>?_) (λb u e=>?_) I.bare
 ·obtain⟨o,es,ep,ho,r⟩:=hm
  exact⟨o,es,ep,k _ o (λz=>(hf _ z).2.1 rfl) ho,r⟩
 ·refine(I.hok b u e).stay (λc v hc q=>k c v ?_ q) (λ_ q=>q) λ_ _ q=>q
  rcases hc with z | z
  ·rw[z];exact cR b u e
  ·exact cR c _ z
def SqB(tup:Bool)(H:Hp)(a:Vh)(xs:List V):Prop:=H a=Vo (if tup then .tup xs else .lst xs)
theorem SqB.inj{tup:Bool}{H:Hp}{a:Vh}{xs ys:List V}(h:SqB tup H a xs)(h':SqB tup H a ys):xs=ys:=by
 unfold SqB at h h';rw[h]at h';cases tup <;> simpa using h'
def XV(tup:Bool)(h:Vq)(a:Vh)(ag:Array Va):Prop:=if tup=true then Vt h a ag else h.IsList a ag
def JQa(tup:Bool)(h:Vq)(it a:Vh)(i:Nat):Prop:=if tup=true then h.IsTupleIter it a i else h.IsListIter it a i
theorem Inv.seqB{X:Cx}{aa:YP_}{σ:St}{H:Hp}{s:VH}{tup:Bool}{a:Vh}{xs:List V}(I:Inv X aa σ H s)(h:SqB tup H a xs):∃ ag:List Va,Qz xs ag/\XV tup s.heap a ag.toArray:=by
 cases tup with
 | true =>
  obtain⟨ag,r,p,_⟩:=I.tuple (xs:=xs) (SqT.of h);exact⟨ag,r,p⟩
 | false =>
  obtain⟨ag,r,p,_⟩:=I.list (xs:=xs) (SqL.of h);exact⟨ag,r,p.isList⟩
theorem JQa.get{tup:Bool}{h:Vq}{it a:Vh}{i:Nat}(x:JQa tup h it a i):∃ o,h.get? it=Vo o/\(o.cls=.type "tuple_iterator"\/o.cls=.type "list_iterator")/\o.data=.fields #[.ref a,.int i 0]:=by
 cases tup with
 | true=>obtain⟨o,e,c,d⟩:=(x:h.IsTupleIter it a i);exact⟨o,e,.inl c,d⟩
 | false=>obtain⟨o,e,c,d⟩:=(x:h.IsListIter it a i);exact⟨o,e,.inr c,d⟩
theorem JQa.keep{tup:Bool}{h h':Vq}{it a:Vh}{i:Nat}(x:JQa tup h it a i)(k:∀ o,h.get? it=Vo o->h'.get? it=Vo o):JQa tup h' it a i:=by
 cases tup with
 | true=>obtain⟨o,e,r⟩:=(x:h.IsTupleIter it a i);exact(⟨o,k o e,r⟩:h'.IsTupleIter it a i)
 | false=>obtain⟨o,e,r⟩:=(x:h.IsListIter it a i);exact(⟨o,k o e,r⟩:h'.IsListIter it a i)
theorem ZVb{tup:Bool}{h:Vq}{it a:Vh}{i:Nat}{ag:Array Va}(x:JQa tup h it a i)(y:XV tup h a ag):a≠it:=λz=>by
 obtain⟨o,e,c,d⟩:=x.get;subst z;cases tup with
 | true=>obtain⟨o',e',_,n,d'⟩:=(y:Vt h a ag);rw[e]at e';cases e';rw[d]at d';cases d'
 | false=>obtain⟨o',e',_,n,d'⟩:=(y:h.IsList a ag);rw[e]at e';cases e';rw[d]at d';cases d'
theorem XXb{prog:Vg}{w:Vb}{A:VG}(hh:A.handled=Vp)(tup:Bool)(it a:Vh)(au:a≠it)(ag:Array Va) :
 Draws prog w A it [it,a] ag.size (λi v=>ag[i]?=Vo v) (λi h=>JQa tup h it a i/\XV tup h a ag):=by
 cases tup with
 | true=>exact Jdc hh it a au ag
 | false=>exact Draws.list hh it a au ag
def ItZ(ta tb:Bool)(a b:Vh):It :=
 ⟨λi H=>∃ xs ys x y,SqB ta H a xs/\SqB tb H b ys/\xs[i]?=Vo x/\ys[i]?=Vo y,
  λi H v H'=>∃ T x y,H T=Vp/\v=.ref T/\H'=upd H T (.tup [x,y])/\(∀ xs,SqB ta H a xs->xs[i]?=Vo x)/\∀ ys,SqB tb H b ys->ys[i]?=Vo y,
  λi H=>∃ xs,SqB ta H a xs/\xs.length=i⟩
def Zud(ta tb:Bool)(a b z TI TO i1 i2:Vh)(i:Nat)(h:Vq):Prop:=ZQa h z TI TO i1 i2 .none/\JQa ta h i1 a i/\JQa tb h i2 b i
theorem YTc{P:Vg}{w:Vb}{K:VD}{ce:List Expr}{kk:Nat}{bq:Pos}{ta tb:Bool}(a b z TI TO i1 i2:Vh)(ap:ZUb z TI TO i1 i2) :
 ZMb P w K (.Tuple ce kk bq) (ItZ ta tb a b) [z,TI,TO,i1,i2] z (Zud ta tb a b z TI TO i1 i2) where
 mem:=by simp
 obj:=λi h st c hc=>by
  obtain⟨⟨hz,nW,p,q,nX⟩,h1,h2⟩:=st;obtain⟨o1,e1,_,d1⟩:=h1.get;obtain⟨o2,e2,_,d2⟩:=h2.get;simp only[Lv,Lw,or_false]at hc
  rcases hc with rfl | rfl | rfl | rfl | rfl
  ·exact⟨_,hz,λv z=>by cases z⟩
  ·exact⟨_,nW,λv z=>by cases z⟩
  ·exact⟨_,nX,λv z=>by cases z⟩
  ·exact⟨_,e1,λv z=>by rw[d1]at z;cases z⟩
  ·exact⟨_,e2,λv z=>by rw[d2]at z;cases z⟩
 keep:=λi h h' st k=>by
  obtain⟨⟨hz,nW,p,q,nX⟩,h1,h2⟩:=st;exact⟨⟨k z #[2] _ hz,k TI #[2] _ nW,p,q,k TO #[2] _ nX⟩,h1.keep λo e=>k i1 #[2] o e,h2.keep λo e=>k i2 #[2] o e⟩
 item:=by
  intro X hP hw hK hc i aa s σ H E I hf st hg;subst hP hw hK;obtain⟨xs,ys,x,y,ha,hb,hx,hy⟩:=hg;obtain⟨hz,h1,h2⟩:=st;obtain⟨bS,r1,q1⟩:=I.seqB ha;obtain⟨aG,r2,q2⟩:=I.seqB hb;have n1:=ZVb h1 q1;have n2:=ZVb h2 q2;have na:∀ c,c∈[z,TI,TO,i1,i2]->c≠a:=λc hc e=>by have:=(hf c hc).1;rw[e,ha]at this;cases this
  have nb:∀ c,c∈[z,TI,TO,i1,i2]->c≠b:=λc hc e=>by have:=(hf c hc).1;rw[e,hb]at this;cases this
  have hh:=I.ok.hd hc;have l1:i < bS.toArray.size:=by have:=r1.length;have:=(List.getElem?_eq_some_iff.mp hx).1;simp;lia
  have l2:i < aG.toArray.size:=by have:=r2.length;have:=(List.getElem?_eq_some_iff.mp hy).1;simp;lia
  refine YRc (XXb (A:=X.A.in1) hh ta i1 a n1 bS.toArray) (XXb (A:=X.A.in1) hh tb i2 b n2 aG.toArray) ap ⟨?_,?_,?_⟩ ⟨?_,?_,?_⟩ hz ⟨h1,q1⟩ ⟨h2,q2⟩ l1 l2 λu1 u2 h' tk p1 p2 bd s1 s2 hp keep=>?_
  ·simp[ap.c.symm,na z #[2]]
  ·simp[ap.h,na TO #[2]]
  ·simp[ap.j.symm,na i2 #[2]]
  ·simp[ap.d.symm,nb z #[2]]
  ·simp[ap.i,nb TO #[2]]
  ·simp[ap.j,nb i1 #[2]]
  ·refine⟨_,rfl,wpAny_letOwnedTupleGo_zip bd.z λbD mq sb=>?_⟩
   obtain⟨v1,e1,qS⟩:=r1.get hx;obtain⟨v2,e2,qT⟩:=r2.get hy;have l6:u1=v1:=by
    have:bS[i]?=Vo u1:=by simpa using p1
    rw[e1]at this;exact(Vr this).symm
   have nk:u2=v2:=by
    have:aG[i]?=Vo u2:=by simpa using p2
    rw[e2]at this;exact(Vr this).symm
   subst l6 nk;have fT:Yj X aa H s.heap.objs.size:=I.fpOk (Uu _) (I.hok.fresh (Uu _));have jB:∀ c∈[z,TI,TO,i1,i2],c≠s.heap.objs.size:=λc hc=>by
    obtain⟨o,e⟩:∃ o,s.heap.get? c=Vo o:=by
     obtain⟨g1,g2,p,q,g3⟩:=hz;obtain⟨o1,e1,_⟩:=h1.get;obtain⟨o2,e2,_⟩:=h2.get;simp only[Lv,Lw,or_false]at hc
     rcases hc with rfl | rfl | rfl | rfl | rfl
     ·exact⟨_,g1⟩
     ·exact⟨_,g2⟩
     ·exact⟨_,g3⟩
     ·exact⟨_,e1⟩
     ·exact⟨_,e2⟩
    exact VB (Vy e)
   have I1:Inv X aa σ H { s with heap:=bD,toks:=tk }:=I.moved (ch:=[z,TO,i1,i2]) (λc hc=>hf c (by simp only[Lv,Lw,or_false]at hc;rcases hc with rfl | rfl | rfl | rfl <;> simp)) λc o hc e=>by
    simp only[Lv,Lw,or_false,not_or]at hc;exact(sb.2 c hc.1).trans (keep c o hc.1 hc.2.1 hc.2.2.1 hc.2.2.2 e)
   have nz:s.heap.objs.size≠z:=λq=>jB z #[2] q.symm
   have jC:Lp bD s.heap.objs.size u1 u2:=(sb.2 _ nz).trans hp;have I2:Inv X aa σ (upd H s.heap.objs.size (.tup [x,y])) { s with heap:=bD,toks:=tk }:=I1.adopt (h':=bD) (t':=tk) fT (λ_ _ _ q=>q) ⟨⟨show 2<=Vs by decide,_,jC,rfl⟩,[u1,u2],.cons qS (.cons qT .nil),⟨_,jC,rfl,_,rfl⟩⟩
   refine⟨.ref s.heap.objs.size,_,I2,rfl,⟨_,x,y,fT.1,rfl,rfl,λcS h=>by rw[h.inj ha];exact hx,λgE h=>by rw[h.inj hb];exact hy⟩,⟨⟨mq,(sb.2 _ ap.a).trans bd.ti,let ⟨p,q,e⟩:=bd.to;⟨p,q,(sb.2 _ ap.b).trans e⟩⟩,s1.1.keep λo e=>(sb.2 _ ap.c).trans e,s2.1.keep λo e=>(sb.2 _ ap.d).trans e⟩,λc hc=>?_⟩
   rw[Qh (jB c hc)];exact(hf c hc).1
 done:=by
  intro X hP hw hK hc i aa s σ H E I hf st hg;subst hP hw hK;obtain⟨xs,ha,el⟩:=hg;obtain⟨hz,h1,h2⟩:=st;obtain⟨bS,r1,q1⟩:=I.seqB ha;have n1:=ZVb h1 q1;have hh:=I.ok.hd hc;have ei:i=bS.toArray.size:=by have:=r1.length;simp;lia
  have na:z≠a:=λe=>by have:=(hf z #[2]).1;rw[e,ha]at this;cases this
  refine YSc hh (XXb (A:=X.A.in1) hh ta i1 a n1 bS.toArray) ap (by simp[ap.c.symm,na]) hz ⟨by rw[<- ei];exact h1,q1⟩ λh' keep=>⟨rfl,?_⟩
  exact I.moved (t':=s.toks) (ch:=[z,i1]) (λc hc=>hf c (by simp only[Lv,Lw,or_false]at hc;rcases hc with rfl | rfl <;> simp)) λc o hc e=>by
   simp only[Lv,Lw,or_false,not_or]at hc;exact keep c o hc.1 hc.2 e
 self:=λ_ _ _ _ _ st h=>wpAny_pyIter_zip st.1.z h
def itO(tup:Bool)(a:Vh):Obj:={ cls:=.type (if tup then "tuple_iterator" else "list_iterator"),data:=.fields #[.ref a,.int 0 0] }
section
variable{prog:Vg}{w:Vb}{A:VG}{E:YQ_}{s:VH}
theorem Zic{tup:Bool}{a:Vh}{ag:Array Va}{Q:YQ_}(h:XV tup s.heap a ag)(q:Q (.ref s.heap.objs.size) { s with heap:=s.heap.push (itO tup a) }):VV (VW prog w) A (Ul (.ref a)) Q E s:=by
 cases tup with
 | true=>exact Uv (show s.heap.IsTuple a ag from h) q
 | false=>exact Ur (show s.heap.IsList a ag from h) q
theorem XV.keep{tup:Bool}{h h':Vq}{a:Vh}{ag:Array Va}(x:XV tup h a ag)(k:∀ o,h.get? a=Vo o->h'.get? a=Vo o):XV tup h' a ag:=by
 cases tup with
 | true=>obtain⟨o,e,r⟩:=(x:Vt h a ag);exact(⟨o,k o e,r⟩:Vt h' a ag)
 | false=>obtain⟨o,e,r⟩:=(x:h.IsList a ag);exact(⟨o,k o e,r⟩:h'.IsList a ag)
def XKa(ta tb:Bool)(a b:Vh)(h:Vq):Vq :=
 ((((h.push (itO ta a)).push (itO tb b)).push { cls:=.type "tuple",data:=.seq #[.ref h.objs.size,.ref (h.objs.size+1)] }).push { cls:=.type "tuple",data:=.seq #[.none,.none] }).push
   { cls:=.type "zip",data:=.fields #[.none,.bool false,.bool false,.ref (h.objs.size+2),.ref (h.objs.size+3)] }
theorem QEd(ta tb:Bool)(a b:Vh)(xs ys:Array Va) :
 Meets (Ib.«zip.__new__» ⟨[.type "zip",.ref a,.ref b],[]⟩) (λ_ R s=>XV ta s.heap a xs/\XV tb s.heap b ys/\R (.ok (.ret (.ref (s.heap.objs.size+4)))) { s with heap:=XKa ta tb a b s.heap }) :=
 .of_wp λprog w A R s h=>by
  obtain⟨hp,g,d,tk,os⟩:=s;obtain⟨h1,h2,h⟩:=h;have dg:=sub_zip;have ga:∀ {A':VG} {Q:YQ_} {E:YQ_},Q (.ref hp.objs.size) ⟨hp.push (itO ta a),g,d,tk,os⟩->VV (VW prog w) A' (Ul (.ref a)) Q E ⟨hp,g,d,tk,os⟩:=λq=>Zic (s:=⟨hp,g,d,tk,os⟩) h1 q
  have gb:∀ {A':VG} {Q:YQ_} {E:YQ_},Q (.ref (hp.push (itO ta a)).objs.size) ⟨(hp.push (itO ta a)).push (itO tb b),g,d,tk,os⟩->VV (VW prog w) A' (Ul (.ref b)) Q E ⟨hp.push (itO ta a),g,d,tk,os⟩:=λq =>
   Zic (s:=⟨hp.push (itO ta a),g,d,tk,os⟩) (h2.keep λo e=>Us _ e) q
  wp_walk using ga,gb
  refine⟨_,rfl,?_⟩
  simp only[XKa,US]at h ⊢;exact h
end
theorem Z9d(n:Nat):ZUb (n+4) (n+2) (n+3) n (n+1):=by
 constructor <;> (intro e;have e:(_:Nat)=(_:Nat):=e;lia)
theorem Jec(ta tb:Bool)(a b:Vh)(h:Vq):Zud ta tb a b (h.objs.size+4) (h.objs.size+2) (h.objs.size+3) h.objs.size (h.objs.size+1) 0 (XKa ta tb a b h):=by
 have g:∀ (k:Vq) (n:Nat) (o:Obj),k.objs.size=n->o.isFreed=false->(k.push o).get? n=Vo o:=λk n o e f=>by subst e;exact Ut k f
 have e1:(h.push (itO ta a)).objs.size=h.objs.size+1:=US ..;have e2:((h.push (itO ta a)).push (itO tb b)).objs.size=h.objs.size+2:=by rw[US,e1]
 have e3:(((h.push (itO ta a)).push (itO tb b)).push { cls:=.type "tuple",data:=.seq #[.ref h.objs.size,.ref (h.objs.size+1)] }).objs.size=h.objs.size+3:=by rw[US,e2]
 have e4:((((h.push (itO ta a)).push (itO tb b)).push { cls:=.type "tuple",data:=.seq #[.ref h.objs.size,.ref (h.objs.size+1)] }).push { cls:=.type "tuple",data:=.seq #[.none,.none] }).objs.size=h.objs.size+4:=by rw[US,e3]
 have up:∀ {k:Vq} {c:Vh} {u o:Obj},k.get? c=Vo u->(k.push o).get? c=Vo u:=λq=>Us _ q
 unfold XKa;refine⟨⟨g _ _ _ e4 rfl,up (up (g _ _ _ e2 rfl)),.none,.none,up (g _ _ _ e3 rfl)⟩,?_,?_⟩
 ·have q:=up (o:={ cls:=.type "zip",data:=.fields #[.none,.bool false,.bool false,.ref (h.objs.size+2),.ref (h.objs.size+3)] }) (up (o:={ cls:=.type "tuple",data:=.seq #[.none,.none] }) (up (o:={ cls:=.type "tuple",data:=.seq #[.ref h.objs.size,.ref (h.objs.size+1)] }) (up (o:=itO tb b) (g h _ (itO ta a) rfl rfl))))
  cases ta with
  | true=>exact(⟨_,q,rfl,rfl⟩:Heap.IsTupleIter _ _ _ _)
  | false=>exact(⟨_,q,rfl,rfl⟩:Heap.IsListIter _ _ _ _)
 ·have q:=up (o:={ cls:=.type "zip",data:=.fields #[.none,.bool false,.bool false,.ref (h.objs.size+2),.ref (h.objs.size+3)] }) (up (o:={ cls:=.type "tuple",data:=.seq #[.none,.none] }) (up (o:={ cls:=.type "tuple",data:=.seq #[.ref h.objs.size,.ref (h.objs.size+1)] }) (g _ _ (itO tb b) e1 rfl)))
  cases tb with
  | true=>exact(⟨_,q,rfl,rfl⟩:Heap.IsTupleIter _ _ _ _)
  | false=>exact(⟨_,q,rfl,rfl⟩:Heap.IsListIter _ _ _ _)
section
variable{X:Cx}{ea eb:Expr}{ua ub:TE}{p pos bq:Pos}{ce:List Expr}{kk:Nat}
theorem Jad:VF "zip"=Vo (.type "zip"):=by decide +kernel
def Yed(ta tb:Bool)(ua ub:TE):TI:=λσ H R=>ua σ H λx H1=>ub σ H1 λy H2=>∃ a b xs ys,x=.ref a/\y=.ref b/\SqB ta H2 a xs/\SqB tb H2 b ys/\R (ItZ ta tb a b) H2
theorem YUc(ta tb:Bool)(hg:Gl X "zip")(hm:X.mg "zip"=Vp)(ha:PE X ea ua)(hb:PE X eb ub)(na:ZTb ea=true:=by rfl)(nb:ZTb eb=true:=by rfl) :
 PI X (.Tuple ce kk bq) (.Call (.Name "zip" p) [ea,eb] [] pos) (Yed ta tb ua ub):=by
 intro aa s σ H R I h;refine U4 (ZZa I hg hm Jad ?_)
 refine Uw (thn ((Qf ha (Qf hb Qb nb) na) pos aa s σ H (λvs H2=>∃ x y,vs=[x,y]/\∃ a b xs ys,x=.ref a/\y=.ref b/\SqB ta H2 a xs/\SqB tb H2 b ys/\R (ItZ ta tb a b) H2) I ?_) λus s1 hZ=>?_) (Yfa na) ?_
 ·have z:ua σ H λx H1=>ub σ H1 λy H2=>∃ a b xs ys,x=.ref a/\y=.ref b/\SqB ta H2 a xs/\SqB tb H2 b ys/\R (ItZ ta tb a b) H2:=h
  show ua σ H λx H1=>ub σ H1 λy H2=>∃ x' y',[x,y]=[x',y']/\_
  simpa only[List.cons.injEq,and_true,exists_and_left,exists_eq_left',and_assoc,exists_eq_left]using z
 ·obtain⟨vs,H1,I1,r1,x,y,ev,a,b,xs,ys,ex,ey,mr,vX,q⟩:=hZ
  subst ev ex ey;obtain⟨u1,u2,rfl,e1,e2⟩:=Q3c r1;obtain rfl:u1=Vk a:=e1;obtain rfl:u2=Vk b:=e2;obtain⟨bS,qS,q1⟩:=I1.seqB mr;obtain⟨aG,qT,q2⟩:=I1.seqB vX;refine callType_new F.called_zip #[1] (F.typeCall_zip_2 _ _) (F.newCall_zip_2 _ _) (λobj=>F.args_object_init_3 obj _ _) F.entry_zip_new (QEd ta tb a b bS.toArray aG.toArray) ⟨q1,q2,?_⟩
  have k5:∀ c o,s1.heap.get? c=Vo o->(XKa ta tb a b s1.heap).get? c=Vo o:=λc o e=>Us _ (Us _ (Us _ (Us _ (Us _ e))))
  have zt:=Jec ta tb a b s1.heap;refine⟨⟨_,zt.1.z,rfl⟩,wpAny_pyIter_zip zt.1.z ⟨s1.heap.objs.size+4,_,_,_,H1,rfl,I1.kept (t':=s1.toks) k5,YTc a b (s1.heap.objs.size+4) (s1.heap.objs.size+2) (s1.heap.objs.size+3) s1.heap.objs.size (s1.heap.objs.size+1) ?_,zt,λc hc=>?_,q⟩⟩
  ·exact Z9d _
  ·have bA:s1.heap.objs.size<=c:=by
    simp only[Lv,Lw,or_false]at hc
    rcases hc with rfl | rfl | rfl | rfl | rfl <;> lia
   exact I1.fpOk bA (I1.hok.fresh bA)
 ·rw[Yfa nb];rfl
theorem YVc{ta tb:Bool}{g:TG}{t:TS}{D:ZL}{σ:St}{H:Hp}:Qvb (Yed ta tb ua ub) g t D σ H=ua σ H λx H1=>ub σ H1 λy H2=>∃ a b xs ys,x=.ref a/\y=.ref b/\SqB ta H2 a xs/\SqB tb H2 b ys/\FoR (ItZ ta tb a b) g t D σ H2:=rfl
theorem Zjc{K:VD}{ta tb:Bool}{a b:Vh}(xs ys:List V){g:TG}{t:TS}{D:ZL}{σ:St}{H:Hp}(hl:xs.length=ys.length)(Pv:Nat->St->Hp->Prop)(h0:Pv 0 σ H)(hk:∀ i σ H,Pv i σ H->SqB ta H a xs/\SqB tb H b ys)
 (hs:∀ (i:Nat) x y T σ H,xs[i]?=Vo x->ys[i]?=Vo y->Pv i σ H->H T=Vp->g (.ref T) σ (upd H T (.tup [x,y])) λσ2 H2=>t { D with nx:=Pv (i+1),ct:=Pv (i+1),bk:=D.nx } σ2 H2)
 (hd:∀ σ H,Pv xs.length σ H->D.nx σ H):FoR (ItZ ta tb a b) g t D σ H:=by
 refine⟨λi m σ H=>m=xs.length - i/\i<=xs.length/\Pv i σ H,⟨_,rfl,Uy _,h0⟩,?_⟩
 rintro i m σ H ⟨rfl,hi,p⟩;obtain⟨k1,k2⟩:=hk i σ H p
 by_cases ax:i < xs.length
 ·refine .inr ⟨⟨xs,ys,xs[i],ys[i]'#[0],k1,k2,IE ax,IE #[0]⟩,Pv (i+1),λσ' H' q=>⟨_,by lia,rfl,ax,q⟩,?_⟩
  rintro v H' ⟨T,x,y,hT,rfl,rfl,e1,e2⟩;exact hs i x y T σ H (e1 xs k1) (e2 ys k2) p hT
 ·have e:i=xs.length:=by lia
  subst e;exact .inl ⟨⟨xs,k1,rfl⟩,hd σ H p⟩
end
section
variable{X:Cx}
end
section
variable{X:Cx}
theorem Zya:OpR X (V2 .LtE) (λx y H Q=>∃ i j,x=.str i/\y=.str j/\Q (.bl (!decide (j.cps.toList < i.cps.toList))) H):=by
 intro aa s σ H x y v u Q I rx ry h;obtain⟨i,j,rfl,rfl,q⟩:=h;obtain⟨t,rfl⟩:=rx;obtain⟨t2,rfl⟩:=ry;exact P.le_str ⟨.bl _,H,I,rfl,q⟩
theorem YWc:VF "all"=Vo (.builtin "all"):=by decide +kernel
theorem YXc{bs:List Bool}:∀ {us:List Va},Qz (bs.map V.bl) us->∀ {i:Nat} {v:Va},us[i]?=Vo v->∃ b,bs[i]?=Vo b/\v=.bool b:=λ{us} r {i v} e=>by
 have hi:i < us.length:=(List.getElem?_eq_some_iff.mp e).1
 have hl:=r.length;rw[UQ]at hl;obtain⟨u,e2,ru⟩:=r.get (i:=i) (x:=.bl (bs[i]'#[0])) (by simp[show i < bs.length by lia])
 rw[e]at e2;cases e2;exact⟨_,IE #[0],ru⟩
theorem Jbd(bs:List Bool):((VC bs.length).all λi=>(bs[i]?).getD true)=bs.all id:=by
 rw[UC,Ig,Ig]
 constructor
 ·intro h b hb
  obtain⟨i,hi,e⟩:=mem_iff_getElem.mp hb;have:=h i (mem_range.mpr hi);rw[IE hi,e]at this
  exact this
 ·intro h i hi
  have hi:=mem_range.mp hi;rw[IE hi]
  exact h _ (IF hi)
def Yfd(K:VD):List V->Hp->VK->Prop:=λxs H Q=>∃ (a:Vh) (bs:List Bool),xs=[.ref a]/\SqL K H a (bs.map V.bl)/\Q (.bl (bs.all id)) H
theorem Zmb(hc:X.calm=true):JV X (.builtin "all") (Yfd X.K):=by
 intro aa s σ H xs us Q I r h;obtain⟨a,bs,rfl,hq,q⟩:=h;obtain⟨u,rfl,ru⟩:=Y5 r;obtain rfl:u=Vk a:=ru;obtain⟨ag,rv,p,hz⟩:=I.list hq;have hl:=rv.length;rw[UQ]at hl;have lt:a < s.heap.objs.size:=by obtain⟨_,e,_⟩:=p.isList;exact Vy e
 have hh:=I.ok.hd hc;refine call_all_walk (Ur p.isList ⟨s.heap.objs.size,[s.heap.objs.size,a],[s.heap.objs.size],ag.toArray.size,_,_,λi=>(bs[i]?).getD true,rfl,Walks.list (A:=X.A.in1) hh _ a (VB lt) ag.toArray,⟨⟨_,Ut _ rfl,rfl,rfl⟩,p.isList.push _⟩,?_,?_⟩)
 ·intro i v s' Q' E' hP hQ
  obtain⟨b,e,rfl⟩:=YXc rv (i:=i) (v:=v) (by simpa using hP)
  simp only[e,Option.getD_some]at hQ;exact V4 hQ
 ·intro h' tk hk
  rw[UE,<- hl,Jbd];refine⟨.bl _,H,I.kept (t':=tk) λb o e=>hk b o ?_ (Us _ e),rfl,q⟩
  intro hm;rw[mem_singleton.mp hm]at e;exact VA _ (Vy e)
theorem YYc{ta:TA}{tt:TT}{te:TE}{σ:St}{H:Hp}{Q:VK}:tLc (J0c ta) tt te σ H Q=ta σ H λvs H1=>∃ i j:Int,vs=[.int i,.int j]/\(-(2 ^ 62)<=i/\i < 2 ^ 62 /\ -(2 ^ 62)<=j/\j < 2 ^ 62)/\LcR (Itr i (j - i).toNat) tt te σ Q H1:=rfl
end
def XD(H H':Hp):Prop:=∀ b o,H b=Vo o->H' b=Vo o\/((∃ xs,o=.lst xs)/\∃ ys,H' b=Vo (.lst ys))
theorem Qj.l{H H':Hp}(s:Qj H H'):XD H H':=λb o e=>.inl (s b o e)
theorem XD.trans{H H1 H2:Hp}(a:XD H H1)(b:XD H1 H2):XD H H2:=λc o e=>by
 rcases a c o e with h | ⟨⟨xs,rfl⟩,ys,h⟩
 ·exact b c o h
 ·rcases b c _ h with h' | ⟨_,zs,h'⟩
  ·exact .inr ⟨⟨xs,rfl⟩,ys,h'⟩
  ·exact .inr ⟨⟨xs,rfl⟩,zs,h'⟩
theorem Zza{H:Hp}{D:Vh}{ys zs:List V}(h:H D=Vo (.lst ys)):XD H (upd H D (.lst zs)):=λb o e=>by
 by_cases hb:b=D
 ·subst hb;rw[h]at e;cases e;exact .inr ⟨⟨_,rfl⟩,zs,Qa⟩
 ·exact .inl (by rw[Qh hb];exact e)
theorem XD.tup{H H':Hp}(s:XD H H'){b:Vh}{xs:List V}(e:H b=Vo (.tup xs)):H' b=Vo (.tup xs):=by
 rcases s b _ e with h | ⟨⟨ys,h⟩,_⟩
 ·exact h
 ·cases h
theorem XD.dK{H H':Hp}(s:XD H H'){b:Vh}{xs:List (Key×V)}(e:H b=Vo (.dK xs)):H' b=Vo (.dK xs):=by
 rcases s b _ e with h | ⟨⟨ys,h⟩,_⟩
 ·exact h
 ·cases h
end L2
namespace Th
open PySem L2 Pl
def Yf(c:Nat):Bool:=decide (32<=c/\c<=126/\c≠37)
def Xea(c:Nat):Bool:=decide (97<=c/\c<=122)
def YZc(z:Str):Prop:=z.length<=60/\∀ c∈z.cps.toList,Yf c=true\/c=9\/c=10
def Ypb:V->Prop
 | .non=>True
 | .bl _=>True
 | .int _=>True
 | .str z=>YZc z
 | _=>False
def TT:Nat->Hp->V->Prop
 | 0,H,v=>Ypb v\/∃ a,v=.ref a/\((∃ xs,H a=Vo (.lst xs))\/H a=Vo (.dK [])\/∃ xs,H a=Vo (.tup xs)/\xs.length<=60)
 | n+1,H,v=>Ypb v\/∃ a,v=.ref a/\((∃ xs,H a=Vo (.lst xs))\/H a=Vo (.dK [])\/∃ xs,H a=Vo (.tup xs)/\xs.length<=60/\∀ u∈xs,TT n H u)
end Th
end
section
namespace L2
open PySem PySem.Spec PyProof.Rows
def Jcd(h:Vq)(Y:Vh->Prop)(e:Vh)(vs:Array Va):Option Va->Prop
 | none=>vs[1]?=Vo .none
 | some v=>∃ T oT ts,vs[1]?=Vo (.ref T)/\T≠e/\(Y T/\oT.cls=.type "traceback")/\h.get? T=Vo oT/\oT.data=.fields ts/\ts[3]?=Vo v
def Y0c:YP_->Va->Prop
 | [],c=>c=.none
 | p::r,c=>c=.ref p.1/\∃ va c',p.2.data=.fields va/\va[2]?=Vo c'/\Y0c r c'
def Lie(h:Vq)(Y:Vh->Prop)(e:Vh)(ch:YP_):Prop:=(e::ch.map (·.1)).Nodup/\∀ p∈ch,h.get? p.1=Vo p.2/\p.2.cls≠.type "traceback"/\(∃ va,p.2.data=.fields va)/\Y p.1
def Exc(h:Vq)(Y:Vh->Prop)(e:Vh)(cls:Va)(dx:Option Vh)(ch:YP_)(fl:Option Va):Prop :=
 ∃ oe vs,h.get? e=Vo oe/\oe.cls=cls/\oe.dict=dx/\oe.data=.fields vs/\((∃ c,vs[2]?=Vo c/\Y0c ch c)/\Lie h Y e ch)/\Jcd h Y e vs fl
structure Z7a(Y:Vh->Prop)(e:Vh)(fs:List Vh)(h h':Vq):Prop where
 keep:∀ b o,h.get? b=Vo o->b≠e->¬ (Y b/\o.cls=.type "traceback")->b∉fs->h'.get? b=Vo o
 slot:∀ b o,h.get? b=Vo o->(∀ vs,o.data≠.fields vs)->∃ sl,h'.get? b=Vo { o with slots:=sl }
 size:h.objs.size<=h'.objs.size
theorem Z7a.trans{Y:Vh->Prop}{e:Vh}{fs:List Vh}{h₁ h₂ h₃:Vq}(x:Z7a Y e fs h₁ h₂)(y:Z7a Y e fs h₂ h₃):Z7a Y e fs h₁ h₃ :=
 ⟨λb o q a c d=>y.keep b o (x.keep b o q a c d) a c d,λb o q n=>let ⟨_,e1⟩:=x.slot b o q n;let ⟨sl,e2⟩:=y.slot b _ e1 n;⟨sl,e2⟩,VJ x.size y.size⟩
theorem Z7a.funs{Y:Vh->Prop}{e:Vh}{fs:List Vh}{h h' base:Vq}{l:List Env}(x:Z7a Y e fs h h')(f:h.FunFrames base l):h'.FunFrames base l :=
 f.of_keeps λb o q n=>let ⟨sl,e1⟩:=x.slot b o q n;⟨_,e1,rfl⟩
theorem Lie.stay{Y:Vh->Prop}{e:Vh}{fs:List Vh}{h h':Vq}{ch:YP_}(l:Lie h Y e ch)(st:Z7a Y e fs h h')(nf:∀ b∈fs,∃ o,h.get? b=Vo o/\∀ vs,o.data≠.fields vs):Lie h' Y e ch :=
 ⟨l.1,λp hp=>by
  obtain⟨q,c,⟨va,d⟩,y⟩:=l.2 p hp;refine⟨st.keep p.1 p.2 q (λz=>?_) (λz=>c z.2) (λz=>?_),c,⟨va,d⟩,y⟩
  ·exact(nodup_cons.mp l.1).1 (by rw[<- z];exact Lx hp)
  ·obtain⟨o,q',n⟩:=nf _ z
   rw[q]at q';cases q';exact n va d⟩
theorem Jfc(o:Obj)(f):(o.mapFields f).dict=o.dict:=by
 obtain⟨c,d,dt,sl⟩:=o;cases dt <;> rfl
theorem XLa{Y:Vh->Prop}{e a:Vh}{fs:List Vh}{h:Vq}{o:Obj}{vs:Array Va}(i:Nat)(x:Va)(ho:h.get? a=Vo o)(hd:o.data=.fields vs)(ha:a=e\/(Y a/\o.cls=.type "traceback")) :
 Z7a Y e fs h (h.update a (Lj (·.setIfInBounds i x))) where
 keep b u q n1 n2 _:=by
  rw[OA _ _ (λz=>by subst z;rw[ho]at q;cases q;exact ha.elim n1 n2)];exact q
 slot b u q n:=⟨u.slots,by
  rw[OA _ _ (λz=>by subst z;rw[ho]at q;cases q;exact n vs hd)];exact q⟩
 size:=by rw[Heap.size_update];exact Uu _
theorem Zkc{a:Vh}{h:Vq}{o:Obj}{vs:Array Va}(i:Nat)(x:Va)(ho:h.get? a=Vo o)(hd:o.data=.fields vs) :
 (h.update a (Lj (·.setIfInBounds i x))).get? a=Vo (o.mapFields (·.setIfInBounds i x)):=Oz _ ho (Ll (Lm hd _))
section
variable{M:VT}{A:VG}{E:YQ_}{s:VH}{Y:Vh->Prop}{base:Vq}{env:Env}{outer:List Env}{L e:Vh}{cls:Va}{dx:Option Vh}{ch:YP_}{fl:Option Va}{Q:Unit->VH->Prop}
theorem QFd{fs:List Vh}{v:Va}(nf:∀ b∈fs,∃ o,s.heap.get? b=Vo o/\∀ vs,o.data≠.fields vs)(x:Exc s.heap Y e cls dx ch (Vo v))(q:∀ h',Z7a Y e fs s.heap h'->Exc h' Y e cls dx ch (Vo .none)->Q () { s with heap:=h' }):VV M A (setFlight (.ref e) Vp) Q E s:=by
 obtain⟨oe,vs,he,hc,bM,hd,⟨lk,ll⟩,T,oT,ts,h1,ms,hY,hT,fG,h3⟩:=x;unfold setFlight;refine Ud (Lg he hd h1 ?_)
 rw[if_pos (show(Vk T != Vi)=true from by simp)]
 have hsz:3 < ts.size:=(Array.getElem?_eq_some_iff.mp h3).1
 have st:=XLa (Y:=Y) (e:=e) (fs:=fs) 3 ((Vp:Option Vh).elim Vi λf=>Uq f) hT fG (.inr hY)
 refine Li hT fG hsz (q _ st ⟨oe,vs,?_,hc,bM,hd,⟨lk,ll.stay st nf⟩,T,_,_,h1,ms,⟨hY.1,(Obj.cls_mapFields _ _).trans hY.2⟩,Zkc 3 _ hT fG,Lm fG _,?_⟩)
 ·rw[OA _ _ ms];exact he
 ·simp[hsz]
theorem Yqb{head:Va}{eS:Bool}(cT:A.frames=Vo (env::outer))(hl:s.heap.FunFrames base (env::outer))(hf:env.frame=Vo L)(hy:∀ b,s.heap.objs.size<=b->Y b){oe:Obj}{vs:Array Va}
 (he:s.heap.get? e=Vo oe) (hc:oe.cls=cls) (bM:oe.dict=dx) (hd:oe.data=.fields vs) (hsz:1 < vs.size) (lk:∃ c,vs[2]?=Vo c/\Y0c ch c) (ll:Lie s.heap Y e ch)
 (q:∀ h',Z7a Y e (frs (env::outer)) s.heap h'->Exc h' Y e cls dx ch (Vo (Uq L))->Q () { s with heap:=h' }) :
 VV M A (do let a <- frameOf env;let pl <- entryPlaceOf L eS;let b <- EntryCells.newEntry head a .none (Uq L) .none pl;setField (.ref e) 1 b) Q E s:=by
 refine Ud (wpAny_frameOf_fun cT hl hf λh₁ hs=>?_)
 refine Ud (wpAny_entryPlaceOf λpl aI=>?_)
 unfold EntryCells.newEntry newFields;refine Ud (Ia ?_ (aI.sizeOk5 _ _ _ _ _))
 have vY:e∉frs (env::outer):=λhm=>by
  obtain⟨_,o,ho,hn⟩:=hl.mem hm;rw[he]at ho;cases ho;exact hn vs hd
 have i0:h₁.get? e=Vo oe:=(hs.2.1 e vY).trans he;have au:h₁.objs.size≠e:=Ui (Vy i0);generalize htb:({ cls:=.type "traceback",dict:=Vp,data:=.fields ([head,.ref L,.none,Uq L,.none]++(if pl.isEmpty then Od 6 Vi else pl)).toArray }:Obj)=tb
 have qU:tb.data=.fields ([head,.ref L,.none,Uq L,.none]++(if pl.isEmpty then Od 6 Vi else pl)).toArray:=by rw[<- htb]
 have nY:tb.isFreed=false:=Ll qU;have jD:(h₁.push tb).get? e=Vo oe:=Us _ i0
 have hY:Y h₁.objs.size:=hy _ (by rw[hs.1];exact Uu _)
 have nZ:tb.cls=.type "traceback":=by rw[<- htb]
 have st:Z7a Y e (frs (env::outer)) s.heap ((h₁.push tb).update e (Lj (·.setIfInBounds 1 (Vk h₁.objs.size)))):=by
  refine Z7a.trans ?_ (XLa 1 _ jD hd (.inl rfl))
  refine⟨λb o g _ _ n=>Us _ ((hs.2.1 b n).trans g),λb o g _=>?_,?_⟩
  ·obtain⟨sl,g1⟩:=hs.2.2 b o g
   exact⟨sl,Us _ g1⟩
  ·rw[<- hs.1];cases h₁;simp[Heap.push]
 refine Li jD hd hsz (q _ st ⟨_,_,Zkc 1 _ jD hd,(Obj.cls_mapFields _ _).trans hc,(Jfc _ _).trans bM,Lm hd _,⟨?_,ll.stay st λb hb=>(hl.mem hb).2⟩,h₁.objs.size,tb,_,by simp[hsz],au,⟨hY,nZ⟩,?_,qU,?_⟩)
 ·obtain⟨c,h2,l⟩:=lk
  exact⟨c,by rw[Array.getElem?_setIfInBounds_ne #[1]];exact h2,l⟩
 ·rw[OA _ _ (VR au)];exact Ut _ nY
 ·first | (simp;done) | (rcases aI with rfl | ⟨_,_,_,_,_,_,_,rfl⟩ <;> simp)
theorem QGd(cT:A.frames=Vo (env::outer))(hl:s.heap.FunFrames base (env::outer))(hf:env.frame=Vo L)(hy:∀ b,s.heap.objs.size<=b->Y b)(x:Exc s.heap Y e cls dx ch fl)(jE:fl=Vp\/fl=Vo .none)
 (q:∀ h',Z7a Y e (frs (env::outer)) s.heap h'->Exc h' Y e cls dx ch (Vo (Uq L))->Q () { s with heap:=h' }):VV M A (noteFrame (.ref e) env) Q E s:=by
 obtain⟨oe,vs,he,hc,bM,hd,⟨lk,ll⟩,hh⟩:=x;unfold noteFrame;simp only[hf]
 rcases jE with rfl | rfl
 ·have h1:vs[1]?=Vo .none:=hh
  refine Ud (Lg he hd h1 ?_)
  rw[if_neg #[1]]
  exact Yqb cT hl hf hy he hc bM hd (Array.getElem?_eq_some_iff.mp h1).1 lk ll q
 ·obtain⟨T,oT,ts,h1,ms,hY,hT,fG,h3⟩:=hh
  refine Ud (Lg he hd h1 ?_)
  rw[if_pos (show(Vk T != Vi)=true from by simp)]
  refine Ud (Lg hT fG h3 ?_)
  rw[if_neg (show ¬ ((Vi == Uq L)=true) from by simp[Uq])]
  refine Ud (Li hT fG (Array.getElem?_eq_some_iff.mp h3).1 ?_)
  have st:Z7a Y e (frs (env::outer)) s.heap (s.heap.update T (Lj (·.setIfInBounds 3 Vi))):=XLa 3 _ hT fG (.inr hY);refine Yqb (s:={ s with heap:=s.heap.update T (Lj (·.setIfInBounds 3 Vi)) }) cT (st.funs hl) hf (λb hb=>hy b (VJ st.size hb)) ((OA _ _ ms).trans he) hc bM hd (Array.getElem?_eq_some_iff.mp h1).1 lk (ll.stay st λb hb=>(hl.mem hb).2) λh' t x'=>q h' (st.trans t) x'
theorem Y1c(cT:A.frames=Vo (env::outer))(hl:s.heap.FunFrames base (env::outer))(hf:env.frame=Vo L)(hy:∀ b,s.heap.objs.size<=b->Y b)(x:Exc s.heap Y e cls dx ch fl)(jE:fl=Vp\/fl=Vo .none)
 (q:∀ h',Z7a Y e (frs (env::outer)) s.heap h'->Exc h' Y e cls dx ch (Vo .none)->Q () { s with heap:=h' }):VV M A (leaving env (.ref e)) Q E s:=by
 unfold leaving;refine Ud (QGd cT hl hf hy x jE λh₁ st x1=>?_)
 exact QFd (s:={ s with heap:=h₁ }) (fs:=frs (env::outer)) (λb hb=>((st.funs hl).mem hb).2) x1 λh₂ bC x2=>q h₂ (st.trans bC) x2
end
theorem Exc.mono{h:Vq}{Y Y':Vh->Prop}{e:Vh}{cls:Va}{dx:Option Vh}{ch:YP_}{fl:Option Va}(x:Exc h Y e cls dx ch fl)(k:∀ b,Y b->Y' b):Exc h Y' e cls dx ch fl:=by
 obtain⟨oe,vs,he,hc,bM,hd,⟨lk,l1,l2⟩,hh⟩:=x;refine⟨oe,vs,he,hc,bM,hd,⟨lk,l1,λp hp=>let ⟨a,b,c,d⟩:=l2 p hp;⟨a,b,c,k _ d⟩⟩,?_⟩
 cases fl with
 | none=>exact hh
 | some v=>obtain⟨T,oT,ts,h1,h2,h3,r⟩:=hh;exact⟨T,oT,ts,h1,h2,⟨k T h3.1,h3.2⟩,r⟩
def Yg(old:Vq)(H:Hp)(b:Vh):Prop:=old.get? b=Vp/\H b=Vp
def CX1(P:Vg)(w:Vb):CXT:=λouter H s E e s'=>∃ ea cls dx ch H',e=.ref ea/\s'.os=s.os/\VI s'.gens/\Un (frs outer) [] H H' s.heap s'.heap/\HOk P w H' s'.heap /\
 Exc s'.heap (Yg s.heap H') ea cls dx ch (Vo .none)/\s.heap.get? ea=Vp/\H' ea=Vp/\E cls dx H'
def Yga(X:Cx)(E:XK):Prop:=∀ (aa:YP_) (σ:St) (H:Hp) (s:VH) (e:Vh) (cls:Va) (dx:Option Vh) (ch:YP_) (fl:Option Va),Inv X aa σ H s->Exc s.heap (Yg X.s₀.heap H) e cls dx ch fl->(fl=Vp\/fl=Vo .none) ->
 X.s₀.heap.get? e=Vp->H e=Vp->E cls dx H->X.xe (.ref e) s
section
variable{X:Cx}{E:XK}{aa:YP_}{σ:St}{H:Hp}{s:VH}
theorem Inv.young(I:Inv X aa σ H s)(hx:X.ex=[]){b:Vh}(h:s.heap.get? b=Vp):X.s₀.heap.get? b=Vp:=by
 cases q:X.s₀.heap.get? b with
 | none=>rfl
 | some o =>
  obtain⟨o',e⟩:=I.base.there b o q (by rw[hx];simp)
  rw[h]at e;cases e
theorem Y2c{env:Env}{outer:List Env}{L:Vh}(h:env.frame=Vo L):frs (env::outer)=L::frs outer:=by unfold frs;rw[VM,h]
end
section
variable{P:Vg}{w:Vb}{K:VD}{mg:Str->Option Va}{base:Vq}{N:List Str}{qual:Str}{scope:Scope}{f:Vh}{cd:Va}{A:VG}{outer:List Env}{s:VH}{H:Hp}{E:XK}
theorem Yo:Yga (Z4a (CX1 P w) P w K mg base N qual scope f cd A outer s H E) E:=by
 intro aa σ H' s' e cls dx ch fl I x jE n1 n2 hE;have n1:s.heap.get? e=Vp:=n1;have fr:frs (Oe qual scope s.heap.objs.size f cd::outer)=s.heap.objs.size::frs outer:=Y2c rfl;have stk:s'.heap.FunFrames base (Oe qual scope s.heap.objs.size f cd::outer):=I.stack;have sf:∀ b∈frs (Oe qual scope s.heap.objs.size f cd::outer),H' b=Vp:=I.stkFree;have ib:Un (frs outer) [] H H' s.heap s'.heap:=I.base;show VV (VW P w) _ (leaving _ (.ref e)) _ _ s';refine Y1c (base:=base) (Y:=Yg s.heap H') (L:=s.heap.objs.size) (fl:=fl) I.ok.frames stk rfl (λb hb=>⟨VP (VJ I.sz hb),I.hok.fresh hb⟩) x jE λh' st x'=>?_
 have nf:∀ b o,s.heap.get? b=Vo o->b∉frs outer->b∉frs (Oe qual scope s.heap.objs.size f cd::outer):=λb o q hb hm=>by
  rw[fr]at hm
  rcases mem_cons.mp hm with z | z
  ·rw[z]at q;exact absurd (Vy q) (VA _)
  ·exact hb z
 have ne:∀ b o,s.heap.get? b=Vo o->b≠e:=λb o q z=>by rw[z,n1]at q;cases q
 have ny:∀ b o (o':Obj),s.heap.get? b=Vo o->¬ (Yg s.heap H' b/\o'.cls=.type "traceback"):=λb o o' q y=>by rw[y.1.1]at q;cases q
 refine⟨e,cls,dx,ch,H',rfl,I.os,I.bare,⟨λb o q n hb hx=>?_,λb o q n hb hx=>?_,ib.free,λb o q hx=>?_,ib.tups,ib.frzs,ib.tbls⟩,λb u eb=>?_,x',n1,n2,hE⟩
 ·exact st.keep b o (ib.keep b o q n hb hx) (ne b o q) (ny b o _ q) (nf b o q hb)
 ·obtain⟨sl,q1⟩:=ib.slot b o q n hb hx
  obtain⟨_,o2,q2,hn⟩:=stk.mem (show b∈frs _ by rw[fr];exact VO _ hb)
  rw[q1]at q2;cases q2;obtain⟨mW,q3⟩:=st.slot b _ q1 hn;exact⟨mW,q3⟩
 ·obtain⟨o',q1⟩:=ib.there b o q hx
  by_cases hn:∀ vs,o'.data≠.fields vs
  ·obtain⟨sl,q2⟩:=st.slot b o' q1 hn
   exact⟨_,q2⟩
  ·refine⟨o',st.keep b o' q1 (ne b o q) (ny b o _ q) λhm=>?_⟩
   obtain⟨_,o2,q2,iR⟩:=stk.mem hm;rw[q1]at q2;cases q2;exact hn iR
 ·refine(I.hok b u eb).stay (λc v hc q=>?_) (λ_ q=>q) λ_ _ q=>q
  have bA:H' c≠Vp:=by
   rcases hc with z | z
   ·rw[z,eb];simp
   ·rw[z];simp
  exact st.keep c v q (λz=>bA (by rw[z];exact n2)) (λy=>bA y.1.2) λhm=>bA (sf c hm)
theorem Ygd:PassesOwn (VW P w) (Z4a (CX1 P w) P w K mg base N qual scope f cd A outer s H E).A (Z4a (CX1 P w) P w K mg base N qual scope f cd A outer s H E).env (Z4a (CX1 P w) P w K mg base N qual scope f cd A outer s H E).xe:=PassesOwn.leaving (Q₁:=λe bY=>CX1 P w outer H s E e bY)
end
theorem QN.obj{P:Vg}{w:Vb}{H:Hp}{h:Vq}{a:Vh}{o:HO}(x:QN P w H h a o):∃ ob,h.get? a=Vo ob:=by
 cases o with
 | lst xs=>obtain⟨_,_,_,_,e⟩:=x;exact⟨_,e⟩
 | tup xs=>obtain⟨_,_,_,p⟩:=x;obtain⟨o,e,_⟩:=p;exact⟨_,e⟩
 | dK ac=>obtain⟨_,_,_,_,o,_,_,e,_⟩:=x;exact⟨_,e⟩
 | dT ac=>obtain⟨_,_,_,_,o,_,_,e,_⟩:=x;exact⟨_,e⟩
 | set S n=>obtain⟨o,_,_,_,e,_⟩:=x;exact⟨_,e⟩
 | ins C dx fs=>obtain⟨_,_,_,e,_⟩:=x;exact⟨_,e⟩
 | own y=>exact x
 | xd fs=>obtain⟨_,⟨_,_,_,e,_⟩,_⟩:=x;exact⟨_,e⟩
 | rng lo hi=>obtain⟨_,_,_,e⟩:=x;exact⟨_,e⟩
 | frz ob u=>obtain⟨e,_⟩:=x;exact⟨_,e⟩
 | tbl ps=>exact⟨_,x⟩
 | met f y=>exact⟨_,x⟩
 | ext φ=>obtain⟨_,e,_⟩:=x;exact e
theorem HOk.none_of{P:Vg}{w:Vb}{H:Hp}{h:Vq}{a:Vh}(x:HOk P w H h)(e:h.get? a=Vp):H a=Vp:=by
 cases q:H a with
 | none=>rfl
 | some u=>obtain⟨o,e'⟩:=(x a u q).obj;rw[e]at e';cases e'
structure Y3c(K:VD)(C:Vh)(bm fH:List Va)(newId:String):Prop where
 ex:∃ nm q N bs hdct sn sub ab col dd k0 k1 k2 k3 k5,K.lookup C=Vo (Ly nm q C N bs bm hdct sn sub ab col dd k0 k1 k2 k3 k5 newId)/\Lz K N=true/\LA K N "__init__"=Vo Vp
 tail:W.tailIn K fH bm=true
section
variable{X:Cx}{E:XK}{x:Str}{C:Vh}{bm fH:List Va}{B newId bF:String}{np aq pos:Pos}
def Jdd(E:XK)(cls:Va):TS:=λ_ _ H=>E cls Vp H
theorem Yha(T:Yga X E)(aZ:X.ex=[])(di:X.calm=true)(hg:Gl X x)(hm:X.mg x=Vo (.ref C))(c:Y3c X.K C bm fH newId)(FB:ExcBaseFacts B newId bF fH)(aF:(x == ("__debug__":Str))=false:=by decide) :
 PS X (.Raise (Vo (.Call (.Name x np) [] [] aq)) Vp pos) (Jdd E (.ref C)):=by
 intro aa s σ H D I h;obtain⟨nm,q,N,bs,hdct,sn,sub,ab,col,dd,k0,k1,k2,k3,k5,lk,ok,hi⟩:=c.ex;have KX:=I.kIn;have TL:OwnTail s.heap fH bm:=W.tail_of_in KX c.tail;refine wpAny_Raise_call_subT (C:=C) (nm:=nm) (q:=q) (N:=N) (bs:=bs) (bm:=bm) (hdct:=hdct) (sn:=sn) (sub:=sub) (ab:=ab) (col:=col) (dd:=dd) (k0:=k0) (k1:=k1) (k2:=k2) (k3:=k3) (k5:=k5) FB (mN:=s.heap.nsMap N) (TL.hasType FB.hasBase) (I.ok.hd di) rfl (W.nsMap_none_of_in KX ok hi) (JI I hg hm ⟨rfl,?_⟩ aF)
 refine evalArgs_empty ⟨rfl,Uy _,KX _ _ lk,.of_isNs (W.isNs_of_in KX ok),TL,λh' e mk=>?_⟩
 have I2:Inv X aa σ H { s with heap:=h' }:=I.kept (t':=s.toks) mk.keeps
 obtain⟨t,he,_⟩:=mk.there;exact T aa σ H _ e (.ref C) Vp [] Vp I2 ⟨_,_,he,rfl,rfl,rfl,⟨⟨.none,rfl,rfl⟩,by simp,λp hp=>by cases hp⟩,rfl⟩ (.inl rfl) (I.young aZ mk.new) (I.hok.none_of mk.new) h
end
structure Old(X:Cx)(aa:YP_)(old:Vq):Prop where
 ent:∀ b,old.get? b=Vp->X.s₀.heap.get? b=Vp
 pin:∀ p∈X.pn++aa,old.get? p.1≠Vp
def X1P(X:Cx)(aa:YP_)(σ:St)(E:XK)(ev:Va)(s':VH):Prop :=
 ∃ ea cls dx ch H' old,ev=.ref ea/\Inv X aa σ H' s'/\Exc s'.heap (Yg old H') ea cls dx ch (Vo .none)/\Old X aa old/\(∀ b,s'.heap.objs.size<=b->old.get? b=Vp)/\old.get? ea=Vp/\H' ea=Vp/\E cls dx H'
abbrev TE1:=St->Hp->VK->XK->Prop
abbrev TS1:=ZL->St->Hp->XK->Prop
def PE1(X:Cx)(e:Expr)(t:TE1):Prop :=
 ∀ (aa:YP_) (s:VH) (σ:St) (H:Hp) (Q:VK) (E:XK),Inv X aa σ H s->t σ H Q E->VV (VW X.prog X.w) X.A (VX e X.env) (EP X aa σ Q) (X1P X aa σ E) s
section
variable{X:Cx}{E:XK}{e:Expr}{es:List Expr}{t:TA}{t1:TE1}{x:Str}{p pos:Pos}{k j:Nat}{f:Vh}{fd:U0}{ps:List Str}{sp:Sp}
theorem X1P.thrown{aa:YP_}{σ:St}{ev:Va}{s':VH}(T:Yga X E)(h:X1P X aa σ E ev s'):X.xe ev s':=by
 obtain⟨ea,cls,dx,ch,H',old,rfl,I,y,o,_,n1,n2,hE⟩:=h;exact T aa σ H' s' ea cls dx ch _ I (y.mono λb z=>⟨o.ent b z.1,z.2⟩) (.inr rfl) (o.ent _ n1) n2 hE
theorem PE1.pe(h:PE1 X e t1)(T:Yga X E):PE X e (λσ H Q=>t1 σ H Q E):=λaa s σ H Q I q=>V1 (h aa s σ H Q E I q) (λ_ _ z=>z) λ_ _ z=>z.thrown T
theorem Inv.old{aa:YP_}{σ:St}{H:Hp}{s:VH}(I:Inv X aa σ H s)(aZ:X.ex=[]):Old X aa s.heap :=
 ⟨λb h=>I.young aZ h,λp hp h=>by rw[(I.pin p hp).1]at h;cases h⟩
theorem Xfa{aa:YP_}{σ:St}{H:Hp}{s:VH}{Q:VK}{us:List Va}{vs:List V}(F:Qy X.prog X.w X.K X.mg X.base (CX1 X.prog X.w) k f fd ps sp)(hr:Q5 k X.A)(hb:ZA X.K fd ps [])(aZ:X.ex=[])
 (I:Inv X aa σ H s) (r:Qz vs us) (h:sp vs H Q E):VV (VW X.prog X.w) X.A (Uz (.ref f) us) (EP X aa σ Q) (X1P X aa σ E) s:=by
 have hl:(us++[]).length=ps.length:=by rw[U1,<- r.length];exact F.len _ _ _ _ h
 have b:=hb s us I.kIn hl;rw[U1]at b;refine U2 (U3 (F.run X.A X.stack s H ⟨us,[]⟩ us vs Q E hr I.env0 b r h) λres s' hq=>?_)
 cases res with
 | error ev =>
  obtain⟨ea,cls,dx,ch,H',rfl,os,bare,un,hok,y,n1,n2,hE⟩:=hq;refine⟨ea,cls,dx,ch,H',s.heap,rfl,I.call' (ch:=[]) os un hok bare (λb z=>absurd z #[2]),y,I.old aZ,λb hb=>?_,n1,n2,hE⟩
  cases q:s.heap.get? b with
  | none=>rfl
  | some u =>
   obtain⟨u',q'⟩:=un.there b u q #[2]
   exact absurd (Vz (Vy q') hb) (VA _)
 | ok fl =>
  cases fl with
  | ret u=>exact I.after hq
  | next=>exact V8 hq
  | brk=>exact V8 hq
  | cont=>exact V8 hq
def ZWb(sp:Sp)(t:TA):TE1:=λσ H Q E=>t σ H λvs H1=>sp vs H1 Q E
theorem XYb{aa:YP_}{σ:St}{H:Hp}{s:VH}{Q:List V->Hp->Prop}{W:YQ_}(ha:PA X.nox es t)(I:Inv X aa σ H s)(q:t σ H Q):VV (VW X.prog X.w) X.A (spliced (VY pos (VZ es X.env))) (AP X aa σ Q) W s :=
 V1 (ha pos aa s σ H Q (I.wish _) q) (λ_ _ ⟨vs,H',I',r,z⟩=>⟨vs,H',I'.unwish,r,z⟩) λ_ _ z=>V8 z
theorem Y4c(F:Qy X.prog X.w X.K X.mg X.base (CX1 X.prog X.w) k f fd ps sp)(hr:Q5 k X.A)(hg:Gl X x)(hm:X.mg x=Vo (.ref f))(hk:UP X.K (.ref f)=true)(hb:ZA X.K fd ps [])(aZ:X.ex=[])
 (ha:PA X.nox (e::es) t) (aF:(x == ("__debug__":Str))=false:=by decide) (he:VZ (e::es) X.env=(false,VX e X.env)::VZ es X.env:=by rfl) (aI:(VY pos (VZ es X.env)).any (·.1)=false:=by rfl) :
 PE1 X (.Call (.Name x p) (e::es) [] pos) (ZWb sp t):=by
 intro aa s σ H Q E I h;refine U4 (JI I hg hm ?_ aF)
 refine U5 (h₀:=X.base) I.ok.mod.kin hk (thn (XYb ha I h) λus s1 ⟨vs,H1,I1,r,q⟩=>⟨I1.kIn,?_⟩) he aI
 exact Xfa F hr hb aZ I1 r q
end
section
variable{X:Cx}{aa:YP_}{σ:St}{H:Hp}{s:VH}
end
section
variable{X:Cx}{st b₀:V0}{fJ:List V0}{t1:TS1}{ts:TS}{x:Str}{C:Vh}{bm fH:List Va}{B newId bF:String}{np jF pos:Pos}
end
section
variable{prog:Vg}{w:Vb}{A:VG}{s:VH}{R:UJ->VH->Prop}{value:Va}
end
section
variable{M:VT}{A:VG}{E:YQ_}{env:Env}
variable{nm q:Str}{C N:Vh}{bs bm:List Va}{hdct:Bool}{sn:List Str}{sub:List Va}{ab:Bool}{col:Option Bool}{dd:Option Vh}{k0 k1 k2 k3 k5:Option Va}{newId:String}
end
section
variable{X:Cx}{E:XK}{x:Str}{C ea:Vh}{ps:YP_}{bm fH:List Va}{B newId bF:String}{np aq c6 pos:Pos}{j:Nat}
end
def MeV(P:Vg)(w:Vb)(K:VD)(mg:Str->Option Va)(base:Vq)(k:Nat)(C:Vh)(m:Str)(sp:Sp):Prop :=
 ∃ f fd ps,JZd K C m f/\Qy P w K mg base (CX1 P w) k f fd ps sp/\ZA K fd ps []
section
variable{X:Cx}{C:Vh}{m x:Str}{k i:Nat}{sp:Sp}{ta:TE}{t:TA}{e o:Expr}{es:List Expr}{p pos ak:Pos}{pl:Sem Bool}
theorem Zlc{aa:YP_}{σ:St}{H:Hp}{s:VH}{Q:VK}{W:YQ_}(h:PE X.nox e ta)(I:Inv X aa σ H s)(q:ta σ H Q):VV (VW X.prog X.w) X.A (VX e X.env) (EP X aa σ Q) W s :=
 V1 (h aa s σ H Q (I.wish _) q) (λ_ _ ⟨v,H',I',r,z⟩=>⟨v,H',I'.unwish,r,z⟩) λ_ _ z=>V8 z
end
section
variable{P:Vg}{w:Vb}{K:VD}{mg:Str->Option Va}{base:Vq}
theorem Fun.ok1{x qual:Str}{st:V0}{f:Vh}{fd:U0}{N ps:List Str}{k:Nat}{sp:Sp}(F:Fun K x qual st f fd)(S:Qp N ps (Qg st))(len:∀ vs H Q E,sp vs H Q E->vs.length=ps.length)
 (bh:∀ (ah:Va) (A:VG) (outer:List Env) (s:VH) (H:Hp) (vs:List V) (Q:VK) (E:XK),Q5 k (A.deeper (Oe qual (Qg st) s.heap.objs.size f ah))->sp vs H Q E ->
  ∃ t,PSs (Z4a (CX1 P w) P w K mg base N qual (Qg st) f ah A outer s H E) (Z8 st) t/\t { nx:=λ_ H'=>Q .non H',rt:=Q } (ZMa N vs) H):Qy P w K mg base (CX1 P w) (k+1) f fd ps sp:=by
 obtain⟨oc,od,kV,aO,pm,an,ah,ct,bv,rfl,lk,bc⟩:=F.ex;exact Yac lk bc S len λA outer s H vs Q E hr b9=>bh ah A outer s H vs Q E hr b9
end
section
variable{X:Cx}
theorem Zy:Yga X E0:=λ_ _ _ _ _ _ _ _ _ _ _ _ _ _ h=>h.elim
end
section
variable{P:Vg}{w:Vb}{K:VD}{mg:Str->Option Va}{base:Vq}{N:List Str}{qual:Str}{scope:Scope}{f:Vh}{cd:Va}{A:VG}{outer:List Env}{s:VH}{H:Hp}{E:XK}
end
def Jgc(P:Vg)(w:Vb)(K:VD)(mg:Str->Option Va)(base:Vq)(k:Nat)(x:Str)(ps:List Str)(sp:Sp):Prop :=
 ∃ f fd,Qy P w K mg base (CX1 P w) k f fd ps sp/\ZA K fd ps []/\UP K (.ref f)=true/\mg x=Vo (.ref f)
def MkV(P:Vg)(w:Vb)(K:VD)(mg:Str->Option Va)(base:Vq)(k:Nat)(x:Str)(C:Vh)(sp:Sp):Prop :=
 ∃ f fd ps,Mk K C f/\Qy P w K mg base CX0 k f fd ps sp/\ZA K fd ps []/\mg x=Vo (.ref C)
section
variable{X:Cx}{e o:Expr}{es:List Expr}{t:TA}{ta:TE}{p pos ak:Pos}{j k:Nat}{x m:Str}{ps:List Str}{sp:Sp}{C:Vh}{E:XK}{pl:Sem Bool}
theorem QHd(G:Jgc X.prog X.w X.K X.mg X.base j x ps sp)(hr:Q5 k X.A)(hj:j<=k)(hg:Gl X x)(aZ:X.ex=[])(ha:PA X.nox (e::es) t)(aF:(x == ("__debug__":Str))=false:=by decide)
 (he:VZ (e::es) X.env=(false,VX e X.env)::VZ es X.env:=by rfl) (aI:(VY pos (VZ es X.env)).any (·.1)=false:=by rfl):PE1 X (.Call (.Name x p) (e::es) [] pos) (ZWb sp t):=by
 obtain⟨f,fd,F,b,kp,m⟩:=G;exact Y4c F (hr.mono hj) hg m kp b aZ ha aF he aI
theorem MeV.mono{P:Vg}{w:Vb}{K:VD}{mg:Str->Option Va}{base:Vq}(G:MeV P w K mg base j C m sp)(hj:j<=k):MeV P w K mg base k C m sp:=by
 obtain⟨f,fd,ps,a,F,b⟩:=G;exact⟨f,fd,ps,a,F.mono hj,b⟩
theorem Zvd(G:MkV X.prog X.w X.K X.mg X.base j x C sp)(hr:Q5 k X.A)(hj:j+1<=k)(hg:Gl X x)(ha:PA X (e::es) t)(aF:(x == ("__debug__":Str))=false:=by decide)
 (he:VZ (e::es) X.env=(false,VX e X.env)::VZ es X.env:=by rfl) (aI:(VY pos (VZ es X.env)).any (·.1)=false:=by rfl):PE X (.Call (.Name x p) (e::es) [] pos) (Q5c C sp [] E0 t):=by
 obtain⟨f,fd,ps,M,F,b,hm⟩:=G;exact Qqd M F (hr.mono hj) hg hm b .nil Zfb ha aF he aI
end
end L2
end
section
namespace Tg
open PySem L2 Pl
def Yf(c:Nat):Bool:=decide (32<=c/\c<=126/\c≠37)
def YZc(z:Str):Prop:=z.length<=10000000
def Ypb:V->Prop
 | .non=>True
 | .bl _=>True
 | .int _=>True
 | .str z=>YZc z
 | _=>False
def TT:Nat->Hp->V->Prop
 | 0,H,v=>Ypb v\/∃ a,v=.ref a/\((∃ xs,H a=Vo (.lst xs))\/H a=Vo (.dK [])\/∃ xs,H a=Vo (.tup xs)/\xs.length<=100000)
 | n+1,H,v=>Ypb v\/∃ a,v=.ref a/\((∃ xs,H a=Vo (.lst xs))\/H a=Vo (.dK [])\/∃ xs,H a=Vo (.tup xs)/\xs.length<=100000/\∀ u∈xs,TT n H u)
end Tg
end
section
namespace L2
open PySem PySem.Spec PyProof.Rows
section
variable{X:Cx}
end
theorem Znb(zs:List Str):(Ic (Lc "") zs).cps.toList=zs.flatMap λz=>z.cps.toList:=by
 have e0:(Lc "").cps.toList=[]:=by decide
 have f:∀ (l:List Str) (a:Str),(l.foldl (λs u=>s++Lc ""++u) a).cps.toList=a.cps.toList++l.flatMap λz=>z.cps.toList:=λl=>by
  induction l with
  | nil=>intro a;simp
  | cons z l ih =>
   intro a;rw[IZ,ih,IR,IR,e0,U1,DI,IY]
 cases zs with
 | nil=>decide
 | cons z l=>rw[Jbc,f,DI]
section
variable{X:Cx}
end
end L2
end
section
namespace PySem
section
variable{prog:Vg}{w:Vb}{A:VG}{E:YQ_}{h:Vq}{g:Array VQ}{d:Drawn}{t:Nat}{os:OsState}
variable{nm q:Str}{C N:Vh}{bs bm fH:List Va}{hdct:Bool}{sn:List Str}{sub:List Va}{ab:Bool}{col:Option Bool}{dd:Option Vh}{k0 k1 k2 k3 k5:Option Va}{B newId bF:String}
abbrev Yia(h:Vq)(C:Vh):Obj:={ cls:=.ref C,data:=.fields #[.ref h.objs.size,.none,.none,.none,.bool false,.none] }
abbrev XMa(rest:List Va):Obj:={ cls:=.type "tuple",data:=.seq rest.toArray }
end
end PySem
end
section
namespace PySem.W
open PySem PySem.Spec PySem.Calls PyProof.Rows PySem.Builtin PySem.Builtin.ObjectAttr
abbrev bmV:List Va:=[.type "ValueError",.type "Exception",.type "BaseException",.type "object"]
structure XCl(K:VD)(C CT:Vh):Prop where
 cl:∃ nm q N bs sn sub ab col dd k0 k1 k2 k3 k5,K.lookup C=Vo (Ly nm q C N bs (.ref CT::bmV) true sn sub ab col dd k0 k1 k2 k3 k5 "ValueError.__new__")/\nsOkIn K N=true
 tail:tailIn K bmV (.ref CT::bmV)=true
 ga:UF K (.ref C) "__getattribute__"=Vo (Vo (.builtin "BaseException.__getattribute__"))
 gt:UF K (.ref C) "__getattr__"=Vo Vp
 sa:UF K (.ref C) "__setattr__"=Vo (Vo (.builtin "object.__setattr__"))
 cc:UF K (.ref C) "__class__"=Vo (Vo (.builtin "object.__class__"))
 cg:specialIn K (.builtin "object.__class__") "__get__"=Vo (Vo (.builtin "getset_descriptor.__get__"))
 ct:takesIn K (.builtin "object.__class__")=Vo true
section
variable{K:VD}{C CT:Vh}
theorem XCl.cd(c:XCl K C CT):∃ cd,clsIn K C=Vo cd/\cd.mro=.ref C::.ref CT::bmV/\cd.hasDict=true:=by
 obtain⟨nm,q,N,bs,sn,sub,ab,col,dd,k0,k1,k2,k3,k5,lk,_⟩:=c.cl;have e:clsIn K C=(match (Ly nm q C N bs (.ref CT::bmV) true sn sub ab col dd k0 k1 k2 k3 k5 "ValueError.__new__") with | ⟨_,_,.cls cd,_⟩=>Vo cd | _=>Vp):=by unfold clsIn;rw[lk]
 exact⟨_,e,rfl,rfl⟩
theorem XCl.mro(c:XCl K C CT)(T:Va):mroIn K C T=Vo ((Vk C::.ref CT::bmV).contains T):=by
 obtain⟨cd,h,m,_⟩:=c.cd;unfold mroIn;rw[h,Option.bind_some,m];rfl
theorem XCl.mroT(c:XCl K C CT){T:String}(h:bmV.contains (.type T)=true):mroIn K C (.type T)=Vo true:=by
 rw[c.mro,LC,LC,h];rfl
end
section
variable{prog:Vg}{w:Vb}{A:VG}{E:YQ_}{s:VH}{K:VD}{x C CT:Vh}{ox:Obj}{od:Option Obj}{name:Str}
theorem JNd{tk:Tok}{DO eI:Bool}{Q:YQ_}(X:K.In s.heap)(I:InstAt s.heap x ox C od)(c:XCl K C CT)
 (h:VV (VW prog w) A.in1 (Ib.«object.__getattribute__» ⟨[.ref x,.str name tk],[]⟩)
  (λfin s'=>match fin with | .done (.ret v)=>VV (VW prog w) A (handedOut v) Q E s' | _=>False) (λ_ _=>False) s) :
 VV (VW prog w) A (LD (.ref x) (.str name tk) DO eI) Q E s:=by
 have L0:=I.type (M:=VW prog w);have L1:=looks_findIn (M:=VW prog w) X c.ga;have SL:=F.attr_ValueError.ga;unfold LD;refine Ue (Ud (L0.here (Ud (L1.here ?_))))
 dsimp only;rw[show(onTheHeap (Vk C) && LF "BaseException.__getattribute__" == LF "object.__getattribute__")=false from by rw[show(LF "BaseException.__getattribute__" == LF "object.__getattribute__")=false from by decide +kernel,LG],if_neg #[1]]
 unfold getAttrByItsOwn;refine Ud ((looks_hook (mc:=.ref C) X (r:=Vp) (by show(if onTheHeap (.ref C)=true then UF K (.ref C) "__getattr__" else Vo Vp)=Vo Vp;rw[if_pos (show onTheHeap (Vk C)=true from rfl)];exact c.gt)).here (Ud (Lq (Ue ?_))))
 unfold callGetattribute;rw[show(eI && onTheHeap (LF "BaseException.__getattribute__"))=false from LG _,if_neg #[1]]
 unfold boundAndCalled;rw[SL.bind];refine Ud (Uo ?_)
 show VV _ _ (Uz (.builtin "BaseException.__getattribute__") [.ref x,.str name tk]) _ _ _;refine U2 ?_
 refine LH SL.plain F.entry_bexc_ga ?_
 refine @check_slot (VW prog w) _ _ s "BaseException.__getattribute__" "BaseException" "__getattribute__" (.ref x) [.str name tk] [] _ (by decide +kernel) (by decide +kernel) (I.type.andThen (looks_mroIn X (c.mroT #[1]))) (F.args_bexc_ga _ _) ?_
 refine V1 h (λfin s' z=>?_) λ_ _ z=>z.elim
 rcases fin with (_ | _ | _ | _) | _ <;> first | exact z | exact z.elim
theorem Jhc{R:UJ->VH->Prop}{tk:Tok}{v:Va}(X:K.In s.heap)(I:InstAt s.heap x ox C od)(c:XCl K C CT)(ht:UF K (.ref C) name=Vo Vp)
 (h:∀ b,VV (VW prog w) A.in1 (storeInOwnDict (.ref x) (.ref C) (.str name tk) name v b)
  (λfin s'=>match fin with | .done f=>R (.ok f) s' | .again c'=>c'.quiet=true/\UL (VW prog w) A c' R s') (λe s'=>R (.error e) s') s) :
 UL (VW prog w) A (.call (.builtin "object.__setattr__") ⟨[.ref x,.str name tk,v],[]⟩) R s:=by
 have SF:=F.store_object;obtain⟨cd,hc,ho,_⟩:=c.cd;have sub:Looks (VW prog w) s.heap (isInstance (.ref x) (.type "object")) true:=I.type.andThen (looks_mroIn X (c.mroT #[1]))
 refine LH SF.slot.plain SF.entry (@check_slot (VW prog w) _ _ s "object.__setattr__" "object" "__setattr__" (.ref x) [.str name tk,v] [] _ SF.kind SF.split sub (SF.args (.ref x) (.str name tk) v) ?_)
 have hm:Looks (VW prog w) s.heap (mroOf (.ref C)) cd.mro:=(looks_clsIn X hc).andThen .now;rw[osa_eq,refuse_eq];refine Ud (Ud (I.type.here (Ud (hm.here ?_))))
 rw[ho,DH,DH,F.store_ValueError.passes];refine Uo (Ud (I.type.here (Ud ((looks_findIn X ht).here (Ud (Uo (a:=Vp) ?_))))))
 exact h _
theorem Jic{v:Va}{Q:Unit->VH->Prop}(X:K.In s.heap)(c:XCl K C CT)(ht:UF K (.ref C) name=Vo Vp)(hx:s.heap.get? x=Vo ox)(gD:ox.cls=.ref C)(hn:notCls ox=true)(cT:ox.isFreed=false)
 (hd:ox.dict=Vp) (h:∀ h',h'.Ns1 s.heap.objs.size (λy=>if y=name then Vo v else Vp)->h'.get? x=Vo { ox with dict:=Vo s.heap.objs.size }->(∀ b o,b≠x->s.heap.get? b=Vo o->h'.get? b=Vo o)->Q () { s with heap:=h',toks:=s.toks+2 }) :
 VV (VW prog w) A (setAttr (.ref x) name v) Q E s:=by
 have J:InstAt s.heap x ox C Vp:=⟨hx,gD,hn,by rw[hd];trivial⟩
 refine set_plain X J c.sa (Jhc (s:={ s with toks:=s.toks+1 }) X J c ht λb=>?_)
 obtain⟨cd,hc,_,bo⟩:=c.cd;obtain⟨oc,odi,mv,bv⟩:=ox;dsimp only at gD hd;subst gD hd;refine Ud (Uo (Ud (Ud (wpAny_loadPart hx (Ud (Looks.here (s:={ s with toks:=s.toks+1 }) (looks_clsIn X hc) ?_))))))
 rw[bo];have qV:(s.heap.push { cls:=.type "dict",data:=.dict #[] }).get? x=Vo ⟨.ref C,Vp,mv,bv⟩:=Us _ hx
 have mr:x≠s.heap.objs.size:=VB (Vy hx);rw[if_neg #[1]]
 dsimp only;rw[if_neg (show ¬ ((!true || !typeHasDict (Vk C))=true) by simp[typeHasDict])]
 have vZ:((s.heap.push { cls:=.type "dict",data:=.dict #[] }).update x λo=>{ cls:=o.cls,dict:=Vo s.heap.objs.size,data:=o.data,slots:=o.slots }).get? s.heap.objs.size=Vo { cls:=.type "dict",data:=.dict #[] } :=
  (Heap.get?_update_ne _ _ _ _ mr.symm).trans (Heap.get?_push_at rfl rfl)
 have n5:((s.heap.push { cls:=.type "dict",data:=.dict #[] }).update x λo=>{ cls:=o.cls,dict:=Vo s.heap.objs.size,data:=o.data,slots:=o.slots }).Ns s.heap.objs.size (λ_=>Vp) :=
  ⟨_,#[],_,vZ,rfl,λe he=>absurd he #[2],λ_=>rfl⟩
 have v0:((s.heap.push { cls:=.type "dict",data:=.dict #[] }).update x λo=>{ cls:=o.cls,dict:=Vo s.heap.objs.size,data:=o.data,slots:=o.slots }).get? x=Vo ⟨.ref C,Vo s.heap.objs.size,mv,bv⟩:=by
  refine Oz _ qV ?_
  cases mv <;> first | rfl | exact cT
 have eK:VV (VW prog w) A.in1 (do let d <- alloc { cls:=.type "dict",data:=.dict #[] };update x λo=>{ cls:=o.cls,dict:=Vo d,data:=o.data,slots:=o.slots };dictMade (Vk C) x d)
  (λa s'=>VV (VW prog w) A.in1 (match a with | some d=>storeInDict d (Vf name s.toks) name v | none=>noDictFor (Vk x) (Vk C) name b)
   (λfin s'=>match fin with | .done f=>(match (Except.ok f:UJ) with | .ok (.ret _)=>Q () s' | .ok _=>False | .error e=>E e s') | .again c'=>c'.quiet=true/\UL (VW prog w) A c' (λr s'=>match r with | .ok (.ret _)=>Q () s' | .ok _=>False | .error e=>E e s') s') (λe s'=>E e s') s')
  (λe s'=>E e s') { s with toks:=s.toks+1 }:=by
  refine Ud (wpAny_alloc' ?_)
  refine Ud (wpAny_update' qV ?_)
  refine Uo ?_
  show VV _ _ (storeInDict s.heap.objs.size (.str name s.toks) name v) _ _ _;unfold storeInDict newKeyGuard;refine Ud (Uo (Ud (wpAny_nsSet1 (Heap.Ns1.of_empty n5) λh' lW hs=>?_)))
  obtain⟨oD,vD,vE,m5,m7,m8⟩:=lW.count (Within.cons name v Within.nil);refine Ud (wpAny_lookBehind m5 (by rw[m7];exact pastItsLine_dict (VJ m8 (by rw[UI,OP,UD];lia))) ?_)
  refine Uo (h h' lW ((hs.2 x mr).trans v0) λb ob v6 hb=>?_)
  exact(hs.2 b (VB (Vy hb))).trans ((Heap.get?_update_ne _ _ _ _ v6).trans (Us _ hb))
 cases mv with
 | cls c=>exact absurd hn (by simp[notCls])
 | _=>exact eK
end
end PySem.W
end
section
namespace L2
open PySem PySem.Spec PyProof.Rows
abbrev Yhd(C:Vh)(dx:Option Vh)(t:Vh):Obj:={ cls:=.ref C,dict:=dx,data:=.fields #[.ref t,.none,.none,.none,.bool false,.none] }
def xN(e C:Vh)(dx:Option Vh):HO:=.ext λh=>∃ t,h.get? e=Vo (Yhd C dx t)
def xD(d:Vh)(fs:List (Str×V)):HO:=.ext λh=>∃ mA,h.Ns1 d mA/\(∀ f,Yh (fs.lookup f) (mA f))/\Vx mA (fs.map (·.1))
section
variable{P:Vg}{w:Vb}{H:Hp}{h:Vq}{e C:Vh}{dx:Option Vh}{fs:List (Str×V)}
theorem Y5c{t:Vh}(q:h.get? e=Vo (Yhd C dx t)):QN P w H h e (xN e C dx):=⟨⟨t,q⟩,⟨_,q⟩,λh1 h2 ⟨t,q⟩ k=>⟨t,k _ q⟩⟩
theorem Yid{mA:Str->Option Va}(q:h.Ns1 e mA)(a:∀ f,Yh (fs.lookup f) (mA f))(b:Vx mA (fs.map (·.1))):QN P w H h e (xD e fs) :=
 ⟨⟨mA,q,a,b⟩,let ⟨o,_,_,z,_⟩:=q;⟨o,z⟩,λh1 h2 ⟨mA,q,r⟩ k=>⟨mA,q.at k,r⟩⟩
end
section
variable{X:Cx}{aa:YP_}{σ:St}{H:Hp}{s:VH}{a C CT:Vh}{fs:List (Str×V)}
end
section
variable{X:Cx}{aa:YP_}{σ:St}{H H':Hp}{s:VH}{d e:Vh}{o:HO}
theorem Inv.track(I:Inv X aa σ H s)(hn:H d=Vp)(y:X.s₀.heap.get? d=Vp)(nl:d≠X.env.locals)(nc:∀ x c,X.env.cells.lookup x=Vo c->c≠d)(np:∀ p∈X.pn++aa,p.1≠d)(ok:QN X.prog X.w (upd H d o) s.heap d o) :
 Inv X aa σ (upd H d o) s :=
 ⟨I.ok,I.os,I.bare,⟨I.base.keep,I.base.slot,λb u q n hx=>by rw[Qh (λz=>by rw[z,y]at q;cases q)];exact I.base.free b u q n hx,I.base.there,λb xs q=>by have z:=I.base.tups b xs q;rw[Qh (QC z hn)];exact z,
  λb u xs q=>by have z:=I.base.frzs b u xs q;rw[Qh (QC z hn)];exact z,λb ps q=>by obtain⟨m,z⟩:=I.base.tbls b ps q;exact⟨m,by rw[Qh (QC z hn)];exact z⟩⟩,
  I.loc,I.cell,by rw[Qh (VR nl)];exact I.free,λx c q=>by rw[Qh (nc x c q)];exact I.freeC x c q,λp hp=>by obtain⟨a,b,r⟩:=I.pin p hp;exact⟨a,by rw[Qh (np p hp)];exact b,r⟩,
  λb u q=>by
   by_cases hb:b=d
   ·subst hb;rw[Qa]at q;cases q;exact ok
   ·rw[Qh hb]at q
    exact(I.hok b u q).stay (λc v _ r=>r) (λc r=>by rw[Qh (QC r hn)];exact r) λc xs r=>by rw[Qh (QC r hn)];exact r,
  I.len⟩
theorem Inv.nowhere(I:Inv X aa σ H s)(aZ:X.ex=[])(h:s.heap.get? d=Vp):H d=Vp/\X.s₀.heap.get? d=Vp/\d≠X.env.locals/\(∀ x c,X.env.cells.lookup x=Vo c->c≠d)/\∀ p∈X.pn++aa,p.1≠d:=by
 refine⟨I.hok.none_of h,I.young aZ h,λz=>?_,λx c q z=>?_,λp hp z=>?_⟩
 ·obtain⟨m,⟨o,es,ep,ho,_⟩,_⟩:=I.loc
  rw[z,ho]at h;cases h
 ·obtain⟨v,o,ho,_⟩:=I.cell x c q
  rw[z,h]at ho;cases ho
 ·have:=(I.pin p hp).1
  rw[z,h]at this;cases this
theorem Inv.off{φ:Vq->Prop}(I:Inv X aa σ H s)(he:H e=Vo (.ext φ))(y:X.s₀.heap.get? e=Vp)(h3:∀ b,b≠e->H' b=H b)(hn:H' e=Vp):Inv X aa σ H' s:=by
 have ne:∀ b,H b=Vp->b≠e:=λb q z=>by rw[z,he]at q;cases q
 have nt:∀ b u,H b=Vo u->(∀ ψ,u≠.ext ψ)->b≠e:=λb u q n z=>by rw[z,he]at q;cases q;exact n _ rfl
 have tt:∀ b xs,H b=Vo (.tup xs)->H' b=Vo (.tup xs):=λb xs q=>(h3 b (nt b _ q (λ_ z=>by cases z))).trans q
 refine⟨I.ok,I.os,I.bare,⟨I.base.keep,I.base.slot,λb u q n hx=>?_,I.base.there,λb xs q=>tt b xs (I.base.tups b xs q),λb u xs q=>?_,λb ps q=>?_⟩,I.loc,I.cell,(h3 _ (ne _ I.free)).trans I.free,λx c q=>(h3 _ (ne _ (I.freeC x c q))).trans (I.freeC x c q),λp hp=>?_,λb u q=>?_,I.len⟩
 ·have z:=I.base.free b u q n hx
  exact(h3 b (ne b z)).trans z
 ·have z:=I.base.frzs b u xs q
  exact(h3 b (nt b _ z (λ_ z=>by cases z))).trans z
 ·obtain⟨m,z⟩:=I.base.tbls b ps q
  exact⟨m,(h3 b (nt b _ z (λ_ z=>by cases z))).trans z⟩
 ·obtain⟨a,b,r⟩:=I.pin p hp
  exact⟨a,(h3 _ (ne _ b)).trans b,r⟩
 ·have hb:b≠e:=λz=>by rw[z,hn]at q;cases q
  rw[h3 b hb]at q;exact(I.hok b u q).stay (λc v _ r=>r) (λc r=>(h3 c (nt c _ r (λ_ z=>by cases z))).trans r) tt
end
section
variable{X:Cx}{aa:YP_}{σ:St}{H:Hp}{s:VH}{a C CT:Vh}{f:Str}
theorem Yjd{A:VG}{E:YQ_}{y:V}{u:Va}{Q:Unit->VH->Prop}(I:Inv X aa σ H s)(aZ:X.ex=[])(e:H a=Vo (xN a C Vp))(c:W.XCl X.K C CT)(n:Jv X.K C f)(ry:QB y u)
 (h:∀ d s',H d=Vp->d≠a->Inv X aa σ (upd (upd H a (xN a C (Vo d))) d (xD d [(f,y)])) s'->Q () s'):VV (VW X.prog X.w) A (setAttr (.ref a) f u) Q E s:=by
 obtain⟨⟨t,q⟩,_,_⟩:=(show QN X.prog X.w H s.heap a (xN a C Vp) from I.hok a _ e)
 refine W.Jic I.kIn c n q rfl rfl rfl rfl λh' lX hx hk=>?_
 obtain⟨w1,w2,w3,w4,w5⟩:=I.nowhere aZ (VP (Uu s.heap.objs.size))
 have au:s.heap.objs.size≠a:=λz=>by rw[z,e]at w1;cases w1
 refine h s.heap.objs.size _ w1 au ?_
 have I1:Inv X aa σ (upd H a (xN a C (Vo s.heap.objs.size))) { s with heap:=h',toks:=s.toks+2 } :=
  I.write (x:=a) (e:=a) (by rw[e];exact UR) (.inl rfl) (λb u hb z=>hk b u hb z) ⟨_,hx⟩ (Y5c (t:=t) hx)
 refine I1.track (by rw[Qh au];exact w1) w2 w3 w4 w5 (Yid lX (λg=>?_) λg hg=>?_)
 ·by_cases hg:g=f
  ·have hb:(g == f)=true:=beq_iff_eq.mpr hg
   simp only[UN,hb,if_pos hg];exact ry
  ·have hb:(g == f)=false:=beq_eq_false_iff_ne.mpr hg
   simp only[UN,hb,if_neg hg];trivial
 ·by_cases z:g=f
  ·rw[z];simp
  ·rw[if_neg z]at hg;exact absurd hg #[2]
def Y6c(K:VD)(CT:Vh)(ta tv:TE)(f:Str):TS:=λD σ H=>tv σ H λy H1=>ta σ H1 λx H2=>∃ a C,x=.ref a/\H2 a=Vo (xN a C Vp)/\W.XCl K C CT/\Jv K C f /\
 ∀ d,H2 d=Vp->d≠a->D.nx σ (upd (upd H2 a (xN a C (Vo d))) d (xD d [(f,y)]))
def QId(K:VD)(CT:Vh)(ta tv:TE)(f:Str):TS:=λD σ H=>tv σ H λy H1=>ta σ H1 λx H2=>∃ a C d fs,x=.ref a/\H2 a=Vo (xN a C (Vo d))/\H2 d=Vo (xD d fs)/\W.XCl K C CT/\Jv K C f/\fs.length < 1000 /\
 D.nx σ (upd H2 d (xD d (ZW f y fs)))
variable{o value:Expr}{pos aH:Pos}{ta tv:TE}
theorem ZXb(CT:Vh)(aZ:X.ex=[])(ha:PE X o ta)(hv:PE X value tv)(hs:Ua value (Vo (.Attribute o f aH)) pos.line X.env=pure false):PS X (.Assign [.Attribute o f aH] value pos) (Y6c X.K CT ta tv f):=by
 intro aa s σ H D I h;refine plainObj_wpAny_Assign_Attribute (thn (hv aa s σ H _ I h) λu s1 ⟨y,H1,I1,ry,q⟩=>thn (ha aa s1 σ H1 _ I1 q) λov s2 hZ=>?_) hs
 obtain⟨x,H2,I2,rx,a,C,ex,ea,c,n,q2⟩:=hZ;subst ex;obtain rfl:ov=Vk a:=rx;exact Yjd I2 aZ ea c n ry λd s3 w1 w2 I3=>⟨σ,_,I3,q2 d w1 w2⟩
structure Ykd(K:VD)(mg:Str->Option Va)(x:Str)(CT:Vh):Prop where
 mg_:mg x=Vo (.ref CT)
 cl:Y3c K CT W.bmV W.bmV "ValueError.__new__"
 sp:UV K (.ref CT) "__getattribute__"=Vo (Vo (.builtin "type.__getattribute__"))
 rd:W.readsIn K CT (.type "type")=true
 ini:W.findCls K (.ref CT) (.type "type") "__init__"=Vo (.val (.builtin "ValueError.__init__"))
def tBI(K:VD)(CT:Vh)(t:TA):TE:=λσ H Q=>t σ H λvs H1=>∃ a C ws,vs=.ref a::ws/\ws.length<=1000/\H1 a=Vo (xN a C Vp)/\W.XCl K C CT/\Q .non H1
end
end L2
end
section
namespace PySem
section
variable{prog:Vg}{w:Vb}{A:VG}{E:YQ_}{s:VH}{K:VD}{C CT e t:Vh}{dx:Option Vh}
theorem XZb{rest:List Va}{Q:YQ_}(X:K.In s.heap)(c:W.XCl K C CT)(he:s.heap.get? e=Vo { cls:=.ref C,dict:=dx,data:=.fields #[.ref t,.none,.none,.none,.bool false,.none] })(hl:rest.length<=Vs)
 (h:∀ h' t',h'.get? e=Vo { cls:=.ref C,dict:=dx,data:=.fields #[.ref t',.none,.none,.none,.bool false,.none] }->(∀ b o,b≠e->s.heap.get? b=Vo o->h'.get? b=Vo o)->Q .none { s with heap:=h' }) :
 VV (VW prog w) A (Uz (.builtin "ValueError.__init__") (.ref e::rest)) Q E s:=by
 obtain⟨nm,q,N,bs,sn,sub,ab,col,dd,k0,k1,k2,k3,k5,lk,ok⟩:=c.cl;have FB:=F.excBase_ValueError;have TL:OwnTail s.heap W.bmV (.ref CT::W.bmV):=W.tail_of_in X c.tail;have hC:=X _ _ lk;obtain⟨hh,g,d,tk,os⟩:=s;refine U2 (LH FB.init.plain FB.initEntry (wpAny_check_init_subT FB TL hC he rfl ?_))
 wp_walk
 refine h _ hh.objs.size ?_ λb o hb z=>?_
 ·rw[Oz _ (Us _ he) rfl]
  rfl
 ·rw[OA _ _ (VR hb)]
  exact Us _ z
end
section
variable{prog:Vg}{w:Vb}{A:VG}{E:YQ_}{h:Vq}{g:Array VQ}{d:Drawn}{t:Nat}{os:OsState}{K:VD}{C CT:Vh}
theorem Jed(X:K.In h)(c:W.XCl K C CT){rest:List Va}{fI:Vh}{Q:Fin->VH->Prop}(hf:UF K (.ref C) "__init__"=Vo (Vo (.ref fI)))(eG:UG K (.ref fI)=true)
 (fin:∀ h' e,Heap.MadeExcOf h h' e (.ref C) rest->VV (VW prog w) A (Uz (.ref fI) (.ref e::rest)) (λr s'=>r=.none/\Q (.done (.ret (.ref e))) s') E ⟨h',g,d,t,os⟩) (dj:rest.length<=Vs) :
 VV (VW prog w) A (Ib.«type.__call__» ⟨.ref C::rest,[]⟩) Q E ⟨h,g,d,t,os⟩:=by
 obtain⟨nm,q,N,bs,sn,sub,ab,col,dd,k0,k1,k2,k3,k5,lk,ok⟩:=c.cl;have FB:=F.excBase_ValueError;have TL:OwnTail h W.bmV (.ref CT::W.bmV):=W.tail_of_in X c.tail;have cl:=X _ _ lk
 repeat (first | (with_reducible refine LI cl ?_) | (with_reducible refine wpAny_madeBy_exc cl ?_) | wp_step)
 refine codeAny_call_builtin_code (Code.quiet_builtin _ FB.quiet) (wpAny_check_new_subT FB TL cl ?_)
 refine codeAny_exc_new_subT FB TL cl ?_ dj
 show VV _ _ _ _ _ _;have kp:∀ b o,h.get? b=Vo o->((h.push (XMa rest)).push (Yia h C)).get? b=Vo o:=λb o e=>Us _ (Us _ e)
 have X1:K.In ((h.push (XMa rest)).push (Yia h C)):=X.keeps kp;have v7:((h.push (XMa rest)).push (Yia h C)).get? C=_:=kp _ _ cl;have jG:((h.push (XMa rest)).push (Yia h C)).get? (h.objs.size+1)=Vo (Yia h C):=by heap_get
 have self:(Vk C::.ref CT::W.bmV).contains (.ref C)=true:=by rw[LC];simp
 unfold isInstance
 repeat (first | (with_reducible refine LI jG ?_) | (with_reducible refine wpAny_isSubtype_exc v7 ?_;rw[self]) | wp_step)
 show VV _ _ (Ot (.ref C) _) _ _ _;refine(W.looks_findIn (M:=VW prog w) X1 hf).at ?_
 refine Ue (Ud ((W.bind_fn (M:=VW prog w) X1 _ (beq_iff_eq.mp eG)).at ?_))
 have mk:Heap.MadeExcOf h ((h.push (XMa rest)).push (Yia h C)) (h.objs.size+1) (.ref C) rest :=
  ⟨kp,VP (U6 _),h.objs.size,jG,VP (Uu _),Us _ (Heap.get?_push_at rfl rfl)⟩
 refine Ud (V1 (fin _ (h.objs.size+1) mk) (λr s' hr=>?_) λ_ _ z=>z)
 obtain⟨rfl,hQ⟩:=hr
 wp_walk
 exact hQ
theorem Jfd(X:K.In h)(c:W.XCl K C CT){rest:List Va}{fI:Vh}{Q:YQ_}(hf:UF K (.ref C) "__init__"=Vo (Vo (.ref fI)))(eG:UG K (.ref fI)=true)
 (fin:∀ h' e,Heap.MadeExcOf h h' e (.ref C) rest->VV (VW prog w) (A.under (.builtin "type.__call__" ⟨.ref C::rest,[]⟩)) (Uz (.ref fI) (.ref e::rest)) (λr s'=>r=.none/\Q (.ref e) s') E ⟨h',g,d,t,os⟩) (dj:rest.length<=Vs) :
 VV (VW prog w) A (Uz (.ref C) rest) Q E ⟨h,g,d,t,os⟩:=by
 obtain⟨nm,q,N,bs,sn,sub,ab,col,dd,k0,k1,k2,k3,k5,lk,ok⟩:=c.cl;have cl:=X _ _ lk;have l1:=tc_lookup;have l2:=tc_bind (.ref C);have ty:(⟨h,g,d,t,os⟩:VH).TypeIs (.ref C) "type":=⟨_,cl,rfl⟩;refine U2 (codeAny_of_tree ?_)
 show VV _ _ (callAny (.ref C) _) _ _ _
 repeat (any_goals (first | assumption | (with_reducible refine LI cl ?_) | wp_step))
 refine⟨rfl,?_⟩
 refine codeAny_call_builtin_at (Code.quiet_builtin _ (by decide +kernel)) entry_typeCall (wpAny_check_type_call_sub cl (Jed X c hf eG (λh' e hm=>?_) dj))
 exact fin h' e hm
end
section
variable{M:VT}{A:VG}{E:YQ_}{env:Env}
variable{nm q:Str}{C N:Vh}{bs bm:List Va}{hdct:Bool}{sn:List Str}{sub:List Va}{ab:Bool}{col:Option Bool}{dd:Option Vh}{k0 k1 k2 k3 k5:Option Va}{newId:String}
theorem Jjc{s:VH}{x:Sem Va}{Q:Flow->VH->Prop}(bQ:bm.contains (.type "BaseException")=true)(hh:A.handled=Vp)
 (h:VV M A x (λv s₁=>∃ e t dx,v=.ref e/\s₁.heap.get? C=Vo (Ly nm q C N bs bm hdct sn sub ab col dd k0 k1 k2 k3 k5 newId)/\s₁.heap.get? e=Vo { cls:=.ref C,dict:=dx,data:=.fields #[.ref t,.none,.none,.none,.bool false,.none] }/\E (.ref e) s₁) E s) :
 VV M A (raiseStmt env (Vo x) Vp) Q E s:=by
 have v9:(Vk C::bm).contains (.type "BaseException")=true:=by rw[LC,bQ,Bool.or_true]
 unfold raiseStmt;refine Ud (V1 h (λv s₁ h₁=>?_) λ_ _ x=>x)
 obtain⟨e,t,dx,rfl,hC,he,hE⟩:=h₁;obtain⟨hp,g,d,tk,os⟩:=s₁
 repeat (first | with_reducible refine LI he ?_ | with_reducible refine LI hC ?_ | (with_reducible refine wpAny_isSubtype_exc hC ?_;rw[v9]) | wp_step)
 exact wpAny_raiseNew_none hh hE
variable{nm' q':Str}{CT N':Vh}{bs' bm':List Va}{hdct':Bool}{sn':List Str}{sub':List Va}{ab':Bool}{col':Option Bool}{dS:Option Vh}{j0 j1 j2 j3 j5:Option Va}{newId':String}
end
end PySem
namespace PySem.W
open PySem
def YH(K:VD)(C:Vh)(fl:List Str):Bool:=UF K (.ref C) "__getattribute__" == Vo (Vo (.builtin "BaseException.__getattribute__")) && (UF K (.ref C) "__getattr__" == Vo Vp && (UF K (.ref C) "__setattr__" == Vo (Vo (.builtin "object.__setattr__")) && (UF K (.ref C) "__class__" == Vo (Vo (.builtin "object.__class__")) && fl.all λf=>UF K (.ref C) f == Vo Vp)))
section
variable{K:VD}{C CT:Vh}{fl:List Str}
theorem Zob(h:YH K C fl=true):UF K (.ref C) "__getattribute__"=Vo (Vo (.builtin "BaseException.__getattribute__"))/\UF K (.ref C) "__getattr__"=Vo Vp/\UF K (.ref C) "__setattr__"=Vo (Vo (.builtin "object.__setattr__")) /\
 UF K (.ref C) "__class__"=Vo (Vo (.builtin "object.__class__"))/\∀ f∈fl,UF K (.ref C) f=Vo Vp:=by
 unfold YH at h;simp only[OC,beq_iff_eq,Ig]at h;exact h
theorem Jz(h:YH K C fl=true){f:Str}(hf:f∈fl):L2.Jv K C f:=(Zob h).2.2.2.2 f hf
theorem XCl.of(cl:∃ nm q N bs sn sub ab col dd k0 k1 k2 k3 k5,K.lookup C=Vo (Ly nm q C N bs (.ref CT::bmV) true sn sub ab col dd k0 k1 k2 k3 k5 "ValueError.__new__")/\nsOkIn K N=true)(tail:tailIn K bmV (.ref CT::bmV)=true)
 (h:YH K C fl=true) (cg:specialIn K (.builtin "object.__class__") "__get__"=Vo (Vo (.builtin "getset_descriptor.__get__"))) (ct:takesIn K (.builtin "object.__class__")=Vo true):XCl K C CT :=
 let ⟨a,b,c,d,_⟩:=Zob h;⟨cl,tail,a,b,c,d,cg,ct⟩
def Y7c(K:VD)(l:List Vh):Bool:=(VC l.length).all λi=>(VC l.length).all λj=>kitOne K (.ref (l.getD i 0)) (.ref (l.getD j 0)) == Vo (decide (i=j))
def Jgd(K:VD)(l:List Vh):Bool:=(VC l.length).all λi=>kitOne K (.ref (l.getD i 0)) (.type "ValueError") == Vo true
theorem QJd{l:List Vh}(h:Y7c K l=true):∀ i j,i < l.length->j < l.length->kitOne K (.ref (l.getD i 0)) (.ref (l.getD j 0))=Vo (decide (i=j)):=by
 unfold Y7c at h;simp only[Ig,DE,beq_iff_eq]at h;exact λi j hi hj=>h i hi j hj
theorem Jhd{l:List Vh}(h:Jgd K l=true):∀ i,i < l.length->kitOne K (.ref (l.getD i 0)) (.type "ValueError")=Vo true:=by
 unfold Jgd at h;simp only[Ig,DE,beq_iff_eq]at h;exact h
end
end PySem.W
namespace L2
open PySem PySem.Spec PyProof.Rows
section
variable{X:Cx}{x:Str}{CT:Vh}{e:Expr}{es:List Expr}{t:TA}{p pos ak aq np:Pos}{pl:Sem Bool}
theorem JRa(T:Ykd X.K X.mg x CT)(hg:Gl X x)(ha:PA X (e::es) t)(aF:(x == ("__debug__":Str))=false:=by decide)
 (he:VZ (e::es) X.env=(false,VX e X.env)::VZ es X.env:=by rfl) (aI:(VY pos (VZ es X.env)).any (·.1)=false:=by rfl)
 (ht:VX (.Call (.Attribute (.Name x p) "__init__" ak) (e::es) [] pos) X.env=(do
  let ov <- VX (.Name x p) X.env
  V5 ak.atName
  let (f,first) <- V6 [ov] (UH ov "__init__" pl)
  LJ pos f first (VY pos (VZ (e::es) X.env)) (U8 pos (U9 [] X.env))):=by rfl) :
 PE X (.Call (.Attribute (.Name x p) "__init__" ak) (e::es) [] pos) (tBI X.K CT t):=by
 intro aa s σ H Q I h;refine LK (pl:=pl) (JI I hg T.mg_ ?_ aF) ht
 refine W.method_cls I.kIn T.sp (W.cls_value I.kIn T.rd T.ini (by decide +kernel) ?_)
 refine PyProof.Rows.callWith_builtin1 (thn (ha pos aa _ σ H _ (I.tok _) h) λus s1 hZ=>?_) he aI
 obtain⟨vs,H1,I1,r,a,C,ws,ev,hl,ea,c,q⟩:=hZ;subst ev;cases r with
 | cons r0 r1 =>
  cases (show _=Vk a from r0)
  obtain⟨⟨t,g⟩,_,_⟩:=(show QN X.prog X.w H1 s1.heap a (xN a C Vp) from I1.hok a _ ea)
  refine XZb I1.kIn c g (by rw[<- r1.length,UD];lia) λh' t' g' k=>⟨.non,H1,?_,rfl,q⟩
  have I2:=I1.write (h':=h') (t':=s1.toks) (x:=a) (e:=a) (o:=xN a C Vp) (by rw[ea];exact UR) (.inl rfl) (λb u hb z=>k b u hb z) ⟨_,g'⟩ (Y5c (t:=t') g')
  have eH:upd H1 a (xN a C Vp)=H1:=by
   funext b
   by_cases hb:b=a
   ·rw[hb,Qa];exact ea.symm
   ·rw[Qh hb]
  rw[eH]at I2;exact I2
def Jkc(C:Vh)(fl:List Str):Sp:=λvs H Q _=>∃ e ws,vs=.ref e::ws/\ws.length=fl.length/\H e=Vo (xN e C Vp)/\∀ d,H d=Vp->d≠e->Q .non (upd (upd H e (xN e C (Vo d))) d (xD d (fl.zip ws)))
def MkX(P:Vg)(w:Vb)(K:VD)(mg:Str->Option Va)(base:Vq)(k:Nat)(x:Str)(C CT:Vh)(fl:List Str):Prop :=
 ∃ f fd ps,Qy P w K mg base CX0 k f fd ps (Jkc C fl)/\ZA K fd ps []/\W.XCl K C CT/\UF K (.ref C) "__init__"=Vo (Vo (.ref f))/\UG K (.ref f)=true/\UP K (.ref C)=true/\mg x=Vo (.ref C)
def QKd(E:XK)(C:Vh)(fl:List Str)(t:TA):TS:=λ_ σ H=>t σ H λvs H1=>vs.length=fl.length/\vs.length<=1000/\∀ d,H1 d=Vp->E (.ref C) (Vo d) (upd H1 d (xD d (fl.zip vs)))
variable{E:XK}{C:Vh}{fl:List Str}{j k:Nat}
theorem XE(T:Yga X E)(aZ:X.ex=[])(di:X.calm=true)(hg:Gl X x)(G:MkX X.prog X.w X.K X.mg X.base j x C CT fl)(hr:Q5 k X.A)(hj:j+1<=k)(ha:PA X (e::es) t)(aF:(x == ("__debug__":Str))=false:=by decide)
 (he:VZ (e::es) X.env=(false,VX e X.env)::VZ es X.env:=by rfl) (aI:(VY aq (VZ es X.env)).any (·.1)=false:=by rfl) :
 PS X (.Raise (Vo (.Call (.Name x np) (e::es) [] aq)) Vp pos) (QKd E C fl t):=by
 intro aa s σ H D I h;obtain⟨f,fd,ps,F,hb,c,hf,eG,kp,hm⟩:=G;obtain⟨nm,q,N,bs,sn,sub,ab,col,dd,k0,k1,k2,k3,k5,lk,ok⟩:=id c.cl;rw[arm_exec_Raise];refine Ud (Uf (Jjc (C:=C) (nm:=nm) (q:=q) (N:=N) (bs:=bs) (bm:=.ref CT::W.bmV) (hdct:=true) (sn:=sn) (sub:=sub) (ab:=ab) (col:=col) (dd:=dd) (k0:=k0) (k1:=k1) (k2:=k2) (k3:=k3) (k5:=k5) (newId:="ValueError.__new__") (by rw[LC,PySem.F.excBase_ValueError.hasBase,Bool.or_true]) (I.ok.hd di) ?_))
 refine Ud (V1 (wpAny_Call_ofName (JI I hg hm ?_ aF)) (λv s₃ h₃=>Ud (Uf (Uo h₃))) λ_ _ z=>z)
 refine U5 (h₀:=X.base) I.ok.mod.kin kp (thn (ha aq aa s σ H _ I h) λus s1 ⟨vs,H1,I1,r,hl,hz,q⟩=>⟨I1.kIn,?_⟩) he aI
 obtain⟨hh,g,dr,tk,os⟩:=s1;refine Jfd I1.kIn c hf eG (λh' ea mk=>?_) (by rw[UD,LL,<- r.length];lia)
 rw[LL]at mk ⊢;have wa:=mk.there;obtain⟨tt,nr,_⟩:=wa;obtain⟨w1,w2,w3,w4,w5⟩:=I1.nowhere aZ mk.new;have wb:Inv X aa σ H1 ⟨h',g,dr,tk,os⟩:=I1.kept (t':=tk) mk.keeps;have I2:Inv X aa σ (upd H1 ea (xN ea C Vp)) ⟨h',g,dr,tk,os⟩:=wb.track w1 w2 w3 w4 w5 (Y5c (t:=tt) nr);have b9:Jkc C fl (.ref ea::vs) (upd H1 ea (xN ea C Vp)) (λv H2=>v=.non/\∃ d,H1 d=Vp/\d≠ea/\H2=upd (upd (upd H1 ea (xN ea C Vp)) ea (xN ea C (Vo d))) d (xD d (fl.zip vs))) E0 :=
  ⟨ea,vs,rfl,hl,Qa,λd hd au=>⟨rfl,d,by rw[Qh au]at hd;exact hd,au,rfl⟩⟩
 have r2:Qz (V.ref ea::vs) (Vk ea::us):=.cons rfl r;have av:(Vk ea::us++[]).length=ps.length:=by rw[U1,<- r2.length];exact F.len _ _ _ _ b9
 have b:=hb ⟨h',g,dr,tk,os⟩ (Vk ea::us) I2.kIn av;rw[U1]at b;refine U2 (U3 (F.run _ X.stack _ _ ⟨Vk ea::us,[]⟩ (Vk ea::us) _ _ E0 ((hr.mono hj).make C us []) (I2.env0.make C us []) b r2 b9) λres s' hq=>?_)
 cases res with
 | error ev=>exact V8 hq
 | ok fo =>
  cases fo with
  | next=>exact V8 hq
  | brk=>exact V8 hq
  | cont=>exact V8 hq
  | ret u =>
   obtain⟨v,H3,I3,rv,ev,d,hd,au,eH⟩:=I2.after hq;subst ev;subst eH;have e3:upd (upd (upd H1 ea (xN ea C Vp)) ea (xN ea C (Vo d))) d (xD d (fl.zip vs)) ea=Vo (xN ea C (Vo d)):=by rw[Qh (VR au),Qa]
   obtain⟨⟨t3,g3⟩,_,_⟩:=(show QN X.prog X.w _ s'.heap ea (xN ea C (Vo d)) from I3.hok ea _ e3)
   have e4:upd H1 d (xD d (fl.zip vs)) ea=Vp:=by rw[Qh (VR au)];exact w1
   have I4:Inv X aa σ (upd H1 d (xD d (fl.zip vs))) s':=I3.off e3 w2 (λy hy=>by
    by_cases hyd:y=d
    ·rw[hyd,Qa,Qa]
    ·rw[Qh hyd,Qh hyd,Qh hy,Qh hy]) e4
   refine⟨rv,ea,t3,Vo d,rfl,I3.kIn _ _ lk,g3,?_⟩
   exact T aa σ _ s' ea (.ref C) (Vo d) [] Vp I4 ⟨_,_,g3,rfl,rfl,rfl,⟨⟨.none,rfl,rfl⟩,by simp,λp hp=>by cases hp⟩,rfl⟩ (.inl rfl) w2 e4 (q d hd)
end
section
variable{X:Cx}{st b₀:V0}{fJ:List V0}{t1:TS1}{ts:TS}{x n:Str}{CT:Vh}{np jF pos:Pos}{i:Nat}
end
inductive Dt where
 | v (x:V)
 | t (xs:List Dt)
 | l (xs:List Dt)
instance:Inhabited Dt:=⟨.v .non⟩
mutual
def eqD:Dt->Dt->Bool
 | .v x,.v y=>eqV x y
 | .t xs,.t ys=>Z8a xs ys
 | .l xs,.l ys=>Z8a xs ys
 | _,_=>false
def Z8a:List Dt->List Dt->Bool
 | [],[]=>true
 | x::xs,y::ys=>eqD x y && Z8a xs ys
 | _,_=>false
end
inductive Rep(K:VD)(H:Hp):Nat->Dt->V->Prop where
 | v {n:Nat} {x:V} (f:Yd x=true):Rep K H n (.v x) x
 | t {n:Nat} {a:Vh} {ds:List Dt} {xs:List V} (h:SqT K H a xs) (e:ds.length=xs.length) (r:∀ (i:Nat) d x,ds[i]?=Vo d->xs[i]?=Vo x->Rep K H n d x):Rep K H (n+1) (.t ds) (.ref a)
 | l {n:Nat} {a:Vh} {ds:List Dt} {xs:List V} (h:SqL K H a xs) (e:ds.length=xs.length) (r:∀ (i:Nat) d x,ds[i]?=Vo d->xs[i]?=Vo x->Rep K H n d x):Rep K H (n+1) (.l ds) (.ref a)
theorem XNa(n:Nat)(p:Nat->Bool):(VC (n+1)).all p=(p 0 && (VC n).all λi=>p (i+1)):=by
 rw[range_succ_eq_map,DJ,all_map];rfl
theorem JSa:∀ xs ys:List Dt,Z8a xs ys=((VC (min xs.length ys.length)).all (λi=>eqD (xs.getD i default) (ys.getD i default)) && (xs.length == ys.length))
 | [],[]=>by simp[Z8a]
 | [],y::ys=>by simp[Z8a]
 | x::xs,[]=>by simp[Z8a]
 | x::xs,y::ys=>by
  rw[Z8a,JSa xs ys,UI,UI,Nat.succ_min_succ,XNa];simp only[getD_cons_zero,getD_cons_succ,Bool.and_assoc];have:(xs.length+1 == ys.length+1)=(xs.length == ys.length):=by rw[UC,beq_iff_eq,beq_iff_eq];lia
  rw[this]
theorem JTa{xs ys:List Dt}(h:xs.length=ys.length):Z8a xs ys=(VC xs.length).all (λi=>eqD (xs.getD i default) (ys.getD i default)):=by
 rw[JSa,<- h,Nat.min_self,beq_self_eq_true,Bool.and_true]
theorem Zmc{xs ys:List Dt}(h:xs.length≠ys.length):Z8a xs ys=false:=by
 rw[JSa,beq_eq_false_iff_ne.mpr h,LG]
section
variable{K:VD}{H H':Hp}{n m:Nat}{d d':Dt}{x:V}
theorem Rep.self(r:Rep K H n d x):eqD d d=true:=by
 induction r with
 | v f=>unfold eqD;exact Yuc f
 | t h e _ ih =>
  unfold eqD;rw[JTa rfl,Ig];intro i hi;rename_i ds xs _;have hi:=mem_range.mp hi;have h1:ds[i]?=Vo ds[i]:=IE hi
  have h2:xs[i]?=Vo (xs[i]'#[0]):=IE #[0]
  have:=ih i _ _ h1 h2
  rwa [show ds.getD i default=ds[i] by simp[List.getD,h1]]
 | l h e _ ih =>
  unfold eqD;rw[JTa rfl,Ig];intro i hi;rename_i ds xs _;have hi:=mem_range.mp hi;have h1:ds[i]?=Vo ds[i]:=IE hi
  have h2:xs[i]?=Vo (xs[i]'#[0]):=IE #[0]
  have:=ih i _ _ h1 h2
  rwa [show ds.getD i default=ds[i] by simp[List.getD,h1]]
end
section
variable{X:Cx}{aa:YP_}{σ:St}{H:Hp}{s:VH}
theorem Inv.tup_not_list{a:Vh}{xs ys:List V}(I:Inv X aa σ H s)(h:SqT X.K H a xs)(h':SqL X.K H a ys):False:=by
 obtain⟨ag,r,⟨o,e,c,_⟩,_⟩:=I.tuple h;obtain⟨its',r',⟨o',n',e',c',_⟩,_⟩:=I.list h';rw[e]at e';cases e';rw[c]at c';exact absurd (LM c') #[1]
theorem Rep.det(I:Inv X aa σ H s):∀ {n m:Nat} {d d':Dt} {x y:V},Rep X.K H n d x->Rep X.K H m d' y->x=y->d=d':=by
 intro n m d d' x y r
 induction r generalizing m d' y with
 | v f =>
  intro r' e;subst e;cases r' with
  | v _=>rfl
  | t _ _ _=>exact absurd f (by simp[Yd])
  | l _ _ _=>exact absurd f (by simp[Yd])
 | t h e _ ih =>
  intro r' ee;cases r' with
  | v f=>subst ee;exact absurd f (by simp[Yd])
  | t h' e' r2 =>
   cases ee;have:=I.tuple_inj h h';subst this
   congr 1
   refine IG #[0] λi h1 h2=>?_
   exact ih i _ _ (IE h1) (IE (show i < _ by lia)) (r2 i _ _ (IE h2) (IE #[0])) rfl
  | l h' _ _=>cases ee;exact(I.tup_not_list h h').elim
 | l h e _ ih =>
  intro r' ee;cases r' with
  | v f=>subst ee;exact absurd f (by simp[Yd])
  | l h' e' r2 =>
   cases ee;have:=I.list_inj h h';subst this
   congr 1
   refine IG #[0] λi h1 h2=>?_
   exact ih i _ _ (IE h1) (IE (show i < _ by lia)) (r2 i _ _ (IE h2) (IE #[0])) rfl
  | t h' _ _=>cases ee;exact(I.tup_not_list h' h).elim
theorem Y9{α:Type}{xs:List α}{i:Nat}{x d:α}(h:xs[i]?=Vo x):xs.getD i d=x:=by simp[List.getD,h]
theorem Yrb{A:VG}{n:Nat}(h:A.units+(n+1) < UY):A.in1.units+n < UY:=by show A.units+1+n < UY;lia
theorem Rep.eqAt(I:Inv X aa σ H s):∀ (n:Nat) {A:VG} {d d':Dt} {x y:V} {u v:Va},A.units+n < UY->Rep X.K H n d x->Rep X.K H n d' y->QB x u->QB y v->Oq A s u v (eqD d d'):=by
 intro n
 induction n with
 | zero =>
  intro A d d' x y u v hu r r' rx ry;cases r with
  | v f =>
   cases r' with
   | v f'=>unfold eqD;exact Xwa rx ry f f'
 | succ n ih =>
  intro A d d' x y u v hu r r' rx ry;have aA:A.units < UY:=by lia
  have elems:∀ {ds es:List Dt} {xs ys:List V} {us vs:List Va},ds.length=xs.length->es.length=ys.length->(∀ (i:Nat) d x,ds[i]?=Vo d->xs[i]?=Vo x->Rep X.K H n d x)->(∀ (i:Nat) d x,es[i]?=Vo d->ys[i]?=Vo x->Rep X.K H n d x) ->
   Qz xs us->Qz ys vs->∀ j (h1:j < us.toArray.size) (h2:j < vs.toArray.size),Oq A.in1 s us.toArray[j] vs.toArray[j] (eqD (ds.getD j default) (es.getD j default)):=by
   intro ds es xs ys us vs l1 l2 r1 r2 w1 w2 j h1 h2;have m1:=w1.length;have m2:=w2.length;have j1:j < xs.length:=by
    have:j < us.length:=by simpa using h1
    lia
   have j2:j < ys.length:=by
    have:j < vs.length:=by simpa using h2
    lia
   have g1:ds[j]?=Vo (ds[j]'#[0]):=IE _
   have g2:es[j]?=Vo (es[j]'#[0]):=IE _
   have x1:xs[j]?=Vo xs[j]:=IE _
   have x2:ys[j]?=Vo ys[j]:=IE _
   obtain⟨u1,e1,q1⟩:=w1.get x1;obtain⟨u2,e2,q2⟩:=w2.get x2;rw[Y9 g1,Y9 g2];have k1:us.toArray[j]=u1:=by
    have:us[j]?=Vo us[j]:=IE _
    rw[this]at e1;simpa using e1
   have k2:vs.toArray[j]=u2:=by
    have:vs[j]?=Vo vs[j]:=IE _
    rw[this]at e2;simpa using e2
   rw[k1,k2];exact ih (Yrb hu) (r1 j _ _ g1 x1) (r2 j _ _ g2 x2) q1 q2
  cases r with
  | v f =>
   cases r' with
   | v f'=>unfold eqD;exact Xwa rx ry f f'
   | t h e _ =>
    cases ry;obtain⟨ag,_,p,_⟩:=I.tuple h;unfold eqD;cases x <;> first | (exact(Uh f).elim) | skip
    ·cases (show u=Vi from rx);exact .none_tuple p aA
    ·cases (show u=Vj _ from rx);exact .bool_tuple _ p aA
    ·obtain⟨t,rfl⟩:=rx;exact .int_tuple _ _ p aA
    ·obtain⟨t,rfl⟩:=rx;exact .str_tuple _ _ p aA
   | l h e _ =>
    cases ry;obtain⟨ag,_,p,_⟩:=I.list h;unfold eqD;cases x <;> first | (exact(Uh f).elim) | skip
    ·cases (show u=Vi from rx);exact .none_list p.isList aA
    ·cases (show u=Vj _ from rx);exact .bool_list _ p.isList aA
    ·obtain⟨t,rfl⟩:=rx;exact .int_list _ _ p.isList aA
    ·obtain⟨t,rfl⟩:=rx;exact .str_list _ _ p.isList aA
  | t h e r1 =>
   rename_i a ds xs;cases rx;obtain⟨ag,w1,p,_⟩:=I.tuple h;cases r' with
   | v f' =>
    unfold eqD;cases y <;> first | (exact(Uh f').elim) | skip
    ·cases (show v=Vi from ry);exact .tuple_none p aA
    ·cases (show v=Vj _ from ry);exact .tuple_bool _ p aA
    ·obtain⟨t,rfl⟩:=ry;exact .tuple_int _ _ p aA
    ·obtain⟨t,rfl⟩:=ry;exact .tuple_str _ _ p aA
   | t h' e' r2 =>
    rename_i b es ys;cases ry;obtain⟨its',w2,p',_⟩:=I.tuple h'
    by_cases ab:a=b
    ·subst ab
     have z:=Rep.det I (.t h e r1) (.t h' e' r2) rfl;rw[<- z,Rep.self (.t h e r1)];exact .same _
    ·have q:=SeqAt.RcAt.tuples (A:=A) (e:=λi=>eqD (ds.getD i default) (es.getD i default)) p p' aA (elems e e' r1 r2 w1 w2)
     have sz:ag.toArray.size=ds.length:=by rw[UE,<- w1.length,e]
     have gI:its'.toArray.size=es.length:=by rw[UE,<- w2.length,e']
     rw[sz,gI,<- JSa]at q;unfold eqD;exact .of_refs ab q
   | l h' _ _ =>
    cases ry;obtain⟨its',w2,p',_⟩:=I.list h';unfold eqD;exact .tuple_list p p'.isList aA
  | l h e r1 =>
   rename_i a ds xs;cases rx;obtain⟨ag,w1,p,_⟩:=I.list h;cases r' with
   | v f' =>
    unfold eqD;cases y <;> first | (exact(Uh f').elim) | skip
    ·cases (show v=Vi from ry);exact .list_none p.isList aA
    ·cases (show v=Vj _ from ry);exact .list_bool _ p.isList aA
    ·obtain⟨t,rfl⟩:=ry;exact .list_int _ _ p.isList aA
    ·obtain⟨t,rfl⟩:=ry;exact .list_str _ _ p.isList aA
   | l h' e' r2 =>
    rename_i b es ys;cases ry;obtain⟨its',w2,p',_⟩:=I.list h'
    by_cases ab:a=b
    ·subst ab
     have z:=Rep.det I (.l h e r1) (.l h' e' r2) rfl;rw[<- z,Rep.self (.l h e r1)];exact .same _
    ·have sz:ag.toArray.size=ds.length:=by rw[UE,<- w1.length,e]
     have gI:its'.toArray.size=es.length:=by rw[UE,<- w2.length,e']
     unfold eqD
     by_cases hl:ds.length=es.length
     ·have q:=SeqAt.RcAt.lists (A:=A) (e:=λi=>eqD (ds.getD i default) (es.getD i default)) p.isList p'.isList #[0] aA (elems e e' r1 r2 w1 w2)
      rw[sz,<- JTa hl]at q;exact .of_refs ab q
     ·rw[Zmc hl]
      exact .of_refs ab (SeqAt.RcAt.lists_lengths p.isList p'.isList (by rw[sz,gI];exact bne_iff_ne.mpr hl) aA)
   | t h' _ _ =>
    cases ry;obtain⟨its',w2,p',_⟩:=I.tuple h';unfold eqD;exact .list_tuple p.isList p' aA
theorem Rep.elems(I:Inv X aa σ H s){n:Nat}{A:VG}(hu:A.units+(n+1) < UY){ds es:List Dt}{xs ys:List V}{us vs:List Va}(l1:ds.length=xs.length)(l2:es.length=ys.length)
 (r1:∀ (i:Nat) d x,ds[i]?=Vo d->xs[i]?=Vo x->Rep X.K H n d x) (r2:∀ (i:Nat) d x,es[i]?=Vo d->ys[i]?=Vo x->Rep X.K H n d x) (w1:Qz xs us) (w2:Qz ys vs) (j:Nat) (h1:j < us.toArray.size) (h2:j < vs.toArray.size) :
 Oq A.in1 s us.toArray[j] vs.toArray[j] (eqD (ds.getD j default) (es.getD j default)):=by
 have m1:=w1.length;have m2:=w2.length;have j1:j < xs.length:=by
  have:j < us.length:=by simpa using h1
  lia
 have j2:j < ys.length:=by
  have:j < vs.length:=by simpa using h2
  lia
 have g1:ds[j]?=Vo (ds[j]'#[0]):=IE _
 have g2:es[j]?=Vo (es[j]'#[0]):=IE _
 have x1:xs[j]?=Vo xs[j]:=IE _
 have x2:ys[j]?=Vo ys[j]:=IE _
 obtain⟨u1,e1,q1⟩:=w1.get x1;obtain⟨u2,e2,q2⟩:=w2.get x2;rw[Y9 g1,Y9 g2];have k1:us.toArray[j]=u1:=by
  have:us[j]?=Vo us[j]:=IE _
  rw[this]at e1;simpa using e1
 have k2:vs.toArray[j]=u2:=by
  have:vs[j]?=Vo vs[j]:=IE _
  rw[this]at e2;simpa using e2
 rw[k1,k2];exact Rep.eqAt I n (Yrb hu) (r1 j _ _ g1 x1) (r2 j _ _ g2 x2) q1 q2
theorem Rep.rcAt(I:Inv X aa σ H s){n:Nat}{A:VG}{d d':Dt}{x y:V}{u v:Va}(hu:A.units+n < UY)(r:Rep X.K H n d x)(r':Rep X.K H n d' y)(rx:QB x u)(ry:QB y v):SeqAt.RcAt A s u v (eqD d d'):=by
 have aA:A.units < UY:=by lia
 cases r with
 | v f =>
  cases r' with
  | v f' =>
   unfold eqD;cases x <;> first | (exact(Uh f).elim) | skip
   all_goals (cases y <;> first | (exact(Uh f').elim) | skip)
   ·cases (show u=Vi from rx)
    cases (show v=Vi from ry)
    exact SeqAt.RcAt.none_none
   ·cases (show u=Vi from rx)
    cases (show v=Vj _ from ry)
    exact SeqAt.RcAt.none_bool _
   ·cases (show u=Vi from rx)
    obtain⟨tv,rfl⟩:=ry;exact SeqAt.RcAt.none_int _ _
   ·cases (show u=Vi from rx)
    obtain⟨tv,rfl⟩:=ry;exact SeqAt.RcAt.none_str _ _
   ·cases (show u=Vj _ from rx)
    cases (show v=Vi from ry)
    exact SeqAt.RcAt.bool_none _
   ·cases (show u=Vj _ from rx)
    cases (show v=Vj _ from ry)
    exact SeqAt.RcAt.bool_bool _ _
   ·cases (show u=Vj _ from rx)
    obtain⟨tv,rfl⟩:=ry;exact SeqAt.RcAt.bool_int _ _ _
   ·cases (show u=Vj _ from rx)
    obtain⟨tv,rfl⟩:=ry;exact SeqAt.RcAt.bool_str _ _ _
   ·obtain⟨tu,rfl⟩:=rx
    cases (show v=Vi from ry)
    exact SeqAt.RcAt.int_none _ _
   ·obtain⟨tu,rfl⟩:=rx
    cases (show v=Vj _ from ry)
    exact SeqAt.RcAt.int_bool _ _ _
   ·obtain⟨tu,rfl⟩:=rx
    obtain⟨tv,rfl⟩:=ry;exact SeqAt.RcAt.int_int _ _ _ _
   ·obtain⟨tu,rfl⟩:=rx
    obtain⟨tv,rfl⟩:=ry;exact SeqAt.RcAt.int_str _ _ _ _
   ·obtain⟨tu,rfl⟩:=rx
    cases (show v=Vi from ry)
    exact SeqAt.RcAt.str_none _ _
   ·obtain⟨tu,rfl⟩:=rx
    cases (show v=Vj _ from ry)
    exact SeqAt.RcAt.str_bool _ _ _
   ·obtain⟨tu,rfl⟩:=rx
    obtain⟨tv,rfl⟩:=ry;exact SeqAt.RcAt.str_int _ _ _ _
   ·obtain⟨tu,rfl⟩:=rx
    obtain⟨tv,rfl⟩:=ry;exact SeqAt.RcAt.str_str _ _ _ _
  | t h e _ =>
   cases ry;obtain⟨ag,_,p,_⟩:=I.tuple h;unfold eqD;cases x <;> first | (exact(Uh f).elim) | skip
   ·cases (show u=Vi from rx)
    exact SeqAt.RcAt.none_tuple p aA
   ·cases (show u=Vj _ from rx)
    exact SeqAt.RcAt.bool_tuple _ p aA
   ·obtain⟨tu,rfl⟩:=rx
    exact SeqAt.RcAt.int_tuple _ _ p aA
   ·obtain⟨tu,rfl⟩:=rx
    exact SeqAt.RcAt.str_tuple _ _ p aA
  | l h e _ =>
   cases ry;obtain⟨ag,_,p,_⟩:=I.list h;unfold eqD;cases x <;> first | (exact(Uh f).elim) | skip
   ·cases (show u=Vi from rx)
    exact SeqAt.RcAt.none_list p.isList aA
   ·cases (show u=Vj _ from rx)
    exact SeqAt.RcAt.bool_list _ p.isList aA
   ·obtain⟨tu,rfl⟩:=rx
    exact SeqAt.RcAt.int_list _ _ p.isList aA
   ·obtain⟨tu,rfl⟩:=rx
    exact SeqAt.RcAt.str_list _ _ p.isList aA
 | t h e r1 =>
  rename_i n a ds xs;cases rx;obtain⟨ag,w1,p,_⟩:=I.tuple h;cases r' with
  | v f' =>
   unfold eqD;cases y <;> first | (exact(Uh f').elim) | skip
   ·cases (show v=Vi from ry)
    exact SeqAt.RcAt.tuple_none p aA
   ·cases (show v=Vj _ from ry)
    exact SeqAt.RcAt.tuple_bool _ p aA
   ·obtain⟨tv,rfl⟩:=ry
    exact SeqAt.RcAt.tuple_int _ _ p aA
   ·obtain⟨tv,rfl⟩:=ry
    exact SeqAt.RcAt.tuple_str _ _ p aA
  | t h' e' r2 =>
   rename_i b es ys;cases ry;obtain⟨its',w2,p',_⟩:=I.tuple h';have q:=SeqAt.RcAt.tuples (A:=A) (e:=λi=>eqD (ds.getD i default) (es.getD i default)) p p' aA (Rep.elems I hu e e' r1 r2 w1 w2)
   have sz:ag.toArray.size=ds.length:=by rw[UE,<- w1.length,e]
   have gI:its'.toArray.size=es.length:=by rw[UE,<- w2.length,e']
   rw[sz,gI,<- JSa]at q;unfold eqD;exact q
  | l h' _ _ =>
   cases ry;obtain⟨its',w2,p',_⟩:=I.list h';unfold eqD;exact SeqAt.RcAt.tuple_list p p'.isList aA
 | l h e r1 =>
  rename_i n a ds xs;cases rx;obtain⟨ag,w1,p,_⟩:=I.list h;cases r' with
  | v f' =>
   unfold eqD;cases y <;> first | (exact(Uh f').elim) | skip
   ·cases (show v=Vi from ry)
    exact SeqAt.RcAt.list_none p.isList aA
   ·cases (show v=Vj _ from ry)
    exact SeqAt.RcAt.list_bool _ p.isList aA
   ·obtain⟨tv,rfl⟩:=ry
    exact SeqAt.RcAt.list_int _ _ p.isList aA
   ·obtain⟨tv,rfl⟩:=ry
    exact SeqAt.RcAt.list_str _ _ p.isList aA
  | l h' e' r2 =>
   rename_i b es ys;cases ry;obtain⟨its',w2,p',_⟩:=I.list h';have sz:ag.toArray.size=ds.length:=by rw[UE,<- w1.length,e]
   have gI:its'.toArray.size=es.length:=by rw[UE,<- w2.length,e']
   unfold eqD
   by_cases hl:ds.length=es.length
   ·have q:=SeqAt.RcAt.lists (A:=A) (e:=λi=>eqD (ds.getD i default) (es.getD i default)) p.isList p'.isList #[0] aA (Rep.elems I hu e e' r1 r2 w1 w2)
    rw[sz,<- JTa hl]at q;exact q
   ·rw[Zmc hl]
    exact SeqAt.RcAt.lists_lengths p.isList p'.isList (by rw[sz,gI];exact bne_iff_ne.mpr hl) aA
  | t h' _ _ =>
   cases ry;obtain⟨its',w2,p',_⟩:=I.tuple h';unfold eqD;exact SeqAt.RcAt.list_tuple p.isList p' aA
def rD(K:VD)(neg:Bool):R2:=λx y H Q=>∃ n d d',n<=60/\Rep K H n d x/\Rep K H n d' y/\Q (.bl (if neg then !eqD d d' else eqD d d')) H
theorem Jid(hu:X.A.units+64 < UY):OpR X (V2 .Eq) (rD X.K false):=by
 intro aa s σ H x y v u Q I rx ry h;obtain⟨n,d,d',hn,r,r',q⟩:=h;exact Rep.rcAt I (A:=X.A) #[0] r r' rx ry X.prog X.w X.xe _ ⟨.bl _,H,I,rfl,q⟩
end
end L2
end
section
namespace L2
open PySem PySem.Spec PyProof.Rows PySem.W
structure QLd(xs:List V)(lt:V->V->Bool):Prop where
 ty:∃ T:String,(Vl T != Vl "tuple")=true/\∀ v∈xs,∀ u,QB v u->typeOf u=pure (.type T)
 ask:∀ v∈xs,∀ v'∈xs,∀ u u',QB v u->QB v' u'->∀ (prog:Vg) (w:Vb) (A:VG) (E:YQ_) (s:VH) (Q:Bool->VH->Prop),Q (lt v v') s->VV (VW prog w) A (keyLt' oneType' u u') Q E s
 swo:Swo xs lt
section
variable{X:Cx}{aa:YP_}{σ:St}{H:Hp}{s:VH}{A:VG}{E:YQ_}
end
def ltP:V->V->Bool
 | .int a,.int b=>decide (a < b)
 | .str a,.str b=>decide (a.cps.toList < b.cps.toList)
 | _,_=>false
theorem Y8c{xs:List V}(h:∀ v∈xs,∃ n,v=.int n):QLd xs ltP where
 ty:=⟨"int",by decide,λv hv u r=>by obtain⟨n,rfl⟩:=h v hv;obtain⟨t,rfl⟩:=r;rfl⟩
 ask:=λv hv v' fz u u' r r' prog w A E s Q q=>by
  obtain⟨n,rfl⟩:=h v hv;obtain⟨t,rfl⟩:=r;obtain⟨n',rfl⟩:=h v' fz;obtain⟨t',rfl⟩:=r';exact kat_lt_int q
 swo:=⟨λa ha=>by obtain⟨n,rfl⟩:=h a ha;simp[ltP],λa ha b hb c hc=>by
  obtain⟨x,rfl⟩:=h a ha;obtain⟨y,rfl⟩:=h b hb;obtain⟨z,rfl⟩:=h c hc;simp only[ltP,decide_eq_true_eq];lia,λa ha b hb c hc=>by
  obtain⟨x,rfl⟩:=h a ha;obtain⟨y,rfl⟩:=h b hb;obtain⟨z,rfl⟩:=h c hc;simp only[ltP,decide_eq_true_eq];lia⟩
theorem XOa{xs:List V}(h:∀ v∈xs,∃ z,v=.str z):QLd xs ltP where
 ty:=⟨"str",by decide,λv hv u r=>by obtain⟨n,rfl⟩:=h v hv;obtain⟨t,rfl⟩:=r;rfl⟩
 ask:=λv hv v' fz u u' r r' prog w A E s Q q=>by
  obtain⟨n,rfl⟩:=h v hv;obtain⟨t,rfl⟩:=r;obtain⟨n',rfl⟩:=h v' fz;obtain⟨t',rfl⟩:=r';exact kas_lt_str q
 swo:=⟨λa ha=>by obtain⟨n,rfl⟩:=h a ha;simp only[ltP,decide_eq_false_iff_not];exact IS _,λa ha b hb c hc=>by
  obtain⟨x,rfl⟩:=h a ha;obtain⟨y,rfl⟩:=h b hb;obtain⟨z,rfl⟩:=h c hc;simp only[ltP,decide_eq_true_eq];exact λp q=>List.lt_trans p q,λa ha b hb c hc=>by
  obtain⟨x,rfl⟩:=h a ha;obtain⟨y,rfl⟩:=h b hb;obtain⟨z,rfl⟩:=h c hc;simp only[ltP,decide_eq_true_eq];intro p
  by_cases q:x.cps.toList < y.cps.toList
  ·exact .inl q
  ·exact .inr (List.lt_of_le_of_lt (List.not_lt.mp q) p)⟩
end L2
end
section
namespace L2
open PySem PySem.Spec PyProof.Rows
theorem X0b{k:Key}{u:Va}(h:ZLa k u=true):QB (kV k) u:=by
 rcases Zc h with ⟨i,t,rfl,rfl⟩ | ⟨x,t,rfl,rfl⟩
 ·exact⟨t,rfl⟩
 ·exact⟨t,rfl⟩
def NF(X:Cx)(d:Vh):Prop:=∀ o u,X.H₀ d≠Vo (.frz o u)
section
variable{X:Cx}{aa:YP_}{σ:St}{H:Hp}{s:VH}{d:Vh}{ac:List (Key×V)}
theorem Inv.recast{u u':HO}(I:Inv X aa σ H s)(h:H d=Vo u)(n1:∀ xs,u≠.tup xs)(n2:∀ o v,X.H₀ d≠Vo (.frz o v))(n3:∀ ps,u≠.tbl ps)(n4:∀ x,u≠.own x)(ok:QN X.prog X.w (upd H d u') s.heap d u'):Inv X aa σ (upd H d u') s:=by
 have ne:∀ b,H b=Vp->b≠d:=λb q z=>by rw[z,h]at q;cases q
 have nt:∀ b xs,H b=Vo (.tup xs)->b≠d:=λb xs q z=>by rw[z,h]at q;exact n1 xs (Vr q)
 have no:∀ b x,H b=Vo (.own x)->b≠d:=λb x q z=>by rw[z,h]at q;exact n4 x (Vr q)
 refine⟨I.ok,I.os,I.bare,⟨I.base.keep,I.base.slot,λb v q n hx=>?_,I.base.there,λb xs q=>?_,λb o v q=>?_,λb ps q=>?_⟩,I.loc,I.cell,by rw[Qh (ne _ I.free)];exact I.free,λx c q=>by rw[Qh (ne _ (I.freeC x c q))];exact I.freeC x c q,λp hp=>?_,λb v q=>?_,I.len⟩
 ·have z:=I.base.free b v q n hx
  rw[Qh (ne b z)];exact z
 ·have z:=I.base.tups b xs q
  rw[Qh (nt b xs z)];exact z
 ·have z:=I.base.frzs b o v q
  rw[Qh (λe=>by rw[e]at q;exact n2 o v q)];exact z
 ·obtain⟨m,z⟩:=I.base.tbls b ps q
  exact⟨m,by rw[Qh (λe=>by rw[e,h]at z;exact n3 _ (Vr z))];exact z⟩
 ·obtain⟨a,b,r⟩:=I.pin p hp
  exact⟨a,by rw[Qh (ne _ b)];exact b,r⟩
 ·by_cases hb:b=d
  ·subst hb;rw[Qa]at q;cases q;exact ok
  ·rw[Qh hb]at q
   exact(I.hok b v q).stay (λc v _ r=>r) (λc r=>by rw[Qh (no c b r)];exact r) λc xs r=>by rw[Qh (nt c xs r)];exact r
theorem Inv.nf(I:Inv X aa σ H s)(h:H d=Vo (.dK ac)):NF X d:=λo u q=>by
 have z:=I.base.frzs d o u q;rw[h]at z;cases z
theorem Inv.freeze(I:Inv X aa σ H s)(h:H d=Vo (.dK ac)):∃ ob,s.heap.get? d=Vo ob/\Inv X aa σ (upd H d (.frz ob (.dK ac))) s:=by
 obtain⟨z,y,vs,r,o,es,ep,e,c⟩:=(show QN X.prog X.w H s.heap d (.dK ac) from I.hok d _ h)
 exact⟨o,e,I.recast h (λ_ z=>by cases z) (I.nf h) (λ_ z=>by cases z) (λ_ z=>by cases z) ⟨e,z,y,vs,r,o,es,ep,e,c⟩⟩
theorem Inv.thaw{ob:Obj}(I:Inv X aa σ H s)(nf:NF X d)(h:H d=Vo (.frz ob (.dK ac))):Inv X aa σ (upd H d (.dK ac)) s:=by
 obtain⟨_,z,y,vs,r,o,es,ep,e,c⟩:=(show QN X.prog X.w H s.heap d (.frz ob (.dK ac)) from I.hok d _ h)
 exact I.recast h (λ_ z=>by cases z) nf (λ_ z=>by cases z) (λ_ z=>by cases z) ⟨z,y,vs,r,o,es,ep,e,c⟩
end
def Itd(d:Vh)(ob:Obj)(ac:List (Key×V)):It :=
 ⟨λi H=>H d=Vo (.frz ob (.dK ac))/\i < ac.length,λi H x H'=>H'=H/\∃ k v,ac[i]?=Vo (k,v)/\x=kV k,λi H=>H d=Vo (.frz ob (.dK ac))/\ac.length<=i⟩
theorem ZYb{P:Vg}{w:Vb}{H:Hp}{h:Vq}{d:Vh}{ob:Obj}{ac:List (Key×V)}{es:Array DictEntry}{ep:Nat}(ok:HOk P w H h)(e:H d=Vo (.frz ob (.dK ac)))(hd:ob.data=.dict es ep) :
 (d == Vu)=false/\∃ vs,KV ac vs/\h.DictAt (QP P w) d vs ep:=by
 obtain⟨e0,z,y,vs,r,o,aM,lV,e1,c1,c2,c3⟩:=(show QN P w H h d (.frz ob (.dK ac)) from ok d _ e)
 rw[e0]at e1;cases e1;rw[hd]at c2;cases c2;exact⟨y,vs,r,ob,es,e0,c1,hd,c3⟩
theorem KV.get{ac:List (Key×V)}{vs:List (Key×Va)}(r:KV ac vs){i:Nat}{k:Key}{v:V}(h:ac[i]?=Vo (k,v)):∃ u,vs[i]?=Vo (k,u)/\QB v u:=by
 induction r generalizing i with
 | nil=>simp at h
 | cons a b ih =>
  cases i with
  | zero =>
   simp only[getElem?_cons_zero,O9]at h ⊢
   subst h;rename_i q _ _;obtain⟨k',u⟩:=q;exact⟨u,by rw[show k=k' from a.1],a.2⟩
  | succ j =>
   simp only[getElem?_cons_succ]at h ⊢
   exact ih h
theorem KV.len{ac:List (Key×V)}{vs:List (Key×Va)}(r:KV ac vs):ac.length=vs.length:=Vn r
theorem Jlc{P:Vg}{w:Vb}{K:VD}{tg:Expr}(it d:Vh)(ob:Obj)(ac:List (Key×V))(es:Array DictEntry)(ep:Nat)(cz:ob.data=.dict es ep):ZMb P w K tg (Itd d ob ac) [it] it (λi h=>h.IsKeyIter it d i ac.length ep) where
 mem:=by simp
 obj:=λi h st b hb=>by
  have e:b=it:=by simpa using hb
  subst e;obtain⟨o,e,c,dd⟩:=st;exact⟨o,e,λv z=>by rw[dd]at z;cases z⟩
 keep:=λi h h' st k=>let ⟨o,ho,r⟩:=st;⟨o,k it #[2] o ho,r⟩
 item:=by
  intro X hP hw hK hc i aa s σ H E I hf st hg;subst hP hw hK;obtain⟨hz,hi⟩:=hg;obtain⟨_,vs,rv,da⟩:=ZYb I.hok hz cz;have hl:=rv.len;obtain⟨k,v,aK⟩:∃ k v,ac[i]?=Vo (k,v):=⟨ac[i].1,ac[i].2,IE hi⟩
  obtain⟨u,hu,_⟩:=rv.get aK;obtain⟨f0,f1,f2,f3,f4,f5⟩:=hf it #[2]
  rw[hl]at st;refine wpAny_pyNext_dict_item st da hu λkey h' hk ai sb=>?_
  have I1:Inv X aa σ H { s with heap:=h' }:=I.turned (t':=s.toks) (λb o hb e=>(sb.2 b hb).trans e) f0 f1 f3 f4 f5
  obtain⟨o,e,c,dd⟩:=id ai;exact⟨key,rfl,Q5b (s:={ s with heap:=h' }) e c dd #[1] ⟨kV k,H,I1,X0b hk,⟨rfl,k,v,aK,rfl⟩,by rw[hl];exact ai,λb hb=>(hf b hb).1⟩⟩
 done:=by
  intro X hP hw hK hc i aa s σ H E I hf st hg;subst hP hw hK;obtain⟨hz,hi⟩:=hg;obtain⟨_,vs,rv,da⟩:=ZYb I.hok hz cz;have hl:=rv.len;obtain⟨f0,f1,f2,f3,f4,f5⟩:=hf it #[2]
  rw[hl]at st;exact wpAny_pyNext_dict_end (I.ok.hd hc) st da (getElem?_eq_none #[0]) λh' eb=>⟨rfl,I.turned (t':=s.toks) (λb o hb e=>eb b o hb e) f0 f1 f3 f4 f5⟩
 self:=λ_ _ _ _ _ st h=>wpAny_pyIter_keyiter st h
def Y9c(X:Cx)(tl:TE):TI:=λσ H R=>tl σ H λx H1=>∃ d ac,x=.ref d/\H1 d=Vo (.dK ac)/\∀ ob,NF X d->R (Itd d ob ac) (upd H1 d (.frz ob (.dK ac)))
section
variable{X:Cx}
theorem Xga{tg l:Expr}{tl:TE}(hl:PE X l tl):PI X tg l (Y9c X tl):=by
 intro aa s σ H R I h;refine thn (hl aa s σ H _ I h) λv s1 hZ=>?_
 obtain⟨x,H1,I1,r1,q1⟩:=hZ;obtain⟨d,ac,e,hd,q⟩:=q1;subst e;obtain rfl:v=Vk d:=r1;obtain⟨ob,jH,I2⟩:=I1.freeze hd;obtain⟨z,y,vs,rv,o,es,ep,e0,c1,c2,c3⟩:=(show QN X.prog X.w H1 s1.heap d (.dK ac) from I1.hok d _ hd)
 rw[jH]at e0;cases e0;have da:s1.heap.DictAt (QP X.prog X.w) d vs ep:=⟨ob,es,jH,c1,c2,c3⟩;refine wpAny_pyIter_dict y da ?_
 have nf:=I1.nf hd;refine⟨s1.heap.objs.size,[s1.heap.objs.size],_,_,upd H1 d (.frz ob (.dK ac)),rfl,I2.kept (t':=s1.toks) λb o e=>Us _ e,Jlc _ d ob ac es ep c2,⟨_,Ut _ rfl,rfl,?_⟩,λb hb=>?_,q ob nf⟩
 ·rw[rv.len];rfl
 ·have e:b=s1.heap.objs.size:=by simpa using hb
  subst e;exact I2.fpOk (Uu _) (I2.hok.fresh (Uu _))
def ZL.thawed(X:Cx)(D:ZL):ZL:={ D with nx:=λσ H=>∃ d ob ac,NF X d/\H d=Vo (.frz ob (.dK ac))/\D.nx σ (upd H d (.dK ac)),rt:=λv H=>∃ d ob ac,NF X d/\H d=Vo (.frz ob (.dK ac))/\D.rt v (upd H d (.dK ac)) }
def Zwd(X:Cx)(t:TS):TS:=λD σ H=>t (D.thawed X) σ H
def Zxd(X:Cx)(te:TE):TE:=λσ H Q=>te σ H λv H1=>∃ d ob ac,NF X d/\H1 d=Vo (.frz ob (.dK ac))/\Q v (upd H1 d (.dK ac))
theorem Znc{st:V0}{t:TS}(h:PS X st t):PS X st (Zwd X t):=λaa s σ H D I q=>V1 (h aa s σ H (D.thawed X) I q) (λf s1 z=>by
 cases f with
 | next=>obtain⟨σ',H',I',d,ob,ac,nf,e,q'⟩:=z;exact⟨σ',_,I'.thaw nf e,q'⟩
 | ret u=>obtain⟨v,σ',H',I',r,d,ob,ac,nf,e,q'⟩:=z;exact⟨v,σ',_,I'.thaw nf e,r,q'⟩
 | brk=>exact z
 | cont=>exact z) λ_ _ z=>z
theorem ZZb{e:Expr}{te:TE}(h:PE X e te):PE X e (Zxd X te):=λaa s σ H Q I q=>V1 (h aa s σ H _ I q) (λu s1 ⟨v,H',I',r,d,ob,ac,nf,e,q'⟩=>⟨v,_,I'.thaw nf e,r,q'⟩) λ_ _ z=>z
theorem Jmc{tl:TE}{g:TG}{tb:TS}{D:ZL}{σ:St}{H:Hp}:Qvb (Y9c X tl) g tb D σ H=tl σ H λx H1=>∃ d ac,x=.ref d/\H1 d=Vo (.dK ac)/\∀ ob,NF X d->FoR (Itd d ob ac) g tb D σ (upd H1 d (.frz ob (.dK ac))):=rfl
theorem Xac{tl:TE}{tt:TT}{te:TE}{σ:St}{H:Hp}{Q:VK}:tLc (Y9c X tl) tt te σ H Q=tl σ H λx H1=>∃ d ac,x=.ref d/\H1 d=Vo (.dK ac)/\∀ ob,NF X d->LcR (Itd d ob ac) tt te σ Q (upd H1 d (.frz ob (.dK ac))):=rfl
end
theorem Xbc{d:Vh}{ob:Obj}{ac:List (Key×V)}{g:TG}{tb:TS}{D:ZL}{σ:St}{H:Hp}(Pv:Nat->St->Hp->Prop)(h0:Pv 0 σ H)(hl:∀ i σ H,i<=ac.length->Pv i σ H->H d=Vo (.frz ob (.dK ac)))
 (hs:∀ i k v σ H,ac[i]?=Vo (k,v)->Pv i σ H->g (kV k) σ H λσ2 H2=>tb { D with nx:=Pv (i+1),ct:=Pv (i+1),bk:=D.nx } σ2 H2) (hd:∀ σ H,Pv ac.length σ H->D.nx σ H):FoR (Itd d ob ac) g tb D σ H:=by
 refine⟨λi m σ H=>m=ac.length - i/\i<=ac.length/\Pv i σ H,⟨_,rfl,Uy _,h0⟩,?_⟩
 rintro i m σ H ⟨rfl,hi,p⟩;have hz:=hl i σ H hi p
 by_cases ax:i < ac.length
 ·refine .inr ⟨⟨hz,ax⟩,Pv (i+1),λσ' H' q=>⟨ac.length - (i+1),by lia,rfl,by lia,q⟩,λx H' hZ=>?_⟩
  obtain⟨e,k,v,aK,ex⟩:=hZ;subst e ex;exact hs i k v σ H' aK p
 ·have:i=ac.length:=by lia
  subst this;exact .inl ⟨⟨hz,Uu _⟩,hd σ H p⟩
theorem Ysb{d:Vh}{ob:Obj}{ac:List (Key×V)}{tt:TT}{σ:St}{H1:Hp}{Q:VK}(p:V->Bool)(hz:ac.length<=Vs)(hd:H1 d=Vo (.frz ob (.dK ac)))
 (he:∀ k v H2 (R:Bool->Hp->Prop),(k,v)∈ac->Qj H1 H2->(∀ H3,Qj H2 H3->R (p (kV k)) H3)->tt (Vo (kV k)::σ) H2 R)
 (hq:∀ D H2,H1 D=Vp->Qj H1 H2->H2 D=Vo (.lst ((ac.map λq=>kV q.1).filter p))->Q (.ref D) H2):LcR (Itd d ob ac) tt (Yi 0) σ Q H1 :=
 XJa (ac.map λq=>kV q.1) p (by rw[UQ];exact hz) (λi H2 hi s=>⟨⟨s _ _ hd,by rwa [UQ]at hi⟩,λx H' ⟨e,k,v,aK,ex⟩=>⟨e,by rw[Ol,aK,ex];rfl⟩⟩)
  (λH2 s=>⟨s _ _ hd,by rw[UQ];exact Uu _⟩) (λi x H2 R hx s r=>by
   rw[Ol]at hx
   cases e:ac[i]? with
   | none=>rw[e]at hx;cases hx
   | some q =>
    rw[e]at hx;cases hx;exact he q.1 q.2 H2 R (Om e) s r) hq
theorem Q5.u1{k:Nat}{A:VG}(r:Q5 k A):A.units+1 < UY:=by have:=r.units;lia
def SqE(b:Bool)(K:VD)(H:Hp)(a:Vh)(xs:List V):Prop:=if b=true then SqT K H a xs else SqL K H a xs
def ItE(b:Bool)(K:VD)(a:Vh):It:=if b=true then Itt K a else Itl K a
theorem SqE.same{b:Bool}{K:VD}{H H':Hp}{a:Vh}{xs:List V}(h:SqE b K H a xs)(s:Qj H H'):SqE b K H' a xs:=by
 cases b with
 | true=>exact Qj.seqT s h
 | false=>exact Qj.seq s h
def Yld(K:VD)(tl:TE):TI:=λσ H R=>tl σ H λx H1=>∃ a b,x=.ref a/\(∃ xs,SqE b K H1 a xs)/\R (ItE b K a) H1
section
variable{X:Cx}{tg:Expr}
theorem Jjd{l:Expr}{tl:TE}(hl:PE X l tl):PI X tg l (Yld X.K tl):=by
 intro aa s σ H R I h;refine thn (hl aa s σ H _ I h) λv s1 hZ=>?_
 obtain⟨x,H1,I1,r1,q1⟩:=hZ;obtain⟨a,b,e,⟨xs,hq⟩,q⟩:=q1;subst e;cases r1;cases b with
 | false =>
  obtain⟨ag,rv,p,hz⟩:=I1.list hq;refine Ur p.isList ?_
  refine⟨s1.heap.objs.size,[s1.heap.objs.size],_,_,H1,rfl,I1.kept (t':=s1.toks) λb o e=>Us _ e,Q6b a _,⟨_,Ut _ rfl,rfl,rfl⟩,λb hb=>?_,q⟩
  have e:b=s1.heap.objs.size:=by simpa using hb
  subst e;exact I1.fpOk (Uu _) (I1.hok.fresh (Uu _))
 | true =>
  obtain⟨ag,rv,p,hz⟩:=I1.tuple hq;refine Uv (show s1.heap.IsTuple a ag.toArray from p) ?_
  refine⟨s1.heap.objs.size,[s1.heap.objs.size],_,_,H1,rfl,I1.kept (t':=s1.toks) λb o e=>Us _ e,Xna a _,⟨_,Ut _ rfl,rfl,rfl⟩,λb hb=>?_,q⟩
  have e:b=s1.heap.objs.size:=by simpa using hb
  subst e;exact I1.fpOk (Uu _) (I1.hok.fresh (Uu _))
end
theorem Xcc{K:VD}{tl:TE}{g:TG}{tb:TS}{D:ZL}{σ:St}{H:Hp}:Qvb (Yld K tl) g tb D σ H=tl σ H λx H1=>∃ a b,x=.ref a/\(∃ xs,SqE b K H1 a xs)/\FoR (ItE b K a) g tb D σ H1:=rfl
theorem QMd{b:Bool}{K:VD}{a:Vh}(xs:List V){g:TG}{tb:TS}{D:ZL}{σ:St}{H:Hp}(Pv:Nat->St->Hp->Prop)(h0:Pv 0 σ H)(hl:∀ i σ H,i<=xs.length->Pv i σ H->SqE b K H a xs)
 (hs:∀ i x σ H,xs[i]?=Vo x->Pv i σ H->g x σ H λσ2 H2=>tb { D with nx:=Pv (i+1),ct:=Pv (i+1),bk:=D.nx } σ2 H2) (hd:∀ σ H,Pv xs.length σ H->D.nx σ H):FoR (ItE b K a) g tb D σ H:=by
 cases b with
 | true=>exact Zcc xs Pv h0 hl hs hd
 | false=>exact YG xs Pv h0 hl hs hd
end L2
end
section
namespace PySem.W
open PySem
def YI(K:VD)(C:Vh)(fl:List Str):Bool:=plainGet K C Str.empty && (hasDictIn K C && (plainOver K C && (UF K (.ref C) "__setattr__" == Vo (Vo (.builtin "object.__setattr__")) && (UF K (.ref C) "__class__" == Vo (Vo (.builtin "object.__class__")) && (mroIn K C (.type "object") == Vo true && fl.all λf=>UF K (.ref C) f == Vo Vp)))))
theorem Ytb{K:VD}{C:Vh}{fl:List Str}(h:YI K C fl=true):L2.Cls K C/\UF K (.ref C) "__class__"=Vo (Vo (.builtin "object.__class__"))/\mroIn K C (.type "object")=Vo true/\∀ f∈fl,L2.Jv K C f:=by
 unfold YI at h;simp only[OC,beq_iff_eq,Ig]at h;obtain⟨a,b,c,d,e,f,g⟩:=h;exact⟨⟨a,b,c,d⟩,e,f,g⟩
def Xdc(K:VD)(l:List Vh)(m:Nat->Nat->Bool):Bool:=(VC l.length).all λi=>(VC l.length).all λj=>kitOne K (.ref (l.getD i 0)) (.ref (l.getD j 0)) == Vo (m i j)
theorem Jkd{K:VD}{l:List Vh}{m:Nat->Nat->Bool}(h:Xdc K l m=true):∀ i j,i < l.length->j < l.length->kitOne K (.ref (l.getD i 0)) (.ref (l.getD j 0))=Vo (m i j):=by
 unfold Xdc at h;simp only[Ig,DE,beq_iff_eq]at h;exact λi j hi hj=>h i hi j hj
end PySem.W
namespace L2
open PySem PySem.Spec PyProof.Rows
structure ObC(K:VD)(C:Vh)(fl:List Str):Prop where
 cl:Cls K C
 cc:UF K (.ref C) "__class__"=Vo (Vo (.builtin "object.__class__"))
 mo:W.mroIn K C (.type "object")=Vo true
 no:∀ f∈fl,Jv K C f
 cg:UV K (.builtin "object.__class__") "__get__"=Vo (Vo (.builtin "getset_descriptor.__get__"))
 ct:W.takesIn K (.builtin "object.__class__")=Vo true
theorem ObC.of{K:VD}{C:Vh}{fl:List Str}(h:W.YI K C fl=true)(cg:UV K (.builtin "object.__class__") "__get__"=Vo (Vo (.builtin "getset_descriptor.__get__")))(ct:W.takesIn K (.builtin "object.__class__")=Vo true):ObC K C fl :=
 let ⟨a,b,c,d⟩:=W.Ytb h;⟨a,b,c,d,cg,ct⟩
def XPa(P:Vg)(w:Vb)(K:VD)(mg:Str->Option Va)(base:Vq)(k:Nat)(m:Str)(ta:TE)(t:TA):TE1:=λσ H Q E=>ta σ H λx H1=>∃ a C dx fs sp,x=.ref a/\H1 a=Vo (.ins C dx fs)/\fs.lookup m=Vp/\Cls K C/\MeV P w K mg base k C m sp/\t σ H1 λvs H2=>sp (x::vs) H2 Q E
section
variable{X:Cx}{m:Str}{k:Nat}{ta:TE}{t:TA}{e o:Expr}{es:List Expr}{pos ak:Pos}{pl:Sem Bool}
theorem ZC(he:PE X.nox o ta)(hr:Q5 k X.A)(aZ:X.ex=[])(ha:PA X.nox (e::es) t)
 (bB:VZ (e::es) X.env=(false,VX e X.env)::VZ es X.env:=by rfl) (aI:(VY pos (VZ es X.env)).any (·.1)=false:=by rfl)
 (ht:VX (.Call (.Attribute o m ak) (e::es) [] pos) X.env=(do
  let ov <- VX o X.env
  V5 ak.atName
  let (f,first) <- V6 [ov] (UH ov m pl)
  LJ pos f first (VY pos (VZ (e::es) X.env)) (U8 pos (U9 [] X.env))):=by rfl) :
 PE1 X (.Call (.Attribute o m ak) (e::es) [] pos) (XPa X.prog X.w X.K X.mg X.base k m ta t):=by
 intro aa s σ H Q E I h;refine LK (pl:=pl) (thn (Zlc he I h) λu s1 hZ=>?_) ht
 obtain⟨y,H1,I1,rx,a,C,dx,fs,sp,ex,ea,l,c,G,q⟩:=hZ;obtain⟨f,fd,ps,hm,F,hb⟩:=G;subst ex;obtain rfl:u=Vk a:=rx;refine Z2a I1 ea c hm l ?_
 refine U5 (first:=[.ref a]) (h₀:=X.base) I.ok.mod.kin hm.kp (thn (XYb ha I1 q) λus s2 ⟨vs,H2,I2,r,q2⟩=>⟨I2.kIn,?_⟩) bB aI
 exact Xfa (us:=.ref a::us) (vs:=.ref a::vs) F hr hb aZ I2 (.cons rfl r) q2
theorem Z9a(he:PE X.nox o ta)(hr:Q5 k X.A)(aZ:X.ex=[])
 (ht:VX (.Call (.Attribute o m ak) [] [] pos) X.env=(do
  let ov <- VX o X.env
  V5 ak.atName
  let (f,first) <- V6 [ov] (UH ov m pl)
  LJ pos f first (VY pos (VZ [] X.env)) (U8 pos (U9 [] X.env))):=by rfl) :
 PE1 X (.Call (.Attribute o m ak) [] [] pos) (XPa X.prog X.w X.K X.mg X.base k m ta Yca):=by
 intro aa s σ H Q E I h;refine LK (pl:=pl) (thn (Zlc he I h) λu s1 hZ=>?_) ht
 obtain⟨y,H1,I1,rx,a,C,dx,fs,sp,ex,ea,l,c,G,q⟩:=hZ;obtain⟨f,fd,ps,hm,F,hb⟩:=G;subst ex;obtain rfl:u=Vk a:=rx;refine Z2a I1 ea c hm l ?_
 exact W.callWith_K0 (first:=[.ref a]) I1.kIn hm.kp (Xfa (us:=[.ref a]) (vs:=[.ref a]) F hr hb aZ I1 (.cons rfl .nil) q)
theorem Jld{j:Nat}{x:Str}{C:Vh}{sp:Sp}{p:Pos}(G:MkV X.prog X.w X.K X.mg X.base j x C sp)(hr:Q5 k X.A)(hj:j+1<=k)(hg:Gl X x)(aF:(x == ("__debug__":Str))=false:=by decide):PE X (.Call (.Name x p) [] [] pos) (Q5c C sp [] E0 Yca):=by
 obtain⟨f,fd,ps,M,F,b,hm⟩:=G;exact J9c M F (hr.mono hj) hg hm b .nil Zfb aF
end
theorem ZX{x y:V}:[x,y].length<=Vs:=show 2<=Vs by decide
theorem Xec{J:It}{tt:TT}{te:TE}{σ:St}{H1:Hp}{Q:VK}(xs:List V)(p:V->Bool)(f:V->V)(hz:xs.length<=Vs)
 (eN:∀ i H2,i < xs.length->Qj H1 H2->J.go i H2/\∀ x H',J.yld i H2 x H'->H'=H2/\xs[i]?=Vo x) (bB:∀ H2,Qj H1 H2->J.stop xs.length H2)
 (ht:∀ (i:Nat) x H2 (R:Bool->Hp->Prop),xs[i]?=Vo x->Qj H1 H2->R (p x) H2->tt (Vo x::σ) H2 R)
 (he:∀ (i:Nat) x H2 (R:VK),xs[i]?=Vo x->p x=true->Qj H1 H2->R (f x) H2->te (Vo x::σ) H2 R)
 (hq:∀ D H2,H1 D=Vp->Qj H1 H2->H2 D=Vo (.lst ((xs.filter p).map f))->Q (.ref D) H2):LcR J tt te σ Q H1:=by
 intro D hD;refine⟨λi m ys H2=>m=xs.length - i/\i<=xs.length/\ys=((xs.take i).filter p).map f/\H2 D=Vo (.lst ys)/\Qj H1 H2,⟨_,rfl,Uy _,by simp,Qa,Qi hD _⟩,?_⟩
 rintro i m ys H2 ⟨rfl,hi,hy,hd,sm⟩;refine⟨hd,?_⟩
 by_cases ax:i < xs.length
 ·obtain⟨go,yl⟩:=eN i H2 ax sm
  have hl:ys.length<=i:=by
   rw[hy,UQ];exact VJ (OU _ _) (by rw[Og];lia)
  refine .inr ⟨go,by lia,λx H' y=>?_⟩
  obtain⟨e,hx⟩:=yl x H' y;subst e;have hn:((xs.take (i+1)).filter p).map f=if p x=true then ys++[f x] else ys:=by
   rw[take_succ,hx,IX,Ip,<- hy];cases hp:p x <;> simp[hp]
  refine ht i x _ _ hx sm ?_
  cases hp:p x with
  | true =>
   rw[if_pos rfl];refine he i x _ _ hx hp sm ⟨hd,xs.length - (i+1),by lia,rfl,ax,?_,Qa,sm.updL hD _⟩
   rw[hn,hp,if_pos rfl]
  | false =>
   rw[if_neg Uh];refine⟨xs.length - (i+1),by lia,rfl,ax,?_,hd,sm⟩
   rw[hn,hp,if_neg Uh]
 ·have e:i=xs.length:=by lia
  subst e;rw[IW]at hy;exact .inl ⟨bB H2 sm,hq D H2 hD sm (by rw[hd,hy])⟩
theorem Xfc{K:VD}{a:Vh}{tt:TT}{te:TE}{σ:St}{H1:Hp}{Q:VK}(xs:List V)(p:V->Bool)(f:V->V)(hx:SqL K H1 a xs)(hz:xs.length<=Vs)
 (ht:∀ (i:Nat) x H2 (R:Bool->Hp->Prop),xs[i]?=Vo x->Qj H1 H2->R (p x) H2->tt (Vo x::σ) H2 R)
 (he:∀ (i:Nat) x H2 (R:VK),xs[i]?=Vo x->p x=true->Qj H1 H2->R (f x) H2->te (Vo x::σ) H2 R)
 (hq:∀ D H2,H1 D=Vp->Qj H1 H2->H2 D=Vo (.lst ((xs.filter p).map f))->Q (.ref D) H2):LcR (Itl K a) tt te σ Q H1 :=
 Xec xs p f hz (λi H2 hi s=>⟨⟨xs,xs[i],s.seq hx,by simp[hi]⟩,λx H' y=>⟨y.1,y.2 xs (s.seq hx)⟩⟩) (λH2 s=>⟨xs,s.seq hx,Uu _⟩) ht he hq
theorem Z0b{K:VD}{a:Vh}{tt:TT}{te:TE}{σ:St}{H1:Hp}{Q:VK}(xs:List V)(p:V->Bool)(f:V->V)(hx:SqT K H1 a xs)(hz:xs.length<=Vs)
 (ht:∀ (i:Nat) x H2 (R:Bool->Hp->Prop),xs[i]?=Vo x->Qj H1 H2->R (p x) H2->tt (Vo x::σ) H2 R)
 (he:∀ (i:Nat) x H2 (R:VK),xs[i]?=Vo x->p x=true->Qj H1 H2->R (f x) H2->te (Vo x::σ) H2 R)
 (hq:∀ D H2,H1 D=Vp->Qj H1 H2->H2 D=Vo (.lst ((xs.filter p).map f))->Q (.ref D) H2):LcR (Itt K a) tt te σ Q H1 :=
 Xec xs p f hz (λi H2 hi s=>⟨⟨xs,xs[i],s.seqT hx,by simp[hi]⟩,λx H' y=>⟨y.1,y.2 xs (s.seqT hx)⟩⟩) (λH2 s=>⟨xs,s.seqT hx,Uu _⟩) ht he hq
def Xgc(H:Hp):V->V
 | .ref a=>match H a with | some (.tup [_,w])=>w | _=>.non
 | _=>.non
theorem Yub{H:Hp}{a:Vh}{k w:V}(h:H a=Vo (.tup [k,w])):Xgc H (.ref a)=w:=by
 show(match H a with | some (.tup [_,w])=>w | _=>.non)=w
 rw[h]
theorem ZH{K:VD}{C a dx:Vh}{fl:List Str}{f:Str}{fs:List (Str×V)}{v:V}{i:Nat}{σ:St}{H:Hp}{Q:VK}(c:ObC K C fl)(hf:f∈fl)(hs:σ[i]?=Vo (Vo (.ref a)))(ha:H a=Vo (.ins C dx fs))(hv:fs.lookup f=Vo v)(q:Q v H):Qpd K (Yi i) f σ H Q :=
 XN hs ⟨a,C,dx,fs,v,rfl,ha,c.cl,c.no f hf,hv,q⟩
theorem Z1b{K:VD}{C a dx:Vh}{fl:List Str}{f:Str}{fs:List (Str×V)}{i:Nat}{σ:St}{H H1:Hp}{tv:TE}{D:ZL}{y:V}(c:ObC K C fl)(hf:f∈fl)(hs:σ[i]?=Vo (Vo (.ref a)))(hv:∀ Q:VK,Q y H1->tv σ H Q)(ha:H1 a=Vo (.ins C dx fs))(l:fs.length < 1000)(q:D.nx σ (upd H1 a (.ins C dx (ZW f y fs)))):J0d K (Yi i) tv f D σ H :=
 hv _ (XN hs ⟨a,C,dx,fs,rfl,ha,c.cl,c.no f hf,l,q⟩)
theorem Yvb{H:Hp}{a b:Vh}{x y:HO}(h:a≠b):upd (upd H a x) b y=upd (upd H b y) a x:=by
 funext c
 by_cases h1:c=b
 ·subst h1;rw[Qa,Qh (VR h),Qa]
 ·by_cases h2:c=a
  ·subst h2;rw[Qa,Qh h1,Qa]
  ·rw[Qh h1,Qh h2,Qh h2,Qh h1]
def HE(b:Bool)(H:Hp)(e:Vh)(xs:List V):Prop:=H e=Vo (if b=true then .tup xs else .lst xs)
theorem HE.upd_ins{b:Bool}{H:Hp}{a e C dx:Vh}{o:HO}{fs:List (Str×V)}{xs:List V}(h:HE b H e xs)(ha:H a=Vo (.ins C dx fs)):HE b (upd H a o) e xs:=by
 have ne:e≠a:=λz=>by
  unfold HE at h;rw[z,ha]at h;cases b <;> cases h
 unfold HE;rw[Qh ne];exact h
theorem HE.same{b:Bool}{H H':Hp}{e:Vh}{xs:List V}(h:HE b H e xs)(s:Qj H H'):HE b H' e xs:=s _ _ h
section
variable{P:Vg}{w:Vb}{K:VD}{mg:Str->Option Va}{base:Vq}{k i:Nat}{C D a dx:Vh}{m:Str}{sp:Sp}{fs:List (Str×V)}{fl:List Str}{σ:St}{H:Hp}{Q:VK}{E:XK}{t:TA}{b:Bool}
theorem Yja(hs:σ[i]?=Vo (Vo (.ref a)))(ha:H a=Vo (.ins C dx fs))(l:fs.lookup m=Vp)(c:Cls K C)(M:MeV P w K mg base k C m sp)(q:sp [.ref a] H Q E):XPa P w K mg base k m (Yi i) Yca σ H Q E:=XN hs ⟨a,C,dx,fs,sp,rfl,ha,l,c,M,q⟩
theorem JY(hs:σ[i]?=Vo (Vo (.ref a)))(ha:H a=Vo (.ins C dx fs))(l:fs.lookup m=Vp)(c:Cls K C)(M:MeV P w K mg base k C m sp)(q:t σ H λvs H2=>sp (.ref a::vs) H2 Q E):XPa P w K mg base k m (Yi i) t σ H Q E:=XN hs ⟨a,C,dx,fs,sp,rfl,ha,l,c,M,q⟩
end
theorem Xha{H H':Hp}{x dx:Vh}{o u:HO}(hx:H x=Vp)(bM:H dx=Vp)(s:Qj (upd (upd H dx u) x o) H'):Qj H H':=λb v hb=>s _ _ (by rw[Qh (QC hb hx),Qh (QC hb bM)];exact hb)
theorem Jnc{H H':Hp}{d:Vh}{o:HO}(s:Qj H H')(n:H d=Vp):Qj H (upd H' d o):=λb u hb=>by
 rw[Qh (QC hb n)];exact s b u hb
section
variable{X:Cx}{tg:Expr}
end
end L2
end
section
namespace L2
open PySem PySem.Spec PyProof.Rows PySem.W
section
variable{X:Cx}{aa:YP_}{σ:St}{H:Hp}{s:VH}{A:VG}{E:YQ_}
end
section
variable{prog:Vg}{w:Vb}{A:VG}{E:YQ_}{s:VH}{T:String}{r d:Vh}{n:Nat}{P:Nat->Va->Prop}{OK:Vq->Prop}
end
theorem Zoc:∀ {xs:List V} {us:List Va},xs.length=us.length->(∀ (i:Nat) x u,xs[i]?=Vo x->us[i]?=Vo u->QB x u)->Qz xs us
 | [],[],_,_=>.nil
 | x::xs,u::us,l,h=>.cons (h 0 x u rfl rfl) (Zoc (by simpa using l) λi x u a b=>h (i+1) x u (by simpa using a) (by simpa using b))
 | [],u::us,l,_=>by simp at l
 | x::xs,[],l,_=>by simp at l
theorem Joc{ac:List (Key×V)}{vs:List (Key×Va)}{aQ:Array Va}{prog:Vg}{w:Vb}(rv:KV ac vs)(h:ItemsOf (λi v=>∃ k x,vs[i]?=Vo (k,x)/\(QP prog w).is k v=true) aQ vs.length):Qz (ac.map λp=>kV p.1) aQ.toList:=by
 refine Zoc (by have e1:=h.1;have e2:=rv.len;have e3:aQ.toList.length=aQ.size:=V7;rw[UQ];lia) λi x u hx hu=>?_
 rw[Ol]at hx
 obtain⟨⟨k,v⟩,aK,rfl⟩:=Option.map_eq_some_iff.mp hx;obtain⟨u',mw,_⟩:=rv.get aK;obtain⟨k',x',e,hk⟩:=h.2 i u (by rw[<- Array.getElem?_toList];exact hu)
 rw[mw]at e;cases e;exact X0b hk
section
variable{prog:Vg}{w:Vb}{A:VG}{E:YQ_}{s:VH}
end
section
variable{prog:Vg}{w:Vb}{K:Type}[DecidableEq K]{knd:KeyKind prog w K}{A:VG}{E:YQ_}{s:VH}
end
theorem QNd{k:Key}{u:Va}(h:QB (kV k) u):ZLa k u=true/\u.scannable=true:=by
 cases k with
 | inl n=>obtain⟨t,rfl⟩:=h;exact⟨by simp[ZLa,Value.isInt],rfl⟩
 | inr z=>obtain⟨t,rfl⟩:=h;exact⟨by simp[ZLa,Value.isStrOf],rfl⟩
section
variable{X:Cx}{e:Expr}{te:TE}{p pos p2 gJ:Pos}{aa:YP_}{σ:St}{H:Hp}{s:VH}
end
section
variable{X:Cx}
theorem Xhc{A:VG}{prog:Vg}{w:Vb}{s:VH}{E:YQ_}{l b:Vh}{ao ar:Array Va}{n n2:Nat}{o2:Obj}{Q:Fin->VH->Prop}(e:s.heap.get? l=Vo { cls:=.type "list",data:=.seq ao n })(e2:s.heap.get? b=Vo o2)
 (hc:o2.cls=.type "list"\/o2.cls=.type "tuple") (hd:o2.data=.seq ar n2) (hsz:ao.size+ar.size<=Vs) (h:Q (.done (.ret .none)) { s with heap:=s.heap.update l (Oy λx=>x++ar) }) :
 VV (VW prog w) A (Ib.«list.extend» ⟨[.ref l,.ref b],[]⟩) Q E s:=by
 have jI:¬ (!ao.isEmpty && OG (ao.size+ar.size))=true:=by
  rw[Ygc hsz,LG];exact Uh
 show VV _ _ (Builtin.List.listExtendWith (.ref l) (.ref b) .none) _ _ s;unfold Builtin.List.listExtendWith
 rcases hc with hc | hc
 all_goals
  refine Ud (LN ⟨o2,e2,hc⟩ ?_)
  rw[if_pos #[2]]
  refine Ud (LO e2 hd ?_)
  refine Ud (LO e rfl ?_)
  rw[if_neg jI];refine Ud (IN e rfl ?_ #[0] (by rw[Array.size_append];lia))
  exact Uo h
def Ywb(K:VD):V->List V->Hp->VK->Prop:=λx vs H Q=>∃ l b xs zs,x=.ref l/\vs=[.ref b]/\H l=Vo (.lst xs)/\(SqL K H b zs\/SqT K H b zs)/\xs.length+zs.length<=Vs/\Q .non (upd H l (.lst (xs++zs)))
theorem Jaa:MtM X "list.extend" (Ywb X.K):=by
 intro aa s σ H x vs v us Q I rx rv h;obtain⟨l,b,xs,zs,rfl,rfl,hH,hB,hz,q⟩:=h;cases rx;obtain⟨u,rfl,ru⟩:=rv.one;cases ru;obtain⟨z,ag,n,r,hl,e⟩:=I.lstM hH;obtain⟨aG,r2,o2,n2,e2,c2,d2⟩:∃ aG,Qz zs aG/\∃ o2 n2,s.heap.get? b=Vo o2/\(o2.cls=.type "list"\/o2.cls=.type "tuple")/\o2.data=.seq aG.toArray n2:=by
  rcases hB with hB | hB
  ·obtain⟨aG,r2,p,_⟩:=I.list hB
   obtain⟨o,n2,eo,c,d,_⟩:=p;exact⟨aG,r2,o,n2,eo,.inl c,by first | exact d | assumption⟩
  ·obtain⟨aG,r2,⟨o,eo,c,n2,d⟩,_⟩:=I.tuple hB
   exact⟨aG,r2,o,n2,eo,.inr c,d⟩
 have iU:=r2.length;refine U2 (LH F.slot_list_extend.plain F.entry_list_extend (F.slot_list_extend.check _ _ _ _ _ _ _ _ ⟨_,e,rfl⟩ (F.args_list_extend_2 _ _) ?_))
 refine Xhc e e2 c2 d2 (by rw[UE,UE];lia) ?_
 refine⟨.non,_,I.lset (its':=ag++aG) hH e #[2] (r.append r2) ?_,rfl,q⟩
 rw[On]
 lia
end
section
variable{X:Cx}{c:Expr}{a b:V0}{tc:TT}{ta tb:TS1}{pos:Pos}
end
end L2
end
section
namespace L2
open PySem PySem.Spec PyProof.Rows
section
variable{X:Cx}{st b₀:V0}{fJ:List V0}{t1:TS1}{ts:TS}{x n:Str}{D₀ CT:Vh}{np jF pos:Pos}{i:Nat}
end
section
variable{X:Cx}{ea:Vh}{qs:YP_}
end
end L2
end
section
namespace PySem.W
open PySem
def clI(K:VD)(C f:Vh):Bool:=(match findCls K (.ref C) (.type "type") "__init__" with | some (.val v)=>v == .ref f | _=>false) && (specialIn K (.ref C) "__getattribute__" == Vo (Vo (.builtin "type.__getattribute__")) && readsIn K C (.type "type"))
end PySem.W
namespace L2
open PySem PySem.Spec PyProof.Rows
structure ClI(K:VD)(C f:Vh):Prop where
 sp:UV K (.ref C) "__getattribute__"=Vo (Vo (.builtin "type.__getattribute__"))
 rd:W.readsIn K C (.type "type")=true
 ini:W.findCls K (.ref C) (.type "type") "__init__"=Vo (.val (.ref f))
theorem ClI.of{K:VD}{C f:Vh}(h:W.clI K C f=true):ClI K C f:=by
 unfold W.clI at h;rw[OC,OC]at h;obtain⟨a,b,c⟩:=h;refine⟨beq_iff_eq.mp b,c,?_⟩
 split at a
 ·rename_i v e
  rw[e,beq_iff_eq.mp a]
 ·exact(Uh a).elim
def BaI(P:Vg)(w:Vb)(K:VD)(mg:Str->Option Va)(base:Vq)(k:Nat)(x:Str)(sp:Sp):Prop :=
 ∃ C f fd ps,mg x=Vo (.ref C)/\ClI K C f/\UP K (.ref f)=true/\Qy P w K mg base CX0 k f fd ps sp/\ZA K fd ps []
section
variable{X:Cx}{x:Str}{sp:Sp}{e:Expr}{es:List Expr}{t:TA}{p pos ak:Pos}{pl:Sem Bool}{j k:Nat}
theorem Zpb(G:BaI X.prog X.w X.K X.mg X.base j x sp)(hr:Q5 k X.A)(hj:j<=k)(hg:Gl X x)(ha:PA X (e::es) t)(aF:(x == ("__debug__":Str))=false:=by decide)
 (he:VZ (e::es) X.env=(false,VX e X.env)::VZ es X.env:=by rfl) (aI:(VY pos (VZ es X.env)).any (·.1)=false:=by rfl)
 (ht:VX (.Call (.Attribute (.Name x p) "__init__" ak) (e::es) [] pos) X.env=(do
  let ov <- VX (.Name x p) X.env
  V5 ak.atName
  let (f,first) <- V6 [ov] (UH ov "__init__" pl)
  LJ pos f first (VY pos (VZ (e::es) X.env)) (U8 pos (U9 [] X.env))):=by rfl) :
 PE X (.Call (.Attribute (.Name x p) "__init__" ak) (e::es) [] pos) (YLa sp [] E0 t):=by
 obtain⟨C,f,fd,ps,hm,T,kp,F,b⟩:=G;intro aa s σ H Q I h;refine LK (pl:=pl) (JI I hg hm ?_ aF) ht
 refine W.method_cls I.kIn T.sp (W.cls_value I.kIn T.rd T.ini rfl ?_)
 refine U5 (first:=[]) (h₀:=X.base) I.ok.mod.kin kp (thn (ha pos aa _ σ H _ (I.tok _) h) λus s1 ⟨vs,H1,I1,r,q⟩=>⟨I1.kIn,?_⟩) he aI
 rw[LL];exact XPb F (hr.mono hj) b .nil Zfb I1 r q
end
noncomputable instance:DecidableEq Dt:=λa b=>Classical.propDecidable (a=b)
def hV:V->Bool
 | .int _=>true
 | .str _=>true
 | .non=>true
 | _=>false
mutual
def hD:Dt->Bool
 | .v x=>hV x
 | .t xs=>hDs xs
 | .l _=>false
def hDs:List Dt->Bool
 | []=>true
 | x::xs=>hD x && hDs xs
end
theorem Zpc:∀ {xs:List Dt},hDs xs=true->∀ x∈xs,hD x=true
 | [],_,x,h=>nomatch h
 | y::ys,h,x,hx=>by
  unfold hDs at h;rw[OC]at h
  rcases mem_cons.mp hx with e | hx
  ·rw[e];exact h.1
  ·exact Zpc h.2 x hx
theorem Xic:∀ {xs:List Dt},(∀ x∈xs,hD x=true)->hDs xs=true
 | [],_=>by unfold hDs;rfl
 | y::ys,h=>by
  unfold hDs;rw[h y VN,Xic λx hx=>h x (VO _ hx)];rfl
mutual
def haD(w:Vb):Dt->Int
 | .v (.int i)=>hashInt i
 | .v (.str x)=>hashStr w x
 | .v _=>reduceHash 0xFCA86420
 | .t xs=>reduceHash (LP (Z2b w xs))
 | .l _=>0
def Z2b(w:Vb):List Dt->List Int
 | []=>[]
 | x::xs=>haD w x::Z2b w xs
end
mutual
def drD:Dt->Nat
 | .v _=>1
 | .t xs=>Jba xs+1
 | .l _=>0
def Jba:List Dt->Nat
 | []=>0
 | x::xs=>drD x+Jba xs
end
theorem Yka(w:Vb)(y:Dt):∀ xs,Z2b w (xs++[y])=Z2b w xs++[haD w y]
 | []=>by simp[Z2b]
 | x::xs=>by rw[cons_append];unfold Z2b;rw[Yka w y xs];rfl
theorem Yla(y:Dt):∀ xs,Jba (xs++[y])=Jba xs+drD y
 | []=>by simp[Jba]
 | x::xs=>by
  rw[cons_append];have h1:Jba (x::(xs++[y]))=drD x+Jba (xs++[y]):=by rw[Jba]
  have h2:Jba (x::xs)=drD x+Jba xs:=by rw[Jba]
  rw[h1,h2,Yla y xs];lia
def YJ(h:Vq):Nat->Dt->Va->Prop
 | 0,.v x,u=>hV x=true/\QB x u
 | 0,.t _,_=>False
 | 0,.l _,_=>False
 | _+1,.v x,u=>hV x=true/\QB x u
 | n+1,.t ds,u=>∃ (a:Vh) (ag:List Va),u=.ref a/\Vt h a ag.toArray/\Vm (λd v=>YJ h n d v) ds ag
 | _+1,.l _,_=>False
theorem YJ.flat{h:Vq}{n:Nat}{x:V}{u:Va}:YJ h n (.v x) u->hV x=true/\QB x u:=by
 cases n <;> exact id
theorem YJ.tup{h:Vq}{n:Nat}{ds:List Dt}{u:Va}(q:YJ h n (.t ds) u):∃ m a ag,n=m+1/\u=.ref a/\Vt h a (Iw ag)/\Vm (λd v=>YJ h m d v) ds ag:=by
 cases n with
 | zero=>exact q.elim
 | succ m=>obtain⟨a,ag,e,p,r⟩:=q;exact⟨m,a,ag,rfl,e,p,r⟩
theorem Yxb{x y:V}{u:Va}(hx:hV x=true)(hy:hV y=true)(r:QB x u)(q:QB y u):x=y:=by
 cases x <;> first | exact(Uh hx).elim | skip
 all_goals (cases y <;> first | exact(Uh hy).elim | skip)
 all_goals simp only[QB]at r q
 all_goals first
  | rfl
  | (obtain⟨t,rfl⟩:=r;obtain⟨t',e⟩:=q;cases e;rfl)
  | (obtain⟨t,rfl⟩:=r;obtain⟨t',e⟩:=q;cases e)
  | (obtain⟨t,rfl⟩:=r;cases q)
  | (subst r;obtain⟨t',e⟩:=q;cases e)
theorem XQa{x:V}{a:Vh}(hx:hV x=true)(r:QB x (.ref a)):False:=by
 cases x <;> first | exact(Uh hx).elim | skip
 ·cases (show Vk a=Vi from r)
 ·obtain⟨t,e⟩:=r;cases e
 ·obtain⟨t,e⟩:=r;cases e
theorem Jpc{h:Vq}{a:Vh}{xs ys:List Va}(p:Vt h a xs.toArray)(q:Vt h a ys.toArray):xs=ys:=by
 obtain⟨o,ho,_,n,hd⟩:=p;obtain⟨o',aN,_,n',bo⟩:=q;rw[ho]at aN;cases aN;rw[hd]at bo;injection bo with e _
 injection e
theorem XRa{α β:Type}{F G:α->β->Prop}(det:∀ a b u,F a u->G b u->a=b):∀ {xs ys:List α} {us:List β},Vm F xs us->Vm G ys us->xs=ys
 | _,_,_,.nil,.nil=>rfl
 | _,_,_,.cons r t,.cons r' t'=>by rw[det _ _ _ r r',XRa det t t']
theorem YJ.inj{h:Vq}:∀ (n m:Nat) (x y:Dt) (u:Va),YJ h n x u->YJ h m y u->x=y:=by
 intro n
 induction n with
 | zero =>
  intro m x y u p q;cases x with
  | v x =>
   cases y with
   | v y=>obtain⟨a,b⟩:=p;obtain⟨c,d⟩:=q.flat;rw[Yxb a c b d]
   | t ds=>obtain⟨m,a,ag,_,rfl,_⟩:=q.tup;exact(XQa p.1 p.2).elim
   | l _=>cases m <;> exact q.elim
  | t _=>exact p.elim
  | l _=>exact p.elim
 | succ n ih =>
  intro m x y u p q;cases x with
  | v x =>
   cases y with
   | v y=>obtain⟨a,b⟩:=p;obtain⟨c,d⟩:=q.flat;rw[Yxb a c b d]
   | t ds=>obtain⟨m,a,ag,_,rfl,_⟩:=q.tup;exact(XQa p.1 p.2).elim
   | l _=>cases m <;> exact q.elim
  | t ds =>
   obtain⟨a,ag,rfl,p1,r⟩:=p;cases y with
   | v y=>obtain⟨c,d⟩:=q.flat;exact(XQa c d).elim
   | t es =>
    obtain⟨m',a',its',_,e,p2,r2⟩:=q.tup;cases e;have:=Jpc p1 p2;subst this;rw[XRa (λa b u h1 h2=>ih m' a b u h1 h2) r r2]
   | l _=>cases m <;> exact q.elim
  | l _=>exact p.elim
theorem YJ.keeps{h h':Vq}{e:Vh}{o:Obj}{es ep}(ho:h.get? e=Vo o)(hd:o.data=.dict es ep)(hs:VU e h h'):∀ (n:Nat) (d:Dt) (u:Va),YJ h n d u->YJ h' n d u:=by
 intro n
 induction n with
 | zero=>intro d u q;cases d <;> exact q
 | succ n ih =>
  intro d u q;cases d with
  | v x=>exact q
  | l x=>exact q
  | t ds =>
   obtain⟨a,ag,rfl,⟨o',aN,hc,m,bo⟩,r⟩:=q;have au:a≠e:=by
    intro z;subst z;rw[ho]at aN;cases aN;rw[hd]at bo;exact nomatch bo
   exact⟨a,ag,rfl,⟨o',(hs.2 a au).trans aN,hc,m,bo⟩,Paired.mapP r λd v z=>ih d v z⟩
section
variable{prog:Vg}{w:Vb}{E:YQ_}
theorem Xjc{A:VG}{s:VH}{x:V}{u:Va}{Q:Int->VH->Prop}(f:hV x=true)(r:QB x u)(h:Q (haD w (.v x)) { s with toks:=s.toks+drD (.v x) }):VV (VW prog w) A (pyHash u) Q E s:=by
 have e1:drD (.v x)=1:=by rw[drD]
 rw[e1]at h;cases x <;> first | exact(Uh f).elim | skip
 ·cases (show u=Vi from r)
  rw[haD]at h;exact W.pyHash_slot (T:="NoneType") rfl F.slot_NoneType_hash F.entry_NoneType_hash (F.args_NoneType_hash_1 _) (beq_builtin_none _) (.inl rfl) (Ud (Uo (Ud (wpAny_mkInt (Uo ⟨_,_,rfl,h⟩)))))
  all_goals (intros;rename_i z;cases z)
 ·obtain⟨t,rfl⟩:=r
  rw[haD]at h;exact wpAny_pyHash_int h
 ·obtain⟨t,rfl⟩:=r
  rw[haD]at h;exact wpAny_pyHash_str h
theorem Jmd:∀ (n:Nat) {A:VG} {s:VH} {d:Dt} {u:Va} {Q:Int->VH->Prop},A.units+n < UY->YJ s.heap n d u->Q (haD w d) { s with toks:=s.toks+drD d }->VV (VW prog w) A (pyHash u) Q E s:=by
 intro n
 induction n with
 | zero =>
  intro A s d u Q hu x h;cases d with
  | v x'=>exact Xjc x.1 x.2 h
  | t _=>exact x.elim
  | l _=>exact x.elim
 | succ n ih =>
  intro A s d u Q hu x h;cases d with
  | v x'=>exact Xjc x.1 x.2 h
  | l _=>exact x.elim
  | t ds =>
   obtain⟨a,ag,rfl,⟨o,ho,hc,m,hd⟩,r⟩:=x;refine W.pyHash_slot (T:="tuple") ⟨o,ho,hc⟩ F.slot_tuple_hash F.entry_tuple_hash (F.args_tuple_hash_1 _) (beq_builtin_none _) (.inr #[0]) ?_
   show VV _ _ (Builtin.Tuple.tupleItemsOf (.ref a) >>= _) _ _ s;refine Ud (wpAny_tupleItemsOf ho hd ?_)
   refine Ud ?_
   rw[<- LQ];refine wpAny_forIn_list _
    (λrest (b:Array Int) s'=>∃ done left,ds=done++left/\Vm (λd v=>YJ s.heap n d v) left rest/\b.toList=Z2b w done/\s'={ s with toks:=s.toks+Jba done })
    _ ?_ ?_ _ _ ⟨[],ds,rfl,by simpa using r,by simp[Z2b],by simp[Jba]⟩
   ·rintro x rest b s' ⟨done,left,rfl,hl,hb,rfl⟩
    cases hl with
    | @cons k _ qW _ h1 dk =>
     refine Ud (ih (s:={ s with toks:=s.toks+Jba done }) (by show A.units+1+n < _;lia) h1 ?_)
     first
      | exact Uo ⟨done++[k],qW,by simp,dk,by simp[hb,Yka],by simp[Yla,Nat.add_assoc]⟩
      | exact Ud (Uo (Uo ⟨done++[k],qW,by simp,dk,by simp[hb,Yka],by simp[Yla,Nat.add_assoc]⟩))
   ·rintro b s' ⟨done,left,rfl,hl,hb,rfl⟩
    cases hl;rw[U1]at h;show VV _ _ (retInt (LP b.toList)) _ _ _;rw[hb];refine Ud (wpAny_mkInt (Uo ⟨_,_,rfl,?_⟩))
    have e1:haD w (.t done)=reduceHash (LP (Z2b w done)):=by rw[haD]
    have e2:drD (.t done)=Jba done+1:=by rw[drD]
    rw[e1,e2]at h;exact h
end
theorem Xkc{x y:V}(hx:hV x=true)(hy:hV y=true):eqV x y=decide (Dt.v x=Dt.v y):=by
 have:eqV x y=decide (x=y):=by
  cases x <;> first | exact(Uh hx).elim | skip
  all_goals (cases y <;> first | exact(Uh hy).elim | skip)
  all_goals first | (simp[eqV];done) | (rw[eqV,UC,beq_iff_eq,decide_eq_true_iff];exact⟨λe=>by rw[e],λe=>by injection e⟩)
 rw[this,UC,decide_eq_true_iff,decide_eq_true_iff];exact⟨λe=>by rw[e],λe=>by injection e⟩
theorem Xia{x:V}(h:hV x=true):Yd x=true:=by
 cases x <;> first | rfl | exact(Uh h).elim
theorem Xlc{ds es:List Dt}{e:Nat->Bool}(he:∀ i,i < ds.length->i < es.length->e i=decide (ds.getD i default=es.getD i default)):((VC (min ds.length es.length)).all e && (ds.length == es.length))=decide (Dt.t ds=Dt.t es):=by
 rw[UC,decide_eq_true_iff,OC,beq_iff_eq,Ig]
 constructor
 ·rintro⟨h1,h2⟩
  congr 1
  refine IG h2 λi a b=>?_
  have:=h1 i (mem_range.mpr #[0])
  rw[he i a b,decide_eq_true_iff]at this;rw[Y9 (IE a),Y9 (IE b)]at this
  exact this
 ·intro h
  injection h with h
  subst h;refine⟨λi hi=>?_,rfl⟩
  have:=mem_range.mp hi;rw[he i #[0] #[0],decide_eq_true_iff]
theorem QD{α β:Type}{F:α->β->Prop}:∀ {xs:List α} {us:List β} {i:Nat} {x:α} {u:β},Vm F xs us->xs[i]?=Vo x->us[i]?=Vo u->F x u
 | _,_,_,_,_,.nil,h,_=>by simp at h
 | _,_,0,_,_,.cons r _,h,h'=>by simp at h h';rw[<- h,<- h'];exact r
 | _,_,i+1,_,_,.cons _ t,h,h'=>QD (i:=i) t (by simpa using h) (by simpa using h')
theorem YFd:∀ (n:Nat) {A:VG} {s:VH} {d d':Dt} {u v:Va},A.units+n < UY->YJ s.heap n d u->YJ s.heap n d' v->Oq A s u v (decide (d=d')):=by
 intro n;have flat:∀ {A:VG} {s:VH} {x y:V} {u v:Va},hV x=true->QB x u->hV y=true->QB y v->Oq A s u v (decide (Dt.v x=Dt.v y)):=λf r f' r'=>by
  rw[<- Xkc f f'];exact Xwa r r' (Xia f) (Xia f')
 induction n with
 | zero =>
  intro A s d d' u v hu p q;cases d with
  | v x =>
   cases d' with
   | v y=>exact flat p.1 p.2 q.1 q.2
   | t _=>exact q.elim
   | l _=>exact q.elim
  | t _=>exact p.elim
  | l _=>exact p.elim
 | succ n ih =>
  intro A s d d' u v hu p q;have aA:A.units < UY:=by lia
  cases d with
  | l _=>exact p.elim
  | v x =>
   cases d' with
   | l _=>exact q.elim
   | v y=>exact flat p.1 p.2 q.1 q.2
   | t es =>
    obtain⟨b,its',rfl,p2,r2⟩:=q;obtain⟨f,r⟩:=p;rw[show decide (Dt.v x=Dt.t es)=false from decide_eq_false (λz=>nomatch z)]
    cases x <;> first | exact(Uh f).elim | skip
    ·cases (show u=Vi from r);exact .none_tuple p2 aA
    ·obtain⟨t,rfl⟩:=r;exact .int_tuple _ _ p2 aA
    ·obtain⟨t,rfl⟩:=r;exact .str_tuple _ _ p2 aA
  | t ds =>
   obtain⟨a,ag,rfl,p1,r1⟩:=id p;cases d' with
   | l _=>exact q.elim
   | v y =>
    obtain⟨f,r⟩:=q;rw[show decide (Dt.t ds=Dt.v y)=false from decide_eq_false (λz=>nomatch z)]
    cases y <;> first | exact(Uh f).elim | skip
    ·cases (show v=Vi from r);exact .tuple_none p1 aA
    ·obtain⟨t,rfl⟩:=r;exact .tuple_int _ _ p1 aA
    ·obtain⟨t,rfl⟩:=r;exact .tuple_str _ _ p1 aA
   | t es =>
    obtain⟨b,its',rfl,p2,r2⟩:=id q
    by_cases ab:a=b
    ·subst ab
     rw[show decide (Dt.t ds=Dt.t es)=true from decide_eq_true (YJ.inj _ _ _ _ _ p q)]
     exact .same _
    ·have l1:=Vn r1
     have l2:=Vn r2;have z:=SeqAt.RcAt.tuples (A:=A) (e:=λi=>decide (ds.getD i default=es.getD i default)) p1 p2 aA λj h1 h2=>by
      have j1:j < ag.length:=by simpa using h1
      have j2:j < its'.length:=by simpa using h2
      have g1:ds[j]?=Vo (ds[j]'#[0]):=IE _
      have g2:es[j]?=Vo (es[j]'#[0]):=IE _
      have w1:=QD r1 g1 (IE j1)
      have w2:=QD r2 g2 (IE j2)
      rw[Y9 g1,Y9 g2];exact ih (A:=A.in1) (by show A.units+1+n < _;lia) w1 w2
     rw[UE,UE,<- l1,<- l2,Xlc λi _ _=>rfl]at z
     exact .of_refs ab z
section
variable{prog:Vg}{w:Vb}{E:YQ_}
theorem Zqc{A:VG}{s:VH}{x:V}{u:Va}{m:Nat}{Q:Bool->VH->Prop}(f:hV x=true)(r:QB x u)(h:Q true s):VV (VW prog w) A (eqIsQuiet m u) Q E s:=by
 have:carriedByValue u=true:=by
  cases x <;> first | exact(Uh f).elim | skip
  ·cases (show u=Vi from r);rfl
  ·obtain⟨t,rfl⟩:=r;rfl
  ·obtain⟨t,rfl⟩:=r;rfl
 rw[eqIsQuiet_byValue _ this];exact Uo h
theorem QOd:∀ (n m:Nat) {A:VG} {s:VH} {d:Dt} {u:Va} {Q:Bool->VH->Prop},n<=m->YJ s.heap n d u->Q true s->VV (VW prog w) A (eqIsQuiet m u) Q E s:=by
 intro n
 induction n with
 | zero =>
  intro m A s d u Q _ p h;cases d with
  | v x=>exact Zqc p.1 p.2 h
  | t _=>exact p.elim
  | l _=>exact p.elim
 | succ n ih =>
  intro m A s d u Q hm p h;cases d with
  | v x=>exact Zqc p.1 p.2 h
  | l _=>exact p.elim
  | t ds =>
   obtain⟨k,rfl⟩:∃ k,m=k+1:=⟨m - 1,by lia⟩
   obtain⟨a,ag,rfl,⟨o,ho,hc,j,hd⟩,r⟩:=p;have hT:s.TypeIs (.ref a) "tuple":=⟨o,ho,hc⟩;unfold eqIsQuiet;refine Ud (wpAny_specialOf hT F.slot_tuple_eq.lookup ?_)
   show VV _ _ (isInstance (.ref a) (.type "tuple") >>= _) _ _ s;refine Ud (wpAny_isInstance hT isSubtype_tuple_tuple ?_)
   simp only[Bool.not_true,O8,if_false];refine Ud (Lh ho hd ?_)
   refine Ud ?_
   show VV _ _ (forIn ag.toArray _ _) _ _ s;rw[<- LQ];refine wpAny_forIn_list _ (λrest r s'=>r.1=Vp/\s'=s/\∃ left,Vm (λd v=>YJ s.heap n d v) left rest) _ ?_ ?_ _ _ ⟨rfl,rfl,ds,by simpa using r⟩
   ·rintro v rest r s' ⟨hr,rfl,left,hl⟩
    cases hl with
    | cons h1 dk =>
     refine Ud (ih k #[0] h1 ?_)
     simp only[Bool.not_true,O8,if_false];exact Uo ⟨rfl,rfl,_,dk⟩
   ·rintro⟨r1,r2⟩ s' ⟨hr,rfl,_⟩
    simp only at hr;subst hr;exact Uo h
end
noncomputable def QTa (prog:Vg) (w:Vb):HeapKind prog w Dt where
 is:=λh d a=>YJ h 8 d (.ref a)
 hash:=haD w
 draws:=drD
 room:=λA=>A.units+8 < UY
 inj:=λp q=>YJ.inj _ _ _ _ _ p q
 keeps:=λp ho hd hs=>YJ.keeps ho hd hs _ _ _ p
 pyHash:=λhu p h=>Jmd 8 hu p h
 eqBool:=λhu p q h=>YFd 8 hu p q _ _ _ _ h
 quiet:=λp h=>QOd 8 8 (Uu _) p h
end L2
end
section
namespace PySem
theorem ZAa{α β:Type}(f:α->β):∀ (xs:List α) (i:Nat),(xs.map f).eraseIdx i=(xs.eraseIdx i).map f
 | [],_=>by simp
 | x::xs,0=>by simp
 | x::xs,i+1=>by simp[ZAa f xs i]
section
variable{prog:Vg}{w:Vb}{K:Type}[DecidableEq K]{knd:HeapKind prog w K}{A:VG}{E:YQ_}{s:VH}
end
end PySem
namespace L2
open PySem PySem.Spec PyProof.Rows
abbrev NX:=List (Dt×Vh×V)
def NKV:NX->List (Dt×Vh×Va)->Prop:=Vm λp q=>p.1=q.1/\p.2.1=q.2.1/\QB p.2.2 q.2.2
def isN(P:Vg)(w:Vb)(a:Vh)(xs:NX)(h:Vq):Prop:=xs.length<=Vs/\(a == Vu)=false/\∃ ys,NKV xs ys/\∃ o es ep,h.get? a=Vo o/\o.ExactDict/\o.data=.dict es ep/\es.toList=ys.map (entryOfKey (QTa P w))/\(ys.map (·.1)).Nodup
def dN(P:Vg)(w:Vb)(a:Vh)(xs:NX):HO:=.ext (isN P w a xs)
structure XSa(P:Vg)(w:Vb)(K:VD)(H:Hp)(a:Vh)(xs:NX):Prop where
 at_:H a=Vo (dN P w a xs)
 keys:∀ x∈xs,Rep K H 8 x.1 (.ref x.2.1)/\hD x.1=true
noncomputable def Jca (xs:NX) (d:Dt):Option V:=(xs.find? λx=>decide (x.1=d)).map (·.2.2)
theorem Zqb{α β:Type}{F:α->β->Prop}:∀ {xs:List α} {us:List β},xs.length=us.length->(∀ (i:Nat) x u,xs[i]?=Vo x->us[i]?=Vo u->F x u)->Vm F xs us
 | [],[],_,_=>.nil
 | [],_::_,h,_=>by simp at h
 | _::_,[],h,_=>by simp at h
 | x::xs,u::us,h,f=>.cons (f 0 _ _ rfl rfl) (Zqb (by simpa using h) λi a b ha hb=>f (i+1) a b (by simpa using ha) (by simpa using hb))
theorem Yyb{P:Vg}{w:Vb}{a:Vh}{xs:NX}(h1 h2:Vq)(p:isN P w a xs h1)(k:∀ o,h1.get? a=Vo o->h2.get? a=Vo o):isN P w a xs h2:=by
 obtain⟨z,y,ys,r,o,es,ep,e,c⟩:=p;exact⟨z,y,ys,r,o,es,ep,k o e,c⟩
section
variable{X:Cx}{aa:YP_}{σ:St}{H:Hp}{s:VH}{a b:Vh}{xs:NX}{d:Dt}
theorem Rep.has(I:Inv X aa σ H s){n:Nat}{x:V}(r:Rep X.K H n d x):∀ {u:Va},hD d=true->QB x u->YJ s.heap n d u:=by
 induction r with
 | @v n x f =>
  intro u h r;rw[hD]at h;cases n <;> exact⟨h,r⟩
 | t h e r1 ih =>
  intro u hh r;cases (show u=Vk _ from r)
  rw[hD]at hh;obtain⟨ag,w1,p,_⟩:=I.tuple h;have l1:=w1.length;refine⟨_,ag,rfl,p,Zqb #[0] λi d u hd hu=>?_⟩
  have hi:=(List.getElem?_eq_some_iff.mp hu).1
  obtain⟨u',e',r'⟩:=w1.get (i:=i) (IE #[0])
  rw[hu]at e';cases e';exact ih i d _ hd (IE #[0]) (Zpc hh d (Om hd)) r'
 | l h e _ _ =>
  intro u hh _;rw[hD]at hh;exact(Uh hh).elim
theorem XSa.dict(I:Inv X aa σ H s)(g:XSa X.prog X.w X.K H a xs):xs.length<=Vs/\(a == Vu)=false/\∃ ys,NKV xs ys/\s.heap.DictOfH (QTa X.prog X.w) a ys:=by
 obtain⟨⟨z,y,ys,r,o,es,ep,h1,h2,h3,h4,h5⟩,_,_⟩:=(show QN X.prog X.w H s.heap a (dN X.prog X.w a xs) from I.hok a _ g.at_)
 refine⟨z,y,ys,r,o,es,ep,h1,h2,h3,h4,λq hq=>?_,h5⟩
 obtain⟨i,hi⟩:=mem_iff_getElem?.mp hq;have l:=Vn r;have hp:xs[i]?=Vo (xs[i]'(by have:=(List.getElem?_eq_some_iff.mp hi).1;lia)):=IE _
 have z:=QD r hp hi;rw[<- z.1,<- z.2.1];have k:=g.keys _ (Om hp);exact k.1.has I k.2 rfl
theorem NKV.val{xs:NX}{ys:List (Dt×Vh×Va)}(r:NKV xs ys)(d:Dt):Yh (Jca xs d) ((OV ys d).map (·.2)):=by
 induction r with
 | nil=>exact UR
 | @cons p q ps qs hq t ih =>
  unfold Jca OV;rw[OO,OO,<- hq.1]
  by_cases e:p.1=d
  ·rw[decide_eq_true e];exact hq.2.2
  ·rw[decide_eq_false e];exact ih
theorem NKV.none{xs:NX}{ys:List (Dt×Vh×Va)}(r:NKV xs ys){d:Dt}(h:Jca xs d=Vp):OV ys d=Vp:=by
 have:=r.val d;rw[h]at this;cases e:OV ys d with
 | none=>rfl
 | some p=>rw[e]at this;exact this.elim
theorem NKV.some{xs:NX}{ys:List (Dt×Vh×Va)}(r:NKV xs ys){d:Dt}:(Jca xs d).isSome=(OV ys d).isSome:=by
 have:=(r.val d).isSome_eq;rw[Option.isSome_map]at this;exact this
variable{A:VG}{E:YQ_}
theorem YGd{Q:YQ_}(hu:A.units+9 < UY)(I:Inv X aa σ H s)(g:XSa X.prog X.w X.K H a xs)(r:Rep X.K H 8 d (.ref b))(hd:hD d=true)(h:∀ s',Inv X aa σ H s'->Q (.bool (Jca xs d).isSome) s') :
 VV (VW X.prog X.w) A (V2 .In (.ref b) (.ref a)) Q E s:=by
 obtain⟨z,y,ys,aJ,dd⟩:=g.dict I;refine wpAny_in_heap (knd:=QTa X.prog X.w) (show A.units+1+8 < UY by lia) (r.has I hd rfl) y dd ?_
 rw[<- aJ.some];exact h _ (I.tok _)
theorem Ymd{v:V}{Q:YQ_}(hu:A.units+9 < UY)(I:Inv X aa σ H s)(g:XSa X.prog X.w X.K H a xs)(r:Rep X.K H 8 d (.ref b))(hd:hD d=true)(l:Jca xs d=Vo v)(h:∀ w' s',Inv X aa σ H s'->QB v w'->Q w' s') :
 VV (VW X.prog X.w) A (Ou (.ref a) (.ref b)) Q E s:=by
 obtain⟨z,y,ys,aJ,dd⟩:=g.dict I;obtain⟨w',hw,br⟩:=Yh.some_of (v:=v) (o:=(OV ys d).map (·.2)) (by rw[<- l];exact aJ.val d)
 obtain⟨p,hp,aP⟩:=Option.map_eq_some_iff.mp hw;refine wpAny_getItem_heap (knd:=QTa X.prog X.w) (show A.units+1+8 < UY by lia) (r.has I hd rfl) dd hp ?_
 rw[aP];exact h w' _ (I.tok _) br
theorem Ynd{v:V}{u:Va}{Q:Unit->VH->Prop}(hu:A.units+9 < UY)(I:Inv X aa σ H s)(g:XSa X.prog X.w X.K H a xs)(r:Rep X.K H 8 d (.ref b))(hd:hD d=true)(l:Jca xs d=Vp)(hl:xs.length < Vs)(rv:QB v u)
 (h:∀ s',Inv X aa σ (upd H a (dN X.prog X.w a (xs++[(d,b,v)]))) s'->Q () s'):VV (VW X.prog X.w) A (setItem (.ref a) (.ref b) u) Q E s:=by
 obtain⟨z,y,ys,aJ,dd⟩:=g.dict I;refine wpAny_setItem_heap (knd:=QTa X.prog X.w) (hsz:=by rw[<- Vn aJ];exact z) (show A.units+1+8 < UY by lia) (r.has I hd rfl) dd λh' dS hs=>h _ ?_
 obtain⟨q,es,ep,hq,h2,h3,h4,_,h5⟩:=dS;rw[storedH_new (aJ.none l)]at h4 h5;refine Xba I (by rw[g.at_];exact UR) hs ⟨q,hq⟩ ⟨⟨by rw[On];exact hl,y,_,OS aJ ⟨rfl,rfl,rv⟩,q,es,ep,hq,h2,h3,h4,h5⟩,⟨q,hq⟩,Yyb⟩
theorem XSa.typeIs(I:Inv X aa σ H s)(g:XSa X.prog X.w X.K H a xs):s.TypeIs (.ref a) "dict":=let ⟨_,_,_,_,dd⟩:=g.dict I;dd.typeIs
end
def Yod(P:Vg)(w:Vb)(K:VD)(ty td:TE):TE:=λσ H Q=>ty σ H λy H1=>td σ H1 λx H2=>∃ a b xs d,x=.ref a/\y=.ref b/\XSa P w K H2 a xs/\Rep K H2 8 d (.ref b)/\hD d=true/\Q (.bl (Jca xs d).isSome) H2
def Zyd(P:Vg)(w:Vb)(K:VD)(td ty:TE):TE:=λσ H Q=>td σ H λx H1=>ty σ H1 λy H2=>∃ a b xs d v,x=.ref a/\y=.ref b/\XSa P w K H2 a xs/\Rep K H2 8 d (.ref b)/\hD d=true/\Jca xs d=Vo v/\Q v H2
def Zzd(P:Vg)(w:Vb)(K:VD)(td ty tv:TE):TS:=λD σ H=>tv σ H λv H1=>td σ H1 λx H2=>ty σ H2 λy H3=>∃ a b xs d,x=.ref a/\y=.ref b/\XSa P w K H3 a xs/\Rep K H3 8 d (.ref b)/\hD d=true/\Jca xs d=Vp/\xs.length < Vs/\D.nx σ (upd H3 a (dN P w a (xs++[(d,b,v)])))
def ZAd(P:Vg)(w:Vb):TE:=λ_ H Q=>∀ p,H p=Vp->Q (.ref p) (upd H p (dN P w p []))
section
variable{X:Cx}{o i e value:Expr}{pos aH ak aq:Pos}{td ty tv:TE}
theorem Jnd(hu:X.A.units+9 < UY)(hi:PE X i ty)(ho:PE X o td):PC X .In i o (Yod X.prog X.w X.K ty td):=by
 intro aa s σ H Q I h;refine thn (hi aa s σ H _ I h) λiv s1 ⟨y,H1,I1,ry,q1⟩=>thn (ho aa s1 σ H1 _ I1 q1) λu s2 hZ=>?_
 obtain⟨x,H2,I2,rx,a,b,xs,d,ex,ey,g,r,hd,q2⟩:=hZ;subst ex ey;obtain rfl:u=Vk a:=rx;obtain rfl:iv=Vk b:=ry;exact YGd hu I2 g r hd λs3 I3=>⟨.bl (Jca xs d).isSome,H2,I3,rfl,q2⟩
theorem QPd(hu:X.A.units+9 < UY)(ho:PE X o td)(hi:PE X i ty)(hs:ZZd i):PE X (.Subscript o i pos) (Zyd X.prog X.w X.K td ty):=by
 intro aa s σ H Q I h;refine Q9c F.slot_dict_getitem.lookup hs (thn (ho aa s σ H _ I h) λu s1 ⟨x,H1,I1,rx,q1⟩=>thn (hi aa s1 σ H1 _ I1 q1) λiv s2 hZ=>?_)
 obtain⟨y,H2,I2,ry,a,b,xs,d,v,ex,ey,g,r,hd,l,q2⟩:=hZ;subst ex ey;obtain rfl:u=Vk a:=rx;obtain rfl:iv=Vk b:=ry;exact⟨g.typeIs I2,Ymd hu I2 g r hd l λw' s3 I3 br=>⟨v,H2,I3,br,q2⟩⟩
theorem QQd(hu:X.A.units+9 < UY)(ho:PE X o td)(hi:PE X i ty)(hv:PE X value tv)(hs:Ua value (Vo (.Subscript o i aH)) pos.line X.env=pure false) :
 PS X (.Assign [.Subscript o i aH] value pos) (Zzd X.prog X.w X.K td ty tv):=by
 intro aa s σ H D I h;refine wpAny_Assign_Subscript (thn (hv aa s σ H _ I h) λr s1 ⟨v,H1,I1,rv,q1⟩=>thn (ho aa s1 σ H1 _ I1 q1) λu s2 ⟨x,H2,I2,rx,q2⟩=>thn (hi aa s2 σ H2 _ I2 q2) λiv s3 hZ=>?_) hs
 obtain⟨y,H3,I3,ry,a,b,xs,d,ex,ey,g,rp,hd,l,hl,q3⟩:=hZ;subst ex ey;obtain rfl:u=Vk a:=rx;obtain rfl:iv=Vk b:=ry;exact Ynd hu I3 g rp hd l hl rv λs4 I4=>⟨σ,_,I4,q3⟩
theorem Xmc{P:Vg}{w:Vb}{H:Hp}(h:Vq)(hb:Vu < h.objs.size):QN P w H (h.push { cls:=.type "dict",data:=.dict #[] }) h.objs.size (dN P w h.objs.size []) :=
 ⟨⟨Uy _,beq_eq_false_iff_ne.mpr (VR (VB hb)),[],.nil,_,#[],0,Ut _ rfl,⟨rfl,rfl,rfl⟩,rfl,rfl,LR⟩,⟨_,Ut _ rfl⟩,Yyb⟩
theorem Xnc:PE X (.Dict [] [] pos) (ZAd X.prog X.w):=λaa s σ H Q I h =>
 wpAny_Dict_empty ⟨.ref s.heap.objs.size,_,I.laid (a:=s.heap.objs.size) (o:=dN X.prog X.w s.heap.objs.size []) (t':=s.toks) (λ_ _ q=>Us _ q) (Uu _) (Xmc s.heap I.big),rfl,h _ (I.hok.fresh (Uu _))⟩
end
theorem Q5.u9{k:Nat}{A:VG}(r:Q5 k A):A.units+9 < UY:=by have:=r.un;lia
def TD(H:Hp):Nat->Dt->V->Prop
 | 0,.v x,y=>hV x=true/\y=x
 | 0,.t _,_=>False
 | 0,.l _,_=>False
 | _+1,.v x,y=>hV x=true/\y=x
 | n+1,.t ds,y=>∃ (a:Vh) (xs:List V),y=.ref a/\H a=Vo (.tup xs)/\Vm (λd v=>TD H n d v) ds xs
 | _+1,.l _,_=>False
section
variable{H H':Hp}{K:VD}
theorem TD.flat{n:Nat}{x y:V}:TD H n (.v x) y->hV x=true/\y=x:=by cases n <;> exact id
theorem TD.ofV{n:Nat}{x:V}(f:hV x=true):TD H n (.v x) x:=by cases n <;> exact⟨f,rfl⟩
inductive ZBd(H:Hp)(n:Nat)(ds:List Dt)(y:V):Prop
 | mk (m:Nat) (a:Vh) (xs:List V) (e:n=m+1) (e2:y=.ref a) (h:H a=Vo (.tup xs)) (r:Vm (λd v=>TD H m d v) ds xs):ZBd H n ds y
theorem TD.tup{n:Nat}{ds:List Dt}{y:V}(q:TD H n (.t ds) y):ZBd H n ds y:=by
 cases n with
 | zero=>exact q.elim
 | succ m=>obtain⟨a,xs,e,h,r⟩:=q;exact⟨m,a,xs,rfl,e,h,r⟩
theorem TD.ofT{n:Nat}{a:Vh}{xs:List V}{ds:List Dt}(h:H a=Vo (.tup xs))(r:Vm (λd v=>TD H n d v) ds xs):TD H (n+1) (.t ds) (.ref a):=⟨a,xs,rfl,h,r⟩
theorem TD.sameT(s:Zt H H'):∀ (n:Nat) {d:Dt} {y:V},TD H n d y->TD H' n d y:=by
 intro n
 induction n with
 | zero=>intro d y q;cases d <;> exact q
 | succ n ih =>
  intro d y q;cases d with
  | v x=>exact q
  | l x=>exact q
  | t ds=>obtain⟨a,xs,e,h,r⟩:=q;exact⟨a,xs,e,s _ _ h,Paired.mapP r λd v z=>ih z⟩
theorem TD.same{n:Nat}{d:Dt}{y:V}(q:TD H n d y)(s:Qj H H'):TD H' n d y:=TD.sameT s.t n q
theorem TD.rep:∀ (n:Nat) {d:Dt} {y:V},TD H n d y->Rep K H n d y:=by
 intro n
 induction n with
 | zero =>
  intro d y q;cases d with
  | v x=>obtain⟨f,e⟩:=q;subst e;exact .v (Xia f)
  | t _=>exact q.elim
  | l _=>exact q.elim
 | succ n ih =>
  intro d y q;cases d with
  | v x=>obtain⟨f,e⟩:=q;subst e;exact .v (Xia f)
  | l _=>exact q.elim
  | t ds =>
   obtain⟨a,xs,e,h,r⟩:=q;subst e;exact .t (SqT.of h) (Vn r) λi d x h1 h2=>ih (QD r h1 h2)
theorem TD.h:∀ (n:Nat) {d:Dt} {y:V},TD H n d y->hD d=true:=by
 intro n
 induction n with
 | zero =>
  intro d y q;cases d with
  | v x=>rw[hD];exact q.1
  | t _=>exact q.elim
  | l _=>exact q.elim
 | succ n ih =>
  intro d y q;cases d with
  | v x=>rw[hD];exact q.1
  | l _=>exact q.elim
  | t ds =>
   obtain⟨a,xs,e,h,r⟩:=q;rw[hD];refine Xic λx hx=>?_
   obtain⟨i,hi⟩:=mem_iff_getElem?.mp hx;have l:=Vn r;have hl:=(List.getElem?_eq_some_iff.mp hi).1
   exact ih (QD r hi (IE (show i < xs.length by lia)))
theorem TD.pair{n:Nat}{a:Vh}{x y:V}{d e:Dt}(h:H a=Vo (.tup [x,y]))(hx:TD H n d x)(hy:TD H n e y):TD H (n+1) (.t [d,e]) (.ref a):=TD.ofT h (.cons hx (.cons hy .nil))
inductive Xoc(H:Hp)(n:Nat)(d e:Dt)(y:V):Prop
 | mk (a:Vh) (x z:V) (ey:y=.ref a) (h:H a=Vo (.tup [x,z])) (r1:TD H n d x) (r2:TD H n e z):Xoc H n d e y
theorem TD.pair_of{n:Nat}{y:V}{d e:Dt}(q:TD H (n+1) (.t [d,e]) y):Xoc H n d e y:=by
 obtain⟨a,xs,rfl,h,r⟩:=q;cases r with
 | cons r1 r2 =>
  cases r2 with
  | cons r3 r4=>cases r4;exact⟨a,_,_,rfl,h,r1,r3⟩
end
mutual
theorem Xpc:∀ d e:Dt,hD d=true->hD e=true->(eqD d e=true↔d=e)
 | .v x,.v y,h,h'=>by
  rw[hD]at h h';rw[eqD,Xkc h h',decide_eq_true_iff]
 | .t xs,.t ys,h,h'=>by
  rw[hD]at h h';rw[eqD,Zrc xs ys h h'];exact⟨λe=>by rw[e],λe=>by injection e⟩
 | .v x,.t ys,_,_=>by simp[eqD]
 | .t xs,.v y,_,_=>by simp[eqD]
 | .l xs,_,h,_=>by rw[hD]at h;exact(Uh h).elim
 | .v x,.l ys,_,h=>by rw[hD]at h;exact(Uh h).elim
 | .t x,.l ys,_,h=>by rw[hD]at h;exact(Uh h).elim
theorem Zrc:∀ d e:List Dt,hDs d=true->hDs e=true->(Z8a d e=true↔d=e)
 | [],[],_,_=>by simp[Z8a]
 | [],_::_,_,_=>by simp[Z8a]
 | _::_,[],_,_=>by simp[Z8a]
 | x::xs,y::ys,h,h'=>by
  rw[hDs,OC]at h h';rw[Z8a,OC,Xpc x y h.1 h'.1,Zrc xs ys h.2 h'.2];exact⟨λe=>by rw[e.1,e.2],λe=>by injection e with a b;exact⟨a,b⟩⟩
end
theorem QRd{d e:Dt}(h:hD d=true)(h':hD e=true):eqD d e=decide (d=e):=by
 rw[UC,Xpc d e h h',decide_eq_true_iff]
theorem Ypd{K:VD}{H:Hp}{n:Nat}{d e:Dt}{x y:V}{Q:VK}(hn:n<=60)(h1:TD H n d x)(h2:TD H n e y)(q:Q (.bl (decide (d=e))) H):rD K false x y H Q :=
 ⟨n,d,e,hn,h1.rep,h2.rep,by rw[if_neg #[1],QRd h1.h h2.h];exact q⟩
def QO(S:List Vh)(H H':Hp):Prop:=∀ b o,b∉S->H b=Vo o->H' b=Vo o
section
variable{S:List Vh}{H H' H1 H2:Hp}
theorem QO.refl(S:List Vh)(H:Hp):QO S H H:=λ_ _ _ e=>e
theorem Qj.x(s:Qj H H')(S:List Vh):QO S H H':=λb o _ e=>s b o e
theorem QO.trans(a:QO S H H1)(b:QO S H1 H2):QO S H H2:=λc o n e=>b c o n (a c o n e)
theorem QO.upd{a:Vh}{o:HO}(s:QO S H H')(h:a∈S):QO S H (L2.upd H' a o):=λb u n e=>by
 rw[Qh (λz=>n (by rw[z];exact h))];exact s b u n e
theorem QO.mono{S':List Vh}(s:QO S H H')(h:∀ a∈S,a∈S'):QO S' H H':=λb o n e=>s b o (λz=>n (h b z)) e
end
section
variable{α β:Type}[DecidableEq β]
theorem ZN(g:α->β):∀ {xs:List α} {x:α},(xs.map g).Nodup->x∈xs->xs.find? (λy=>decide (g y=g x))=Vo x
 | [],_,_,h=>nomatch h
 | y::ys,x,nd,h=>by
  rw[UO,LS]at nd;rw[OO]
  rcases mem_cons.mp h with e | h
  ·subst e;rw[decide_eq_true rfl]
  ·have:g y≠g x:=λe=>nd.1 (by rw[e];exact Lx h)
   rw[decide_eq_false this];exact ZN g nd.2 h
theorem JUa(g:α->β){xs:List α}{b:β}(h:∀ x∈xs,g x≠b):xs.find? (λy=>decide (g y=b))=Vp:=by
 rw[find?_eq_none]
 intro x hx z;exact h x hx (of_decide_eq_true z)
theorem JVa(g:α->β):∀ {xs:List α} {j:Nat} {x:α},(xs.map g).Nodup->xs[j]?=Vo x->xs.eraseIdx j=xs.filter (λy=>decide (g y≠g x))
 | [],_,_,_,h=>by simp at h
 | y::ys,0,x,nd,h=>by
  rw[UO,LS]at nd;simp only[getElem?_cons_zero,O9]at h
  subst h;rw[eraseIdx_cons_zero,OT,if_neg #[2]]
  symm
  rw[filter_eq_self];intro z hz;exact decide_eq_true λe=>nd.1 (by rw[<- e];exact Lx hz)
 | y::ys,j+1,x,nd,h=>by
  rw[UO,LS]at nd;simp only[getElem?_cons_succ]at h
  have:g y≠g x:=λe=>nd.1 (by rw[e];exact Lx (Om h))
  rw[eraseIdx_cons_succ,OT,if_pos (decide_eq_true this),JVa g nd.2 h]
end
theorem JA{α κ:Type}[DecidableEq κ](f:α->κ×V)(xs:List α)(k:κ):ZM (xs.map f) k=(xs.find? λx=>decide ((f x).1=k)).map λx=>(f x).2:=by
 unfold ZM;rw[find?_map,Option.map_map]
 rfl
theorem Yzb{α:Type}(f:α->Dt×Vh×V)(xs:List α)(k:Dt):Jca (xs.map f) k=(xs.find? λx=>decide ((f x).1=k)).map λx=>(f x).2.2:=by
 unfold Jca;rw[find?_map,Option.map_map]
 rfl
theorem Zrb{κ:Type}[DecidableEq κ]{ac:List (κ×V)}{k:κ}{v:V}(h:ZM ac k=Vp):Yn ac k v=ac++[(k,v)]:=by
 unfold Yn;rw[JKa,h];rfl
theorem X1b{α κ:Type}[DecidableEq κ](f:α->κ×V)(xs:List α)(k:κ):YMa (xs.map f) k=(xs.filter λx=>decide ((f x).1≠k)).map f:=by
 unfold YMa;rw[filter_map]
 rfl
end L2
end
section
namespace L2
open PySem PySem.Spec PyProof.Rows
section
variable{X:Cx}
end
theorem TDs.sameT{H H':Hp}{n:Nat}{es:List Dt}{xs:List V}(r:Vm (λd v=>TD H n d v) es xs)(s:Zt H H'):Vm (λd v=>TD H' n d v) es xs:=Paired.mapP r λ_ _ z=>TD.sameT s n z
def Xqc(P:Vg)(w:Vb)(K:VD)(mg:Str->Option Va)(base:Vq)(k:Nat)(m:Str)(ta:TE1)(t:TA):TE1:=λσ H Q E=>ta σ H (λx H1=>∃ a C dx fs sp,x=.ref a/\H1 a=Vo (.ins C dx fs)/\fs.lookup m=Vp/\Cls K C/\MeV P w K mg base k C m sp/\t σ H1 λvs H2=>sp (x::vs) H2 Q E) E
section
variable{X:Cx}{m:Str}{k:Nat}{ta:TE1}{t:TA}{e o:Expr}{es:List Expr}{pos ak:Pos}{pl:Sem Bool}
theorem Zsb(he:PE1 X o ta)(hr:Q5 k X.A)(aZ:X.ex=[])(ha:PA X.nox (e::es) t)
 (bB:VZ (e::es) X.env=(false,VX e X.env)::VZ es X.env:=by rfl) (aI:(VY pos (VZ es X.env)).any (·.1)=false:=by rfl)
 (ht:VX (.Call (.Attribute o m ak) (e::es) [] pos) X.env=(do
  let ov <- VX o X.env
  V5 ak.atName
  let (f,first) <- V6 [ov] (UH ov m pl)
  LJ pos f first (VY pos (VZ (e::es) X.env)) (U8 pos (U9 [] X.env))):=by rfl) :
 PE1 X (.Call (.Attribute o m ak) (e::es) [] pos) (Xqc X.prog X.w X.K X.mg X.base k m ta t):=by
 intro aa s σ H Q E I h;refine LK (pl:=pl) (thn (he aa s σ H _ E I h) λu s1 hZ=>?_) ht
 obtain⟨y,H1,I1,rx,a,C,dx,fs,sp,ex,ea,l,c,G,q⟩:=hZ;obtain⟨f,fd,ps,hm,F,hb⟩:=G;subst ex;obtain rfl:u=Vk a:=rx;refine Z2a I1 ea c hm l ?_
 refine U5 (first:=[.ref a]) (h₀:=X.base) I.ok.mod.kin hm.kp (thn (XYb ha I1 q) λus s2 ⟨vs,H2,I2,r,q2⟩=>⟨I2.kIn,?_⟩) bB aI
 exact Xfa (us:=.ref a::us) (vs:=.ref a::vs) F hr hb aZ I2 (.cons rfl r) q2
end
end L2
end
section
open L2
namespace Tr
def Qx:Dt->V
 | .t (.v k::_)=>k
 | _=>.non
def Zn(l:Int)(es:List Dt):Dt:=.t [.v (.int l),.t es]
def Ju(k:V)(n:Int):Dt:=.t [.v k,.v (.int n)]
def Q9:List Dt->V
 | []=>.non
 | e::_=>Qx e
theorem JZ{l l':Int}{es aM:List Dt}(h:Zn l es=Zn l' aM):l=l'/\es=aM:=by
 unfold Zn at h;injection h with h
 injection h with h1 h
 injection h with h2 h
 injection h1 with h1
 injection h1 with h1
 injection h2 with h2
 exact⟨h1,h2⟩
theorem YAb{k k':V}{n n':Int}(h:Ju k n=Ju k' n'):k=k'/\n=n':=by
 unfold Ju at h;injection h with h
 injection h with h1 h
 injection h with h2 h
 injection h1 with h1
 injection h2 with h2
 injection h2 with h2
 exact⟨h1,h2⟩
theorem Xja(k:V)(n:Int):Qx (Ju k n)=k:=rfl
section
variable(lv:V->Nat)
def step(l:Int)(af:List (List Dt))(e:Dt):List (List Dt) :=
 if af=[]\/l < lv (Qx e) then af++[[e]] else af.dropLast++[af.getLast?.getD []++[e]]
def Q1(l:Int)(es:List Dt):List (List Dt):=es.foldl (step lv l) []
structure Y0(l:Int)(es:List Dt)(af:List (List Dt)):Prop where
 flat:af.flatten=es
 full:∀ part∈af,part≠[]
 head:∀ (i:Nat) x r,0 < i->af[i]?=Vo (x::r)->l < lv (Qx x)
 rest:∀ x r,(x::r)∈af->∀ y∈r,(lv (Qx y):Int)<=l
variable{lv}{l:Int}{es:List Dt}{af:List (List Dt)}
theorem Y0.nil:Y0 lv l [] []:=⟨rfl,(λ_ h=>by cases h),(λi x r _ h=>by simp at h),(λx r h=>by cases h)⟩
theorem Y0.more{x:Dt}(c:Y0 lv l es af)(h:af=[]\/l < lv (Qx x)):Y0 lv l (es++[x]) (af++[[x]]) where
 flat:=by rw[LU,c.flat];simp
 full:=λpart hp=>by
  rcases mem_append.mp hp with z | z
  ·exact c.full part z
  ·have:part=[x]:=by simpa using z
   rw[this];simp
 head:=λi y r hi e=>by
  by_cases hl:i < af.length
  ·rw[Oj hl]at e;exact c.head i y r hi e
  ·rw[Oi #[0]]at e
   have h0:i - af.length=0:=by
    cases q:i - af.length with
    | zero=>rfl
    | succ m=>rw[q]at e;simp at e
   rw[h0]at e;simp at e
   rcases h with z | z
   ·rw[z]at h0;simp at h0;lia
   ·rw[<- e.1];exact z
 rest:=λy r hp z hz=>by
  rcases mem_append.mp hp with w | w
  ·exact c.rest y r w z hz
  ·have:y::r=[x]:=by simpa using w
   cases this;cases hz
theorem Y0.on{x:Dt}{ini:List (List Dt)}{last:List Dt}(c:Y0 lv l es (ini++[last]))(h:(lv (Qx x):Int)<=l):Y0 lv l (es++[x]) (ini++[last++[x]]) where
 flat:=by have:=c.flat;simp at this ⊢;rw[<- this];simp
 full:=λpart hp=>by
  rcases mem_append.mp hp with z | z
  ·exact c.full part (VS _ z)
  ·have:part=last++[x]:=by simpa using z
   rw[this];simp
 head:=λi y r hi e=>by
  by_cases hl:i < ini.length
  ·rw[Oj hl]at e
   exact c.head i y r hi (by rw[Oj hl];exact e)
  ·rw[Oi #[0]]at e
   have h0:i - ini.length=0:=by
    cases q:i - ini.length with
    | zero=>rfl
    | succ m=>rw[q]at e;simp at e
   rw[h0]at e;have au:=c.full last #[2]
   match last,au,e,c with
   | z::zs,_,e,c =>
    simp at e;rw[<- e.1];exact c.head i z zs hi (by rw[Oi #[0],h0];rfl)
 rest:=λy r hp z hz=>by
  rcases mem_append.mp hp with w | w
  ·exact c.rest y r (VS _ w) z hz
  ·have w:y::r=last++[x]:=by simpa using w
   have au:=c.full last #[2]
   match last,au,w,c with
   | u::us,_,w,c =>
    simp at w;obtain⟨rfl,rfl⟩:=w
    rcases mem_append.mp hz with v | v
    ·exact c.rest y us #[2] z v
    ·have:z=x:=by simpa using v
     rw[this];exact h
theorem Yp{α:Type}:∀ {xs:List α},xs≠[]->∃ ini last,xs=ini++[last]
 | [],h=>absurd rfl h
 | [x],_=>⟨[],x,rfl⟩
 | x::y::ys,_=>by
  obtain⟨ini,last,e⟩:=Yp (xs:=y::ys) #[2]
  exact⟨x::ini,last,by rw[e];rfl⟩
theorem Y0.step{x:Dt}(c:Y0 lv l es af):Y0 lv l (es++[x]) (step lv l af x):=by
 unfold Tr.step
 split
 ·rename_i h;exact c.more h
 ·rename_i h
  have h1:af≠[]:=λz=>h (.inl z)
  obtain⟨ini,last,rfl⟩:=Yp h1;have:(lv (Qx x):Int)<=l:=by have:¬ l < lv (Qx x):=λz=>h (.inr z);lia
  simpa using c.on this
theorem YD(es:List Dt)(x:Dt):Q1 lv l (es++[x])=step lv l (Q1 lv l es) x:=by
 unfold Q1;rw[foldl_append];rfl
theorem QUa{α:Type}{C:List α->Prop}(h0:C [])(h1:∀ xs x,C xs->C (xs++[x]))(xs:List α):C xs:=by
 have:∀ n (xs:List α),xs.length=n->C xs:=by
  intro n
  induction n with
  | zero=>intro xs h;rw[length_eq_zero_iff.mp h];exact h0
  | succ n ih =>
   intro xs h;obtain⟨ini,last,rfl⟩:=Yp (xs:=xs) (by intro z;rw[z]at h;simp at h)
   exact h1 _ _ (ih ini (by simpa using h))
 exact this _ xs rfl
theorem JJ(l:Int):∀ es,Y0 lv l es (Q1 lv l es):=QUa Y0.nil λxs x c=>by rw[YD];exact c.step
theorem ZBa{es:List Dt}(h:es≠[]):Q1 lv l es≠[]:=λz=>h (by have:=(JJ (lv:=lv) l es).flat;rw[z]at this;exact this.symm)
theorem YBb{es:List Dt}(au:es≠[])(h:∀ e∈es,(lv (Qx e):Int)<=l):Q1 lv l es=[es]:=by
 have c:=JJ (lv:=lv) l es
 match q:Q1 lv l es with
 | []=>exact absurd q (ZBa au)
 | [p]=>rw[q]at c;have:=c.flat;simp at this;rw[this]
 | p::p2::r =>
  rw[q]at c;have aP:=c.full p2 #[2]
  match p2,aP with
  | x::xs,_ =>
   have h1:=c.head 1 x xs #[0] rfl
   have h2:x∈es:=by rw[<- c.flat];simp
   have:=h x h2
   lia
end
structure Fn(tbl:List (Int×Dt)):Prop where
 num:∀ n d d',(n,d)∈tbl->(n,d')∈tbl->d=d'
 dat:∀ n n' d,(n,d)∈tbl->(n',d)∈tbl->n=n'
inductive QU(tbl:List (Int×Dt))(l:Int):List (List Dt)->List Dt->Prop
 | nil:QU tbl l [] []
 | cons {part:List Dt} {af:List (List Dt)} {hs:List Dt} {n:Int} (h:(n,Zn l part)∈tbl) (r:QU tbl l af hs):QU tbl l (part::af) (Ju (Q9 part) n::hs)
section
variable{tbl aD:List (Int×Dt)}{l:Int}{af:List (List Dt)}{hs:List Dt}
theorem QU.mono(h:QU tbl l af hs)(s:∀ x∈tbl,x∈aD):QU aD l af hs:=by
 induction h with
 | nil=>exact .nil
 | cons h _ ih=>exact .cons (s _ h) ih
theorem QU.snoc{part:List Dt}{n:Int}(h:QU tbl l af hs)(m:(n,Zn l part)∈tbl):QU tbl l (af++[part]) (hs++[Ju (Q9 part) n]):=by
 induction h with
 | nil=>exact .cons m .nil
 | cons h _ ih=>exact .cons h ih
theorem QU.length(h:QU tbl l af hs):hs.length=af.length:=by
 induction h with
 | nil=>rfl
 | cons _ _ ih=>simp[ih]
theorem QU.det(f:Fn tbl)(h:QU tbl l af hs):∀ {aT:List Dt},QU tbl l af aT->hs=aT:=by
 induction h with
 | nil=>intro aT h';cases h';rfl
 | cons h _ ih =>
  intro aT h';cases h' with
  | cons h2 r2=>rw[f.dat _ _ _ h h2,ih r2]
end
structure YK(lv:V->Nat)(tbl:List (Int×Dt))(rows:List Dt)(top:Nat)(L:Nat->List Dt):Prop where
 low:L 0=rows
 up:∀ j,j<=top->QU tbl j (Q1 lv j (L j)) (L (j+1))
 one:(L (top+1)).length=1
 two:∀ j,1<=j->j<=top->1 < (L j).length
section
variable{lv:V->Nat}{tbl aD:List (Int×Dt)}{rows rows':List Dt}{top top':Nat}{L L':Nat->List Dt}
theorem YK.mono(c:YK lv tbl rows top L)(s:∀ x∈tbl,x∈aD):YK lv aD rows top L:=⟨c.low,λj h=>(c.up j h).mono s,c.one,c.two⟩
end
def Jqc:Dt->Int
 | .t [_,.v (.int n)]=>n
 | _=>0
section
variable{lv:V->Nat}{tbl:List (Int×Dt)}{l:Int}{af:List (List Dt)}{hs rows:List Dt}{top:Nat}{L:Nat->List Dt}
theorem QU.keys(h:QU tbl l af hs):hs.map Qx=af.map Q9:=by
 induction h with
 | nil=>rfl
 | cons h r ih=>rw[UO,UO,ih];rfl
theorem QU.mem(h:QU tbl l af hs){x:Dt}(hx:x∈hs):∃ part∈af,∃ n,x=Ju (Q9 part) n/\(n,Zn l part)∈tbl:=by
 induction h with
 | nil=>cases hx
 | @cons part af hs n h r ih =>
  rcases mem_cons.mp hx with e | hx
  ·exact⟨part,VN,n,e,h⟩
  ·obtain⟨p,hp,q⟩:=ih hx;exact⟨p,VO _ hp,q⟩
end
structure Yma(lv:V->Nat)(tbl:List (Int×Dt))(rows:List Dt)(j:Nat)(L:Nat->List Dt):Prop where
 low:L 0=rows
 up:∀ i,i < j->QU tbl i (Q1 lv i (L i)) (L (i+1))
 two:∀ i,1<=i->i < j->1 < (L i).length
section
variable{lv:V->Nat}{tbl aD:List (Int×Dt)}{rows hs:List Dt}{j:Nat}{L:Nat->List Dt}
theorem Yma.start(h:QU tbl 0 (Q1 lv 0 rows) hs):Yma lv tbl rows 1 (λi=>if i=0 then rows else hs) where
 low:=rfl
 up:=λi hi=>by
  obtain rfl:i=0:=by lia
  exact h
 two:=λi h1 h2=>by lia
theorem Yma.next(p:Yma lv tbl rows j L)(s:∀ x∈tbl,x∈aD)(hj:1<=j)(h2:1 < (L j).length)(h:QU aD j (Q1 lv j (L j)) hs):Yma lv aD rows (j+1) (λi=>if i=j+1 then hs else L i) where
 low:=by show(if 0=j+1 then hs else L 0)=rows;rw[if_neg #[0]];exact p.low
 up:=λi hi=>by
  show QU aD i (Q1 lv i (if i=j+1 then hs else L i)) (if i+1=j+1 then hs else L (i+1))
  rw[if_neg #[0]]
  by_cases e:i=j
  ·subst e;rw[if_pos rfl];exact h
  ·rw[if_neg #[0]];exact(p.up i #[0]).mono s
 two:=λi h1 hi=>by
  show 1 < (if i=j+1 then hs else L i).length
  rw[if_neg #[0]]
  by_cases e:i=j
  ·subst e;exact h2
  ·exact p.two i h1 #[0]
theorem Yma.chain{top:Nat}(p:Yma lv tbl rows (top+1) L)(h:(L (top+1)).length=1):YK lv tbl rows top L:=⟨p.low,λi hi=>p.up i #[0],h,λi h1 h2=>p.two i h1 #[0]⟩
theorem Yma.full(p:Yma lv tbl rows j L)(hr:rows≠[]):∀ i,i<=j->L i≠[]:=by
 intro i
 induction i with
 | zero=>intro _;rw[p.low];exact hr
 | succ i ih =>
  intro h z;have u:=p.up i #[0]
  have l:=u.length;rw[z]at l;exact ZBa (ih #[0]) (length_eq_zero_iff.mp l.symm)
theorem Yma.top(p:Yma lv tbl rows j L)(h6:∀ k,lv k<=6)(hr:rows≠[])(hj:7<=j):(L 7).length=1:=by
 have u:=p.up 6 #[0]
 rw[YBb (p.full hr 6 #[0]) (λe _=>by have:=h6 (Qx e);lia)]at u
 rw[u.length];rfl
end
end Tr
end
section
namespace L2
open PySem PySem.Spec PyProof.Rows
section
variable{a b c d e u:TS}{D:ZL}{σ:St}{H:Hp}
theorem QSd(h:∀ R:St->Hp->Prop,(∀ σ H,u D σ H->R σ H)->YYa a b { D with nx:=R } σ H):YYa a (YYa b u) D σ H:=h (u D) λ_ _ z=>z
theorem QTd(h:∀ R:St->Hp->Prop,(∀ σ H,u D σ H->R σ H)->YYa a (YYa b (YYa c d)) { D with nx:=R } σ H):YYa a (YYa b (YYa c (YYa d u))) D σ H:=h (u D) λ_ _ z=>z
end
section
variable{X:Cx}
end
section
variable{X:Cx}
def isT(z:Str):Va->Bool
 | .str y _=>decide (y=z)
 | _=>false
theorem Zsc{z:Str}:∀ {zs:List Str} {us:List Va},Qz (zs.map V.str) us->us.any (isT z)=decide (z∈zs)
 | [],_,h=>by cases h;simp
 | y::zs,_,h=>by
  cases h with
  | cons r t =>
   obtain⟨k,rfl⟩:=r;rw[OD,Zsc t];show(decide (y=z) || decide (z∈zs))=decide (z∈y::zs);rw[UC,Bool.or_eq_true,decide_eq_true_iff,decide_eq_true_iff,decide_eq_true_iff,Lv,eq_comm (a:=z)]
theorem Jod{A:VG}{s:VH}{z:Str}{k:Tok}{zs:List Str}{us:List Va}(r:Qz (zs.map V.str) us):∀ y∈us,Oq A s y (.str z k) (isT z y):=by
 intro y hy;obtain⟨i,hi,e⟩:=mem_iff_getElem.mp hy;have l:=r.length;rw[UQ]at l;have rv:∃ z' k',y=.str z' k':=by
  have go:∀ {zs:List Str} {us:List Va},Qz (zs.map V.str) us->∀ y∈us,∃ z' k',y=.str z' k':=by
   intro zs
   induction zs with
   | nil=>intro us h y hy;cases h;cases hy
   | cons z zs ih =>
    intro us h y hy;cases h with
    | cons r t =>
     obtain⟨k,rfl⟩:=r
     rcases mem_cons.mp hy with e | h2
     ·exact⟨z,k,e⟩
     ·exact ih t y h2
  exact go r y hy
 obtain⟨z',k',rfl⟩:=rv;have:=Xwa (A:=A) (s:=s) (show QB (.str z') (.str z' k') from⟨k',rfl⟩) (show QB (.str z) (.str z k) from⟨k,rfl⟩) rfl rfl
 rw[show eqV (.str z') (.str z)=isT z (.str z' k') from ?_]at this
 ·exact this
 ·show(z' == z)=decide (z'=z)
  rw[UC,beq_iff_eq,decide_eq_true_iff]
def YHd(K:VD)(neg:Bool):R2:=λx y H Q=>∃ (z:Str) (b:Vh) (zs:List Str),x=.str z/\y=.ref b/\SqT K H b (zs.map V.str)/\Q (.bl (if neg then !decide (z∈zs) else decide (z∈zs))) H
theorem Jpd:OpR X (V2 .In) (YHd X.K false):=by
 intro aa s σ H x y v u Q I rx ry h;obtain⟨z,b,zs,rfl,rfl,hb,q⟩:=h;obtain⟨t,rfl⟩:=rx;cases ry;obtain⟨ag,r,p,_⟩:=I.tuple hb;refine SeqAt.in_tupleAt (isT z) p (λy hy=>Jod r y (by simpa using hy)) ⟨.bl (decide (z∈zs)),H,I,?_,q⟩
 rw[<- Array.any_toList];rw[Zsc r];rfl
end
end L2
end
section
open L2 PySem
namespace Tr
def Xrc(tbl:List (Int×Dt)):Nat->Dt->List Dt->Prop
 | 0,d,es=>es=[d]
 | l+1,d,es=>∃ k n part be,d=Ju k n/\(n,Zn (l:Int) part)∈tbl/\Vm (Xrc tbl l) part be/\es=be.flatten
def Ztc(tbl:List (Int×Dt))(l:Nat)(part es:List Dt):Prop:=∃ be,Vm (Xrc tbl l) part be/\es=be.flatten
theorem JWa{α β:Type}{F:α->β->Prop}:∀ {xs ys:List α} {us:List β},Vm F (xs++ys) us->∃ u1 u2,us=u1++u2/\Vm F xs u1/\Vm F ys u2
 | [],_,us,h=>⟨[],us,rfl,.nil,h⟩
 | x::xs,ys,_,.cons r t=>by
  obtain⟨u1,u2,e,a,b⟩:=JWa t;exact⟨_::u1,u2,by rw[e];rfl,.cons r a,b⟩
section
variable{lv:V->Nat}{tbl:List (Int×Dt)}{rows:List Dt}{top:Nat}{L:Nat->List Dt}
theorem Jrc(rows:List Dt):Ztc tbl 0 rows rows:=by
 refine⟨rows.map λd=>[d],?_,?_⟩
 ·induction rows with
  | nil=>exact .nil
  | cons d r ih=>exact .cons rfl ih
 ·induction rows with
  | nil=>rfl
  | cons d r ih=>rw[UO,LV,<- ih];rfl
theorem Jsc{j:Nat}{af:List (List Dt)}{hs:List Dt}(h:QU tbl (j:Int) af hs):∀ {be:List (List Dt)},Vm (Xrc tbl j) af.flatten be->∃ bT,Vm (Xrc tbl (j+1)) hs bT/\bT.flatten=be.flatten:=by
 induction h with
 | nil=>intro be p;cases p;exact⟨[],.nil,rfl⟩
 | @cons part af hs n hm r ih =>
  intro be p;rw[LV]at p;obtain⟨u1,u2,e,a,b⟩:=JWa p;obtain⟨bT,q,f⟩:=ih b;refine⟨u1.flatten::bT,.cons ⟨_,n,part,u1,rfl,hm,a,rfl⟩ q,?_⟩
  rw[LV,f,e,LU]
theorem YK.sub(c:YK lv tbl rows top L):∀ j,j<=top+1->Ztc tbl j (L j) rows:=by
 intro j
 induction j with
 | zero=>intro _;rw[c.low];exact Jrc rows
 | succ j ih =>
  intro h;obtain⟨be,p,e⟩:=ih #[0]
  have u:=c.up j #[0]
  rw[<- (JJ (lv:=lv) (j:Int) (L j)).flat]at p;obtain⟨bT,q,f⟩:=Jsc u p;exact⟨bT,q,by rw[f];exact e⟩
theorem YK.spread(c:YK lv tbl rows top L){k:V}{n:Int}(e:L (top+1)=[Ju k n]):∃ part,(n,Zn (top:Int) part)∈tbl/\Ztc tbl top part rows:=by
 obtain⟨be,p,f⟩:=c.sub (top+1) (Uu _);rw[e]at p;cases p with
 | cons r t =>
  cases t;obtain⟨k',n',part,fL,e1,hm,q,g⟩:=r;obtain⟨_,rfl⟩:=YAb e1;exact⟨part,hm,fL,q,by rw[f,g];simp⟩
end
end Tr
end
section
namespace L2
open PySem PySem.Spec PyProof.Rows PySem.W
section
variable{prog:Vg}{w:Vb}{A:VG}{E:YQ_}{s:VH}
end
section
variable{X:Cx}{e:Expr}{te:TE}{p pos p2 gJ:Pos}{aa:YP_}{σ:St}{H:Hp}{s:VH}
end
theorem Z3b:Ot (.type "list") "keys"=pure Vp:=by rw[LW,LX];kernel_rfl
theorem Y0a:Ot (.type "list") "__getattr__"=pure Vp:=by rw[LW,LX];kernel_rfl
section
variable{prog:Vg}{w:Vb}{A:VG}{E:YQ_}{h:Vq}{g:Array VQ}{d:Drawn}{t:Nat}{os:OsState}{a:Vh}{ag:Array Va}{c:Nat}
theorem Y1a{tk:Tok}{Q:II->VH->Prop}(hh:A.handled=Vp)(hx:h.get? a=Vo { cls:=.type "list",dict:=Vp,data:=.seq ag c,slots:=#[] })
 (hE:∀ h' tk e,LY h h' e (.ref a) "keys"->E (.ref e) ⟨h',g,d,tk,os⟩) :
 VV (VW prog w) A (Ib.«object.__getattribute__» ⟨[.ref a,.str "keys" tk],[]⟩) Q E ⟨h,g,d,t,os⟩:=by
 have hT:(⟨h,g,d,t,os⟩:VH).TypeIs (.ref a) "list":=⟨_,hx,rfl⟩;have f4:=Z3b
 repeat (any_goals (first | assumption | wp_step))
 exact wpAny_raiseAttrError hh hE (attrMsg_fits (by decide +kernel) (by decide +kernel))
theorem Z4b{tk:Tok}{Q:YQ_}(hh:A.handled=Vp)(hx:h.get? a=Vo { cls:=.type "list",dict:=Vp,data:=.seq ag c,slots:=#[] })
 (hE:∀ h' tk e,LY h h' e (.ref a) "keys"->E (.ref e) ⟨h',g,d,tk,os⟩) :
 VV (VW prog w) A (LD (.ref a) (.str "keys" tk) false) Q E ⟨h,g,d,t,os⟩:=by
 have hT:(⟨h,g,d,t,os⟩:VH).TypeIs (.ref a) "list":=⟨_,hx,rfl⟩;have f1:=LZ;have f2:=F.slot_list_getattribute.lookup;have f3:=F.slot_list_getattribute.bind (.ref a);have f5:=Y0a;unfold LD
 repeat (any_goals (first | assumption | wp_step))
 refine LH F.slot_list_getattribute.plain F.entry_list_ga (F.slot_list_getattribute.check _ _ _ _ _ _ _ _ hT (F.args_list_getattribute_2 _ _) (Y1a hh hx λh' wc e aC=>?_))
 obtain⟨t',u',he⟩:=aC.there;show VV _ _ (L3 _ _ _ _ _ _ _) _ _ _;unfold L3
 repeat (any_goals (first | assumption | wp_step))
 exact hE _ _ _ aC
theorem XTa{Q:Option Va->VH->Prop}(hh:A.handled=Vp)(hx:h.get? a=Vo { cls:=.type "list",dict:=Vp,data:=.seq ag c,slots:=#[] })
 (hQ:∀ h' tk,(∀ b u,h.get? b=Vo u->h'.get? b=Vo u)->Q Vp ⟨h',g,d,tk,os⟩):VV (VW prog w) A (getAttr? (.ref a) "keys") Q E ⟨h,g,d,t,os⟩:=by
 unfold getAttr? getAttrBy?;refine Ud (wpAny_mkText ?_)
 refine Ud (Lq (Z4b hh hx λh' tk e aC=>?_))
 obtain⟨t',u',he⟩:=aC.there;have f1:=LZ
 repeat (any_goals (first | assumption | wp_step))
 exact hQ _ _ aC.keeps
end
theorem Ja:entryFor table "dict.update.loop"=Vo Ib.«dict.update.loop»:=entryFor_of_tree (by kernel_rfl)
theorem QY:plainId "dict.update.loop"=true:=by decide +kernel
section
variable{prog:Vg}{w:Vb}{K:Type}[DecidableEq K]{knd:KeyKind prog w K}{A:VG}{E:YQ_}{s:VH}
def JK(knd:KeyKind prog w K)(h:Vq)(vs:List Va)(kks:List (K×Va)):Prop:=∀ (i:Nat) k x,kks[i]?=Vo (k,x)->∃ t key,vs[i]?=Vo (.ref t)/\Vt h t #[key,x]/\knd.is k key=true
theorem JK.but{h h':Vq}{vs:List Va}{kks:List (K×Va)}(p:JK knd h vs kks)(P:Vh->Prop)(hP:∀ t ag,Vt h t ag->P t)(hk:∀ b o,P b->h.get? b=Vo o->h'.get? b=Vo o):JK knd h' vs kks:=λi k x e=>by
 obtain⟨t,key,a,b,c⟩:=p i k x e;have pt:=hP t _ b;obtain⟨o,ho,r⟩:=b;exact⟨t,key,a,⟨o,hk t o pt ho,r⟩,c⟩
theorem XUa{it l d:Vh}{vs:List Va}{kks:List (K×Va)}(hh:A.handled=Vp)(hl:kks.length=vs.length)(hb:vs.length<=1000)(au:it≠d)(n6:l≠d)(n8:l≠it) :
 ∀ (m i:Nat) (eT:Tok) (s:VH) (R:UJ->VH->Prop),m=vs.length - i->i<=vs.length->s.heap.IsListIter it l i->s.heap.IsList l vs.toArray->s.heap.DictOf knd d (OY [] (kks.take i))->(OY [] (kks.take i)).length<=i->JK knd s.heap vs kks ->
  (∀ h' tk,(∀ b o,b≠it->b≠d->s.heap.get? b=Vo o->h'.get? b=Vo o)->h'.DictOf knd d (OY [] kks)->R (.ok (.ret .none)) { s with heap:=h',toks:=tk }) ->
  UL (VW prog w) A (.builtin "dict.update.loop" ⟨[.ref d,.ref it,.int i eT,.none],[]⟩) R s:=by
 intro m
 induction m with
 | zero =>
  intro i eT s R hm hi cM eU hD _ hp hR;have e:i=vs.length:=by lia
  subst e;refine L4 Ja ?_
  rw[L5 QY _];unfold Ib.«dict.update.loop»;dsimp only;refine Ud (wpAny_pyNext_list_end hh cM eU #[2] λh' eb=>?_)
  dsimp only;rw[Iu #[0]]at hD
  show VV _ _ (Builtin.Dict.addKeywords d [] >>= _) _ _ _;refine Ud (Uo (Uo (hR h' s.toks (λb o h1 h2 e=>eb b o h1 e) (hD.extBut eb (VR au)))))
 | succ m ih =>
  intro i eT s R hm hi cM eU hD lD hp hR;have bx:i < vs.length:=by lia
  obtain⟨k,x,jJ⟩:∃ k x,kks[i]?=Vo (k,x):=⟨_,_,IE #[0]⟩
  obtain⟨t,key,gF,ht,cZ⟩:=hp i k x jJ;refine L4 Ja ?_
  rw[L5 QY _];unfold Ib.«dict.update.loop»;dsimp only;refine Ud (wpAny_pyNext_list_item cM eU (x:=.ref t) (by simpa using gF) λh' gK sb=>?_)
  dsimp only;obtain⟨ot,bZ,cy,nt,cz⟩:=id ht;have gL:t≠it:=λz=>by
   obtain⟨oi,gM,gN,_⟩:=cM;rw[z,gM]at bZ;cases bZ;rw[gN]at cy;exact absurd (LM cy) #[1]
  have we:t≠d:=λz=>by
   obtain⟨od,_,_,gO,bc,_⟩:=hD;rw[z,gO]at bZ;cases bZ;have:=bc.1;rw[this]at cy;exact absurd (LM cy) #[1]
  have dm:h'.get? t=Vo ot:=(sb.2 t gL).trans bZ;have b6:h'.DictOf knd d (OY [] (kks.take i)):=hD.sameBut sb (VR au);refine Ud (Ue (Ud (wpAny_tryCatch ?_)))
  unfold Builtin.Dict.pairItems;refine Ud (LN (T:="tuple") ⟨_,dm,cy⟩ ?_)
  rw[if_pos #[1]]
  refine Ud (Lh dm cz (Uo ?_))
  show VV _ _ (V6 [key,x] (dictSet d key x)) _ _ _;refine Ue (wpAny_dictSet_pairs cZ b6 (λh2 cN cL=>?_) (VJ lD (VJ (show i<=1000 by lia) (by rw[UD];decide))))
  have et:OY [] (kks.take (i+1))=OR (OY [] (kks.take i)) k x:=by
   unfold OY;rw[Iq,jJ,foldl_append];rfl
  have keep:∀ b o,b≠it->b≠d->s.heap.get? b=Vo o->h2.get? b=Vo o:=λb o h1 h2 e=>(cL.2 b h2).trans ((sb.2 b h1).trans e)
  have bG:∀ t' ag,Vt s.heap t' ag->t'≠it/\t'≠d:=λt' ag ⟨o',aN,bA,_⟩=>by
   constructor
   ·intro z
    obtain⟨oi,gM,gN,_⟩:=cM;rw[z,gM]at aN;cases aN;rw[gN]at bA;exact absurd (LM bA) #[1]
   ·intro z
    obtain⟨od,_,_,gO,bc,_⟩:=hD;rw[z,gO]at aN;cases aN;rw[bc.1]at bA;exact absurd (LM bA) #[1]
  refine Uo ⟨L6 QY _,?_⟩
  refine ih (i+1) _ _ R #[0] #[0] ?_ ?_ (by rw[et];exact cN) ?_ (hp.but (λb=>b≠it/\b≠d) bG λb o hb e=>keep b o hb.1 hb.2 e) λh3 tk fM mx=>?_
  ·obtain⟨o,ho,r⟩:=gK
   exact⟨o,(cL.2 it au).trans ho,r⟩
  ·obtain⟨o,ho,r⟩:=eU
   exact⟨o,(cL.2 l n6).trans ((sb.2 l n8).trans ho),r⟩
  ·rw[et]
   unfold OR
   split
   ·simp;lia
   ·simp;lia
  ·exact hR h3 tk (λb o h1 h2 e=>fM b o h1 h2 (keep b o h1 h2 e)) mx
theorem Jtc{R:UJ->VH->Prop}{D l:Vh}{vs:List Va}{kks:List (K×Va)}{c:Nat}(hh:A.handled=Vp)(aV:s.heap.DictOf knd D [])(hx:s.heap.get? l=Vo { cls:=.type "list",dict:=Vp,data:=.seq vs.toArray c,slots:=#[] })(n9:l≠D)(hl:kks.length=vs.length)(hb:vs.length<=1000)(hp:JK knd s.heap vs kks)
 (hR:∀ h' tk,(∀ b o,b≠D->s.heap.get? b=Vo o->h'.get? b=Vo o)->h'.DictOf knd D (OY [] kks)->R (.ok (.ret .none)) { s with heap:=h',toks:=tk }) :
 VV (VW prog w) A.in1 (Ib.«dict.__init__» ⟨[.ref D,.ref l],[]⟩)
  (λfin s'=>match fin with | .done f=>R (.ok f) s' | .again c'=>c'.quiet=true/\UL (VW prog w) A c' R s') (λe s'=>R (.error e) s') s:=by
 unfold Ib.«dict.__init__»;refine Ud ?_
 unfold Builtin.Dict.selfAndRest;refine Ud (wpAny_notOrdered_dict aV.typeIs ?_)
 show VV _ _ (pure (D,[Vk l])) _ _ _;refine Uo ?_
 show VV _ _ (L7 "dict.__init__" D (.ref l) [] .none) _ _ _;unfold L7;refine Ud (LN (T:="list") ⟨_,hx,rfl⟩ ?_)
 rw[if_pos #[1]]
 obtain⟨jK,g,dr,eT,os⟩:=s;refine Ud (XTa (A:=A.in1) hh hx λh1 jL keep=>?_)
 rw[if_pos #[1]]
 refine Ud (Lo ?_)
 have iW:=keep l _ hx;have eV:h1.IsList l vs.toArray:=⟨_,iW,rfl,c,rfl⟩;refine Ud (Ur (s:=⟨h1,g,dr,jL,os⟩) eV ?_)
 have kp:∀ b o,jK.get? b=Vo o->(h1.push { cls:=.type "list_iterator",data:=.fields #[.ref l,.int 0 0] }).get? b=Vo o:=λb o e=>Us _ (keep b o e)
 have cf:∀ b o,jK.get? b=Vo o->b < h1.objs.size:=λb o e=>Vy (keep b o e)
 have cN:(h1.push { cls:=.type "list_iterator",data:=.fields #[.ref l,.int 0 0] }).DictOf knd D []:=let ⟨o,es,ep,ho,r⟩:=aV;⟨o,es,ep,kp D o ho,r⟩
 have oa:D < h1.objs.size:=by obtain⟨o,_,_,ho,_⟩:=aV;exact cf D o ho
 refine Uo ⟨L6 QY _,?_⟩
 refine XUa (knd:=knd) (A:=A) (it:=h1.objs.size) (l:=l) (d:=D) (vs:=vs) (kks:=kks) hh hl hb (Ui oa) n9 (VB (cf l _ hx)) vs.length 0 _ _ R #[0] (Uy _) ⟨_,Ut _ rfl,rfl,rfl⟩ ⟨_,kp l _ hx,rfl,c,rfl⟩ cN (Uy _) (hp.but (λ_=>True) (λ_ _ _=>trivial) λb o _ e=>kp b o e) λh' tk hk b6=>?_
 exact hR h' tk (λb o hb e=>hk b o (VB (cf b o e)) hb (kp b o e)) b6
theorem Juc{Q:YQ_}{l:Vh}{vs:List Va}{kks:List (K×Va)}{c:Nat}(hh:A.handled=Vp)(hx:s.heap.get? l=Vo { cls:=.type "list",dict:=Vp,data:=.seq vs.toArray c,slots:=#[] })(hl:kks.length=vs.length)(hb:vs.length<=1000)(hp:JK knd s.heap vs kks)
 (h:∀ h' tk,(∀ b o,s.heap.get? b=Vo o->h'.get? b=Vo o)->h'.DictOf knd s.heap.objs.size (OY [] kks)->Q (.ref s.heap.objs.size) { s with heap:=h',toks:=tk }) :
 VV (VW prog w) A (Uz (.type "dict") [.ref l]) Q E s:=by
 refine callType_codes (Q₁:=λobj s₁=>obj=.ref s.heap.objs.size/\s₁={ s with heap:=s.heap.push { cls:=.type "dict",data:=.dict #[] } }) F.kt_called_dict (F.kt_typeCall_dict_1 _) F.entry_dict_init (kt_code_dict_new _ ⟨rfl,rfl⟩) λobj s₁ h₁=>?_
 obtain⟨rfl,rfl⟩:=h₁;have aV:(s.heap.push { cls:=.type "dict",data:=.dict #[] }).DictOf knd s.heap.objs.size []:=Heap.DictOf.new s.heap;have ax:l < s.heap.objs.size:=Vy hx;refine⟨aV.typeIs,F.args_dict_init_2 _ _,Jtc (A:=A.in1) (knd:=knd) hh aV (Us _ hx) (VB ax) hl hb (hp.but (λ_=>True) (λ_ _ _=>trivial) λb o _ e=>Us _ e) λh' tk hk b6=>?_⟩
 exact⟨rfl,h h' tk (λb o e=>hk b o (VB (Vy e)) (Us _ e)) b6⟩
end
def Jqd:List V->Hp->VK->Prop:=λxs H Q=>∃ (p:Vh) (ys:List V) (ac:List (Key×V)),xs=[.ref p]/\H p=Vo (.lst ys)/\ys.length<=1000/\Vm (λ(kv:Key×V) y=>∃ t,y=.ref t/\H t=Vo (.tup [kV kv.1,kv.2])) ac ys/\∀ D,H D=Vp->Q (.ref D) (upd H D (.dK (Jw [] ac)))
theorem XVa{X:Cx}{aa:YP_}{σ:St}{H:Hp}{s:VH}(I:Inv X aa σ H s):∀ {ac:List (Key×V)} {ys:List V} {ag:List Va},Vm (λ(kv:Key×V) y=>∃ t,y=V.ref t/\H t=Vo (.tup [kV kv.1,kv.2])) ac ys->Qz ys ag ->
 ∃ kks:List (Key×Va),KV ac kks/\JK (QP X.prog X.w) s.heap ag kks
 | [],_,_,.nil,v=>by cases v;exact⟨[],.nil,λi k x e=>by simp at e⟩
 | kv::ac,_,_,.cons r p,v=>by
  cases v with
  | cons rv v =>
   obtain⟨t,rfl,ht⟩:=r;obtain⟨kks,a,b⟩:=XVa I p v;cases rv;obtain⟨hz,jts,rj,hj⟩:=(show QN X.prog X.w H s.heap t (.tup [kV kv.1,kv.2]) from I.hok t _ ht)
   cases rj with
   | @cons _ key _ _ r1 rj =>
   cases rj with
   | @cons _ x _ _ r2 rj =>
   cases rj;refine⟨(kv.1,x)::kks,.cons ⟨rfl,r2⟩ a,λi k y e=>?_⟩
   cases i with
   | zero =>
    simp at e;obtain⟨rfl,rfl⟩:=e;exact⟨t,key,rfl,hj,(QNd r1).1⟩
   | succ i =>
    simp at e;obtain⟨t',og,h1,h2,h3⟩:=b i k y e;exact⟨t',og,by simpa using h1,h2,h3⟩
theorem X2b{X:Cx}(hh:X.A.handled=Vp):JV X (.type "dict") Jqd:=by
 intro aa s σ H xs us Q I r h;obtain⟨p,ys,ac,rfl,hp,lz,pr,q⟩:=h;obtain⟨u,rfl,ru⟩:=Y5 r;obtain rfl:u=Vk p:=ru;obtain⟨hz,ag,n,rv,hx⟩:=(show QN X.prog X.w H s.heap p (.lst ys) from I.hok p _ hp)
 obtain⟨kks,kv,pa⟩:=XVa I pr rv;have l1:=Vn pr;have l2:=rv.length;have l3:=kv.length;refine Juc (knd:=QP X.prog X.w) hh hx #[0] #[0] pa λh' tk kp hD=>?_
 have gP:(Jw [] ac).length<=Vs:=by
  have h1:=Xl ac [];rw[OP]at h1;rw[UD];lia
 exact⟨.ref s.heap.objs.size,_,I.laid (a:=s.heap.objs.size) (o:=.dK (Jw [] ac)) (t':=tk) kp (Uu _) ⟨gP,beq_eq_false_iff_ne.mpr (VR (VB I.big)),_,kv.merge .nil,hD⟩,rfl,q _ (I.hok.fresh (Uu _))⟩
def Jrd:List V->Hp->VK->Prop:=λxs H Q=>∃ d ac,xs=[.ref d]/\H d=Vo (.dK ac)/\ac.length<=1000/\∀ D,H D=Vp->Q (.ref D) (upd H D (.lst (ac.map λp=>kV p.1)))
theorem XWa{X:Cx}(hh:X.A.handled=Vp):JV X (.type "list") Jrd:=by
 intro aa s σ H xs us Q I r h;obtain⟨d,ac,rfl,hd,hl,q⟩:=h;obtain⟨u,rfl,ru⟩:=Y5 r;obtain rfl:u=Vk d:=ru;obtain⟨z,y,vs,rv,o,es,ep,e0,c1,c2,c3⟩:=(show QN X.prog X.w H s.heap d (.dK ac) from I.hok d _ hd)
 have da:s.heap.DictAt (QP X.prog X.w) d vs ep:=⟨o,es,e0,c1,c2,c3⟩;refine kdl_call (kdl_dict (knd:=QP X.prog X.w) (ep:=ep) y) hh da (by rw[<- rv.len];exact VL (QA #[0])) λh' tk aQ c kp hD oh=>?_
 exact⟨.ref s.heap.objs.size,_,I.laid (t':=tk) kp (Uu _) (show QN X.prog X.w _ h' _ (.lst (ac.map λp=>kV p.1)) from⟨by rw[UQ];exact VL (QA #[0]),aQ.toList,c,Joc rv oh,by simpa using hD⟩),rfl,q _ (I.hok.fresh (Uu _))⟩
theorem ZCa:VF "dict"=Vo (.type "dict"):=by rfl
theorem Qzb:Ot (.type "tuple") "keys"=pure Vp:=by rw[LW,LX];kernel_rfl
theorem Yna:Ot (.type "tuple") "__getattr__"=pure Vp:=by rw[LW,LX];kernel_rfl
section
variable{prog:Vg}{w:Vb}{A:VG}{E:YQ_}{h:Vq}{g:Array VQ}{d:Drawn}{t:Nat}{os:OsState}{a:Vh}{ag:Array Va}{c:Nat}{sl:Array (Option Va)}
theorem Yoa{tk:Tok}{Q:II->VH->Prop}(hh:A.handled=Vp)(hx:h.get? a=Vo { cls:=.type "tuple",dict:=Vp,data:=.seq ag c,slots:=sl })
 (hE:∀ h' tk e,LY h h' e (.ref a) "keys"->E (.ref e) ⟨h',g,d,tk,os⟩) :
 VV (VW prog w) A (Ib.«object.__getattribute__» ⟨[.ref a,.str "keys" tk],[]⟩) Q E ⟨h,g,d,t,os⟩:=by
 have hT:(⟨h,g,d,t,os⟩:VH).TypeIs (.ref a) "tuple":=⟨_,hx,rfl⟩;have f4:=Qzb
 repeat (any_goals (first | assumption | wp_step))
 exact wpAny_raiseAttrError hh hE (attrMsg_fits (by decide +kernel) (by decide +kernel))
theorem QAb{tk:Tok}{Q:YQ_}(hh:A.handled=Vp)(hx:h.get? a=Vo { cls:=.type "tuple",dict:=Vp,data:=.seq ag c,slots:=sl })
 (hE:∀ h' tk e,LY h h' e (.ref a) "keys"->E (.ref e) ⟨h',g,d,tk,os⟩) :
 VV (VW prog w) A (LD (.ref a) (.str "keys" tk) false) Q E ⟨h,g,d,t,os⟩:=by
 have hT:(⟨h,g,d,t,os⟩:VH).TypeIs (.ref a) "tuple":=⟨_,hx,rfl⟩;have f1:=LZ;have f2:=F.slot_tuple_getattribute.lookup;have f3:=F.slot_tuple_getattribute.bind (.ref a);have f5:=Yna;unfold LD
 repeat (any_goals (first | assumption | wp_step))
 refine LH F.slot_tuple_getattribute.plain F.entry_tuple_ga (F.slot_tuple_getattribute.check _ _ _ _ _ _ _ _ hT (F.args_tuple_getattribute_2 _ _) (Yoa hh hx λh' wc e aC=>?_))
 obtain⟨t',u',he⟩:=aC.there;show VV _ _ (L3 _ _ _ _ _ _ _) _ _ _;unfold L3
 repeat (any_goals (first | assumption | wp_step))
 exact hE _ _ _ aC
theorem Y2a{Q:Option Va->VH->Prop}(hh:A.handled=Vp)(hx:h.get? a=Vo { cls:=.type "tuple",dict:=Vp,data:=.seq ag c,slots:=sl })
 (hQ:∀ h' tk,(∀ b u,h.get? b=Vo u->h'.get? b=Vo u)->Q Vp ⟨h',g,d,tk,os⟩):VV (VW prog w) A (getAttr? (.ref a) "keys") Q E ⟨h,g,d,t,os⟩:=by
 unfold getAttr? getAttrBy?;refine Ud (wpAny_mkText ?_)
 refine Ud (Lq (QAb hh hx λh' tk e aC=>?_))
 obtain⟨t',u',he⟩:=aC.there;have f1:=LZ
 repeat (any_goals (first | assumption | wp_step))
 exact hQ _ _ aC.keeps
end
section
variable{prog:Vg}{w:Vb}{K:Type}[DecidableEq K]{knd:KeyKind prog w K}{A:VG}{E:YQ_}{s:VH}
theorem Y3a{it l d:Vh}{vs:List Va}{kks:List (K×Va)}(hh:A.handled=Vp)(hl:kks.length=vs.length)(hb:vs.length<=1000)(au:it≠d)(n6:l≠d)(n8:l≠it) :
 ∀ (m i:Nat) (eT:Tok) (s:VH) (R:UJ->VH->Prop),m=vs.length - i->i<=vs.length->s.heap.IsTupleIter it l i->s.heap.IsTuple l vs.toArray->s.heap.DictOf knd d (OY [] (kks.take i))->(OY [] (kks.take i)).length<=i->JK knd s.heap vs kks ->
  (∀ h' tk,(∀ b o,b≠it->b≠d->s.heap.get? b=Vo o->h'.get? b=Vo o)->h'.DictOf knd d (OY [] kks)->R (.ok (.ret .none)) { s with heap:=h',toks:=tk }) ->
  UL (VW prog w) A (.builtin "dict.update.loop" ⟨[.ref d,.ref it,.int i eT,.none],[]⟩) R s:=by
 intro m
 induction m with
 | zero =>
  intro i eT s R hm hi cM eU hD _ hp hR;have e:i=vs.length:=by lia
  subst e;refine L4 Ja ?_
  rw[L5 QY _];unfold Ib.«dict.update.loop»;dsimp only;refine Ud (wpAny_pyNext_tuple_end hh cM eU #[2] λh' eb=>?_)
  dsimp only;rw[Iu #[0]]at hD
  show VV _ _ (Builtin.Dict.addKeywords d [] >>= _) _ _ _;refine Ud (Uo (Uo (hR h' s.toks (λb o h1 h2 e=>eb b o h1 e) (hD.extBut eb (VR au)))))
 | succ m ih =>
  intro i eT s R hm hi cM eU hD lD hp hR;have bx:i < vs.length:=by lia
  obtain⟨k,x,jJ⟩:∃ k x,kks[i]?=Vo (k,x):=⟨_,_,IE #[0]⟩
  obtain⟨t,key,gF,ht,cZ⟩:=hp i k x jJ;refine L4 Ja ?_
  rw[L5 QY _];unfold Ib.«dict.update.loop»;dsimp only;refine Ud (wpAny_pyNext_tuple_item cM eU (x:=.ref t) (by simpa using gF) λh' gK sb=>?_)
  dsimp only;obtain⟨ot,bZ,cy,nt,cz⟩:=id ht;have gL:t≠it:=λz=>by
   obtain⟨oi,gM,gN,_⟩:=cM;rw[z,gM]at bZ;cases bZ;rw[gN]at cy;exact absurd (LM cy) #[1]
  have we:t≠d:=λz=>by
   obtain⟨od,_,_,gO,bc,_⟩:=hD;rw[z,gO]at bZ;cases bZ;have:=bc.1;rw[this]at cy;exact absurd (LM cy) #[1]
  have dm:h'.get? t=Vo ot:=(sb.2 t gL).trans bZ;have b6:h'.DictOf knd d (OY [] (kks.take i)):=hD.sameBut sb (VR au);refine Ud (Ue (Ud (wpAny_tryCatch ?_)))
  unfold Builtin.Dict.pairItems;refine Ud (LN (T:="tuple") ⟨_,dm,cy⟩ ?_)
  rw[if_pos #[1]]
  refine Ud (Lh dm cz (Uo ?_))
  show VV _ _ (V6 [key,x] (dictSet d key x)) _ _ _;refine Ue (wpAny_dictSet_pairs cZ b6 (λh2 cN cL=>?_) (VJ lD (VJ (show i<=1000 by lia) (by rw[UD];decide))))
  have et:OY [] (kks.take (i+1))=OR (OY [] (kks.take i)) k x:=by
   unfold OY;rw[Iq,jJ,foldl_append];rfl
  have keep:∀ b o,b≠it->b≠d->s.heap.get? b=Vo o->h2.get? b=Vo o:=λb o h1 h2 e=>(cL.2 b h2).trans ((sb.2 b h1).trans e)
  have bG:∀ t' ag,Vt s.heap t' ag->t'≠it/\t'≠d:=λt' ag ⟨o',aN,bA,_⟩=>by
   constructor
   ·intro z
    obtain⟨oi,gM,gN,_⟩:=cM;rw[z,gM]at aN;cases aN;rw[gN]at bA;exact absurd (LM bA) #[1]
   ·intro z
    obtain⟨od,_,_,gO,bc,_⟩:=hD;rw[z,gO]at aN;cases aN;rw[bc.1]at bA;exact absurd (LM bA) #[1]
  refine Uo ⟨L6 QY _,?_⟩
  refine ih (i+1) _ _ R #[0] #[0] ?_ ?_ (by rw[et];exact cN) ?_ (hp.but (λb=>b≠it/\b≠d) bG λb o hb e=>keep b o hb.1 hb.2 e) λh3 tk fM mx=>?_
  ·obtain⟨o,ho,r⟩:=gK
   exact⟨o,(cL.2 it au).trans ho,r⟩
  ·obtain⟨o,ho,r⟩:=eU
   exact⟨o,(cL.2 l n6).trans ((sb.2 l n8).trans ho),r⟩
  ·rw[et]
   unfold OR
   split
   ·simp;lia
   ·simp;lia
  ·exact hR h3 tk (λb o h1 h2 e=>fM b o h1 h2 (keep b o h1 h2 e)) mx
theorem X3b{R:UJ->VH->Prop}{D l:Vh}{vs:List Va}{kks:List (K×Va)}{c:Nat}{sl:Array (Option Va)}(hh:A.handled=Vp)(aV:s.heap.DictOf knd D [])(hx:s.heap.get? l=Vo { cls:=.type "tuple",dict:=Vp,data:=.seq vs.toArray c,slots:=sl })(n9:l≠D)(hl:kks.length=vs.length)(hb:vs.length<=1000)(hp:JK knd s.heap vs kks)
 (hR:∀ h' tk,(∀ b o,b≠D->s.heap.get? b=Vo o->h'.get? b=Vo o)->h'.DictOf knd D (OY [] kks)->R (.ok (.ret .none)) { s with heap:=h',toks:=tk }) :
 VV (VW prog w) A.in1 (Ib.«dict.__init__» ⟨[.ref D,.ref l],[]⟩)
  (λfin s'=>match fin with | .done f=>R (.ok f) s' | .again c'=>c'.quiet=true/\UL (VW prog w) A c' R s') (λe s'=>R (.error e) s') s:=by
 unfold Ib.«dict.__init__»;refine Ud ?_
 unfold Builtin.Dict.selfAndRest;refine Ud (wpAny_notOrdered_dict aV.typeIs ?_)
 show VV _ _ (pure (D,[Vk l])) _ _ _;refine Uo ?_
 show VV _ _ (L7 "dict.__init__" D (.ref l) [] .none) _ _ _;unfold L7;refine Ud (LN (T:="tuple") ⟨_,hx,rfl⟩ ?_)
 rw[if_pos #[1]]
 obtain⟨jK,g,dr,eT,os⟩:=s;refine Ud (Y2a (A:=A.in1) hh hx λh1 jL keep=>?_)
 rw[if_pos #[1]]
 refine Ud (Lo ?_)
 have iW:=keep l _ hx;have eV:h1.IsTuple l vs.toArray:=⟨_,iW,rfl,c,rfl⟩;refine Ud (Uv (s:=⟨h1,g,dr,jL,os⟩) eV ?_)
 have kp:∀ b o,jK.get? b=Vo o->(h1.push { cls:=.type "tuple_iterator",data:=.fields #[.ref l,.int 0 0] }).get? b=Vo o:=λb o e=>Us _ (keep b o e)
 have cf:∀ b o,jK.get? b=Vo o->b < h1.objs.size:=λb o e=>Vy (keep b o e)
 have cN:(h1.push { cls:=.type "tuple_iterator",data:=.fields #[.ref l,.int 0 0] }).DictOf knd D []:=let ⟨o,es,ep,ho,r⟩:=aV;⟨o,es,ep,kp D o ho,r⟩
 have oa:D < h1.objs.size:=by obtain⟨o,_,_,ho,_⟩:=aV;exact cf D o ho
 refine Uo ⟨L6 QY _,?_⟩
 refine Y3a (knd:=knd) (A:=A) (it:=h1.objs.size) (l:=l) (d:=D) (vs:=vs) (kks:=kks) hh hl hb (Ui oa) n9 (VB (cf l _ hx)) vs.length 0 _ _ R #[0] (Uy _) ⟨_,Ut _ rfl,rfl,rfl⟩ ⟨_,kp l _ hx,rfl,c,rfl⟩ cN (Uy _) (hp.but (λ_=>True) (λ_ _ _=>trivial) λb o _ e=>kp b o e) λh' tk hk b6=>?_
 exact hR h' tk (λb o hb e=>hk b o (VB (cf b o e)) hb (kp b o e)) b6
theorem X4b{Q:YQ_}{l:Vh}{vs:List Va}{kks:List (K×Va)}{c:Nat}{sl:Array (Option Va)}(hh:A.handled=Vp)(hx:s.heap.get? l=Vo { cls:=.type "tuple",dict:=Vp,data:=.seq vs.toArray c,slots:=sl })(hl:kks.length=vs.length)(hb:vs.length<=1000)(hp:JK knd s.heap vs kks)
 (h:∀ h' tk,(∀ b o,s.heap.get? b=Vo o->h'.get? b=Vo o)->h'.DictOf knd s.heap.objs.size (OY [] kks)->Q (.ref s.heap.objs.size) { s with heap:=h',toks:=tk }) :
 VV (VW prog w) A (Uz (.type "dict") [.ref l]) Q E s:=by
 refine callType_codes (Q₁:=λobj s₁=>obj=.ref s.heap.objs.size/\s₁={ s with heap:=s.heap.push { cls:=.type "dict",data:=.dict #[] } }) F.kt_called_dict (F.kt_typeCall_dict_1 _) F.entry_dict_init (kt_code_dict_new _ ⟨rfl,rfl⟩) λobj s₁ h₁=>?_
 obtain⟨rfl,rfl⟩:=h₁;have aV:(s.heap.push { cls:=.type "dict",data:=.dict #[] }).DictOf knd s.heap.objs.size []:=Heap.DictOf.new s.heap;have ax:l < s.heap.objs.size:=Vy hx;refine⟨aV.typeIs,F.args_dict_init_2 _ _,X3b (A:=A.in1) (knd:=knd) hh aV (Us _ hx) (VB ax) hl hb (hp.but (λ_=>True) (λ_ _ _=>trivial) λb o _ e=>Us _ e) λh' tk hk b6=>?_⟩
 exact⟨rfl,h h' tk (λb o e=>hk b o (VB (Vy e)) (Us _ e)) b6⟩
end
def Jsd:List V->Hp->VK->Prop:=λxs H Q=>∃ (p:Vh) (ys:List V) (ac:List (Key×V)),xs=[.ref p]/\H p=Vo (.tup ys)/\ys.length<=1000/\Vm (λ(kv:Key×V) y=>∃ t,y=.ref t/\H t=Vo (.tup [kV kv.1,kv.2])) ac ys/\∀ D,H D=Vp->Q (.ref D) (upd H D (.dK (Jw [] ac)))
theorem XXa{X:Cx}(hh:X.A.handled=Vp):JV X (.type "dict") Jsd:=by
 intro aa s σ H xs us Q I r h;obtain⟨p,ys,ac,rfl,hp,lz,pr,q⟩:=h;obtain⟨u,rfl,ru⟩:=Y5 r;obtain rfl:u=Vk p:=ru;obtain⟨⟨hz,o1,e1,d1⟩,ag,rv,o,ho,hc,n,hd⟩:=(show QN X.prog X.w H s.heap p (.tup ys) from I.hok p _ hp)
 have d1:o.dict=Vp:=by rw[ho]at e1;cases e1;exact d1
 clear e1;obtain⟨oc,od,odt,bv⟩:=o;dsimp only at hc hd d1;subst hc hd d1;have hx:=ho;obtain⟨kks,kv,pa⟩:=XVa I pr rv;have l1:=Vn pr;have l2:=rv.length;have l3:=kv.length;refine X4b (knd:=QP X.prog X.w) hh hx #[0] #[0] pa λh' tk kp hD=>?_
 have gP:(Jw [] ac).length<=Vs:=by
  have h1:=Xl ac [];rw[OP]at h1;rw[UD];lia
 exact⟨.ref s.heap.objs.size,_,I.laid (a:=s.heap.objs.size) (o:=.dK (Jw [] ac)) (t':=tk) kp (Uu _) ⟨gP,beq_eq_false_iff_ne.mpr (VR (VB I.big)),_,kv.merge .nil,hD⟩,rfl,q _ (I.hok.fresh (Uu _))⟩
theorem XW{α β:Type}{F:α->β->Prop}:∀ {a:List α} {b:List β} {c:List α} {d:List β},Vm F a b->Vm F c d->Vm F (a++c) (b++d)
 | _,_,_,_,.nil,h=>h
 | _,_,_,_,.cons r t,h=>.cons r (XW t h)
section
variable{prog:Vg}{w:Vb}{K:Type}[DecidableEq K]{knd:KeyKind prog w K}{A:VG}{E:YQ_}{s:VH}
end
section
variable{prog:Vg}{w:Vb}{A:VG}{E:YQ_}{s:VH}
section
variable{it a:Vh}{i ep:Nat}{es:Array (Int×Va)}{t:SetTable}{Q:Option Va->VH->Prop}
end
section
variable{a:Vh}{i ep slot:Nat}{es:Array (Int×Va)}{t:SetTable}{R:Option (Va×Nat)->VH->Prop}
end
end
section
variable{prog:Vg}{w:Vb}{A:VG}{E:YQ_}{s:VH}
section
variable{it a tp:Vh}{ep:Nat}{es:Array (Int×Va)}{t:SetTable}
end
section
variable{a:Vh}{ep:Nat}{es:Array (Int×Va)}{t:SetTable}
end
end
section
variable{X:Cx}{aa:YP_}{σ:St}{H:Hp}{s:VH}{A:VG}{E:YQ_}
end
section
variable{X:Cx}{e:Expr}{te:TE}{p pos p2 gJ:Pos}{aa:YP_}{σ:St}{H:Hp}{s:VH}
end
section
variable{X:Cx}{e:Expr}{te:TE}{p pos p2 gJ:Pos}{aa:YP_}{σ:St}{H:Hp}{s:VH}
theorem QUd{j k:Nat}{x:Str}{ps:List Str}{sp:Sp}{q1 q2:Pos}(G:Cal X.prog X.w X.K X.mg X.base j x ps sp)(hr:Q5 k X.A)(hj:j<=k)(hg:Gl X x)(aF:(x == ("__debug__":Str))=false:=by decide):PE X (.Call (.Name x q1) [] [] q2) (YLa sp [] E0 Yca):=by
 obtain⟨f,fd,F,b,kp,m⟩:=G;exact J8c F (hr.mono hj) hg m kp b .nil Zfb aF
end
end L2
end
section
namespace Rw
open PySem L2 Pl
end Rw
end
section
open L2 PySem
namespace Tr
section
variable{lv:V->Nat}{l:Int}
theorem Xsc{A B:List (List Dt)}{x:Dt}(h:B≠[]):step lv l (A++B) x=A++step lv l B x:=by
 obtain⟨ini,last,rfl⟩:=Yp h;unfold step
 by_cases c:l < lv (Qx x)
 ·rw[if_pos (.inr c),if_pos (.inr c),IY]
 ·rw[if_neg (λz=>z.elim (λz=>by simp at z) c),if_neg (λz=>z.elim (λz=>by simp at z) c)]
  rw[<- IY,L8,L8,getLast?_concat,getLast?_concat,IY]
theorem YCb{X Y:List Dt}(h:X=[]\/Y=[]\/l < lv (Q9 Y)):Q1 lv l (X++Y)=Q1 lv l X++Q1 lv l Y:=by
 rcases h with h | h | h
 ·rw[h];rfl
 ·rw[h,U1];unfold Q1;simp
 ·by_cases hY:Y=[]
  ·rw[hY,U1];unfold Q1;simp
  revert h hY
  refine QUa (C:=λY=>l < lv (Q9 Y)->Y≠[]->Q1 lv l (X++Y)=Q1 lv l X++Q1 lv l Y) (λ_ z=>absurd rfl z) (λY x ih h _=>?_) Y
  rw[<- IY,YD,YD]
  by_cases e:Y=[]
  ·subst e
   rw[U1];unfold step;rw[if_pos (.inr h),if_pos (.inl rfl)];rfl
  ·rw[ih (by cases Y with | nil=>exact absurd rfl e | cons y r=>exact h) e,Xsc (ZBa e)]
theorem YDb{es:List Dt}{af:List (List Dt)}(c:Y0 lv l es af):Q1 lv l es=af:=by
 revert es
 refine QUa (C:=λaf=>∀ {es:List Dt},Y0 lv l es af->Q1 lv l es=af) (λ{es} c=>?_) (λps p ih es c=>?_) af
 ·have:=c.flat;simp at this;rw[this];rfl
 have hp:=c.full p #[2]
 obtain⟨x,r,rfl⟩:∃ x r,p=x::r:=by cases p with | nil=>exact absurd rfl hp | cons x r=>exact⟨x,r,rfl⟩
 have c':Y0 lv l ps.flatten ps:=⟨rfl,λq hq=>c.full q (VS _ hq),λi y s hi e=>c.head i y s hi (by rw[Oj (List.getElem?_eq_some_iff.mp e).1];exact e),λy s hy=>c.rest y s (VS _ hy)⟩
 have fl:=c.flat;rw[LU]at fl;simp at fl;rw[<- fl];have h1:ps.flatten=[]\/(x::r)=[]\/l < lv (Q9 (x::r)):=by
  by_cases e:ps=[]
  ·exact .inl (by rw[e];rfl)
  ·refine .inr (.inr ?_)
   exact c.head ps.length x r (length_pos_iff.mpr e) #[2]
 rw[YCb h1,ih c']
 congr 1
 have h2:∀ y∈r,(lv (Qx y):Int)<=l:=c.rest x r #[2]
 clear fl h1 c' hp c ih
 revert h2
 refine QUa (C:=λr=>(∀ y∈r,(lv (Qx y):Int)<=l)->Q1 lv l (x::r)=[x::r]) (λ_=>?_) (λr y ih h=>?_) r
 ·unfold Q1 step;simp
 ·rw[show x::(r++[y])=(x::r)++[y] from rfl,YD,ih λz hz=>h z (VS _ hz)]
  have:=h y #[2]
  unfold step;rw[if_neg (λz=>z.elim (λz=>by simp at z) λz=>by lia)]
  rfl
theorem Y0.left{es:List Dt}{P Q:List (List Dt)}(c:Y0 lv l es (P++Q)):Y0 lv l P.flatten P:=⟨rfl,λq hq=>c.full q (VS _ hq),λi y s hi e=>c.head i y s hi (by rw[Oj (List.getElem?_eq_some_iff.mp e).1];exact e),λy s hy=>c.rest y s (VS _ hy)⟩
theorem Y0.right{es:List Dt}{P Q:List (List Dt)}(c:Y0 lv l es (P++Q)):Y0 lv l Q.flatten Q:=⟨rfl,λq hq=>c.full q (Ux _ hq),λi y s hi e=>c.head (P.length+i) y s #[0] (by rw[Oi #[0],Nat.add_sub_cancel_left];exact e),λy s hy=>c.rest y s (Ux _ hy)⟩
end
section
variable{tbl aD:List (Int×Dt)}{l:Int}
theorem QU.app{P P':List (List Dt)}{hs aT:List Dt}(h:QU tbl l P hs)(h':QU tbl l P' aT):QU tbl l (P++P') (hs++aT):=by
 induction h with
 | nil=>exact h'
 | cons m _ ih=>exact .cons m ih
theorem QU.split:∀ {hs aT:List Dt} {P:List (List Dt)},QU tbl l P (hs++aT)->∃ P1 P2,P=P1++P2/\QU tbl l P1 hs/\QU tbl l P2 aT
 | [],aT,P,h=>⟨[],P,rfl,.nil,h⟩
 | x::hs,aT,P,h=>by
  rw[cons_append]at h;generalize e:x::(hs++aT)=q at h;cases h with
  | nil=>cases e
  | @cons part af _ n m r =>
   injection e with e1 e2
   subst e1 e2;obtain⟨P1,P2,rfl,a,b⟩:=QU.split r;exact⟨part::P1,P2,rfl,.cons m a,b⟩
end
def Tow(lv:V->Nat)(tbl:List (Int×Dt)):Nat->List Dt->List Dt->Prop
 | 0,R,hs=>hs=R
 | l+1,R,hs=>∃ gs,Tow lv tbl l R gs/\QU tbl l (Q1 lv l gs) hs
section
variable{lv:V->Nat}{tbl aD:List (Int×Dt)}
theorem Tow.mono(s:∀ x∈tbl,x∈aD):∀ {l:Nat} {R hs:List Dt},Tow lv tbl l R hs->Tow lv aD l R hs
 | 0,_,_,h=>h
 | l+1,_,_,⟨gs,a,b⟩=>⟨gs,a.mono s,b.mono s⟩
theorem Tow.det(f:Fn tbl):∀ {l:Nat} {R hs aT:List Dt},Tow lv tbl l R hs->Tow lv tbl l R aT->hs=aT
 | 0,_,_,_,h,h'=>h.trans h'.symm
 | l+1,_,_,_,⟨gs,a,b⟩,⟨gs',a',b'⟩=>by
  have:=Tow.det f a a';subst this;exact b.det f b'
theorem Ztb{P:List (List Dt)}{p:List Dt}(h:p≠[]):Q9 ((p::P).flatten)=Q9 p:=by
 cases p with
 | nil=>exact absurd rfl h
 | cons x r=>rfl
theorem Tow.fst:∀ {l:Nat} {R hs:List Dt},Tow lv tbl l R hs->(R=[]↔hs=[])/\Q9 hs=Q9 R
 | 0,_,_,h=>by rw[show _=_ from h];exact⟨Iff.rfl,rfl⟩
 | l+1,R,hs,⟨gs,a,b⟩=>by
  obtain⟨h1,h2⟩:=a.fst;have c:=JJ (lv:=lv) (l:Int) gs;generalize Q1 lv l gs=P at b c;cases b with
  | nil =>
   have:=c.flat;simp at this;subst this;exact⟨⟨λ_=>rfl,λ_=>h1.mpr rfl⟩,h2⟩
  | @cons part af hs n m r =>
   have fu:=c.full part #[2]
   have fl:=c.flat;refine⟨⟨λe=>?_,λe=>by cases e⟩,?_⟩
   ·rw[h1.mp e]at fl
    simp at fl;exact absurd fl.1 fu
   ·rw[<- h2,<- fl,Ztb fu];rfl
theorem Tow.ne{l:Nat}{R hs:List Dt}(h:Tow lv tbl l R hs)(n:R≠[]):hs≠[]:=λz=>n (h.fst.1.mpr z)
theorem Tow.ne'{l:Nat}{R hs:List Dt}(h:Tow lv tbl l R hs)(n:hs≠[]):R≠[]:=λz=>n (h.fst.1.mp z)
theorem Tow.app:∀ {l:Nat} {A B a b:List Dt},Tow lv tbl l A a->Tow lv tbl l B b->(A=[]\/B=[]\/l<=lv (Q9 B))->Tow lv tbl l (A++B) (a++b)
 | 0,_,_,_,_,ha,hb,_=>by rw[show _=_ from ha,show _=_ from hb];rfl
 | l+1,A,B,_,_,⟨ga,a1,a2⟩,⟨gb,b1,b2⟩,h=>by
  refine⟨ga++gb,a1.app b1 (h.imp_right λz=>z.imp_right λz=>by lia),?_⟩
  rw[YCb]
  ·exact a2.app b2
  ·rcases h with h | h | h
   ·exact .inl (a1.fst.1.mp h)
   ·exact .inr (.inl (b1.fst.1.mp h))
   ·refine .inr (.inr ?_);rw[b1.fst.2];lia
theorem Tow.split:∀ {l:Nat} {R a b:List Dt},Tow lv tbl l R (a++b)->∃ A B,R=A++B/\Tow lv tbl l A a/\Tow lv tbl l B b/\(a=[]\/b=[]\/l<=lv (Q9 B))
 | 0,R,a,b,h=>⟨a,b,(show _=R from h).symm,rfl,rfl,.inr (.inr (Uy _))⟩
 | l+1,R,a,b,⟨gs,h1,h2⟩=>by
  obtain⟨P,Q,e,hP,hQ⟩:=h2.split;have c:=JJ (lv:=lv) (l:Int) gs;rw[e]at c;have eg:gs=P.flatten++Q.flatten:=by rw[<- LU];exact c.flat.symm
  rw[eg]at h1;obtain⟨A,B,eR,tA,tB,hc⟩:=h1.split;refine⟨A,B,eR,⟨_,tA,by rw[YDb c.left];exact hP⟩,⟨_,tB,by rw[YDb c.right];exact hQ⟩,?_⟩
  by_cases ea:a=[]
  ·exact .inl ea
  by_cases eb:b=[]
  ·exact .inr (.inl eb)
  refine .inr (.inr ?_)
  rw[<- tB.fst.2];cases hQ with
  | nil=>exact absurd rfl eb
  | @cons part af hs n m r =>
   have fu:=c.full part #[2]
   rw[Ztb fu];have hp:0 < P.length:=by rw[<- hP.length];exact length_pos_iff.mpr ea
   obtain⟨x,s,rfl⟩:∃ x s,part=x::s:=by cases part with | nil=>exact absurd rfl fu | cons x s=>exact⟨x,s,rfl⟩
   have:=c.head P.length x s hp #[2]
   show l+1<=lv (Qx x)
   lia
theorem Tow.one{l:Nat}{R:List Dt}{h:Dt}(t:Tow lv tbl (l+1) R [h]):∃ n part,h=Ju (Q9 R) n/\(n,Zn (l:Int) part)∈tbl/\Tow lv tbl l R part/\Q1 lv l part=[part]:=by
 obtain⟨gs,a,b⟩:=t;have c:=JJ (lv:=lv) (l:Int) gs;generalize e:Q1 lv l gs=P at b c;cases b with
 | @cons part af hs n m r =>
  cases r;have fl:=c.flat;simp at fl;subst fl;exact⟨n,part,by rw[a.fst.2],m,a,e⟩
theorem YK.tow{rows:List Dt}{top:Nat}{L:Nat->List Dt}(c:YK lv tbl rows top L):∀ j,j<=top+1->Tow lv tbl j rows (L j):=by
 intro j
 induction j with
 | zero=>intro _;exact c.low
 | succ j ih=>intro h;exact⟨L j,ih #[0],c.up j #[0]⟩
inductive ZCd(lv:V->Nat)(tbl:List (Int×Dt))(l:Nat)(R a b:List Dt)(h:Dt):Prop
 | mk (A M B:List Dt) (n:Int) (part:List Dt) (e:R=A++(M++B)) (tA:Tow lv tbl (l+1) A a) (tM:Tow lv tbl (l+1) M [h]) (tB:Tow lv tbl (l+1) B b) (eh:h=Ju (Q9 M) n) (hm:(n,Zn (l:Int) part)∈tbl) (tp:Tow lv tbl l M part) (hM:M≠[]) (c1:A=[]\/l+1<=lv (Q9 M)) (c2:B=[]\/l+1<=lv (Q9 B)):ZCd lv tbl l R a b h
theorem Tow.at_{l:Nat}{R a b:List Dt}{h:Dt}(t:Tow lv tbl (l+1) R (a++h::b)):ZCd lv tbl l R a b h:=by
 obtain⟨A,N,e,tA,tN,h1⟩:=t.split;obtain⟨M,B,e2,tM,tB,h2⟩:=(show Tow lv tbl (l+1) N ([h]++b) from tN).split
 obtain⟨n,part,eh,hm,tp,_⟩:=tM.one;have hM:M≠[]:=tM.ne' #[2]
 refine⟨A,M,B,n,part,by rw[e,e2],tA,tM,tB,eh,hm,tp,hM,?_,?_⟩
 ·rcases h1 with z | z | z
  ·exact .inl (tA.fst.1.mpr z)
  ·cases z
  ·refine .inr ?_
   rw[e2]at z;cases M with
   | nil=>exact absurd rfl hM
   | cons x r=>exact z
 ·rcases h2 with z | z | z
  ·cases z
  ·exact .inl (tB.fst.1.mpr z)
  ·exact .inr z
theorem Tow.mid{l:Nat}{A M B a m b:List Dt}(tA:Tow lv tbl (l+1) A a)(tM:Tow lv tbl (l+1) M m)(tB:Tow lv tbl (l+1) B b)(h1:A=[]\/M=[]\/l+1<=lv (Q9 M))(h2:B=[]\/l+1<=lv (Q9 B)):Tow lv tbl (l+1) (A++(M++B)) (a++(m++b)):=by
 refine tA.app (tM.app tB (.inr h2)) ?_
 rcases h1 with z | z | z
 ·exact .inl z
 ·subst z;exact .inr h2
 ·by_cases e:M=[]
  ·subst e;exact .inr h2
  ·refine .inr (.inr ?_)
   cases M with
   | nil=>exact absurd rfl e
   | cons x r=>exact z
theorem Tow.up{l:Nat}{R gs hs:List Dt}(t:Tow lv tbl l R gs)(h:QU tbl l (Q1 lv l gs) hs):Tow lv tbl (l+1) R hs:=⟨gs,t,h⟩
theorem QVd{es:List Dt}{l:Int}:(Q1 lv l es).length<=es.length:=by
 have c:=JJ (lv:=lv) l es;have fu:=c.full;have fl:=c.flat;generalize Q1 lv l es=P at fu fl;rw[<- fl];clear fl c
 induction P with
 | nil=>simp
 | cons p r ih =>
  have h1:=fu p #[2]
  have h2:0 < p.length:=length_pos_iff.mpr h1;have:=ih λq hq=>fu q (VO _ hq)
  rw[LV,On,UI];lia
theorem Tow.len{l:Nat}{R gs hs:List Dt}(t:Tow lv tbl l R gs)(h:QU tbl l (Q1 lv l gs) hs):hs.length<=gs.length:=by
 rw[h.length];exact QVd
theorem Tow.len0:∀ {l:Nat} {R hs:List Dt},Tow lv tbl l R hs->hs.length<=R.length
 | 0,_,_,h=>by rw[show _=_ from h];exact Uu _
 | l+1,_,_,⟨gs,a,b⟩=>VJ (a.len b) a.len0
end
section
variable(lt:V->V->Prop)
def XF(k:V)(row:Dt)(R R':List Dt):Prop:=∃ A C,R'=A++row::C/\(R=A++C\/∃ o,R=A++o::C/\Qx o=k)/\(∀ a∈A,lt (Qx a) k)/\∀ c∈C,lt k (Qx c)
def UpR(R:List Dt):Prop:=R.Pairwise λa b=>lt (Qx a) (Qx b)
variable{lt}
theorem XF.mid{k:V}{row:Dt}{A M M' B:List Dt}(h:XF lt k row M M')(hA:∀ a∈A,lt (Qx a) k)(hB:∀ b∈B,lt k (Qx b)):XF lt k row (A++(M++B)) (A++(M'++B)):=by
 obtain⟨X,Y,e,e2,h1,h2⟩:=h;refine⟨A++X,Y++B,by rw[e];simp,?_,λa ha=>?_,λc hc=>?_⟩
 ·rcases e2 with e2 | ⟨o,e2,ho⟩
  ·left;rw[e2];simp
  ·right;exact⟨o,by rw[e2];simp,ho⟩
 ·exact(mem_append.mp ha).elim (hA a) (h1 a)
 ·exact(mem_append.mp hc).elim (h2 c) (hB c)
theorem UpR.left{A B:List Dt}(h:UpR lt (A++B)):UpR lt A:=(pairwise_append.mp h).1
theorem UpR.right{A B:List Dt}(h:UpR lt (A++B)):UpR lt B:=(pairwise_append.mp h).2.1
theorem UpR.across{A B:List Dt}(h:UpR lt (A++B)){a b:Dt}(ha:a∈A)(hb:b∈B):lt (Qx a) (Qx b):=(pairwise_append.mp h).2.2 a ha b hb
theorem JXa{R:List Dt}(h:R≠[]):∃ x∈R,Qx x=Q9 R:=by
 cases R with
 | nil=>exact absurd rfl h
 | cons x r=>exact⟨x,by simp,rfl⟩
theorem UpR.ahead{A M:List Dt}{k:V}(h:UpR lt (A++M))(hM:M≠[])(tr:∀ {a b c},lt a b->lt b c->lt a c)(le:lt (Q9 M) k\/Q9 M=k):∀ a∈A,lt (Qx a) k:=λa ha=>by
 obtain⟨x,hx,e⟩:=JXa hM;have:=h.across ha hx;rw[e]at this
 rcases le with le | le
 ·exact tr this le
 ·rw[<- le];exact this
theorem UpR.behind{M B:List Dt}{k:V}(h:UpR lt (M++B))(tr:∀ {a b c},lt a b->lt b c->lt a c)(le:B=[]\/lt k (Q9 B)):∀ b∈B,lt k (Qx b):=λb hb=>by
 rcases le with le | le
 ·subst le;cases hb
 ·have u:=h.right
  cases B with
  | nil=>cases hb
  | cons x r =>
   rcases mem_cons.mp hb with e | e
   ·rw[e];exact le
   ·exact tr le ((pairwise_cons.mp u).1 b e)
theorem XF.fst{k:V}{row:Dt}{R R':List Dt}(h:XF lt k row R R')(irr:∀ a,¬ lt a a)(tr:∀ {a b c},lt a b->lt b c->lt a c)(hk:Qx row=k)(hR:R≠[])(le:lt (Q9 R) k\/Q9 R=k):Q9 R'=Q9 R:=by
 obtain⟨A,C,e,e2,h1,h2⟩:=h;cases A with
 | cons x r =>
  rw[e]
  rcases e2 with e2 | ⟨o,e2,ho⟩
  ·rw[e2];rfl
  ·rw[e2];rfl
 | nil =>
  rw[e];show Qx row=_;rw[hk]
  rcases e2 with e2 | ⟨o,e2,ho⟩
  ·exfalso
   rw[LL]at e2;subst e2;obtain⟨x,hx,ex⟩:=JXa hR;have:=h2 x hx;rw[ex]at this
   rcases le with le | le
   ·exact irr _ (tr this le)
   ·rw[le]at this;exact irr _ this
  ·rw[e2];exact ho.symm
theorem XF.mem{k:V}{row:Dt}{R R':List Dt}(h:XF lt k row R R')(irr:∀ a,¬ lt a a)(x:Dt):x∈R'↔x=row\/(x∈R/\Qx x≠k):=by
 obtain⟨A,C,e,e2,h1,h2⟩:=h;have ne:∀ y,y∈A\/y∈C->Qx y≠k:=λy hy z=>by
  rcases hy with hy | hy
  ·have:=h1 y hy;rw[z]at this;exact irr _ this
  ·have:=h2 y hy;rw[z]at this;exact irr _ this
 rw[e]
 constructor
 ·intro h
  rcases mem_append.mp h with h | h
  ·refine .inr ⟨?_,ne x (.inl h)⟩
   rcases e2 with e2 | ⟨o,e2,_⟩ <;> rw[e2] <;> simp[h]
  ·rcases mem_cons.mp h with h | h
   ·exact .inl h
   ·refine .inr ⟨?_,ne x (.inr h)⟩
    rcases e2 with e2 | ⟨o,e2,_⟩ <;> rw[e2] <;> simp[h]
 ·rintro(h | ⟨h,hk⟩)
  ·simp[h]
  ·rcases e2 with e2 | ⟨o,e2,ho⟩
   ·rw[e2]at h
    rcases mem_append.mp h with h | h <;> simp[h]
   ·rw[e2]at h
    rcases mem_append.mp h with h | h
    ·simp[h]
    ·rcases mem_cons.mp h with h | h
     ·rw[h]at hk;exact absurd ho hk
     ·simp[h]
end
section
variable{lv:V->Nat}{tbl:List (Int×Dt)}
structure Z5b(lv:V->Nat)(tbl:List (Int×Dt))(R:List Dt)(top:Nat)(n:Int):Prop where
 one:∃ k,Tow lv tbl (top+1) R [Ju k n]
 two:∀ j hs,1<=j->j<=top->Tow lv tbl j R hs->1 < hs.length
theorem YK.toRoot{rows:List Dt}{top:Nat}{L:Nat->List Dt}{k:V}{n:Int}(f:Fn tbl)(c:YK lv tbl rows top L)(e:L (top+1)=[Ju k n]):Z5b lv tbl rows top n :=
 ⟨⟨k,by have:=c.tow (top+1) (Uu _);rw[e]at this;exact this⟩,λj hs h1 h2 t=>by rw[t.det f (c.tow j #[0])];exact c.two j h1 h2⟩
theorem Tow.levels:∀ {l:Nat} {R hs:List Dt},Tow lv tbl l R hs->∃ L:Nat->List Dt,L 0=R/\L l=hs/\∀ j,j < l->QU tbl j (Q1 lv j (L j)) (L (j+1))
 | 0,R,hs,h=>⟨λ_=>R,rfl,(show hs=R from h).symm,λj hj=>by lia⟩
 | l+1,R,hs,⟨gs,a,b⟩=>by
  obtain⟨L,h0,h1,h2⟩:=a.levels;refine⟨λj=>if j=l+1 then hs else L j,(if_neg #[0]).trans h0,if_pos rfl,λj hj=>?_⟩
  show QU tbl j (Q1 lv j (if j=l+1 then hs else L j)) (if j+1=l+1 then hs else L (j+1))
  rw[if_neg #[0]]
  by_cases e:j=l
  ·subst e;rw[if_pos rfl,h1];exact b
  ·rw[if_neg #[0]];exact h2 j #[0]
theorem Jda{l:Nat}{R:List Dt}{L:Nat->List Dt}(h0:L 0=R)(h:∀ j,j < l->QU tbl j (Q1 lv j (L j)) (L (j+1))):∀ j,j<=l->Tow lv tbl j R (L j):=by
 intro j
 induction j with
 | zero=>intro _;exact h0
 | succ j ih=>intro hj;exact⟨L j,ih #[0],h j #[0]⟩
theorem Z5b.chain{R:List Dt}{top:Nat}{n:Int}(r:Z5b lv tbl R top n):∃ L k,YK lv tbl R top L/\L (top+1)=[Ju k n]:=by
 obtain⟨k,t⟩:=r.one;obtain⟨L,h0,h1,h2⟩:=t.levels;exact⟨L,k,⟨h0,λj hj=>h2 j #[0],by rw[h1];rfl,λj eO dW=>r.two j _ eO dW (Jda h0 h2 j #[0])⟩,h1⟩
theorem Z5b.page{R:List Dt}{top:Nat}{n:Int}(r:Z5b lv tbl R top n):∃ part,(n,Zn (top:Int) part)∈tbl/\Tow lv tbl top R part/\Q1 lv top part=[part]/\R≠[]:=by
 obtain⟨k,t⟩:=r.one;obtain⟨n',part,e,hm,tp,hc⟩:=t.one;obtain⟨_,rfl⟩:=YAb e;exact⟨part,hm,tp,hc,t.ne' #[2]⟩
end
section
variable{lv:V->Nat}{tbl:List (Int×Dt)}
theorem YEb{l:Int}{e:Dt}:∀ (r:List Dt),(Q1 lv l (e::r)).map Q9=Qx e::(r.map Qx).filter λk=>decide (l < lv k):=by
 refine QUa rfl λr x ih=>?_
 rw[show e::(r++[x])=(e::r)++[x] from rfl,YD]
 have c:=JJ (lv:=lv) l (e::r);have au:=ZBa (lv:=lv) (l:=l) (es:=e::r) #[2]
 generalize Q1 lv l (e::r)=P at ih c au;obtain⟨ini,last,rfl⟩:=Yp au;unfold step
 by_cases h:l < lv (Qx x)
 ·rw[if_pos (.inr h),Ip,ih,Ip,IX]
  simp[h,Q9]
 ·rw[if_neg (λz=>z.elim (λz=>by simp at z) h),L8,getLast?_concat,Option.getD_some]
  rw[Ip]at ih ⊢;have fu:=c.full last #[2]
  have e1:Q9 (last++[x])=Q9 last:=by cases last with | nil=>exact absurd rfl fu | cons y s=>rfl
  rw[UO,e1,OJ];rw[UO,OJ]at ih;rw[ih,Ip,IX];simp[h]
theorem Tow.keys:∀ {l:Nat} {e:Dt} {r hs:List Dt},Tow lv tbl (l+1) (e::r) hs->hs.map Qx=Qx e::(r.map Qx).filter λk=>decide (l < lv k)
 | 0,e,r,hs,⟨gs,a,b⟩=>by
  rw[show gs=_ from a]at b
  rw[b.keys,YEb]
  congr 1
  exact filter_congr λk _=>by simp
 | l+1,e,r,hs,⟨gs,a,b⟩=>by
  have ih:=Tow.keys a;rw[b.keys];cases gs with
  | nil=>cases ih
  | cons g gr =>
   rw[UO]at ih;injection ih with i1 i2
   rw[YEb,i1,i2,filter_filter]
   congr 1
   refine filter_congr λk _=>?_
   rw[<- Bool.decide_and];exact decide_eq_decide.mpr #[0]
theorem Tow.many{l:Nat}{R hs:List Dt}(h:Tow lv tbl (l+1) R hs)(hR:R≠[]):hs.length=1+(((R.map Qx).tail).filter λk=>decide (l < lv k)).length:=by
 cases R with
 | nil=>exact absurd rfl hR
 | cons e r =>
  have:=congrArg Of h.keys;rw[UQ,UI]at this;rw[this,Nat.add_comm];rfl
theorem Tow.more{l:Nat}{R R' hs aT:List Dt}{aD:List (Int×Dt)}(h:Tow lv tbl (l+1) R hs)(h':Tow lv aD (l+1) R' aT)(hR:R≠[])(s:(R.map Qx).Sublist (R'.map Qx)):hs.length<=aT.length:=by
 have wg:R'≠[]:=λz=>by
  rw[z]at s;have:=sublist_nil.mp s;exact hR (map_eq_nil_iff.mp this)
 rw[h.many hR,h'.many wg];have:=((s.tail).filter λk=>decide (l < lv k)).length_le
 lia
variable{lt:V->V->Prop}
theorem XF.sub{k:V}{row:Dt}{R R':List Dt}(h:XF lt k row R R')(hk:Qx row=k):(R.map Qx).Sublist (R'.map Qx):=by
 obtain⟨A,C,e,e2,h1,h2⟩:=h;rw[e]
 rcases e2 with e2 | ⟨o,e2,ho⟩
 ·rw[e2,Ip,Ip]
  exact List.Sublist.append_left (by rw[UO];exact sublist_cons_self _ _) _
 ·rw[e2,Ip,Ip,UO,UO,ho,hk]
  exact List.Sublist.refl _
end
section
variable(lt:V->V->Prop)(tbl:List (Int×Dt))(k:V)
end
section
variable{lt:V->V->Prop}{tbl aD:List (Int×Dt)}{k:V}
end
section
variable{lv:V->Nat}{tbl:List (Int×Dt)}
end
end Tr
end
section
namespace L2
open PySem PySem.Spec PyProof.Rows
section
variable{X:Cx}
end
end L2
end
section
namespace L2
open PySem PySem.Spec PyProof.Rows PySem.W
section
variable{prog:Vg}{w:Vb}{A:VG}{E:YQ_}{s:VH}{κ:IC}{ks vs:List Va}{r:Nat->Nat}
theorem Zub(hl:ks.length=vs.length)(h2:2<=vs.length)(dq:vs.length < 64)(hc:∀ i j (C:Bool->VH->Prop),i < vs.length->j < vs.length->C (decide (r i < r j)) s->kas_ask prog w A κ ks i j C s) :
 VV (VW prog w) A (sortRuns'.run (SortSt.mk' κ (ks.toArray.zip vs.toArray) #[] 7 Vp)) (λx s'=>∃ p:Array Nat,arrOf x.2=p.map (kas_item (ks.toArray.zip vs.toArray))/\IK x.2=Vp/\s'=s/\SortT.Ok vs.length p/\SortT.Up r p vs.length) E s:=by
 refine kat_run (Q:=λai s'=>∃ p:Array Nat,arrOf ai=p.map (kas_item (ks.toArray.zip vs.toArray))/\IK ai=Vp/\s'=s/\SortT.Ok vs.length p/\SortT.Up r p vs.length)
  (G:=λp s'=>s'=s/\SortT.Ok vs.length p/\SortT.Up r p vs.length) hl h2 dq (λp ai s' a1 a2 a3 a4=>⟨p,a2,a3,a4⟩) ?_
 refine SortT.Zec (n:=vs.length) (r:=r) (I:=λs'=>s'=s) (λi j C s' hi hj es hC=>?_) _ s rfl (SortT.Zp (λp hp s' es=>⟨es,hp⟩) _ (SortT.QBd #[0]))
 subst es;exact hc i j C hi hj (hC s' rfl)
end
section
variable{X:Cx}{aa:YP_}{σ:St}{H:Hp}{s:VH}{A:VG}{E:YQ_}
theorem Z6b{l:Vh}{xs:List V}{lt:V->V->Bool}{Q:VK}(I:Inv X aa σ H s)(hl:SqL X.K H l xs)(dq:xs.length < 64)(hK:QLd xs lt)
 (h:∀ D H' ys,Qj H H'->H D=Vp->H' D=Vo (.lst ys)->ys.Perm xs->ys.Pairwise (λa b=>lt b a=false)->Q (.ref D) H') :
 VV (VW X.prog X.w) X.A (Uz (.builtin "sorted") [.ref l]) (EP X aa σ Q) X.xe s:=by
 obtain⟨vs,rv,pl,hz⟩:=I.list hl;have dZ:=rv.length;have eW:vs.length<=Vs:=by rw[<- dZ];exact hz
 refine Calls.call_function_entry kind_sorted plain_sorted entry_sorted (args_sorted1 _) ?_
 unfold Ib.«sorted»;refine Ud (m:=checkCount "sorted" 1 1 _) (Uo ?_)
 refine Ud (collect_list pl.isList ?_ eW)
 refine Ud (L9 ?_ eW)
 obtain⟨hsz,du⟩:=YLc s.heap vs;have bP:=Ut ((s.heap.push (IJ "list" #[] 0)).update s.heap.objs.size (Oy (·++vs.toArray))) (o:=IJ "list" vs.toArray 0) rfl
 rw[hsz]at bP;have keep:=λb o q=>Us (IJ "list" vs.toArray 0) (du b o q)
 have I1:Inv X aa σ H { s with heap:=((s.heap.push (IJ "list" #[] 0)).update s.heap.objs.size (Oy (·++vs.toArray))).push (IJ "list" vs.toArray 0) }:=I.kept (t':=s.toks) keep
 have fD:Yj X aa H (s.heap.objs.size+1):=I.fpOk (U6 _) (I.hok.fresh (U6 _));show VV _ _ _ _ _ { s with heap:=((s.heap.push (IJ "list" #[] 0)).update s.heap.objs.size (Oy (·++vs.toArray))).push (IJ "list" vs.toArray 0) }
 rw[hsz];generalize ((s.heap.push (IJ "list" #[] 0)).update s.heap.objs.size (Oy (·++vs.toArray))).push (IJ "list" vs.toArray 0)=h1 at bP I1;generalize s.heap.objs.size+1=D at bP fD;refine Ud (Ue (Le slot_list_sort ⟨_,bP,rfl⟩ entry_list_sort ?body (args_list_sort _)))
 case body =>
  rw[list_sort_plain];have s1:=IL h1 D (Oy λ_=>(#[]:Array Va))
  obtain⟨e1,cC⟩:∃ e1,(h1.update D (Oy λ_=>(#[]:Array Va))).get? D=Vo (IJ "list" #[] e1):=⟨_,IM bP λ_=>#[]⟩
  have I2:Inv X aa σ H { s with heap:=h1.update D (Oy λ_=>(#[]:Array Va)) }:=I1.turned (t':=s.toks) (λb o hb q=>(s1.2 b hb).trans q) fD.1 fD.2.1 fD.2.2.2.1 fD.2.2.2.2.1 fD.2.2.2.2.2
  have I3:Inv X (aa++[(D,IJ "list" #[] e1)]) σ H { s with heap:=h1.update D (Oy λ_=>(#[]:Array Va)) }:=I2.pins_of λp hp=>(mem_append.mp hp).elim (λz=>I2.pin p (Ux _ z)) λz=>by
   have z:p=(D,IJ "list" #[] e1):=by simpa using z
   subst z;exact⟨cC,fD.1,fD.2.1,fD.2.2.1,λv q=>by cases q⟩
  have I5:Inv X (aa++[(D,IJ "list" #[] e1)]) σ H { s with heap:=((h1.update D (Oy λ_=>(#[]:Array Va))).push (IJ "tuple" vs.toArray 0)).push (IJ "list" #[] 0) }:=I3.kept (t':=s.toks) λb u q=>Us _ (Us _ q)
  refine Ud (LO bP rfl ?_)
  refine Ud (IN bP rfl ?_ (by rw[UE];exact eW) (Uy _))
  refine Ud (IP cC rfl ?_)
  refine Ud (wpAny_newTuple ?_ (by show vs.length<=_;exact eW))
  refine Ud (L9 ?_ (Uy _))
  refine Ue ?_
  show VV (VW X.prog X.w) _ _ _ _ { s with heap:=((h1.update D (Oy λ_=>(#[]:Array Va))).push (IJ "tuple" vs.toArray 0)).push (IJ "list" #[] 0) }
  generalize ((h1.update D (Oy λ_=>(#[]:Array Va))).push (IJ "tuple" vs.toArray 0)).push (IJ "list" #[] 0)=h2 at I5
  dsimp only;have tail:∀ {st:SortSt} {out:List Va} {ys:List V},(arrOf st).map (·.2)=Iw out->IK st=Vp->Qz ys out->ys.length < 1000->ys.Perm xs->ys.Pairwise (λa b=>lt b a=false) ->
   VV (VW X.prog X.w) X.A.in1.in1 (do
    let ep <- seqEpoch D
    Builtin.List.listUpdate (Vk D) λx=>Array.map (λx=>x.snd) (arrOf st)
    match IK st with
    | some e=>do
     rule "list.sort.comparison-raised"
     throw e
     if (ep != e1)=true then do
         rule "list.sort.modified"
         raiseErrorWords "ValueError" "list modified during sort"
         ret Vi
      else ret Vi
    | x =>
     if (ep != e1)=true then do
      rule "list.sort.modified"
      raiseErrorWords "ValueError" "list modified during sort"
      ret Vi
     else ret Vi)
    (λfin s'=>∃ v,fin=Fin.done (Flow.ret v)/\VV (VW X.prog X.w) X.A.in1 (ret (Vk D)) (λfin s'=>∃ v,fin=Fin.done (Flow.ret v)/\EP X aa σ Q v s') X.xe s')
    X.xe { s with heap:=h2 }:=by
   intro st out ys aY hf ro bw p1 p2;have hD:=(I5.pin (D,IJ "list" #[] e1) (Ux _ (Ux _ #[2]))).1
   have s2:=IL h2 D (Oy λ_=>Iw out)
   obtain⟨c2,fC⟩:∃ c2,(h2.update D (Oy λ_=>Iw out)).get? D=Vo (IJ "list" (Iw out) c2):=⟨_,IM hD λ_=>Iw out⟩
   have ho:out.length < 1000:=by rw[<- ro.length];exact bw
   rw[aY];refine Ud (IP hD rfl ?_)
   refine Ud (IN hD rfl ?_ (Uy _) (by rw[UE];exact Nat.le_succ_of_le (VL (QA #[0]))))
   rw[hf];simp only[bne_self_eq_false,O8,if_false];have I6:Inv X aa σ (upd H D (.lst ys)) { s with heap:=h2.update D (Oy λ_=>Iw out) }:=(I5.unpinned).adopt (t':=s.toks) fD (λb u hb q=>(s2.2 b hb).trans q) ⟨VL (QA #[0]),out,c2,ro,fC⟩
   exact Uo ⟨_,rfl,Uo ⟨_,rfl,.ref D,_,I6,rfl,h D _ ys ((Qj.refl _).updL fD.1 _) fD.1 Qa p1 p2⟩⟩
  by_cases bD:vs.toArray.size < 2
  ·rw[if_pos bD,if_pos bD]
   refine Ud (Uo ?_)
   rw[StateT.run_pure];refine Ud (Uo ?_)
   refine tail (st:=SortSt.mk' general' (vs.toArray.zip vs.toArray) #[] 7 Vp) (out:=vs) ?_ rfl rv #[0] (List.Perm.refl _) (Ynb (by rw[UE]at bD;lia))
   apply Array.toList_inj.mp
   show(Array.map (·.2) (vs.toArray.zip vs.toArray)).toList=_;rw[Array.toList_map,ksk_zip];show Da (·.2) (vs.zip vs)=vs;exact map_snd_zip #[0]
  ·rw[if_neg bD,if_neg bD]
   rw[UE]at bD;obtain⟨T,wj,hT⟩:=hK.ty;have mem:∀ v∈vs,∃ x∈xs,QB x v:=λv hv=>by
    obtain⟨i,hi,rfl⟩:=mem_iff_getElem.mp hv;obtain⟨u,eu,ru⟩:=rv.get (i:=i) (x:=xs[i]'#[0]) (IE _)
    rw[IE hi]at eu
    cases eu;exact⟨_,IF _,ru⟩
   refine Ud (kas_kind (T:=.type T) #[0] (λv hv=>?_) wj #[2] ?_)
   ·obtain⟨x,hx,rx⟩:=mem v hv
    exact Looks.of_pure (hT x hx v rx)
   have hn:0 < xs.length:=by lia
   have at_:∀ i,i < xs.length->QB (xs.getD i .non) (vs.getD i Vi)/\xs.getD i .non∈xs:=λi hi=>by
    obtain⟨u,eu,ru⟩:=rv.get (i:=i) (x:=xs[i]) (IE _)
    have e1:xs.getD i .non=xs[i]:=by simp[hi]
    have e2:vs.getD i Vi=u:=by simp[List.getD,eu]
    rw[e1,e2];exact⟨ru,IF _⟩
   have run:=Zub (prog:=X.prog) (w:=X.w) (A:=X.A.in1.in1) (E:=X.xe) (κ:=oneType') (ks:=vs) (vs:=vs) (s:={ s with heap:=h2 }) (r:=λi=>xs.countP (lt · (xs.getD i .non))) rfl #[0] #[0]
    (λi j C hi hj hC=>by
     rw[<- dZ]at hi hj;rw[hK.swo.rank (at_ i hi).2 (at_ j hj).2]at hC;unfold kas_ask;exact hK.ask _ (at_ i hi).2 _ (at_ j hj).2 _ _ (at_ i hi).1 (at_ j hj).1 _ _ _ _ _ _ hC)
   rw[<- dZ]at run;refine Ud (V1 run ?_ λ_ _ x=>x)
   rintro⟨⟨⟩,ai⟩ s' ⟨p,oj,hf,es,ok,up⟩;subst es;have aY:=kat_snds (ks:=vs) (vs:=vs) rfl oj;exact tail aY hf (rv.pick p.toList) (by rw[UQ,V7,ok.size];lia) (XIa ok) (Ymb hK.swo ok hn up)
end
def Z7b(K:VD):List V->Hp->VK->Prop:=λvs H Q=>∃ a xs lt,vs=[.ref a]/\SqL K H a xs/\xs.length < 64/\QLd xs lt /\
 ∀ D H' ys,Qj H H'->H D=Vp->H' D=Vo (.lst ys)->ys.Perm xs->ys.Pairwise (λa b=>lt b a=false)->Q (.ref D) H'
theorem ZZ{X:Cx}:JV X (.builtin "sorted") (Z7b X.K):=by
 intro aa s σ H xs us Q I r h;obtain⟨a,ys,lt,rfl,hl,dq,hK,q⟩:=h;obtain⟨u,rfl,ru⟩:=Y5 r;obtain rfl:u=Vk a:=ru;exact Z6b I hl dq hK q
def Jtd:List V->Hp->VK->Prop:=λxs H Q=>∃ d ac,xs=[.ref d]/\H d=Vo (.dK ac)/\ac.length<=1000/\∀ D,H D=Vp->Q (.ref D) (upd H D (.dK ac))
theorem XYa{X:Cx}:JV X (.type "dict") Jtd:=by
 intro aa s σ H xs us Q I r h;obtain⟨p,ac,rfl,hp,lz,q⟩:=h;obtain⟨u,rfl,ru⟩:=Y5 r;obtain rfl:u=Vk p:=ru;obtain⟨hz,hn,kks,kv,hD⟩:=(show QN X.prog X.w H s.heap p (.dK ac) from I.hok p _ hp)
 have l3:=kv.length;refine kt_call_dict hn hD (by rw[<- l3];exact hz) λh' hm hs=>?_
 have kp:∀ b o,s.heap.get? b=Vo o->h'.get? b=Vo o:=λb o e=>(hs.2 b (VB (Vy e))).trans (Us _ e)
 exact⟨.ref s.heap.objs.size,_,I.laid (a:=s.heap.objs.size) (o:=.dK ac) (t':=s.toks) kp (Uu _) ⟨hz,beq_eq_false_iff_ne.mpr (VR (VB I.big)),_,kv,hm⟩,rfl,q _ (I.hok.fresh (Uu _))⟩
end L2
end
section
namespace L2
open PySem PySem.Spec PyProof.Rows
section
variable{X:Cx}
end
end L2
end
section
open L2 PySem
namespace Tr
section
variable{lv:V->Nat}{tbl:List (Int×Dt)}
section
variable{lt:V->V->Prop}
end
end
end Tr
end
section
namespace L2
open PySem PySem.W PyProof.Rows
section
variable{X:Cx}{aa:YP_}{σ:St}{H:Hp}{s:VH}
end
end L2
end
section
open L2 PySem
namespace Tr
section
variable{lv:V->Nat}{tbl:List (Int×Dt)}
end
end Tr
end
section
open PySem
namespace L2
section
variable{X:Cx}{aa:YP_}{σ:St}{H:Hp}{s:VH}{a b:Vh}{ac more:List (Key×V)}{A:VG}{E:YQ_}
end
section
variable{X:Cx}{o e:Expr}{ak aq:Pos}{td ty:TE}
end
end L2
end
section
namespace L2
open PySem PySem.Spec PyProof.Rows
section
variable{X:Cx}{m:Str}{k:Nat}{ta:TE}{t:TA}{e o:Expr}{es:List Expr}{pos ak:Pos}{pl:Sem Bool}{f:Vh}{fd:U0}{ps:List Str}{sp:Sp}
end
end L2
end
section
open PySem L2
namespace Tr
section
variable{lv:V->Nat}{tbl aD:List (Int×Dt)}
end
end Tr
end
section
namespace PySem
section
variable{prog:Vg}{w:Vb}{K:Type}[DecidableEq K]{knd:HeapKind prog w K}{A:VG}{E:YQ_}{s:VH}
end
end PySem
namespace L2
open PySem PySem.Spec PyProof.Rows
section
variable{X:Cx}{aa:YP_}{σ:St}{H:Hp}{s:VH}{a b:Vh}{xs:NX}{d:Dt}{A:VG}{E:YQ_}{ac:List (Key×V)}{k:Key}{u r:Va}{v:V}
end
section
variable{X:Cx}{o e f:Expr}{ak aq:Pos}{td ty tx:TE}
end
section
variable{X:Cx}
end
section
variable{X:Cx}
end
theorem Zvb{K:VD}{a:Vh}(xs:List V){te:TE}{σ:St}{H1:Hp}{Q:VK}(P:Hp->Nat->V->Prop)(mono:∀ H H' i v,XD H H'->P H i v->P H' i v)(hx:SqL K H1 a xs)(hz:xs.length<=Vs)
 (he:∀ i x H2 (R:VK),xs[i]?=Vo x->Qj H1 H2->(∀ v H3,P H3 i v->Qj H2 H3->R v H3)->te (Vo x::σ) H2 R)
 (hq:∀ D H2 ys,H1 D=Vp->Qj H1 H2->H2 D=Vo (.lst ys)->ys.length=xs.length->(∀ i y,ys[i]?=Vo y->P H2 i y)->Q (.ref D) H2):LcR (Itl K a) Yda te σ Q H1:=by
 intro D hD;refine⟨λi m ys H2=>m=xs.length - i/\i<=xs.length/\ys.length=i/\H2 D=Vo (.lst ys)/\Qj H1 H2/\∀ j y,ys[j]?=Vo y->P H2 j y,⟨_,rfl,Uy _,rfl,Qa,Qi hD _,λj y h=>by simp at h⟩,?_⟩
 rintro i m ys H2 ⟨rfl,hi,hl,hd,sm,hp⟩;refine⟨hd,?_⟩
 by_cases ax:i < xs.length
 ·refine .inr ⟨⟨xs,xs[i],sm.seq hx,by simp[ax]⟩,by lia,λx H' y=>?_⟩
  obtain⟨e,aC⟩:=y;subst e;have fE:=aC xs (sm.seq hx);unfold Yda;refine Qtd ?_
  refine he i x _ _ fE sm λv H3 pv s3=>⟨s3 _ _ hd,xs.length - (i+1),by lia,rfl,ax,by rw[On,hl];rfl,Qa,(sm.trans s3).updL hD _,λj y h=>?_⟩
  have st:=Zza (zs:=ys++[v]) (s3 _ _ hd)
  by_cases hj:j < ys.length
  ·rw[Oj hj]at h
   exact mono _ _ _ _ (s3.l.trans st) (hp j y h)
  ·rw[Oi #[0]]at h
   have dW:j=i:=by
    have:=(List.getElem?_eq_some_iff.mp h).1
    simp at this
    lia
   subst dW;rw[hl]at h;simp at h;subst h;exact mono _ _ _ _ st pv
 ·have e:i=xs.length:=by lia
  subst e;exact .inl ⟨⟨xs,sm.seq hx,Uu _⟩,hq D H2 ys hD sm hd hl hp⟩
section
variable{X:Cx}{e:Expr}{es:List Expr}{t:TA}{p pos:Pos}
theorem Ql(i:Nat){x:Str}{te:TE}{aH:Pos}(hN:X.N.Nodup)(he:PE X e te)(hi:X.N[i]?=Vo x:=by rfl)(hx:Loc X.env.scope x:=by first | exact ON rfl | exact Or.inr rfl)(hs:Ua e (Vo (.Name x aH)) pos.line X.env=pure false:=by rfl)(hf:X.fn x=true\/X.env.scope.names.lookup x=Vo .local:=by first | exact .inl rfl | exact .inr rfl | assumption) :
 PS X (.Assign [.Name x aH] e pos) (X5c te (J4b i)):=ZNd hN hi hx he hs hf
theorem Qo{j k:Nat}{x:Str}{ps:List Str}{sp:Sp}(G:Cal X.prog X.w X.K X.mg X.base j x ps sp)(hr:Q5 k X.A)(ha:PA X (e::es) t)(hj:j<=k:=by decide)(hg:Gl X x:=by rfl)(aF:(x == ("__debug__":Str))=false:=by decide)
 (he:VZ (e::es) X.env=(false,VX e X.env)::VZ es X.env:=by rfl) (aI:(VY pos (VZ es X.env)).any (·.1)=false:=by rfl):PE X (.Call (.Name x p) (e::es) [] pos) (YLa sp [] E0 t):=Jl G hr hj hg ha aF he aI
theorem XZa{j k:Nat}{x:Str}{ps:List Str}{sp:Sp}(G:Jgc X.prog X.w X.K X.mg X.base j x ps sp)(hr:Q5 k X.A)(ha:PA X.nox (e::es) t)(hj:j<=k:=by decide)(hg:Gl X x:=by rfl)(aZ:X.ex=[]:=by rfl)(aF:(x == ("__debug__":Str))=false:=by decide)
 (he:VZ (e::es) X.env=(false,VX e X.env)::VZ es X.env:=by rfl) (aI:(VY pos (VZ es X.env)).any (·.1)=false:=by rfl):PE1 X (.Call (.Name x p) (e::es) [] pos) (ZWb sp t):=QHd G hr hj hg aZ ha aF he aI
end
theorem X0a:entryFor table "dict_itemiterator.__iter__"=Vo Ib.«dict_keyiterator.__iter__»:=entryFor_alias (id':="dict_keyiterator.__iter__") (by kernel_rfl) rfl (by decide +kernel) (by kernel_rfl)
theorem Y4a{prog:Vg}{w:Vb}{A:VG}{E:YQ_}{s:VH}{it d:Vh}{i n ep:Nat}{ok ov:Va}{Q:YQ_}(cM:IsItemIter s.heap it d i n ep ok ov)(h:Q (.ref it) s):VV (VW prog w) A (Ul (.ref it)) Q E s:=by
 have hT:s.TypeIs (.ref it) "dict_itemiterator":=⟨_,cM,rfl⟩;refine wpAny_pyIter_slot hT F.slot_dict_itemiterator_iter (Le F.slot_dict_itemiterator_iter hT X0a ?_ (F.args_dict_itemiterator_iter_1 _))
 show VV _ _ (ret (.ref it)) _ _ s;exact Uo ⟨_,rfl,"dict_itemiterator",_,hT,F.slot_dict_itemiterator_next.lookup,h⟩
def Itm(d:Vh)(ob:Obj)(ac:List (Key×V)):It :=
 ⟨λi H=>H d=Vo (.frz ob (.dK ac))/\i < ac.length,λi H x H'=>∃ p k v,H p=Vp/\ac[i]?=Vo (k,v)/\x=.ref p/\H'=upd H p (.tup [kV k,v]),λi H=>H d=Vo (.frz ob (.dK ac))/\ac.length<=i⟩
theorem X5b{P:Vg}{w:Vb}{K:VD}{ce:List Expr}{kk:Nat}{bq:Pos}(it d:Vh)(ob:Obj)(ac:List (Key×V))(es:Array DictEntry)(ep:Nat)(cz:ob.data=.dict es ep):ZMb P w K (.Tuple ce kk bq) (Itm d ob ac) [it] it (λi h=>∃ ok ov,IsItemIter h it d i ac.length ep ok ov) where
 mem:=by simp
 obj:=λi h st b hb=>by
  have e:b=it:=by simpa using hb
  subst e;obtain⟨ok,ov,st⟩:=st;exact⟨_,st,λv z=>by cases z⟩
 keep:=λi h h' st k=>let ⟨ok,ov,st⟩:=st;⟨ok,ov,k it #[2] _ st⟩
 item:=by
  intro X hP hw hK hc i aa s σ H E I hf st hg;subst hP hw hK;obtain⟨hz,hi⟩:=hg;obtain⟨ok,ov,st⟩:=st;obtain⟨_,vs,rv,da⟩:=ZYb I.hok hz cz;have hl:=rv.len;obtain⟨k,v,aK⟩:∃ k v,ac[i]?=Vo (k,v):=⟨ac[i].1,ac[i].2,IE hi⟩
  obtain⟨u,hu,ru⟩:=rv.get aK;rw[hl]at st;refine wpAny_pyNext_items_item st da hu λkey h1 hk fj ht mn ol=>⟨_,rfl,wpAny_letOwnedTupleGo_items fj λh2 jD sb=>?_⟩
  have fT:Yj X aa H s.heap.objs.size:=I.fpOk (Uu _) (I.hok.fresh (Uu _));have jB:it≠s.heap.objs.size:=VB (Vy st);have I1:Inv X aa σ H { s with heap:=h2 }:=I.moved (t':=s.toks) (ch:=[it]) (λc hc=>hf c hc) λc o hc e=>by
   have hc:c≠it:=by simpa using hc
   exact(sb.2 c hc).trans (ol c o hc e)
  have jC:h2.get? s.heap.objs.size=Vo { cls:=.type "tuple",data:=.seq #[key,u] }:=(sb.2 _ (VR jB)).trans ht;have I2:Inv X aa σ (upd H s.heap.objs.size (.tup [kV k,v])) { s with heap:=h2 }:=I1.adopt (h':=h2) (t':=s.toks) fT (λ_ _ _ q=>q) ⟨⟨show 2<=Vs by decide,_,jC,rfl⟩,[key,u],.cons (X0b hk) (.cons ru .nil),⟨_,jC,rfl,_,rfl⟩⟩
  refine⟨.ref s.heap.objs.size,_,I2,rfl,⟨_,k,v,fT.1,aK,rfl,rfl⟩,⟨key,u,by rw[hl];exact jD⟩,λb hb=>?_⟩
  have e:b=it:=by simpa using hb
  subst e;rw[Qh jB];exact(hf b #[2]).1
 done:=by
  intro X hP hw hK hc i aa s σ H E I hf st hg;subst hP hw hK;obtain⟨hz,hi⟩:=hg;obtain⟨ok,ov,st⟩:=st;obtain⟨_,vs,rv,da⟩:=ZYb I.hok hz cz;have hl:=rv.len;obtain⟨f0,f1,f2,f3,f4,f5⟩:=hf it #[2]
  rw[hl]at st;exact wpAny_pyNext_items_end (I.ok.hd hc) st da (getElem?_eq_none #[0]) λh' eb=>⟨rfl,I.turned (t':=s.toks) (λb o hb e=>eb b o hb e) f0 f1 f3 f4 f5⟩
 self:=λ_ _ _ _ _ st h=>let ⟨_,_,st⟩:=st;Y4a st h
def Xtc(X:Cx)(tl:TE):TI:=λσ H R=>tl σ H λx H1=>∃ d ac,x=.ref d/\H1 d=Vo (.dK ac)/\∀ ob,NF X d->R (Itm d ob ac) (upd H1 d (.frz ob (.dK ac)))
section
variable{X:Cx}
theorem Xuc{ce:List Expr}{kk:Nat}{bq ak aq:Pos}{o:Expr}{tl:TE}(hl:PE X o tl)(bQ:UU o "items" X.env (VX o X.env)=VX o X.env:=by rfl)(c8:(ak.endLine == aq.line)=true:=by rfl):PI X (.Tuple ce kk bq) (.Call (.Attribute o "items" ak) [] [] aq) (Xtc X tl):=by
 intro aa s σ H R I h;refine wpAny_Call_method bQ rfl c8 F.plainAttrs_dict F.slot_dict_items F.type_dict_items (thn (hl aa s σ H _ I h) λu s1 hZ=>?_)
 obtain⟨x,H1,I1,rx,d,ac,ex,hd,q⟩:=hZ;subst ex;obtain rfl:u=Vk d:=rx;obtain⟨t1,t2,_⟩:=XRb I1 (.inl ⟨ac,.inl hd⟩);obtain⟨ob,jH,I2⟩:=I1.freeze hd;obtain⟨z,y,vs,rv,o,es,ep,e0,c1,c2,c3⟩:=(show QN X.prog X.w H1 s1.heap d (.dK ac) from I1.hok d _ hd)
 rw[jH]at e0;cases e0;have da:s1.heap.DictAt (QP X.prog X.w) d vs ep:=⟨ob,es,jH,c1,c2,c3⟩;have nf:=I1.nf hd;refine⟨t1,t2,method_meetsIn F.slot_dict_items F.entry_dict_items rfl (PySem.evalArgs_none ⟨rfl,t1,F.args_dict_items_1 _,_,meets_dict_items (QP X.prog X.w) d y,⟨vs,da.dictOf⟩,?_⟩)⟩
 have gv:(s1.heap.push { cls:=.type "dict_items",data:=.fields #[.ref d] }).IsItemsView s1.heap.objs.size d:=⟨_,Ut _ rfl,rfl,rfl⟩
 refine wpAny_pyIter_items (knd:=QP X.prog X.w) gv (da.push _) ?_
 have hsz:(s1.heap.push { cls:=.type "dict_items",data:=.fields #[.ref d] }).objs.size=s1.heap.objs.size+1:=US ..;refine⟨s1.heap.objs.size+1,[s1.heap.objs.size+1],λi h=>∃ ok ov,IsItemIter h (s1.heap.objs.size+1) d i ac.length ep ok ov,Itm d ob ac,upd H1 d (.frz ob (.dK ac)),by rw[<- hsz],I2.kept (t':=s1.toks) λb o e=>Us _ (Us _ e),?_,⟨.none,.none,?_⟩,λb hb=>?_,q ob nf⟩
 ·exact X5b _ d ob ac es ep c2
 ·show IsItemIter _ (s1.heap.objs.size+1) d 0 ac.length ep .none .none
  rw[rv.len,<- hsz];exact Ut _ rfl
 ·have e:b=s1.heap.objs.size+1:=by simpa using hb
  subst e;exact I2.fpOk (U6 _) (I2.hok.fresh (U6 _))
theorem X6b{tl:TE}{g:TG}{tb:TS}{D:ZL}{σ:St}{H:Hp}:Qvb (Xtc X tl) g tb D σ H=tl σ H λx H1=>∃ d ac,x=.ref d/\H1 d=Vo (.dK ac)/\∀ ob,NF X d->FoR (Itm d ob ac) g tb D σ (upd H1 d (.frz ob (.dK ac))):=rfl
end
theorem Jvc{d:Vh}{ob:Obj}{ac:List (Key×V)}{g:TG}{tb:TS}{D:ZL}{σ:St}{H:Hp}(Pv:Nat->St->Hp->Prop)(h0:Pv 0 σ H)(hl:∀ i σ H,i<=ac.length->Pv i σ H->H d=Vo (.frz ob (.dK ac)))
 (hs:∀ i k v σ H p,ac[i]?=Vo (k,v)->Pv i σ H->H p=Vp->g (.ref p) σ (upd H p (.tup [kV k,v])) λσ2 H2=>tb { D with nx:=Pv (i+1),ct:=Pv (i+1),bk:=D.nx } σ2 H2) (hd:∀ σ H,Pv ac.length σ H->D.nx σ H):FoR (Itm d ob ac) g tb D σ H:=by
 refine⟨λi m σ H=>m=ac.length - i/\i<=ac.length/\Pv i σ H,⟨_,rfl,Uy _,h0⟩,?_⟩
 rintro i m σ H ⟨rfl,hi,p⟩;have hz:=hl i σ H hi p
 by_cases ax:i < ac.length
 ·refine .inr ⟨⟨hz,ax⟩,Pv (i+1),λσ' H' q=>⟨ac.length - (i+1),by lia,rfl,by lia,q⟩,λx H' hZ=>?_⟩
  obtain⟨a,k,v,hp,aK,ex,e⟩:=hZ;subst e ex;exact hs i k v σ H a aK p hp
 ·have:i=ac.length:=by lia
  subst this;exact .inl ⟨⟨hz,Uu _⟩,hd σ H p⟩
theorem Zwb:∀ {zs:List Str} {ag:List Va},Qz (zs.map V.str) ag->StrsAre ag zs
 | [],[],.nil=>.nil
 | z::zs,u::ag,.cons h r=>by
  obtain⟨t,rfl⟩:=h;exact .cons z t (Zwb r)
theorem ZAa{α β:Type}(f:α->β):∀ (xs:List α) (j:Nat),(xs.map f).eraseIdx j=(xs.eraseIdx j).map f
 | [],j=>by cases j <;> rfl
 | x::xs,0=>rfl
 | x::xs,j+1=>by simp[ZAa f xs j]
theorem X7b{vs:List V}{us:List Va}(h:Qz vs us)(j:Nat):Qz (vs.eraseIdx j) (us.eraseIdx j):=by
 induction h generalizing j with
 | nil=>cases j <;> exact .nil
 | cons a b ih =>
  cases j with
  | zero=>exact b
  | succ j=>exact .cons a (ih j)
def Xvc:V->List V->Hp->VK->Prop:=λx vs H Q=>∃ l,∃ zs:List Str,∃ z,∃ j:Nat,x=.ref l/\vs=[.str z]/\H l=Vo (.lst (zs.map V.str))/\zs[j]?=Vo z/\(∀ i,i < j->zs[i]?≠Vo z)/\Q .non (upd H l (.lst ((zs.eraseIdx j).map V.str)))
section
variable{X:Cx}
theorem Jea:∀ {ag:List Va} {zs:List Str},StrsAre ag zs->∀ (i:Nat) (h:i < ag.length),∃ y t,zs[i]?=Vo y/\ag[i]=.str y t
 | _,_,.cons n t r,0,_=>⟨n,t,rfl,rfl⟩
 | _,_,.cons n t r,i+1,h=>by
  obtain⟨y,t',e1,e2⟩:=Jea r i (by simpa using h)
  exact⟨y,t',e1,e2⟩
theorem X8b:MtM X "list.remove" Xvc:=by
 intro aa s σ H x vs v us Q I rx rv h;obtain⟨l,zs,z,j,rfl,rfl,hH,hj,om,q⟩:=h;cases rx;obtain⟨u,rfl,ru⟩:=rv.one;obtain⟨t,rfl⟩:=ru;obtain⟨hz,ag,n,r,hl,e⟩:=I.lstM hH;have sa:=Zwb r;have jl:j < ag.length:=by rw[<- hl,UQ];exact(List.getElem?_eq_some_iff.mp hj).1
 refine call_meets F.slot_list_remove ⟨_,e,rfl⟩ F.entry_list_remove (F.args_list_remove_2 _ _) (MeetsSeq.list_remove l ag.toArray n (.str z t) (isStrOf z) (λy hy=>eq_isStrOf z t sa y (by simpa using hy)) j (by simpa using jl) ?_ (λm hm wl=>?_) (by rw[UE];lia)) ⟨e,?_⟩
 ·obtain⟨y,t',e1,e2⟩:=Jea sa j jl
  rw[hj]at e1;cases e1;show isStrOf z ag.toArray[j]=true;rw[getElem_toArray,e2];exact beq_self_eq_true z
 ·have ml:m < ag.length:=by simpa using hm
  obtain⟨y,t',e1,e2⟩:=Jea sa m ml;show isStrOf z ag.toArray[m]=false;rw[getElem_toArray,e2];show(y == z)=false;exact beq_eq_false_iff_ne.mpr λez=>om m wl (by rw[e1,ez])
 ·refine⟨.non,_,I.lset (its':=ag.eraseIdx j) (f:=λxs=>xs.eraseIdxIfInBounds j) hH e ?_ ?_ ?_,rfl,q⟩
  ·apply Array.toList_inj.mp
   simp[Array.toList_eraseIdxIfInBounds]
  ·have:=X7b r j
   rwa [ZAa]at this
  ·rw[UQ]at hz ⊢
   exact VJ (length_eraseIdx_le _ _) hz
end
structure X9b(K:VD)(x qual:Str)(st:V0)(ds:List Va)(f:Vh)(fd:U0):Prop where
 ex:∃ (oc i3:Va) (od i7:Option Vh) (T:Vh) (m:Nat) (kV aO pm:Va) (an:Option Vh) (ah ct:Va) (bv cO:Array (Option Va)),
  fd=Oo x qual (Ym st) (Z8 st) (Qg st) (.ref T) kV aO pm an ah ct/\K.lookup f=Vo ⟨oc,od,.func fd,bv⟩/\K.lookup T=Vo ⟨i3,i7,.seq ds.toArray m,cO⟩/\Op K ah qual=true
 kp:UP K (.ref f)=true
section
variable{P:Vg}{w:Vb}{K:VD}{mg:Str->Option Va}{base:Vq}
theorem X9b.ok{x qual:Str}{st:V0}{ds:List Va}{f:Vh}{fd:U0}{N ps:List Str}{k:Nat}{sp:Sp}(F:X9b K x qual st ds f fd)(S:Qp N ps (Qg st))(len:∀ vs H Q E,sp vs H Q E->vs.length=ps.length)
 (bh:∀ (ah:Va) (A:VG) (outer:List Env) (s:VH) (H:Hp) (vs:List V) (Q:VK) (E:XK),Q5 k (A.deeper (Oe qual (Qg st) s.heap.objs.size f ah))->sp vs H Q E ->
  ∃ t,PSs (Z4a CX0 P w K mg base N qual (Qg st) f ah A outer s H E).nox (Z8 st) t/\t { nx:=λ_ H'=>Q .non H',rt:=Q } (ZMa N vs) H):Qy P w K mg base CX0 (k+1) f fd ps sp:=by
 obtain⟨oc,i3,od,i7,T,m,kV,aO,pm,an,ah,ct,bv,cO,rfl,lk,_,bc⟩:=F.ex;refine Yac lk bc S len λA outer s H vs Q E hr b9=>?_
 obtain⟨t,h,q⟩:=bh ah A outer s H vs Q E hr b9;exact⟨t,h.nox,q⟩
theorem X9b.binds{x qual:Str}{st:V0}{ds gs:List Va}{f:Vh}{fd:U0}{ps:List Str}(F:X9b K x qual st ds f fd)
 (h:∀ (T:Vh) (kV aO pm:Va) (an:Option Vh) (ah ct:Va) (us:List Va),(us++gs).length=ps.length->∃ k,bindArgs (Oo x qual (Ym st) (Z8 st) (Qg st) (.ref T) kV aO pm an ah ct) ⟨us,[]⟩=seqItems? (.ref T) >>= k/\k (Vo ds.toArray)=pure (ps.zip (us++gs))):ZA K fd ps gs:=by
 obtain⟨oc,i3,od,i7,T,m,kV,aO,pm,an,ah,ct,bv,cO,rfl,lk,lt,bc⟩:=F.ex;intro s us hK hl;obtain⟨k,h1,h2⟩:=h T kV aO pm an ah ct us hl;exact BindsTo.of_defaults (T:=T) rfl (hK _ _ lt) rfl h1 h2
end
theorem QWd{K:VD}{x qual:Str}{st:V0}{f T:Vh}{ds:List Va}{oc i3:Va}{od i7 an:Option Vh}{bv cO:Array (Option Va)}{m:Nat}{kV aO pm ah ct:Va}(l:K.lookup f=Vo ⟨oc,od,.func (Oo x qual (Ym st) (Z8 st) (Qg st) (.ref T) kV aO pm an ah ct),bv⟩)(t:K.lookup T=Vo ⟨i3,i7,.seq ds.toArray m,cO⟩)
 (c:Op K ah qual=true) (k:UP K (.ref f)=true):X9b K x qual st ds f (Oo x qual (Ym st) (Z8 st) (Qg st) (.ref T) kV aO pm an ah ct):=⟨⟨oc,i3,od,i7,T,m,kV,aO,pm,an,ah,ct,bv,cO,rfl,l,t,c⟩,k⟩
def Jud(P:Vg)(w:Vb)(K:VD)(mg:Str->Option Va)(base:Vq)(k:Nat)(x:Str)(ps:List Str)(gs:List Va)(sp:Sp):Prop :=
 ∃ f fd,Qy P w K mg base CX0 k f fd ps sp/\ZA K fd ps gs/\UP K (.ref f)=true/\mg x=Vo (.ref f)
theorem Zuc{X:Cx}{e:Expr}{es:List Expr}{t:TA}{p pos:Pos}{j k:Nat}{x:Str}{ps:List Str}{gs:List Va}{qX:List V}{sp:Sp}(G:Jud X.prog X.w X.K X.mg X.base j x ps gs sp)(gv:Qz qX gs)(hr:Q5 k X.A)(ha:PA X (e::es) t)(hj:j<=k:=by decide)(hg:Gl X x:=by rfl)(aF:(x == ("__debug__":Str))=false:=by decide)
 (he:VZ (e::es) X.env=(false,VX e X.env)::VZ es X.env:=by rfl) (aI:(VY pos (VZ es X.env)).any (·.1)=false:=by rfl):PE X (.Call (.Name x p) (e::es) [] pos) (YLa sp qX E0 t):=by
 obtain⟨f,fd,F,b,kp,m⟩:=G;exact Q6c F (hr.mono hj) hg m kp b gv Zfb ha aF he aI
theorem Zvc:Qz [V.non,V.non] [Vi,Vi]:=.cons rfl (.cons rfl .nil)
theorem lcP{J:It}{tt:TT}{te:TE}{σ:St}{H1:Hp}{Q:VK}(xs:List V)(p:V->Bool)(Pv:Hp->V->V->Prop)(mono:∀ H H' x v,XD H H'->Pv H x v->Pv H' x v)(hz:xs.length<=Vs)
 (eN:∀ i H2,i < xs.length->Qj H1 H2->J.go i H2/\∀ x H',J.yld i H2 x H'->H'=H2/\xs[i]?=Vo x) (bB:∀ H2,Qj H1 H2->J.stop xs.length H2)
 (ht:∀ (i:Nat) x H2 (R:Bool->Hp->Prop),xs[i]?=Vo x->Qj H1 H2->R (p x) H2->tt (Vo x::σ) H2 R)
 (he:∀ (i:Nat) x H2 (R:VK),xs[i]?=Vo x->p x=true->Qj H1 H2->(∀ v H3,Pv H3 x v->Qj H2 H3->R v H3)->te (Vo x::σ) H2 R)
 (hq:∀ D H2 ys,H1 D=Vp->Qj H1 H2->H2 D=Vo (.lst ys)->Vm (Pv H2) (xs.filter p) ys->Q (.ref D) H2):LcR J tt te σ Q H1:=by
 intro D hD;refine⟨λi m ys H2=>m=xs.length - i/\i<=xs.length/\Vm (Pv H2) ((xs.take i).filter p) ys/\H2 D=Vo (.lst ys)/\Qj H1 H2,⟨_,rfl,Uy _,.nil,Qa,Qi hD _⟩,?_⟩
 rintro i m ys H2 ⟨rfl,hi,hy,hd,sm⟩;refine⟨hd,?_⟩
 by_cases ax:i < xs.length
 ·obtain⟨go,yl⟩:=eN i H2 ax sm
  have hl:ys.length<=i:=by
   rw[<- Vn hy];exact VJ (OU _ _) (by rw[Og];lia)
  refine .inr ⟨go,by lia,λx H' y=>?_⟩
  obtain⟨e,hx⟩:=yl x H' y;subst e;have hn:(xs.take (i+1)).filter p=(xs.take i).filter p++if p x=true then [x] else []:=by
   rw[take_succ,hx,IX];cases hp:p x <;> simp[hp]
  refine ht i x _ _ hx sm ?_
  cases hp:p x with
  | true =>
   rw[if_pos rfl];refine he i x _ _ hx hp sm λv H3 pv s3=>⟨s3 _ _ hd,xs.length - (i+1),by lia,rfl,ax,?_,Qa,(sm.trans s3).updL hD _⟩
   have sl:=Zza (zs:=ys++[v]) (s3 _ _ hd);rw[hn,hp,if_pos rfl];exact XW (Paired.mapP hy λa b z=>mono _ _ _ _ (s3.l.trans sl) z) (.cons (mono _ _ _ _ sl pv) .nil)
  | false =>
   rw[if_neg Uh];refine⟨xs.length - (i+1),by lia,rfl,ax,?_,hd,sm⟩
   rw[hn,hp,if_neg Uh,U1];exact hy
 ·have e:i=xs.length:=by lia
  subst e;rw[IW]at hy;exact .inl ⟨bB H2 sm,hq D H2 ys hD sm hd hy⟩
theorem Xwc{K:VD}{a:Vh}{tt:TT}{te:TE}{σ:St}{H1:Hp}{Q:VK}(xs:List V)(p:V->Bool)(Pv:Hp->V->V->Prop)(mono:∀ H H' x v,XD H H'->Pv H x v->Pv H' x v)(hx:SqL K H1 a xs)(hz:xs.length<=Vs)
 (ht:∀ (i:Nat) x H2 (R:Bool->Hp->Prop),xs[i]?=Vo x->Qj H1 H2->R (p x) H2->tt (Vo x::σ) H2 R)
 (he:∀ (i:Nat) x H2 (R:VK),xs[i]?=Vo x->p x=true->Qj H1 H2->(∀ v H3,Pv H3 x v->Qj H2 H3->R v H3)->te (Vo x::σ) H2 R)
 (hq:∀ D H2 ys,H1 D=Vp->Qj H1 H2->H2 D=Vo (.lst ys)->Vm (Pv H2) (xs.filter p) ys->Q (.ref D) H2):LcR (Itl K a) tt te σ Q H1 :=
 lcP xs p Pv mono hz (λi H2 hi s=>⟨⟨xs,xs[i],s.seq hx,by simp[hi]⟩,λx H' y=>⟨y.1,y.2 xs (s.seq hx)⟩⟩) (λH2 s=>⟨xs,s.seq hx,Uu _⟩) ht he hq
def Xxc(t:TE):TE:=t
theorem Z8b{X:Cx}{e:Expr}{t:TE}(h:PE X e t):PE X e (Xxc t):=h
section
variable{K:VD}{σ:St}{H:Hp}{Q:VK}{ia ic:Nat}{l l2:Vh}{xs bs zs:List V}{i j:Int}{t1 t2 tb:TE}
theorem Yqd{n:Nat}(h:n<=9000):n<=Vs:=VJ h (by rw[UD];decide)
theorem Zwc(xs:List V)(lo hi:Option Int):(XB xs lo hi).length<=xs.length:=by
 unfold XB;rw[Og,Ov]
 lia
theorem Z9b(e1:σ[ia]?=Vo (Vo (.ref l)))(e2:σ[ic]?=Vo (Vo (.ref l2)))(h1:∀ H Q,Q (.int i) H->t1 σ H Q)(h2:∀ H Q,Q (.int j) H->t2 σ H Q)
 (hb:∀ H0 (R:VK),Qj H H0->(∀ b H1,Qj H0 H1->H1 b=Vo (.lst bs)->R (.ref b) H1)->tb σ H0 R) (hl:H l=Vo (.lst xs)) (iU:H l2=Vo (.lst zs)) (lx:xs.length<=1000) (lz:zs.length<=1000) (lb:bs.length<=1000)
 (q:∀ r H',Qj H H'->H r=Vp->H' r=Vo (.lst (XB xs Vp (Vo i)++bs++XB zs (Vo j) Vp))->Q (.ref r) H') :
 Xxc (tOp Yhc (tOp Yhc (tSl (Yec K) (Yi ia) JHa (Ycb t1)) tb) (tSl (Yec K) (Yi ic) (Ycb t2) JHa)) σ H Q:=by
 have c1:=Zwc xs Vp (Vo i);have c2:=Zwc zs (Vo j) Vp;unfold Xxc;simp only[tOp,tSl,Ycb,JHa,Yec,Yhc];refine XN e1 (h1 _ _ ⟨i,rfl,l,xs,rfl,SqL.of hl,λp hp=>hb _ _ (Qi hp _) λb H1 s1 oq=>⟨p,b,_,_,rfl,rfl,s1 _ _ Qa,oq,Yqd #[0],λp2 aP=>?_⟩⟩)
 have s2:=((Qi hp _).trans s1).trans (Qi aP (.lst (XB xs Vp (Vo i)++bs)));refine XN e2 (h2 _ _ ⟨j,rfl,l2,zs,rfl,SqL.of (s2 _ _ iU),λp3 qY=>⟨p2,p3,_,_,rfl,rfl,Qi qY _ _ _ Qa,Qa,Yqd (by rw[On];lia),λp4 ou=>?_⟩⟩)
 have s3:=s2.trans (Qi qY (.lst (XB zs (Vo j) Vp)));refine q p4 _ (s3.trans (Qi ou _)) ?_ Qa
 cases e:H p4 with
 | none=>rfl
 | some o=>rw[s3 _ _ e]at ou;cases ou
end
theorem Jwc{d:Vh}{ob:Obj}{ac:List (Key×V)}{te:TE}{σ:St}{H1:Hp}{Q:VK}(Pl:Nat->Hp->List V->Prop)(hz:ac.length<=Vs)
 (h0:∀ D,H1 D=Vp->Pl 0 (upd H1 D (.lst [])) []) (hd:∀ i H ys,Pl i H ys->H d=Vo (.frz ob (.dK ac))/\ys.length=i)
 (hs:∀ D i k v H ys,H1 D=Vp->ac[i]?=Vo (k,v)->H D=Vo (.lst ys)->Pl i H ys->te (Vo (kV k)::σ) H λv' H'=>H' D=Vo (.lst ys)/\Pl (i+1) (upd H' D (.lst (ys++[v']))) (ys++[v']))
 (hq:∀ D H ys,H1 D=Vp->H D=Vo (.lst ys)->Pl ac.length H ys->Q (.ref D) H):LcR (Itd d ob ac) Yda te σ Q H1:=by
 intro D hD;refine⟨λi m ys H2=>m=ac.length - i/\i<=ac.length/\H2 D=Vo (.lst ys)/\Pl i H2 ys,⟨_,rfl,Uy _,Qa,h0 D hD⟩,?_⟩
 rintro i m ys H2 ⟨rfl,hi,cw,hp⟩;refine⟨cw,?_⟩
 have hf:=hd i H2 ys hp
 by_cases ax:i < ac.length
 ·refine .inr ⟨⟨hf.1,ax⟩,by lia,?_⟩
  rintro x H' ⟨rfl,k,v,aK,rfl⟩;unfold Yda;refine Qtd ?_
  have:=hs D i k v H' ys hD aK cw hp;have e:(λv' bN=>bN D=Vo (HO.lst ys)/\∃ m',m' < ac.length - i/\m'=ac.length - (i+1)/\i+1<=ac.length/\upd bN D (.lst (ys++[v'])) D=Vo (.lst (ys++[v']))/\Pl (i+1) (upd bN D (.lst (ys++[v']))) (ys++[v']))=λv' bN=>bN D=Vo (.lst ys)/\Pl (i+1) (upd bN D (.lst (ys++[v']))) (ys++[v']):=by
   funext v' bN
   refine propext ⟨λ⟨a,_,_,_,_,_,b⟩=>⟨a,b⟩,λ⟨a,b⟩=>⟨a,_,by lia,rfl,ax,Qa,b⟩⟩
  exact e ▸ this
 ·have e:i=ac.length:=by lia
  subst e;exact .inl ⟨⟨hf.1,Uu _⟩,hq D H2 ys hD cw hp⟩
end L2
end
section
namespace L2
open PySem PySem.W PyProof.Rows
end L2
end
section
namespace L2
open PySem PySem.Spec PyProof.Rows PySem.W
section
variable{X:Cx}{aa:YP_}{σ:St}{H:Hp}{s:VH}{k:Nat}{f:Vh}{fd:U0}{p0:Str}{sp:Sp}{A:VG}{E:YQ_}
theorem Jxc{D kS:Vh}{e e1:Nat}{ks:List Va}{vs:List Va}{xs:List V}{rk:V->List V}{lt:V->V->Bool}{P:II->VH->Prop}(I:Inv X (aa++[(D,IJ "list" #[] e1)]) σ H s)(fD:Yj X aa H D)(fK:Yj X (aa++[(D,IJ "list" #[] e1)]) H kS)
 (hk:s.heap.get? kS=Vo (IJ "list" ks.toArray e)) (dq:xs.length < 64) (hl:ks.length=xs.length) (hK:XWb X.K sp H xs rk lt) (my:ZSb X.K H rk xs ks) (rv:Qz xs vs)
 (h:∀ ys s',Inv X aa σ (upd H D (.lst ys)) s'->ys.Perm xs->ys.Pairwise (λa b=>lt b a=false)->P (.done (.ret .none)) s'):VV (VW X.prog X.w) A (ksk_end D false vs.toArray e1 (.ref kS) ks.toArray) P E s:=by
 have dZ:=rv.length;unfold ksk_end;simp only[O8,if_false]
 by_cases h2:vs.toArray.size < 2
 ·rw[if_pos h2,if_pos h2]
  refine Ud (Uo ?_)
  rw[StateT.run_pure];refine Ud (Uo ?_)
  try dsimp only
  refine Zkb (st:=SortSt.mk' general' (ks.toArray.zip vs.toArray) #[] 7 Vp) I fD fK hk #[0] (out:=vs) ?_ rfl rv #[0] λs' I'=>h xs s' I' (List.Perm.refl _) ?_
  ·apply Array.toList_inj.mp
   show(Array.map (·.2) (ks.toArray.zip vs.toArray)).toList=_;rw[Array.toList_map,ksk_zip];show Da (·.2) (ks.zip vs)=vs;exact map_snd_zip #[0]
  ·rw[UE]at h2
   exact Ynb #[0]
 ·rw[if_neg h2,if_neg h2]
  rw[UE]at h2;obtain⟨fs,t1,t2,t3⟩:=Z6c I hK.hd hl my;refine Ud (kat_kind (T:=.type "int") t1 #[0] (λv hv=>?_) #[1] ?_)
  ·obtain⟨n,t,rfl⟩:=t3 v hv
   exact Looks.of_pure rfl
  have et:(Vl "int" != Vl "tuple")=true:=by decide
  rw[et];have hn:0 < xs.length:=by lia
  have run:=Zub (prog:=X.prog) (w:=X.w) (A:=A) (E:=E) (κ:=tuples' true) (ks:=ks) (vs:=vs) (s:=s) (r:=λi=>xs.countP (lt · (xs.getD i .non))) #[0] #[0] #[0]
   (λi j C hi hj hC=>by
    rw[<- dZ]at hi hj;rw[hK.swo.rank (JPa hi) (JPa hj)]at hC;exact YKc I hK hl my hi hj hC)
  rw[<- dZ]at run;refine Ud (V1 run ?_ λ_ _ x=>x)
  rintro⟨⟨⟩,ai⟩ s' ⟨p,oj,hf,es,ok,up⟩;subst es;have aY:=kat_snds #[0] oj
  exact Zkb I fD fK hk #[0] aY hf (rv.pick p.toList) (by rw[UQ,V7,ok.size];lia) λs' I'=>h _ s' I' (XIa ok) (Ymb hK.swo ok hn up)
theorem Qac{D kS:Vh}{e1:Nat}{vs:List Va}{xs:List V}{rk:V->List V}{lt:V->V->Bool}{P:II->VH->Prop}(F:Qy X.prog X.w X.K X.mg X.base CX0 k f fd [p0] sp)(hb:ZA X.K fd [p0] [])(hr:Q5 k A)(cT:A.frames=Vo X.stack)
 (I:Inv X (aa++[(D,IJ "list" #[] e1)]) σ H s) (fD:Yj X aa H D) (fK:Yj X (aa++[(D,IJ "list" #[] e1)]) H kS)
 (hk:s.heap.get? kS=Vo (IJ "list" #[] 0)) (dq:xs.length < 64) (hK:XWb X.K sp H xs rk lt) (rv:Qz xs vs)
 (h:∀ H' ys s',Qj H H'->Inv X aa σ (upd H' D (.lst ys)) s'->H' D=Vp->ys.Perm xs->ys.Pairwise (λa b=>lt b a=false)->P (.done (.ret .none)) s'):VV (VW X.prog X.w) A (ksk_rest D (.ref f) false vs.toArray e1 (.ref kS)) P E s:=by
 have dZ:=rv.length;unfold ksk_rest;refine Ud (Lo ?_)
 first
  | rw[forIn_toArray]
  | (rw[<- LQ];simp only[toList_toArray])
  | rw[<- LQ]
 refine Ud (ksk_fold (λi s'=>∃ (H':Hp) (ks:List Va) (e:Nat),Inv X (aa++[(D,IJ "list" #[] e1)]) σ H' s'/\Qj H H'/\H' kS=Vp/\s'.heap.get? kS=Vo (IJ "list" ks.toArray e)/\ks.length=i/\ZSb X.K H' rk xs ks)
  vs 0 s ⟨H,[],0,I,Qj.refl _,fK.1,hk,rfl,[],rfl,λj p v e1 _=>by simp at e1⟩ (λj x s' hx hJ=>?_) λs' hJ=>?_)
 ·rw[Nat.zero_add]at hJ
  obtain⟨H',ks,e,I',sm,hn,bU,hl,ps,rfl,hp⟩:=hJ;rw[UQ]at hl;have hj:j < xs.length:=by rw[dZ];exact(List.getElem?_eq_some_iff.mp hx).1
  obtain⟨u,hu,ru⟩:=rv.get (IE hj)
  rw[hx]at hu;cases hu;have I2:Inv X ((aa++[(D,IJ "list" #[] e1)])++[(kS,IJ "list" (ps.map Vk).toArray e)]) σ H' s':=I'.pins_of λp hp=>(mem_append.mp hp).elim (λz=>I'.pin p (Ux _ z)) λz=>by
   have z:p=(kS,IJ "list" (ps.map Vk).toArray e):=by simpa using z
   subst z;exact⟨bU,hn,fK.2.1,fK.2.2.1,λv q=>by cases q⟩
  refine Ud (Lq (V1 (YJc F hb hr cT I2 ru (hK.key xs[j] (IF hj) H' sm (λv H3=>∃ p,v=.ref p/\Qj H' H3/\SqT X.K H3 p (rk xs[j])) λp H3 s3 t3=>⟨p,rfl,s3,t3⟩)) (λu bY hu=>?_) λ_ _ hF=>hF.elim))
  obtain⟨v,H3,I3,r3,p,rfl,s3,t3⟩:=hu;cases r3;have fM:=(I3.pin (kS,IJ "list" (ps.map Vk).toArray e) (Ux _ (Ux _ #[2])))
  have s1:=IL bY.heap kS (Oy (·.push (Vk p)));have ea:(Iw (ps.map Vk)).push (Vk p)=Iw ((ps++[p]).map Vk):=by simp
  obtain⟨c2,fC⟩:∃ c2,(bY.heap.update kS (Oy (·.push (Vk p)))).get? kS=Vo (IJ "list" (Iw ((ps++[p]).map Vk)) c2):=⟨_,by rw[<- ea];exact IM fM.1 (·.push (Vk p))⟩
  try dsimp only
  refine Ud (IN fM.1 rfl ?_ (by rw[UE,UQ];exact VL (QA #[0])) (by rw[Array.size_push,UE,UQ];exact Nat.succ_le_succ (VL (QA #[0]))))
  refine Uo ⟨rfl,H3,_,c2,I3.unpinned.turned (t':=bY.toks) (λb o hb q=>(s1.2 b hb).trans q) fM.2.1 fK.2.1 fK.2.2.2.1 fK.2.2.2.2.1 fK.2.2.2.2.2,sm.trans s3,fM.2.1,fC,by rw[UQ,On,hl];simp,ps++[p],rfl,λi q v e1 e2=>?_⟩
  by_cases hi:i < ps.length
  ·rw[Oj hi]at e1
   exact s3.seqT (hp i q v e1 e2)
  ·rw[Oi #[0]]at e1
   have hz:i - ps.length=0:=by
    cases q':i - ps.length with
    | zero=>rfl
    | succ m=>rw[q']at e1;simp at e1
   rw[hz]at e1;have:i=j:=by lia
   subst this;rw[IE hj]at e2
   simp at e1;cases e1;cases e2;exact t3
 ·rw[Nat.zero_add]at hJ
  obtain⟨H',ks,e,I',sm,hn,bU,hl,my⟩:=hJ;refine Ud (LO bU rfl ?_)
  have jM:=(I'.pin (D,IJ "list" #[] e1) (Ux _ (Ux _ #[2]))).2.1
  exact Jxc I' ⟨jM,fD.2⟩ ⟨hn,fK.2⟩ bU dq #[0] ⟨hK.hd,λv hv H2 s2=>hK.key v hv H2 (sm.trans s2),hK.lex,hK.swo⟩ my rv λys bY nA p1 p2=>h H' ys bY sm nA jM p1 p2
end
section
variable{X:Cx}{aa:YP_}{σ:St}{H:Hp}{s:VH}{k:Nat}{f:Vh}{fd:U0}{p0:Str}{sp:Sp}
theorem YFb{l:Vh}{xs:List V}{rk:V->List V}{lt:V->V->Bool}{Q:VK}(F:Qy X.prog X.w X.K X.mg X.base CX0 k f fd [p0] sp)(hb:ZA X.K fd [p0] [])(hr:Q5 (k+2) X.A)
 (I:Inv X aa σ H s) (hl:SqL X.K H l xs) (dq:xs.length < 64) (hK:XWb X.K sp H xs rk lt)
 (h:∀ D H' ys,Qj H H'->H D=Vp->H' D=Vo (.lst ys)->ys.Perm xs->ys.Pairwise (λa b=>lt b a=false)->Q (.ref D) H') :
 VV (VW X.prog X.w) X.A (Uz (.builtin "sorted") [.ref l] [(Lc "key",.ref f)]) (EP X aa σ Q) X.xe s:=by
 obtain⟨vs,rv,pl,hz⟩:=I.list hl;have dZ:=rv.length;have eW:vs.length<=Vs:=by rw[<- dZ];exact hz
 refine call_function_entry_kw kind_sorted plain_sorted entry_sorted (ksk_s1 _ _) ?_
 unfold Ib.«sorted»;refine Ud (m:=checkCount "sorted" 1 1 _) (Uo ?_)
 refine Ud (collect_list pl.isList ?_ eW)
 refine Ud (L9 ?_ eW)
 obtain⟨hsz,du⟩:=YLc s.heap vs;have bP:=Ut ((s.heap.push (IJ "list" #[] 0)).update s.heap.objs.size (Oy (·++vs.toArray))) (o:=IJ "list" vs.toArray 0) rfl
 rw[hsz]at bP;have keep:=λb o q=>Us (IJ "list" vs.toArray 0) (du b o q)
 have I1:Inv X aa σ H { s with heap:=((s.heap.push (IJ "list" #[] 0)).update s.heap.objs.size (Oy (·++vs.toArray))).push (IJ "list" vs.toArray 0) }:=I.kept (t':=s.toks) keep
 have fD:Yj X aa H (s.heap.objs.size+1):=I.fpOk (U6 _) (I.hok.fresh (U6 _));show VV _ _ _ _ _ { s with heap:=((s.heap.push (IJ "list" #[] 0)).update s.heap.objs.size (Oy (·++vs.toArray))).push (IJ "list" vs.toArray 0) }
 rw[hsz];generalize ((s.heap.push (IJ "list" #[] 0)).update s.heap.objs.size (Oy (·++vs.toArray))).push (IJ "list" vs.toArray 0)=h1 at bP I1;generalize s.heap.objs.size+1=D at bP fD;refine Ud (Ue (wpAny_call_entry_kw slot_list_sort ⟨_,bP,rfl⟩ entry_list_sort ?body (ksk_l1 _ _)))
 case body =>
  rw[ksk_t1];unfold ksk_tree;have s1:=IL h1 D (Oy λ_=>(#[]:Array Va))
  obtain⟨e1,cC⟩:∃ e1,(h1.update D (Oy λ_=>(#[]:Array Va))).get? D=Vo (IJ "list" #[] e1):=⟨_,IM bP λ_=>#[]⟩
  have I2:Inv X aa σ H { s with heap:=h1.update D (Oy λ_=>(#[]:Array Va)) }:=I1.turned (t':=s.toks) (λb o hb q=>(s1.2 b hb).trans q) fD.1 fD.2.1 fD.2.2.2.1 fD.2.2.2.2.1 fD.2.2.2.2.2
  have I3:Inv X (aa++[(D,IJ "list" #[] e1)]) σ H { s with heap:=h1.update D (Oy λ_=>(#[]:Array Va)) }:=I2.pins_of λp hp=>(mem_append.mp hp).elim (λz=>I2.pin p (Ux _ z)) λz=>by
   have z:p=(D,IJ "list" #[] e1):=by simpa using z
   subst z;exact⟨cC,fD.1,fD.2.1,fD.2.2.1,λv q=>by cases q⟩
  have I4:Inv X (aa++[(D,IJ "list" #[] e1)]) σ H { s with heap:=(h1.update D (Oy λ_=>(#[]:Array Va))).push (IJ "tuple" vs.toArray 0) }:=I3.kept (t':=s.toks) λb u q=>Us _ q
  have fK:Yj X (aa++[(D,IJ "list" #[] e1)]) H ((h1.update D (Oy λ_=>(#[]:Array Va))).push (IJ "tuple" vs.toArray 0)).objs.size:=I4.fpOk (Uu _) (I4.hok.fresh (Uu _))
  have I5:Inv X (aa++[(D,IJ "list" #[] e1)]) σ H { s with heap:=((h1.update D (Oy λ_=>(#[]:Array Va))).push (IJ "tuple" vs.toArray 0)).push (IJ "list" #[] 0) }:=I4.kept (t':=s.toks) λb u q=>Us _ q
  refine Ud (LO bP rfl ?_)
  refine Ud (IN bP rfl ?_ (by rw[UE];exact eW) (Uy _))
  refine Ud (IP cC rfl ?_)
  refine Ud (wpAny_newTuple ?_ (by show vs.length<=_;exact eW))
  refine Ud (L9 ?_ (Uy _))
  refine Ue ?_
  refine Qac (s:={ s with heap:=((h1.update D (Oy λ_=>(#[]:Array Va))).push (IJ "tuple" vs.toArray 0)).push (IJ "list" #[] 0) }) F hb hr.in1.in1 I.ok.frames I5 fD fK (Ut _ rfl) dq hK rv λH' ys s' sm I' hD p1 p2=>?_
  exact⟨_,rfl,Uo ⟨_,rfl,.ref D,_,I',rfl,h D _ ys (sm.updL fD.1 _) fD.1 Qa p1 p2⟩⟩
theorem YGb{j:Nat}{fx:Str}{e:Expr}{te:TE}{p kp c6 pos:Pos}(G:Cal X.prog X.w X.K X.mg X.base j fx [p0] sp)(hr:Q5 k X.A)(hj:j+2<=k)(hs:Gl X "sorted")(hm:X.mg "sorted"=Vp)(hf:Gl X fx)(he:PE X e te)
 (aF:(fx == ("__debug__":Str))=false:=by decide) (bB:VZ [e] X.env=[(false,VX e X.env)]:=by rfl) :
 PE X (.Call (.Name "sorted" p) [e] [⟨Vo "key",.Name fx kp,c6⟩] pos) (YMc X.K sp te):=by
 obtain⟨f,fd,F,b,kpt,m⟩:=G;intro aa s σ H Q I h;refine U4 (ZZa I hs hm YC ?_)
 refine callWith_kw (thn (Q4c he Qb bB pos aa s σ H (λvs H1=>∃ x,vs=[x]/\∃ a xs rk lt,x=.ref a/\SqL X.K H1 a xs/\xs.length < 64/\XWb X.K sp H1 xs rk lt /\
  ∀ D H' ys,Qj H1 H'->H1 D=Vp->H' D=Vo (.lst ys)->ys.Perm xs->ys.Pairwise (λa b=>lt b a=false)->Q (.ref D) H') I ?_) λus s1 ⟨vs,H1,I1,r1,x,ex,a,xs,rk,lt,ea,hl,dq,hK,q⟩=>?_) (by rw[bB];rfl) (by rw[bB];rfl)
 ·show te σ H _
  exact(show(te σ H λx H1=>_) from h) |> λz=>by
   refine(?_:te σ H _)
   have:=z
   simpa only[Yca,exists_eq_left',List.cons.injEq,and_true]using this
 ·subst ex ea
  obtain⟨u,rfl,ru⟩:=Y5 r1;obtain rfl:u=Vk a:=ru;refine thn (Qrd (nm:=Vo "key") (QWc hf m (v:=.ref f) rfl aF) ZTd pos aa s1 σ H1 (λzs H2=>zs=[.ref f]/\H2=H1) I1 ⟨rfl,rfl⟩) λws s2 hZ=>?_
  obtain⟨zs,H2,I2,rz,ez,eH⟩:=hZ;subst ez eH;obtain⟨u2,rfl,wm⟩:=Y5 rz;obtain rfl:u2=Vk f:=wm;exact YFb F b (hr.mono hj) I2 hl dq hK q
end
section
variable{X:Cx}{aa:YP_}{σ:St}{H:Hp}{s:VH}{A:VG}{E:YQ_}
end
end L2
end
section
namespace My
open PySem L2 Pl Th Tr
variable{CX:CXT}{P:Vg}{w:Vb}{mg:Str->Option Va}{base:Vq}{L N ae az nm zs:List Str}{qual:Str}{scope:Scope}{a d1 d2 dh f hd kl lh nl cE cF:Vh}{cd:Va}{A:VG}{outer:List Env}{s:VH}{H H' H1:Hp}{E:XK}{ky xs ys:List V}{i j:Nat}{hi k lo cG v:V}{ob:Nat->Vh}{M es:List Dt}{st ai:StL}{c:Int}{lv:V->Nat}{tbl:List (Int×Dt)}{Q:VK}{ds:Cl}{B Bh:Bk}{ns:List Int}{S:List Vh}{Rh:List (V×Cl)}
variable{P:Vg}{w:Vb}{K:VD}{mg:Str->Option Va}{base:Vq}{CT:Vh}{cs:Nat->Vh}{ob:Nat->Vh}{f:Vh}{fd:U0}
theorem Jvd{K:VD}:(Z4a CX P w K mg base N qual scope f cd A outer s H E).K=K:=rfl
theorem Jwd{K:VD}:(Z4a CX P w K mg base N qual scope f cd A outer s H E).prog=P:=rfl
theorem Jxd{K:VD}:(Z4a CX P w K mg base N qual scope f cd A outer s H E).w=w:=rfl
theorem Yrd{X:Cx}{sc:Scope}{x:Str}{M:List Str}{cl:List (Str×Vh)}{C:Vh}{fp:List Vh}:(blk X sc x M cl C s H fp).K=X.K:=rfl
theorem dly{G:Prop}(h:∀ g:Prop,(G->g)->g):G:=h G id
local macro_rules | `(tactic| walk_at "sc") => `(tactic| exact ⟨rfl, rfl, rfl, by decide +kernel, rfl, by decide +kernel, by decide +kernel⟩)
local macro_rules | `(tactic| walk_at "n") => do let h := Db `h; let r := Db `rfl; `(tactic| first | (cases $h:ident; subst_vars; rfl) | (repeat (first | (rcases $h:ident with ⟨$r:ident, _⟩; rfl) | rcases $h:ident with ⟨_, $h:ident⟩)))
local macro_rules | `(tactic| walk_at "rd") => do let x := ("Jvd Yrd Z2c Z3c Z4c YAc YBc YCc YDc Qyd Qzd YYa Zgd Ysc J3d ZPb J4d J9d rIn Znd Yhc Yec Yad Int.reduceLT Int.reduceLE Int.reduceToNat JSd J5c tB JPd JOd tOr Zed JQd Zfd tOp tUn XBb XCb tC JRd X5c J4b Zhd tCB YLa Q9b Yca J1d J2d rI rI0 rU rEq rNe X8c X9c Qad Qbd Qcd Qdd Qed Qfd Qgd Qhd Qid Qjd Qkd Qld tBM Q8c XHb tSl Ycb JHa Z7c YMc Ypc X6b Yqc Ywb Xcc Yoc Zmd Zld Zac Zxd Xac Jmc Zwd ZL.thawed Jwd Jxd ZWb Xqc Yod Zyd Zzd ZAd tIf YVc JVd Zid JUd Yfd YYc Yda List.getElem?_cons_zero List.getElem?_cons_succ List.set_cons_zero List.set_cons_succ Option.some.injEq V.int.injEq V.bl.injEq V.str.injEq V.ref.injEq exists_eq_left exists_eq_left' exists_eq_right exists_and_left List.cons.injEq and_true true_and List.append_nil decide_eq_true_eq Bool.not_eq_true' decide_eq_false_iff_not Bool.not_true Bool.not_false if_true if_false Bool.true_eq_false Bool.false_eq_true reduceCtorEq exists_const exists_false false_and and_false not_true_eq_false not_false_eq_true ite_true ite_false".splitOn " ").toArray.map λs => Db s.toName; let y := ("Ycd Z4d Z5d Z6d Qxd".splitOn " ").toArray.map λs => Db s.toName; `(tactic| try simp (maxSteps := 1000000) only [$[↓$y:ident],*, $[$x:ident],*])
local macro_rules | `(tactic| walk_at "side") => `(tactic| first | lia | decide | ((first | unfold Z0a | unfold Qwb | (refine XFb.ok ?_; unfold XFb) | unfold XFb); first | lia | decide))
local macro_rules | `(tactic| walk_at "go") => `(tactic| (repeat refine And.intro (by walk_at "side") ?_))
def top(i:Nat):V0:=PySem.Challenge.pw_twigtable_k26_columns.main.body.getD i (.Pass ⟨0,0,0,0⟩)
def QIa(i j:Nat):V0:=match top i with | .ClassDef _ _ _ body _ _ _ _ _ _ _=>body.getD j (.Pass ⟨0,0,0,0⟩) | s=>s
abbrev JB:V0:=QIa 6 0
theorem JYa:Qp ["self","key"] ["self","key"] (Qg JB):=by walk_at "sc"
abbrev J7:V0:=QIa 7 0
theorem Ypa:Qp ["self","column"] ["self","column"] (Qg J7):=by walk_at "sc"
abbrev Jb:V0:=QIa 8 0
theorem ZJa:Qp ["self","column"] ["self","column"] (Qg Jb):=by walk_at "sc"
abbrev Xm:V0:=QIa 9 0
theorem X1a:Qp ["self","number"] ["self","number"] (Qg Xm):=by walk_at "sc"
abbrev Jfa:V0:=top 14
theorem YHb:Qp ["thing"] ["thing"] (Qg Jfa):=by walk_at "sc"
abbrev Yqa:V0:=top 16
theorem Qbc:Qp ["one"] ["one"] (Qg Yqa):=by walk_at "sc"
abbrev ZDa:V0:=top 20
theorem Qcc:Qp ["thing"] ["thing"] (Qg ZDa):=by walk_at "sc"
abbrev Yra:V0:=top 21
theorem Qdc:Qp ["value"] ["value"] (Qg Yra):=by walk_at "sc"
abbrev Xn:V0:=top 35
theorem Jm:Qp ["key","mix","sign"] ["key"] (Qg Xn):=by walk_at "sc"
abbrev QVa:V0:=QIa 39 0
theorem Jab:Qp ["self","level","entries"] ["self","level","entries"] (Qg QVa):=by walk_at "sc"
abbrev QWa:V0:=QIa 39 1
theorem Jbb:Qp ["self"] ["self"] (Qg QWa):=by walk_at "sc"
abbrev XX:V0:=QIa 39 2
theorem QBb:Qp ["self"] ["self"] (Qg XX):=by walk_at "sc"
abbrev XY:V0:=QIa 39 4
theorem QCb:Qp ["self"] ["self"] (Qg XY):=by walk_at "sc"
abbrev Xo:V0:=QIa 40 1
theorem X2a:Qp ["self","pages"] ["self","pages"] (Qg Xo):=by walk_at "sc"
abbrev Yq:V0:=QIa 41 1
theorem QDb:Qp ["self"] ["self"] (Qg Yq):=by walk_at "sc"
abbrev XZ:V0:=QIa 43 0
theorem QEb:Qp ["self"] ["self"] (Qg XZ):=by walk_at "sc"
abbrev QXa:V0:=top 53
theorem Jcb:Qp ["rows","at","row"] ["rows","at","row"] (Qg QXa):=by walk_at "sc"
abbrev Jga:V0:=top 55
theorem YIb:Qp [] [] (Qg Jga):=by walk_at "sc"
abbrev X7:V0:=top 56
theorem QFb:Qp ["table","column"] ["table","column"] (Qg X7):=by walk_at "sc"
abbrev Jha:V0:=top 64
theorem Xa:Qp ["table","cells","values","row","column"] ["table","cells"] (Qg Jha):=by walk_at "sc"
abbrev QYa:V0:=top 67
theorem Jdb:Qp ["_law_script","_law_k"] ["_law_script","_law_k"] (Qg QYa):=by walk_at "sc"
abbrev Jia:V0:=top 68
theorem QZa:Qp ["_law_cell_here","_law_k","_law_number"] ["_law_cell_here","_law_k"] (Qg Jia):=by walk_at "sc"
abbrev Q0a:V0:=top 69
theorem X8:Qp ["_law_cell_here","_law_some"] ["_law_cell_here"] (Qg Q0a):=by walk_at "sc"
abbrev X9:V0:=top 71
theorem QGb:Qp ["_law_cell_here"] ["_law_cell_here"] (Qg X9):=by walk_at "sc"
abbrev ZD:V0:=top 75
theorem YL:Qp ["_law_some","_law_keys"] ["_law_some"] (Qg ZD):=by walk_at "sc"
abbrev Q1a:V0:=top 76
theorem Jeb:Qp ["_law_key_here","_law_way"] ["_law_key_here","_law_way"] (Qg Q1a):=by walk_at "sc"
abbrev YM:V0:=top 80
theorem J8:Qp ["_law_columns_here","_law_row_here","_law_found","_law_column"] ["_law_columns_here","_law_row_here"] (Qg YM):=by walk_at "sc"
abbrev Xb:V0:=top 83
theorem Jfb:Qp ["_law_some"] ["_law_some"] (Qg Xb):=by walk_at "sc"
abbrev Q2a:V0:=top 15
theorem Jgb:Qp ["thing"] ["thing"] (Qg Q2a):=by walk_at "sc"
abbrev ZEa:V0:=top 17
theorem Qec:Qp ["thing","least"] ["thing","least"] (Qg ZEa):=by walk_at "sc"
abbrev X3a:V0:=top 22
theorem Jyc:Qp ["one","other"] ["one","other"] (Qg X3a):=by walk_at "sc"
abbrev Jhb:V0:=top 36
theorem YJb:Qp ["key","mix"] ["key"] (Qg Jhb):=by walk_at "sc"
abbrev Q3a:V0:=QIa 40 0
theorem Jib:Qp ["self","rows"] ["self","rows"] (Qg Q3a):=by walk_at "sc"
abbrev Q4a:V0:=QIa 41 0
theorem Jjb:Qp ["self","level","heads"] ["self","level","heads"] (Qg Q4a):=by walk_at "sc"
abbrev Qaa:V0:=QIa 43 1
theorem Xp:Qp ["self","page","told","number"] ["self","page"] (Qg Qaa):=by walk_at "sc"
abbrev Xc:V0:=top 70
theorem Yr:Qp ["_law_cell_here","_law_size","_law_fill","_law_at","_law_signs"] ["_law_cell_here","_law_size"] (Qg Xc):=by walk_at "sc"
abbrev Q5a:V0:=top 72
theorem Ys:Qp ["_law_cell_here","_law_high","_law_low","_law_number"] ["_law_cell_here"] (Qg Q5a):=by walk_at "sc"
abbrev Jn:V0:=top 78
theorem Q6:Qp ["_law_cell_here","_law_many","_law_letters","_law_at","_law_names_here","_law_k","_law_places","_law_size"] ["_law_cell_here","_law_many"] (Qg Jn):=by walk_at "sc"
abbrev X4a:V0:=top 18
theorem Jzc:Qp ["thing"] ["thing"] (Qg X4a):=by walk_at "sc"
abbrev Jja:V0:=top 19
theorem YKb:Qp ["thing"] ["thing"] (Qg Jja):=by walk_at "sc"
abbrev Jka:V0:=top 24
theorem Je:Qp ["keys","key","low","high","middle"] ["keys","key"] (Qg Jka):=by walk_at "sc"
abbrev JC:V0:=top 27
theorem JZa:Qp ["key","high"] ["key","high"] (Qg JC):=by walk_at "sc"
abbrev Jla:V0:=top 37
theorem J0:Qp ["key","rest","level"] ["key"] (Qg Jla):=by walk_at "sc"
abbrev J9:V0:=QIa 43 2
theorem Ysa:Qp ["self","number"] ["self","number"] (Qg J9):=by walk_at "sc"
abbrev Jma:V0:=top 73
theorem Xd:Qp ["_law_cell_here","_law_rest","_law_size"] ["_law_cell_here"] (Qg Jma):=by walk_at "sc"
abbrev Qba:V0:=top 74
theorem JL:Qp ["_law_cell_here","_law_rest","_law_size"] ["_law_cell_here"] (Qg Qba):=by walk_at "sc"
abbrev Jna:V0:=top 23
theorem Q6a:Qp ["values","ordered","value"] ["values"] (Qg Jna):=by walk_at "sc"
abbrev Yt:V0:=top 26
theorem ZRa:Qp ["entries","key","place"] ["entries","key"] (Qg Yt):=by walk_at "sc"
abbrev Q7a:V0:=top 28
theorem Jkb:Qp ["key","low","high"] ["key","low","high"] (Qg Q7a):=by walk_at "sc"
abbrev YN:V0:=top 29
theorem Y5a:Qp ["heads","at","low","high"] ["heads","at","low","high"] (Qg YN):=by walk_at "sc"
abbrev Yta:V0:=top 42
theorem Qfc:Qp ["level","entries"] ["level","entries"] (Qg Yta):=by walk_at "sc"
abbrev Qca:V0:=QIa 43 4
theorem ZSa:Qp ["self","number","told"] ["self","number"] (Qg Qca):=by walk_at "sc"
abbrev Xyc:V0:=top 45
theorem Qgc:Qp ["entries","level","parts","entry"] ["entries","level"] (Qg Xyc):=by walk_at "sc"
abbrev Yua:V0:=top 57
theorem Qhc:Qp ["key"] ["key"] (Qg Yua):=by walk_at "sc"
abbrev Joa:V0:=top 58
theorem YLb:Qp ["table","column","value"] ["table","column","value"] (Qg Joa):=by walk_at "sc"
abbrev Q8a:V0:=top 79
theorem Yu:Qp ["_law_cell_here","_law_keys","_law_k","_law_key_here"] ["_law_cell_here"] (Qg Q8a):=by walk_at "sc"
abbrev Jpa:V0:=top 85
theorem Q9a:Qp ["_law_cell_here","_law_columns_here","_law_row_here","_law_k"] ["_law_cell_here","_law_columns_here"] (Qg Jpa):=by walk_at "sc"
abbrev Qda:V0:=QIa 43 3
theorem ZTa:Qp ["self","number","told"] ["self","number"] (Qg Qda):=by walk_at "sc"
abbrev Jqa:V0:=top 46
theorem Xe:Qp ["pages","level","entries","heads","part","page"] ["pages","level","entries"] (Qg Jqa):=by walk_at "sc"
abbrev Qea:V0:=top 59
theorem QHb:Qp ["table","column"] ["table","column"] (Qg Qea):=by walk_at "sc"
abbrev Qfa:V0:=top 62
theorem YMb:Qp ["values"] ["values"] (Qg Qfa):=by walk_at "sc"
abbrev Yva:V0:=top 47
theorem YO:Qp ["pages","level","heads","top","above"] ["pages","level","heads"] (Qg Yva):=by walk_at "sc"
abbrev Qga:V0:=top 61
theorem ZUa:Qp ["cells","column","value","values"] ["cells","column","value"] (Qg Qga):=by walk_at "sc"
abbrev Jlb:V0:=top 48
theorem YNb:Qp ["pages","rows","at"] ["pages","rows"] (Qg Jlb):=by walk_at "sc"
abbrev Zaa:V0:=top 77
theorem Qha:Qp ["_law_found","_law_due","_law_one","_law_other"] ["_law_found","_law_due"] (Qg Zaa):=by walk_at "sc"
abbrev Zba:V0:=top 81
theorem Jo:Qp ["_law_found","_law_due","_law_at","_law_column","_law_value"] ["_law_found","_law_due"] (Qg Zba):=by walk_at "sc"
abbrev YQ:V0:=top 84
theorem Y6a:Qp ["_law_found","_law_columns_here"] ["_law_found","_law_columns_here"] (Qg YQ):=by walk_at "sc"
abbrev Qia:V0:=top 82
theorem JM:Qp ["_law_found","_law_columns_here","_law_some","_law_due","_law_one","_law_row_here"] ["_law_found","_law_columns_here","_law_some"] (Qg Qia):=by walk_at "sc"
abbrev Xq:V0:=QIa 39 5
theorem YR:Qp ["self","pages","rows","number"] ["self","pages"] (Qg Xq):=by walk_at "sc"
abbrev Zca:V0:=top 30
theorem Jp:Qp ["pages","number","low","high","seen","page","heads","at"] ["pages","number","low","high"] (Qg Zca):=by walk_at "sc"
abbrev Ywa:V0:=top 49
theorem Qic:Qp ["pages","root"] ["pages","root"] (Qg Ywa):=by walk_at "sc"
abbrev Qja:V0:=top 52
theorem ZE:Qp ["pages","number","row","page","at","way","heads","inner"] ["pages","number","row"] (Qg Qja):=by walk_at "sc"
abbrev ZFa:V0:=top 31
theorem YS:Qp ["pages","root","low","high","seen","rows","number","page"] ["pages","root","low","high"] (Qg ZFa):=by walk_at "sc"
abbrev Xzc:V0:=top 51
theorem Qjc:Qp ["pages","root","key","cells","row","level"] ["pages","root","key","cells"] (Qg Xzc):=by walk_at "sc"
abbrev Z0:V0:=top 60
theorem YT:Qp ["pages","table","column","columns","rows"] ["pages","table","column"] (Qg Z0):=by walk_at "sc"
abbrev Yxa:V0:=top 63
theorem X5a:Qp ["pages","table","key","cells","column"] ["pages","table","key","cells"] (Qg Yxa):=by walk_at "sc"
abbrev ZGa:V0:=top 65
theorem X6a:Qp ["pages","table","low","high","rows"] ["pages","table","low","high"] (Qg ZGa):=by walk_at "sc"
abbrev Zxb:V0:=top 86
theorem ZI:Qp ["_law_script","_law_names_here","_law_keys","_law_drawn","_law_pages","_law_table","_law_columns_here","_law_some","_law_held","_law_k","_law_name","_law_key_here","_law_new"] ["_law_script"] (Qg Zxb):=by walk_at "sc"
structure Zs(mg:Str->Option Va):Prop where
 all:mg "all"=Vp
 bool:mg "bool"=Vp
 dict:mg "dict"=Vp
 int:mg "int"=Vp
 isinstance:mg "isinstance"=Vp
 len:mg "len"=Vp
 list:mg "list"=Vp
 max:mg "max"=Vp
 min:mg "min"=Vp
 ord:mg "ord"=Vp
 range:mg "range"=Vp
 sorted:mg "sorted"=Vp
 str:mg "str"=Vp
 tuple:mg "tuple"=Vp
 zip:mg "zip"=Vp
 MOST_SIGNS:∃ t,mg "MOST_SIGNS"=Vo (.int (40) t)
 MOST_LETTERS:∃ t,mg "MOST_LETTERS"=Vo (.int (12) t)
 PERCENT:∃ t,mg "PERCENT"=Vo (.int (37) t)
 MODULUS:∃ t,mg "MODULUS"=Vo (.int (2147483647) t)
 TOP_LEVEL:∃ t,mg "TOP_LEVEL"=Vo (.int (6) t)
def Ysd(i j:Nat):Bool:=([(0,0),(1,0),(1,1),(2,0),(2,2),(3,3)]:List (Nat×Nat)).contains (i,j)
structure Tx(K:VD)(mg:Str->Option Va)(CT:Vh)(cs:Nat->Vh)(ob:Nat->Vh):Prop where
 mg_Page:mg "Page"=Vo (.ref (ob 0))
 mg_Leaf:mg "Leaf"=Vo (.ref (ob 1))
 mg_Twig:mg "Twig"=Vo (.ref (ob 2))
 mg_Pages:mg "Pages"=Vo (.ref (ob 3))
 ob_:∀ i,i < 4->ObC K (ob i) ["level","rows","heads","entries","told_by_number","number_by_told","count"]
 isa:∀ i j,i < 4->j < 4->UW K (.ref (ob i)) (.ref (ob j))=Vo (Ysd i j)
 top:Ykd K mg "TableError" CT
 mg_NoPage:mg "NoPage"=Vo (.ref (cs 0))
 mg_NotRising:mg "NotRising"=Vo (.ref (cs 1))
 mg_NoColumn:mg "NoColumn"=Vo (.ref (cs 2))
 mg_ColumnThere:mg "ColumnThere"=Vo (.ref (cs 3))
 mg_BadKey:mg "BadKey"=Vo (.ref (cs 4))
 x_BadKey:Y3c K (cs 4) (.ref CT::W.bmV) W.bmV "ValueError.__new__"
 mg_BadValue:mg "BadValue"=Vo (.ref (cs 5))
 x_BadValue:Y3c K (cs 5) (.ref CT::W.bmV) W.bmV "ValueError.__new__"
 mg_BadWord:mg "BadWord"=Vo (.ref (cs 6))
 x_BadWord:Y3c K (cs 6) (.ref CT::W.bmV) W.bmV "ValueError.__new__"
 cl:∀ i,i < 7->W.XCl K (cs i) CT
 no:∀ i,i < 7->∀ f∈(["number","key","column"]:List Str),Jv K (cs i) f
 tab:∀ i j,i < 7->j < 7->UW K (.ref (cs i)) (.ref (cs j))=Vo (decide (i=j))
 tv:∀ i,i < 7->UW K (.ref (cs i)) (.type "ValueError")=Vo true
seal PE PT PW PA PS PSs PI PG QM PGs PO in
theorem X7a(Z:Zs mg)(T:Tx K mg CT cs ob)(F:Fun K "__init__" "NoPage.__init__" Xm f fd):Qy P w K mg base CX0 1 f fd ["self","number"] (Jkc (cs 0) ["number"]):=by
 refine F.ok X1a (λvs H Q E h=>?_) (λah A outer s H vs Q E hr h=>?_)
 ·obtain⟨e,ws,rfl,hl,_⟩:=h;obtain⟨_,rfl⟩:=length_eq_one_iff.mp hl;rfl
 obtain⟨e,ws,rfl,hl,he,q⟩:=h;obtain⟨w0,rfl⟩:=length_eq_one_iff.mp hl;refine⟨_,(Qc (QZ (JRa T.top rfl (Qf (pv 0) (Qf (pv 1) Qb))))
  (Qe (ZXb CT rfl (pv 0) (pv 1) rfl))),?_⟩
 refine Qk (σ:=[Vo (.ref e),Vo w0]) rfl ?_
 walk_at "rd";simp only[tBI,Y6c,QId];walk_at "rd";exact⟨e,cs 0,[w0],⟨rfl,rfl⟩,by show 1<=1000;decide,he,T.cl 0 #[1],cs 0,he,T.cl 0 #[1],(T.no 0 #[1] _ #[1]),λd hd au=>q d hd au⟩
seal PE PT PW PA PS PSs PI PG QM PGs PO in
theorem J0a(Z:Zs mg)(T:Tx K mg CT cs ob)(F:Fun K "__init__" "NotRising.__init__" JB f fd):Qy P w K mg base CX0 1 f fd ["self","key"] (Jkc (cs 1) ["key"]):=by
 refine F.ok JYa (λvs H Q E h=>?_) (λah A outer s H vs Q E hr h=>?_)
 ·obtain⟨e,ws,rfl,hl,_⟩:=h;obtain⟨_,rfl⟩:=length_eq_one_iff.mp hl;rfl
 obtain⟨e,ws,rfl,hl,he,q⟩:=h;obtain⟨w0,rfl⟩:=length_eq_one_iff.mp hl;refine⟨_,(Qc (QZ (JRa T.top rfl (Qf (pv 0) (Qf (pv 1) Qb))))
  (Qe (ZXb CT rfl (pv 0) (pv 1) rfl))),?_⟩
 refine Qk (σ:=[Vo (.ref e),Vo w0]) rfl ?_
 walk_at "rd";simp only[tBI,Y6c,QId];walk_at "rd";exact⟨e,cs 1,[w0],⟨rfl,rfl⟩,by show 1<=1000;decide,he,T.cl 1 #[1],cs 1,he,T.cl 1 #[1],(T.no 1 #[1] _ #[1]),λd hd au=>q d hd au⟩
seal PE PT PW PA PS PSs PI PG QM PGs PO in
theorem Yya(Z:Zs mg)(T:Tx K mg CT cs ob)(F:Fun K "__init__" "NoColumn.__init__" J7 f fd):Qy P w K mg base CX0 1 f fd ["self","column"] (Jkc (cs 2) ["column"]):=by
 refine F.ok Ypa (λvs H Q E h=>?_) (λah A outer s H vs Q E hr h=>?_)
 ·obtain⟨e,ws,rfl,hl,_⟩:=h;obtain⟨_,rfl⟩:=length_eq_one_iff.mp hl;rfl
 obtain⟨e,ws,rfl,hl,he,q⟩:=h;obtain⟨w0,rfl⟩:=length_eq_one_iff.mp hl;refine⟨_,(Qc (QZ (JRa T.top rfl (Qf (pv 0) (Qf (pv 1) Qb))))
  (Qe (ZXb CT rfl (pv 0) (pv 1) rfl))),?_⟩
 refine Qk (σ:=[Vo (.ref e),Vo w0]) rfl ?_
 walk_at "rd";simp only[tBI,Y6c,QId];walk_at "rd";exact⟨e,cs 2,[w0],⟨rfl,rfl⟩,by show 1<=1000;decide,he,T.cl 2 #[1],cs 2,he,T.cl 2 #[1],(T.no 2 #[1] _ #[1]),λd hd au=>q d hd au⟩
seal PE PT PW PA PS PSs PI PG QM PGs PO in
theorem ZKa(Z:Zs mg)(T:Tx K mg CT cs ob)(F:Fun K "__init__" "ColumnThere.__init__" Jb f fd):Qy P w K mg base CX0 1 f fd ["self","column"] (Jkc (cs 3) ["column"]):=by
 refine F.ok ZJa (λvs H Q E h=>?_) (λah A outer s H vs Q E hr h=>?_)
 ·obtain⟨e,ws,rfl,hl,_⟩:=h;obtain⟨_,rfl⟩:=length_eq_one_iff.mp hl;rfl
 obtain⟨e,ws,rfl,hl,he,q⟩:=h;obtain⟨w0,rfl⟩:=length_eq_one_iff.mp hl;refine⟨_,(Qc (QZ (JRa T.top rfl (Qf (pv 0) (Qf (pv 1) Qb))))
  (Qe (ZXb CT rfl (pv 0) (pv 1) rfl))),?_⟩
 refine Qk (σ:=[Vo (.ref e),Vo w0]) rfl ?_
 walk_at "rd";simp only[tBI,Y6c,QId];walk_at "rd";exact⟨e,cs 3,[w0],⟨rfl,rfl⟩,by show 1<=1000;decide,he,T.cl 3 #[1],cs 3,he,T.cl 3 #[1],(T.no 3 #[1] _ #[1]),λd hd au=>q d hd au⟩
section
variable{K:VD}
theorem YOb:UW K (.type "int") (.type "tuple")=Vo false:=by rfl
theorem YPb:UW K (.type "str") (.type "tuple")=Vo false:=by rfl
theorem YQb:UW K (.type "NoneType") (.type "tuple")=Vo false:=by rfl
theorem Xf:UW K (.type "tuple") (.type "tuple")=Vo true:=by rfl
theorem YRb:UW K (.type "list") (.type "list")=Vo true:=by rfl
theorem Jmb:UW K (.type "NoneType") (.type "bool")=Vo false:=by rfl
theorem Jnb:UW K (.type "str") (.type "bool")=Vo false:=by rfl
end
theorem X8a(v:V):[v].length<=Vs:=show 1<=Vs by decide
theorem Q2{n:Nat}(h:n<=1000):n<=Vs:=VL (QA h)
theorem at0(x:V)(r:List V):atI (x::r) 0=Vo x:=Za (j:=0) rfl
theorem at1(x y:V)(r:List V):atI (x::y::r) 1=Vo y:=Za (j:=1) rfl
theorem JAc{P:V->Prop}(py:∀ (i:Nat) y,ys[i]?=Vo y->P y):∀ v∈ys,P v:=λv hv=>by
 obtain⟨i,hi,e⟩:=mem_iff_getElem.mp hv;exact py i v (by rw[IE hi,e])
namespace M11
def p:Int:=2147483647
theorem Qkc(cs:List Int):∀ (a:Int),0<=a->a < 2147483647->0<=cs.foldl (λm c=>(m * 131+c) % 2147483647) a/\cs.foldl (λm c=>(m * 131+c) % 2147483647) a < 2147483647:=by
 induction cs with
 | nil=>intro a h1 h2;exact⟨h1,h2⟩
 | cons c cs ih =>
  intro a h1 h2;simp only[IZ]
  apply ih <;> lia
def lev:Nat->Int->Nat
 | 0,_=>0
 | n+1,m=>if m % 4=0 then lev n (m / 4)+1 else 0
theorem YSb(n:Nat)(m:Int):lev (n+1) m=if m % 4=0 then lev n (m / 4)+1 else 0:=rfl
theorem XAc:∀ (n:Nat) (m:Int),lev n m<=n
 | 0,_=>Uu _
 | n+1,m=>by
  unfold lev
  split
  ·have:=XAc n (m / 4);lia
  ·lia
theorem XBc{n:Nat}{m:Int}{r:Int}{l:Nat}(h:l+lev (n - l) r=lev n m)(hl:l < n)(e:r % 4=0):(l+1)+lev (n - (l+1)) (r / 4)=lev n m:=by
 have e1:n - l=(n - (l+1))+1:=by lia
 rw[e1,YSb,if_pos e]at h
 lia
theorem Zxc{n:Nat}{m:Int}{r:Int}{l:Nat}(h:l+lev (n - l) r=lev n m)(hl:¬ (l < n/\r % 4=0))(hn:l<=n):l=lev n m:=by
 by_cases h1:l < n
 ·have h2:r % 4≠0:=λe=>hl ⟨h1,e⟩
  have e1:n - l=(n - (l+1))+1:=by lia
  rw[e1,YSb,if_neg h2]at h
  lia
 ·have e:n - l=0:=by lia
  rw[e]at h;simp only[lev]at h
  lia
end M11
def ZJ:V->Prop
 | .int n => -(10 ^ 30) < n/\n < 10 ^ 30
 | .str z=>z.length<=40
 | _=>False
def Jra(z:Str):List Int:=z.cps.toList.map λ(c:Nat)=>(c:Int)
def Jyd:V->Int
 | .int n=>(n * 48271+11) % 2147483647
 | .str z=>(Jra z).foldl (λm c=>(m * 131+c) % 2147483647) 7
 | _=>0
def Job(v:V):Int:=Builtin.bitXor (Jyd v) (Jyd v / 32768)
def QV(v:V):Nat:=M11.lev 6 (Job v)
theorem JBc{α β:Type}{l:List α}{c:α}{f:β->α->β}{a:β}(h:l[i]?=Vo c):(l.take (i+1)).foldl f a=f ((l.take i).foldl f a) c:=by
 rw[Iq,h];simp
theorem QXd{z:Str}{c:Nat}(h:z.cps.toList[i]?=Vo c):(Jra z)[i]?=Vo (c:Int):=by
 unfold Jra;rw[Ol,h]
 rfl
theorem XCc(z:Str):(Jra z).length=z.length:=by
 unfold Jra;rw[UQ];simp[Ox]
theorem J1a{α:Type}{l:List α}{k:Int}(h0:0<=k)(h1:k < (l.length:Int)):∃ c,atI l k=Vo c:=by
 have hk:k.toNat < l.length:=by lia
 have ek:k=((k.toNat:Nat):Int):=by lia
 have h:=Za (xs:=l) (j:=k.toNat) (IE hk)
 rw[<- ek]at h;exact⟨_,h⟩
inductive YU(aj:VD)(vs:List V)(H:Hp)(Q:VK)(E:XK):Prop
 | mk:∀ v,vs=[v]->ZJ v->Q (.int (Jyd v)) H->YU aj vs H Q E
inductive X9a(aj:VD)(vs:List V)(H:Hp)(Q:VK)(E:XK):Prop
 | mk:∀ v,vs=[v]->ZJ v->Q (.int (Job v)) H->X9a aj vs H Q E
inductive Zda(aj:VD)(vs:List V)(H:Hp)(Q:VK)(E:XK):Prop
 | mk:∀ v,vs=[v]->ZJ v->Q (.int (QV v)) H->Zda aj vs H Q E
theorem Xg{K:VD}:UW K (.type "int") (.type "str")=Vo false:=by rfl
theorem Zu{K:VD}:UW K (.type "str") (.type "str")=Vo true:=by rfl
seal PE PT PW PA PS PSs PI PG QM PGs PO in
theorem Qab(Z:Zs mg)(T:Tx K mg CT cs ob)(F:Fun K "mixed_first" "mixed_first" Xn f fd):Qy P w K mg base CX0 1 f fd ["key"] (YU K):=by
 refine F.ok Jm (λvs H Q E h=>?_) (λah A outer s H vs Q E hr h=>?_)
 ·walk_at "n"
 obtain⟨v,rfl,hv,q⟩:=h;refine⟨_,(Qc (QG (Q8 (QR (Qq QE rfl (Z.isinstance) Qu (Qf (pv 0) (Qf (Q4 rfl (Z.str) XT (v:=.ty "str") rfl) Qb))) (λ_=>rfl))) (Qe (Qn (Qm QF (Qm QQ (Qm Z9 (pv 0) Qd) Qd) (Zxa (Z.MODULUS) rfl)))) Qr)
  (Qc (Ql 1 Jm.nd Qd)
  (Qc (Zw Dc rfl (XUb (pv 0)) (QW (i:=2) Jm.nd rfl (ON rfl)) (Qe (Ql 1 Jm.nd (Qm QF (Qm QQ (Qm Z9 (pv 1) Qd) (Qq J8b rfl (Z.ord) Yvc (Qf (pv 2) Qb))) (Zxa (Z.MODULUS) rfl)))))
  (Qe (Qn (pv 1)))))),?_⟩
 refine Qk (σ:=[Vo v,Vp,Vp]) rfl ?_
 walk_at "rd";cases v with
 | int n =>
  refine Q3 (.int n) Xg ⟨_,rfl,?_⟩
  walk_at "rd";walk_at "go";exact q
 | str z =>
  refine Q3 (.str z) Zu ⟨_,rfl,?_⟩
  walk_at "rd";refine QAd (z:=z) (λi σ' H'=>H'=H/\∃ x,σ'=[Vo (.str z),Vo (.int (((Jra z).take i).foldl (λm c=>(m * 131+c) % 2147483647) 7)),x]) ⟨rfl,_,rfl⟩ ?_ ?_
  ·rintro i c σ' H' hc ⟨rfl,x,rfl⟩
   walk_at "rd";have hr:=M11.Qkc ((Jra z).take i) 7 #[1] #[1]
   refine⟨by refine XFb.ok ?_;unfold XFb;lia,rfl,?_,_,rfl⟩
   rw[JBc (QXd hc)]
   rfl
  ·rintro σ' H' ⟨rfl,x,rfl⟩
   walk_at "rd";rw[Iu (by rw[XCc];exact Uu _)]
   exact q
 | _=>exact hv.elim
seal PE PT PW PA PS PSs PI PG QM PGs PO in
theorem XDc(Z:Zs mg)(T:Tx K mg CT cs ob)(wn:Cal P w K mg base 1 "mixed_first" ["key"] (YU K))(F:Fun K "mixed" "mixed" Jhb f fd):Qy P w K mg base CX0 2 f fd ["key"] (X9a K):=by
 refine F.ok YJb (λvs H Q E h=>?_) (λah A outer s H vs Q E hr h=>?_)
 ·walk_at "n"
 obtain⟨v,rfl,hv,q⟩:=h;refine⟨_,(Qc (Ql 1 YJb.nd (Qo wn hr (Qf (pv 0) Qb)))
  (Qe (Qn (Qm J3c (pv 1) (Qm J2c (pv 1) Qd))))),?_⟩
 refine Qk (σ:=[Vo v,Vp]) rfl ?_
 walk_at "rd";refine⟨v,rfl,hv,?_⟩
 walk_at "rd";walk_at "go";exact q
seal PE PT PW PA PS PSs PI PG QM PGs PO in
theorem YTb(Z:Zs mg)(T:Tx K mg CT cs ob)(wo:Cal P w K mg base 2 "mixed" ["key"] (X9a K))(F:Fun K "level_of" "level_of" Jla f fd):Qy P w K mg base CX0 3 f fd ["key"] (Zda K):=by
 refine F.ok J0 (λvs H Q E h=>?_) (λah A outer s H vs Q E hr h=>?_)
 ·walk_at "n"
 obtain⟨v,rfl,hv,q⟩:=h;refine⟨_,(Qc (Ql 1 J0.nd (Qo wo hr (Qf (pv 0) Qb)))
  (Qc (Ql 2 J0.nd Qd)
  (Qc (Xma Dc (PW.pt (QKa (Qs QMa (pv 2) (Zxa (Z.TOP_LEVEL) rfl) (Qv _)) (Y2 (Qs ZK (Qm QF (pv 1) Qd) Qd (Qv _))))) (Qc (Ql 1 J0.nd (Qm J2c (pv 1) Qd))
  (Qe (Ql 2 J0.nd (Qm QQ (pv 2) Qd)))))
  (Qe (Qn (pv 2)))))),?_⟩
 refine Qk (σ:=[Vo v,Vp,Vp]) rfl ?_
 walk_at "rd";refine⟨v,rfl,hv,?_⟩
 walk_at "rd";refine⟨λm σ' H'=>H'=H/\∃ (r:Int) (l:Nat),σ'=[Vo v,Vo (.int r),Vo (.int l)]/\l<=6/\m=6 - l/\l+M11.lev (6 - l) r=QV v,⟨6,rfl,Job v,0,rfl,by decide,rfl,by show 0+M11.lev 6 (Job v)=QV v;rw[Nat.zero_add];rfl⟩,?_⟩
 rintro m σ' H' ⟨rfl,r,l,rfl,hl,rfl,e⟩;walk_at "rd"
 by_cases h1:l < 6
 ·rw[if_pos #[0]]
  walk_at "go"
  by_cases h2:r % 4=0
  ·rw[if_pos h2]
   refine⟨λσ2 H2=>H2=H'/\σ2=[Vo v,Vo (.int (r / 4)),Vo (.int ((l+1:Nat):Int))],λσ2 H2 ⟨a,b⟩=>⟨6 - (l+1),by lia,a,r / 4,l+1,b,by lia,rfl,M11.XBc e h1 h2⟩,?_⟩
   walk_at "rd";exact⟨rfl,by lia⟩
  ·rw[if_neg h2]
   have:=M11.Zxc e (λz=>h2 z.2) hl
   rw[this];exact q
 ·rw[if_neg #[0]]
  have:=M11.Zxc e (λz=>h1 z.1) hl
  rw[this];exact q
def pgF(tw:Bool)(l:Int)(t:Vh):List (Str×V):=ZW (if tw=true then "heads" else "rows") (.ref t) (ZW "entries" (.ref t) (ZW "level" (.int l) []))
theorem XEc{tw:Bool}:(if tw=true then 2 else 1) < 4:=by cases tw <;> decide
inductive PgD(ob:Nat->Vh)(H:Hp)(a:Vh)(l:Int)(es:List Dt):Prop
 | mk (tw:Bool) (dx t:Vh) (e:tw=decide (l≠0)) (h:H a=Vo (.ins (ob (if tw=true then 2 else 1)) dx (pgF tw l t))) (r:TD H 7 (.t es) (.ref t)):PgD ob H a l es
theorem PgD.same{l:Int}(h:PgD ob H a l es)(s:Qj H H'):PgD ob H' a l es:=by
 obtain⟨tw,dx,t,e,h1,h2⟩:=h;exact⟨tw,dx,t,e,s _ _ h1,h2.same s⟩
section
variable{K:VD}{mg:Str->Option Va}{CT:Vh}{cs ob:Nat->Vh}{a t dx:Vh}{tw:Bool}{l:Int}{i:Nat}{σ:St}{H:Hp}{Q:VK}
theorem Zea(T:Tx K mg CT cs ob)(hs:σ[i]?=Vo (Vo (.ref a)))(ha:H a=Vo (.ins (ob (if tw=true then 2 else 1)) dx (pgF tw l t)))(q:Q (.int l) H):Qpd K (Yi i) "level" σ H Q :=
 ZH (T.ob_ _ XEc) #[1] hs ha (by cases tw <;> rfl) q
theorem Jsa(T:Tx K mg CT cs ob)(hs:σ[i]?=Vo (Vo (.ref a)))(ha:H a=Vo (.ins (ob (if tw=true then 2 else 1)) dx (pgF tw l t)))(q:Q (.ref t) H):Qpd K (Yi i) "entries" σ H Q :=
 ZH (T.ob_ _ XEc) #[1] hs ha (by cases tw <;> rfl) q
end
theorem QZd{x:V}(h:xs[0]?=Vo x):atI xs 0=Vo x:=Za (j:=0) h
inductive ZQ(aj:VD)(ob:Nat->Vh)(vs:List V)(H:Hp)(Q:VK)(E:XK):Prop
 | mk:∀ a l es,vs=[.ref a]->PgD ob H a l es->(∀ r H',Qj H H'->H r=Vp->TD H' 8 (Zn l es) (.ref r)->Q (.ref r) H')->ZQ aj ob vs H Q E
seal PE PT PW PA PS PSs PI PG QM PGs PO in
theorem Qka(Z:Zs mg)(T:Tx K mg CT cs ob)(F:Fun K "told" "Page.told" QWa f fd):Qy P w K mg base (CX1 P w) 1 f fd ["self"] (ZQ K ob):=by
 refine F.ok1 Jbb (λvs H Q E h=>?_) (λah A outer s H vs Q E hr h=>?_)
 ·walk_at "n"
 obtain⟨a,l,es,rfl,hP,q⟩:=h;refine⟨_,(Qe (Qn (Zf (Qf (Ze (pv 0) rfl) (Qf (Ze (pv 0) rfl) Qb))))),?_⟩
 refine Qk (σ:=[Vo (.ref a)]) rfl ?_
 walk_at "rd";obtain⟨tw,dx,t,_,ha,ht⟩:=hP;exact Zea T rfl ha (Jsa T rfl ha ⟨ZX,λp hp=>q p _ (Qi hp _) hp (TD.pair Qa (.ofV rfl) (ht.same (Qi hp _)))⟩)
inductive ZF(aj:VD)(ob:Nat->Vh)(vs:List V)(H:Hp)(Q:VK)(E:XK):Prop
 | mk:∀ a l k r es,vs=[.ref a]->PgD ob H a l (.t (.v k::r)::es)->Q k H->ZF aj ob vs H Q E
seal PE PT PW PA PS PSs PI PG QM PGs PO in
theorem Xr(Z:Zs mg)(T:Tx K mg CT cs ob)(F:Fun K "first" "Page.first" XX f fd):Qy P w K mg base (CX1 P w) 1 f fd ["self"] (ZF K ob):=by
 refine F.ok1 QBb (λvs H Q E h=>?_) (λah A outer s H vs Q E hr h=>?_)
 ·walk_at "n"
 obtain⟨a,l,k,r,es,rfl,hP,q⟩:=h;refine⟨_,(Qe (Qn (Qt Qw (Qt Qw (Ze (pv 0) rfl) Qd (λ_ _=>rfl)) Qd (λ_ _=>rfl)))),?_⟩
 refine Qk (σ:=[Vo (.ref a)]) rfl ?_
 walk_at "rd";obtain⟨tw,dx,t,_,ha,ht⟩:=hP;obtain⟨_,_,xs,_,e,aR,rt⟩:=ht.tup;cases e;cases rt with
 | cons r1 _ =>
  obtain⟨_,b,ys,_,rfl,hb,rb⟩:=r1.tup;cases rb with
  | cons r2 _ =>
   obtain⟨_,rfl⟩:=r2.flat;exact Jsa T rfl ha ⟨t,rfl,_,SqT.of aR,_,QZd rfl,b,rfl,_,SqT.of hb,_,QZd rfl,q⟩
inductive Jq(K:VD)(ob:Nat->Vh)(vs:List V)(H:Hp)(Q:VK)(E:XK):Prop
 | mk:∀ a tw dx l e b xs,vs=[.ref a,.int l,.ref e]->H a=Vo (.ins (ob (if tw=true then 2 else 1)) dx [])->HE b H e xs->xs.length<=900->(∀ t H',H' a=Vo (.ins (ob (if tw=true then 2 else 1)) dx (ZW "entries" (.ref t) (ZW "level" (.int l) [])))->H' t=Vo (.tup xs)->(∀ fs,Qj (upd H a (.ins (ob (if tw=true then 2 else 1)) dx fs)) (upd H' a (.ins (ob (if tw=true then 2 else 1)) dx fs)))->Q .non H')->Jq K ob vs H Q E
seal PE PT PW PA PS PSs PI PG QM PGs PO in
theorem Jpb(Z:Zs mg)(T:Tx K mg CT cs ob)(F:Fun K "__init__" "Page.__init__" QVa f fd):Qy P w K mg base CX0 1 f fd ["self","level","entries"] (Jq K ob):=by
 refine F.ok Jab (λvs H Q E h=>?_) (λah A outer s H vs Q E hr h=>?_)
 ·walk_at "n"
 obtain⟨a,tw,dx,l,e,b,xs,rfl,ha,he,lx,q⟩:=h;refine⟨_,(Qc (QNa (pv 0) (pv 1) rfl)
  (Qe (QNa (pv 0) (QX ZY rfl (Z.tuple) Jk (Qf (pv 2) Qb)) rfl))),?_⟩
 refine Qk (σ:=[Vo (.ref a),Vo (.int l),Vo (.ref e)]) rfl ?_
 walk_at "rd";have c:=T.ob_ _ (XEc (tw:=tw));generalize ob (if tw=true then 2 else 1)=C at *
 refine Z1b c #[1] rfl (y:=.int l) (H1:=H) (λQ q=>q) ha #[1] ?_
 have i0:HE b _ e xs:=HE.upd_ins (o:=.ins C dx (ZW "level" (.int l) [])) he ha;have last:∀ (t:Vh) (H1:Hp),H1 a=Vo (.ins C dx (ZW "level" (.int l) []))->H1 t=Vo (.tup xs)->(∀ fs,Qj (upd H a (.ins C dx fs)) (upd H1 a (.ins C dx fs)))->Q .non (upd H1 a (.ins C dx (ZW "entries" (.ref t) (ZW "level" (.int l) [])))):=by
  intro t H1 h1 ht jN;have ta:t≠a:=λz=>by rw[z,h1]at ht;cases ht
  exact q t _ Qa (by rw[Qh ta];exact ht) λfs=>by rw[Y1];exact jN fs
 cases b with
 | false =>
  refine⟨e,rfl,xs,.inl ⟨SqL.of i0,λt ht=>⟨a,C,dx,_,rfl,Qi ht _ _ _ Qa,c.cl,c.no _ #[1],show 1 < 1000 by decide,?_⟩⟩⟩
  have ta:t≠a:=λz=>by rw[z,Qa]at ht;cases ht
  refine last t _ (Qi ht _ _ _ Qa) Qa λfs=>?_
  rw[Yvb (VR ta),Y1,<- Yvb (VR ta)];exact Qi (by rw[Qh ta]at ht ⊢;exact ht) _
 | true =>
  refine⟨e,rfl,xs,.inr ⟨SqT.of i0,⟨a,C,dx,_,rfl,Qa,c.cl,c.no _ #[1],show 1 < 1000 by decide,?_⟩⟩⟩
  exact last e _ Qa i0 λfs=>by rw[Y1];exact Qj.refl _
theorem Zyb{C dx C' gQ:Vh}{fs dQ:List (Str×V)}(ha:H a=Vo (.ins C dx fs))(s:Qj (upd H a (.ins C' gQ dQ)) H'):Zt H H':=λb xs e=>s _ _ (by rw[Qh (Jd e ha (by intro z;cases z))];exact e)
inductive Yv(K:VD)(ob:Nat->Vh)(vs:List V)(H:Hp)(Q:VK)(E:XK):Prop
 | mk:∀ a dx e b xs es,vs=[.ref a,.ref e]->H a=Vo (.ins (ob 1) dx [])->HE b H e xs->Vm (λd v=>TD H 6 d v) es xs->xs.length<=900->(∀ dx fs H',Qj (upd H a (.ins (ob 1) dx fs)) H'->PgD ob H' a 0 es->Q .non H')->Yv K ob vs H Q E
seal PE PT PW PA PS PSs PI PG QM PGs PO in
theorem Jqb(Z:Zs mg)(T:Tx K mg CT cs ob)(aW:BaI P w K mg base 1 "Page" (Jq K ob))(F:Fun K "__init__" "Leaf.__init__" Q3a f fd):Qy P w K mg base CX0 2 f fd ["self","rows"] (Yv K ob):=by
 refine F.ok Jib (λvs H Q E h=>?_) (λah A outer s H vs Q E hr h=>?_)
 ·walk_at "n"
 obtain⟨a,dx,e,b,xs,es,rfl,ha,he,re,lx,q⟩:=h;refine⟨_,(Qc (QZ (Zpb aW (k:=1) hr #[1] rfl (Qf (pv 0) (Qf Qd (Qf (pv 1) Qb)))))
  (Qe (QNa (pv 0) (Ze (pv 0) rfl) rfl))),?_⟩
 refine Qk (σ:=[Vo (.ref a),Vo (.ref e)]) rfl ?_
 walk_at "rd";have c:=T.ob_ 1 #[1]
 refine⟨a,false,dx,0,e,b,xs,rfl,ha,he,lx,λt H1 h1 ht hs=>?_⟩
 have ta:t≠a:=λz=>by rw[z,h1]at ht;cases ht
 refine Z1b c #[1] rfl (y:=.ref t) (H1:=H1) (λQ q=>ZH c #[1] rfl h1 rfl q) h1 (show 2 < 1000 by decide) ?_
 exact q dx _ _ (hs _) ⟨false,dx,t,rfl,Qa,TD.ofT (by rw[Qh ta];exact ht) (TDs.sameT re (Zyb ha (hs _)))⟩
inductive Yw(K:VD)(ob:Nat->Vh)(vs:List V)(H:Hp)(Q:VK)(E:XK):Prop
 | mk:∀ a dx l e b xs es,vs=[.ref a,.int l,.ref e]->l≠0->H a=Vo (.ins (ob 2) dx [])->HE b H e xs->Vm (λd v=>TD H 6 d v) es xs->xs.length<=900->(∀ dx fs H',Qj (upd H a (.ins (ob 2) dx fs)) H'->PgD ob H' a l es->Q .non H')->Yw K ob vs H Q E
seal PE PT PW PA PS PSs PI PG QM PGs PO in
theorem Jrb(Z:Zs mg)(T:Tx K mg CT cs ob)(aW:BaI P w K mg base 1 "Page" (Jq K ob))(F:Fun K "__init__" "Twig.__init__" Q4a f fd):Qy P w K mg base CX0 2 f fd ["self","level","heads"] (Yw K ob):=by
 refine F.ok Jjb (λvs H Q E h=>?_) (λah A outer s H vs Q E hr h=>?_)
 ·walk_at "n"
 obtain⟨a,dx,l,e,b,xs,es,rfl,hl,ha,he,re,lx,q⟩:=h;refine⟨_,(Qc (QZ (Zpb aW (k:=1) hr #[1] rfl (Qf (pv 0) (Qf (pv 1) (Qf (pv 2) Qb)))))
  (Qe (QNa (pv 0) (Ze (pv 0) rfl) rfl))),?_⟩
 refine Qk (σ:=[Vo (.ref a),Vo (.int l),Vo (.ref e)]) rfl ?_
 walk_at "rd";have c:=T.ob_ 2 #[1]
 refine⟨a,true,dx,l,e,b,xs,rfl,ha,he,lx,λt H1 h1 ht hs=>?_⟩
 have ta:t≠a:=λz=>by rw[z,h1]at ht;cases ht
 refine Z1b c #[1] rfl (y:=.ref t) (H1:=H1) (λQ q=>ZH c #[1] rfl h1 rfl q) h1 (show 2 < 1000 by decide) ?_
 exact q dx _ _ (hs _) ⟨true,dx,t,(decide_eq_true hl).symm,Qa,TD.ofT (by rw[Qh ta];exact ht) (TDs.sameT re (Zyb ha (hs _)))⟩
inductive Qla(aj:VD)(ob:Nat->Vh)(vs:List V)(H:Hp)(Q:VK)(E:XK):Prop
 | mk:∀ l e b xs es,vs=[.int l,.ref e]->HE b H e xs->Vm (λd v=>TD H 6 d v) es xs->xs.length<=900->(∀ a H',Qj H H'->H a=Vp->PgD ob H' a l es->Q (.ref a) H')->Qla aj ob vs H Q E
seal PE PT PW PA PS PSs PI PG QM PGs PO in
theorem Qlc(Z:Zs mg)(T:Tx K mg CT cs ob)(ow:MkV P w K mg base 2 "Twig" (ob 2) (Yw K ob))(oy:MkV P w K mg base 2 "Leaf" (ob 1) (Yv K ob))(F:Fun K "page_of" "page_of" Yta f fd):Qy P w K mg base CX0 4 f fd ["level","entries"] (Qla K ob):=by
 refine F.ok Qfc (λvs H Q E h=>?_) (λah A outer s H vs Q E hr h=>?_)
 ·walk_at "n"
 obtain⟨l,e,b,xs,es,rfl,he,re,lx,q⟩:=h;refine⟨_,(Qc (QG (Qs ZK (pv 0) Qd (Qv _)) (Qe (Qn (Zvd oy (k:=3) hr #[1] rfl (Qf (pv 1) Qb)))) Qr)
  (Qe (Qn (Zvd ow (k:=3) hr #[1] rfl (Qf (pv 0) (Qf (pv 1) Qb)))))),?_⟩
 refine Qk (σ:=[Vo (.int l),Vo (.ref e)]) rfl ?_
 walk_at "rd";have sH:∀ (x dx:Vh) (o u:HO),H x=Vp->H dx=Vp->Qj H (upd (upd H dx u) x o):=λx dx o u h1 h2=>Xha h1 h2 (Qj.refl _)
 refine Zm (λh=>?_) λh=>?_
 ·refine λx dx hx bM au=>⟨x,dx,e,b,xs,es,rfl,Qa,he.same (sH _ _ _ _ hx bM),TDs.sameT re (sH _ _ _ _ hx bM).t,lx,λgQ fs H' s' pg=>⟨rfl,q x H' ?_ hx ?_⟩⟩
  ·rw[Y1]at s';exact Xha hx bM s'
  ·subst h;exact pg
 ·refine λx dx hx bM au=>⟨x,dx,l,e,b,xs,es,rfl,h,Qa,he.same (sH _ _ _ _ hx bM),TDs.sameT re (sH _ _ _ _ hx bM).t,lx,λgQ fs H' s' pg=>⟨rfl,q x H' ?_ hx pg⟩⟩
  rw[Y1]at s';exact Xha hx bM s'
abbrev StL:=List (Int×Dt×Vh)
def stF(d1 d2:Vh)(c:Int):List (Str×V):=ZW "count" (.int c) (ZW "number_by_told" (.ref d2) (ZW "told_by_number" (.ref d1) []))
def Qbb(x:Int×Dt×Vh):Key×V:=(.inl x.1,.ref x.2.2)
def Zfa(x:Int×Dt×Vh):Dt×Vh×V:=(x.2.1,x.2.2,.int x.1)
def Jzd(d:Dt):Prop:=∃ l k r,∃ es:List Dt,d=Zn l (.t (.v k::r)::es)/\hV k=true/\es.length < 900
structure QK(P:Vg)(w:Vb)(ob:Nat->Vh)(H:Hp)(p d1 d2:Vh)(st:StL)(c:Int):Prop where
 obj:∃ dx,H p=Vo (.ins (ob 3) dx (stF d1 d2 c))
 num:H d1=Vo (.dK (st.map Qbb))
 tol:H d2=Vo (dN P w d2 (st.map Zfa))
 td:∀ x∈st,TD H 8 x.2.1 (.ref x.2.2)
 sh:∀ x∈st,Jzd x.2.1
 lt:∀ x∈st,x.1 < c
 nn:(st.map (·.1)).Nodup
 nd:(st.map (·.2.1)).Nodup
 few:st.length<=16000000
section
variable{P:Vg}{w:Vb}{K:VD}{ob:Nat->Vh}{H H':Hp}{p d1 d2:Vh}{st:StL}{c:Int}
theorem QK.pd1(h:QK P w ob H p d1 d2 st c):p≠d1:=by
 obtain⟨dx,e⟩:=h.obj;exact Jd e h.num (by intro z;cases z)
theorem QK.pd2(h:QK P w ob H p d1 d2 st c):p≠d2:=by
 obtain⟨dx,e⟩:=h.obj;exact Jd e h.tol (by intro z;cases z)
theorem QK.d12(h:QK P w ob H p d1 d2 st c):d1≠d2:=Jd h.num h.tol (by intro z;cases z)
theorem QK.keep(h:QK P w ob H p d1 d2 st c)(s:Zt H H')(hp:H' p=H p)(h1:H' d1=H d1)(h2:H' d2=H d2):QK P w ob H' p d1 d2 st c :=
 ⟨by rw[hp];exact h.obj,by rw[h1];exact h.num,by rw[h2];exact h.tol,λx hx=>TD.sameT s 8 (h.td x hx),h.sh,h.lt,h.nn,h.nd,h.few⟩
theorem QK.same(h:QK P w ob H p d1 d2 st c)(s:Qj H H'):QK P w ob H' p d1 d2 st c:=by
 obtain⟨dx,e⟩:=h.obj;exact h.keep s.t (by rw[s _ _ e,e]) (by rw[s _ _ h.num,h.num]) (by rw[s _ _ h.tol,h.tol])
theorem QK.dn(h:QK P w ob H p d1 d2 st c):XSa P w K H d2 (st.map Zfa):=⟨h.tol,λx hx=>by
 obtain⟨y,hy,rfl⟩:=mem_map.mp hx;exact⟨(h.td y hy).rep,(h.td y hy).h⟩⟩
theorem QK.get(h:QK P w ob H p d1 d2 st c){x:Int×Dt×Vh}(hx:x∈st):ZM (st.map Qbb) (.inl x.1)=Vo (.ref x.2.2):=by
 rw[JA];have:(λy:Int×Dt×Vh=>decide ((Qbb y).1=(Vc x.1:Key)))=λy=>decide (y.1=x.1):=by
  funext y
  exact decide_eq_decide.mpr ⟨λe=>by injection e,λe=>by show Vc _=_;rw[e]⟩
 rw[this,ZN (λy:Int×Dt×Vh=>y.1) h.nn hx];rfl
theorem QK.getN(h:QK P w ob H p d1 d2 st c){x:Int×Dt×Vh}(hx:x∈st):Jca (st.map Zfa) x.2.1=Vo (.int x.1):=by
 rw[Yzb];have:=ZN (λy:Int×Dt×Vh=>y.2.1) h.nd hx
 rw[show(λy:Int×Dt×Vh=>decide ((Zfa y).1=x.2.1))=λy=>decide (y.2.1=x.2.1) from rfl,this];rfl
theorem QK.fun_(h:QK P w ob H p d1 d2 st c){n:Int}{d d':Dt}{t t':Vh}(h1:(n,d,t)∈st)(h2:(n,d',t')∈st):d=d'/\t=t':=by
 have e1:=ZN (λy:Int×Dt×Vh=>y.1) h.nn h1
 have e2:=ZN (λy:Int×Dt×Vh=>y.1) h.nn h2
 have e:=e1.symm.trans e2;injection e with e
 injection e with _ e
 injection e with a b
 exact⟨a,b⟩
theorem ZDd{n:Int}(h:∀ x∈st,x.1≠n):ZM (st.map Qbb) (.inl n)=Vp:=by
 rw[JA];have:(λy:Int×Dt×Vh=>decide ((Qbb y).1=(Vc n:Key)))=λy=>decide (y.1=n):=by
  funext y
  exact decide_eq_decide.mpr ⟨λe=>by injection e,λe=>by show Vc _=_;rw[e]⟩
 rw[this,JUa (λy:Int×Dt×Vh=>y.1) h];rfl
theorem XFc{d:Dt}(h:∀ x∈st,x.2.1≠d):Jca (st.map Zfa) d=Vp:=by
 rw[Yzb];have:=JUa (λy:Int×Dt×Vh=>y.2.1) h
 rw[show(λy:Int×Dt×Vh=>decide ((Zfa y).1=d))=λy=>decide (y.2.1=d) from rfl,this];rfl
theorem XG(h:QK P w ob H p d1 d2 st c)(s:QO [p,d1,d2] H H'):Zt H H':=λb xs e=>s b _ (λz=>by
 obtain⟨dx,eo⟩:=h.obj
 rcases mem_cons.mp z with z | z
 ·rw[z,eo]at e;cases e
 rcases mem_cons.mp z with z | z
 ·rw[z,h.num]at e;cases e
 ·rw[mem_singleton.mp z,h.tol]at e;cases e) e
end
inductive JN(P:Vg)(w:Vb)(ob:Nat->Vh)(vs:List V)(H:Hp)(Q:VK)(E:XK):Prop
 | mk:∀ p dx,vs=[.ref p]->H p=Vo (.ins (ob 3) dx [])->(∀ d1 d2 H' dx fs,H d1=Vp->H d2=Vp->Qj (upd H p (.ins (ob 3) dx fs)) H'->QK P w ob H' p d1 d2 [] 0->Q .non H')->JN P w ob vs H Q E
seal PE PT PW PA PS PSs PI PG QM PGs PO in
theorem QJb(Z:Zs mg)(T:Tx K mg CT cs ob)(F:Fun K "__init__" "Pages.__init__" XZ f fd):Qy P w K mg base CX0 1 f fd ["self"] (JN P w ob):=by
 refine F.ok QEb (λvs H Q E h=>?_) (λah A outer s H vs Q E hr h=>?_)
 ·walk_at "n"
 obtain⟨a,dx,rfl,ha,q⟩:=h;refine⟨_,(Qc (QNa (pv 0) QQa rfl)
  (Qc (QNa (pv 0) Xnc rfl)
  (Qe (QNa (pv 0) Qd rfl)))),?_⟩
 refine Qk (σ:=[Vo (.ref a)]) rfl ?_
 walk_at "rd";have c:=T.ob_ 3 #[1]
 intro p hp;have pa:a≠p:=λz=>by rw[<- z,ha]at hp;cases hp
 refine⟨a,ob 3,dx,_,rfl,by rw[Qh pa];exact ha,c.cl,c.no _ #[1],by decide,?_⟩
 intro p2 aP;have oA:a≠p2:=λz=>by rw[<- z,Qa]at aP;cases aP
 have eZ:upd H p (.dK []) p2=Vp:=by rw[Qh (VR oA)]at aP;exact aP
 have pp:p2≠p:=λz=>by rw[z,Qa]at eZ;cases eZ
 have fN:H p2=Vp:=by rw[Qh pp]at eZ;exact eZ
 refine⟨a,ob 3,dx,ZW "told_by_number" (.ref p) [],rfl,by rw[Qh oA];exact Qa,c.cl,c.no _ #[1],(show 1 < 1000 by decide),?_⟩
 refine⟨a,ob 3,dx,ZW "number_by_told" (.ref p2) (ZW "told_by_number" (.ref p) []),rfl,Qa,c.cl,c.no _ #[1],(show 2 < 1000 by decide),?_⟩
 show Q V.non _;rw[Y1];refine q p p2 _ dx (stF p p2 0) hp fN (λb o hb=>?_) ⟨⟨dx,Qa⟩,?_,?_,(λx hx=>nomatch hx),(λx hx=>nomatch hx),(λx hx=>nomatch hx),LR,LR,Uy _⟩
 ·by_cases e:b=a
  ·rw[e,Qa]at hb ⊢;exact hb
  ·rw[Qh e]at hb ⊢
   rw[Qh (QC hb fN),Qh e,Qh (QC hb hp)];exact hb
 ·rw[Qh (VR pa),Qh (VR pp),Qh (VR pa)];exact Qa
 ·rw[Qh (VR oA)];exact Qa
inductive ZR(P:Vg)(w:Vb)(cs ob:Nat->Vh)(vs:List V)(H:Hp)(Q:VK)(E:XK):Prop
 | mk:∀ p d1 d2 st c n,vs=[.ref p,.int n]->QK P w ob H p d1 d2 st c->(∀ d t,(n,d,t)∈st->Q (.ref t) H)->((∀ x∈st,x.1≠n)->∀ d,H d=Vp->E (.ref (cs 0)) (Vo d) (upd H d (xD d [("number",.int n)])))->ZR P w cs ob vs H Q E
seal PE PT PW PA PS PSs PI PG QM PGs PO in
theorem Yza(Z:Zs mg)(T:Tx K mg CT cs ob)(oB:MkX P w K mg base 1 "NoPage" (cs 0) CT ["number"])(F:Fun K "told_at" "Pages.told_at" J9 f fd):Qy P w K mg base (CX1 P w) 3 f fd ["self","number"] (ZR P w cs ob):=by
 refine F.ok1 Ysa (λvs H Q E h=>?_) (λah A outer s H vs Q E hr h=>?_)
 ·walk_at "n"
 obtain⟨p,d1,d2,st,c,n,rfl,hS,q1,q2⟩:=h;refine⟨_,(Qc (QG (JVc (ZWc hr.u1 (pv 1) (Ze (pv 0) rfl))) (Qe (XE Yo rfl rfl rfl oB (k:=2) hr #[1] (Qf (pv 1) Qb))) Qr)
  (Qe (Qn (Y8 hr.u1 (Ze (pv 0) rfl) (pv 1) (λ_ _=>rfl))))),?_⟩
 refine Qk (σ:=[Vo (.ref p),Vo (.int n)]) rfl ?_
 walk_at "rd";obtain⟨dx,ho⟩:=hS.obj;have cc:=T.ob_ 3 #[1]
 refine ZH cc #[1] rfl ho rfl ⟨d1,rfl,_,QHa.k (k:=.inl n) hS.num,?_⟩
 by_cases hx:∃ x∈st,x.1=n
 ·obtain⟨⟨n',d,t⟩,hm,rfl⟩:=hx
  rw[hS.get hm];rw[if_neg #[2]]
  exact ZH cc #[1] rfl ho rfl ⟨d1,rfl,.ref t,by rw[<- hS.get hm];exact QHa.k (k:=.inl _) hS.num,q1 d t hm⟩
 ·have aC:∀ x∈st,x.1≠n:=λx h e=>hx ⟨x,h,e⟩
  rw[ZDd aC,if_pos #[1]]
  exact⟨rfl,show 1<=1000 by decide,λd hd=>q2 aC d hd⟩
inductive Q7(P:Vg)(w:Vb)(cs ob:Nat->Vh)(vs:List V)(H:Hp)(Q:VK)(E:XK):Prop
 | mk:∀ p d1 d2 st c n,vs=[.ref p,.int n]->QK P w ob H p d1 d2 st c->(∀ l es t,(n,Zn l es,t)∈st->∀ a H',Qj H H'->H a=Vp->PgD ob H' a l es->Q (.ref a) H')->((∀ x∈st,x.1≠n)->∀ d,H d=Vp->E (.ref (cs 0)) (Vo d) (upd H d (xD d [("number",.int n)])))->Q7 P w cs ob vs H Q E
seal PE PT PW PA PS PSs PI PG QM PGs PO in
theorem QKb(Z:Zs mg)(T:Tx K mg CT cs ob)(oC:Cal P w K mg base 4 "page_of" ["level","entries"] (Qla K ob))(Zg:MeV P w K mg base 3 (ob 3) "told_at" (ZR P w cs ob))(F:Fun K "page" "Pages.page" Qda f fd):Qy P w K mg base (CX1 P w) 5 f fd ["self","number"] (Q7 P w cs ob):=by
 refine F.ok1 ZTa (λvs H Q E h=>?_) (λah A outer s H vs Q E hr h=>?_)
 ·walk_at "n"
 obtain⟨p,d1,d2,st,c,n,rfl,hS,q1,q2⟩:=h;refine⟨_,(Qc (Ql 2 ZTa.nd (PE1.pe (ZC (k:=4) (pv 0) hr rfl (Qf (pv 1) Qb)) Yo))
  (Qe (Qn (Qo oC hr (Qf (Qt Qw (pv 2) Qd (λ_ _=>rfl)) (Qf (Qt Qw (pv 2) Qd (λ_ _=>rfl)) Qb)))))),?_⟩
 refine Qk (σ:=[Vo (.ref p),Vo (.int n),Vp]) rfl ?_
 walk_at "rd";obtain⟨dx,ho⟩:=hS.obj;have cc:=T.ob_ 3 #[1]
 refine JY rfl ho rfl cc.cl (Zg.mono #[1]) ⟨p,d1,d2,st,c,n,rfl,hS,λd t hm=>?_,λhx d hd=>q2 hx d hd⟩
 obtain⟨l,k,r,es,ed,hk,le⟩:=hS.sh _ hm;have td:=hS.td _ hm;dsimp only at ed td;subst ed;obtain⟨_,x,z,e,ht,t1,t2⟩:=td.pair_of;cases e;obtain⟨_,rfl⟩:=t1.flat;obtain⟨m,e',xs,em,rfl,he,re⟩:=t2.tup;obtain rfl:m=6:=by lia
 refine⟨t,rfl,_,SqT.of ht,.int l,rfl,⟨t,rfl,_,SqT.of ht,.ref e',rfl,?_⟩⟩
 exact⟨l,e',true,xs,_,rfl,he,re,by have:=Vn re;simp at this;lia,λa H' s ha pg=>q1 l _ t hm a H' s ha pg⟩
inductive JO(P:Vg)(w:Vb)(ob:Nat->Vh)(vs:List V)(H:Hp)(Q:VK)(E:XK):Prop
 | mk:∀ p d1 d2 st c a l es,vs=[.ref p,.ref a]->QK P w ob H p d1 d2 st c->PgD ob H a l es->Jzd (Zn l es)->st.length < 16000000->(∀ n t,(n,Zn l es,t)∈st->∀ H',Qj H H'->Q (.int n) H')->((∀ x∈st,x.2.1≠Zn l es)->∀ t H',QO [p,d1,d2] H H'->QK P w ob H' p d1 d2 (st++[(c,Zn l es,t)]) (c+1)->Q (.int c) H')->JO P w ob vs H Q E
seal PE PT PW PA PS PSs PI PG QM PGs PO in
theorem QLb(Z:Zs mg)(T:Tx K mg CT cs ob)(qZ:MeV P w K mg base 1 (ob 0) "told" (ZQ K ob))(oE:MeV P w K mg base 1 (ob 1) "told" (ZQ K ob))(oF:MeV P w K mg base 1 (ob 2) "told" (ZQ K ob))(F:Fun K "kept" "Pages.kept" Qaa f fd):Qy P w K mg base (CX1 P w) 2 f fd ["self","page"] (JO P w ob):=by
 refine F.ok1 Xp (λvs H Q E h=>?_) (λah A outer s H vs Q E hr h=>?_)
 ·walk_at "n"
 obtain⟨p,d1,d2,st,c,a,l,es,rfl,hS,hP,jn,few,q1,q2⟩:=h;refine⟨_,(Qc (Ql 2 Xp.nd (PE1.pe (Z9a (k:=1) (pv 1) hr rfl) Yo))
  (Qc (QG (JVc (Jnd hr.u9 (pv 2) (Ze (pv 0) rfl))) (Qe (Qn (QPd hr.u9 (Ze (pv 0) rfl) (pv 2) (λ_ _=>rfl)))) Qr)
  (Qc (Ql 3 Xp.nd (Ze (pv 0) rfl))
  (Qc (JLa hr.u1 (Ze (pv 0) rfl) (pv 3) (pv 2) rfl)
  (Qc (QQd hr.u9 (Ze (pv 0) rfl) (pv 2) (pv 3) rfl)
  (Qc (QNa (pv 0) (Qm QQ (pv 3) Qd) rfl)
  (Qe (Qn (pv 3))))))))),?_⟩
 refine Qk (σ:=[Vo (.ref p),Vo (.ref a),Vp,Vp]) rfl ?_
 walk_at "rd";obtain⟨dx,ho⟩:=hS.obj;have cc:=T.ob_ 3 #[1]
 obtain⟨tw,wp,t0,ci,ha,ht⟩:=id hP;have Mt:MeV P w K mg base 1 (ob (if tw=true then 2 else 1)) "told" (ZQ K ob):=by cases tw with | true=>exact oF | false=>exact oE
 refine Yja rfl ha (by cases tw <;> rfl) (T.ob_ _ XEc).cl Mt ⟨a,l,es,rfl,hP,λr H1 s1 wq t1=>?_⟩
 have bH:=hS.same s1;have cC:=s1 _ _ ho;refine ZH cc #[1] rfl cC rfl ⟨d2,rfl,r,rfl,_,bH.dn,Zn l es,t1.rep,t1.h,?_⟩
 by_cases hx:∃ x∈st,x.2.1=Zn l es
 ·obtain⟨⟨n,d,t⟩,hm,e⟩:=hx
  dsimp only at e;subst e;have g:=bH.getN hm;dsimp only at g;rw[g,if_pos (show(Vo (V.int n)).isSome=true from rfl)]
  exact ZH cc #[1] rfl cC rfl ⟨d2,rfl,r,rfl,_,bH.dn,Zn l es,t1.rep,t1.h,_,g,q1 n t hm _ s1⟩
 ·have aC:∀ x∈st,x.2.1≠Zn l es:=λx h e=>hx ⟨x,h,e⟩
  have hc:∀ x∈st,x.1≠c:=λx h e=>by have:=hS.lt x h;lia
  rw[XFc aC,if_neg #[1]]
  refine ZH cc #[1] rfl cC rfl ?_
  refine ZH cc #[1] rfl cC rfl ⟨d1,rfl,_,Qyb.k (k:=.inl c) bH.num (by rw[UQ,UD];lia),?_⟩
  rw[Yjc _ (ZDd hc)];have cU:QO [p,d1,d2] H1 (upd H1 d1 (.dK (st.map Qbb++[(.inl c,.ref r)]))):=(QO.refl _ _).upd #[2]
  have bC:=XG bH cU;refine ZH cc #[1] rfl (by rw[Qh hS.pd1];exact cC) rfl ⟨d2,rfl,r,rfl,st.map Zfa,⟨by rw[Qh (VR hS.d12)];exact bH.tol,λx hx=>?_⟩,Zn l es,(TD.sameT bC 8 t1).rep,t1.h,XFc aC,by rw[UQ,UD];lia,?_⟩
  ·obtain⟨y,hy,rfl⟩:=mem_map.mp hx
   exact⟨(TD.sameT bC 8 (bH.td y hy)).rep,(bH.td y hy).h⟩
  generalize e2:upd H1 d1 (.dK (st.map Qbb++[(.inl c,.ref r)]))=H2 at cU bC;have fO:QO [p,d1,d2] H1 (upd H2 d2 (dN P w d2 (st.map Zfa++[(Zn l es,r,.int c)]))):=cU.upd #[2]
  have p3:upd H2 d2 (dN P w d2 (st.map Zfa++[(Zn l es,r,.int c)])) p=Vo (.ins (ob 3) dx (stF d1 d2 c)):=by rw[Qh hS.pd2,<- e2,Qh hS.pd1];exact cC
  refine Z1b (fs:=stF d1 d2 c) cc #[1] rfl (y:=.int (c+1)) (H1:=upd H2 d2 (dN P w d2 (st.map Zfa++[(Zn l es,r,.int c)]))) (λQ q=>by
   simp only[tOp,XBb,XCb,tC,rI0];exact⟨c,1,rfl,rfl,q⟩) p3 (show 3 < 1000 by decide) ?_
  have gR:QO [p,d1,d2] H1 (upd (upd H2 d2 (dN P w d2 (st.map Zfa++[(Zn l es,r,.int c)]))) p (.ins (ob 3) dx (stF d1 d2 (c+1)))):=fO.upd #[2]
  have gC:=XG bH gR;refine q2 aC r _ ((s1.x _).trans gR) ⟨⟨dx,Qa⟩,?_,?_,λx hx=>?_,λx hx=>?_,λx hx=>?_,?_,?_,?_⟩
  ·rw[Qh (VR hS.pd1),Qh hS.d12,<- e2,Qa,Ip];rfl
  ·rw[Qh (VR hS.pd2),Qa,Ip];rfl
  ·rcases mem_append.mp hx with h | h
   ·exact TD.sameT gC 8 (bH.td x h)
   ·rw[mem_singleton.mp h];exact TD.sameT gC 8 t1
  ·rcases mem_append.mp hx with h | h
   ·exact hS.sh x h
   ·rw[mem_singleton.mp h];exact jn
  ·rcases mem_append.mp hx with h | h
   ·have:=hS.lt x h;lia
   ·rw[mem_singleton.mp h];show c < c+1;lia
  ·rw[Ip,Dd]
   refine⟨hS.nn,by simp,λa ha b hb e=>?_⟩
   obtain⟨y,hy,rfl⟩:=mem_map.mp ha;simp at hb;exact hc y hy (by rw[e,hb])
  ·rw[Ip,Dd]
   refine⟨hS.nd,by simp,λa ha b hb e=>?_⟩
   obtain⟨y,hy,rfl⟩:=mem_map.mp ha;simp at hb;exact aC y hy (by rw[e,hb])
  ·rw[On];show _+1<=16000000;lia
inductive JP(P:Vg)(w:Vb)(cs ob:Nat->Vh)(vs:List V)(H:Hp)(Q:VK)(E:XK):Prop
 | mk:∀ p d1 d2 st c n,vs=[.ref p,.int n]->QK P w ob H p d1 d2 st c->(∀ l k r es t,(n,Zn l (.t (.v k::r)::es),t)∈st->∀ a H',Qj H H'->H a=Vp->TD H' 1 (.t [.v (.int l),.v k]) (.ref a)->Q (.ref a) H')->((∀ x∈st,x.1≠n)->∀ d,H d=Vp->E (.ref (cs 0)) (Vo d) (upd H d (xD d [("number",.int n)])))->JP P w cs ob vs H Q E
seal PE PT PW PA PS PSs PI PG QM PGs PO in
theorem QMb(Z:Zs mg)(T:Tx K mg CT cs ob)(Zg:MeV P w K mg base 3 (ob 3) "told_at" (ZR P w cs ob))(F:Fun K "card" "Pages.card" Qca f fd):Qy P w K mg base (CX1 P w) 4 f fd ["self","number"] (JP P w cs ob):=by
 refine F.ok1 ZSa (λvs H Q E h=>?_) (λah A outer s H vs Q E hr h=>?_)
 ·walk_at "n"
 obtain⟨p,d1,d2,st,c,n,rfl,hS,q1,q2⟩:=h;refine⟨_,(Qc (Ql 2 ZSa.nd (PE1.pe (ZC (k:=3) (pv 0) hr rfl (Qf (pv 1) Qb)) Yo))
  (Qe (Qn (Zf (Qf (Qt Qw (pv 2) Qd (λ_ _=>rfl)) (Qf (Qt Qw (Qt Qw (Qt Qw (pv 2) Qd (λ_ _=>rfl)) Qd (λ_ _=>rfl)) Qd (λ_ _=>rfl)) Qb)))))),?_⟩
 refine Qk (σ:=[Vo (.ref p),Vo (.int n),Vp]) rfl ?_
 walk_at "rd";obtain⟨dx,ho⟩:=hS.obj;have cc:=T.ob_ 3 #[1]
 refine JY rfl ho rfl cc.cl (Zg.mono #[1]) ⟨p,d1,d2,st,c,n,rfl,hS,λd t hm=>?_,λhx d hd=>q2 hx d hd⟩
 obtain⟨l,k,r,es,ed,hk,le⟩:=hS.sh _ hm;have td:=hS.td _ hm;dsimp only at ed td;subst ed;obtain⟨_,x,z,e,ht,t1,t2⟩:=td.pair_of;cases e;obtain⟨_,rfl⟩:=t1.flat;obtain⟨m,e',xs,em,rfl,he,re⟩:=t2.tup;cases re with
 | cons r1 _ =>
  obtain⟨_,b,ys,_,rfl,hb,rb⟩:=r1.tup;cases rb with
  | cons r2 _ =>
   obtain⟨_,rfl⟩:=r2.flat;exact⟨t,rfl,_,SqT.of ht,.int l,rfl,t,rfl,_,SqT.of ht,.ref e',rfl,e',rfl,_,SqT.of he,.ref b,QZd rfl,b,rfl,_,SqT.of hb,_,QZd rfl,ZX,λa ha=>q1 l _ _ _ t hm a _ (Qi ha _) ha (TD.pair Qa (.ofV rfl) (.ofV hk))⟩
inductive YV(aj:VD)(vs:List V)(H:Hp)(Q:VK)(E:XK):Prop
 | mk:∀ v,vs=[v]->QH v->(∀ p,H p=Vp->Q (.ref p) (upd H p (.tup (rk v))))->YV aj vs H Q E
seal PE PT PW PA PS PSs PI PG QM PGs PO in
theorem Qoc(Z:Zs mg)(T:Tx K mg CT cs ob)(F:Fun K "rank_of" "rank_of" Yra f fd):Qy P w K mg base CX0 1 f fd ["value"] (YV K):=by
 refine F.ok Qdc (λvs H Q E h=>?_) (λah A outer s H vs Q E hr h=>?_)
 ·walk_at "n"
 obtain⟨v,rfl,hv,q⟩:=h;refine⟨_,(Qc (QG (Qs Xsa (pv 0) YE (Qv _)) (Qe (Qn (Zf (Qf Qd (Qf Qd Qb))))) Qr)
  (Qc (QG (QR (Qq QE rfl (Z.isinstance) Qu (Qf (pv 0) (Qf (Q4 rfl (Z.str) XT (v:=.ty "str") rfl) Qb))) (λ_=>rfl)) (Qe (Qn (Zf (Qf Qd (Qf (pv 0) Qb))))) Qr)
  (Qe (Qn (Zf (Qf Qd (Qf (pv 0) Qb))))))),?_⟩
 refine Qk (σ:=[Vo v]) rfl ?_
 walk_at "rd";cases v with
 | non=>walk_at "rd";exact⟨by decide,q⟩
 | int n =>
  walk_at "rd";refine Q3 (.int n) Xg ⟨_,rfl,?_⟩
  walk_at "rd";exact⟨by show 2<=Vs;decide,q⟩
 | str z =>
  walk_at "rd";refine Q3 (.str z) Zu ⟨_,rfl,?_⟩
  walk_at "rd";exact⟨by show 2<=Vs;decide,q⟩
 | _=>exact hv.elim
inductive Jf(aj:VD)(vs:List V)(H:Hp)(Q:VK)(E:XK):Prop
 | mk:∀ a b,vs=[a,b]->QH a->QH b->(∀ H',Qj H H'->Q (.bl (ltV a b)) H')->Jf aj vs H Q E
seal PE PT PW PA PS PSs PI PG QM PGs PO in
theorem JCc(Z:Zs mg)(T:Tx K mg CT cs ob)(mB:Cal P w K mg base 1 "rank_of" ["value"] (YV K))(F:Fun K "before" "before" X3a f fd):Qy P w K mg base CX0 2 f fd ["one","other"] (Jf K):=by
 refine F.ok Jyc (λvs H Q E h=>?_) (λah A outer s H vs Q E hr h=>?_)
 ·walk_at "n"
 obtain⟨a,b,rfl,ha,hb,q⟩:=h;refine⟨_,(Qe (Qn (Y4 (Z1d (hr.units0)) (Qo mB hr (Qf (pv 0) Qb)) (Qo mB hr (Qf (pv 1) Qb)) (Qv _)))),?_⟩
 refine Qk (σ:=[Vo a,Vo b]) rfl ?_
 walk_at "rd";refine⟨a,rfl,ha,λp hp=>?_⟩
 walk_at "rd";refine⟨b,rfl,hb,λp2 aP=>?_⟩
 walk_at "rd";exact⟨rk a,SqT.of (by rw[Qh (QC Qa aP)];exact Qa),rk b,SqT.of Qa,ltV a b,YNc ha hb,q _ ((Qi hp _).trans (Qi aP _))⟩
def QJa(d:Dt):Prop:=∃ k r,d=.t (.v k::r)/\ZJ k
theorem Zyc(h:ZJ k):hV k=true:=by
 cases k with
 | int n=>rfl
 | str z=>rfl
 | _=>exact h.elim
theorem Zz(h:ZJ k):Pl.QH k:=by
 cases k with
 | int n=>exact h
 | str z=>exact h
 | _=>exact h.elim
theorem JAd(k:V):QV k<=6:=M11.XAc 6 _
theorem Zd{d:Vh}{o:HO}(s:Qj H H')(n:H d=Vp):Qj H (upd H' d o):=λb u hb=>by
 rw[Qh (QC hb n)];exact s b u hb
structure Yx(H:Hp)(p:Vh)(ps:List Vh)(af:List (List V)):Prop where
 at_:H p=Vo (.lst (ps.map V.ref))
 len:ps.length=af.length
 part:∀ (i:Nat) q l,ps[i]?=Vo q->af[i]?=Vo l->H q=Vo (.lst l)
 nd:(p::ps).Nodup
section
variable{H:Hp}{p:Vh}{ps:List Vh}{af:List (List V)}
theorem Yx.more{q:Vh}{l:List V}(pa:Yx H p ps af)(hq:H q=Vp):Yx (upd (upd H q (.lst l)) p (.lst ((ps++[q]).map V.ref))) p (ps++[q]) (af++[l]):=by
 have qp:q≠p:=λz=>by rw[z,pa.at_]at hq;cases hq
 have q8:q∉ps:=λz=>by
  obtain⟨i,hi,e⟩:=mem_iff_getElem.mp z;have:=pa.part i q (af[i]'(by rw[<- pa.len];exact hi)) (by rw[IE hi,e]) (IE _)
  rw[hq]at this;cases this
 have q9:p∉ps:=(nodup_cons.mp pa.nd).1;refine⟨Qa,by simp[pa.len],λi r m e1 e2=>?_,?_⟩
 ·have rp:r≠p:=λz=>by
   have hm:=Om e1;rw[z]at hm
   rcases mem_append.mp hm with w | w
   ·exact q9 w
   ·exact qp (by simpa using w:p=q).symm
  rw[Qh rp]
  by_cases hl:i < ps.length
  ·rw[Oj hl]at e1
   rw[Oj (by rw[<- pa.len];exact hl)]at e2
   have rq:r≠q:=λz=>q8 (by rw[<- z];exact Om e1)
   rw[Qh rq];exact pa.part i r m e1 e2
  ·rw[Oi #[0]]at e1
   rw[Oi (by rw[<- pa.len];lia),<- pa.len]at e2
   have h0:i - ps.length=0:=by
    cases w:i - ps.length with
    | zero=>rfl
    | succ m=>rw[w]at e1;simp at e1
   rw[h0]at e1 e2;simp at e1 e2;subst e1 e2;exact Qa
 ·have:=pa.nd
  simp only[LS,Dd,IV,DB]at this ⊢;refine⟨λz=>z.elim q9 λz=>qp z.symm,this.2,by simp,λa ha b hb=>?_⟩
  intro z;subst hb;subst z;exact q8 ha
theorem Yx.on{ini:List Vh}{q:Vh}{li:List (List V)}{last new:List V}(pa:Yx H p (ini++[q]) (li++[last])):Yx (upd H q (.lst new)) p (ini++[q]) (li++[new]):=by
 have nd:=pa.nd;have qp:p≠q:=λz=>(nodup_cons.mp nd).1 (by rw[z];simp)
 have nq:q∉ini:=λz=>by
  have:=(nodup_cons.mp nd).2;rw[Dd]at this;exact this.2.2 q z q #[2] rfl
 have len:ini.length=li.length:=by have:=pa.len;simp at this;exact this
 refine⟨by rw[Qh qp];exact pa.at_,by simp[len],λi r m e1 e2=>?_,nd⟩
 by_cases hl:i < ini.length
 ·rw[Oj hl]at e1
  rw[Oj #[0]]at e2
  have rq:r≠q:=λz=>nq (by rw[<- z];exact Om e1)
  rw[Qh rq];exact pa.part i r m (by rw[Oj hl];exact e1) (by rw[Oj #[0]];exact e2)
 ·rw[Oi #[0]]at e1
  rw[Oi #[0],<- len]at e2
  have h0:i - ini.length=0:=by
   cases w:i - ini.length with
   | zero=>rfl
   | succ m=>rw[w]at e1;simp at e1
  rw[h0]at e1 e2;simp at e1 e2;subst e1 e2;exact Qa
end
abbrev PP(H:Hp):List (List Dt)->List (List V)->Prop:=Vm λds vs=>Vm (λd v=>TD H 6 d v) ds vs
theorem J2a{α β:Type}{F:α->β->Prop}:∀ {xs:List α} {us:List β} {u:β},Vm F xs (us++[u])->∃ ys y,xs=ys++[y]/\Vm F ys us/\F y u
 | [],us,u,h=>by have:=Vn h;simp at this
 | x::xs,[],u,h=>by
  cases h with
  | cons r t=>cases t;exact⟨[],x,rfl,.nil,r⟩
 | x::xs,v::us,u,h=>by
  cases h with
  | cons r t =>
   obtain⟨ys,y,rfl,t',f⟩:=J2a t;exact⟨x::ys,y,rfl,.cons r t',f⟩
structure J1(H H':Hp)(l:Int)(es:List Dt)(i:Nat)(p:Vh)(ps:List Vh)(af:List (List V)):Prop where
 same:Qj H H'
 fresh:∀ q∈p::ps,H q=Vp
 pa:Yx H' p ps af
 pp:PP H (Q1 QV l (es.take i)) af
 lp:af.length<=i
 lq:∀ part∈af,part.length<=i
section
variable{H H':Hp}{l:Int}{es rr:List Dt}{i:Nat}{p p1 q1 e:Vh}{ps ini:List Vh}{af li:List (List V)}{last:List V}{k:V}
theorem J1.start(hp:H p=Vp):J1 H (upd H p (.lst [])) l es 0 p [] [] where
 same:=Qi hp _
 fresh:=λr hr=>by
  have:r=p:=by simpa using hr
  rw[this];exact hp
 pa:=⟨Qa,rfl,λi r m e=>by simp at e,by simp⟩
 pp:=.nil
 lp:=Uy _
 lq:=λx hx=>nomatch hx
theorem XGc(hd:es[i]?=Vo (.t (.v k::rr))):Q1 QV l (es.take (i+1))=Tr.step QV l (Q1 QV l (es.take i)) (.t (.v k::rr)):=by rw[Iq,hd];exact YD _ _
theorem J1.at1(c:J1 H H' l es i p ps af)(bI:H' p1=Vp):upd (upd H' p1 (.lst [])) p (.lst (ps.map V.ref++[V.ref p1])) p1=Vo (.lst []):=by
 have oG:p1≠p:=λz=>by rw[z,c.pa.at_]at bI;cases bI
 rw[Qh oG];exact Qa
theorem J1.atp(c:J1 H H' l es i p ps af)(bI:H' p1=Vp):upd H' p1 (.lst []) p=Vo (.lst (ps.map V.ref)):=by
 have oG:p1≠p:=λz=>by rw[z,c.pa.at_]at bI;cases bI
 rw[Qh (VR oG)];exact c.pa.at_
theorem J1.more(c:J1 H H' l es i p ps af)(hd:es[i]?=Vo (.t (.v k::rr)))(tx:TD H 6 (.t (.v k::rr)) (.ref e))(bI:H' p1=Vp)(hc:Q1 QV l (es.take i)=[]\/l < (QV k:Int)) :
 J1 H (upd (upd (upd H' p1 (.lst [])) p (.lst (ps.map V.ref++[V.ref p1]))) p1 (.lst ([]++[V.ref e]))) l es (i+1) p (ps++[p1]) (af++[[.ref e]]):=by
 have np:=c.fresh p VN;have oH:H p1=Vp:=by
  cases e:H p1 with
  | none=>rfl
  | some o=>rw[c.same _ _ e]at bI;cases bI
 have em:ps.map V.ref++[V.ref p1]=(ps++[p1]).map V.ref:=by simp
 refine⟨Zd (Zd (Zd c.same oH) np) oH,λr hr=>?_,?_,?_,?_,?_⟩
 ·rcases mem_cons.mp hr with z | z
  ·rw[z];exact np
  ·rcases mem_append.mp z with z | z
   ·exact c.fresh r (VO _ z)
   ·have:r=p1:=by simpa using z
    rw[this];exact oH
 ·rw[em];exact(c.pa.more (l:=[]) bI).on (new:=[]++[.ref e])
 ·rw[XGc hd]
  unfold Tr.step;rw[if_pos (show _\/l < (QV (Qx (Dt.t (Dt.v k::rr))):Int) from hc)]
  exact OS c.pp (.cons tx .nil)
 ·have:=c.lp;simp;lia
 ·intro part hp
  rcases mem_append.mp hp with z | z
  ·have:=c.lq part z;lia
  ·rw[mem_singleton.mp z];simp
theorem J1.on(c:J1 H H' l es i p (ini++[q1]) (li++[last]))(hd:es[i]?=Vo (.t (.v k::rr)))(tx:TD H 6 (.t (.v k::rr)) (.ref e))(hc:¬ l < (QV k:Int)) :
 J1 H (upd H' q1 (.lst (last++[.ref e]))) l es (i+1) p (ini++[q1]) (li++[last++[.ref e]]):=by
 obtain⟨iniD,lastD,ec,wr,wt⟩:=J2a c.pp;refine⟨Zd c.same (c.fresh q1 #[2]),c.fresh,c.pa.on,?_,?_,?_⟩
 ·rw[XGc hd,ec]
  unfold Tr.step;rw[if_neg (λz=>z.elim (λz=>by simp at z) λz=>hc z)]
  simp only[L8,getLast?_append,getLast?_singleton,Option.some_or,Option.getD_some]
  exact OS wr (OS wt tx)
 ·have:=c.lp;simp at this ⊢;lia
 ·intro part hp
  rcases mem_append.mp hp with z | z
  ·have:=c.lq part (VS _ z);lia
  ·rw[mem_singleton.mp z]
   have:=c.lq last #[2]
   simp;lia
theorem J1.end_(c:J1 H H' l es i p ps af)(h:ps≠[]):∃ ini q1 li last,ps=ini++[q1]/\af=li++[last]/\H' q1=Vo (.lst last)/\last.length<=i:=by
 obtain⟨ini,q1,rfl⟩:=Yp h;obtain⟨li,last,rfl⟩:=Yp (xs:=af) (λz=>by have:=c.pa.len;rw[z]at this;simp at this)
 have len:ini.length=li.length:=by have:=c.pa.len;simp at this;exact this
 exact⟨ini,q1,li,last,rfl,rfl,c.pa.part ini.length q1 last #[2] (by rw[len];simp),c.lq last #[2]⟩
theorem J1.none_(c:J1 H H' l es i p ps af)(h:ps=[]):Q1 QV l (es.take i)=[]:=Iv (by rw[Vn c.pp,<- c.pa.len,h];rfl)
end
inductive Qpc(K:VD)(vs:List V)(H:Hp)(Q:VK)(E:XK):Prop
 | mk:∀ (a:Vh) (b:Bool) (l:Int) (xs:List V) (es:List Dt),vs=[.ref a,.int l]->SqE b K H a xs->xs.length<=900->Vm (λd v=>TD H 6 d v) es xs->(∀ d∈es,QJa d)->(∀ p ps af H',Qj H H'->(∀ q∈p::ps,H q=Vp)->Yx H' p ps af->PP H (Q1 QV l es) af->Q (.ref p) H')->Qpc K vs H Q E
seal PE PT PW PA PS PSs PI PG QM PGs PO in
theorem JBd(Z:Zs mg)(T:Tx K mg CT cs ob)(wu:Cal P w K mg base 3 "level_of" ["key"] (Zda K))(F:Fun K "cut" "cut" Xyc f fd):Qy P w K mg base CX0 4 f fd ["entries","level"] (Qpc K):=by
 refine F.ok Qgc (λvs H Q E h=>?_) (λah A outer s H vs Q E hr h=>?_)
 ·walk_at "n"
 obtain⟨a,b,l,xs,es,rfl,hS,h900,re,am,q⟩:=h;refine⟨_,(Qc (Ql 2 Qgc.nd (Zj Qb))
  (Qc (Zw Dc rfl (Jjd (pv 0)) (QW (i:=3) Qgc.nd rfl (ON rfl)) (Qc (QG (PW.pt (Y3 (Q8 (Xua (pv 2) (λ_=>rfl))) (J5 (Qs Xra (Qo wu hr (Qf (Qt Qw (pv 3) Qd (λ_ _=>rfl)) Qb)) (pv 1) (Qv _))))) (Qe (QZ (YF De Df Dg ZB (pv 2) (Qf (Zj Qb) Qb)))) Qr)
  (Qe (QZ (YF De Df Dg ZB (Qt Q0 (pv 2) (J6b Xqa Qd) (λ_ _=>rfl)) (Qf (pv 3) Qb))))))
  (Qe (Qn (pv 2))))),?_⟩
 refine Qk (σ:=[Vo (.ref a),Vo (.int l),Vp,Vp]) rfl ?_
 walk_at "rd";refine⟨by decide,λp hp=>?_⟩
 refine⟨b,⟨_,hS.same (Qi hp _)⟩,?_⟩
 have le:=Vn re;refine QMd xs (λi σ' H'=>∃ (ps:List Vh) (af:List (List V)) (x3:Option V),σ'=[Vo (.ref a),Vo (.int l),Vo (.ref p),x3]/\J1 H H' l es i p ps af) ⟨[],[],_,rfl,.start hp⟩ ?_ ?_ ?_
 ·rintro i σ' H' _ ⟨_,_,_,_,c⟩
  exact hS.same c.same
 ·rintro i x σ' H' hx ⟨ps,af,x3,rfl,c⟩
  have hi:=(List.getElem?_eq_some_iff.mp hx).1
  have hd:es[i]?=Vo (es[i]'#[0]):=IE _
  have tx:=QD re hd hx;obtain⟨k,rr,ed,hk⟩:=am _ (Om hd);generalize es[i]'#[0]=d at hd tx ed
  subst ed;obtain⟨m,e,ws,_,rfl,he,eC⟩:=id tx.tup;have lp:=c.lp;walk_at "rd";refine⟨_,.inl ⟨_,SqL.of c.pa.at_,rfl⟩,Zm (λh=>?_) λh=>?_⟩
  ·have wv:ps=[]:=by simpa using h
   refine⟨.inl ⟨rfl,_,SqL.of c.pa.at_⟩,by decide,λp1 bI=>?_⟩
   exact⟨_,c.atp bI,QA (by rw[UQ,c.pa.len];lia),_,SqL.of Qa,.ref p1,JIa _ _,.inl ⟨rfl,_,SqL.of (c.at1 bI)⟩,p1,rfl,[],c.at1 bI,by decide,_,_,c.more hd tx bI (.inl (c.none_ wv))⟩
  ·have au:ps≠[]:=λz=>h (by rw[z];rfl)
   cases eC with
   | @cons _ k' _ rf r1 br =>
   obtain⟨_,rfl⟩:=r1.flat;refine⟨_,SqT.of (c.same _ _ he),_,at0 _ _,_,rfl,hk,_,rfl,Zm (λh2=>?_) λh2=>?_⟩
   ·refine⟨.inl ⟨rfl,_,SqL.of c.pa.at_⟩,by decide,λp1 bI=>?_⟩
    exact⟨_,c.atp bI,QA (by rw[UQ,c.pa.len];lia),_,SqL.of Qa,.ref p1,JIa _ _,.inl ⟨rfl,_,SqL.of (c.at1 bI)⟩,p1,rfl,[],c.at1 bI,by decide,_,_,c.more hd tx bI (.inr h2)⟩
   ·obtain⟨ini,q1,li,last,rfl,rfl,gS,ll⟩:=c.end_ au
    exact⟨_,SqL.of c.pa.at_,.ref q1,by rw[Ip];exact JIa _ _,.inl ⟨rfl,_,SqL.of gS⟩,q1,rfl,last,gS,QA #[0],_,_,c.on hd tx h2⟩
 ·rintro σ' H' ⟨ps,af,x3,rfl,c⟩
  walk_at "rd";have co:=c.pp;rw[Iu #[0]]at co
  exact q p ps af H' c.same c.fresh c.pa co
def QI(st:StL):List (Int×Dt):=st.map λx=>(x.1,x.2.1)
theorem QK.fn{p:Vh}(h:QK P w ob H p d1 d2 st c):Fn (QI st) where
 num:=λn d d' h1 h2=>by
  obtain⟨⟨a,b,t⟩,m1,e1⟩:=mem_map.mp h1;obtain⟨⟨a',b',t'⟩,m2,e2⟩:=mem_map.mp h2;injection e1 with x1 y1
  injection e2 with x2 y2
  dsimp only at x1 y1 x2 y2;subst x1 y1 x2 y2;exact(h.fun_ m1 m2).1
 dat:=λn n' d h1 h2=>by
  obtain⟨⟨a,b,t⟩,m1,e1⟩:=mem_map.mp h1;obtain⟨⟨a',b',t'⟩,m2,e2⟩:=mem_map.mp h2;injection e1 with x1 y1
  injection e2 with x2 y2
  dsimp only at x1 y1 x2 y2;subst x1 y1 x2 y2;have q1:=h.getN m1;have q2:=h.getN m2;dsimp only at q1 q2;rw[q1]at q2;injection q2 with q2
  injection q2
def HdD(d:Dt):Prop:=∃ k n,d=Ju k n/\ZJ k
theorem HdD.ent{d:Dt}(h:HdD d):QJa d:=by
 obtain⟨k,n,rfl,hk⟩:=h;exact⟨k,_,rfl,hk⟩
section
variable{P:Vg}{w:Vb}{ob:Nat->Vh}{H H':Hp}{p d1 d2 a:Vh}{st:StL}{c l:Int}{es:List Dt}{Q:VK}{E:XK}
theorem Q0d(hS:QK P w ob H p d1 d2 st c)(hP:PgD ob H a l es)(jn:Jzd (Zn l es))(few:st.length < 16000000)
 (q:∀ n H3 bp c3,QO [p,d1,d2] H H3->QK P w ob H3 p d1 d2 bp c3->(n,Zn l es)∈QI bp->(∀ x∈QI st,x∈QI bp)->bp.length<=st.length+1->Q (.int n) H3):JO P w ob [.ref p,.ref a] H Q E :=
 ⟨p,d1,d2,st,c,a,l,es,rfl,hS,hP,jn,few,λn t hm H' s=>q n H' st c (s.x _) (hS.same s) (mem_map.mpr ⟨_,hm,rfl⟩) (λx h=>h) #[0],
  λ_ t H' s e7=>q c H' _ _ s e7 (mem_map.mpr ⟨_,Ux _ (mem_singleton.mpr rfl),rfl⟩) (λx hx=>by
   obtain⟨y,hy,ey⟩:=mem_map.mp hx;exact mem_map.mpr ⟨y,VS _ hy,ey⟩) (by rw[On];exact Uu _)⟩
end
structure YUb(P:Vg)(w:Vb)(ob:Nat->Vh)(H1 H':Hp)(p d1 d2 hh:Vh)(st:StL)(l:Int)(af:List (List Dt))(i:Nat)(ai:StL)(c':Int)(hs:List Dt)(ys:List V):Prop where
 sx:QO [p,d1,d2,hh] H1 H'
 tt:Zt H1 H'
 at_:H' hh=Vo (.lst ys)
 tys:Vm (λd v=>TD H' 6 d v) hs ys
 ehs:∀ d∈hs,HdD d
 hds:QU (QI ai) l (af.take i) hs
 stA:QK P w ob H' p d1 d2 ai c'
 sub:∀ x∈QI st,x∈QI ai
 len:ai.length<=st.length+i
section
variable{P:Vg}{w:Vb}{ob:Nat->Vh}{H1 H' H2 H3:Hp}{p d1 d2 hh u:Vh}{st ai bp:StL}{l c' c3 n:Int}{af:List (List Dt)}{i:Nat}{hs rr rest:List Dt}{ys:List V}{k:V}
theorem YUb.nhh(h:YUb P w ob H1 H' p d1 d2 hh st l af i ai c' hs ys):hh∉[p,d1,d2]:=λz=>by
 obtain⟨dx,ho⟩:=h.stA.obj;simp only[Lv,Lw,or_false]at z
 rcases z with z | z | z
 ·exact Jd h.at_ ho (by intro z;cases z) z
 ·exact Jd h.at_ h.stA.num (by intro z;cases z) z
 ·exact Jd h.at_ h.stA.tol (by intro z;cases z) z
theorem YUb.next(h:YUb P w ob H1 H' p d1 d2 hh st l af i ai c' hs ys)(cV:af[i]?=Vo (.t (.v k::rr)::rest))(hk:ZJ k)(s2:Qj H' H2)(s3:QO [p,d1,d2] H2 H3)(b7:QK P w ob H3 p d1 d2 bp c3)
 (hm:(n,Zn l (.t (.v k::rr)::rest))∈QI bp) (bJ:∀ x∈QI ai,x∈QI bp) (l3:bp.length<=ai.length+1) (hu:H3 u=Vp) :
 upd H3 u (.tup [k,.int n]) hh=Vo (.lst ys)/\YUb P w ob H1 (upd (upd H3 u (.tup [k,.int n])) hh (.lst (ys++[.ref u]))) p d1 d2 hh st l af (i+1) bp c3 (hs++[Ju k n]) (ys++[.ref u]):=by
 have cP:=h.stA.same s2;have jO:=s3 _ _ h.nhh (s2 _ _ h.at_);have mC:upd H3 u (.tup [k,.int n]) hh=Vo (.lst ys):=Qi hu _ _ _ jO;have uh:u≠hh:=λz=>by rw[z,jO]at hu;cases hu
 have rg:Zt H3 (upd (upd H3 u (.tup [k,.int n])) hh (.lst (ys++[.ref u]))):=(Qi hu _).t.trans (Jy mC);have rh:=(XG cP s3).trans rg;have len:=h.len;refine⟨mC,h.sx.trans ((s2.x _).trans ((s3.mono #[2]).trans (((Qi hu _).x _).upd #[2]))),h.tt.trans (s2.t.trans rh),Qa,OS (TDs.sameT h.tys (s2.t.trans rh)) (TD.pair (by rw[Qh uh];exact Qa) (.ofV (Zyc hk)) (.ofV rfl)),λd hd=>?_,?_,?_,λx hx=>bJ x (h.sub x hx),by lia⟩
 ·rcases mem_append.mp hd with z | z
  ·exact h.ehs d z
  ·rw[mem_singleton.mp z];exact⟨k,_,rfl,hk⟩
 ·rw[Iq,cV]
  exact(h.hds.mono bJ).snoc hm
 ·obtain⟨dx3,rl⟩:=b7.obj
  exact b7.keep rg (by rw[Qh (Jd rl jO (by intro z;cases z)),Qh (QC rl hu)]) (by rw[Qh (Jd b7.num jO (by intro z;cases z)),Qh (QC b7.num hu)]) (by rw[Qh (Jd b7.tol jO (by intro z;cases z)),Qh (QC b7.tol hu)])
theorem YUb.few(h:YUb P w ob H1 H' p d1 d2 hh st l af i ai c' hs ys):ys.length<=i:=by
 have h1:=Vn h.tys;have h2:=h.hds.length;rw[Og]at h2
 lia
end
theorem YBa{l:Int}:(Q1 lv l es).length<=es.length:=by
 have h1:∀ (ls:List (List Dt)),(∀ x∈ls,x≠[])->ls.length<=ls.flatten.length:=by
  intro ls
  induction ls with
  | nil=>intro _;exact Uu _
  | cons y ys ih =>
   intro h;have:=ih λx hx=>h x (VO _ hx)
   have:0 < y.length:=length_pos_iff.mpr (h y VN);simp only[UI,LV,On];lia
 have c:=JJ (lv:=lv) l es;have:=h1 _ c.full;rw[c.flat]at this;exact this
theorem Q1d{ps:List Vh}{af:List (List V)}{l:Int}{H0:Hp}(pa:Yx H1 a ps af)(pp:PP H0 (Q1 QV l es) af)(am:∀ d∈es,QJa d){i:Nat}{qa:Vh}(i8:ps[i]?=Vo qa) :
 ∃ k rr rest part,(Q1 QV l es)[i]?=Vo (.t (.v k::rr)::rest)/\ZJ k/\H1 qa=Vo (.lst part)/\Vm (λd v=>TD H0 6 d v) (.t (.v k::rr)::rest) part/\part.length<=es.length/\rest.length < es.length:=by
 have hi:=(List.getElem?_eq_some_iff.mp i8).1
 have li:i < af.length:=by rw[<- pa.len];exact hi
 have rm:=Vn pp;have oI:=JJ (lv:=QV) l es;have rn:af[i]?=Vo af[i]:=IE li
 have cV:(Q1 QV l es)[i]?=Vo ((Q1 QV l es)[i]'#[0]):=IE _
 have tp:=QD pp cV rn;have full:=oI.full _ (Om cV);have mem:∀ d∈(Q1 QV l es)[i]'#[0],d∈es:=λd hd=>by rw[<- oI.flat];exact mem_flatten.mpr ⟨_,Om cV,hd⟩
 have h1:=(sublist_flatten_of_mem (Om cV)).length_le;rw[oI.flat]at h1;generalize (Q1 QV l es)[i]'#[0]=partD at cV tp full mem h1
 match partD,full,cV,tp,mem,h1 with
 | d0::rest,_,cV,tp,mem,h1 =>
  obtain⟨k,rr,ed,hk⟩:=am d0 (mem d0 VN);subst ed;have h2:=Vn tp;exact⟨k,rr,rest,_,cV,hk,pa.part i qa _ i8 rn,tp,by lia,by simp at h1;lia⟩
inductive Jg(P:Vg)(w:Vb)(ob:Nat->Vh)(vs:List V)(H:Hp)(Q:VK)(E:XK):Prop
 | mk:∀ p d1 d2 st c l e b xs es,vs=[.ref p,.int l,.ref e]->QK P w ob H p d1 d2 st c->HE b H e xs->Vm (λd v=>TD H 6 d v) es xs->(∀ d∈es,QJa d)->xs.length<=900->st.length+xs.length<=16000000->(∀ r H' ai c' hs ys,QO [p,d1,d2] H H'->H r=Vp->H' r=Vo (.lst ys)->Vm (λd v=>TD H' 6 d v) hs ys->(∀ d∈hs,HdD d)->QU (QI ai) l (Q1 QV l es) hs->QK P w ob H' p d1 d2 ai c'->(∀ x∈QI st,x∈QI ai)->ai.length<=st.length+xs.length->Q (.ref r) H')->Jg P w ob vs H Q E
seal PE PT PW PA PS PSs PI PG QM PGs PO in
theorem YVb(Z:Zs mg)(T:Tx K mg CT cs ob)(ww:Cal P w K mg base 4 "cut" ["entries","level"] (Qpc K))(oC:Cal P w K mg base 4 "page_of" ["level","entries"] (Qla K ob))(rA:MeV P w K mg base 1 (ob 0) "first" (ZF K ob))(oJ:MeV P w K mg base 1 (ob 1) "first" (ZF K ob))(oK:MeV P w K mg base 1 (ob 2) "first" (ZF K ob))(oM:MeV P w K mg base 2 (ob 3) "kept" (JO P w ob))(F:Fun K "heads_of" "heads_of" Jqa f fd):Qy P w K mg base CX0 5 f fd ["pages","level","entries"] (Jg P w ob):=by
 refine F.ok Xe (λvs H Q E h=>?_) (λah A outer s H vs Q E hr h=>?_)
 ·walk_at "n"
 obtain⟨p,d1,d2,st,c,l,e,b,xs,es,rfl,hS,he,re,am,lx,few,q⟩:=h;refine⟨_,(Qc (Ql 3 Xe.nd (Zj Qb))
  (Qc (Zw Dc rfl (Jh (Qo ww hr (Qf (pv 2) (Qf (pv 1) Qb)))) (QW (i:=4) Xe.nd rfl (ON rfl)) (Qc (Ql 5 Xe.nd (Qo oC hr (Qf (pv 1) (Qf (pv 4) Qb))))
  (Qe (QZ (YF De Df Dg ZB (pv 3) (Qf (Zf (Qf (PE1.pe (Z9a (k:=4) (pv 5) hr rfl) Zy) (Qf (PE1.pe (ZC (k:=4) (pv 0) hr rfl (Qf (pv 5) Qb)) Zy) Qb))) Qb))))))
  (Qe (Qn (pv 3))))),?_⟩
 refine Qk (σ:=[Vo (.ref p),Vo (.int l),Vo (.ref e),Vp,Vp,Vp]) rfl ?_
 walk_at "rd";have cc:=T.ob_ 3 #[1]
 have lre:=Vn re;refine⟨by decide,λhh e8=>?_⟩
 have s0:=Qi e8 (.lst []);have gU:upd H hh (.lst []) hh=Vo (.lst []):=Qa;generalize upd H hh (.lst [])=H0 at s0 gU ⊢;have wx:SqE b K H0 e xs:=by
  have rC:=s0 _ _ he;cases b with
  | true=>exact SqT.of rC
  | false=>exact SqL.of rC
 refine⟨e,b,l,xs,es,rfl,wx,lx,TDs.sameT re s0.t,am,λa ps af H1 s1 fr pa pp=>⟨a,rfl,⟨_,SqL.of pa.at_⟩,?_⟩⟩
 have jP:=s0.trans s1;have bH:=hS.same jP;obtain⟨dx1,cC⟩:=bH.obj;have wy:=s1 _ _ gU;have fP:∀ q∈a::ps,∀ o,H1 q=Vo (.lst o)->q∉[p,d1,d2,hh]:=λq hq o oN z=>by
  simp only[Lv,Lw,or_false]at z
  rcases z with z | z | z | z
  ·exact Jd oN cC (by intro z;cases z) z
  ·exact Jd oN bH.num (by intro z;cases z) z
  ·exact Jd oN bH.tol (by intro z;cases z) z
  ·exact QC gU (fr q hq) z.symm
 have rm:=Vn pp;have lpl:(Q1 QV l es).length<=es.length:=YBa;refine YG (ps.map V.ref) (λi σ' H'=>∃ ai c' hs ys x4 x5,σ'=[Vo (.ref p),Vo (.int l),Vo (.ref e),Vo (.ref hh),x4,x5]/\YUb P w ob H1 H' p d1 d2 hh st l (Q1 QV l es) i ai c' hs ys)
  ⟨st,c,[],[],_,_,rfl,QO.refl _ _,Zt.refl _,wy,.nil,(λd h=>nomatch h),.nil,bH,(λx h=>h),by lia⟩ (λi σ' H' _ ⟨_,_,_,_,_,_,_,h⟩=>SqL.of (h.sx _ _ (fP a VN _ pa.at_) pa.at_)) ?_ ?_
 ·rintro i x σ' H' hx ⟨ai,c',hs,ys,x4,x5,rfl,hd⟩
  rw[Ol]at hx
  obtain⟨qa,i8,rfl⟩:=Option.map_eq_some_iff.mp hx;have hi:=(List.getElem?_eq_some_iff.mp i8).1
  have av:=hd.len;have jm:=hd.few;have aI:=pa.len;obtain⟨k,rr,rest,part,cV,hk,gS,tp,lpart,lrest⟩:=Q1d pa pp am i8;have wz:=hd.sx _ _ (fP qa (VO _ (Om i8)) _ gS) gS;walk_at "rd";refine⟨l,qa,false,part,_,rfl,wz,TDs.sameT tp (s1.t.trans hd.tt),by lia,λpg H2 s2 i9 bt=>?_⟩
  have cP:=hd.stA.same s2;obtain⟨fQ,md⟩:=cP.obj;obtain⟨tw,wp,t0,ci,bz,ht⟩:=id bt;have Mf:MeV P w K mg base 1 (ob (if tw=true then 2 else 1)) "first" (ZF K ob):=by cases tw with | true=>exact oK | false=>exact oJ
  refine⟨.inl ⟨rfl,_,SqL.of (s2 _ _ hd.at_)⟩,?_⟩
  refine Yja rfl bz (by cases tw <;> rfl) (T.ob_ _ XEc).cl (Mf.mono #[1]) ⟨pg,l,k,rr,rest,rfl,bt,?_⟩
  refine JY rfl md rfl cc.cl (oM.mono #[1]) ?_
  simp only[Q9b,XBb,XCb,Yca];refine Q0d cP bt ⟨l,k,rr,rest,rfl,Zyc hk,by lia⟩ #[0] λn H3 bp c3 s3 b7 hm bJ l3=>?_
  show _/\_;refine⟨ZX,λu hu=>?_⟩
  obtain⟨mC,bo⟩:=hd.next cV hk s2 s3 b7 hm bJ l3 hu;exact⟨ys,mC,QA #[0],bp,c3,_,_,_,_,⟨rfl,rfl⟩,bo⟩
 ·rintro σ' H' ⟨ai,c',hs,ys,x4,x5,rfl,hd⟩
  walk_at "rd";have hds:=hd.hds;have l':=hd.len;rw[UQ,Iu (by rw[rm,<- pa.len];exact Uu _)]at hds
  rw[UQ,pa.len]at l';exact q hh H' ai c' hs ys (λb o nb hb=>hd.sx b o (λz=>by
   simp only[Lv,Lw,or_false]at z nb
   rcases z with z | z | z | z
   ·exact nb (.inl z)
   ·exact nb (.inr (.inl z))
   ·exact nb (.inr (.inr z))
   ·rw[z,e8]at hb;cases hb) (jP _ _ hb)) e8 hd.at_ hd.tys hd.ehs hds hd.stA hd.sub #[0]
inductive Ups(lv:V->Nat)(tbl:List (Int×Dt))(j0:Nat)(eD:List Dt):Nat->List Dt->Prop
 | refl:Ups lv tbl j0 eD j0 eD
 | snoc {j:Nat} {hs aT:List Dt} (u:Ups lv tbl j0 eD j hs) (h1:1 < hs.length) (h2:QU tbl ((j+1:Nat):Int) (Q1 lv ((j+1:Nat):Int) hs) aT):Ups lv tbl j0 eD (j+1) aT
theorem Ups.mono{aD:List (Int×Dt)}{j0:Nat}{eD hs:List Dt}(u:Ups lv tbl j0 eD j hs)(s:∀ x∈tbl,x∈aD):Ups lv aD j0 eD j hs:=by
 induction u with
 | refl=>exact .refl
 | snoc _ h1 h2 ih=>exact .snoc ih h1 (h2.mono s)
theorem Ups.part{rows eD:List Dt}(h0:QU tbl 0 (Q1 lv 0 rows) eD){j:Nat}{hs:List Dt}(u:Ups lv tbl 0 eD j hs):∃ L,Yma lv tbl rows (j+1) L/\L (j+1)=hs:=by
 induction u with
 | refl=>exact⟨_,Yma.start h0,rfl⟩
 | @snoc j hs aT u h1 h2 ih =>
  obtain⟨L,p,e⟩:=ih;subst e;exact⟨_,p.next (λx h=>h) #[0] h1 h2,by show(if j+1+1=j+1+1 then aT else _)=aT;rw[if_pos rfl]⟩
inductive Qpa(P:Vg)(w:Vb)(ob:Nat->Vh)(vs:List V)(H:Hp)(Q:VK)(E:XK):Prop
 | mk:∀ p d1 d2 st c e hs ys,∀ j:Nat,vs=[.ref p,.int j,.ref e]->j<=6->QK P w ob H p d1 d2 st c->H e=Vo (.lst ys)->Vm (λd v=>TD H 6 d v) hs ys->(∀ d∈hs,HdD d)->ys.length<=900->st.length+7 * ys.length<=16000000->(∀ H' ai c' m above v,QO [p,d1,d2] H H'->QK P w ob H' p d1 d2 ai c'->(∀ x∈QI st,x∈QI ai)->ai.length<=st.length+7 * ys.length->Ups QV (QI ai) j hs m above->m<=7->((hs=[]/\v=.non)\/(hs≠[]/\∃ k n,above=[Ju k n]/\v=.int n))->Q v H')->Qpa P w ob vs H Q E
seal PE PT PW PA PS PSs PI PG QM PGs PO in
theorem Qrc(Z:Zs mg)(T:Tx K mg CT cs ob)(JD:Cal P w K mg base 5 "heads_of" ["pages","level","entries"] (Jg P w ob))(F:Fun K "crowned" "crowned" Yva f fd):Qy P w K mg base CX0 6 f fd ["pages","level","heads"] (Qpa P w ob):=by
 refine F.ok YO (λvs H Q E h=>?_) (λah A outer s H vs Q E hr h=>?_)
 ·walk_at "n"
 obtain⟨p,d1,d2,st,c,e,hs,ys,j,rfl,hj,hS,he,re,mD,ly,few,q⟩:=h;refine⟨_,(Qc (Ql 3 YO.nd (pv 1))
  (Qc (Ql 4 YO.nd (pv 2))
  (Qc (Xma Dc (Qs Xra (Qq QJ rfl (Z.len) Zk (Qf (pv 4) Qb)) Qd (Qv _)) (Qc (Ql 3 YO.nd (Qm QQ (pv 3) Qd))
  (Qe (Ql 4 YO.nd (Qo JD hr (Qf (pv 0) (Qf (pv 3) (Qf (pv 4) Qb))))))))
  (Qe (Qn (J3b (Xua (pv 4) (λ_=>rfl)) (Qt Qw (Qt Q0 (pv 4) Qd (λ_ _=>rfl)) Qd (λ_ _=>rfl)) YE)))))),?_⟩
 refine Qk (σ:=[Vo (.ref p),Vo (.int j),Vo (.ref e),Vp,Vp]) rfl ?_
 walk_at "rd";refine⟨λm σ' H'=>∃ (t:Nat) (ai:StL) (c':Int) (b:Vh) (above:List Dt) (zs:List V),σ'=[Vo (.ref p),Vo (.int j),Vo (.ref e),Vo (.int t),Vo (.ref b)]/\m=7 - t/\t<=7/\(t=7->above.length<=1)/\j<=t/\QO [p,d1,d2] H H'/\H' b=Vo (.lst zs)/\Vm (λd v=>TD H' 6 d v) above zs/\(∀ d∈above,HdD d)/\zs.length<=ys.length/\QK P w ob H' p d1 d2 ai c'/\(∀ x∈QI st,x∈QI ai)/\ai.length<=st.length+(t - j) * ys.length/\Ups QV (QI ai) j hs t above/\(hs=[]↔above=[]),
  ⟨_,j,st,c,e,hs,ys,rfl,rfl,by lia,λz=>by lia,Uu _,QO.refl _ _,he,re,mD,Uu _,hS,λx h=>h,by lia,.refl,Iff.rfl⟩,?_⟩
 rintro m σ' H' ⟨t,ai,c',b,above,zs,rfl,rfl,ht,h7,hjt,sx,hb,tz,hd,lz,e7,sub,l',gW,fb⟩;have rE:=Vn tz;have e1:((t+1:Nat):Int)=(t:Int)+1:=by lia
 walk_at "rd";refine⟨zs,.inl (SqL.of hb),Zm (λh1=>?_) λh1=>?_⟩
 ·have ht6:t<=6:=by
   rcases Dh t 7 with z | z
   ·lia
   ·have:=h7 #[0];lia
  have oq:(t - j) * ys.length<=6 * ys.length:=Di _ #[0]
  refine⟨λσ2 H2=>∃ (t2:Nat) (ai:StL) (c':Int) (b:Vh) (above:List Dt) (zs:List V),t2=t+1/\σ2=[Vo (.ref p),Vo (.int j),Vo (.ref e),Vo (.int t2),Vo (.ref b)]/\t2<=7/\(t2=7->above.length<=1)/\j<=t2/\QO [p,d1,d2] H H2/\H2 b=Vo (.lst zs)/\Vm (λd v=>TD H2 6 d v) above zs/\(∀ d∈above,HdD d)/\zs.length<=ys.length/\QK P w ob H2 p d1 d2 ai c'/\(∀ x∈QI st,x∈QI ai)/\ai.length<=st.length+(t2 - j) * ys.length/\Ups QV (QI ai) j hs t2 above/\(hs=[]↔above=[]),
   λσ2 H2 hZ=>(by obtain⟨t2,a1,a2,a3,a4,a5,a6,a7,b1,b2,b3,b4,b5⟩:=hZ;exact⟨7 - t2,by lia,t2,a1,a2,a3,a7,rfl,b1,a4,b2,b3,b4,a5,b5⟩),?_⟩
  walk_at "rd";refine⟨p,d1,d2,ai,c',(t:Int)+1,b,false,zs,above,rfl,e7,hb,tz,λd h=>(hd d h).ent,by lia,by lia,λr H2 bC c2 fw wA cU hr cW jQ cw dv cP cj l2=>?_⟩
  have oO:=dv.length;have lt2:=Vn jQ;have lc:=YBa (lv:=QV) (l:=(t:Int)+1) (es:=above);have oP:above≠[]:=λz=>by rw[z]at rE;simp at rE;lia
  refine⟨bC,c2,r,⟨by lia,rfl⟩,by lia,fw,λz=>?_,by lia,sx.trans cU,wA,cW,jQ,cw,by lia,cP,λx hx=>cj x (sub x hx),?_,.snoc (gW.mono cj) #[0] (by rw[e1];exact dv),?_⟩
  ·obtain rfl:t=6:=by lia
   rw[oO,YBb oP (λd _=>by have:=JAd (Qx d);lia)]
   exact Uu _
  ·have:t+1 - j=(t - j)+1:=by lia
   rw[this,Nat.succ_mul]
   lia
  ·constructor
   ·intro z;exact absurd (fb.mp z) oP
   ·intro z
    rw[z]at oO;exact absurd (length_eq_zero_iff.mp oO.symm) (ZBa oP)
 ·have oq:(t - j) * ys.length<=7 * ys.length:=Di _ #[0]
  cases tz with
  | nil =>
   refine⟨false,.inl ⟨_,SqL.of hb,rfl⟩,?_⟩
   rw[if_neg #[1]]
   exact q H' ai c' t [] .non sx e7 sub #[0] gW ht (.inl ⟨fb.mpr rfl,rfl⟩)
  | @cons d z _ _ tz tz2 =>
   cases tz2 with
   | nil =>
    obtain⟨k,n,rfl,hk⟩:=hd d VN;obtain⟨u,x1,x2,rfl,hu,u1,u2⟩:=TD.pair_of tz;obtain⟨_,rfl⟩:=u1.flat;obtain⟨_,rfl⟩:=u2.flat;refine⟨true,.inl ⟨_,SqL.of hb,rfl⟩,?_⟩
    rw[if_pos rfl];exact⟨_,SqL.of hb,.ref u,rfl,u,rfl,_,SqT.of hu,.int n,rfl,q H' ai c' t [Ju x1 n] (.int n) sx e7 sub #[0] gW ht (.inr ⟨(λz=>by have:=fb.mp z;cases this),x1,n,rfl,rfl⟩)⟩
   | cons _ _=>simp at h1;lia
def Xka(ks:List V)(i:Nat)(k:V):Prop:=ks[i+1]?=Vo k/\(∀ j,j < i->∀ a b,ks[j]?=Vo a->ks[j+1]?=Vo b->Pl.ltV a b=true)/\∀ a,ks[i]?=Vo a->Pl.ltV a k=false
theorem Jsb{ks:List V}(up:ks.Pairwise λa b=>Pl.ltV a b=true){i:Nat}{k:V}(h:Xka ks i k):False:=by
 obtain⟨a1,b1⟩:=List.getElem?_eq_some_iff.mp h.1
 have:=pairwise_iff_getElem.mp up i (i+1) #[0] a1 #[0]
 rw[b1,h.2.2 _ (IE (show i < ks.length by lia))]at this
 cases this
inductive J4a(P:Vg)(w:Vb)(cs ob:Nat->Vh)(vs:List V)(H:Hp)(Q:VK)(E:XK):Prop
 | mk:∀ p d1 d2 st c e xs es,vs=[.ref p,.ref e]->QK P w ob H p d1 d2 st c->H e=Vo (.lst xs)->Vm (λd v=>TD H 6 d v) es xs->(∀ d∈es,QJa d)->xs.length<=900->st.length+8 * xs.length<=16000000->(((es.map Qx).Pairwise (λa b=>Pl.ltV a b=true)/\∀ H' ai c' v,QO [p,d1,d2] H H'->QK P w ob H' p d1 d2 ai c'->(∀ x∈QI st,x∈QI ai)->ai.length<=st.length+8 * xs.length->((es=[]/\v=.non)\/(es≠[]/\∃ top L k n,top<=6/\YK QV (QI ai) es top L/\L (top+1)=[Ju k n]/\v=.int n))->Q v H')\/∃ i k,Xka (es.map Qx) i k/\∀ H' d,Qj H H'->H' d=Vp->E (.ref (cs 1)) (Vo d) (upd H' d (xD d [("key",k)])))->J4a P w cs ob vs H Q E
seal PE PT PW PA PS PSs PI PG QM PGs PO in
theorem XHc(Z:Zs mg)(T:Tx K mg CT cs ob)(oQ:Cal P w K mg base 6 "crowned" ["pages","level","heads"] (Qpa P w ob))(JD:Cal P w K mg base 5 "heads_of" ["pages","level","entries"] (Jg P w ob))(ZO:Cal P w K mg base 2 "before" ["one","other"] (Jf K))(oR:MkX P w K mg base 1 "NotRising" (cs 1) CT ["key"])(F:Fun K "built" "built" Jlb f fd):Qy P w K mg base (CX1 P w) 7 f fd ["pages","rows"] (J4a P w cs ob):=by
 refine F.ok1 YNb (λvs H Q E h=>?_) (λah A outer s H vs Q E hr h=>?_)
 ·walk_at "n"
 obtain⟨p,d1,d2,st,c,e,xs,es,rfl,hS,he,re,am,lx,few,hq⟩:=h;refine⟨_,(Qc (Zw Ygd rfl (Q7b rfl (Z.range) (Qf Qd (Qf (Qq QJ rfl (Z.len) Zk (Qf (pv 1) Qb)) Qb))) (QW (i:=2) YNb.nd rfl (ON rfl)) (Qe (QG (Q8 (QR (Qo ZO hr (Qf (Qt Qw (Qt Q0 (pv 1) (Qm Ji (pv 2) Qd) (λ_ _=>rfl)) Qd (λ_ _=>rfl)) (Qf (Qt Qw (Qt Q0 (pv 1) (pv 2) (λ_ _=>rfl)) Qd (λ_ _=>rfl)) Qb))) (λ_=>rfl))) (Qe (XE Yo rfl rfl rfl oR (k:=6) hr #[1] (Qf (Qt Qw (Qt Q0 (pv 1) (pv 2) (λ_ _=>rfl)) Qd (λ_ _=>rfl)) Qb))) Qr)))
  (Qe (Qn (Qo oQ hr (Qf (pv 0) (Qf Qd (Qf (Qo JD hr (Qf (pv 0) (Qf Qd (Qf (pv 1) Qb)))) Qb))))))),?_⟩
 refine Qk (σ:=[Vo (.ref p),Vo (.ref e),Vp]) rfl ?_
 walk_at "rd";have le:=Vn re;refine⟨xs,.inl (SqL.of he),1,_,⟨rfl,rfl⟩,⟨by decide,by decide,by lia,by lia⟩,?_⟩
 refine Jx (λi σ' H'=>∃ x2,σ'=[Vo (.ref p),Vo (.ref e),x2]/\Qj H H'/\∀ i' k',Xka (es.map Qx) i' k'->i<=i') ⟨_,rfl,Qj.refl _,λ_ _ _=>Uy _⟩ ?_ ?_
 ·rintro i σ' H' hi ⟨x2,rfl,s1,nw⟩
  have bx:i+1 < xs.length:=by lia
  have row:∀ n,n < xs.length->∃ u k r,xs[n]?=Vo (.ref u)/\H' u=Vo (.tup (k::r))/\ZJ k/\(es.map Qx)[n]?=Vo k:=λn hn=>by
   have hx:xs[n]?=Vo xs[n]:=IE hn
   have hd:es[n]?=Vo (es[n]'#[0]):=IE _
   have tx:=QD re hd hx;obtain⟨k,rr,ed,hk⟩:=am _ (Om hd);rw[ed]at tx;obtain⟨m,u,ws,_,eu,hu,eC⟩:=tx.tup;cases eC with
   | @cons _ k' _ rf r1 br =>
   obtain⟨_,rfl⟩:=r1.flat;exact⟨u,_,rf,by rw[hx,eu],s1 _ _ hu,hk,by rw[Ol,hd,ed];rfl⟩
  obtain⟨u0,k0,r0,g0,t0,wB,m0⟩:=row i #[0]
  obtain⟨u1,k1,r1,g1,t1,ol,m1⟩:=row (i+1) bx;walk_at "rd";refine⟨_,SqL.of (s1 _ _ he),.ref u0,by rw[show(1:Int)+(i:Int) - 1=((i:Nat):Int) by lia];exact Za g0,u0,rfl,_,SqT.of t0,k0,at0 _ _,_,SqL.of (s1 _ _ he),.ref u1,by rw[show(1:Int)+(i:Int)=((i+1:Nat):Int) by lia];exact Za g1,u1,rfl,_,SqT.of t1,k1,at0 _ _,k0,k1,rfl,Zz wB,Zz ol,λH2 s2=>⟨_,rfl,?_⟩⟩
  rcases hq with ⟨up,q⟩ | ⟨iw,kw,⟨w1,w2,w3⟩,qe⟩
  ·have lt:Pl.ltV k0 k1=true:=by
    obtain⟨a0,b0⟩:=List.getElem?_eq_some_iff.mp m0
    obtain⟨a1,b1⟩:=List.getElem?_eq_some_iff.mp m1
    have:=pairwise_iff_getElem.mp up i (i+1) a0 a1 #[0]
    rw[b0,b1]at this;exact this
   rw[lt,if_neg #[1]]
   exact⟨s1.trans s2,λi' k' h=>(Jsb up h).elim⟩
  ·have wk:i<=iw:=nw iw kw ⟨w1,w2,w3⟩
   have wC:Pl.ltV k0 k1=true->∀ i' k',Xka (es.map Qx) i' k'->i+1<=i':=λlt i' k' h=>by
    rcases Dh i i' with z | z
    ·lia
    ·have e:i'=i:=by have:=nw i' k' h;lia
     subst e;have h1:=h.1;rw[m1]at h1;cases h1;rw[h.2.2 _ m0]at lt;cases lt
   by_cases e:i=iw
   ·subst e
    rw[m1]at w1;cases w1;rw[w3 _ m0,if_pos rfl];exact⟨e,xs,_,.ref u1,rfl,rfl,SqL.of ((s1.trans s2) _ _ he),by rw[show(1:Int)+(i:Int)=((i+1:Nat):Int) by lia];exact Za g1,u1,_,_,k1,rfl,rfl,SqT.of (s2 _ _ t1),at0 _ _,rfl,show 1<=1000 by decide,λd hd=>qe _ d (s1.trans s2) hd⟩
   ·have lt:=w2 i #[0] _ _ m0 m1
    rw[lt,if_neg #[1]]
    exact⟨s1.trans s2,wC lt⟩
 ·rintro σ' H' ⟨x2,rfl,s1,nw⟩
  rcases hq with ⟨up,q⟩ | ⟨iw,kw,hw,qe⟩
  case inr =>
   have h1:=nw iw kw hw;have h2:=(List.getElem?_eq_some_iff.mp hw.1).1
   rw[UQ]at h2
   lia
  walk_at "rd";refine⟨p,d1,d2,st,c,0,e,false,xs,es,rfl,hS.same s1,s1 _ _ he,TDs.sameT re s1.t,am,lx,by lia,λr H2 bC c2 hs ys sx hr cW tys hd cH cP sub l2=>?_⟩
  have lh:=cH.length;have lt:=Vn tys;have lc:=YBa (lv:=QV) (l:=0) (es:=es);refine⟨p,d1,d2,bC,c2,r,hs,ys,0,rfl,by decide,cP,cW,tys,hd,by lia,by lia,λH3 bp c3 m above v fO b7 bJ l3 gW hm hv=>?_⟩
  refine q H3 bp c3 v ((s1.x _).trans (sx.trans fO)) b7 (λx hx=>bJ x (sub x hx)) #[0] ?_
  have fb:es=[]↔hs=[]:=by
   constructor
   ·intro z;exact length_eq_zero_iff.mp (by rw[lh,z];rfl)
   ·intro z
    rw[z]at lh;cases mE:es with
    | nil=>rfl
    | cons y gE=>exact absurd (length_eq_zero_iff.mp lh.symm) (ZBa (by rw[mE];simp))
  rcases hv with ⟨h1,h2⟩ | ⟨h1,k,n,ea,ev⟩
  ·exact .inl ⟨fb.mpr h1,h2⟩
  ·have mE:es≠[]:=λz=>h1 (fb.mp z)
   obtain⟨L,pt,eL⟩:=gW.part (cH.mono bJ);have wD:(L (m+1)).length=1:=by rw[eL,ea];rfl
   have m6:m<=6:=by
    rcases Dh m 7 with z | z
    ·lia
    ·have a:=pt.top JAd mE #[0]
     have b:=pt.two 7 #[0] #[0]
     lia
   exact .inr ⟨mE,m,L,k,n,m6,pt.chain wD,by rw[eL,ea],ev⟩
theorem ZIa{K:VD}{k:Nat}{fd:U0}{ps:List Str}:Qy P w K mg base CX k f fd ps (λ_ _ _ _=>False) :=
 ⟨λ_ _ _ _ h=>h.elim,λ_ _ _ _ _ _ _ _ _ _ _ _ _ h=>h.elim⟩
inductive Xs(aj:VD)(ob:Nat->Vh)(vs:List V)(H:Hp)(Q:VK)(E:XK):Prop
 | mk:∀ a l es,vs=[.ref a]->PgD ob H a l es->l≠0->es.length<=900->(∀ d∈es,∃ k n,d=Ju k n)->(∀ r H',Qj H H'->H r=Vp->H' r=Vo (.lst ((es.map Jqc).map V.int))->Q (.ref r) H')->Xs aj ob vs H Q E
seal PE PT PW PA PS PSs PI PG QM PGs PO in
theorem QNb(Z:Zs mg)(T:Tx K mg CT cs ob)(F:Fun K "under" "Twig.under" Yq f fd):Qy P w K mg base (CX1 P w) 1 f fd ["self"] (Xs K ob):=by
 refine F.ok1 QDb (λvs H Q E h=>?_) (λah A outer s H vs Q E hr h=>?_)
 ·walk_at "n"
 obtain⟨a,l,es,rfl,hP,hl,lx,hh,q⟩:=h;refine⟨_,(Qe (Qn (Zo ["self"] rfl (Ye (N:=["self"]) (dsc:=Qg Yq) rfl rfl (by decide +kernel)) (Xoa (Ze (pv 0) rfl)) (λ_ _ _ _ _=>Jj) (λ_ _ _ _ _=>(Qt (r:=ZPb K) Qw (pv 0) Qd (λ_ _=>rfl)))))),?_⟩
 refine Qk (σ:=[Vo (.ref a)]) rfl ?_
 walk_at "rd";obtain⟨tw,dx,t,ci,ha,ht⟩:=hP;obtain rfl:tw=true:=by rw[ci];exact decide_eq_true hl
 obtain⟨m,t',xs,em,e,aR,rt⟩:=ht.tup;cases e;have le:=Vn rt;have hx:∀ (i:Nat) x,xs[i]?=Vo x->∃ b k n,x=.ref b/\H b=Vo (.tup [k,.int n])/\(es.map Jqc)[i]?=Vo n:=λi x hi=>by
  have h2:=(List.getElem?_eq_some_iff.mp hi).1
  have hd:es[i]?=Vo (es[i]'#[0]):=IE _
  have tx:=QD rt hd hi;obtain⟨k,n,ed⟩:=hh _ (Om hd);rw[ed]at tx;obtain rfl:m=6:=by lia
  obtain⟨b,x1,x2,eb,hb,w1,w2⟩:=TD.pair_of tx;obtain⟨_,rfl⟩:=w2.flat;exact⟨b,x1,n,eb,hb,by rw[Ol,hd,ed];rfl⟩
 have gX:xs.map (Xgc H)=(es.map Jqc).map V.int:=by
  refine IG (by simp[le]) λi g1 g2=>?_
  have b1:i < xs.length:=by simpa using g1
  obtain⟨b,k,n,ex,hb,hn⟩:=hx i _ (IE b1)
  simp only[Dj];rw[ex,Yub hb];obtain⟨_,e⟩:=List.getElem?_eq_some_iff.mp hn
  simp only[Dj]at e;rw[e]
 refine ZH (T.ob_ 2 #[1]) #[1] rfl ha rfl ⟨t,rfl,⟨_,SqT.of aR⟩,Z0b xs (λ_=>true) (Xgc H) (SqT.of aR) (Q2 #[0]) (λi x H2 R _ _ r=>r) (λi x H2 R hi _ s r=>?_) λD H2 hD s2 hd=>?_⟩
 ·obtain⟨b,k,n,rfl,hb,_⟩:=hx i x hi
  walk_at "rd";exact⟨_,SqT.of (s _ _ hb),_,rfl,by rw[Yub hb]at r;exact r⟩
 ·exact q D H2 s2 hD (by rw[hd,filter_eq_self.mpr (λ_ _=>rfl),gX])
inductive JQ(aj:VD)(ob:Nat->Vh)(vs:List V)(H:Hp)(Q:VK)(E:XK):Prop
 | mk:∀ a,vs=[.ref a]->(∀ r H',Qj H H'->H r=Vp->H' r=Vo (.lst [])->Q (.ref r) H')->JQ aj ob vs H Q E
seal PE PT PW PA PS PSs PI PG QM PGs PO in
theorem ZVa(Z:Zs mg)(T:Tx K mg CT cs ob)(F:Fun K "under" "Page.under" XY f fd):Qy P w K mg base (CX1 P w) 1 f fd ["self"] (JQ K ob):=by
 refine F.ok1 QCb (λvs H Q E h=>?_) (λah A outer s H vs Q E hr h=>?_)
 ·walk_at "n"
 obtain⟨a,rfl,q⟩:=h;refine⟨_,(Qe (Qn (Zj Qb))),?_⟩
 refine Qk (σ:=[Vo (.ref a)]) rfl ?_
 walk_at "rd";exact⟨by decide,λp hp=>q p _ (Qi hp _) hp Qa⟩
inductive Jr(aj:Vg)(wE:Vb)(ob:Nat->Vh)(vs:List V)(H:Hp)(Q:VK)(E:XK):Prop
 | mk:∀ a o es,vs=[.ref a,o]->PgD ob H a 0 es->(∀ r H' xs,Qj H H'->H r=Vp->H' r=Vo (.lst xs)->Vm (λd v=>TD H' 6 d v) es xs->Q (.ref r) H')->Jr aj wE ob vs H Q E
seal PE PT PW PA PS PSs PI PG QM PGs PO in
theorem Qdb(Z:Zs mg)(T:Tx K mg CT cs ob)(F:Fun K "spread" "Leaf.spread" Xo f fd):Qy P w K mg base (CX1 P w) 1 f fd ["self","pages"] (Jr P w ob):=by
 refine F.ok1 X2a (λvs H Q E h=>?_) (λah A outer s H vs Q E hr h=>?_)
 ·walk_at "n"
 obtain⟨a,o,es,rfl,hP,q⟩:=h;refine⟨_,(Qe (Qn (QX Yl rfl (Z.list) XU (Qf (Ze (pv 0) rfl) Qb)))),?_⟩
 refine Qk (σ:=[Vo (.ref a),Vo o]) rfl ?_
 walk_at "rd";obtain⟨tw,dx,t,ci,ha,ht⟩:=hP;obtain rfl:tw=false:=by rw[ci];rfl
 obtain⟨m,t',xs,em,e,aR,rt⟩:=ht.tup;cases e;obtain rfl:m=6:=by lia
 exact ZH (T.ob_ 1 #[1]) #[1] rfl ha rfl ⟨t,rfl,xs,.inr (SqT.of aR),λp hp=>q p _ xs (Qi hp _) hp Qa (TDs.sameT rt (Qi hp _).t)⟩
theorem XIc:∀ {part:List Dt} {be:List (List Dt)},Vm (Xrc tbl 0) part be->be.flatten=part
 | [],_,.nil=>rfl
 | d::part,_,.cons (b:=x) r t=>by
  have r:x=[d]:=r;rw[LV,XIc t,r];rfl
theorem Zl{α β:Type}{F:α->β->Prop}:∀ {xs ys:List α} {us vs:List β},Vm F xs us->Vm F ys vs->Vm F (xs++ys) (us++vs)
 | _,_,_,_,.nil,h=>h
 | _,_,_,_,.cons r t,h=>.cons r (Zl t h)
inductive QGa(P:Vg)(w:Vb)(cs ob:Nat->Vh)(n:Nat)(vs:List V)(H:Hp)(Q:VK)(E:XK):Prop
 | mk:∀ a p d1 d2 st c,∀ l:Nat,∀ part es,vs=[.ref a,.ref p]->QK P w ob H p d1 d2 st c->PgD ob H a ((l+1:Nat):Int) part->l<=n->Ztc (QI st) (l+1) part es->es.length<=900->part.length<=900->(∀ r H' xs,Qj H H'->H r=Vp->H' r=Vo (.lst xs)->Vm (λd v=>TD H' 6 d v) es xs->Q (.ref r) H')->QGa P w cs ob n vs H Q E
def Js(P:Vg)(w:Vb)(cs ob:Nat->Vh):Nat->Sp
 | 0=>λ_ _ _ _=>False
 | n+1=>QGa P w cs ob n
seal PE PT PW PA PS PSs PI PG QM PGs PO in
theorem Qeb(Z:Zs mg)(T:Tx K mg CT cs ob)(rF:MeV P w K mg base 1 (ob 0) "under" (JQ K ob))(rG:MeV P w K mg base 1 (ob 1) "under" (JQ K ob))(oS:MeV P w K mg base 1 (ob 2) "under" (Xs K ob))(ZG:MeV P w K mg base 1 (ob 1) "spread" (Jr P w ob))(QL:MeV P w K mg base 5 (ob 3) "page" (Q7 P w cs ob)){n:Nat}(IH:MeV P w K mg base (5+n) (ob 2) "spread" (Js P w cs ob n))(F:Fun K "spread" "Page.spread" Xq f fd):Qy P w K mg base (CX1 P w) (5+n+1) f fd ["self","pages"] (Js P w cs ob (n+1)):=by
 refine F.ok1 YR (λvs H Q E h=>?_) (λah A outer s H vs Q E hr h=>?_)
 ·walk_at "n"
 obtain⟨a,p,d1,d2,st,c,l,part,es,rfl,hS,hP,hl,dg,lx,lp,q⟩:=h;refine⟨_,(Qc (Ql 2 YR.nd (Zj Qb))
  (Qc (Zw Ygd rfl (Jh (PE1.pe (Z9a (k:=(5+n)) (pv 0) hr rfl) Yo)) (QW (i:=3) YR.nd rfl (ON rfl)) (Qe (QZ (YF De Dk Dl Jaa (pv 2) (Qf (PE1.pe (Zsb (k:=(5+n)) (ZC (k:=(5+n)) (pv 1) hr rfl (Qf (pv 3) Qb)) hr rfl (Qf (pv 1) Qb)) Yo) Qb)))))
  (Qe (Qn (pv 2))))),?_⟩
 refine Qk (σ:=[Vo (.ref a),Vo (.ref p),Vp,Vp]) rfl ?_
 walk_at "rd";refine⟨by decide,λrp oU=>?_⟩
 have s0:=Qi oU (.lst []);have oV:upd H rp (.lst []) rp=Vo (.lst []):=Qa;generalize upd H rp (.lst [])=H0 at s0 oV ⊢;have rH:=hP.same s0;obtain⟨tw,dx,t,ci,ha,ht⟩:=id rH;obtain rfl:tw=true:=by rw[ci];exact decide_eq_true #[0]
 obtain⟨be,pr,cX⟩:=dg;have lpr:=Vn pr;have hds:∀ d∈part,∃ k n,d=Ju k n:=λd hd=>by
  obtain⟨i,hi⟩:=mem_iff_getElem?.mp hd;have hl:=(List.getElem?_eq_some_iff.mp hi).1
  obtain⟨k,n,_,_,e,_⟩:=QD pr hi (IE (show i < be.length by lia))
  exact⟨k,n,e⟩
 refine Yja rfl ha rfl (T.ob_ 2 #[1]).cl (oS.mono #[0]) ⟨a,_,part,rfl,rH,by lia,lp,hds,λu H1 s1 hu rJ=>?_⟩
 refine⟨u,rfl,⟨_,SqL.of rJ⟩,?_⟩
 have jP:=s0.trans s1;have bH:=hS.same jP;have ru:u≠rp:=λz=>by rw[z,oV]at hu;cases hu
 refine YG ((part.map Jqc).map V.int) (λi σ' H'=>∃ zs x3,σ'=[Vo (.ref a),Vo (.ref p),Vo (.ref rp),x3]/\Qj H H'/\H' u=Vo (.lst ((part.map Jqc).map V.int))/\H' rp=Vo (.lst zs)/\Vm (λd v=>TD H' 6 d v) (be.take i).flatten zs) ⟨[],_,rfl,jP,rJ,s1 _ _ oV,.nil⟩ (λi σ' H' _ ⟨_,_,_,_,h,_⟩=>SqL.of h) ?_ ?_
 ·rintro i x σ' H' hx ⟨zs,x3,rfl,s',mw,bO,tz⟩
  rw[Ol,Ol]at hx
  obtain⟨m,hm,rfl⟩:=Option.map_eq_some_iff.mp hx;obtain⟨d,hd,rfl⟩:=Option.map_eq_some_iff.mp hm;have hi:=(List.getElem?_eq_some_iff.mp hd).1
  have he:be[i]?=Vo (be[i]'#[0]):=IE _
  obtain⟨k,nn,aE,bT,rfl,gY,rK,ee⟩:=QD pr hd he;generalize be[i]'#[0]=aM at he ee
  have les:aM.length<=es.length:=by
   rw[cX];exact(sublist_flatten_of_mem (Om he)).length_le
  have lz:zs.length<=es.length:=by
   rw[<- Vn tz,cX];have:=congrArg (λl=>(List.flatten l).length) (Dm i be)
   simp only[LU,On]at this
   lia
  obtain⟨⟨n',wF,t'⟩,dw,en⟩:=mem_map.mp gY;injection en with en1 en2
  dsimp only at en1 en2;subst en1 en2;have e7:=hS.same s';obtain⟨gQ,aN⟩:=e7.obj;have fin:∀ (w:Vh) (H2:Hp) (xs:List V),Qj H' H2->H2 w=Vo (.lst xs)->Vm (λd v=>TD H2 6 d v) aM xs->H2 rp=Vo (.lst zs)/\(Qj H (upd H2 rp (.lst (zs++xs)))/\upd H2 rp (.lst (zs++xs)) u=Vo (.lst ((part.map Jqc).map V.int))/\Vm (λd v=>TD (upd H2 rp (.lst (zs++xs))) 6 d v) (be.take (i+1)).flatten (zs++xs)):=by
   intro w H2 xs s2 hw px;have cW:=s2 _ _ bO;have t5:Zt H2 (upd H2 rp (.lst (zs++xs))):=Jy cW;refine⟨cW,Jnc (s'.trans s2) oU,by rw[Qh ru];exact s2 _ _ mw,?_⟩
   rw[Iq,he];simp only[LU,Option.toList_some,LV,flatten_nil,U1];exact Zl (TDs.sameT tz (s2.t.trans t5)) (TDs.sameT px t5)
  walk_at "rd";refine⟨.inl ⟨rfl,_,SqL.of bO⟩,JY rfl aN rfl (T.ob_ 3 #[1]).cl (QL.mono #[0]) ⟨p,d1,d2,st,c,n',rfl,e7,λl2 fL t2 fc pg H2 s2 i9 bt=>?_,λz=>(z _ dw rfl).elim⟩⟩
  obtain⟨el,oW⟩:=JZ (hS.fun_ dw fc).1;subst el oW;have wG:aE.length<=900:=by
   obtain⟨l3,k3,r3,rL,e3,_,h3⟩:=hS.sh _ dw;rw[(JZ e3).2];simp;lia
  cases l with
  | zero =>
   obtain⟨gZ,fQ,t0,ck,bz,ja⟩:=id bt;obtain rfl:gZ=false:=by rw[ck];rfl
   have e':aM=aE:=by rw[ee];exact XIc rK
   refine⟨pg,rfl,_,fQ,_,bz,rfl,(T.ob_ 1 #[1]).cl,_,ZG.mono #[0],⟨pg,.ref p,aE,rfl,bt,λw H3 xs s3 hw fe px=>?_⟩⟩
   rw[<- e']at px;obtain⟨g1,g2,g3,g4⟩:=fin w H3 xs (s2.trans s3) fe px;have fR:=Vn px;exact⟨w,rfl,zs,g1,xs,.inl (SqL.of fe),VJ (show zs.length+xs.length<=5000 by lia) (by rw[UD];decide),g2,g3,_,Qa,g4⟩
  | succ l =>
   obtain⟨gZ,fQ,t0,ck,bz,ja⟩:=id bt;obtain rfl:gZ=true:=by rw[ck];exact decide_eq_true #[0]
   obtain⟨n0,rfl⟩:∃ n0,n=n0+1:=⟨n - 1,by lia⟩
   refine⟨pg,rfl,_,fQ,_,bz,rfl,(T.ob_ 2 #[1]).cl,_,IH,⟨pg,p,d1,d2,st,c,l,aE,aM,rfl,e7.same s2,bt,by lia,⟨bT,rK,ee⟩,by lia,wG,λw H3 xs s3 hw fe px=>?_⟩⟩
   obtain⟨g1,g2,g3,g4⟩:=fin w H3 xs (s2.trans s3) fe px;have fR:=Vn px;exact⟨w,rfl,zs,g1,xs,.inl (SqL.of fe),VJ (show zs.length+xs.length<=5000 by lia) (by rw[UD];decide),g2,g3,_,Qa,g4⟩
 ·rintro σ' H' ⟨zs,x3,rfl,s',mw,bO,tz⟩
  walk_at "rd";rw[Iu (by rw[UQ,UQ];lia),<- cX]at tz
  exact q rp H' zs s' oU bO tz
def Zq(st:StL)(es:List Dt)(v:V):Prop:=(es=[]/\v=.non)\/(es≠[]/\∃ top L k n,top<=6/\YK QV (QI st) es top L/\L (top+1)=[Ju k n]/\v=.int n)
inductive Jta(P:Vg)(w:Vb)(cs ob:Nat->Vh)(vs:List V)(H:Hp)(Q:VK)(E:XK):Prop
 | mk:∀ p d1 d2 st c v es,vs=[.ref p,v]->QK P w ob H p d1 d2 st c->Zq st es v->es.length<=900->(∀ r H' xs,Qj H H'->H r=Vp->H' r=Vo (.lst xs)->Vm (λd v=>TD H' 6 d v) es xs->Q (.ref r) H')->Jta P w cs ob vs H Q E
seal PE PT PW PA PS PSs PI PG QM PGs PO in
theorem Qsc(Z:Zs mg)(T:Tx K mg CT cs ob)(Xt:∀ n,MeV P w K mg base (5+n) (ob 2) "spread" (Js P w cs ob n))(ZG:MeV P w K mg base 1 (ob 1) "spread" (Jr P w ob))(QL:MeV P w K mg base 5 (ob 3) "page" (Q7 P w cs ob))(F:Fun K "rows_of" "rows_of" Ywa f fd):Qy P w K mg base CX0 14 f fd ["pages","root"] (Jta P w cs ob):=by
 refine F.ok Qic (λvs H Q E h=>?_) (λah A outer s H vs Q E hr h=>?_)
 ·walk_at "n"
 obtain⟨p,d1,d2,st,c,v,es,rfl,hS,hT,lx,q⟩:=h;refine⟨_,(Qc (QG (Qs Xsa (pv 1) YE (Qv _)) (Qe (Qn (Zj Qb))) Qr)
  (Qe (Qn (PE1.pe (Zsb (k:=13) (ZC (k:=13) (pv 0) hr rfl (Qf (pv 1) Qb)) hr rfl (Qf (pv 0) Qb)) Zy)))),?_⟩
 refine Qk (σ:=[Vo (.ref p),Vo v]) rfl ?_
 walk_at "rd"
 rcases hT with ⟨rfl,rfl⟩ | ⟨au,top,L,k,n,h6,ch,eL,rfl⟩
 ·rw[if_pos rfl]
  exact⟨by decide,λr hr=>q r _ [] (Qi hr _) hr Qa .nil⟩
 rw[if_neg (show ¬ V.int n=V.non from λz=>nomatch z)]
 obtain⟨part,gY,dg⟩:=ch.spread eL;obtain⟨⟨n',wF,t'⟩,dw,en⟩:=mem_map.mp gY;injection en with en1 en2
 dsimp only at en1 en2;subst en1 en2;obtain⟨dx,ho⟩:=hS.obj;refine JY rfl ho rfl (T.ob_ 3 #[1]).cl (QL.mono #[1]) ⟨p,d1,d2,st,c,n',rfl,hS,λl2 fL t2 fc pg H2 s2 i9 bt=>?_,λz=>(z _ dw rfl).elim⟩
 obtain⟨el,oW⟩:=JZ (hS.fun_ dw fc).1;subst el oW;have lp:part.length<=900:=by
  obtain⟨l3,k3,r3,rL,e3,_,h3⟩:=hS.sh _ dw;rw[(JZ e3).2];simp;lia
 cases top with
 | zero =>
  obtain⟨gZ,fQ,t0,ck,bz,ja⟩:=id bt;obtain rfl:gZ=false:=by rw[ck];rfl
  obtain⟨be,pr,ee⟩:=dg;rw[XIc pr]at ee;subst ee;exact⟨pg,rfl,_,fQ,_,bz,rfl,(T.ob_ 1 #[1]).cl,_,ZG.mono #[1],⟨pg,.ref p,_,rfl,bt,λw H3 xs s3 hw fe px=>q w H3 xs (s2.trans s3) (by
   cases e:H w with
   | none=>rfl
   | some o=>rw[s2 _ _ e]at hw;cases hw) fe px⟩⟩
 | succ l =>
  obtain⟨gZ,fQ,t0,ck,bz,ja⟩:=id bt;obtain rfl:gZ=true:=by rw[ck];exact decide_eq_true #[0]
  exact⟨pg,rfl,_,fQ,_,bz,rfl,(T.ob_ 2 #[1]).cl,_,(Xt 7).mono #[1],⟨pg,p,d1,d2,st,c,l,part,es,rfl,hS.same s2,bt,show l<=6 by lia,dg,lx,lp,λw H3 xs s3 hw fe px=>q w H3 xs (s2.trans s3) (by
   cases e:H w with
   | none=>rfl
   | some o=>rw[s2 _ _ e]at hw;cases hw) fe px⟩⟩
section
variable{P:Vg}{w:Vb}{K:VD}{ob:Nat->Vh}{H H':Hp}{p d1 d2:Vh}{st:StL}{c:Int}
theorem QK.off(h:QK P w ob H p d1 d2 st c){b:Vh}{o:HO}(hb:H b=Vo o)(h1:∀ C dx fs,o≠.ins C dx fs)(h2:∀ ac,o≠.dK ac)(h3:∀ φ,o≠.ext φ):b∉[p,d1,d2]:=λz=>by
 obtain⟨dx,eo⟩:=h.obj;simp only[Lv,Lw,or_false]at z
 rcases z with z | z | z
 ·rw[z,eo]at hb;injection hb with hb;exact h1 _ _ _ hb.symm
 ·rw[z,h.num]at hb;injection hb with hb;exact h2 _ hb.symm
 ·rw[z,h.tol]at hb;injection hb with hb;exact h3 _ hb.symm
theorem QK.lst(h:QK P w ob H p d1 d2 st c)(s:QO [p,d1,d2] H H'){b:Vh}{xs:List V}(hb:H b=Vo (.lst xs)):H' b=Vo (.lst xs):=s _ _ (h.off hb (by intros;intro z;cases z) (by intros;intro z;cases z) (by intros;intro z;cases z)) hb
theorem QK.seq(h:QK P w ob H p d1 d2 st c)(s:QO [p,d1,d2] H H'){b:Vh}{xs:List V}(hb:SqL K H b xs):SqL K H' b xs:=by
 rcases hb with hb | hb
 ·rcases hb with hb | ⟨o,hb⟩
  ·exact .inl (.inl (h.lst s hb))
  ·exact .inl (.inr ⟨o,s _ _ (h.off hb (by intros;intro z;cases z) (by intros;intro z;cases z) (by intros;intro z;cases z)) hb⟩)
 ·exact .inr hb
theorem QK.updL(h:QK P w ob H p d1 d2 st c){b:Vh}{xs ys:List V}(hb:H b=Vo (.lst xs)):QK P w ob (upd H b (.lst ys)) p d1 d2 st c:=by
 have n:=h.off hb (by intros;intro z;cases z) (by intros;intro z;cases z) (by intros;intro z;cases z)
 have go:∀ {a},a∈[p,d1,d2]->upd H b (.lst ys) a=H a:=λ{a} ha=>Qh (λz=>n (by rw[<- z];exact ha))
 exact h.keep (Jy hb) (go #[2]) (go #[2]) (go #[2])
end
theorem JCd(xs:List V)(k:Nat):XB xs Vp (Vo (k:Int))=xs.take k:=by
 have e1:=HT.ZNb xs.length xs.length k;have e2:HT.sIx xs.length 0 Vp=0:=rfl;unfold XB;rw[e1,e2,DM,Nat.sub_zero]
 rcases Nat.le_total k xs.length with h | h
 ·rw[Nat.min_eq_left h]
 ·rw[Nat.min_eq_right h,Iu (Uu _),Iu h]
theorem JDd(xs:List V)(k:Nat):XB xs (Vo (k:Int)) Vp=xs.drop k:=by
 have e1:=HT.ZNb xs.length 0 k;have e2:HT.sIx xs.length xs.length Vp=xs.length:=rfl;unfold XB;rw[e1,e2]
 rcases Nat.le_total k xs.length with h | h
 ·rw[Nat.min_eq_left h,Iu (by rw[Ov];exact Uu _)]
 ·rw[Nat.min_eq_right h,Do (Uu _),Do h];simp
theorem Xh{α β:Type}{F:α->β->Prop}:∀ {xs:List α} {us:List β} (n:Nat),Vm F xs us->Vm F (xs.take n) (us.take n)
 | _,_,0,_=>.nil
 | _,_,_+1,.nil=>.nil
 | _,_,n+1,.cons r t=>.cons r (Xh n t)
theorem Xi{α β:Type}{F:α->β->Prop}:∀ {xs:List α} {us:List β} (n:Nat),Vm F xs us->Vm F (xs.drop n) (us.drop n)
 | _,_,0,r=>r
 | _,_,_+1,.nil=>.nil
 | _,_,n+1,.cons _ t=>Xi n t
section
local macro_rules | `(tactic| obtain $p:rcasesPatMed := $e) => `(tactic| (refine dly λg hg => ?_; rcases $e:term with $p; all_goals (refine hg ?_; clear hg g)))
def ltK(a b:V):Prop:=ZJ a/\ZJ b/\Pl.ltV a b=true
theorem ltK.irr(a:V):¬ ltK a a:=λh=>by
 have h2:=h.2.2;rw[Pl.irr (Zz h.1)]at h2;exact Uh h2
theorem ltK.tr{a b c:V}(h:ltK a b)(h':ltK b c):ltK a c:=⟨h.1,h'.2.1,Pl.tr (Zz h.1) (Zz h.2.1) (Zz h'.2.1) h.2.2 h'.2.2⟩
theorem ltK.tri{a b:V}(ha:ZJ a)(hb:ZJ b):ltK a b\/a=b\/ltK b a:=by
 cases h1:Pl.ltV a b with
 | true=>exact .inl ⟨ha,hb,h1⟩
 | false =>
  cases h2:Pl.ltV b a with
  | true=>exact .inr (.inr ⟨hb,ha,h2⟩)
  | false=>exact .inr (.inl (Pl.tri (Zz ha) (Zz hb) h1 h2))
theorem XJc{a b:V}(ha:ZJ a)(hb:ZJ b):QLa a b=true:=by
 cases a with
 | int n=>cases b with
  | int m=>rfl
  | str z=>rfl
  | _=>exact hb.elim
 | str z=>cases b with
  | int m=>rfl
  | str z=>rfl
  | _=>exact hb.elim
 | _=>exact ha.elim
structure YId(H:Hp)(a:Vh)(xs:List V):Prop where
 at_:H a=Vo (.lst xs)
 pl:∀ v∈xs,Pl.QH v
 up:xs.Pairwise λa b=>Pl.ltV a b=true
 len:xs.length < 1000
inductive Zja(aj:VD)(vs:List V)(H:Hp)(Q:VK)(E:XK):Prop
 | mk:∀ (a:Vh) (xs:List V) (v:V),vs=[.ref a,v]->YId H a xs->Pl.QH v->(∀ H' (lo:Nat),Qj H H'->lo<=xs.length->(∀ (i:Nat) x,i < lo->xs[i]?=Vo x->Pl.ltV x v=true)->(∀ (i:Nat) x,lo<=i->xs[i]?=Vo x->Pl.ltV x v=false)->Q (.int lo) H')->Zja aj vs H Q E
seal PE PT PW PA PS PSs PI PG QM PGs PO in
theorem YWb(Z:Zs mg)(T:Tx K mg CT cs ob)(ZO:Cal P w K mg base 2 "before" ["one","other"] (Jf K))(F:Fun K "place_of" "place_of" Jka f fd):Qy P w K mg base CX0 3 f fd ["keys","key"] (Zja K):=by
 refine F.ok Je (λvs H Q E h=>?_) (λah A outer s H vs Q E hr h=>?_)
 ·walk_at "n"
 obtain⟨a,xs,v,rfl,hk,oX,q⟩:=h;refine⟨_,(Qc (Ql 2 Je.nd Qd)
  (Qc (Ql 3 Je.nd (Qq QJ rfl (Z.len) Zk (Qf (pv 0) Qb)))
  (Qc (Xma Dc (Qs QMa (pv 2) (pv 3) (Qv _)) (Qc (Ql 4 Je.nd (Qm ZP (Qm QQ (pv 2) (pv 3)) Qd))
  (Qe (QG (QR (Qo ZO hr (Qf (Qt Q0 (pv 0) (pv 4) (λ_ _=>rfl)) (Qf (pv 1) Qb))) (λ_=>rfl)) (Qe (Ql 2 Je.nd (Qm QQ (pv 4) Qd))) (Qe (Ql 3 Je.nd (pv 4)))))))
  (Qe (Qn (pv 2)))))),?_⟩
 refine Qk (σ:=[Vo (.ref a),Vo v,Vp,Vp,Vp]) rfl ?_
 walk_at "rd";refine⟨xs,.inl (SqL.of hk.at_),λm σ' H'=>∃ (lo hi:Nat) (x4:Option V),σ'=[Vo (.ref a),Vo v,Vo (.int lo),Vo (.int hi),x4]/\m=hi - lo/\lo<=hi/\hi<=xs.length/\Qj H H'/\(∀ (i:Nat) x,i < lo->xs[i]?=Vo x->Pl.ltV x v=true)/\∀ (i:Nat) x,hi<=i->xs[i]?=Vo x->Pl.ltV x v=false,
  ⟨_,0,xs.length,Vp,rfl,rfl,Uy _,Uu _,Qj.refl _,λi x h=>absurd h #[0],λi x h e=>absurd (List.getElem?_eq_some_iff.mp e).1 #[0]⟩,?_⟩
 rintro m σ' H' ⟨lo,hi,x4,rfl,rfl,h1,h2,sm,ha,hb⟩;walk_at "rd"
 by_cases ax:(lo:Int) < (hi:Int)
 ·rw[if_pos ax]
  have em:((lo:Int)+hi) / 2=(((lo+hi) / 2:Nat):Int):=by lia
  have hm:(lo+hi) / 2 < xs.length:=by lia
  obtain⟨y,hy⟩:∃ y,xs[(lo+hi) / 2]?=Vo y:=⟨_,IE hm⟩
  have py:Pl.QH y:=hk.pl y (Om hy);have rM:∀ (i j:Nat) x z,i < j->xs[i]?=Vo x->xs[j]?=Vo z->Pl.ltV x z=true:=λi j x z cK hx hz=>by
   obtain⟨bx,ex⟩:=List.getElem?_eq_some_iff.mp hx
   obtain⟨mh,ez⟩:=List.getElem?_eq_some_iff.mp hz
   rw[<- ex,<- ez];exact pairwise_iff_getElem.mp hk.up i j bx mh cK
  refine⟨λσ' H'=>∃ (gH bx:Nat) (x4:Option V),σ'=[Vo (.ref a),Vo v,Vo (.int gH),Vo (.int bx),x4]/\bx - gH < hi - lo/\gH<=bx/\bx<=xs.length/\Qj H H'/\(∀ (i:Nat) x,i < gH->xs[i]?=Vo x->Pl.ltV x v=true)/\∀ (i:Nat) x,bx<=i->xs[i]?=Vo x->Pl.ltV x v=false,
   λσ' H2 ⟨gH,bx,wH,e,e1,e2,e3,e4,e5,e6⟩=>⟨_,e1,gH,bx,wH,e,rfl,e2,e3,e4,e5,e6⟩,by unfold Z0a;decide,xs,SqL.of (sm _ _ hk.at_),y,by rw[em];exact Za hy,y,v,rfl,py,oX,λH2 s2=>⟨_,rfl,?_⟩⟩
  rw[em];cases hl:Pl.ltV y v with
  | true =>
   rw[if_pos rfl];refine⟨(lo+hi) / 2+1,hi,_,rfl,by lia,by lia,h2,sm.trans s2,λi x bx hx=>?_,hb⟩
   by_cases e:i=(lo+hi) / 2
   ·rw[e,hy]at hx;cases hx;exact hl
   ·have px:Pl.QH x:=hk.pl x (Om hx)
    exact Pl.tr px py oX (rM i _ x y #[0] hx hy) hl
  | false =>
   rw[if_neg Uh];refine⟨lo,(lo+hi) / 2,_,rfl,by lia,by lia,by lia,sm.trans s2,ha,λi x bx hx=>?_⟩
   by_cases e:i=(lo+hi) / 2
   ·rw[e,hy]at hx;cases hx;exact hl
   ·have px:Pl.QH x:=hk.pl x (Om hx)
    cases q:Pl.ltV x v with
    | false=>rfl
    | true=>rw[Pl.tr py px oX (rM _ i y x #[0] hy hx) q]at hl;cases hl
 ·rw[if_neg ax]
  have e:lo=hi:=by lia
  subst e;exact q _ lo sm h2 ha hb
def JDc(es:List Dt)(k:V)(aB:Int):Prop:=∃ a b,es=a++b/\aB=(a.length:Int) - 1/\(∀ x∈a,ltK (Qx x) k\/Qx x=k)/\∀ x∈b,ltK k (Qx x)
theorem QJa.key{d:Dt}(h:QJa d):ZJ (Qx d):=by
 obtain⟨k,r,rfl,hk⟩:=h;exact hk
theorem Q2d{lo:Nat}(am:∀ d∈es,QJa d)(hk:ZJ k)(up:UpR ltK es)(hl:lo<=es.length)(h1:∀ (i:Nat) x,i < lo->(es.map Qx)[i]?=Vo x->Pl.ltV x k=true)(h2:∀ (i:Nat) x,lo<=i->(es.map Qx)[i]?=Vo x->Pl.ltV x k=false) :
 (∀ d,es[lo]?=Vo d->Qx d=k->JDc es k lo)/\((∀ d,es[lo]?=Vo d->Qx d≠k)->JDc es k ((lo:Int) - 1)):=by
 have lo1:∀ x∈es.take lo,ltK (Qx x) k:=λx hx=>by
  obtain⟨i,hi,e⟩:=mem_iff_getElem.mp hx;rw[Og]at hi;rw[getElem_take]at e;refine⟨(am x (IT hx)).key,hk,h1 i _ #[0] ?_⟩
  rw[Ol,IE #[0],e];rfl
 have me:∀ (i:Nat) d,lo<=i->es[i]?=Vo d->¬ ltK (Qx d) k:=λi d hi hd z=>by
  have:=h2 i (Qx d) hi (by rw[Ol,hd];rfl)
  rw[z.2.2]at this;cases this
 constructor
 ·intro d hd e
  obtain⟨ax,ed⟩:=List.getElem?_eq_some_iff.mp hd
  have rN:es=es.take lo++d::es.drop (lo+1):=by rw[<- ed,DF,Dm]
  refine⟨es.take lo++[d],es.drop (lo+1),by rw[IY];exact rN,by simp;lia,λx hx=>?_,λx hx=>?_⟩
  ·rcases mem_append.mp hx with z | z
   ·exact .inl (lo1 x z)
   ·rw[mem_singleton.mp z];exact .inr e
  ·rw[rN]at up
   rw[<- e];exact(pairwise_cons.mp up.right).1 x hx
 ·intro hn
  refine⟨es.take lo,es.drop lo,(Dm _ _).symm,by simp;lia,λx hx=>.inl (lo1 x hx),?_⟩
  cases hd:es[lo]? with
  | none =>
   intro x hx;rw[Do (List.getElem?_eq_none_iff.mp hd)]at hx
   cases hx
  | some d =>
   obtain⟨ax,ed⟩:=List.getElem?_eq_some_iff.mp hd
   have fL:es.drop lo=d::es.drop (lo+1):=by rw[<- ed,DF]
   have kd:ltK k (Qx d):=by
    rcases ltK.tri hk (am d (Om hd)).key with z | z | z
    ·exact z
    ·exact absurd z.symm (hn d hd)
    ·exact absurd z (me lo d (Uu _) hd)
   have rO:UpR ltK (es.drop lo):=up.sublist (drop_sublist _ _);rw[fL]at rO ⊢;intro x hx
   rcases mem_cons.mp hx with z | z
   ·rw[z];exact kd
   ·exact ltK.tr kd ((pairwise_cons.mp rO).1 x z)
def YPa(H:Hp):V->V
 | .ref a=>match H a with
  | some (.tup (x::_))=>x
  | _=>.non
 | _=>.non
theorem J7a{r:List V}(h:H a=Vo (.tup (k::r))):YPa H (.ref a)=k:=by
 simp only[YPa,h]
theorem Zka(re:Vm (λd v=>TD H 6 d v) es xs)(am:∀ d∈es,QJa d){i:Nat}{x:V}(hx:xs[i]?=Vo x):∃ d b r,es[i]?=Vo d/\x=.ref b/\H b=Vo (.tup (Qx d::r))/\ZJ (Qx d)/\TD H 6 d x:=by
 have hi:=(List.getElem?_eq_some_iff.mp hx).1
 have le:=Vn re;have hd:es[i]?=Vo (es[i]'#[0]):=IE _
 have tx:=QD re hd hx;obtain⟨k,rr,ed,hk⟩:=am _ (Om hd);generalize es[i]'#[0]=d at hd tx ed
 subst ed;obtain⟨m,b,ws,_,eb,hb,eC⟩:=id tx.tup;cases eC with
 | cons r1 _ =>
  obtain⟨_,rfl⟩:=r1.flat;exact⟨_,b,_,hd,eb,hb,hk,tx⟩
inductive Xu(aj:VD)(vs:List V)(H:Hp)(Q:VK)(E:XK):Prop
 | mk:∀ t xs es k,vs=[.ref t,k]->H t=Vo (.tup xs)->Vm (λd v=>TD H 6 d v) es xs->(∀ d∈es,QJa d)->UpR ltK es->ZJ k->xs.length<=900->(∀ H' aB,Qj H H'->JDc es k aB->Q (.int aB) H')->Xu aj vs H Q E
seal PE PT PW PA PS PSs PI PG QM PGs PO in
theorem QOb(Z:Zs mg)(T:Tx K mg CT cs ob)(wI:Cal P w K mg base 3 "place_of" ["keys","key"] (Zja K))(F:Fun K "last_up_to" "last_up_to" Yt f fd):Qy P w K mg base CX0 4 f fd ["entries","key"] (Xu K):=by
 refine F.ok ZRa (λvs H Q E h=>?_) (λah A outer s H vs Q E hr h=>?_)
 ·walk_at "n"
 obtain⟨t,xs,es,k,rfl,ht,re,am,up,hk,lx,q⟩:=h;refine⟨_,(Qc (Ql 2 ZRa.nd (Qo wI hr (Qf (Zo ["entries","key","place"] rfl (Ye (N:=["entries","key","place"]) (dsc:=Qg Yt) rfl rfl (by decide +kernel)) (Xoa (pv 0)) (λ_ _ _ _ _=>Jj) (λ_ _ _ _ _=>(Qt (r:=ZPb K) Qw (pv 0) Qd (λ_ _=>rfl)))) (Qf (pv 1) Qb))))
  (Qc (QG (PW.pt (QKa (Qs QMa (pv 2) (Qq QJ rfl (Z.len) Zk (Qf (pv 0) Qb)) (Qv _)) (Y2 (Qs ZK (Qt Qw (Qt Qw (pv 0) (pv 2) (λ_ _=>rfl)) Qd (λ_ _=>rfl)) (pv 1) (Qv _))))) (Qe (Qn (pv 2))) Qr)
  (Qe (Qn (Qm Ji (pv 2) Qd))))),?_⟩
 refine Qk (σ:=[Vo (.ref t),Vo k,Vp]) rfl ?_
 walk_at "rd";have le:=Vn re;have gX:xs.map (YPa H)=es.map Qx:=by
  refine IG (by simp[le]) λi g1 g2=>?_
  have b1:i < xs.length:=by simpa using g1
  obtain⟨d,b,r,hd,ex,hb,_⟩:=Zka re am (IE b1)
  simp only[Dj];rw[ex,J7a hb];obtain⟨_,e⟩:=List.getElem?_eq_some_iff.mp hd
  rw[e]
 refine⟨⟨_,SqT.of ht⟩,Z0b xs (λ_=>true) (YPa H) (SqT.of ht) (Q2 #[0]) (λi x H2 R _ _ r=>r) (λi x H2 R hi _ s r=>?_) λD H2 hD s2 hd=>?_⟩
 ·obtain⟨d,b,r',_,rfl,hb,_⟩:=Zka re am hi
  walk_at "rd";exact⟨_,SqT.of (s _ _ hb),_,at0 _ _,by rw[J7a hb]at r;exact r⟩
 rw[filter_eq_self.mpr (λ_ _=>rfl),gX]at hd
 refine⟨D,es.map Qx,k,rfl,⟨hd,λv hv=>?_,?_,by rw[UQ];lia⟩,Zz hk,λH3 lo s3 hl h1 h2=>?_⟩
 ·obtain⟨d,hd,rfl⟩:=mem_map.mp hv
  exact Zz (am d hd).key
 ·rw[Dp]
  exact Dq (λ{a b} h=>h.2.2) up
 rw[UQ]at hl;obtain⟨u1,u2⟩:=Q2d am hk up hl h1 h2;have s:=s2.trans s3;walk_at "rd";refine⟨_,.inr (SqT.of (s _ _ ht)),Zm (λh=>?_) λh=>?_⟩
 ·obtain⟨d,b,r,hd,ex,hb,oY,_⟩:=Zka re am (IE (show lo < xs.length by lia))
  refine⟨_,SqT.of (s _ _ ht),.ref b,by rw[<- ex];exact Za (IE #[0]),b,rfl,_,SqT.of (s _ _ hb),_,at0 _ _,XJc oY hk,Zm (λe=>?_) λe=>?_⟩
  ·exact q _ _ s (u1 d hd e)
  ·exact q _ _ s (u2 λd' bo e'=>e (by rw[hd]at bo;cases bo;exact e'))
 ·exact q _ _ s (u2 λd hd=>by have:=(List.getElem?_eq_some_iff.mp hd).1;lia)
def Qra(d:Dt):Prop:=∃ k c,d=.t [.v k,.t c]/\ZJ k
theorem Qra.ent{d:Dt}(h:Qra d):QJa d:=by obtain⟨k,c,rfl,hk⟩:=h;exact⟨k,_,rfl,hk⟩
structure Q3d(es:List Dt):Prop where
 row:∀ d∈es,Qra d
 up:UpR ltK es
 len:es.length<=900
theorem Qfb:∀ {l:Nat} {M part:List Dt},Tow QV tbl l M part->(∀ d∈M,Qra d)->UpR ltK M->(∀ d∈part,QJa d)/\UpR ltK part/\part.length<=M.length/\(1<=l->∀ d∈part,HdD d)
 | 0,M,part,t,h1,h2=>by
  rw[show part=M from t]
  exact⟨λd hd=>(h1 d hd).ent,h2,Uu _,λz=>by lia⟩
 | l+1,M,part,t,h1,h2=>by
  cases M with
  | nil =>
   have:=t.fst.1.mp rfl;subst this;exact⟨(λd hd=>nomatch hd),Ik,Uu _,λ_ d hd=>nomatch hd⟩
  | cons e r =>
   have ks:=t.keys;have hd:∀ d∈part,HdD d:=λd hd=>by
    obtain⟨gs,a,b⟩:=t;obtain⟨p,hp,n,ed,_⟩:=b.mem hd;refine⟨_,n,ed,?_⟩
    have hk:Qx d∈Qx e::(r.map Qx).filter (λk=>decide (l < QV k)):=by rw[<- ks];exact Lx hd
    rw[ed,Xja]at hk
    rcases mem_cons.mp hk with z | z
    ·rw[z];exact(h1 e #[2]).ent.key
    ·obtain⟨x,hx,ex⟩:=mem_map.mp (mem_filter.mp z).1
     rw[<- ex];exact(h1 x (VO _ hx)).ent.key
   refine⟨λd h=>(hd d h).ent,?_,t.len0,λ_=>hd⟩
   have sub:(part.map Qx).Sublist ((e::r).map Qx):=by
    rw[ks,UO];exact List.Sublist.cons₂ _ filter_sublist
   have up:((e::r).map Qx).Pairwise ltK:=by rw[Dp];exact h2
   have:=up.sublist sub;rw[Dp]at this;exact this
theorem QK.find{p:Vh}{n:Int}{d:Dt}(h:QK P w ob H p d1 d2 st c)(hm:(n,d)∈QI st):∃ t,(n,d,t)∈st:=by
 obtain⟨⟨a,b,t⟩,m1,e1⟩:=mem_map.mp hm;injection e1 with x1 y1
 dsimp only at x1 y1;subst x1 y1;exact⟨t,m1⟩
theorem Q4d{cs:Nat->Vh}{p:Vh}{n l:Int}(hS:QK P w ob H p d1 d2 st c)(hm:(n,Zn l es)∈QI st)(q:∀ a H',Qj H H'->H a=Vp->PgD ob H' a l es->Q (.ref a) H'):Q7 P w cs ob [.ref p,.int n] H Q E:=by
 obtain⟨t,ht⟩:=hS.find hm;refine⟨p,d1,d2,st,c,n,rfl,hS,λl2 fL t2 fc a H' s ha pg=>?_,λz=>(z _ ht rfl).elim⟩
 obtain⟨el,ee⟩:=JZ (hS.fun_ ht fc).1;subst el ee;exact q a H' s ha pg
theorem Xla{K:VD}{CT:Vh}{cs:Nat->Vh}{kk mm:Nat}{σ:St}{p:Vh}{n l:Int}(T:Tx K mg CT cs ob)(M:MeV P w K mg base mm (ob 3) "page" (Q7 P w cs ob))(hk:mm<=kk)
 (hi:σ[i]?=Vo (Vo (.ref p))) (hj:σ[j]?=Vo (Vo (.int n))) (hS:QK P w ob H p d1 d2 st c) (hm:(n,Zn l es)∈QI st) (q:∀ a H',Qj H H'->H a=Vp->PgD ob H' a l es->Q (.ref a) H'):XPa P w K mg base kk "page" (Yi i) (Q9b (Yi j) Yca) σ H Q E:=by
 obtain⟨dx,ho⟩:=hS.obj;refine JY hi ho rfl (T.ob_ 3 #[1]).cl (M.mono hk) (XN hj ?_)
 simp only[Yca];exact Q4d hS hm q
theorem QK.off_pg{p C dx t:Vh}{l:Int}{tw:Bool}(h:QK P w ob H p d1 d2 st c)(ha:H a=Vo (.ins C dx (pgF tw l t))):a∉[p,d1,d2]:=λz=>by
 obtain⟨gQ,ho⟩:=h.obj;simp only[Lv,Lw,or_false]at z
 rcases z with z | z | z
 ·rw[z,ho]at ha
  injection ha with ha
  injection ha with _ _ hf
  have:=congrArg (UN ("level":Str)) hf;have e1:(stF d1 d2 c).lookup ("level":Str)=Vp:=rfl;have e2:(pgF tw l t).lookup ("level":Str)=Vo (.int l):=by cases tw <;> rfl
  rw[e1,e2]at this;cases this
 ·rw[z,h.num]at ha;cases ha
 ·rw[z,h.tol]at ha;cases ha
theorem QK.none_x{p b:Vh}{c':Int}(_:QK P w ob H p d1 d2 st c)(s:QO [p,d1,d2] H H')(h':QK P w ob H' p d1 d2 ai c')(hb:H' b=Vp):H b=Vp:=by
 cases e:H b with
 | none=>rfl
 | some o =>
  have hn:b∉[p,d1,d2]:=λz=>by
   obtain⟨gQ,ho⟩:=h'.obj;simp only[Lv,Lw,or_false]at z
   rcases z with z | z | z
   ·rw[z,ho]at hb;cases hb
   ·rw[z,h'.num]at hb;cases hb
   ·rw[z,h'.tol]at hb;cases hb
  rw[s _ _ hn e]at hb;cases hb
theorem PgD.few{p:Vh}{n l:Int}(hS:QK P w ob H p d1 d2 st c)(hm:(n,Zn l es)∈QI st):es.length<=900:=by
 obtain⟨t,ht⟩:=hS.find hm;obtain⟨l3,k3,r3,rL,e3,_,h3⟩:=hS.sh _ ht;rw[(JZ e3).2];simp;lia
structure Mid(R M:List Dt)(k:V):Prop where
 ex:∃ A B,R=A++(M++B)/\(∀ a∈A,ltK (Qx a) k)/\∀ b∈B,ltK k (Qx b)
theorem Mid.refl(R:List Dt)(k:V):Mid R R k:=⟨[],[],by simp,(λa h=>nomatch h),λb h=>nomatch h⟩
theorem Mid.trans{R N:List Dt}(h:Mid R M k)(h':Mid M N k):Mid R N k:=by
 obtain⟨A,B,e,h1,h2⟩:=h.ex;obtain⟨C,D,e',h3,h4⟩:=h'.ex;exact⟨A++C,D++B,by rw[e,e'];simp,λa ha=>(mem_append.mp ha).elim (h1 a) (h3 a),λb hb=>(mem_append.mp hb).elim (h4 b) (h2 b)⟩
theorem Mid.none_{R:List Dt}(h:Mid R M k)(n:∀ d∈M,Qx d≠k):∀ d∈R,Qx d≠k:=by
 obtain⟨A,B,e,h1,h2⟩:=h.ex;intro d hd z;rw[e]at hd
 rcases mem_append.mp hd with y | y
 ·have:=h1 d y;rw[z]at this;exact ltK.irr _ this
 ·rcases mem_append.mp y with y | y
  ·exact n d y z
  ·have:=h2 d y;rw[z]at this;exact ltK.irr _ this
theorem Mid.mem{R:List Dt}(h:Mid R M k){d:Dt}(hd:d∈M):d∈R:=by
 obtain⟨A,B,e,h1,h2⟩:=h.ex;rw[e];simp[hd]
theorem none_of{H0:Hp}{b:Vh}(s:Qj H0 H1)(h:H1 b=Vp):H0 b=Vp:=by
 cases e:H0 b with
 | none=>rfl
 | some o=>rw[s _ _ e]at h;cases h
theorem Q3d.mid{R:List Dt}(h:Q3d R)(m:Mid R M k):(∀ d∈M,Qra d)/\UpR ltK M/\M.length<=900:=by
 obtain⟨A,B,e,_,_⟩:=m.ex;have up:=h.up;have l:=h.len;rw[e]at up l;simp only[On]at l;exact⟨λd hd=>h.row d (m.mem hd),up.right.left,by lia⟩
inductive Zzc(tbl:List (Int×Dt))(l:Nat)(M a b:List Dt)(h:Dt)(k:V):Prop
 | mk (A N B:List Dt) (n:Int) (part:List Dt) (e:M=A++(N++B)) (tA:Tow QV tbl (l+1) A a) (tB:Tow QV tbl (l+1) B b) (eh:h=Ju (Q9 N) n) (hm:(n,Zn (l:Int) part)∈tbl) (tp:Tow QV tbl l N part) (hN:N≠[]) (c1:A=[]\/l+1<=QV (Q9 N)) (c2:B=[]\/l+1<=QV (Q9 B)) (h1:∀ a∈A,ltK (Qx a) k) (h2:∀ b∈B,ltK k (Qx b)):Zzc tbl l M a b h k
theorem XKc{l:Nat}{a b:List Dt}{h:Dt}(t:Tow QV tbl (l+1) M (a++h::b))(up:UpR ltK M)(le:ltK (Qx h) k\/Qx h=k)(hb:∀ x∈b,ltK k (Qx x)):Zzc tbl l M a b h k:=by
 obtain⟨A,N,B,n,part,e,tA,tN,tB,eh,hm,tp,hN,h1,h2⟩:=t.at_;rw[eh,Xja]at le;rw[e]at up;refine⟨A,N,B,n,part,e,tA,tB,eh,hm,tp,hN,h1,h2,?_,?_⟩
 ·have u1:UpR ltK (A++N):=by rw[<- IY]at up;exact up.left
  exact u1.ahead hN ltK.tr le
 ·refine up.right.behind ltK.tr ?_
  by_cases eB:B=[]
  ·exact .inl eB
  ·have wJ:=tB.ne eB
   cases b with
   | nil=>exact absurd rfl wJ
   | cons x r =>
    refine .inr ?_
    rw[<- tB.fst.2];exact hb x #[2]
structure ZEd(P:Vg)(w:Vb)(ob:Nat->Vh)(H H':Hp)(p d1 d2:Vh)(st ai:StL)(c':Int)(r:Vh)(l:Nat)(M hs:List Dt)(ys:List V):Prop where
 sx:QO [p,d1,d2] H H'
 fr:H r=Vp
 at_:H' r=Vo (.lst ys)
 ty:Vm (λd v=>TD H' 6 d v) hs ys
 hd:∀ d∈hs,HdD d
 tow:Tow QV (QI ai) (l+1) M hs
 sA:QK P w ob H' p d1 d2 ai c'
 sub:∀ x∈QI st,x∈QI ai
section
variable{P:Vg}{w:Vb}{ob:Nat->Vh}{H H0 H1:Hp}{p d1 d2 e:Vh}{st dX:StL}{c1:Int}{b:Bool}{xs:List V}{es M:List Dt}{l:Nat}{Q:VK}{E:XK}
theorem YXb(hS:QK P w ob H1 p d1 d2 dX c1)(he:HE b H1 e xs)(re:Vm (λd v=>TD H1 6 d v) es xs)(am:∀ d∈es,QJa d)(lx:xs.length<=900)(few:dX.length+xs.length<=16000000)(t:Tow QV (QI dX) l M es)(sx:QO [p,d1,d2] H H1)(sub:∀ x∈QI st,x∈QI dX)
 (q:∀ r H' ai c' hs ys,ZEd P w ob H H' p d1 d2 st ai c' r l M hs ys->ai.length<=dX.length+xs.length->Q (.ref r) H') (fr:∀ r,H1 r=Vp->H r=Vp):Jg P w ob [.ref p,.int l,.ref e] H1 Q E :=
 ⟨p,d1,d2,dX,c1,l,e,b,xs,es,rfl,hS,he,re,am,lx,few,λr H' ai c' hs ys cU hr cW tys hd cH cP cj l2=>q r H' ai c' hs ys ⟨sx.trans cU,fr r hr,cW,tys,hd,(t.mono cj).up cH,cP,λx hx=>cj x (sub x hx)⟩ l2⟩
end
theorem XLc{n:Nat}(h:n<=9000):n<=Vs:=VJ h (by rw[UD];decide)
theorem Jtb(v:V):[v].length<=1000:=show 1<=1000 by decide
theorem XMc{row:Dt}{aB:Int}(up:UpR ltK es)(h:JDc es k aB) :
 (∀ (i:Nat) d,aB=(i:Int)->es[i]?=Vo d->Qx d=k->XF ltK k row es (es.take i++row::es.drop (i+1)))/\((∀ (i:Nat) d,aB=(i:Int)->es[i]?=Vo d->Qx d≠k)->∃ j:Nat,aB+1=(j:Int)/\j<=es.length/\XF ltK k row es (es.take j++row::es.drop j)):=by
 obtain⟨a,b,rfl,rfl,h1,h2⟩:=h
 constructor
 ·intro i d hi hd e
  have la:i < a.length:=by lia
  rw[Oj la]at hd
  have ea:a=a.take i++[d]:=by
   have:a.drop i=[d]:=by
    rw[<- DF la,Do #[0]]
    rw[IE la]at hd
    injection hd with hd
    rw[hd]
   rw[<- this,Dm]
  have t1:(a++b).take i=a.take i:=by rw[take_append_of_le_length #[0]]
  have t2:(a++b).drop (i+1)=b:=by rw[show i+1=a.length by lia,drop_left]
  rw[t1,t2];refine⟨a.take i,b,rfl,.inr ⟨d,?_,e⟩,λx hx=>?_,h2⟩
  ·conv=>lhs;rw[ea]
   simp
  ·rw[ea,IY]at up
   rw[<- e];exact up.across hx #[2]
 ·intro hn
  refine⟨a.length,by lia,by simp,a,b,by simp,.inl rfl,λx hx=>?_,h2⟩
  rcases h1 x hx with z | z
  ·exact z
  ·exfalso
   obtain⟨ini,last,rfl⟩:=Yp (xs:=a) (λy=>by rw[y]at hx;cases hx)
   have hl:=hn ini.length last #[2] (by rw[Oj #[2]];simp)
   rcases mem_append.mp hx with y | y
   ·have u:=up.left.across y (mem_singleton.mpr rfl)
    rw[z]at u
    rcases h1 last #[2] with v | v
    ·exact ltK.irr _ (ltK.tr u v)
    ·exact hl v
   ·rw[mem_singleton.mp y]at z;exact hl z
theorem XF.len{row:Dt}{R R':List Dt}(h:XF ltK k row R R'):R'.length<=R.length+1:=by
 obtain⟨A,C,e,e2,_⟩:=h
 rcases e2 with e2 | ⟨o,e2,_⟩ <;> rw[e,e2] <;> simp <;> lia
inductive ZAc(tbl:List (Int×Dt))(l:Nat)(M part:List Dt)(k:V)(aB:Int):Prop
 | mk (ini:List Dt) (h:Dt) (bs A N B:List Dt) (n':Int) (aE:List Dt) (e1:part=ini++h::bs) (e2:(if (0:Int) > aB then (0:Int) else aB)=(ini.length:Int)) (e:M=A++(N++B)) (tA:Tow QV tbl (l+1) A ini) (tB:Tow QV tbl (l+1) B bs) (eh:h=Ju (Q9 N) n') (hm:(n',Zn (l:Int) aE)∈tbl) (tp:Tow QV tbl l N aE) (hN:N≠[]) (c2:B=[]\/l+1<=QV (Q9 B)) (h1:∀ a∈A,ltK (Qx a) k) (h2:∀ b∈B,ltK k (Qx b)) (c1:A=[]\/(l+1<=QV (Q9 N)/\(ltK (Q9 N) k\/Q9 N=k))):ZAc tbl l M part k aB
theorem XNc{l:Nat}{part:List Dt}{aB:Int}(t:Tow QV tbl (l+1) M part)(hM:M≠[])(up:UpR ltK M)(hu:JDc part k aB):ZAc tbl l M part k aB:=by
 obtain⟨a,b,rfl,rfl,h1,h2⟩:=hu
 by_cases ea:a=[]
 ·subst ea
  cases b with
  | nil=>exact absurd rfl (t.ne hM)
  | cons h bs =>
   obtain⟨A,N,B,n,aE,e,tA,tN,tB,eh,hm,tp,hN,c1,c2⟩:=(show Tow QV tbl (l+1) M ([]++h::bs) from t).at_
   have eA:A=[]:=tA.fst.1.mpr rfl;subst eA;rw[LL]at e;have kN:ltK k (Q9 N):=by have:=h2 h #[2];rw[eh]at this;exact this
   refine⟨[],h,bs,[],N,B,n,aE,rfl,rfl,by rw[e];rfl,tA,tB,eh,hm,tp,hN,c2,(λa ha=>nomatch ha),λb hb=>?_,.inl rfl⟩
   rw[e]at up;obtain⟨x,hx,ex⟩:=JXa hN;have:=up.across hx hb;rw[ex]at this;exact ltK.tr kN this
 ·obtain⟨ini,h,rfl⟩:=Yp ea
  rw[IY]at t;have le:=h1 h (Ux _ (mem_singleton.mpr rfl));obtain⟨A,N,B,n,aE,e,tA,tB,eh,hm,tp,hN,c1,c2,hA,hB⟩:=XKc t up le h2;refine⟨ini,h,b,A,N,B,n,aE,by rw[IY];rfl,?_,e,tA,tB,eh,hm,tp,hN,c2,hA,hB,?_⟩
  ·rw[On,OH,if_neg #[0]];lia
  ·rw[eh,Xja]at le
   exact c1.imp_right λz=>⟨z,le⟩
inductive Qsa(aj:VD)(vs:List V)(H:Hp)(Q:VK)(E:XK):Prop
 | mk:∀ l xs es,∀ aB:Int,∀ rb row k,vs=[.ref l,.int aB,.ref rb]->H l=Vo (.lst xs)->Vm (λd v=>TD H 6 d v) es xs->(∀ d∈es,Qra d)->UpR ltK es->TD H 6 row (.ref rb)->Qra row->Qx row=k->JDc es k aB->xs.length<=800->(∀ r H' ys aM,Qj H H'->H r=Vp->H' r=Vo (.lst ys)->Vm (λd v=>TD H' 6 d v) aM ys->XF ltK k row es aM->ys.length<=xs.length+1->Q (.ref r) H')->Qsa aj vs H Q E
seal PE PT PW PA PS PSs PI PG QM PGs PO in
theorem Jub(Z:Zs mg)(T:Tx K mg CT cs ob)(F:Fun K "rows_with" "rows_with" QXa f fd):Qy P w K mg base CX0 1 f fd ["rows","at","row"] (Qsa K):=by
 refine F.ok Jcb (λvs H Q E h=>?_) (λah A outer s H vs Q E hr h=>?_)
 ·walk_at "n"
 obtain⟨l,xs,es,aB,rb,row,k,rfl,hl,re,aw,up,tr,fg,ek,hu,lx,q⟩:=h;refine⟨_,(Qc (QG (PW.pt (QKa (Qs JXd (pv 1) Qd (Qv _)) (Y2 (Qs ZK (Qt Qw (Qt Q0 (pv 0) (pv 1) (λ_ _=>rfl)) Qd (λ_ _=>rfl)) (Qt Qw (pv 2) Qd (λ_ _=>rfl)) (Qv _))))) (Qe (Qn (Z8b (Qm QOa (Qm QOa (JW XS (pv 0) Y6 (Y7 (pv 1))) (Zj (Qf (pv 2) Qb))) (JW XS (pv 0) (Y7 (Qm QQ (pv 1) Qd)) Y6))))) Qr)
  (Qe (Qn (Z8b (Qm QOa (Qm QOa (JW XS (pv 0) Y6 (Y7 (Qm QQ (pv 1) Qd))) (Zj (Qf (pv 2) Qb))) (JW XS (pv 0) (Y7 (Qm QQ (pv 1) Qd)) Y6)))))),?_⟩
 refine Qk (σ:=[Vo (.ref l),Vo (.int aB),Vo (.ref rb)]) rfl ?_
 walk_at "rd";have le:=Vn re;obtain⟨u1,u2⟩:=XMc (row:=row) up hu;obtain⟨kr,cr,dy,oZ⟩:=fg;obtain⟨wK,v1,v2,e1,jb,w1,w2⟩:=TD.pair_of (dy ▸ tr);cases e1;obtain⟨_,jR⟩:=w1.flat;have jS:v1=k:=by rw[jR,<- ek,dy];rfl
 have skip:(∀ (i:Nat) d,aB=(i:Int)->es[i]?=Vo d->Qx d≠k)->∀ r H',Qj H H'->H r=Vp->H' r=Vo (.lst (XB xs Vp (Vo (aB+1))++[.ref rb]++XB xs (Vo (aB+1)) Vp))->Q (.ref r) H':=λhn r H' s hr g=>by
  obtain⟨j,ej,lj,pj⟩:=u2 hn;rw[ej,JCd,JDd,IY]at g;refine q r H' _ _ s hr g (Zl (Xh j (TDs.sameT re s.t)) (.cons (tr.same s) (Xi j (TDs.sameT re s.t)))) pj (by simp;lia)
 refine Zm (λh0=>?_) λh0=>?_
 ·obtain⟨i,ei⟩:∃ i:Nat,aB=(i:Int):=⟨aB.toNat,by lia⟩
  have hi:i < xs.length:=by
   obtain⟨a,b,e,ea,_⟩:=hu;have:es.length=a.length+b.length:=by rw[e,On]
   lia
  obtain⟨d,bb,r',hd,ex,hb,oY,_⟩:=Zka re (λd hd=>(aw d hd).ent) (IE hi)
  refine⟨xs,SqL.of hl,.ref bb,by rw[ei,<- ex];exact Za (IE hi),bb,rfl,_,SqT.of hb,_,at0 _ _,_,SqT.of jb,_,at0 _ _,XJc oY (by rw[jR];exact oZ),Zm (λe=>?_) λe=>?_⟩
  ·refine Z9b (ia:=0) (ic:=0) rfl rfl (λ_ _ q=>q) (λ_ _ q=>⟨_,_,rfl,rfl,q⟩) (λH0 R s0 r=>⟨X8a _,λp hp=>r p _ (Qi hp _) Qa⟩) hl hl #[0] #[0] (Jtb _) λr H' s hr g=>?_
   rw[ei,show(i:Int)+1=((i+1:Nat):Int) by lia,JCd,JDd,IY]at g
   exact q r H' _ _ s hr g (Zl (Xh i (TDs.sameT re s.t)) (.cons (tr.same s) (Xi (i+1) (TDs.sameT re s.t)))) (u1 i d ei hd (by rw[e,jS])) (by simp;lia)
  ·exact Z9b (ia:=0) (ic:=0) rfl rfl (λ_ _ q=>⟨_,_,rfl,rfl,q⟩) (λ_ _ q=>⟨_,_,rfl,rfl,q⟩) (λH0 R s0 r=>⟨X8a _,λp hp=>r p _ (Qi hp _) Qa⟩) hl hl #[0] #[0] (Jtb _) (skip λi' d' wL bo z=>e (by
    obtain rfl:i'=i:=by lia
    rw[hd]at bo;cases bo;rw[jS];exact z))
 ·exact Z9b (ia:=0) (ic:=0) rfl rfl (λ_ _ q=>⟨_,_,rfl,rfl,q⟩) (λ_ _ q=>⟨_,_,rfl,rfl,q⟩) (λH0 R s0 r=>⟨X8a _,λp hp=>r p _ (Qi hp _) Qa⟩) hl hl #[0] #[0] (Jtb _) (skip λi' d' wL bo z=>h0 #[0])
inductive Zla(P:Vg)(w:Vb)(_cs ob:Nat->Vh)(n:Nat)(vs:List V)(H:Hp)(Q:VK)(E:XK):Prop
 | mk:∀ p d1 d2 st c,∀ m:Int,∀ l:Nat,∀ part M rb row k,vs=[.ref p,.int m,.ref rb]->QK P w ob H p d1 d2 st c->(m,Zn (l:Int) part)∈QI st->Tow QV (QI st) l M part->M≠[]->(∀ d∈M,Qra d)->UpR ltK M->M.length<=800->l<=n->TD H 6 row (.ref rb)->Qra row->Qx row=k->st.length+(l+1) * (M.length+1)<=16000000->(∀ r H' ai c' M' hs ys,ZEd P w ob H H' p d1 d2 st ai c' r l M' hs ys->XF ltK k row M M'->ai.length<=st.length+(l+1) * (M.length+1)->Q (.ref r) H')->Zla P w _cs ob n vs H Q E
def JR(P:Vg)(w:Vb)(_cs ob:Nat->Vh):Nat->Sp
 | 0=>λ_ _ _ _=>False
 | n+1=>Zla P w _cs ob n
seal PE PT PW PA PS PSs PI PG QM PGs PO in
theorem QPb(Z:Zs mg)(T:Tx K mg CT cs ob)(wM:Cal P w K mg base 4 "last_up_to" ["entries","key"] (Xu K))(JD:Cal P w K mg base 5 "heads_of" ["pages","level","entries"] (Jg P w ob))(wN:Cal P w K mg base 1 "rows_with" ["rows","at","row"] (Qsa K))(QL:MeV P w K mg base 5 (ob 3) "page" (Q7 P w cs ob)){n:Nat}(IH:Cal P w K mg base (6+n) "heads_with" ["pages","number","row"] (JR P w cs ob n))(F:Fun K "heads_with" "heads_with" Qja f fd):Qy P w K mg base CX0 (6+n+1) f fd ["pages","number","row"] (JR P w cs ob (n+1)):=by
 refine F.ok ZE (λvs H Q E h=>?_) (λah A outer s H vs Q E hr h=>?_)
 ·walk_at "n"
 obtain⟨p,d1,d2,st,c,m,l,part,M,rb,row,k,rfl,hS,hm,tw,hM,aw,up,lM,hl,cQ,fg,ek,few,q⟩:=h;refine⟨_,(Qc (Ql 3 ZE.nd (PE1.pe (ZC (k:=(6+n)) (pv 0) hr rfl (Qf (pv 1) Qb)) Zy))
  (Qc (Ql 4 ZE.nd (Jl wM (k:=(6+n)) hr #[0] rfl (Qf (Ze (pv 3) rfl) (Qf (Qt Qw (pv 2) Qd (λ_ _=>rfl)) Qb))))
  (Qc (QG (Qs ZK (Ze (pv 3) rfl) Qd (Qv _)) (Qe (Qn (Jl JD (k:=(6+n)) hr #[0] rfl (Qf (pv 0) (Qf Qd (Qf (Jl wN (k:=(6+n)) hr #[0] rfl (Qf (QX Yl rfl (Z.list) XU (Qf (Ze (pv 3) rfl) Qb)) (Qf (pv 4) (Qf (pv 2) Qb)))) Qb)))))) Qr)
  (Qc (Ql 5 ZE.nd (Qq (Q8b rfl) rfl (Z.max) Ywc (Qf (pv 4) (Qf Qd Qb))))
  (Qc (Ql 6 ZE.nd (QX Yl rfl (Z.list) XU (Qf (Ze (pv 3) rfl) Qb)))
  (Qc (Ql 7 ZE.nd (Jl IH (k:=(6+n)) hr #[0] rfl (Qf (pv 0) (Qf (Qt Qw (Qt Q0 (pv 6) (pv 5) (λ_ _=>rfl)) Qd (λ_ _=>rfl)) (Qf (pv 2) Qb)))))
  (Qe (Qn (Jl JD (k:=(6+n)) hr #[0] rfl (Qf (pv 0) (Qf (Ze (pv 3) rfl) (Qf (Z8b (Qm QOa (Qm QOa (JW XS (pv 6) Y6 (Y7 (pv 5))) (pv 7)) (JW XS (pv 6) (Y7 (Qm QQ (pv 5) Qd)) Y6))) Qb)))))))))))),?_⟩
 refine Qk (σ:=[Vo (.ref p),Vo (.int m),Vo (.ref rb),Vp,Vp,Vp,Vp,Vp]) rfl ?_
 walk_at "rd";obtain⟨kr,cr,dy,oZ⟩:=id fg;obtain⟨wK,v1,v2,e1,jb,w1,w2⟩:=TD.pair_of (dy ▸ cQ);cases e1;obtain⟨_,jR⟩:=w1.flat;have jS:v1=k:=by rw[jR,<- ek,dy];rfl
 have hk:ZJ k:=by rw[<- jS,jR];exact oZ
 rw[jS]at jb;obtain⟨am,mF,lp,mD⟩:=Qfb tw aw up;refine Xla T QL #[0] rfl rfl hS hm λpg H1 s1 i9 bt=>?_
 obtain⟨hG,o5,t,ci,bz,ht⟩:=id bt;obtain⟨mm,t',xs,em,e,aR,rt⟩:=ht.tup;cases e;obtain rfl:mm=6:=by lia
 have fR:=Vn rt;refine Jsa T rfl bz ⟨_,SqT.of (s1 _ _ jb),k,at0 _ _,t,xs,part,k,rfl,aR,rt,am,mF,hk,by lia,λH2 aB s2 hu=>?_⟩
 have dz:=s2 _ _ bz;have aX:=s1.trans s2;have fF:=TDs.sameT rt s2.t;have cP:=hS.same aX;refine Zea T rfl dz ⟨rfl,Zm (λh0=>?_) λh0=>?_⟩
 ·injection h0 with h0
  obtain rfl:l=0:=by lia
  obtain rfl:hG=false:=by rw[ci];rfl
  have ep:part=M:=tw;subst ep;refine ZH (T.ob_ 1 #[1]) #[1] rfl dz rfl ⟨t,rfl,xs,.inr (SqT.of (s2 _ _ aR)),λl1 eV=>?_⟩
  have s3:=Qi eV (.lst xs);have g3:upd H2 l1 (.lst xs) l1=Vo (.lst xs):=Qa;generalize upd H2 l1 (.lst xs)=H3 at s3 g3 ⊢;have bK:=aX.trans s3;refine⟨l1,xs,part,aB,rb,row,k,rfl,g3,TDs.sameT fF s3.t,aw,up,cQ.same bK,fg,ek,hu,by lia,λr H4 ys aM s4 rP g4 wO bi lys=>?_⟩
  have hU:=bK.trans s4;refine YXb (l:=0) (b:=false) (hS.same hU) g4 wO (λd hd=>?_) #[0] #[0] (show Tow QV (QI st) 0 aM aM from rfl) (hU.x _) (λx h=>h) (λr5 H5 bX c5 wP wQ h5 l5=>q r5 H5 bX c5 aM wP wQ h5 bi (by simp;lia)) λr hr=>none_of hU hr
  rcases(bi.mem ltK.irr d).mp hd with z | z
  ·rw[z];exact fg.ent
  ·exact am d z.1
 ·have hl0:l≠0:=λz=>h0 (by rw[z];rfl)
  obtain⟨l',rfl⟩:∃ l',l=l'+1:=⟨l - 1,by lia⟩
  obtain rfl:hG=true:=by rw[ci];exact decide_eq_true #[0]
  obtain⟨ini,h,bs,A,N,B,n',aE,ep,ew,eM,tA,tB,eh,wR,wS,hN,cB,hA,hB,cA⟩:=XNc tw hM up hu;subst eh;have hx:part[ini.length]?=Vo (Ju (Q9 N) n'):=by rw[ep];simp
  have li:ini.length < xs.length:=by have:=(List.getElem?_eq_some_iff.mp hx).1;lia
  have lM:M.length=A.length+(N.length+B.length):=by rw[eM];simp
  have lpt:part.length=ini.length+(bs.length+1):=by rw[ep];simp
  have lA:=tA.len0;have lB:=tB.len0;refine⟨aB,0,⟨rfl,rfl⟩,?_⟩
  rw[ew];refine ZH (T.ob_ 2 #[1]) #[1] rfl dz rfl ⟨t,rfl,xs,.inr (SqT.of (s2 _ _ aR)),λl1 eV=>?_⟩
  have s3:=Qi eV (.lst xs);have g3:upd H2 l1 (.lst xs) l1=Vo (.lst xs):=Qa;generalize upd H2 l1 (.lst xs)=H3 at s3 g3 ⊢;have bK:=aX.trans s3;have rQ:=TDs.sameT fF s3.t;have tx:=QD rQ hx (IE li)
  obtain⟨bb,u1,u2,eb,hb,x1,x2⟩:=TD.pair_of tx;obtain⟨_,rfl⟩:=x2.flat;have bnd:(l'+1) * (N.length+1)<=(l'+1) * (M.length+1):=Nat.mul_le_mul_left _ #[0]
  have bnd2:(l'+1+1) * (M.length+1)=(l'+1) * (M.length+1)+(M.length+1):=Nat.succ_mul _ _;obtain⟨n0,rfl⟩:∃ n0,n=n0+1:=⟨n - 1,by lia⟩
  have o6:∀ d∈N,Qra d:=λd hd=>aw d (by rw[eM];simp[hd])
  have wT:UpR ltK N:=by rw[eM]at up;exact up.right.left
  refine⟨xs,SqL.of g3,.ref bb,by rw[<- eb];exact Za (IE li),bb,rfl,_,SqT.of hb,_,at1 _ _ _,p,d1,d2,st,c,n',l',aE,N,rb,row,k,rfl,hS.same bK,wR,wS,hN,o6,wT,by lia,by lia,cQ.same bK,fg,ek,by lia,λr7 H7 wU c7 N' wV wW h7 bi l7=>?_⟩
  have rR:QO [p,d1,d2] H H7:=(bK.x _).trans h7.sx;have b7:=hS.same bK;have wX:=XG b7 h7.sx;have o7:=h7.sx _ _ (b7.off_pg (s3 _ _ dz)) (s3 _ _ dz);have g7:=b7.lst h7.sx g3;have wY:=TDs.sameT rQ wX;refine ZH (T.ob_ 2 #[1]) #[1] rfl o7 rfl ?_
  walk_at "rd";have ly7:wW.length<=N.length+1:=by
   have h1:=Vn h7.ty;have h2:=h7.tow.len0;have h3:=XF.len bi
   lia
  refine Z9b (ia:=6) (ic:=6) rfl rfl (λ_ _ q=>q) (λ_ _ q=>⟨_,_,rfl,rfl,q⟩) (λH0 R s0 r=>r _ _ (Qj.refl _) (s0 _ _ h7.at_)) g7 g7 #[0] #[0] #[0] λr8 H8 s8 rS g8=>?_
  rw[show(ini.length:Int)+1=((ini.length+1:Nat):Int) by lia,JCd,JDd]at g8
  have rT:=TDs.sameT wY s8.t;have ei:part.take ini.length=ini:=by rw[ep];simp
  have wZ:part.drop (ini.length+1)=bs:=by rw[ep];simp
  have ri:=Xh ini.length rT;have rV:=Xi (ini.length+1) rT;rw[ei]at ri;rw[wZ]at rV;have jT:=Zl (Zl ri (TDs.sameT h7.ty s8.t)) rV;have lr:=Vn jT;simp only[On]at lr;have o8:Tow QV (QI wU) (l'+1) (A++(N'++B)) (ini++wV++bs):=by
   rw[IY];refine(tA.mono h7.sub).mid h7.tow (tB.mono h7.sub) ?_ cB
   rcases cA with z | ⟨z1,z2⟩
   ·exact .inl z
   ·refine .inr (.inr ?_)
    rw[bi.fst ltK.irr ltK.tr ek hN z2];exact z1
  refine YXb (b:=false) (h7.sA.same s8) g8 jT (λd hd=>?_) (by rw[<- Vn jT];simp only[On];have:=Vn h7.ty;lia) (by rw[<- Vn jT];simp only[On];have:=Vn h7.ty;lia) o8 (rR.trans (s8.x _)) h7.sub (λr9 H9 w6 c9 w9 xa h9 l9=>?_) λr hr=>?_
  ·rcases mem_append.mp hd with z | z
   ·rcases mem_append.mp z with z | z
    ·exact am d (by rw[ep];simp[z])
    ·exact(h7.hd d z).ent
   ·exact am d (by rw[ep];simp[z])
  ·refine q r9 H9 w6 c9 (A++(N'++B)) w9 xa h9 (by rw[eM];exact bi.mid hA hB) ?_
   rw[<- Vn jT]at l9;simp only[On]at l9;have:=Vn h7.ty
   lia
  ·exact hS.none_x rR h7.sA (none_of s8 hr)
theorem XOc{R:List Dt}{top:Nat}{n:Int}(r:Z5b QV tbl R top n):top<=6:=by
 rcases Dh 6 top with h | h
 ·exfalso
  obtain⟨k,t⟩:=r.one;obtain⟨L,h0,h1,h2⟩:=t.levels;have t7:=Jda h0 h2 7 #[0]
  have l7:=r.two 7 _ #[0] #[0] t7
  rw[t7.many (t.ne' #[2])]at l7
  have:((R.map Qx).tail.filter λk=>decide (6 < QV k))=[]:=filter_eq_nil_iff.mpr λk _ z=>by
   have:=JAd k;have:=of_decide_eq_true z
   lia
  rw[this]at l7;simp at l7
 ·lia
theorem Zq.root{p:Vh}{n:Int}(hS:QK P w ob H p d1 d2 st c)(h:Zq st es (.int n)):∃ top,top<=6/\Z5b QV (QI st) es top n:=by
 rcases h with ⟨_,e⟩ | ⟨au,top,L,k,n',h6,ch,eL,e⟩
 ·cases e
 ·cases e;exact⟨top,h6,ch.toRoot hS.fn eL⟩
theorem JEc{top:Nat}{n:Int}(r:Z5b QV (QI st) es top n):Zq st es (.int n):=by
 obtain⟨L,k,ch,e⟩:=r.chain;obtain⟨part,_,_,_,au⟩:=r.page;exact .inr ⟨au,top,L,k,n,XOc r,ch,e,rfl⟩
theorem Ups.root{R hs:List Dt}{m:Nat}{n:Int}(f:Fn tbl)(t:Tow QV tbl (j+1) R hs)(two:∀ i gs,1<=i->i<=j->Tow QV tbl i R gs->1 < gs.length)(u:Ups QV tbl j hs m [Ju k n]):Z5b QV tbl R m n:=by
 have key:∀ {m above},Ups QV tbl j hs m above->Tow QV tbl (m+1) R above/\∀ i gs,1<=i->i<=m->Tow QV tbl i R gs->1 < gs.length:=by
  intro m above u
  induction u with
  | refl=>exact⟨t,two⟩
  | @snoc m' xb fw u h1 h2 ih =>
   refine⟨⟨xb,ih.1,h2⟩,λi gs i1 i2 ti=>?_⟩
   by_cases e:i=m'+1
   ·subst e;rw[ti.det f ih.1];exact h1
   ·exact ih.2 i gs i1 #[0] ti
 exact⟨⟨k,(key u).1⟩,(key u).2⟩
inductive Quc(P:Vg)(w:Vb)(_cs ob:Nat->Vh)(vs:List V)(H:Hp)(Q:VK)(E:XK):Prop
 | mk:∀ p d1 d2 st c v k cv cd es,vs=[.ref p,v,k,cv]->QK P w ob H p d1 d2 st c->Zq st es v->Q3d es->es.length<=700->ZJ k->TD H 5 (.t cd) cv->st.length+16 * (es.length+2)<=16000000->(∀ H' ai c' v' aM,QO [p,d1,d2] H H'->QK P w ob H' p d1 d2 ai c'->(∀ x∈QI st,x∈QI ai)->ai.length<=st.length+16 * (es.length+2)->XF ltK k (.t [.v k,.t cd]) es aM->Zq ai aM v'->Q v' H')->Quc P w _cs ob vs H Q E
seal PE PT PW PA PS PSs PI PG QM PGs PO in
theorem JEd(Z:Zs mg)(T:Tx K mg CT cs ob)(oQ:Cal P w K mg base 6 "crowned" ["pages","level","heads"] (Qpa P w ob))(o9:Jgc P w K mg base 7 "built" ["pages","rows"] (J4a P w cs ob))(xc:∀ n,Cal P w K mg base (6+n) "heads_with" ["pages","number","row"] (JR P w cs ob n))(ZS:MeV P w K mg base 4 (ob 3) "card" (JP P w cs ob))(F:Fun K "put" "put" Xzc f fd):Qy P w K mg base (CX1 P w) 15 f fd ["pages","root","key","cells"] (Quc P w cs ob):=by
 refine F.ok1 Qjc (λvs H Q E h=>?_) (λah A outer s H vs Q E hr h=>?_)
 ·walk_at "n"
 obtain⟨p,d1,d2,st,c,v,k,cv,cd,es,rfl,hS,hT,hR,l7,hk,tc,few,q⟩:=h;refine⟨_,(Qc (Ql 4 Qjc.nd (Zf (Qf (pv 2) (Qf (pv 3) Qb))))
  (Qc (QG (Qs Xsa (pv 1) YE (Qv _)) (Qe (Qn (PE1.pe (XZa o9 hr (Qf (pv 0) (Qf (Zj (Qf (pv 4) Qb)) Qb))) Yo))) Qr)
  (Qc (Ql 5 Qjc.nd (Qt Qw (PE1.pe (ZC (k:=14) (pv 0) hr rfl (Qf (pv 1) Qb)) Yo) Qd (λ_ _=>rfl)))
  (Qe (Qn (Qo oQ hr (Qf (pv 0) (Qf (pv 5) (Qf (Jl (xc 8) (k:=14) hr #[1] rfl (Qf (pv 0) (Qf (pv 1) (Qf (pv 4) Qb)))) Qb))))))))),?_⟩
 refine Qk (σ:=[Vo (.ref p),Vo v,Vo k,Vo cv,Vp,Vp]) rfl ?_
 walk_at "rd";refine⟨ZX,λrb jb=>?_⟩
 have s1:=Qi jb (.tup [k,cv]);have g1:upd H rb (.tup [k,cv]) rb=Vo (.tup [k,cv]):=Qa;generalize upd H rb (.tup [k,cv])=H1 at s1 g1 ⊢;have cQ:TD H1 6 (.t [.v k,.t cd]) (.ref rb):=TD.pair g1 (.ofV (Zyc hk)) (tc.same s1);have aw:Qra (.t [.v k,.t cd]):=⟨k,cd,rfl,hk⟩;have bH:=hS.same s1;refine Zm (λhv=>?_) λhv=>?_
 ·subst hv
  obtain rfl:es=[]:=by
   rcases hT with ⟨e,_⟩ | ⟨_,_,_,_,_,_,_,_,e⟩
   ·exact e
   ·cases e
  refine⟨X8a _,λl1 eV=>?_⟩
  have s2:=Qi eV (.lst [.ref rb]);have g2:upd H1 l1 (.lst [.ref rb]) l1=Vo (.lst [.ref rb]):=Qa;generalize upd H1 l1 (.lst [.ref rb])=H2 at s2 g2 ⊢;simp only[OP]at few;refine⟨p,d1,d2,st,c,l1,_,[.t [.v k,.t cd]],rfl,hS.same (s1.trans s2),g2,.cons (cQ.same s2) .nil,(λd hd=>by rw[mem_singleton.mp hd];exact aw.ent),by simp,by simp;lia,.inl ⟨pairwise_singleton _ _,λH3 bp c3 v3 fO b7 bJ l3 xf=>?_⟩⟩
  exact q H3 bp c3 v3 [.t [.v k,.t cd]] (((s1.trans s2).x _).trans fO) b7 bJ (by simp at l3 ⊢;lia) ⟨[],[],rfl,.inl rfl,(λa ha=>nomatch ha),λa ha=>nomatch ha⟩ xf
 ·obtain⟨n,rfl⟩:∃ n,v=.int n:=by
   rcases hT with ⟨_,e⟩ | ⟨_,_,_,_,n,_,_,_,e⟩
   ·exact absurd e hv
   ·exact⟨n,e⟩
  obtain⟨top,h6,rt⟩:=hT.root hS;obtain⟨part,hm,tp,_,au⟩:=rt.page;obtain⟨dx,ho⟩:=bH.obj;obtain⟨t0,ja⟩:=hS.find hm;refine JY rfl ho rfl (T.ob_ 3 #[1]).cl (ZS.mono #[1]) ⟨p,d1,d2,st,c,n,rfl,bH,λl2 k2 r2 fL t2 fc a H2 s2 ha xg=>?_,λz=>(z _ ja rfl).elim⟩
  obtain⟨el,_⟩:=JZ (hS.fun_ ja fc).1;subst el;obtain⟨a',u1,u2,ea,bV,x1,x2⟩:=TD.pair_of xg;cases ea;obtain⟨_,rfl⟩:=x1.flat;have aX:=s1.trans s2;have b1:(top+1) * (es.length+1)<=7 * (es.length+1):=Di _ #[0]
  refine⟨a,rfl,_,SqT.of bV,_,at0 _ _,p,d1,d2,st,c,n,top,part,es,rb,_,k,rfl,hS.same aX,hm,tp,au,hR.row,hR.up,by lia,(show top<=7 by lia),cQ.same s2,aw,rfl,by lia,λr3 H3 bp c3 aM l8 xh h3 bi l3=>?_⟩
  have le':=XF.len bi;have l0:=h3.tow.len0;have ly:=Vn h3.ty;have pd:aM≠[]:=λz=>by
   have:=(bi.mem ltK.irr (.t [.v k,.t cd])).mpr (.inl rfl);rw[z]at this;cases this
  have ph:=h3.tow.ne pd;refine⟨p,d1,d2,bp,c3,r3,l8,xh,top,rfl,h6,h3.sA,h3.at_,h3.ty,h3.hd,by lia,by lia,λH4 gC c4 m above v4 gR rW jU l4 gW hm7 xk=>?_⟩
  rcases xk with ⟨z,_⟩ | ⟨_,k4,n4,rfl,rfl⟩
  ·exact absurd z ph
  refine q H4 gC c4 (.int n4) aM ((aX.x _).trans (h3.sx.trans gR)) rW (λx hx=>jU x (h3.sub x hx)) #[0] bi (JEc (Ups.root rW.fn (h3.tow.mono jU) (λi gs i1 i2 ti=>?_) gW))
  obtain⟨k0,xl⟩:=rt.one;obtain⟨L,q0,q1,q2⟩:=xl.levels;have rX:=Jda q0 q2 i #[0]
  have two:=rt.two i _ i1 i2 rX;obtain⟨i',rfl⟩:∃ i',i=i'+1:=⟨i - 1,by lia⟩
  have:=rX.more ti au (bi.sub rfl)
  lia
end
def beh(hi k:V):Bool:=if hi=.non then false else Pl.ltV hi k
def wi(lo hi k:V):Bool:=!Pl.ltV k lo && !beh hi k
def Zma(v:V):Prop:=v=.non\/ZJ v
theorem Zma.pl(h:Zma v):Pl.QH v:=by
 rcases h with h | h
 ·rw[h];exact trivial
 ·exact Zz h
theorem XPc{a b:V}(hh:Zma hi)(ha:ZJ a)(hb:ZJ b)(h:beh hi a=true)(le:a=b\/ltK a b):beh hi b=true:=by
 rcases le with le | le
 ·rw[<- le];exact h
 unfold beh at h ⊢
 by_cases e:hi=.non
 ·rw[if_pos e]at h;exact absurd h Uh
 ·rw[if_neg e]at h ⊢
  exact Pl.tr hh.pl (Zz ha) (Zz hb) h le.2.2
abbrev Pg:=Int×Nat×List Dt
def lk(lo hi:V)(e:Dt)(r:List Dt):Bool:=!beh hi (Qx e) && (r.isEmpty || Pl.ltV lo (Q9 r))
def YQa(lo hi:V)(Lk:Int->List Pg->Prop):List Dt->List Pg->Prop
 | [],g=>g=[]
 | e::r,g=>∃ p q,g=p++q/\((lk lo hi e r=true/\∃ k n,e=Ju k n/\Lk n p)\/(lk lo hi e r=false/\p=[]))/\YQa lo hi Lk r q
def Qub(tbl:List (Int×Dt))(lo hi:V):Nat->Int->List Pg->Prop
 | 0,m,g=>∃ es,(m,Zn ((0:Nat):Int) es)∈tbl/\(∀ d∈es,Qra d)/\g=[(m,0,es)]
 | l+1,m,g=>∃ es q,(m,Zn ((l+1:Nat):Int) es)∈tbl/\(∀ d∈es,HdD d)/\g=(m,l+1,es)::q/\YQa lo hi (Qub tbl lo hi l) es q
def Zzb(x:Pg):List Dt:=if x.2.1=0 then x.2.2 else []
def ZV(g:List Pg):List Dt:=g.flatMap Zzb
theorem XH(g h:List Pg):ZV (g++h)=ZV g++ZV h:=by unfold ZV;rw[flatMap_append]
theorem Qvc(x:Pg)(g:List Pg):ZV (x::g)=Zzb x++ZV g:=rfl
theorem YQa.mem{Lk:Int->List Pg->Prop}{F:Pg->Prop}(h:∀ n p,Lk n p->∀ x∈p,F x):∀ {es:List Dt} {g:List Pg},YQa lo hi Lk es g->∀ x∈g,F x
 | [],g,e,x,hx=>by rw[show g=[] from e]at hx;cases hx
 | e::r,g,⟨p,q,eg,hp,hq⟩,x,hx=>by
  rw[eg]at hx
  rcases mem_append.mp hx with z | z
  ·rcases hp with ⟨_,k,n,_,hp⟩ | ⟨_,hp⟩
   ·exact h n p hp x z
   ·rw[hp]at z;cases z
  ·exact YQa.mem h hq x z
theorem Qub.mem:∀ {l:Nat} {m:Int} {g:List Pg},Qub tbl lo hi l m g->∀ x∈g,(x.1,Zn ((x.2.1:Nat):Int) x.2.2)∈tbl/\(x.2.1=0->∀ d∈x.2.2,Qra d)
 | 0,m,g,⟨es,hm,hr,e⟩,x,hx=>by
  rw[e]at hx;rw[mem_singleton.mp hx];exact⟨hm,λ_=>hr⟩
 | l+1,m,g,⟨es,q,hm,hr,e,hq⟩,x,hx=>by
  rw[e]at hx
  rcases mem_cons.mp hx with z | z
  ·rw[z];exact⟨hm,λz=>absurd z (Nat.succ_ne_zero l)⟩
  ·exact YQa.mem (λn p hp=>hp.mem) hq x z
theorem XQc(aw:∀ d∈M,Qra d)(up:UpR ltK M){d:Dt}(hd:d∈M):ZJ (Q9 M)/\(Q9 M=Qx d\/ltK (Q9 M) (Qx d)):=by
 match M,aw,up,hd with
 | x::r,aw,up,hd =>
  have e:Q9 (x::r)=Qx x:=rfl;rw[e];refine⟨(aw x VN).ent.key,?_⟩
  rcases mem_cons.mp hd with z | z
  ·rw[z];exact .inl rfl
  ·exact .inr ((pairwise_cons.mp up).1 d z)
theorem JFd{B r:List Dt}{n:Int}(bw:Zma lo)(bL:Zma hi)(aw:∀ d∈M++B,Qra d)(up:UpR ltK (M++B))(ek:k=Q9 M)(er:Q9 r=Q9 B)(eB:r=[]↔B=[])(h:lk lo hi (Ju k n) r=false):M.filter (λd=>wi lo hi (Qx d))=[]:=by
 refine filter_eq_nil_iff.mpr λd hd=>?_
 have rY:∀ d∈M,Qra d:=λd hd=>aw d (VS _ hd)
 have kd:=(rY d hd).ent.key;obtain⟨kf,le⟩:=XQc rY up.left hd;unfold lk at h;rw[Xja,ek]at h;unfold wi;cases h1:beh hi (Q9 M) with
 | true=>rw[XPc bL kf kd h1 le];simp
 | false =>
  rw[h1]at h;cases r with
  | nil=>simp at h
  | cons x r =>
   have hB:B≠[]:=λz=>nomatch eB.mpr z
   obtain⟨y,hy,ey⟩:=JXa hB;have lt:=up.across hd hy;rw[ey]at lt;have h2:Pl.ltV lo (Q9 B)=false:=by rw[<- er];simpa using h
   rcases Pl.neg (Zz lt.1) bw.pl (Zz lt.2.1) lt.2.2 with z | z
   ·rw[z];simp
   ·rw[h2]at z;exact absurd z Uh
theorem YZb(bw:Zma lo)(bL:Zma hi):∀ (l:Nat) {M part:List Dt} {m:Int},(m,Zn (l:Int) part)∈tbl->Tow QV tbl l M part->(∀ d∈M,Qra d)->UpR ltK M->M≠[] ->
 ∃ g,Qub tbl lo hi l m g/\(ZV g).filter (λd=>wi lo hi (Qx d))=M.filter (λd=>wi lo hi (Qx d))/\(ZV g).Sublist M/\g.length<=(l+1) * M.length
 | 0,M,part,m,hm,t,aw,up,hM=>by
  have e:part=M:=t;subst e;refine⟨[(m,0,part)],⟨part,hm,aw,rfl⟩,?_⟩
  have e:ZV [(m,0,part)]=part:=by simp[ZV,Zzb]
  rw[e];refine⟨rfl,List.Sublist.refl _,?_⟩
  have:=length_pos_iff.mpr hM;simp;lia
 | l+1,M,part,m,hm,t,aw,up,hM=>by
  have go:∀ (part M:List Dt),Tow QV tbl (l+1) M part->(∀ d∈M,Qra d)->UpR ltK M->∃ q,YQa lo hi (Qub tbl lo hi l) part q/\(ZV q).filter (λd=>wi lo hi (Qx d))=M.filter (λd=>wi lo hi (Qx d))/\(ZV q).Sublist M/\q.length<=(l+1) * M.length:=by
   intro part
   induction part with
   | nil =>
    intro M t _ _;have:=t.fst.1.mpr rfl;subst this;exact⟨[],rfl,rfl,List.Sublist.refl _,Uu _⟩
   | cons e r ih =>
    intro M t aw up;obtain⟨A,M1,B,n,p1,eM,tA,_,tB,ee,nL,t1,xm,_,_⟩:=Tow.at_ (a:=[]) t;have eA:=tA.fst.1.mpr rfl;subst eA;rw[LL]at eM;subst eM;have fB:=tB.fst;obtain⟨g1,l1,f1,s1,n1⟩:=YZb bw bL l nL t1 (λd hd=>aw d (VS _ hd)) up.left xm
    obtain⟨q2,l2,f2,s2,n2⟩:=ih B tB (λd hd=>aw d (Ux _ hd)) up.right
    have ml:(l+1) * (M1++B).length=(l+1) * M1.length+(l+1) * B.length:=by rw[On,Nat.mul_add]
    cases h:lk lo hi e r with
    | true =>
     refine⟨g1++q2,⟨g1,q2,rfl,.inl ⟨h,_,n,ee,l1⟩,l2⟩,?_,?_,?_⟩
     ·rw[XH,IX,IX,f1,f2]
     ·rw[XH];exact s1.append s2
     ·rw[On];lia
    | false =>
     refine⟨q2,⟨[],q2,rfl,.inr ⟨h,rfl⟩,l2⟩,?_,s2.trans (sublist_append_right _ _),by lia⟩
     rw[ee]at h;rw[IX,JFd bw bL aw up rfl fB.2 ⟨λz=>fB.1.mpr z,λz=>fB.1.mp z⟩ h,LL,f2]
  obtain⟨q,l1,f1,s1,n1⟩:=go part M t aw up;have e:ZV ((m,l+1,part)::q)=ZV q:=by rw[Qvc];simp[Zzb]
  refine⟨(m,l+1,part)::q,⟨part,q,hm,(Qfb t aw up).2.2.2 #[0],rfl,l1⟩,by rw[e];exact f1,by rw[e];exact s1,?_⟩
  have:=length_pos_iff.mpr hM;rw[UI,Nat.succ_mul (l+1)]
  lia
inductive Zh(aj:VD)(vs:List V)(H:Hp)(Q:VK)(E:XK):Prop
 | mk:∀ k hi,vs=[k,hi]->Pl.QH k->Pl.QH hi->(∀ H',Qj H H'->Q (.bl (beh hi k)) H')->Zh aj vs H Q E
seal PE PT PW PA PS PSs PI PG QM PGs PO in
theorem J8a(Z:Zs mg)(T:Tx K mg CT cs ob)(ZO:Cal P w K mg base 2 "before" ["one","other"] (Jf K))(F:Fun K "is_behind_high" "is_behind_high" JC f fd):Qy P w K mg base CX0 3 f fd ["key","high"] (Zh K):=by
 refine F.ok JZa (λvs H Q E h=>?_) (λah A outer s H vs Q E hr h=>?_)
 ·walk_at "n"
 obtain⟨k,hi,rfl,hk,hh,q⟩:=h;refine⟨_,(Qe (Qn (XO (Y4 Q2c (pv 1) YE (Qv _)) (J6 (Qo ZO hr (Qf (pv 1) (Qf (pv 0) Qb))))))),?_⟩
 refine Qk (σ:=[Vo k,Vo hi]) rfl ?_
 walk_at "rd";refine Zm (λh=>?_) λh=>?_
 ·refine⟨hi,k,rfl,hh,hk,λH' s=>?_⟩
  have:=q H' s;unfold beh at this;rw[if_neg h]at this;exact this
 ·have:=q H (Qj.refl _)
  unfold beh at this;rw[if_pos (Classical.not_not.mp h)]at this;exact this
inductive Qta(aj:VD)(vs:List V)(H:Hp)(Q:VK)(E:XK):Prop
 | mk:∀ k lo hi,vs=[k,lo,hi]->Pl.QH k->Pl.QH lo->Pl.QH hi->(∀ H',Qj H H'->Q (.bl (wi lo hi k)) H')->Qta aj vs H Q E
seal PE PT PW PA PS PSs PI PG QM PGs PO in
theorem Jyb(Z:Zs mg)(T:Tx K mg CT cs ob)(ZO:Cal P w K mg base 2 "before" ["one","other"] (Jf K))(Zr:Cal P w K mg base 3 "is_behind_high" ["key","high"] (Zh K))(F:Fun K "is_within" "is_within" Q7a f fd):Qy P w K mg base CX0 4 f fd ["key","low","high"] (Qta K):=by
 refine F.ok Jkb (λvs H Q E h=>?_) (λah A outer s H vs Q E hr h=>?_)
 ·walk_at "n"
 obtain⟨k,lo,hi,rfl,hk,hl,hh,q⟩:=h;refine⟨_,(Qe (Qn (XO (ZKb (Qo ZO hr (Qf (pv 0) (Qf (pv 1) Qb)))) (J6 (ZKb (Qo Zr hr (Qf (pv 0) (Qf (pv 2) Qb)))))))),?_⟩
 refine Qk (σ:=[Vo k,Vo lo,Vo hi]) rfl ?_
 walk_at "rd";refine⟨k,lo,rfl,hk,hl,λH1 s1=>⟨_,rfl,Zm (λh=>?_) λh=>?_⟩⟩
 ·refine⟨k,hi,rfl,hk,hh,λH2 s2=>⟨_,rfl,?_⟩⟩
  have:=q H2 (s1.trans s2);unfold wi at this;rw[h]at this;exact this
 ·have:=q H1 s1
  unfold wi at this;rw[Bool.not_eq_false]at h;rw[h]at this;exact this
inductive Ya(aj:VD)(vs:List V)(H:Hp)(Q:VK)(E:XK):Prop
 | mk:∀ t xs a e r lo hi,vs=[.ref t,.int ((Of a:Nat):Int),lo,hi]->H t=Vo (.tup xs)->Vm (λd v=>TD H 6 d v) (a++e::r) xs->(∀ d∈a++e::r,QJa d)->Zma lo->Zma hi->xs.length<=900->(∀ H',Qj H H'->Q (.bl (lk lo hi e r)) H')->Ya aj vs H Q E
seal PE PT PW PA PS PSs PI PG QM PGs PO in
theorem Y7a(Z:Zs mg)(T:Tx K mg CT cs ob)(Zr:Cal P w K mg base 3 "is_behind_high" ["key","high"] (Zh K))(ZO:Cal P w K mg base 2 "before" ["one","other"] (Jf K))(F:Fun K "is_looked_at" "is_looked_at" YN f fd):Qy P w K mg base CX0 4 f fd ["heads","at","low","high"] (Ya K):=by
 refine F.ok Y5a (λvs H Q E h=>?_) (λah A outer s H vs Q E hr h=>?_)
 ·walk_at "n"
 obtain⟨t,xs,a,e,r,lo,hi,rfl,ht,rt,am,bw,bL,lx,q⟩:=h;refine⟨_,(Qc (QG (QR (Qo Zr hr (Qf (Qt Qw (Qt Qw (pv 0) (pv 1) (λ_ _=>rfl)) Qd (λ_ _=>rfl)) (Qf (pv 3) Qb))) (λ_=>rfl)) (Qe (Qn JU)) Qr)
  (Qe (Qn (QXc (Y4 ZK (Qm QQ (pv 1) Qd) (Qq QJ rfl (Z.len) Zk (Qf (pv 0) Qb)) (Qv _)) (J6 (Qo ZO hr (Qf (pv 2) (Qf (Qt Qw (Qt Qw (pv 0) (Qm QQ (pv 1) Qd) (λ_ _=>rfl)) Qd (λ_ _=>rfl)) Qb)))))))),?_⟩
 refine Qk (σ:=[Vo (.ref t),Vo (.int ((Of a:Nat):Int)),Vo lo,Vo hi]) rfl ?_
 walk_at "rd";have ll:=Vn rt;simp only[On,UI]at ll;have he:(a++e::r)[a.length]?=Vo e:=by simp
 have hx:xs[a.length]?=Vo (xs[a.length]'#[0]):=IE _
 obtain⟨d,b,w',hd,ex,hb,hk,_⟩:=Zka rt am hx;rw[he]at hd;cases hd;refine⟨_,SqT.of ht,.ref b,by rw[<- ex];exact Za hx,b,rfl,_,SqT.of hb,_,at0 _ _,_,hi,rfl,Zz hk,bL.pl,λH1 s1=>⟨_,rfl,Zm (λh=>?_) λh=>?_⟩⟩
 ·have:=q H1 s1
  unfold lk at this;rw[h]at this;exact this
 ·rw[Bool.not_eq_true]at h
  have q':∀ H',Qj H H'->Q (.bl (r.isEmpty || Pl.ltV lo (Q9 r))) H':=λH' s=>by
   have:=q H' s;unfold lk at this;rw[h]at this;exact this
  cases r with
  | nil =>
   refine⟨xs,.inr (SqT.of (s1 _ _ ht)),?_⟩
   rw[if_pos (by simp at ll;lia)]
   exact q' H1 s1
  | cons y r =>
   simp only[UI]at ll;refine⟨xs,.inr (SqT.of (s1 _ _ ht)),?_⟩
   rw[if_neg #[0]]
   have hy:(a++e::y::r)[a.length+1]?=Vo y:=by simp
   have fE:xs[a.length+1]?=Vo (xs[a.length+1]'#[0]):=IE _
   obtain⟨d2,b2,w2,cw,xn,xo,iV,_⟩:=Zka rt am fE;rw[hy]at cw;cases cw;exact⟨_,SqT.of (s1 _ _ ht),.ref b2,by rw[<- xn];exact Za (j:=a.length+1) fE,b2,rfl,_,SqT.of (s1 _ _ xo),_,at0 _ _,lo,_,rfl,bw.pl,Zz iV,λH2 s2=>q' H2 (s1.trans s2)⟩
inductive ZWa(P:Vg)(w:Vb)(_cs ob:Nat->Vh)(n:Nat)(vs:List V)(H:Hp)(Q:VK)(E:XK):Prop
 | mk:∀ p d1 d2 st c,∀ m:Int,∀ l:Nat,∀ lo hi g,vs=[.ref p,.int m,lo,hi]->QK P w ob H p d1 d2 st c->Qub (QI st) lo hi l m g->l<=n->Zma lo->Zma hi->g.length<=9000->(∀ r H',Qj H H'->H r=Vp->H' r=Vo (.lst (g.map λx=>V.int x.1))->Q (.ref r) H')->ZWa P w _cs ob n vs H Q E
def Yy(P:Vg)(w:Vb)(_cs ob:Nat->Vh):Nat->Sp
 | 0=>λ_ _ _ _=>False
 | n+1=>ZWa P w _cs ob n
seal PE PT PW PA PS PSs PI PG QM PGs PO in
theorem Jzb(Z:Zs mg)(T:Tx K mg CT cs ob)(xp:Cal P w K mg base 4 "is_looked_at" ["heads","at","low","high"] (Ya K))(QL:MeV P w K mg base 5 (ob 3) "page" (Q7 P w cs ob)){n:Nat}(IH:Cal P w K mg base (6+n) "looked_at" ["pages","number","low","high"] (Yy P w cs ob n))(F:Fun K "looked_at" "looked_at" Zca f fd):Qy P w K mg base CX0 (6+n+1) f fd ["pages","number","low","high"] (Yy P w cs ob (n+1)):=by
 refine F.ok Jp (λvs H Q E h=>?_) (λah A outer s H vs Q E hr h=>?_)
 ·walk_at "n"
 obtain⟨p,d1,d2,st,c,m,l,lo,hi,g,rfl,hS,hL,hl,bw,bL,lg,q⟩:=h;refine⟨_,(Qc (Ql 4 Jp.nd (Zj (Qf (pv 1) Qb)))
  (Qc (Ql 5 Jp.nd (PE1.pe (ZC (k:=(6+n)) (pv 0) hr rfl (Qf (pv 1) Qb)) Zy))
  (Qc (Ql 6 Jp.nd (J3b (Qs Xra (Ze (pv 5) rfl) Qd (Qv _)) (Ze (pv 5) rfl) (Zf Qb)))
  (Qc (Zw Dc rfl (YA rfl (Z.range) (Qf (Qq QJ rfl (Z.len) Zk (Qf (pv 6) Qb)) Qb)) (QW (i:=7) Jp.nd rfl (ON rfl)) (Qe (QG (QR (Jl xp (k:=(6+n)) hr #[0] rfl (Qf (pv 6) (Qf (pv 7) (Qf (pv 2) (Qf (pv 3) Qb))))) (λ_=>rfl)) (Qe (QZ (YF De Dk Dl Jaa (pv 4) (Qf (Jl IH (k:=(6+n)) hr #[0] rfl (Qf (pv 0) (Qf (Qt Qw (Qt Qw (pv 6) (pv 7) (λ_ _=>rfl)) Qd (λ_ _=>rfl)) (Qf (pv 2) (Qf (pv 3) Qb))))) Qb)))) Qr)))
  (Qe (Qn (pv 4))))))),?_⟩
 refine Qk (σ:=[Vo (.ref p),Vo (.int m),Vo lo,Vo hi,Vp,Vp,Vp,Vp]) rfl ?_
 walk_at "rd";refine⟨by show 1<=Vs;rw[UD];decide,λff bW=>?_⟩
 have s0:=Qi bW (.lst [V.int m]);have ba:upd H ff (.lst [.int m]) ff=Vo (.lst [.int m]):=Qa;generalize upd H ff (.lst [.int m])=H0 at s0 ba ⊢
 match l,hL,hl with
 | 0,⟨es,hm,aw,eg⟩,hl =>
  refine Xla T QL #[0] rfl rfl (hS.same s0) hm λpg H1 s1 i9 bt=>?_
  obtain⟨hG,o5,t,ci,bz,ht⟩:=bt;refine Zea T rfl bz ⟨_,rfl,?_⟩
  rw[if_neg #[1]]
  refine⟨Uy _,λpe xq=>⟨[],.inr (SqT.of Qa),by decide,by decide,?_⟩⟩
  have s2:=Qi xq (.tup []);generalize upd H1 pe (.tup [])=H2 at s2 ⊢;refine Jx (λi σ' H'=>H'=H2/\σ'=[Vo (.ref p),Vo (.int m),Vo lo,Vo hi,Vo (.ref ff),Vo (.ref pg),Vo (.ref pe),Vp]) ⟨rfl,rfl⟩ (λi σ' H' hi _=>absurd hi (Nat.not_lt_zero i)) ?_
  rintro σ' H' ⟨rfl,rfl⟩;walk_at "rd";refine q ff _ (s0.trans (s1.trans s2)) bW ?_
  rw[eg];exact(s1.trans s2) _ _ ba
 | l'+1,⟨es,q0,hm,mD,eg,jV⟩,hl =>
  obtain⟨n,rfl⟩:∃ n0,n=n0+1:=⟨n - 1,by lia⟩
  refine Xla T QL #[0] rfl rfl (hS.same s0) hm λpg H1 s1 i9 bt=>?_
  have few:=PgD.few hS hm;obtain⟨hG,o5,t,ci,bz,ht⟩:=bt;obtain rfl:hG=true:=by rw[ci];exact decide_eq_true #[0]
  obtain⟨mm,t',xs,em,e,aR,rt⟩:=ht.tup;cases e;obtain rfl:mm=6:=by lia
  have fR:=Vn rt;refine Zea T rfl bz ⟨_,rfl,?_⟩
  rw[if_pos #[0]]
  refine ZH (T.ob_ 2 #[1]) #[1] rfl bz rfl ⟨t,rfl,xs,.inr (SqT.of aR),by lia,by lia,?_⟩
  rw[Os];refine Jx (λi σ' H'=>∃ a b dn rest x7,σ'=[Vo (.ref p),Vo (.int m),Vo lo,Vo hi,Vo (.ref ff),Vo (.ref pg),Vo (.ref t),x7]/\es=a++b/\a.length=i/\q0=dn++rest/\YQa lo hi (Qub (QI st) lo hi l') b rest/\Qj H H'/\H' ff=Vo (.lst (V.int m::dn.map λx=>V.int x.1))/\H' t=Vo (.tup xs)/\Vm (λd v=>TD H' 6 d v) es xs) ⟨[],es,[],q0,_,rfl,rfl,rfl,rfl,jV,s0.trans s1,s1 _ _ ba,aR,rt⟩ ?_ ?_
  ·rintro i σ' H' hii ⟨a,b,dn,rest,x7,rfl,cX,ea,eq,jV,s',hf,aR,rt⟩
   match b,jV with
   | [],_=>rw[cX]at fR;simp at fR;lia
   | e::r,⟨p1,q1,er,hp,hq⟩ =>
    walk_at "rd";have am:∀ d∈es,QJa d:=λd hd=>(mD d hd).ent
    have lq:g.length=1+(dn.length+(p1.length+q1.length)):=by rw[eg,eq,er];simp;lia
    refine⟨t,xs,a,e,r,lo,hi,by rw[Int.zero_add,ea],aR,by rw[<- cX];exact rt,by rw[<- cX];exact am,bw,bL,by lia,λH2 s2=>⟨_,rfl,Zm (λh=>?_) λh=>?_⟩⟩
    ·rcases hp with ⟨_,k,n',ee,hp⟩ | ⟨z,_⟩
     ·have hx:es[i]?=Vo e:=by rw[cX,<- ea];simp
      have tx:=QD rt hx (IE hii)
      rw[ee]at tx;obtain⟨bb,u1,u2,eb,hb,x1,x2⟩:=TD.pair_of tx;obtain⟨_,rfl⟩:=x2.flat;refine⟨.inl ⟨rfl,_,SqL.of (s2 _ _ hf)⟩,_,SqT.of (s2 _ _ aR),.ref bb,by rw[Int.zero_add,<- eb];exact Za (IE hii),bb,rfl,_,SqT.of (s2 _ _ hb),_,at1 _ _ _,p,d1,d2,st,c,n',l',lo,hi,p1,rfl,hS.same (s'.trans s2),hp,by lia,bw,bL,by lia,λr3 H3 s3 pi g3=>?_⟩
      have jW:=(s2.trans s3) _ _ hf;have t5:Zt H3 (upd H3 ff (.lst ((V.int m::dn.map λx=>V.int x.1)++p1.map λx=>V.int x.1))):=Jy jW
      refine⟨r3,rfl,_,jW,_,.inl (SqL.of g3),XLc (by simp;lia),a++[e],r,by rw[cX];simp,by simp;lia,dn++p1,q1,by rw[eq,er];simp,hq,Zd (s'.trans (s2.trans s3)) bW,?_,?_,?_⟩
      ·rw[Qa];simp
      ·exact t5 _ _ ((s2.trans s3) _ _ aR)
      ·exact TDs.sameT rt ((s2.trans s3).t.trans t5)
     ·rw[h]at z;cases z
    ·rcases hp with ⟨z,_⟩ | ⟨_,hp⟩
     ·exact absurd z h
     ·exact⟨a++[e],r,by rw[cX];simp,by simp;lia,dn,q1,by rw[eq,er,hp];simp,hq,s'.trans s2,s2 _ _ hf,s2 _ _ aR,TDs.sameT rt s2.t⟩
  ·rintro σ' H' ⟨a,b,dn,rest,x7,rfl,cX,ea,eq,jV,s',hf,aR,rt⟩
   walk_at "rd";have eb:b=[]:=by
    rw[cX]at fR;simp at fR;exact Iv #[0]
   subst eb;have jX:rest=[]:=jV;refine q ff _ s' bW ?_
   rw[hf,eg,eq,jX];simp
theorem ZXa{α β:Type}{F:α->β->Prop}(q:α->Bool)(p:β->Bool):∀ {es:List α} {xs:List β},Vm F es xs->(∀ d x,d∈es->F d x->p x=q d)->Vm F (es.filter q) (xs.filter p)
 | _,_,.nil,_=>.nil
 | _,_,.cons (a:=d) (b:=x) r t,h=>by
  have e:=h _ _ VN r;have ih:=ZXa q p t λd x hd hx=>h d x (VO _ hd) hx
  rw[OT,OT,e];cases q d with
  | true=>exact .cons r ih
  | false=>exact ih
theorem QQb(re:Vm (λd v=>TD H 6 d v) es xs)(am:∀ d∈es,QJa d):Vm (λd v=>TD H 6 d v) (es.filter λd=>wi lo hi (Qx d)) (xs.filter λv=>wi lo hi (YPa H v)):=by
 refine ZXa _ _ re λd x hd tx=>?_
 obtain⟨d',b,r,e1,e2,hb,_⟩:=Zka (es:=[d]) (xs:=[x]) (i:=0) (.cons tx .nil) (λz hz=>by rw[mem_singleton.mp hz];exact am d hd) rfl
 cases e1;rw[e2,J7a hb]
def ZFd(st:StL)(lo hi v:V)(g:List Pg)(rs:List Dt):Prop:=(v=.non/\g=[]/\rs=[])\/∃ (n:Int) (l:Nat) (d:Dt) (part:List Dt),v=.int n/\(n,Zn (l:Int) (d::part))∈QI st/\l<=6/\QJa d/\((beh hi (Qx d)=true/\g=[]/\rs=[])\/(beh hi (Qx d)=false/\Qub (QI st) lo hi l n g/\rs=(ZV g).filter (λd=>wi lo hi (Qx d))/\g.length<=9000/\(ZV g).length<=900))
inductive Jua(P:Vg)(w:Vb)(_cs ob:Nat->Vh)(vs:List V)(H:Hp)(Q:VK)(E:XK):Prop
 | mk:∀ p d1 d2 st c v lo hi g rs,vs=[.ref p,v,lo,hi]->QK P w ob H p d1 d2 st c->ZFd st lo hi v g rs->Zma lo->Zma hi->(∀ r H' y1 y2 xs,Qj H H'->H r=Vp->H y1=Vp->H y2=Vp->y1≠y2->H' r=Vo (.tup [.ref y1,.ref y2])->H' y1=Vo (.lst xs)->Vm (λd v=>TD H' 6 d v) rs xs->H' y2=Vo (.lst (g.map λx=>V.int x.1))->Q (.ref r) H')->Jua P w _cs ob vs H Q E
seal PE PT PW PA PS PSs PI PG QM PGs PO in
theorem Qwc(Z:Zs mg)(T:Tx K mg CT cs ob)(xr:∀ n,Cal P w K mg base (6+n) "looked_at" ["pages","number","low","high"] (Yy P w cs ob n))(Zr:Cal P w K mg base 3 "is_behind_high" ["key","high"] (Zh K))(xt:Cal P w K mg base 4 "is_within" ["key","low","high"] (Qta K))(QL:MeV P w K mg base 5 (ob 3) "page" (Q7 P w cs ob))(ZS:MeV P w K mg base 4 (ob 3) "card" (JP P w cs ob))(F:Fun K "stretch" "stretch" ZFa f fd):Qy P w K mg base CX0 15 f fd ["pages","root","low","high"] (Jua P w cs ob):=by
 refine F.ok YS (λvs H Q E h=>?_) (λah A outer s H vs Q E hr h=>?_)
 ·walk_at "n"
 obtain⟨p,d1,d2,st,c,v,lo,hi,g,rs,rfl,hS,hT,bw,bL,q⟩:=h;refine⟨_,(Qc (QG (PW.pt (Y3 (Qs Xsa (pv 1) YE (Qv _)) (J5 (QR (Qo Zr hr (Qf (Qt Qw (PE1.pe (ZC (k:=14) (pv 0) hr rfl (Qf (pv 1) Qb)) Zy) Qd (λ_ _=>rfl)) (Qf (pv 3) Qb))) (λ_=>rfl))))) (Qe (Qn (Zf (Qf (Zj Qb) (Qf (Zj Qb) Qb))))) Qr)
  (Qc (Ql 4 YS.nd (Jl (xr 8) (k:=14) hr #[1] rfl (Qf (pv 0) (Qf (pv 1) (Qf (pv 2) (Qf (pv 3) Qb))))))
  (Qc (Ql 5 YS.nd (Zj Qb))
  (Qc (Zw Dc rfl (Jh (pv 4)) (QW (i:=6) YS.nd rfl (ON rfl)) (Qc (Ql 7 YS.nd (PE1.pe (ZC (k:=14) (pv 0) hr rfl (Qf (pv 6) Qb)) Zy))
  (Qe (QG (Qs ZK (Ze (pv 7) rfl) Qd (Qv _)) (Qe (QZ (YF De Dk Dl Jaa (pv 5) (Qf (Zo ["pages","root","low","high","seen","rows","number","page"] rfl (Ye (N:=["pages","root","low","high","seen","rows","number","page"]) (dsc:=Qg ZFa) rfl rfl (by decide +kernel)) (Xoa (Ze (pv 7) rfl)) (λ_ _ _ _ _=>(JMa (QR (Qo xt hr (Qf (Qt (r:=ZPb K) Qw (pv 0) Qd (λ_ _=>rfl)) (Qf (pv 3) (Qf (pv 4) Qb)))) (λ_=>rfl)))) (λ_ _ _ _ _=>(pv 0))) Qb)))) Qr))))
  (Qe (Qn (Zf (Qf (pv 5) (Qf (pv 4) Qb))))))))),?_⟩
 refine Qk (σ:=[Vo (.ref p),Vo v,Vo lo,Vo hi,Vp,Vp,Vp,Vp]) rfl ?_
 walk_at "rd";have fb:∀ H1,Qj H H1->g=[]->rs=[]->([]:List V).length<=Vs/\∀ y1,H1 y1=Vp->([]:List V).length<=Vs/\∀ y2,upd H1 y1 (.lst []) y2=Vp->[V.ref y1,V.ref y2].length<=Vs/\∀ r,upd (upd H1 y1 (.lst [])) y2 (.lst []) r=Vp->Q (.ref r) (upd (upd (upd H1 y1 (.lst [])) y2 (.lst [])) r (.tup [.ref y1,.ref y2])):=by
  intro H1 s1 e1 e2;refine⟨Uy _,λy1 h1=>⟨Uy _,λy2 h2=>⟨ZX,λr hr=>?_⟩⟩⟩
  have a1:=Qi h1 (.lst []);have a2:=Qi h2 (.lst []);have a3:=Qi hr (.tup [.ref y1,.ref y2]);refine q r _ y1 y2 [] (s1.trans (a1.trans (a2.trans a3))) (none_of (s1.trans (a1.trans a2)) hr) (none_of s1 h1) (none_of (s1.trans a1) h2) (λz=>?_) Qa ((a2.trans a3) _ _ Qa) ?_ ?_
  ·rw[z,Qa]at h2;cases h2
  ·rw[e2];exact .nil
  ·rw[e1];exact a3 _ _ Qa
 rcases hT with ⟨ev,eg,jY⟩ | ⟨n,l,d,part,ev,hm,hl,hd,hc⟩
 ·rw[if_pos ev]
  exact fb H (Qj.refl _) eg jY
 subst ev;rw[if_neg (λz=>by cases z)]
 obtain⟨k,r',ed,hk⟩:=hd;subst ed;obtain⟨t0,rZ⟩:=hS.find hm;obtain⟨dx,ho⟩:=hS.obj;refine JY rfl ho rfl (T.ob_ 3 #[1]).cl (ZS.mono #[1]) ?_
 walk_at "rd";refine⟨p,d1,d2,st,c,n,rfl,hS,λl2 k2 r2 fL t2 fc a H1 s1 ha td=>?_,λz=>(z _ rZ rfl).elim⟩
 have e2:=(JZ (hS.fun_ rZ fc).1).2;injection e2 with e2 _
 injection e2 with e2
 injection e2 with e2 _
 injection e2 with e2
 subst e2;obtain⟨_,v1,v2,ea,xu,w1,w2⟩:=TD.pair_of td;cases ea;obtain⟨_,rfl⟩:=w2.flat;refine⟨a,rfl,_,SqT.of xu,_,at1 _ _ _,_,hi,rfl,Zz hk,bL.pl,λH2 s2=>⟨_,rfl,Zm (λh=>?_) λh=>?_⟩⟩
 ·rcases hc with ⟨_,eg,jY⟩ | ⟨z,_⟩
  ·exact fb H2 (s1.trans s2) eg jY
  ·rw[show Qx (.t (.v v2::r'))=v2 from rfl,h]at z;cases z
 rcases hc with ⟨z,_⟩ | ⟨_,hL,jY,lg,lr⟩
 ·exact absurd z h
 have aX:=s1.trans s2;refine⟨p,d1,d2,st,c,n,l,lo,hi,g,rfl,hS.same aX,hL,VJ hl #[1],bw,bL,lg,λy2 H3 s3 jZ g3=>⟨Uy _,λy1 jc=>⟨y2,rfl,⟨_,SqL.of (Qi jc _ _ _ g3)⟩,?_⟩⟩⟩
 have s4:=Qi jc (.lst []);have j6:upd H3 y1 (.lst []) y1=Vo (.lst []):=Qa;generalize upd H3 y1 (.lst [])=H4 at s4 j6 ⊢;have bK:=aX.trans s3;refine YG (g.map λx=>V.int x.1) (λi σ' H'=>∃ zs x6 x7,σ'=[Vo (.ref p),Vo (.int n),Vo lo,Vo hi,Vo (.ref y2),Vo (.ref y1),x6,x7]/\Qj H3 H'/\H' y1=Vo (.lst zs)/\Vm (λd v=>TD H' 6 d v) ((ZV (g.take i)).filter λd=>wi lo hi (Qx d)) zs) ⟨[],_,_,rfl,s4,j6,.nil⟩ (λi σ' H' _ h=>by obtain⟨_,_,_,_,h,_⟩:=h;exact SqL.of (h _ _ g3)) ?_ ?_
 ·rintro i x σ' H' hx ⟨zs,x6,x7,rfl,s5,hz,rz⟩
  rw[Ol,Option.map_eq_some_iff]at hx
  obtain⟨⟨m,lm,em⟩,hx,rfl⟩:=hx;obtain⟨dw,sd⟩:=hL.mem _ (Om hx);dsimp only at dw sd;have et:g.take (i+1)=g.take i++[(m,lm,em)]:=by rw[Iq,hx];rfl
  walk_at "rd";refine Xla T QL #[1] rfl rfl (hS.same (bK.trans s5)) dw λpg H6 s6 i9 bt=>?_
  obtain⟨hG,o5,t,ci,bz,ht⟩:=bt;refine Zea T rfl bz ⟨rfl,Zm (λh0=>?_) λh0=>?_⟩
  ·injection h0 with h0
   obtain rfl:lm=0:=by lia
   obtain rfl:hG=false:=by rw[ci];rfl
   obtain⟨mm,t',xs,xw,e,aR,rt⟩:=ht.tup;cases e;obtain rfl:mm=6:=by lia
   have am:∀ d∈em,QJa d:=λd hd=>(sd rfl d hd).ent
   have fR:=Vn rt;have few:=PgD.few hS dw;refine⟨.inl ⟨rfl,_,SqL.of (s6 _ _ hz)⟩,ZH (T.ob_ 1 #[1]) #[1] rfl bz rfl ⟨t,rfl,⟨_,SqT.of aR⟩,QDd xs (λv=>wi lo hi (YPa H6 v)) (SqT.of aR) (Q2 #[0]) (λi2 x H7 R fE s7 r=>?_) λD H7 hD s7 hd=>?_⟩⟩
   ·obtain⟨d,b,ws,hd,ex,hb,iV,_⟩:=Zka rt am fE
    subst ex;walk_at "rd";refine⟨_,SqT.of (s7 _ _ hb),_,at0 _ _,_,lo,hi,rfl,Zz iV,bw.pl,bL.pl,λH8 s8=>⟨_,rfl,?_⟩⟩
    have:=r H8 s8;rw[J7a hb]at this;exact this
   ·have iZ:=(s6.trans s7) _ _ hz
    have lz:zs.length<=900:=by
     have h1:=Vn rz;have h2:=OU (λd=>wi lo hi (Qx d)) (ZV (g.take i))
     have h3:=congrArg Of (XH (g.take i) (g.drop i));rw[Dm,On]at h3
     lia
    have lf:=OU (λv=>wi lo hi (YPa H6 v)) xs
    have t8:Zt H7 (upd H7 y1 (.lst (zs++xs.filter λv=>wi lo hi (YPa H6 v)))):=Jy iZ
    refine⟨D,rfl,zs,iZ,_,.inl (SqL.of hd),XLc #[0],_,_,_,⟨rfl,rfl⟩,Zd (s5.trans (s6.trans s7)) jc,Qa,?_⟩
    rw[et,XH,IX,show ZV [(m,0,em)]=em by simp[ZV,Zzb]]
    exact Zl (TDs.sameT rz ((s6.trans s7).t.trans t8)) (TDs.sameT (QQb rt am) (s7.t.trans t8))
  ·have au:lm≠0:=λz=>h0 (by rw[z];rfl)
   refine⟨zs,_,_,⟨rfl,rfl⟩,s5.trans s6,s6 _ _ hz,?_⟩
   rw[et,XH,show ZV [(m,lm,em)]=[] by simp[ZV,Zzb,au],U1]
   exact TDs.sameT rz s6.t
 ·rintro σ' H' ⟨zs,x6,x7,rfl,s5,hz,rz⟩
  walk_at "rd";refine⟨ZX,λr hr=>?_⟩
  have a3:=Qi hr (.tup [.ref y1,.ref y2]);rw[UQ,IW]at rz;refine q r _ y1 y2 zs (bK.trans (s5.trans a3)) (none_of (bK.trans s5) hr) (none_of bK jc) (none_of aX jZ) (λz=>?_) Qa (a3 _ _ hz) ?_ (a3 _ _ (s5 _ _ g3))
  ·rw[z,g3]at jc;cases jc
  ·rw[jY];exact TDs.sameT rz a3.t
theorem XRc{p:Vh}(hS:QK P w ob H p d1 d2 st c)(hT:Zq st es v)(aw:∀ d∈es,Qra d)(up:UpR ltK es)(le:es.length<=900)(bw:Zma lo)(bL:Zma hi):∃ g,ZFd st lo hi v g (es.filter λd=>wi lo hi (Qx d)):=by
 have xx:=hT
 rcases hT with ⟨e,ev⟩ | ⟨_,_,_,_,n,_,_,_,ev⟩
 ·rw[e];exact⟨[],.inl ⟨ev,rfl,rfl⟩⟩
 subst ev;obtain⟨top,h6,rt⟩:=xx.root hS;obtain⟨part,hm,tw,_,au⟩:=rt.page;have fs:=tw.fst;have kp:=(Qfb tw aw up).1
 match part,tw.ne au,hm,tw,fs,kp with
 | d::part,_,hm,tw,fs,kp =>
  have hd:=kp d VN;have ef:Qx d=Q9 es:=fs.2;cases hb:beh hi (Qx d) with
  | true =>
   refine⟨[],.inr ⟨n,top,d,part,rfl,hm,h6,hd,.inl ⟨hb,rfl,?_⟩⟩⟩
   refine filter_eq_nil_iff.mpr λx hx=>?_
   obtain⟨kf,lf⟩:=XQc aw up hx;rw[ef]at hb;unfold wi;rw[XPc bL kf (aw x hx).ent.key hb lf];simp
  | false =>
   obtain⟨g,hg,f1,sl,ln⟩:=YZb bw bL top hm tw aw up au;have l1:=sl.length_le;have l2:(top+1) * es.length<=7 * es.length:=Di _ #[0]
   exact⟨g,.inr ⟨n,top,d,part,rfl,hm,h6,hd,.inr ⟨hb,hg,f1.symm,by lia,by lia⟩⟩⟩
theorem Zq.sc(h:Zq st es v):v=.non\/∃ n,v=.int n:=by
 rcases h with ⟨_,h⟩ | ⟨_,_,_,_,n,_,_,_,h⟩
 ·exact .inl h
 ·exact .inr ⟨n,h⟩
theorem Zq.mono(h:Zq st es v)(s:∀ x∈QI st,x∈QI ai):Zq ai es v:=by
 rcases h with h | ⟨a,top,L,k,n,b,c,d⟩
 ·exact .inl h
 ·exact .inr ⟨a,top,L,k,n,b,c.mono s,d⟩
inductive J2(aj:VD)(vs:List V)(H:Hp)(Q:VK)(E:XK):Prop
 | mk:∀ (a:Vh) (xs:List V),vs=[.ref a]->H a=Vo (.lst xs)->(∀ v∈xs,QH v)->xs.length < 64->(∀ (r:Vh) (H':Hp) (ys:List V),Qj H H'->H r=Vp->H' r=Vo (.lst ys)->ys.length<=xs.length->Z8c xs ys->Q (.ref r) H')->J2 aj vs H Q E
theorem XSc{K:VD}(h:∀ v∈xs,QH v):XWb K (YV K) H xs rk ltV :=
 ⟨λv _=>Ydd v,λv hv H2 _ R hR=>⟨v,rfl,h v hv,λp hp=>hR p _ (Qi hp _) (SqT.of Qa)⟩,λv hv u hu=>YNc (h v hv) (h u hu),swo h⟩
seal PE PT PW PA PS PSs PI PG QM PGs PO in
theorem Y2b(Z:Zs mg)(T:Tx K mg CT cs ob)(ZO:Cal P w K mg base 2 "before" ["one","other"] (Jf K))(mB:Cal P w K mg base 1 "rank_of" ["value"] (YV K))(F:Fun K "in_order" "in_order" Jna f fd):Qy P w K mg base CX0 4 f fd ["values"] (J2 K):=by
 refine F.ok Q6a (λvs H Q E h=>?_) (λah A outer s H vs Q E hr h=>?_)
 ·walk_at "n"
 obtain⟨a,xs,rfl,ha,px,xy,q⟩:=h;refine⟨_,(Qc (Ql 1 Q6a.nd (Zj Qb))
  (Qc (Zw Dc rfl (Jh (YGb mB (k:=3) hr #[1] rfl (Z.sorted) rfl (pv 0))) (QW (i:=2) Q6a.nd rfl (ON rfl)) (Qe (QG (PW.pt (Y3 (Q8 (Xua (pv 1) (λ_=>rfl))) (J5 (QR (Qo ZO hr (Qf (Qt Q0 (pv 1) (J6b Xqa Qd) (λ_ _=>rfl)) (Qf (pv 2) Qb))) (λ_=>rfl))))) (Qe (QZ (YF De Df Dg ZB (pv 1) (Qf (pv 2) Qb)))) Qr)))
  (Qe (Qn (pv 1))))),?_⟩
 refine Qk (σ:=[Vo (.ref a),Vp,Vp]) rfl ?_
 walk_at "rd";refine⟨by decide,λf hf=>?_⟩
 have pq:a≠f:=QC ha hf;refine⟨xs,SqL.of (by rw[Qh pq];exact ha),xy,_,_,XSc px,λD H1 ys s1 jM hD hp so=>?_⟩
 have py:∀ v∈ys,QH v:=λv hv=>px v (hp.mem_iff.mp hv)
 have xz:f≠D:=λz=>by rw[<- z,Qa]at jM;cases jM
 have sf:Qj H H1:=(Qi hf _).trans s1;have ly:=hp.length_eq;refine⟨⟨_,SqL.of hD⟩,YG ys (λi σ' H'=>∃ (fs:List V) (x2:Option V),σ'=[Vo (.ref a),Vo (.ref f),x2]/\Qj H H'/\H' D=Vo (.lst ys)/\H' f=Vo (.lst fs)/\Yea ys i fs) ?_ ?_ ?_ ?_⟩
 ·exact⟨[],_,rfl,sf,hD,s1 _ _ Qa,Yea.start ys⟩
 ·rintro i σ' H' _ ⟨fs,x2,rfl,sm,h1,h2,g⟩
  exact SqL.of h1
 ·rintro i x σ' H' hx ⟨fs,x2,rfl,sm,h1,h2,g⟩
  have hi:i < ys.length:=(List.getElem?_eq_some_iff.mp hx).1
  have pf:∀ v∈fs,QH v:=λv hv=>py v (IT ((g.mem v).mp hv))
  have pX:=py x (Om hx);have lf:=g.len;have app:∀ H2:Hp,Qj H' H2->(∀ l,fs.getLast?=Vo l->ltV l x=true)->tyV K "list" (.ref f) H2/\∃ cS,H2 f=Vo (.lst cS)/\cS.length < Vs/\Qj H (upd H2 f (.lst (cS++[x])))/\upd H2 f (.lst (cS++[x])) D=Vo (.lst ys)/\∃ dQ:List V,upd H2 f (.lst (cS++[x])) f=Vo (.lst dQ)/\Yea ys (i+1) dQ:=λH2 s2 hl =>
   ⟨.inl ⟨rfl,_,SqL.of (s2 _ _ h2)⟩,fs,s2 _ _ h2,QA #[0],(sm.trans s2).updL hf _,by rw[Qh (VR xz)];exact s2 _ _ h1,fs++[x],Qa,g.put py so hx hl⟩
  walk_at "rd";refine⟨_,.inl ⟨fs,SqL.of h2,rfl⟩,?_⟩
  cases hemp:fs.isEmpty with
  | true =>
   rw[if_pos #[1]]
   have e0:fs=[]:=isEmpty_iff.mp hemp;exact app _ (Qj.refl _) λl hl=>by rw[e0]at hl;cases hl
  | false =>
   rw[if_neg #[2]]
   obtain⟨l,hl⟩:∃ l,fs.getLast?=Vo l:=by
    cases q:fs.getLast? with
    | none=>rw[getLast?_eq_none_iff]at q;rw[q]at hemp;cases hemp
    | some l=>exact⟨l,rfl⟩
   obtain⟨dQ,ef⟩:=getLast?_eq_some_iff.mp hl
   have pl:QH l:=pf l (IU hl);refine⟨fs,SqL.of h2,l,by rw[ef];exact JIa _ _,l,x,rfl,pl,pX,λH2 s2=>⟨_,rfl,?_⟩⟩
   cases ax:ltV l x with
   | true =>
    rw[if_pos rfl];exact app _ s2 λl' dk=>by rw[hl]at dk;cases dk;exact ax
   | false =>
    rw[if_neg Uh];exact⟨sm.trans s2,s2 _ _ h1,fs,s2 _ _ h2,g.skip py so hx hl ax⟩
 ·rintro σ' H' ⟨fs,x2,rfl,sm,h1,h2,g⟩
  walk_at "rd";have:=g.len;exact q f H' fs sm hf h2 #[0] (g.rise hp)
def GT(n:Nat)(z:Str):Prop:=n<=z.length/\z.length<=40/\∀ c∈z.cps.toList,Yf c=true
def GK:V->Prop
 | .int i => -(10 ^ 30) < i/\i < 10 ^ 30
 | .str z=>GT 1 z
 | _=>False
def GP:V->Prop
 | .non=>True
 | .int i => -(10 ^ 30) < i/\i < 10 ^ 30
 | .str z=>GT 0 z
 | _=>False
def GW(z:Str):Prop:=1<=z.length/\z.length<=12/\∀ c∈z.cps.toList,Xea c=true
theorem GK.key(h:GK v):ZJ v:=by
 cases v with
 | int i=>exact h
 | str z=>exact h.2.1
 | _=>exact h.elim
theorem GP.pl(h:GP v):QH v:=by
 cases v with
 | non=>exact h
 | int i=>exact h
 | str z=>exact h.2.1
 | _=>exact h.elim
theorem GP.hv(h:GP v):hV v=true:=by
 cases v <;> first | rfl | exact h.elim
theorem GK.gp(h:GK v):GP v:=by
 cases v with
 | int i=>exact h
 | str z=>exact⟨Uy _,h.2⟩
 | _=>exact h.elim
def YRa(_:VD):Sp:=λvs H Q _=>(∃ i:Int,vs=[.int i]/\Q (.bl true) H)\/∃ z:Str,vs=[.str z]/\Q (.bl false) H
seal PE PT PW PA PS PSs PI PG QM PGs PO in
theorem Y3b(Z:Zs mg)(T:Tx K mg CT cs ob)(F:Fun K "is_whole" "is_whole" Jfa f fd):Qy P w K mg base CX0 1 f fd ["thing"] (YRa K):=by
 refine F.ok YHb (λvs H Q E h=>?_) (λah A outer s H vs Q E hr h=>?_)
 ·rcases h with ⟨i,rfl,_⟩ | ⟨i,rfl,_⟩ <;> rfl
 rcases h with ⟨i,rfl,q⟩ | ⟨z,rfl,q⟩
 ·refine⟨_,(Qe (Qn (XO (Qq QE rfl (Z.isinstance) Qu (Qf (pv 0) (Qf (Q4 rfl (Z.int) Yxc (v:=.ty "int") rfl) Qb))) (J6 (ZKb (Qq QE rfl (Z.isinstance) Qu (Qf (pv 0) (Qf (Q4 rfl (Z.bool) Xca (v:=.ty "bool") rfl) Qb)))))))),?_⟩
  refine Qk (σ:=[Vo (.int i)]) rfl ?_
  walk_at "rd";exact Q3 (.int i) Yjb ⟨_,rfl,show ite _ _ _ from(if_pos rfl).mpr (Q3 (.int i) JOa ⟨_,rfl,q⟩)⟩
 ·refine⟨_,(Qe (Qn (XO (Qq QE rfl (Z.isinstance) Qu (Qf (pv 0) (Qf (Q4 rfl (Z.int) Yxc (v:=.ty "int") rfl) Qb))) (J6 (ZKb (Qq QE rfl (Z.isinstance) Qu (Qf (pv 0) (Qf (Q4 rfl (Z.bool) Xca (v:=.ty "bool") rfl) Qb)))))))),?_⟩
  refine Qk (σ:=[Vo (.str z)]) rfl ?_
  walk_at "rd";exact Q3 (.str z) Ykb ⟨_,rfl,q⟩
def Qua(_:VD):Sp:=λvs H Q _=>(∃ i:Int,vs=[.int i] /\ -(10 ^ 30) < i/\i < 10 ^ 30/\Q (.bl true) H)\/∃ z:Str,vs=[.str z]/\Q (.bl false) H
seal PE PT PW PA PS PSs PI PG QM PGs PO in
theorem JAb(Z:Zs mg)(T:Tx K mg CT cs ob)(se:Cal P w K mg base 1 "is_whole" ["thing"] (YRa K))(F:Fun K "is_number" "is_number" Q2a f fd):Qy P w K mg base CX0 2 f fd ["thing"] (Qua K):=by
 refine F.ok Jgb (λvs H Q E h=>?_) (λah A outer s H vs Q E hr h=>?_)
 ·rcases h with ⟨i,rfl,_⟩ | ⟨i,rfl,_⟩ <;> rfl
 rcases h with ⟨i,rfl,h1,h2,q⟩ | ⟨z,rfl,q⟩
 ·refine⟨_,(Qe (Qn (XO (Qo se hr (Qf (pv 0) Qb)) (J6 (JFa QMa QMa (J6b Xqa (Qm XR Qd Qd)) (pv 0) (Qm XR Qd Qd)))))),?_⟩
  refine Qk (σ:=[Vo (.int i)]) rfl ?_
  walk_at "rd";refine .inl ⟨i,rfl,_,rfl,(if_pos rfl).mpr ⟨by unfold Qwb;decide,(if_pos h1).mpr ⟨by unfold Qwb;decide,?_⟩⟩⟩
  rw[decide_eq_true h2];exact q
 ·refine⟨_,(Qe (Qn (XO (Qo se hr (Qf (pv 0) Qb)) (J6 (JFa QMa QMa (J6b Xqa (Qm XR Qd Qd)) (pv 0) (Qm XR Qd Qd)))))),?_⟩
  refine Qk (σ:=[Vo (.str z)]) rfl ?_
  walk_at "rd";exact .inr ⟨z,rfl,_,rfl,(if_neg Uh).mpr q⟩
inductive Jva(aj:VD)(vs:List V)(H:Hp)(Q:VK)(E:XK):Prop
 | mk:∀ c:Nat,vs=[.str ⟨#[c]⟩]->Q (.bl (Yf c)) H->Jva aj vs H Q E
theorem lt1(a b:Nat):([a] < [b])↔a < b:=by simp[cons_lt_cons_iff]
seal PE PT PW PA PS PSs PI PG QM PGs PO in
theorem Qxc(Z:Zs mg)(T:Tx K mg CT cs ob)(F:Fun K "is_sign" "is_sign" Yqa f fd):Qy P w K mg base CX0 1 f fd ["one"] (Jva K):=by
 refine F.ok Qbc (λvs H Q E h=>?_) (λah A outer s H vs Q E hr h=>?_)
 ·walk_at "n"
 obtain⟨c,rfl,q⟩:=h;refine⟨_,(Qe (Qn (XO (JFa Zya Zya Xk (pv 0) Xk) (J6 (Y4 JEa (Qq J8b rfl (Z.ord) Yvc (Qf (pv 0) Qb)) (Zxa (Z.PERCENT) rfl) (Qv _)))))),?_⟩
 refine Qk (σ:=[Vo (.str ⟨#[c]⟩)]) rfl ?_
 walk_at "rd";have e1:(Lc " ").cps.toList=[32]:=by decide
 have e2:(Lc "~").cps.toList=[126]:=by decide
 rw[e1,e2]
 by_cases h1:c < 32
 ·rw[if_neg (not_not_intro ((lt1 c 32).mpr h1))]
  have e:Yf c=false:=decide_eq_false λh=>by lia
  rw[<- e];exact q
 rw[if_pos (λh=>h1 ((lt1 c 32).mp h))]
 by_cases h2:126 < c
 ·rw[if_neg (not_not_intro ((lt1 126 c).mpr h2))]
  have e:Yf c=false:=decide_eq_false λh=>by lia
  rw[<- e];exact q
 rw[if_pos (λh=>h2 ((lt1 126 c).mp h))]
 refine⟨rfl,?_⟩
 have e:(!decide (((#[c].getD 0 0:Nat):Int)=37))=Yf c:=by
  have e0:#[c].getD 0 0=c:=rfl;rw[e0];unfold Yf
  by_cases h3:c=37
  ·rw[decide_eq_true (show((c:Nat):Int)=37 by lia),decide_eq_false (λh=>h.2.2 h3)];rfl
  ·rw[decide_eq_false (show ¬ ((c:Nat):Int)=37 by lia),decide_eq_true (show 32<=c/\c<=126/\c≠37 by lia)];rfl
 rw[e];exact q
theorem YDa(z:Str):z.length=z.cps.toList.length:=by simp[Ox]
theorem ZAb{cs:List Nat}{f:Nat->Bool}(h:∀ c∈cs,f c=true)(hl:ys.length=cs.length)(h2:∀ (i:Nat) y,ys[i]?=Vo y->∃ c,cs[i]?=Vo c/\y=.bl (f c)):ys=(Od cs.length true).map V.bl:=by
 refine IG (by simp[hl]) λi g1 g2=>?_
 obtain⟨c,e1,e2⟩:=h2 i _ (IE g1)
 rw[e2,h c (Om e1)];simp
inductive Qva(aj:VD)(vs:List V)(H:Hp)(Q:VK)(E:XK):Prop
 | mk:∀ z,∀ n:Nat,vs=[.str z,.int n]->GT n z->(∀ H',Qj H H'->Q (.bl true) H')->Qva aj vs H Q E
seal PE PT PW PA PS PSs PI PG QM PGs PO in
theorem Qyc(Z:Zs mg)(T:Tx K mg CT cs ob)(xA:Cal P w K mg base 1 "is_sign" ["one"] (Jva K))(F:Fun K "is_text" "is_text" ZEa f fd):Qy P w K mg base CX0 2 f fd ["thing","least"] (Qva K):=by
 refine F.ok Qec (λvs H Q E h=>?_) (λah A outer s H vs Q E hr h=>?_)
 ·walk_at "n"
 obtain⟨z,n,rfl,⟨h1,h2,h3⟩,q⟩:=h;refine⟨_,(Qc (QG (PW.pt (Y3 (Q8 (QR (Qq QE rfl (Z.isinstance) Qu (Qf (pv 0) (Qf (Q4 rfl (Z.str) XT (v:=.ty "str") rfl) Qb))) (λ_=>rfl))) (J5 (Q8 (J7b Q1c Q1c (pv 1) (Qq Yk rfl (Z.len) Zk (Qf (pv 0) Qb)) (Zxa (Z.MOST_SIGNS) rfl)))))) (Qe (Qn JU)) Qr)
  (Qe (Qn (Qq (Zmb rfl) rfl (Z.all) YWc (Qf (Zo ["thing","least"] rfl (Ye (N:=["thing","least"]) (dsc:=Qg ZEa) rfl rfl (by decide +kernel)) (XUb (pv 0)) (λ_ _ _ _ _=>Jj) (λ_ _ _ _ _=>(Qo xA hr (Qf (pv 0) Qb)))) Qb))))),?_⟩
 refine Qk (σ:=[Vo (.str z),Vo (.int n)]) rfl ?_
 walk_at "rd";refine Q3 (.str z) Zu ⟨_,rfl,(if_neg (λh=>Dr h)).mpr ⟨Q2 #[0],(if_pos #[0]).mpr ((if_neg (not_not_intro #[0])).mpr ?_)⟩⟩
 refine Zdc (λi v=>∃ c,z.cps.toList[i]?=Vo c/\v=.bl (Yf c)) (Q2 #[0]) (λi c H2 R hc s2 hR=>?_) λD H2 ys hD s2 hy ly py=>?_
 ·walk_at "rd"
  exact⟨c,rfl,hR _ _ ⟨c,hc,rfl⟩ (Qj.refl _)⟩
 ·refine⟨D,rfl,Od z.cps.toList.length true,SqL.of (by rw[hy,ZAb h3 (by rw[ly,YDa]) py]),?_⟩
  rw[show(Od z.cps.toList.length true).all id=true by simp]
  exact q _ s2
inductive YEa(aj:VD)(vs:List V)(H:Hp)(Q:VK)(E:XK):Prop
 | mk:∀ v,vs=[v]->GK v->(∀ H',Qj H H'->Q (.bl true) H')->YEa aj vs H Q E
seal PE PT PW PA PS PSs PI PG QM PGs PO in
theorem JGc(Z:Zs mg)(T:Tx K mg CT cs ob)(pw:Cal P w K mg base 2 "is_number" ["thing"] (Qua K))(pA:Cal P w K mg base 2 "is_text" ["thing","least"] (Qva K))(F:Fun K "is_key" "is_key" X4a f fd):Qy P w K mg base CX0 3 f fd ["thing"] (YEa K):=by
 refine F.ok Jzc (λvs H Q E h=>?_) (λah A outer s H vs Q E hr h=>?_)
 ·walk_at "n"
 obtain⟨v,rfl,hv,q⟩:=h;refine⟨_,(Qe (Qn (QXc (Qo pw hr (Qf (pv 0) Qb)) (J6 (Qo pA hr (Qf (pv 0) (Qf Qd Qb))))))),?_⟩
 refine Qk (σ:=[Vo v]) rfl ?_
 walk_at "rd";cases v with
 | int i=>exact .inl ⟨i,rfl,hv.1,hv.2,_,rfl,(if_pos rfl).mpr (q _ (Qj.refl _))⟩
 | str z=>exact .inr ⟨z,rfl,_,rfl,(if_neg Uh).mpr ⟨z,1,rfl,hv,q⟩⟩
 | _=>exact hv.elim
inductive Zoa(aj:VD)(vs:List V)(H:Hp)(Q:VK)(E:XK):Prop
 | mk:∀ v,vs=[v]->GP v->(∀ H',Qj H H'->Q (.bl true) H')->Zoa aj vs H Q E
seal PE PT PW PA PS PSs PI PG QM PGs PO in
theorem Y4b(Z:Zs mg)(T:Tx K mg CT cs ob)(pw:Cal P w K mg base 2 "is_number" ["thing"] (Qua K))(pA:Cal P w K mg base 2 "is_text" ["thing","least"] (Qva K))(F:Fun K "is_plain" "is_plain" Jja f fd):Qy P w K mg base CX0 3 f fd ["thing"] (Zoa K):=by
 refine F.ok YKb (λvs H Q E h=>?_) (λah A outer s H vs Q E hr h=>?_)
 ·walk_at "n"
 obtain⟨v,rfl,hv,q⟩:=h;refine⟨_,(Qe (Qn (QXc (Y4 Xsa (pv 0) YE (Qv _)) (QXc (Qo pw hr (Qf (pv 0) Qb)) (J6 (Qo pA hr (Qf (pv 0) (Qf Qd Qb)))))))),?_⟩
 refine Qk (σ:=[Vo v]) rfl ?_
 walk_at "rd";cases v with
 | non=>exact(if_pos rfl).mpr (q _ (Qj.refl _))
 | int i=>exact(if_neg (λz=>V.noConfusion z)).mpr (.inl ⟨i,rfl,hv.1,hv.2,_,rfl,(if_pos rfl).mpr (q _ (Qj.refl _))⟩)
 | str z=>exact(if_neg (λz=>V.noConfusion z)).mpr (.inr ⟨z,rfl,_,rfl,(if_neg Uh).mpr ⟨z,0,rfl,hv,q⟩⟩)
 | _=>exact hv.elim
inductive Jwa(aj:VD)(vs:List V)(H:Hp)(Q:VK)(E:XK):Prop
 | mk:∀ z,vs=[.str z]->GW z->(∀ H',Qj H H'->Q (.bl true) H')->Jwa aj vs H Q E
seal PE PT PW PA PS PSs PI PG QM PGs PO in
theorem Qzc(Z:Zs mg)(T:Tx K mg CT cs ob)(F:Fun K "is_word" "is_word" ZDa f fd):Qy P w K mg base CX0 1 f fd ["thing"] (Jwa K):=by
 refine F.ok Qcc (λvs H Q E h=>?_) (λah A outer s H vs Q E hr h=>?_)
 ·walk_at "n"
 obtain⟨z,rfl,⟨h1,h2,h3⟩,q⟩:=h;refine⟨_,(Qc (QG (PW.pt (Y3 (Q8 (QR (Qq QE rfl (Z.isinstance) Qu (Qf (pv 0) (Qf (Q4 rfl (Z.str) XT (v:=.ty "str") rfl) Qb))) (λ_=>rfl))) (J5 (Q8 (J7b Q1c Q1c Qd (Qq Yk rfl (Z.len) Zk (Qf (pv 0) Qb)) (Zxa (Z.MOST_LETTERS) rfl)))))) (Qe (Qn JU)) Qr)
  (Qe (Qn (Qq (Zmb rfl) rfl (Z.all) YWc (Qf (Zo ["thing"] rfl (Ye (N:=["thing"]) (dsc:=Qg ZDa) rfl rfl (by decide +kernel)) (XUb (pv 0)) (λ_ _ _ _ _=>Jj) (λ_ _ _ _ _=>(JFa Zya Zya Xk (pv 0) Xk))) Qb))))),?_⟩
 refine Qk (σ:=[Vo (.str z)]) rfl ?_
 walk_at "rd";have e1:(Lc "a").cps.toList=[97]:=by decide
 have e2:(Lc "z").cps.toList=[122]:=by decide
 refine Q3 (.str z) Zu ⟨_,rfl,(if_neg (λh=>Dr h)).mpr ⟨Q2 #[0],(if_pos #[0]).mpr ((if_neg (not_not_intro #[0])).mpr ?_)⟩⟩
 refine Zdc (λi v=>∃ c,z.cps.toList[i]?=Vo c/\v=.bl (Xea c)) (Q2 #[0]) (λi c H2 R hc s2 hR=>?_) λD H2 ys hD s2 hy ly py=>?_
 ·walk_at "rd"
  have lc:=of_decide_eq_true (h3 c (Om hc));rw[e1,e2,if_pos (λh=>absurd ((lt1 c 97).mp h) #[0]),decide_eq_false (λh=>absurd ((lt1 122 c).mp h) #[0])]
  exact hR _ _ ⟨c,hc,by rw[h3 c (Om hc)];rfl⟩ (Qj.refl _)
 ·refine⟨D,rfl,Od z.cps.toList.length true,SqL.of (by rw[hy,ZAb h3 (by rw[ly,YDa]) py]),?_⟩
  rw[show(Od z.cps.toList.length true).all id=true by simp]
  exact q _ s2
inductive Qwa(K:VD)(vs:List V)(H:Hp)(Q:VK)(E:XK):Prop
 | mk:∀ (a:Vh) (ns:List Int) (k:Nat),vs=[.ref a,.int k]->SqL K H a (ns.map V.int)->(∀ c,Q (.int c) H)->Qwa K vs H Q E
seal PE PT PW PA PS PSs PI PG QM PGs PO in
theorem JBb(Z:Zs mg)(T:Tx K mg CT cs ob)(F:Fun K "_law_cell" "_law_cell" QYa f fd):Qy P w K mg base CX0 1 f fd ["_law_script","_law_k"] (Qwa K):=by
 refine F.ok Jdb (λvs H Q E h=>?_) (λah A outer s H vs Q E hr h=>?_)
 ·walk_at "n"
 obtain⟨a,ns,k,rfl,hS,q⟩:=h;refine⟨_,(Qc (QG (Qs QMa (pv 1) (Qq QJ rfl (Z.len) Zk (Qf (pv 0) Qb)) (Qv _)) (Qe (Qn (Qt Q0 (pv 0) (pv 1) (λ_ _=>rfl)))) Qr)
  (Qe (Qn Qd))),?_⟩
 refine Qk (σ:=[Vo (.ref a),Vo (.int k)]) rfl ?_
 walk_at "rd";refine⟨_,.inl hS,Zm (λh=>?_) λ_=>q 0⟩
 rw[UQ]at h;have hk:k < ns.length:=by lia
 exact⟨_,hS,.int ns[k],Za (j:=k) (by simp[hk]),q _⟩
inductive Zi(aj:VD)(vs:List V)(H:Hp)(Q:VK)(E:XK):Prop
 | mk:∀ c k:Int,vs=[.int c,.int k]->(∀ m,0<=m->m < 2147483647->Q (.int m) H)->Zi aj vs H Q E
seal PE PT PW PA PS PSs PI PG QM PGs PO in
theorem Y5b(Z:Zs mg)(T:Tx K mg CT cs ob)(F:Fun K "_law_mix" "_law_mix" Jia f fd):Qy P w K mg base CX0 1 f fd ["_law_cell_here","_law_k"] (Zi K):=by
 refine F.ok QZa (λvs H Q E h=>?_) (λah A outer s H vs Q E hr h=>?_)
 ·walk_at "n"
 obtain⟨c,k,rfl,q⟩:=h;refine⟨_,(Qc (Ql 2 QZa.nd (Qm QF (Qm QQ (Qm QQ (Qm QF (pv 0) Qd) (Qm Z9 Qd (pv 1))) Qd) Qd))
  (Qc (Ql 2 QZa.nd (Qm QF (Qm Z9 (pv 2) (pv 2)) Qd))
  (Qe (Qn (Qm QF (Qm Z9 (Qm QQ (pv 2) (Qm Z9 Qd (pv 1))) Qd) Qd))))),?_⟩
 refine Qk (σ:=[Vo (.int c),Vo (.int k),Vp]) rfl ?_
 walk_at "rd";walk_at "go";exact q _ (Int.emod_nonneg _ #[1]) (Int.emod_lt_of_pos _ #[1])
theorem XTc:(Lc " !\"#$&'()*+,-./0123456789:;<=>?@ABCDEFGHIJKLMNOPQRSTUVWXYZ[\\]^_`"++Lc "abcdefghijklmnopqrstuvwxyz{|}~").cps.toList.all Yf=true:=by decide +kernel
theorem JHc:(Lc " !\"#$&'()*+,-./0123456789:;<=>?@ABCDEFGHIJKLMNOPQRSTUVWXYZ[\\]^_`"++Lc "abcdefghijklmnopqrstuvwxyz{|}~").cps.toList.length=94:=by decide +kernel
theorem JCb{α:Type}{l:List α}{k:Int}{x:α}(h:atI l k=Vo x):x∈l:=by
 unfold atI at h;obtain⟨j,_,h⟩:=Option.bind_eq_some_iff.mp h;exact Om h
inductive Qxa(aj:VD)(vs:List V)(H:Hp)(Q:VK)(E:XK):Prop
 | mk:∀ c:Int,vs=[.int c]->(∀ x:Nat,Yf x=true->Q (.str { cps:=#[x] }) H)->Qxa aj vs H Q E
seal PE PT PW PA PS PSs PI PG QM PGs PO in
theorem JDb(Z:Zs mg)(T:Tx K mg CT cs ob)(F:Fun K "_law_sign" "_law_sign" Q0a f fd):Qy P w K mg base CX0 1 f fd ["_law_cell_here"] (Qxa K):=by
 refine F.ok X8 (λvs H Q E h=>?_) (λah A outer s H vs Q E hr h=>?_)
 ·walk_at "n"
 obtain⟨c,rfl,q⟩:=h;refine⟨_,(Qc (Ql 1 X8.nd Xk)
  (Qc (Ql 1 X8.nd (Qm Xva (pv 1) Xk))
  (Qe (Qn (Qt Ydc (pv 1) (Qm QF (pv 0) Qd) (λ_ _=>rfl)))))),?_⟩
 refine Qk (σ:=[Vo (.int c),Vp]) rfl ?_
 walk_at "rd";obtain⟨x,hx⟩:=J1a (l:=(Lc " !\"#$&'()*+,-./0123456789:;<=>?@ABCDEFGHIJKLMNOPQRSTUVWXYZ[\\]^_`"++Lc "abcdefghijklmnopqrstuvwxyz{|}~").cps.toList) (k:=c % 94) #[0] (by rw[JHc];lia)
 exact⟨by decide,by decide,x,hx,q _ (all_eq_true.mp XTc x (JCb hx))⟩
theorem YGa(h:∀ z∈zs,z.length=1):(Ic (Lc "") zs).length=zs.length:=by
 show(Ic (Lc "") zs).cps.size=_;rw[<- V7,Znb,length_flatMap];have:zs.map (λz=>z.cps.toList.length)=zs.map λ_=>1:=Ir λz hz=>by
  rw[V7];exact h z hz
 rw[this,DL,sum_replicate_nat]
 lia
theorem ZBb{f:Nat->Bool}(h:∀ z∈zs,∀ c∈z.cps.toList,f c=true):∀ c∈(Ic (Lc "") zs).cps.toList,f c=true:=λc hc=>by
 rw[Znb]at hc;obtain⟨z,hz,hc⟩:=mem_flatMap.mp hc;exact h z hz c hc
theorem Y6b(h:∀ z∈zs,z.length=1):(zs.map λx=>x.length).sum=zs.length:=by
 have:zs.map (λz=>z.length)=zs.map λ_=>1:=Ir λz hz=>h z hz
 rw[this,DL,sum_replicate_nat]
 lia
inductive ZT(aj:VD)(vs:List V)(H:Hp)(Q:VK)(E:XK):Prop
 | mk:∀ (c:Int) (n:Nat),vs=[.int c,.int n]->n<=41->(∀ (z:Str) H',z.length=n->(∀ c∈z.cps.toList,Yf c=true)->Qj H H'->Q (.str z) H')->ZT aj vs H Q E
seal PE PT PW PA PS PSs PI PG QM PGs PO in
theorem JEb(Z:Zs mg)(T:Tx K mg CT cs ob)(sg:Cal P w K mg base 1 "_law_sign" ["_law_cell_here"] (Qxa K))(QS:Cal P w K mg base 1 "_law_mix" ["_law_cell_here","_law_k"] (Zi K))(F:Fun K "_law_text" "_law_text" Xc f fd):Qy P w K mg base CX0 2 f fd ["_law_cell_here","_law_size"] (ZT K):=by
 refine F.ok Yr (λvs H Q E h=>?_) (λah A outer s H vs Q E hr h=>?_)
 ·walk_at "n"
 obtain⟨c,n,rfl,hn,q⟩:=h;refine⟨_,(Qc (Ql 2 Yr.nd (Qo sg hr (Qf (Qo QS hr (Qf (pv 0) (Qf Qd Qb))) Qb)))
  (Qc (Ql 3 Yr.nd (Qm QF (Qo QS hr (Qf (pv 0) (Qf Qd Qb))) (Qq (Q8b rfl) rfl (Z.max) Ywc (Qf (pv 1) (Qf Qd Qb)))))
  (Qc (XEa (j:=4) ["_law_cell_here","_law_size","_law_fill","_law_at","_law_signs"] rfl Yr.nd rfl rfl (Ye (N:=["_law_cell_here","_law_size","_law_fill","_law_at","_law_signs"]) (dsc:=Qg Xc) rfl rfl (by decide +kernel)) (YA rfl (Z.range) (Qf (pv 1) Qb)) (λ_ _ _ _ _=>Jj) (λ_ _ _ _ _=>(pv 3)))
  (Qc (QG (Qs Xra (pv 1) Qd (Qv _)) (Qe (JXc (Qo sg hr (Qf (Qo QS hr (Qf (pv 0) (Qf Qd Qb))) Qb)) (JWc (pv 4) (pv 3) Yeb))) Qr)
  (Qe (Qn (YF PySem.F.plainAttrs_str PySem.F.slot_str_join PySem.F.type_str_join Zbc Xk (Qf (pv 4) Qb)))))))),?_⟩
 refine Qk (σ:=[Vo (.int c),Vo (.int n),Vp,Vp,Vp]) rfl ?_
 walk_at "rd";refine⟨_,_,rfl,λm _ _=>⟨_,rfl,λx gx=>⟨_,_,rfl,λm2 h0 _=>?_⟩⟩⟩
 have g1:∀ y:Nat,Yf y=true->∀ c∈({ cps:=#[y] }:Str).cps.toList,Yf c=true:=λy gy c hc=>by
  have:c=y:=by simpa using hc
  rw[this];exact gy
 refine⟨_,_,⟨rfl,rfl⟩,_,rfl,by split <;> lia,by lia,by lia,?_⟩
 have bV:0<=m2 % (if (1:Int) > (n:Int) then 1 else (n:Int))/\m2 % (if (1:Int) > (n:Int) then 1 else (n:Int)) < (if (1:Int) > (n:Int) then 1 else (n:Int)):=⟨Int.emod_nonneg _ (by split <;> lia),Int.emod_lt_of_pos _ (by split <;> lia)⟩
 generalize m2 % (if (1:Int) > (n:Int) then 1 else (n:Int))=aB at bV ⊢
 refine Zib (λi v=>v=.str { cps:=#[x] }) (VL (QA #[0])) (λi H2 R hi s2 hR=>?_) λD H2 ys hD s2 hy ly py=>?_
 ·walk_at "rd"
  exact hR _ _ rfl (Qj.refl _)
 have ly:ys.length=n:=by lia
 have ey:ys=(Od n ({ cps:=#[x] }:Str)).map V.str:=by
  refine IG (by simp[ly]) λi g1 g2=>?_
  rw[py i _ (IE g1)]
  simp
 have o1:∀ z∈Od n ({ cps:=#[x] }:Str),z.length=1:=λz hz=>by rw[(mem_replicate.mp hz).2];rfl
 have o2:∀ z∈Od n ({ cps:=#[x] }:Str),∀ c∈z.cps.toList,Yf c=true:=λz hz=>by rw[(mem_replicate.mp hz).2];exact g1 x gx
 have fin:∀ (H3:Hp) (zs:List Str),zs.length=n->(∀ z∈zs,z.length=1)->(∀ z∈zs,∀ c∈z.cps.toList,Yf c=true)->Qj H H3->H3 D=Vo (.lst (zs.map V.str))->tyV K "str" (V.str (Lc "")) H3/\∃ x,V.ref D=V.ref x/\∃ cY,SqL K H3 x (Da V.str cY)/\(Da (λx=>x.length) cY).sum+cY.length * (Lc "").length<=16777216/\Q (V.str (Ic (Lc "") cY)) H3:=λH3 zs lz oz gz s3 h3 =>
  ⟨rfl,D,rfl,zs,SqL.of h3,by rw[Y6b oz,lz];have:(Lc "").length=0:=rfl;rw[this];lia,q _ _ (by rw[YGa oz,lz]) (ZBb gz) s3⟩
 refine Zm (λhp=>?_) λ_=>fin H2 _ #[2] o1 o2 s2 (by rw[hy,ey])
 refine⟨_,_,rfl,λm _ _=>⟨_,rfl,λy gy=>?_⟩⟩
 walk_at "rd";have hj:ixN ys.length aB=Vo aB.toNat:=by
  unfold ixN;rw[if_pos bV.1,if_pos (by rw[ly];have:=bV.2;rw[if_neg #[0]]at this;exact this)]
 refine⟨D,ys,_,aB.toNat,rfl,rfl,hy,hj,?_⟩
 walk_at "rd";have g3:upd H2 D (.lst (ys.set aB.toNat (.str { cps:=#[y] }))) D=_:=Qa;have s3:Qj H (upd H2 D (.lst (ys.set aB.toNat (.str { cps:=#[y] })))):=λb o hb=>by
  rw[Qh (λz=>by rw[z,hD]at hb;cases hb)];exact s2 b o hb
 have pB:=fin _ ((Od n ({ cps:=#[x] }:Str)).set aB.toNat { cps:=#[y] }) #[2] (λz hz=>by
  rcases Ds hz with hz | rfl
  ·exact o1 z hz
  ·rfl) (λz hz=>by
  rcases Ds hz with hz | rfl
  ·exact o2 z hz
  ·exact g1 y gy) s3 (by rw[g3,ey,map_set])
 obtain⟨f1,_,e,f2⟩:=pB;cases e;exact⟨f1,f2⟩
theorem Q5d{k:Int}(h1 : -(2 ^ 128) < k)(h2:k < 2 ^ 128):Ii k<=2 ^ 20:=by
 unfold Ii
 split
 ·exact Uy _
 ·have hn:k.natAbs < 2 ^ 128:=by lia
  have:k.natAbs.log2 < 128:=by
   rcases Nat.eq_zero_or_pos k.natAbs with h0 | hp
   ·rw[h0];decide
   ·exact(Nat.log2_lt (Ui hp)).mpr hn
  lia
theorem Q6d{i j:Int}(h1 : -(2 ^ 64) < i)(h2:i < 2 ^ 64):IntMulOk i j:=.of_left (UB h1 h2)
theorem YJd{i j:Int}(h1 : -(2 ^ 64) < j)(h2:j < 2 ^ 64):IntMulOk i j:=.of_right (UB h1 h2)
inductive JS(aj:VD)(vs:List V)(H:Hp)(Q:VK)(E:XK):Prop
 | mk:∀ c:Int,vs=[.int c]->(∀ i:Int,-(10 ^ 30) < i->i < 10 ^ 30->Q (.int i) H)->JS aj vs H Q E
seal PE PT PW PA PS PSs PI PG QM PGs PO in
theorem QRb(Z:Zs mg)(T:Tx K mg CT cs ob)(F:Fun K "_law_great" "_law_great" X9 f fd):Qy P w K mg base CX0 1 f fd ["_law_cell_here"] (JS K):=by
 refine F.ok QGb (λvs H Q E h=>?_) (λah A outer s H vs Q E hr h=>?_)
 ·walk_at "n"
 obtain⟨c,rfl,q⟩:=h;refine⟨_,(Qe (Qn (Qm Ji (Qm QF (Qm Z9 (Qm QF (pv 0) (Qm XR Qd Qd)) Qd) (Qm Ji (Qm Z9 Qd (Qm XR Qd Qd)) Qd)) (Qm Ji (Qm XR Qd Qd) Qd)))),?_⟩
 refine Qk (σ:=[Vo (.int c)]) rfl ?_
 walk_at "rd";refine⟨by unfold Qwb;decide,by decide,IntMulOk.of_bits (Q5d #[0] #[0]) (by decide +kernel),by unfold Qwb;decide,Q6d #[1] #[1],by decide,by unfold Qwb;decide,q _ #[0] #[0]⟩
inductive Qya(aj:VD)(vs:List V)(H:Hp)(Q:VK)(E:XK):Prop
 | mk:∀ c:Int,vs=[.int c]->(∀ i H',-(10 ^ 30) < i->i < 10 ^ 30->Qj H H'->Q (.int i) H')->Qya aj vs H Q E
seal PE PT PW PA PS PSs PI PG QM PGs PO in
theorem JFb(Z:Zs mg)(T:Tx K mg CT cs ob)(QS:Cal P w K mg base 1 "_law_mix" ["_law_cell_here","_law_k"] (Zi K))(F:Fun K "_law_tall" "_law_tall" Q5a f fd):Qy P w K mg base CX0 2 f fd ["_law_cell_here"] (Qya K):=by
 refine F.ok Ys (λvs H Q E h=>?_) (λah A outer s H vs Q E hr h=>?_)
 ·walk_at "n"
 obtain⟨c,rfl,q⟩:=h;refine⟨_,(Qc (Ql 1 Ys.nd (Qm QF (Qo QS hr (Qf (pv 0) (Qf Qd Qb))) Qd))
  (Qc (Ql 2 Ys.nd (Qm Z9 (Qm QF (Qm ZP (pv 0) Qd) Qd) (Qt Q0 (Zj (Qf Qd (Qf Qd (Qf Qd (Qf Qd (Qf Qd (Qf Qd Qb))))))) (Qm QF (pv 0) Qd) (λ_ _=>rfl))))
  (Qc (Ql 3 Ys.nd (Qm QQ (Qm Z9 (pv 1) Qd) (Qm J3c (Qm QF (pv 1) Qd) (pv 2))))
  (Qe (Qn (Qm QQ (Qm QF (Qm Z9 (Qm Ji (pv 3) Qd) Qd) Qd) (Qm Z9 Qd (Qm Ji (Qm QF (Qm ZP (pv 0) Qd) Qd) Qd)))))))),?_⟩
 refine Qk (σ:=[Vo (.int c),Vp,Vp,Vp]) rfl ?_
 walk_at "rd";refine⟨_,_,rfl,λm _ _=>⟨_,rfl,by unfold Z0a;decide,show 6<=Vs from VL (QA #[0]),λp hp=>⟨_,SqL.of Qa,?_⟩⟩⟩
 have hx:∃ x,atI [V.int 4,V.int 16,V.int 64,V.int 256,V.int 1024,V.int 4096] (c % 6)=Vo (V.int x):=by
  have h:c % 6=0\/c % 6=1\/c % 6=2\/c % 6=3\/c % 6=4\/c % 6=5:=by lia
  rcases h with h | h | h | h | h | h <;> rw[h] <;> exact⟨_,rfl⟩
 obtain⟨x,hx⟩:=hx;exact⟨_,hx,_,rfl,Q6d #[0] #[0],Q6d #[0] #[0],YJd #[1] #[1],by unfold Z0a;decide,Q6d #[1] #[1],q _ _ #[0] #[0] (Qi hp _)⟩
inductive Zpa(aj:VD)(vs:List V)(H:Hp)(Q:VK)(E:XK):Prop
 | mk:∀ c:Int,vs=[.int c]->(∀ v H',GK v->Qj H H'->Q v H')->Zpa aj vs H Q E
seal PE PT PW PA PS PSs PI PG QM PGs PO in
theorem Y7b(Z:Zs mg)(T:Tx K mg CT cs ob)(pC:Cal P w K mg base 2 "_law_text" ["_law_cell_here","_law_size"] (ZT K))(xB:Cal P w K mg base 2 "_law_tall" ["_law_cell_here"] (Qya K))(pD:Cal P w K mg base 1 "_law_great" ["_law_cell_here"] (JS K))(F:Fun K "_law_key" "_law_key" Jma f fd):Qy P w K mg base CX0 3 f fd ["_law_cell_here"] (Zpa K):=by
 refine F.ok Xd (λvs H Q E h=>?_) (λah A outer s H vs Q E hr h=>?_)
 ·walk_at "n"
 obtain⟨c,rfl,q⟩:=h;refine⟨_,(Qc (Ql 1 Xd.nd (Qm ZP (pv 0) Qd))
  (Qc (QG (Qs ZK (Qm QF (pv 0) Qd) Qd (Qv _)) (Qe (Qn (Qm Ji (Qm QF (pv 1) Qd) Qd))) Qr)
  (Qc (QG (Qs ZK (Qm QF (pv 0) Qd) Qd (Qv _)) (Qe (Qn (Qo xB hr (Qf (pv 1) Qb)))) Qr)
  (Qc (QG (Qs ZK (Qm QF (pv 0) Qd) Qd (Qv _)) (Qe (Qn (Qo pD hr (Qf (pv 1) Qb)))) Qr)
  (Qc (Ql 2 Xd.nd (Qm QQ Qd (Qm QF (pv 1) Qd)))
  (Qc (QG (Qs ZK (Qm QF (Qm ZP (pv 1) Qd) Qd) Qd (Qv _)) (Qe (Ql 2 Xd.nd (Qm QQ Qd (Qm QF (Qm ZP (pv 1) Qd) Qd)))) Qr)
  (Qe (Qn (Qo pC hr (Qf (pv 1) (Qf (pv 2) Qb))))))))))),?_⟩
 refine Qk (σ:=[Vo (.int c),Vp,Vp]) rfl ?_
 walk_at "rd";have tx:∀ (a b:Int) (E:XK),1<=b->b<=40->ZT K [.int a,.int b] H Q E:=λa b E h0 h1=>by
  obtain⟨n,rfl⟩:=Du (show 0<=b by lia)
  exact⟨_,n,rfl,by lia,λz H' hz gz s=>q _ _ (show GT 1 z from⟨by lia,by lia,gz⟩) s⟩
 refine⟨by unfold Z0a;decide,Zm (λ_=>q _ _ (show _/\_ by lia) (Qj.refl _)) λ_=>Zm (λ_=>⟨_,rfl,λi H' h0 h1 s=>q _ _ (show _/\_ by lia) s⟩) λ_=>Zm (λ_=>⟨_,rfl,λi h0 h1=>q _ _ (show _/\_ by lia) (Qj.refl _)⟩) λ_=>⟨by unfold Z0a;decide,Zm (λ_=>⟨by unfold Z0a;decide,tx _ _ _ #[0] #[0]⟩) λ_=>tx _ _ _ #[0] #[0]⟩⟩
inductive JT(aj:VD)(vs:List V)(H:Hp)(Q:VK)(E:XK):Prop
 | mk:∀ c:Int,vs=[.int c]->(∀ v H',GP v->v≠.non->Qj H H'->Q v H')->JT aj vs H Q E
seal PE PT PW PA PS PSs PI PG QM PGs PO in
theorem QSb(Z:Zs mg)(T:Tx K mg CT cs ob)(pC:Cal P w K mg base 2 "_law_text" ["_law_cell_here","_law_size"] (ZT K))(pD:Cal P w K mg base 1 "_law_great" ["_law_cell_here"] (JS K))(F:Fun K "_law_plain" "_law_plain" Qba f fd):Qy P w K mg base CX0 3 f fd ["_law_cell_here"] (JT K):=by
 refine F.ok JL (λvs H Q E h=>?_) (λah A outer s H vs Q E hr h=>?_)
 ·walk_at "n"
 obtain⟨c,rfl,q⟩:=h;refine⟨_,(Qc (Ql 1 JL.nd (Qm ZP (pv 0) Qd))
  (Qc (QG (Qs ZK (Qm QF (pv 0) Qd) Qd (Qv _)) (Qe (Qn (Qm Ji (Qm QF (pv 1) Qd) Qd))) Qr)
  (Qc (QG (Qs ZK (Qm QF (pv 0) Qd) Qd (Qv _)) (Qe (Qn (Qo pD hr (Qf (pv 1) Qb)))) Qr)
  (Qc (Ql 2 JL.nd (Qm QF (pv 1) Qd))
  (Qc (QG (Qs ZK (Qm QF (Qm ZP (pv 1) Qd) Qd) Qd (Qv _)) (Qe (Ql 2 JL.nd (Qm QF (Qm ZP (pv 1) Qd) Qd))) Qr)
  (Qe (Qn (Qo pC hr (Qf (pv 1) (Qf (pv 2) Qb)))))))))),?_⟩
 refine Qk (σ:=[Vo (.int c),Vp,Vp]) rfl ?_
 walk_at "rd";have tx:∀ (a b:Int) (E:XK),0<=b->b<=40->ZT K [.int a,.int b] H Q E:=λa b E h0 h1=>by
  obtain⟨n,rfl⟩:=Du h0;exact⟨_,n,rfl,by lia,λz H' hz gz s=>q _ _ (show GT 0 z from⟨by lia,by lia,gz⟩) (λz=>by cases z) s⟩
 refine⟨by unfold Z0a;decide,Zm (λ_=>q _ _ (show _/\_ by lia) (λz=>by cases z) (Qj.refl _)) λ_=>Zm (λ_=>⟨_,rfl,λi h0 h1=>q _ _ (show _/\_ by lia) (λz=>by cases z) (Qj.refl _)⟩) λ_=>⟨by unfold Z0a;decide,Zm (λ_=>⟨by unfold Z0a;decide,tx _ _ _ #[0] #[0]⟩) λ_=>tx _ _ _ #[0] #[0]⟩⟩
inductive QAa(aj:VD)(vs:List V)(H:Hp)(Q:VK)(E:XK):Prop
 | mk:∀ v,∀ i:Int,vs=[v,.int i]->GK v->(∀ v' H',GK v'->Qj H H'->Q v' H')->QAa aj vs H Q E
seal PE PT PW PA PS PSs PI PG QM PGs PO in
theorem JGb(Z:Zs mg)(T:Tx K mg CT cs ob)(F:Fun K "_law_near" "_law_near" Q1a f fd):Qy P w K mg base CX0 1 f fd ["_law_key_here","_law_way"] (QAa K):=by
 refine F.ok Jeb (λvs H Q E h=>?_) (λah A outer s H vs Q E hr h=>?_)
 ·walk_at "n"
 obtain⟨v,i,rfl,hv,q⟩:=h;refine⟨_,(Qc (QG (QR (Qq QE rfl (Z.isinstance) Qu (Qf (pv 0) (Qf (Q4 rfl (Z.str) XT (v:=.ty "str") rfl) Qb))) (λ_=>rfl)) (Qc (QG (PW.pt (QKa (Qs ZK (pv 1) Qd (Qv _)) (Y2 (Qs QMa (Qq Yk rfl (Z.len) Zk (Qf (pv 0) Qb)) Qd (Qv _))))) (Qe (Qn (Qm Xva (pv 0) Xk))) Qr)
  (Qc (QG (PW.pt (QKa (Qs ZK (pv 1) Qd (Qv _)) (Y2 (Qs Xra (Qq Yk rfl (Z.len) Zk (Qf (pv 0) Qb)) Qd (Qv _))))) (Qe (Qn (JW Z7d (pv 0) Y6 (Y7 (J6b Xqa Qd))))) Qr)
  (Qe (Qn (pv 0))))) Qr)
  (Qc (QG (PW.pt (QKa (Qs ZK (pv 1) Qd (Qv _)) (Y2 (Qs QMa (pv 0) (Qm Ji (Qm XR Qd Qd) Qd) (Qv _))))) (Qe (Qn (Qm QQ (pv 0) Qd))) Qr)
  (Qc (QG (PW.pt (QKa (Qs ZK (pv 1) Qd (Qv _)) (Y2 (Qs Xra (pv 0) (Qm Ji Qd (Qm XR Qd Qd)) (Qv _))))) (Qe (Qn (Qm Ji (pv 0) Qd))) Qr)
  (Qe (Qn (pv 0)))))),?_⟩
 refine Qk (σ:=[Vo v,Vo (.int i)]) rfl ?_
 walk_at "rd";cases v with
 | str z =>
  obtain⟨z1,hz,hg⟩:=id hv;have gP:z.length<=Vs:=VL (QA #[0])
  have e1:(Lc " ").length=1:=rfl;have sl:1 < z.length->GK (.str (Ie z Vp (Vo (-1)))):=λh=>⟨by
   rw[Z1c];unfold Yzc;rw[Og,Ov,<- YDa,HT.Ybb];have e:HT.sIx z.length z.length (Vo (-1))=(-1+(z.length:Int)).toNat:=by
    show(if (-1:Int) < 0 then (-1+(z.length:Int)).toNat else min (-1:Int).toNat z.length)=_
    rw[if_pos #[1]]
   rw[e]
   lia,VJ (Io z Vp (Vo (-1))) hz,λc hc=>hg c (by
   rw[XGa]at hc;unfold Yzc at hc;exact mem_of_mem_drop (IT hc))⟩
  have ta:z.length < 40->GK (.str (z++Lc " ")):=λh=>⟨by rw[strLen_append];lia,by rw[strLen_append,e1];lia,λc hc=>by
   rw[IR]at hc
   rcases mem_append.mp hc with h | h
   ·exact hg c h
   ·have:c=32:=by simpa using (show c∈[32] from h)
    rw[this];rfl⟩
  have q0:=q _ _ hv (Qj.refl H);refine Q3 (.str z) Zu ⟨_,rfl,(if_pos rfl).mpr ?_⟩
  have l3:∀ {p:Prop} [Decidable p],if p then ∃ z_1,V.str z=V.str z_1/\z_1.length<=Vs/\if (1:Int) < z_1.length then ∃ z_2,V.str z=V.str z_2/\z_2.length<=Vs/\Q (V.str (Ie z_2 Vp (Vo (-1)))) H else Q (V.str z) H else Q (V.str z) H:=λ{p} _=>Zm (λ_=>⟨z,rfl,gP,Zm (λh=>⟨z,rfl,gP,q _ _ (sl #[0]) (Qj.refl _)⟩) λ_=>q0⟩) λ_=>q0
  exact Zm (λ_=>⟨z,rfl,gP,Zm (λh=>⟨z,rfl,VL (QA #[0]),q _ _ (ta #[0]) (Qj.refl _)⟩) λ_=>l3⟩) λ_=>l3
 | int n =>
  have b1:=hv.1;have b2:=hv.2;have q0:=q _ _ hv (Qj.refl H);refine Q3 (.int n) Xg ⟨_,rfl,(if_neg Uh).mpr ?_⟩
  have l3:∀ {p:Prop} [Decidable p],if p then Qwb 10 30/\∃ i,V.int n=V.int i/\if 1 - 10 ^ 30 < i then ∃ i,V.int n=V.int i/\Q (V.int (i - 1)) H else Q (V.int n) H else Q (V.int n) H:=λ{p} _=>Zm (λ_=>⟨by unfold Qwb;decide,n,rfl,Zm (λh=>⟨n,rfl,q _ _ (show _/\_ by lia) (Qj.refl _)⟩) λ_=>q0⟩) λ_=>q0
  exact Zm (λ_=>⟨by unfold Qwb;decide,n,rfl,Zm (λh=>⟨n,rfl,q _ _ (show _/\_ by lia) (Qj.refl _)⟩) λ_=>l3⟩) λ_=>l3
 | _=>exact hv.elim
inductive QBa(aj:VD)(vs:List V)(H:Hp)(Q:VK)(E:XK):Prop
 | mk:∀ c:Int,vs=[.int c]->(∀ r H' xs,Qj H H'->H r=Vp->H' r=Vo (.lst xs)->xs.length=24->(∀ v∈xs,GK v)->Q (.ref r) H')->QBa aj vs H Q E
seal PE PT PW PA PS PSs PI PG QM PGs PO in
theorem JHb(Z:Zs mg)(T:Tx K mg CT cs ob)(xC:Cal P w K mg base 3 "_law_key" ["_law_cell_here"] (Zpa K))(QS:Cal P w K mg base 1 "_law_mix" ["_law_cell_here","_law_k"] (Zi K))(xE:Cal P w K mg base 1 "_law_near" ["_law_key_here","_law_way"] (QAa K))(F:Fun K "_law_pool" "_law_pool" Q8a f fd):Qy P w K mg base CX0 4 f fd ["_law_cell_here"] (QBa K):=by
 refine F.ok Yu (λvs H Q E h=>?_) (λah A outer s H vs Q E hr h=>?_)
 ·walk_at "n"
 obtain⟨c,rfl,q⟩:=h;refine⟨_,(Qc (Ql 1 Yu.nd (Zj Qb))
  (Qc (Zw Dc rfl (YA rfl (Z.range) (Qf Qd Qb)) (QW (i:=2) Yu.nd rfl (ON rfl)) (Qc (Ql 3 Yu.nd (Qo xC hr (Qf (Qo QS hr (Qf (pv 0) (Qf (Qm QQ Qd (pv 2)) Qb))) Qb)))
  (Qc (QZ (YF De Df Dg ZB (pv 1) (Qf (pv 3) Qb)))
  (Qe (QZ (YF De Df Dg ZB (pv 1) (Qf (Qo xE hr (Qf (pv 3) (Qf (Qm QQ Qd (Qm QF (pv 2) Qd)) Qb))) Qb)))))))
  (Qe (Qn (pv 1))))),?_⟩
 refine Qk (σ:=[Vo (.int c),Vp,Vp,Vp]) rfl ?_
 walk_at "rd";refine⟨Uy _,λff bW=>⟨by decide,by decide,?_⟩⟩
 have s0:=Qi bW (.lst []);have ba:upd H ff (.lst []) ff=Vo (.lst []):=Qa;generalize upd H ff (.lst [])=H0 at s0 ba ⊢;refine Jx (λi σ' H'=>∃ zs x2 x3,σ'=[Vo (.int c),Vo (.ref ff),x2,x3]/\Qj H H'/\H' ff=Vo (.lst zs)/\zs.length=2 * i/\i<=12/\∀ v∈zs,GK v) ⟨[],_,_,rfl,s0,ba,rfl,by lia,λv h=>nomatch h⟩ ?_ ?_
 ·rintro i σ' H' hi ⟨zs,x2,x3,rfl,s',hf,lz,li,hz⟩
  walk_at "rd";refine⟨_,_,rfl,λm _ _=>⟨_,rfl,λv H2 hv s2=>?_⟩⟩
  walk_at "rd";refine⟨.inl ⟨rfl,_,SqL.of (s2 _ _ hf)⟩,zs,s2 _ _ hf,QA #[0],.inl ⟨rfl,_,SqL.of Qa⟩,v,_,rfl,hv,λv' H3 fz s3=>?_⟩
  have g3:=s3 _ _ (Qa (H:=H2) (o:=.lst (zs++[v])));refine⟨_,g3,by rw[On];exact QA (by simp;lia),zs++[v]++[v'],_,_,⟨rfl,rfl⟩,Zd ?_ bW,Qa,by simp;lia,by lia,λu hu=>?_⟩
  ·exact λb o hb=>s3 _ _ (by rw[Qh (λz=>by rw[z,bW]at hb;cases hb)];exact s2 _ _ (s' _ _ hb))
  ·simp only[IV,Lv,Lw,or_false]at hu
   rcases hu with (hu | rfl) | rfl
   ·exact hz u hu
   ·exact hv
   ·exact fz
 ·rintro σ' H' ⟨zs,x2,x3,rfl,s',hf,lz,li,hz⟩
  walk_at "rd";exact q ff H' zs s' bW hf (by simpa using lz) hz
def Qib:V->Str
 | .int x=>{ cps:=#[(atI (Lc "abcdefghijklmnopqrstuvwxyz").cps.toList x).getD 97] }
 | _=>{ cps:=#[97] }
theorem Xab(x:Int):Qib (.int x)={ cps:=#[(atI (Lc "abcdefghijklmnopqrstuvwxyz").cps.toList x).getD 97] }:=rfl
inductive Xv(aj:VD)(vs:List V)(H:Hp)(Q:VK)(E:XK):Prop
 | mk:∀ c:Int,∀ n:Nat,vs=[.int c,.int n]->n<=8->(∀ r H' zs,Qj H H'->H r=Vp->H' r=Vo (.lst (Da V.str zs))->zs.length=n->(∀ z∈zs,GW z)->Q (.ref r) H')->Xv aj vs H Q E
theorem Jxa:(Lc "abcdefghijklmnopqrstuvwxyz").cps.toList.all Xea=true/\(Lc "abcdefghijklmnopqrstuvwxyz").cps.toList.length=26:=by decide +kernel
seal PE PT PW PA PS PSs PI PG QM PGs PO in
theorem QTb(Z:Zs mg)(T:Tx K mg CT cs ob)(QS:Cal P w K mg base 1 "_law_mix" ["_law_cell_here","_law_k"] (Zi K))(F:Fun K "_law_names" "_law_names" Jn f fd):Qy P w K mg base CX0 2 f fd ["_law_cell_here","_law_many"] (Xv K):=by
 refine F.ok Q6 (λvs H Q E h=>?_) (λah A outer s H vs Q E hr h=>?_)
 ·walk_at "n"
 obtain⟨c,n,rfl,hn,q⟩:=h;refine⟨_,(Qc (Ql 2 Q6.nd Xk)
  (Qc (Ql 3 Q6.nd (Qm QF (Qo QS hr (Qf (pv 0) (Qf Qd Qb))) Qd))
  (Qc (Ql 4 Q6.nd (Zj Qb))
  (Qc (Zw Dc rfl (YA rfl (Z.range) (Qf (pv 1) Qb)) (QW (i:=5) Q6.nd rfl (ON rfl)) (Qc (XEa (j:=6) ["_law_cell_here","_law_many","_law_letters","_law_at","_law_names_here","_law_k","_law_places","_law_size"] rfl Q6.nd rfl rfl (Ye (N:=["_law_cell_here","_law_many","_law_letters","_law_at","_law_names_here","_law_k","_law_places","_law_size"]) (dsc:=Qg Jn) rfl rfl (by decide +kernel)) (YA rfl (Z.range) (Qf Qd Qb)) (λ_ _ _ _ _=>Jj) (λ_ _ _ _ _=>(Qm QF (Qo QS hr (Qf (pv 1) (Qf (Qm QQ Qd (pv 0)) Qb))) Qd)))
  (Qc (Ql 7 Q6.nd (Qm QQ (Qm QQ (pv 3) Qd) (Qm QF (Qm ZP (pv 0) Qd) (Qm Ji Qd (pv 3)))))
  (Qc (QG (Qs ZK (Qm QF (pv 0) Qd) Qd (Qv _)) (Qe (Ql 7 Q6.nd (Qm QQ (Qm QQ (pv 3) Qd) (Qm QF (Qo QS hr (Qf (pv 0) (Qf (Qm QQ Qd (pv 5)) Qb))) (Qm Ji Qd (pv 3)))))) Qr)
  (Qc (QG (Qs QMa (Qm QF (pv 0) Qd) Qd (Qv _)) (Qe (JXc (Qm QF (Qm QQ (Qt Q0 (pv 6) (pv 3) (λ_ _=>rfl)) (pv 5)) Qd) (JWc (pv 6) (pv 3) Yeb))) (Qe (Ql 7 Q6.nd (Qm QQ Qd (Qm QF (Qm QQ (pv 3) (pv 5)) Qd)))))
  (Qe (QZ (YF De Df Dg ZB (pv 4) (Qf (YF PySem.F.plainAttrs_str PySem.F.slot_str_join PySem.F.type_str_join Zbc Xk (Qf (Zo ["_law_cell_here","_law_many","_law_letters","_law_at","_law_names_here","_law_k","_law_places","_law_size"] rfl (Ye (N:=["_law_cell_here","_law_many","_law_letters","_law_at","_law_names_here","_law_k","_law_places","_law_size"]) (dsc:=Qg Jn) rfl rfl (by decide +kernel)) (Jh (JW XS (pv 6) Y6 (Y7 (pv 7)))) (λ_ _ _ _ _=>Jj) (λ_ _ _ _ _=>(Qt Ydc (pv 3) (pv 0) (λ_ _=>rfl)))) Qb)) Qb)))))))))
  (Qe (Qn (pv 4))))))),?_⟩
 refine Qk (σ:=[Vo (.int c),Vo (.int n),Vp,Vp,Vp,Vp,Vp,Vp]) rfl ?_
 walk_at "rd";refine⟨_,_,rfl,λm0 _ _=>⟨_,rfl,Uy _,λff bW=>⟨by lia,by lia,?_⟩⟩⟩
 have bV:0<=m0 % 12/\m0 % 12 < 12:=by lia
 generalize m0 % 12=aB at bV ⊢;have s0:=Qi bW (.lst []);have ba:upd H ff (.lst []) ff=Vo (.lst []):=Qa;generalize upd H ff (.lst [])=H0 at s0 ba ⊢;refine Jx (λi σ' H'=>∃ zs x5 x6 x7,σ'=[Vo (.int c),Vo (.int n),Vo (.str (Lc "abcdefghijklmnopqrstuvwxyz")),Vo (.int aB),Vo (.ref ff),x5,x6,x7]/\Qj H H'/\H' ff=Vo (.lst (Da V.str zs))/\zs.length=i/\i<=n/\∀ z∈zs,GW z) ⟨[],_,_,_,rfl,s0,ba,rfl,by lia,λv h=>nomatch h⟩ ?_ ?_
 ·rintro i σ' H' hi ⟨zs,x5,x6,x7,rfl,s',hf,lz,li,hz⟩
  have hi8:i < n:=by lia
  refine QTd λR hR=>?_
  have rest:∀ (D:Vh) (ys:List V) (k:Int) H3,Qj H H3->H3 ff=Vo (.lst (Da V.str zs))->H3 D=Vo (.lst ys)->ys.length=12->(∀ y∈ys,∃ x:Int,y=.int x/\0<=x/\x < 26)->1<=k->k<=12->R [Vo (.int c),Vo (.int n),Vo (.str (Lc "abcdefghijklmnopqrstuvwxyz")),Vo (.int aB),Vo (.ref ff),Vo (.int (0+(i:Int))),Vo (.ref D),Vo (.int k)] H3:=λD ys k H3 s3 jW hD ly hy k1 k2=>by
   refine hR _ _ ?_
   clear hR;walk_at "rd";refine⟨.inl ⟨rfl,_,SqL.of jW⟩,rfl,ys,SqL.of hD,λp hp=>?_⟩
   have ec:(XB ys Vp (Vo k)).length=k.toNat:=by
    obtain⟨k,rfl⟩:=Du (show 0<=k by lia)
    unfold XB;rw[Og,Ov,HT.Ybb,HT.ZNb]
    lia
   have hc:∀ y∈XB ys Vp (Vo k),∃ x:Int,y=.int x/\0<=x/\x < 26:=λy h=>hy y (mem_of_mem_drop (IT h))
   generalize XB ys Vp (Vo k)=us at ec hc ⊢;have s4:=Qi hp (.lst us);have g4:upd H3 p (.lst us) p=Vo (.lst us):=Qa;generalize upd H3 p (.lst us)=H4 at s4 g4 ⊢;refine⟨⟨_,SqL.of g4⟩,Xfc us (λ_=>true) (λv=>V.str (Qib v)) (SqL.of g4) (Q2 #[0]) (λi x H2 R _ _ r=>r) (λi x H2 R hi _ s r=>?_) λD2 H5 cN s5 hd=>?_⟩
   ·obtain⟨x,rfl,x0,x1⟩:=hc x (Om hi)
    walk_at "rd";obtain⟨y,hy⟩:=J1a (l:=(Lc "abcdefghijklmnopqrstuvwxyz").cps.toList) (k:=x) x0 (by rw[Jxa.2];lia)
    refine⟨by decide,y,hy,?_⟩
    have:Qib (.int x)={ cps:=#[y] }:=by rw[Xab,hy];rfl
    rw[this]at r;exact r
   ·have o1:∀ z∈us.map Qib,z.length=1:=λz hz=>by obtain⟨v,_,rfl⟩:=mem_map.mp hz;cases v <;> rfl
    have o2:∀ z∈us.map Qib,∀ c∈z.cps.toList,Xea c=true:=λz hz c si=>by
     obtain⟨v,hv,rfl⟩:=mem_map.mp hz;obtain⟨x,rfl,x0,x1⟩:=hc v hv;obtain⟨y,hy⟩:=J1a (l:=(Lc "abcdefghijklmnopqrstuvwxyz").cps.toList) (k:=x) x0 (by rw[Jxa.2];lia)
     rw[Xab,hy]at si;have:c=y:=by simpa using si
     rw[this];exact all_eq_true.mp Jxa.1 y (JCb hy)
    have gw:GW (Ic (Lc "") (us.map Qib)):=⟨by rw[YGa o1,UQ];lia,by rw[YGa o1,UQ];lia,ZBb o2⟩
    refine⟨D2,rfl,us.map Qib,SqL.of (by rw[hd,filter_eq_self.mpr (λ_ _=>rfl),Dv];rfl),by rw[Y6b o1,UQ];have:(Lc "").length=0:=rfl;rw[this];lia,_,s5 _ _ (s4 _ _ jW),by rw[UQ];exact QA #[0],zs++[_],_,_,_,⟨rfl,rfl,rfl⟩,Zd (s3.trans (s4.trans s5)) bW,by rw[Qa,Ip];rfl,by simp;lia,by lia,λz bd=>?_⟩
    rcases mem_append.mp bd with h | h
    ·exact hz z h
    ·rw[mem_singleton.mp h];exact gw
  clear hR;walk_at "rd";refine⟨by decide,by decide,Zib (λj v=>∃ x:Int,v=.int x/\0<=x/\x < 26) (VL (QA #[0])) (λj H2 R hj s2 hR=>?_) λD H2 ys hD s2 hy ly py=>?_⟩
  ·walk_at "rd"
   exact⟨_,_,rfl,λm _ _=>⟨m,rfl,hR _ _ ⟨_,rfl,by lia,by lia⟩ (Qj.refl _)⟩⟩
  have mG:=JAc (P:=λy=>∃ x:Int,y=.int x/\0<=x/\x < 26) py
  have sj:=s'.trans s2;have sk:=s2 _ _ hf;have nD:ff≠D:=λz=>by rw[<- z,hf]at hD;cases hD
  have put:∀ (k:Int),1<=k->k<=12->∃ x,SqL K H2 D x/\∃ x_1,atI x aB=Vo x_1/\∃ i_1,x_1=V.int i_1/\JWd (Yi 6) (Yi 3) Zjd (V.int ((i_1+(0+(i:Int))) % 26)) [Vo (.int c),Vo (.int n),Vo (.str (Lc "abcdefghijklmnopqrstuvwxyz")),Vo (.int aB),Vo (.ref ff),Vo (.int (0+(i:Int))),Vo (.ref D),Vo (.int k)] H2 R:=λk k1 k2=>by
   have ha:ys[aB.toNat]?=Vo (ys[aB.toNat]'#[0]):=IE _
   obtain⟨x,ex,_⟩:=py _ _ ha;refine⟨ys,SqL.of hy,V.int x,?_,x,rfl,?_⟩
   ·have:=Za ha
    rw[show((aB.toNat:Nat):Int)=aB by lia]at this
    rw[this,ex]
   walk_at "rd";have hj:ixN ys.length aB=Vo aB.toNat:=by
    unfold ixN;rw[if_pos bV.1,if_pos #[0]]
   refine⟨D,ys,_,aB.toNat,rfl,rfl,hy,hj,?_⟩
   refine rest D _ k _ (Zd sj (none_of s' hD)) (by rw[Qh nD];exact sk) Qa (by simp;lia) (λy h=>?_) k1 k2
   rcases Ds h with h | rfl
   ·exact mG y h
   ·exact⟨_,rfl,by lia,by lia⟩
  have mH:∀ a:Int,0<=a % (12 - aB)/\a % (12 - aB) < 12 - aB:=λa=>⟨Int.emod_nonneg _ #[0],Int.emod_lt_of_pos _ #[0]⟩
  refine⟨by unfold Z0a;decide,by lia,Zm (λh1=>⟨_,_,rfl,λm _ _=>⟨_,rfl,by lia,Zm (λ_=>⟨D,rfl,put _ (by have:=mH m;lia) (by have:=mH m;lia)⟩) λh=>?_⟩⟩) λ_=>Zm (λ_=>⟨D,rfl,put _ (by have:=mH (c / 3);lia) (by have:=mH (c / 3);lia)⟩) λ_=>?_⟩
  ·lia
  ·exact rest D ys _ H2 sj sk hy #[0] mG #[0] #[0]
 ·rintro σ' H' ⟨zs,x5,x6,x7,rfl,s',hf,lz,li,hz⟩
  walk_at "rd";exact q ff H' zs s' bW hf (by simpa using lz) hz
abbrev Cl:=List (Str×V)
def ltS(a b:Str):Prop:=Pl.ltV (.str a) (.str b)=true
theorem ltS.irr(a:Str):¬ ltS a a:=λh=>by
 have h:Pl.ltV (.str a) (.str a)=true:=h;rw[Pl.Zlb]at h;exact IS _ (of_decide_eq_true h)
def cD(cs:Cl):List Dt:=cs.map λp=>.t [.v (.str p.1),.v p.2]
def rD(r:V×Cl):Dt:=.t [.v r.1,.t (cD r.2)]
theorem ZBc(r:V×Cl):Qx (rD r)=r.1:=rfl
def dkC(ds:Cl):List (Key×V):=ds.map λp=>(Ve p.1,p.2)
def NdC(ds:Cl):Prop:=(ds.map Dw).Nodup
def Z6(cs:Cl)(c:Str):V:=((cs.find? λp=>decide (p.1=c)).map Prod.snd).getD .non
theorem Q7d(ds:Cl)(c:Str):ZM (dkC ds) (.inr c)=(ds.find? λp=>decide (p.1=c)).map Prod.snd:=by
 unfold dkC;rw[JA];have:(λx:Str×V=>decide ((Ve x.1:Key)=Ve c))=λp=>decide (p.1=c):=by funext x;simp
 rw[this]
theorem Xbb(ds:Cl)(c:Str):(ZM (dkC ds) (.inr c)).getD .non=Z6 ds c:=by rw[Q7d];rfl
theorem J3(nd:NdC ds){c:Str}{v:V}(h:(c,v)∈ds):Z6 ds c=v:=by
 unfold Z6;rw[ZN Dw nd h]
 rfl
theorem JIb{c:Str}(h:∀ v,(c,v)∉ds):Z6 ds c=.non:=by
 unfold Z6;rw[JUa Dw λx hx e=>h x.2 (by rw[<- e];exact hx)]
 rfl
structure XI(ds cs:Cl):Prop where
 up:(cs.map Dw).Pairwise ltS
 mem:∀ c v,(c,v)∈cs↔(c,v)∈ds/\v≠.non
theorem XI.nd{cs:Cl}(h:XI ds cs):NdC cs:=by
 refine Dq (λ{a b} hab=>?_) h.up
 rintro rfl;exact ltS.irr _ hab
theorem XI.get{cs:Cl}(nd:NdC ds)(h:XI ds cs)(c:Str):Z6 cs c=Z6 ds c:=by
 by_cases e:∃ v,(c,v)∈ds
 ·obtain⟨v,hv⟩:=e
  rw[J3 nd hv]
  by_cases n:v=.non
  ·subst n
   refine JIb λv' h'=>?_
   obtain⟨h1,h2⟩:=(h.mem c v').mp h';exact h2 ((J3 nd h1).symm.trans (J3 nd hv))
  ·exact J3 h.nd ((h.mem c v).mpr ⟨hv,n⟩)
 ·have e:∀ v,(c,v)∉ds:=λv hv=>e ⟨v,hv⟩
  rw[JIb e];exact JIb λv hv=>e v ((h.mem c v).mp hv).1
def QCa(ds:Cl)(c:Str)(v:V):Cl:=if ds.any (λp=>decide (p.1=c)) then ds.map (λp=>if p.1=c then (p.1,v) else p) else ds++[(c,v)]
theorem ZCc(ds:Cl)(c:Str)(v:V):Yn (dkC ds) (.inr c) v=dkC (QCa ds c v):=by
 unfold Yn QCa dkC;rw[any_map];have:((λkv:Key×V=>decide (kv.1=.inr c)) ∘ λp:Str×V=>((Ve p.1,p.2):Key×V))=λp=>decide (p.1=c):=by funext x;simp
 rw[this]
 split
 ·rw[Dv,Dv]
  refine Ir λp _=>?_
  by_cases e:p.1=c
  ·simp[e]
  ·simp[e]
 ·rw[Ip];rfl
theorem Qjb{c c':Str}{v':V}:(c',v')∈QCa ds c v↔(c'=c/\v'=v)\/(c'≠c/\(c',v')∈ds):=by
 unfold QCa
 split
 ·rename_i h
  obtain⟨q,hq,eq⟩:=any_eq_true.mp h;have eq:=of_decide_eq_true eq;rw[Dx]
  constructor
  ·rintro⟨p,hp,e⟩
   split at e
   ·rename_i ec
    cases e;exact .inl ⟨ec,rfl⟩
   ·rename_i ec
    subst e;exact .inr ⟨ec,hp⟩
  ·rintro(⟨rfl,rfl⟩ | ⟨n,hm⟩)
   ·exact⟨q,hq,by rw[if_pos eq,eq]⟩
   ·exact⟨_,hm,by rw[if_neg n]⟩
 ·rename_i h
  have no:∀ p∈ds,p.1≠c:=λp hp e=>h (any_eq_true.mpr ⟨p,hp,decide_eq_true e⟩)
  rw[IV,DB]
  constructor
  ·rintro(hm | e)
   ·exact .inr ⟨no _ hm,hm⟩
   ·cases e;exact .inl ⟨rfl,rfl⟩
  ·rintro(⟨rfl,rfl⟩ | ⟨n,hm⟩)
   ·exact .inr rfl
   ·exact .inl hm
theorem ZDc(nd:NdC ds)(c:Str)(v:V):NdC (QCa ds c v):=by
 unfold NdC QCa
 split
 ·rw[Dv]
  have:(Dw ∘ λp:Str×V=>if p.1=c then (p.1,v) else p)=Dw:=by
   funext p
   show(if p.1=c then (p.1,v) else p).1=p.1
   split <;> rfl
  rw[this];exact nd
 ·rename_i h
  rw[Ip,Dd];refine⟨nd,by simp,λa ha b hb=>?_⟩
  have hb:b=c:=by simpa using hb
  subst hb;intro z;subst z;obtain⟨q,hq,e⟩:=mem_map.mp ha;exact h (any_eq_true.mpr ⟨q,hq,decide_eq_true e⟩)
theorem Xcb(ds:Cl)(c:Str)(v:V):(QCa ds c v).length<=ds.length+1:=by
 unfold QCa
 split
 ·simp
 ·simp
abbrev Bk:=List (Key×Cl×Vh)
def kvB(B:Bk):List (Key×V):=B.map λx=>(x.1,V.ref x.2.2)
structure Fit(B:Bk)(R:List (V×Cl)):Prop where
 up:R.Pairwise λa b=>ltK a.1 b.1
 pm:(R.map Dw).Perm (B.map λx=>kV x.1)
 cs:∀ r∈R,∀ x∈B,r.1=kV x.1->XI x.2.1 r.2
theorem Fit.nil:Fit [] []:=⟨.nil,.nil,λr h=>nomatch h⟩
theorem Fit.len{R:List (V×Cl)}(h:Fit B R):R.length=B.length:=by
 have:=h.pm.length_eq
 simpa using this
def Jc(B:Bk)(k:Key)(ds:Cl)(a:Vh):Bk:=if B.any (λx=>decide (x.1=k)) then B.map (λx=>if x.1=k then (x.1,ds,a) else x) else B++[(k,ds,a)]
theorem Q8d(B:Bk)(k:Key)(ds:Cl)(a:Vh):Yn (kvB B) k (.ref a)=kvB (Jc B k ds a):=by
 unfold Yn Jc kvB;rw[any_map];have:((λkv:Key×V=>decide (kv.1=k)) ∘ λx:Key×Cl×Vh=>((x.1,V.ref x.2.2):Key×V))=λx=>decide (x.1=k):=by funext x;rfl
 rw[this]
 split
 ·rw[Dv,Dv]
  refine Ir λp _=>?_
  by_cases e:p.1=k
  ·simp[e]
  ·simp[e]
 ·rw[Ip];rfl
theorem XJ{k:Key}{x:Key×Cl×Vh}(h:x∈Jc B k ds a):x=(k,ds,a)\/(x.1≠k/\x∈B):=by
 unfold Jc at h
 split at h
 ·obtain⟨q,hq,e⟩:=mem_map.mp h
  split at e
  ·rename_i ek;subst e;exact .inl (by rw[ek])
  ·rename_i ek;subst e;exact .inr ⟨ek,hq⟩
 ·rename_i hn
  rcases mem_append.mp h with h | h
  ·exact .inr ⟨λe=>hn (any_eq_true.mpr ⟨x,h,decide_eq_true e⟩),h⟩
  ·exact .inl (by simpa using h)
theorem ZCb(B:Bk)(k:Key)(ds:Cl)(a:Vh):(Jc B k ds a).map (·.1)=if B.any (λx=>decide (x.1=k)) then B.map (·.1) else B.map (·.1)++[k]:=by
 unfold Jc
 split
 ·rw[Dv]
  refine Ir λx _=>?_
  show(if x.1=k then (x.1,ds,a) else x).1=x.1
  split <;> rfl
 ·rw[Ip];rfl
theorem ZEc{k:Key}(nd:(B.map (·.1)).Nodup):((Jc B k ds a).map (·.1)).Nodup:=by
 rw[ZCb]
 split
 ·exact nd
 ·rename_i hn
  rw[Dd];refine⟨nd,by simp,λx hx y hy=>?_⟩
  have hy:y=k:=by simpa using hy
  subst hy;intro z;subst z;obtain⟨q,hq,e⟩:=mem_map.mp hx;exact hn (any_eq_true.mpr ⟨q,hq,decide_eq_true e⟩)
theorem XUc(B:Bk)(k:Key)(ds:Cl)(a:Vh):(Jc B k ds a).length<=B.length+1:=by
 unfold Jc
 split
 ·simp
 ·simp
theorem Qkb(B:Bk):B.map (λx=>kV x.1)=(B.map (·.1)).map kV:=by rw[Dv];rfl
theorem ZGd{k k':Key}(h:kV k=kV k'):k=k':=by
 cases k <;> cases k' <;> cases h <;> rfl
theorem Fit.put{R:List (V×Cl)}(h:Fit B R){k:Key}{ds cs:Cl}{a:Vh}(hc:XI ds cs){aM:List Dt}(p:XF ltK (kV k) (rD (kV k,cs)) (R.map rD) aM):∃ R',aM=R'.map rD/\Fit (Jc B k ds a) R':=by
 obtain⟨X,Y,e,e2,h1,h2⟩:=p;have fin:∀ R1 R2:List (V×Cl),X=R1.map rD->Y=R2.map rD->(∀ r∈R1++R2,r∈R)->(R1++R2).Pairwise (λa b=>ltK a.1 b.1)->((R1++(kV k,cs)::R2).map Dw).Perm ((Jc B k ds a).map λx=>kV x.1)->∃ R',aM=R'.map rD/\Fit (Jc B k ds a) R':=λR1 R2 eX eY sub up pm=>by
  have g1:∀ r∈R1,ltK r.1 (kV k):=λr hr=>h1 (rD r) (by rw[eX];exact mem_map.mpr ⟨r,hr,rfl⟩)
  have g2:∀ r∈R2,ltK (kV k) r.1:=λr hr=>h2 (rD r) (by rw[eY];exact mem_map.mpr ⟨r,hr,rfl⟩)
  refine⟨R1++(kV k,cs)::R2,by rw[e,eX,eY,Ip];rfl,?_,pm,λr hr x hx ex=>?_⟩
  ·rw[pairwise_append]at up ⊢
   refine⟨up.1,pairwise_cons.mpr ⟨g2,up.2.1⟩,λa ha b hb=>?_⟩
   rcases mem_cons.mp hb with rfl | hb
   ·exact g1 a ha
   ·exact up.2.2 a ha b hb
  ·have old:r∈R1++R2->XI x.2.1 r.2:=λhr=>by
    rcases XJ hx with e | ⟨_,hB⟩
    ·subst e
     exfalso
     have ex:r.1=kV k:=ex
     rcases mem_append.mp hr with hr | hr
     ·have:=g1 r hr;rw[ex]at this;exact ltK.irr _ this
     ·have:=g2 r hr;rw[ex]at this;exact ltK.irr _ this
    ·exact h.cs r (sub r hr) x hB ex
   rcases mem_append.mp hr with hr | hr
   ·exact old (mem_append.mpr (.inl hr))
   ·rcases mem_cons.mp hr with rfl | hr
    ·rcases XJ hx with e | ⟨n,_⟩
     ·subst e;exact hc
     ·exact absurd (ZGd ex).symm n
    ·exact old (mem_append.mpr (.inr hr))
 have fS:(∃ x∈B,x.1=k)↔∃ r∈R,r.1=kV k:=by
  constructor
  ·rintro⟨x,hx,rfl⟩
   have:kV x.1∈R.map Dw:=h.pm.mem_iff.mpr (mem_map.mpr ⟨x,hx,rfl⟩);obtain⟨r,hr,e⟩:=mem_map.mp this;exact⟨r,hr,e⟩
  ·rintro⟨r,hr,er⟩
   have:r.1∈B.map (λx=>kV x.1):=h.pm.mem_iff.mp (mem_map.mpr ⟨r,hr,rfl⟩)
   obtain⟨x,hx,e⟩:=mem_map.mp this;exact⟨x,hx,ZGd (e.trans er)⟩
 have pk:((Jc B k ds a).map λx=>kV x.1)=if B.any (λx=>decide (x.1=k)) then B.map (λx=>kV x.1) else B.map (λx=>kV x.1)++[kV k]:=by
  rw[Qkb,ZCb]
  split
  ·rw[Qkb]
  ·rw[Ip,Qkb];rfl
 rcases e2 with e2 | ⟨o,e2,ho⟩
 ·obtain⟨R1,R2,eR,eX,eY⟩:=map_eq_append_iff.mp e2
  subst eR;refine fin R1 R2 eX.symm eY.symm (λr hr=>hr) h.up ?_
  rw[pk,if_neg (λz=>by
   obtain⟨x,hx,ex⟩:=any_eq_true.mp z;obtain⟨r,hr,er⟩:=fS.mp ⟨x,hx,of_decide_eq_true ex⟩
   rcases mem_append.mp hr with hr | hr
   ·have:=h1 (rD r) (by rw[<- eX];exact mem_map.mpr ⟨r,hr,rfl⟩);rw[ZBc,er]at this;exact ltK.irr _ this
   ·have:=h2 (rD r) (by rw[<- eY];exact mem_map.mpr ⟨r,hr,rfl⟩);rw[ZBc,er]at this;exact ltK.irr _ this)]
  rw[Ip,UO];have pm:=h.pm;rw[Ip]at pm;exact perm_middle.trans ((List.Perm.cons _ pm).trans (perm_append_singleton _ _).symm)
 ·obtain⟨R1,R2',eR,eX,eY⟩:=map_eq_append_iff.mp e2
  obtain⟨r0,R2,xF,xG,xH⟩:=map_eq_cons_iff.mp eY;subst eR xF;have k0:r0.1=kV k:=by rw[<- xG]at ho;exact ho
  have up:=h.up;refine fin R1 R2 eX.symm xH.symm (λr hr=>?_) (up.sublist (List.Sublist.append_left (sublist_cons_self _ _) _)) ?_
  ·rcases mem_append.mp hr with hr | hr
   ·exact mem_append.mpr (.inl hr)
   ·exact mem_append.mpr (.inr (VO _ hr))
  ·rw[pk,if_pos (any_eq_true.mpr (by
    obtain⟨x,hx,ex⟩:=fS.mpr ⟨r0,by simp,k0⟩
    exact⟨x,hx,decide_eq_true ex⟩))]
   have pm:=h.pm;rw[Ip,UO,k0]at pm;rw[Ip,UO];exact pm
def XL(c:Str)(B:Bk):Bk:=B.map λx=>(x.1,x.2.1.filter (λp=>decide (p.1≠c)),x.2.2)
theorem Fit.drop{R R':List (V×Cl)}(h:Fit B R){c:Str}(p:Vm (λr r'=>r'.1=r.1/\XI (QCa r.2 c .non) r'.2) R R'):Fit (XL c B) R':=by
 have keys:∀ {R R':List (V×Cl)},Vm (λr r'=>r'.1=r.1/\XI (QCa r.2 c .non) r'.2) R R'->R'.map Dw=R.map Dw:=λ{R R'} p=>by
  induction p with
  | nil=>rfl
  | cons a _ ih=>rw[UO,UO,ih,a.1]
 have bk:(XL c B).map (λx=>kV x.1)=B.map λx=>kV x.1:=by unfold XL;rw[Dv];rfl
 refine⟨?_,by rw[keys p,bk];exact h.pm,λr' bO x' aC ex=>?_⟩
 ·have u:=h.up
  have:(R'.map Dw).Pairwise ltK:=by rw[keys p,Dp];exact u
  rwa [Dp]at this
 ·obtain⟨i,hi,ei⟩:=mem_iff_getElem.mp bO
  have l:=Vn p;obtain⟨e1,e2⟩:=QD p (IE (show i < R.length by lia)) (List.getElem?_eq_some_iff.mpr ⟨hi,ei⟩)
  obtain⟨x,hx,rfl⟩:=mem_map.mp aC;have hc:=h.cs _ (IF (show i < R.length by lia)) x hx (e1.symm.trans ex)
  refine⟨e2.up,λc' v=>?_⟩
  show _↔(c',v)∈x.2.1.filter (λp=>decide (p.1≠c))/\v≠.non
  rw[e2.mem,Qjb,DC,hc.mem]
  constructor
  ·rintro⟨⟨rfl,rfl⟩ | ⟨n,a,b⟩,d⟩
   ·exact absurd rfl d
   ·exact⟨⟨a,decide_eq_true n⟩,b⟩
  ·rintro⟨⟨a,n⟩,b⟩
   exact⟨.inr ⟨of_decide_eq_true n,a,b⟩,b⟩
theorem QBc{α:Type}[DecidableEq α]:∀ {l m:List α},l.Nodup->(∀ a∈l,a∈m)->l.length<=m.length
 | [],_,_,_=>Uy _
 | x::l,m,nd,h=>by
  obtain⟨n1,n2⟩:=nodup_cons.mp nd;have hx:=h x VN;have:=QBc (m:=m.erase x) n2 λa ha=>(mem_erase_of_ne (λe=>n1 (by rw[<- e];exact ha))).mpr (h a (VO _ ha))
  rw[length_erase_of_mem hx]at this;have:=length_pos_of_mem hx;rw[UI]
  lia
structure QUb(cs:Cl):Prop where
 nd:NdC cs
 len:cs.length<=60
 ok:∀ p∈cs,p.1.length<=40/\hV p.2=true
theorem XI.ok{cs:Cl}(h:XI ds cs)(o:QUb ds):QUb cs:=⟨h.nd,by
 have:=QBc h.nd λa ha=>show a∈ds.map Dw from by
  obtain⟨p,hp,rfl⟩:=mem_map.mp ha;exact mem_map.mpr ⟨p,((h.mem p.1 p.2).mp hp).1,rfl⟩
 rw[UQ,UQ]at this;have:=o.len
 lia,λp hp=>o.ok p ((h.mem p.1 p.2).mp hp).1⟩
theorem JJb:∀ {ys:List V},(∀ v∈ys,∃ z,v=.str z)->∃ zs:List Str,ys=Da V.str zs
 | [],_=>⟨[],rfl⟩
 | y::ys,h=>by
  obtain⟨z,rfl⟩:=h y VN;obtain⟨zs,rfl⟩:=JJb λv hv=>h v (VO _ hv)
  exact⟨z::zs,rfl⟩
def ZFc:V->Str
 | .str z=>z
 | _=>default
theorem Xdb{cs:Cl}{cv:V}(t:TD H 5 (.t (cD cs)) cv):∃ p ys,cv=.ref p/\H p=Vo (.tup ys)/\Vm (λ(kv:Key×V) y=>∃ t,y=V.ref t/\H t=Vo (.tup [kV kv.1,kv.2])) (dkC cs) ys:=by
 obtain⟨m,p,ys,em,rfl,hp,pr⟩:=t.tup;obtain rfl:m=4:=by lia
 refine⟨p,ys,rfl,hp,?_⟩
 unfold cD at pr;unfold dkC;clear t hp
 induction cs generalizing ys with
 | nil=>cases pr;exact .nil
 | cons c cs ih =>
  cases pr with
  | cons a b =>
   obtain⟨b',x1,x2,eb,hb,w1,w2⟩:=TD.pair_of a;obtain⟨_,rfl⟩:=w1.flat;obtain⟨_,rfl⟩:=w2.flat;exact .cons ⟨b',eb,hb⟩ (ih _ b)
theorem YHa:∀ {more ac:List (Key×V)},((ac++more).map Dw).Nodup->Jw ac more=ac++more
 | [],ac,_=>by rw[U1];rfl
 | x::more,ac,nd=>by
  show Jw (Yn ac x.1 x.2) more=_;have n:ZM ac x.1=Vp:=by
   have:=JUa Dw (xs:=ac) (b:=x.1) λy hy e=>by
    rw[Ip,Dd]at nd;exact nd.2.2 _ (mem_map.mpr ⟨y,hy,rfl⟩) x.1 #[2] e
   unfold ZM;rw[this];rfl
  rw[Zrb n,YHa (by rw[IY];exact nd),IY]
  rfl
theorem JGd{cs:Cl}(nd:NdC cs):((dkC cs).map Dw).Nodup:=by
 unfold dkC;rw[Dv];have:=List.Pairwise.map (S:=(·≠·)) (Ve:Str->Key) (λa b h e=>h (Sum.inr.inj e)) nd
 rw[Dv]at this;exact this
theorem Xeb{cs:Cl}(nd:NdC cs):Jw [] (dkC cs)=dkC cs:=YHa (JGd nd)
theorem Q9d(nd:ae.Nodup){i:Nat}{c:Str}(h:ae[i]?=Vo c){g:Str->V}:ZM ((ae.take i).map λc=>((Ve c,g c):Key×V)) (.inr c)=Vp:=by
 rw[JA,JUa (λx=>(Ve x:Key)) λx hx e=>?_]
 ·rfl
 have e:x=c:=by simpa using e
 subst e;obtain⟨j,hj,ej⟩:=mem_iff_getElem.mp hx;rw[Og]at hj;rw[getElem_take]at ej;obtain⟨hi,ei⟩:=List.getElem?_eq_some_iff.mp h
 have:=(nodup_iff_pairwise_ne.mp nd);exact(pairwise_iff_getElem.mp nd) j i #[0] hi #[0] (ej.trans ei.symm)
def YTa(_:VD):Sp:=λvs H Q _=>vs=[]/\∀ r tc H',Qj H H'->H' r=Vo (.tup [.ref tc,.non])->H' tc=Vo (.tup [])->Q (.ref r) H'
seal PE PT PW PA PS PSs PI PG QM PGs PO in
theorem Xfb(Z:Zs mg)(T:Tx K mg CT cs ob)(F:Fun K "no_table" "no_table" Jga f fd):Qy P w K mg base CX0 1 f fd [] (YTa K):=by
 refine F.ok YIb (λvs H Q E h=>?_) (λah A outer s H vs Q E hr h=>?_)
 ·obtain⟨rfl,_⟩:=h;rfl
 obtain⟨rfl,q⟩:=h;refine⟨_,(Qe (Qn (Zf (Qf (Zf Qb) (Qf YE Qb))))),?_⟩
 refine Qk (σ:=[]) rfl ?_
 walk_at "rd";refine⟨Uy _,λp hp=>⟨ZX,λp2 aP=>?_⟩⟩
 have s2:=Qi aP (.tup [.ref p,.non]);exact q p2 p _ ((Qi hp _).trans s2) Qa (s2 _ _ Qa)
inductive Z7(aj:VD)(vs:List V)(H:Hp)(Q:VK)(E:XK):Prop
 | mk:∀ tt tc rt c ae,vs=[.ref tt,.str c]->H tt=Vo (.tup [.ref tc,rt])->H tc=Vo (.tup (Da V.str ae))->Q (.bl (decide (c∈ae))) H->Z7 aj vs H Q E
seal PE PT PW PA PS PSs PI PG QM PGs PO in
theorem QVb(Z:Zs mg)(T:Tx K mg CT cs ob)(F:Fun K "has_column" "has_column" X7 f fd):Qy P w K mg base CX0 1 f fd ["table","column"] (Z7 K):=by
 refine F.ok QFb (λvs H Q E h=>?_) (λah A outer s H vs Q E hr h=>?_)
 ·walk_at "n"
 obtain⟨tt,tc,rt,c,ae,rfl,h1,h2,q⟩:=h;refine⟨_,(Qe (Qn (XO (Qq QE rfl (Z.isinstance) Qu (Qf (pv 1) (Qf (Q4 rfl (Z.str) XT (v:=.ty "str") rfl) Qb))) (J6 (Y4 Jpd (pv 1) (Qt Qw (pv 0) Qd (λ_ _=>rfl)) rfl))))),?_⟩
 refine Qk (σ:=[Vo (.ref tt),Vo (.str c)]) rfl ?_
 walk_at "rd";exact Q3 (.str c) Zu ⟨_,rfl,(if_pos rfl).mpr ⟨_,SqT.of h1,_,at0 _ _,c,tc,ae,rfl,rfl,SqT.of h2,q⟩⟩
inductive Jya(aj:VD)(vs:List V)(H:Hp)(Q:VK)(E:XK):Prop
 | mk:∀ k,vs=[k]->GK k->(∀ H',Qj H H'->Q .non H')->Jya aj vs H Q E
seal PE PT PW PA PS PSs PI PG QM PGs PO in
theorem QCc(Z:Zs mg)(T:Tx K mg CT cs ob)(xI:Cal P w K mg base 3 "is_key" ["thing"] (YEa K))(F:Fun K "ask_key" "ask_key" Yua f fd):Qy P w K mg base CX0 4 f fd ["key"] (Jya K):=by
 refine F.ok Qhc (λvs H Q E h=>?_) (λah A outer s H vs Q E hr h=>?_)
 ·walk_at "n"
 obtain⟨k,rfl,hk,q⟩:=h;refine⟨_,(Qe (QG (Q8 (QR (Qo xI hr (Qf (pv 0) Qb)) (λ_=>rfl))) (Qe (Yha Zy rfl rfl rfl T.mg_BadKey T.x_BadKey Dy)) Qr)),?_⟩
 refine Qk (σ:=[Vo k]) rfl ?_
 walk_at "rd";exact⟨k,rfl,hk,λH1 s1=>⟨_,rfl,(if_neg (λz=>Dr z)).mpr (q H1 s1)⟩⟩
inductive Zra(aj:VD)(vs:List V)(H:Hp)(Q:VK)(E:XK):Prop
 | mk:∀ tt tc rt c ae v,vs=[.ref tt,.str c,v]->H tt=Vo (.tup [.ref tc,rt])->H tc=Vo (.tup (Da V.str ae))->c∈ae->GP v->(∀ H',Qj H H'->Q .non H')->Zra aj vs H Q E
seal PE PT PW PA PS PSs PI PG QM PGs PO in
theorem Xgb(Z:Zs mg)(T:Tx K mg CT cs ob)(Jt:Cal P w K mg base 1 "has_column" ["table","column"] (Z7 K))(xJ:Cal P w K mg base 3 "is_plain" ["thing"] (Zoa K))(JE:MkX P w K mg base 1 "NoColumn" (cs 2) CT ["column"])(F:Fun K "ask_cell" "ask_cell" Joa f fd):Qy P w K mg base CX0 4 f fd ["table","column","value"] (Zra K):=by
 refine F.ok YLb (λvs H Q E h=>?_) (λah A outer s H vs Q E hr h=>?_)
 ·walk_at "n"
 obtain⟨tt,tc,rt,c,ae,v,rfl,h1,h2,hc,hv,q⟩:=h;refine⟨_,(Qc (QG (Q8 (QR (Qo Jt hr (Qf (pv 0) (Qf (pv 1) Qb))) (λ_=>rfl))) (Qe (XE Zy rfl rfl rfl JE (k:=3) hr #[1] (Qf (pv 1) Qb))) Qr)
  (Qe (QG (Q8 (QR (Qo xJ hr (Qf (pv 2) Qb)) (λ_=>rfl))) (Qe (Yha Zy rfl rfl rfl T.mg_BadValue T.x_BadValue Dy)) Qr))),?_⟩
 refine Qk (σ:=[Vo (.ref tt),Vo (.str c),Vo v]) rfl ?_
 walk_at "rd";refine⟨tt,tc,rt,c,ae,rfl,h1,h2,_,rfl,?_⟩
 rw[decide_eq_true hc,if_neg (λz=>Dr z)]
 exact⟨v,rfl,hv,λH1 s1=>⟨_,rfl,(if_neg (λz=>Dr z)).mpr (q H1 s1)⟩⟩
inductive Xw(aj:VD)(vs:List V)(H:Hp)(Q:VK)(E:XK):Prop
 | mk:∀ tt tc rt c ae,vs=[.ref tt,.str c]->H tt=Vo (.tup [.ref tc,rt])->H tc=Vo (.tup (Da V.str ae))->c∉ae->GW c->(∀ z∈ae,z.length<=40)->ae.length<=60->(∀ r b8 H' aL,Qj H H'->H' r=Vo (.tup [.ref b8,rt])->H' b8=Vo (.tup (Da V.str aL))->aL.Pairwise ltS->(∀ z,z∈aL↔z∈ae\/z=c)->Q (.ref r) H')->Xw aj vs H Q E
seal PE PT PW PA PS PSs PI PG QM PGs PO in
theorem QWb(Z:Zs mg)(T:Tx K mg CT cs ob)(Jt:Cal P w K mg base 1 "has_column" ["table","column"] (Z7 K))(xK:Cal P w K mg base 1 "is_word" ["thing"] (Jwa K))(YW:Cal P w K mg base 4 "in_order" ["values"] (J2 K))(Xx:MkX P w K mg base 1 "ColumnThere" (cs 3) CT ["column"])(F:Fun K "put_column" "put_column" Qea f fd):Qy P w K mg base CX0 5 f fd ["table","column"] (Xw K):=by
 refine F.ok QHb (λvs H Q E h=>?_) (λah A outer s H vs Q E hr h=>?_)
 ·walk_at "n"
 obtain⟨tt,tc,rt,c,ae,rfl,h1,h2,hc,hw,hz,hl,q⟩:=h;refine⟨_,(Qc (QG (Q8 (QR (Qo xK hr (Qf (pv 1) Qb)) (λ_=>rfl))) (Qe (Yha Zy rfl rfl rfl T.mg_BadWord T.x_BadWord Dy)) Qr)
  (Qc (QG (QR (Qo Jt hr (Qf (pv 0) (Qf (pv 1) Qb))) (λ_=>rfl)) (Qe (XE Zy rfl rfl rfl Xx (k:=4) hr #[1] (Qf (pv 1) Qb))) Qr)
  (Qe (Qn (Zf (Qf (QX ZY rfl (Z.tuple) Jk (Qf (Qo YW hr (Qf (Qm QOa (QX Yl rfl (Z.list) XU (Qf (Qt Qw (pv 0) Qd (λ_ _=>rfl)) Qb)) (Zj (Qf (pv 1) Qb))) Qb)) Qb)) (Qf (Qt Qw (pv 0) Qd (λ_ _=>rfl)) Qb))))))),?_⟩
 refine Qk (σ:=[Vo (.ref tt),Vo (.str c)]) rfl ?_
 walk_at "rd";refine⟨c,rfl,hw,λH1 s1=>⟨_,rfl,(if_neg (λz=>Dr z)).mpr ⟨tt,tc,rt,c,ae,rfl,s1 _ _ h1,s1 _ _ h2,_,rfl,?_⟩⟩⟩
 rw[decide_eq_false hc,if_neg Uh];refine⟨_,SqT.of (s1 _ _ h1),_,at0 _ _,tc,rfl,_,.inr (SqT.of (s1 _ _ h2)),λl dk=>⟨X8a _,λl2 iU=>?_⟩⟩
 have s2:=Qi dk (.lst (Da V.str ae));have g2:upd H1 l (.lst (Da V.str ae)) l=_:=Qa;generalize upd H1 l (.lst (Da V.str ae))=H2 at s2 g2 iU ⊢;have s3:=Qi iU (.lst [V.str c]);have g3:upd H2 l2 (.lst [V.str c]) l2=_:=Qa;generalize upd H2 l2 (.lst [V.str c])=H3 at s3 g3 ⊢;refine⟨_,s3 _ _ g2,_,g3,Q2 (by simp;lia),λl4 xL=>?_⟩
 have s4:=Qi xL (.lst (Da V.str ae++[V.str c]));have g4:upd H3 l4 (.lst (Da V.str ae++[V.str c])) l4=_:=Qa;generalize upd H3 l4 (.lst (Da V.str ae++[V.str c]))=H4 at s4 g4 ⊢;have e:Da V.str ae++[V.str c]=Da V.str (ae++[c]):=by rw[Ip];rfl
 rw[e]at g4;refine⟨l4,_,rfl,g4,λv hv=>?_,by simp;lia,λr H5 ys s5 hr g5 ly ri=>?_⟩
 ·obtain⟨z,bd,rfl⟩:=mem_map.mp hv
  rcases mem_append.mp bd with h | h
  ·exact hz z h
  ·rw[mem_singleton.mp h];have:=hw.2.1;show c.length<=40;lia
 obtain⟨aL,rfl⟩:=JJb λv hv=>by
  obtain⟨z,_,rfl⟩:=mem_map.mp ((ri.mem v).mp hv);exact⟨z,rfl⟩
 refine⟨r,rfl,_,.inl ⟨SqL.of g5,λt ht=>?_⟩⟩
 have s6:=Qi ht (.tup (Da V.str aL));have g6:upd H5 t (.tup (Da V.str aL)) t=_:=Qa;generalize upd H5 t (.tup (Da V.str aL))=H6 at s6 g6 ⊢;have sa:=s1.trans (s2.trans (s3.trans (s4.trans (s5.trans s6))));refine⟨_,SqT.of (sa _ _ h1),_,at1 _ _ _,ZX,λt2 xM=>?_⟩
 have s7:=Qi xM (.tup [.ref t,rt]);refine q t2 t _ aL (sa.trans s7) Qa (s7 _ _ g6) ?_ λz=>?_
 ·have:=ri.up
  rwa [Dp]at this
 ·have:=ri.mem (.str z)
  simpa using this
inductive Xj(aj:VD)(vs:List V)(H:Hp)(Q:VK)(E:XK):Prop
 | mk:∀ d ds,vs=[.ref d]->H d=Vo (.dK (dkC ds))->QUb ds->(∀ r H' cs,Qj H H'->H r=Vp->TD H' 5 (.t (cD cs)) (.ref r)->XI ds cs->Q (.ref r) H')->Xj aj vs H Q E
seal PE PT PW PA PS PSs PI PG QM PGs PO in
theorem Xhb(Z:Zs mg)(T:Tx K mg CT cs ob)(YW:Cal P w K mg base 4 "in_order" ["values"] (J2 K))(F:Fun K "cells_of" "cells_of" Qfa f fd):Qy P w K mg base CX0 5 f fd ["values"] (Xj K):=by
 refine F.ok YMb (λvs H Q E h=>?_) (λah A outer s H vs Q E hr h=>?_)
 ·walk_at "n"
 obtain⟨d,ds,rfl,hd,ok,q⟩:=h;refine⟨_,(Qe (Qn (QX ZY rfl (Z.tuple) Jk (Qf (Zo ["values"] rfl (Ye (N:=["values"]) (dsc:=Qg Qfa) rfl rfl (by decide +kernel)) (Jh (Qo YW hr (Qf (QX (XWa hr.hd) rfl (Z.list) XU (Qf (pv 0) Qb)) Qb))) (λ_ _ _ _ _=>(JMa (Qs Q2c (Y8 hr.u1 (pv 1) (pv 0) (λ_ _=>rfl)) YE (Qv _)))) (λ_ _ _ _ _=>(Zf (Qf (pv 0) (Qf (Y8 hr.u1 (pv 1) (pv 0) (λ_ _=>rfl)) Qb))))) Qb)))),?_⟩
 refine Qk (σ:=[Vo (.ref d)]) rfl ?_
 walk_at "rd";refine⟨d,_,rfl,hd,by unfold dkC;rw[UQ];have:=ok.len;lia,λl hl=>?_⟩
 have s1:=Qi hl (.lst ((dkC ds).map λp=>kV p.1))
 have g1:upd H l (.lst ((dkC ds).map λp=>kV p.1)) l=_:=Qa
 generalize upd H l (.lst ((dkC ds).map λp=>kV p.1))=H1 at s1 g1 ⊢
 have ek:(dkC ds).map (λp=>kV p.1)=Da V.str (ds.map Dw):=by unfold dkC;rw[Dv,Dv];rfl
 rw[ek]at g1;refine⟨l,_,rfl,g1,λv hv=>?_,by simp;have:=ok.len;lia,λr H2 ys s2 hr g2 ly ri=>⟨r,rfl,⟨_,SqL.of g2⟩,?_⟩⟩
 ·obtain⟨z,hz,rfl⟩:=mem_map.mp hv
  obtain⟨p,hp,rfl⟩:=mem_map.mp hz;exact(ok.ok p hp).1
 obtain⟨zs,rfl⟩:=JJb λv hv=>by
  obtain⟨z,_,rfl⟩:=mem_map.mp ((ri.mem v).mp hv);exact⟨z,rfl⟩
 have mz:∀ z,z∈zs↔∃ v,(z,v)∈ds:=λz=>by
  have:=ri.mem (.str z)
  simpa using this
 have lz:zs.length<=60:=by simp only[UQ]at ly;have:=ok.len;lia
 have vz:∀ z∈zs,ZM (dkC ds) (.inr z)=Vo (Z6 ds z):=λz hz=>by
  obtain⟨v,hv⟩:=(mz z).mp hz;rw[Q7d,J3 ok.nd hv,ZN Dw ok.nd hv]
  rfl
 have cw:=(s1.trans s2) _ _ hd;have up:zs.Pairwise ltS:=by have:=ri.up;rwa [Dp]at this
 refine Xwc (Da V.str zs) (λv=>!decide (Z6 ds (ZFc v)=.non)) (λH x v=>∃ a,v=.ref a/\H a=Vo (.tup [x,Z6 ds (ZFc x)])) (λH H' x v s ⟨a,e,h⟩=>⟨a,e,s.tup h⟩) (SqL.of g2) (Q2 (by simp;lia)) (λi x H3 R hx s3 r=>?_) (λi x H3 R hx hp s3 r=>?_) λD H3 ys hD s3 g3 py=>?_
 ·obtain⟨z,hz,rfl⟩:=mem_map.mp (Om hx)
  walk_at "rd";exact⟨_,vz z hz ▸ QHa.k (k:=.inr z) (s3 _ _ cw),r⟩
 ·obtain⟨z,hz,rfl⟩:=mem_map.mp (Om hx)
  walk_at "rd";exact⟨_,vz z hz ▸ QHa.k (k:=.inr z) (s3 _ _ cw),ZX,λp hp=>r _ _ ⟨p,rfl,Qa⟩ (Qi hp _)⟩
 ·refine⟨D,rfl,ys,.inl ⟨SqL.of g3,λt ht=>?_⟩⟩
  have s4:=Qi ht (.tup ys);have ef:(Da V.str zs).filter (λv=>!decide (Z6 ds (ZFc v)=.non))=Da V.str (zs.filter λz=>!decide (Z6 ds z=.non)):=by rw[filter_map];rfl
  rw[ef]at py;refine q t _ ((zs.filter λz=>!decide (Z6 ds z=.non)).map λz=>(z,Z6 ds z)) (s1.trans (s2.trans (s3.trans s4))) (none_of (s1.trans (s2.trans s3)) ht) (TD.ofT Qa ?_) ⟨?_,λc v=>?_⟩
  ·have td:∀ z∈zs.filter (λz=>!decide (Z6 ds z=.non)),hV (Z6 ds z)=true:=λz hz=>by
    obtain⟨v,hv⟩:=(mz z).mp (mem_filter.mp hz).1;rw[J3 ok.nd hv];exact(ok.ok _ hv).2
   unfold cD;rw[Dv];generalize upd H3 t (.tup ys)=H4 at s4 ⊢;have go:∀ (us:List Str) (ys:List V),(∀ z∈us,hV (Z6 ds z)=true)->Vm (λx v=>∃ a,v=V.ref a/\H3 a=Vo (.tup [x,Z6 ds (ZFc x)])) (Da V.str us) ys->Vm (λd v=>TD H4 4 d v) (us.map ((λp:Str×V=>Dt.t [.v (.str p.1),.v p.2]) ∘ λz=>(z,Z6 ds z))) ys:=λus=>by
    induction us with
    | nil=>intro ys _ py;cases py;exact .nil
    | cons z us ih =>
     intro ys td py;cases py with
     | cons a b =>
      obtain⟨a,rfl,ha⟩:=a;exact .cons (TD.pair (s4 _ _ ha) (TD.ofV rfl) (TD.ofV (td z VN))) (ih _ (λx hx=>td x (VO _ hx)) b)
   exact go _ _ td py
  ·rw[Dv]
   have:(Dw ∘ λz=>(z,Z6 ds z))=id:=rfl
   rw[this,map_id];exact up.filter _
  ·rw[Dx]
   constructor
   ·rintro⟨z,hz,e⟩
    cases e;obtain⟨h1,h2⟩:=mem_filter.mp hz;obtain⟨v,hv⟩:=(mz c).mp h1;have:=J3 ok.nd hv;exact⟨by rw[this];exact hv,by simpa using h2⟩
   ·rintro⟨hv,n⟩
    have e:=J3 ok.nd hv;exact⟨c,mem_filter.mpr ⟨(mz c).mpr ⟨v,hv⟩,by rw[e];simpa using n⟩,by rw[e]⟩
inductive Xy(aj:VD)(vs:List V)(H:Hp)(Q:VK)(E:XK):Prop
 | mk:∀ cv c v cs,vs=[cv,.str c,v]->TD H 5 (.t (cD cs)) cv->QUb cs->cs.length < 60->c.length<=40->hV v=true->(∀ r H' jd,Qj H H'->H r=Vp->TD H' 5 (.t (cD jd)) (.ref r)->XI (QCa cs c v) jd->Q (.ref r) H')->Xy aj vs H Q E
seal PE PT PW PA PS PSs PI PG QM PGs PO in
theorem QXb(Z:Zs mg)(T:Tx K mg CT cs ob)(pE:Cal P w K mg base 5 "cells_of" ["values"] (Xj K))(F:Fun K "cells_with" "cells_with" Qga f fd):Qy P w K mg base CX0 6 f fd ["cells","column","value"] (Xy K):=by
 refine F.ok ZUa (λvs H Q E h=>?_) (λah A outer s H vs Q E hr h=>?_)
 ·walk_at "n"
 obtain⟨cv,c,v,cs,rfl,t,ok,len,lc,hv,q⟩:=h;refine⟨_,(Qc (Ql 3 ZUa.nd (QX (XXa hr.hd) rfl (Z.dict) ZCa (Qf (pv 0) Qb)))
  (Qc (JLa hr.u1 (pv 3) (pv 1) (pv 2) rfl)
  (Qe (Qn (Qo pE hr (Qf (pv 3) Qb)))))),?_⟩
 refine Qk (σ:=[Vo cv,Vo (.str c),Vo v,Vp]) rfl ?_
 walk_at "rd";obtain⟨p,ys,rfl,hp,pr⟩:=Xdb t;have ly:=Vn pr;have j7:=ok.len;refine⟨p,ys,dkC cs,rfl,hp,by rw[<- ly];unfold dkC;rw[UQ];lia,pr,λD hD=>?_⟩
 rw[Xeb ok.nd];have s1:=Qi hD (.dK (dkC cs));refine⟨D,rfl,_,Qyb.k (k:=.inr c) Qa (by unfold dkC;rw[UQ];exact QA #[0]),?_⟩
 rw[Y1,ZCc];have s2:=Qi hD (.dK (dkC (QCa cs c v)));have l2:=Xcb cs c v;refine⟨D,_,rfl,Qa,⟨ZDc ok.nd c v,by lia,λx hx=>?_⟩,λr H' jd s' hr t' h'=>q r H' jd (s2.trans s') (none_of s2 hr) t' h'⟩
 obtain⟨c',v'⟩:=x
 rcases Qjb.mp hx with ⟨e1,e2⟩ | ⟨_,hm⟩
 ·subst e1 e2;exact⟨lc,hv⟩
 ·exact ok.ok _ hm
inductive Zsa(aj:VD)(vs:List V)(H:Hp)(Q:VK)(E:XK):Prop
 | mk:∀ tt tc rt ae cv cs,vs=[.ref tt,cv]->H tt=Vo (.tup [.ref tc,rt])->H tc=Vo (.tup (Da V.str ae))->ae.Nodup->ae.length<=60->TD H 5 (.t (cD cs)) cv->QUb cs->(∀ r H',Qj H H'->H r=Vp->H' r=Vo (.dK (ae.map λc=>(Ve c,Z6 cs c)))->Q (.ref r) H')->Zsa aj vs H Q E
seal PE PT PW PA PS PSs PI PG QM PGs PO in
theorem Xib(Z:Zs mg)(T:Tx K mg CT cs ob)(F:Fun K "row_told" "row_told" Jha f fd):Qy P w K mg base CX0 1 f fd ["table","cells"] (Zsa K):=by
 refine F.ok Xa (λvs H Q E h=>?_) (λah A outer s H vs Q E hr h=>?_)
 ·walk_at "n"
 obtain⟨tt,tc,rt,ae,cv,cs,rfl,h1,h2,nd,lc,t,ok,q⟩:=h;refine⟨_,(Qc (Ql 2 Xa.nd (QX (XXa hr.hd) rfl (Z.dict) ZCa (Qf (pv 1) Qb)))
  (Qc (Ql 3 Xa.nd QQa)
  (Qc (Zw Dc rfl (Xoa (Qt Qw (pv 0) Qd (λ_ _=>rfl))) (QW (i:=4) Xa.nd rfl (ON rfl)) (Qe (JLa hr.u1 (pv 3) (pv 4) (Ygb hr.u1 (pv 2) (pv 4) ⟨rfl,rfl,rfl,rfl⟩) rfl)))
  (Qe (Qn (pv 3)))))),?_⟩
 refine Qk (σ:=[Vo (.ref tt),Vo cv,Vp,Vp,Vp]) rfl ?_
 walk_at "rd";obtain⟨p,ys,rfl,hp,pr⟩:=Xdb t;have ly:=Vn pr;have j7:=ok.len;refine⟨p,ys,dkC cs,rfl,hp,by rw[<- ly];unfold dkC;rw[UQ];lia,pr,λD hD p2 aP=>?_⟩
 rw[Xeb ok.nd]at aP ⊢;have s1:=Qi hD (.dK (dkC cs));have g1:upd H D (.dK (dkC cs)) D=_:=Qa;generalize upd H D (.dK (dkC cs))=H1 at s1 g1 aP ⊢;have s2:=Qi aP (.dK []);have g2:upd H1 p2 (.dK []) p2=_:=Qa;generalize upd H1 p2 (.dK [])=H2 at s2 g2 ⊢;have aX:=s1.trans s2;have nD:D≠p2:=λz=>by rw[<- z,g1]at aP;cases aP
 have bD:H2 tc=_:=aX _ _ h2;refine⟨_,SqT.of (aX _ _ h1),_,at0 _ _,tc,rfl,⟨_,SqT.of bD⟩,Zcc (K:=K) (Da V.str ae) (λi σ' H'=>∃ x4,σ'=[Vo (.ref tt),Vo (.ref p),Vo (.ref D),Vo (.ref p2),x4]/\Qj H H'/\H' tc=Vo (.tup (Da V.str ae))/\H' D=Vo (.dK (dkC cs))/\H' p2=Vo (.dK ((ae.take i).map λc=>(Ve c,Z6 cs c)))) ⟨_,rfl,aX,bD,s2 _ _ g1,g2⟩ (λi σ' H' _ h=>by obtain⟨_,_,_,h,_⟩:=h;exact SqT.of h) ?_ ?_⟩
 ·rintro i x σ' H' hx ⟨x4,rfl,s',aR,b6,de⟩
  rw[Ol]at hx
  cases hc:ae[i]? with
  | none=>rw[hc]at hx;cases hx
  | some c =>
  rw[hc]at hx;cases hx;walk_at "rd";have li:i < ae.length:=(List.getElem?_eq_some_iff.mp hc).1
  refine⟨.inl ⟨_,.inl b6⟩,_,QHa.k (k:=.inr c) b6,_,Qyb.k (k:=.inr c) de (by rw[UQ,Og];exact QA #[0]),Zd s' (none_of s1 aP),?_,?_,?_⟩
  ·rw[Qh (Jd aR de (by intro z;cases z))];exact aR
  ·rw[Qh nD];exact b6
  ·rw[Qa,Iq,hc,Ip,Xbb,Zrb (Q9d nd hc)];rfl
 ·rintro σ' H' ⟨x4,rfl,s',aR,b6,de⟩
  walk_at "rd";rw[UQ,IW]at de;exact q p2 H' s' (none_of s1 aP) de
theorem JF{α β:Type}{F:α->β->Prop}:∀ {xs:List α} {ys:List β},ys.length=xs.length->(∀ (i:Nat) y,ys[i]?=Vo y->∃ x,xs[i]?=Vo x/\F x y)->Vm F xs ys
 | [],[],_,_=>.nil
 | x::xs,[],h,_=>by simp at h
 | [],y::ys,h,_=>by simp at h
 | x::xs,y::ys,h,f=>by
  obtain⟨x',e,h0⟩:=f 0 y rfl;cases e;exact .cons h0 (JF (by simpa using h) λi y hy=>f (i+1) y hy)
theorem YUa{α:Type}{F:Nat->α->Prop}:∀ (n:Nat),(∀ i,i < n->∃ a,F i a)->∃ l:List α,l.length=n/\∀ (i:Nat) a,l[i]?=Vo a->F i a
 | 0,_=>⟨[],rfl,λi a h=>by simp at h⟩
 | n+1,h=>by
  obtain⟨l,e,g⟩:=YUa n λi hi=>h i #[0]
  obtain⟨a,ha⟩:=h n #[0]
  refine⟨l++[a],by simp[e],λi b hb=>?_⟩
  by_cases hi:i < l.length
  ·rw[Oj hi]at hb;exact g i b hb
  ·have hj:i=n:=by have:=(List.getElem?_eq_some_iff.mp hb).1;simp at this;lia
   subst hj;rw[<- e]at hb;simp at hb;subst hb;exact ha
structure ROk(R:List (V×Cl)):Prop where
 up:R.Pairwise λa b=>ltK a.1 b.1
 len:R.length<=100
 ok:∀ r∈R,ZJ r.1/\QUb r.2/\r.2.length < 60
theorem ROk.rows{R:List (V×Cl)}(h:ROk R):Q3d (R.map rD):=⟨λd hd=>by
 obtain⟨r,hr,rfl⟩:=mem_map.mp hd;exact⟨r.1,_,rfl,(h.ok r hr).1⟩,by unfold UpR;rw[Dp];exact h.up,by rw[UQ];have:=h.len;lia⟩
def QEc(H:Hp)(ae:List Str)(x:V×Cl)(v:V):Prop:=∃ a b,v=.ref a/\H a=Vo (.tup [x.1,.ref b])/\H b=Vo (.dK (ae.map λc=>(Ve c,Z6 x.2 c)))
inductive YX(P:Vg)(w:Vb)(_cs ob:Nat->Vh)(vs:List V)(H:Hp)(Q:VK)(E:XK):Prop
 | mk:∀ p d1 d2 st c tt tc rt ae R lo hi,vs=[.ref p,.ref tt,lo,hi]->QK P w ob H p d1 d2 st c->H tt=Vo (.tup [.ref tc,rt])->H tc=Vo (.tup (Da V.str ae))->ae.Nodup->ae.length<=60->Zq st (Da rD R) rt->ROk R->Zma lo->Zma hi->(∀ r H' xs,Qj H H'->H r=Vp->H' r=Vo (.lst xs)->Vm (QEc H' ae) (R.filter λx=>wi lo hi x.1) xs->Q (.ref r) H')->YX P w _cs ob vs H Q E
seal PE PT PW PA PS PSs PI PG QM PGs PO in
theorem QFc(Z:Zs mg)(T:Tx K mg CT cs ob)(xO:Cal P w K mg base 15 "stretch" ["pages","root","low","high"] (Jua P w cs ob))(xP:Cal P w K mg base 1 "row_told" ["table","cells"] (Zsa K))(F:X9b K "rows_in" "rows_in" ZGa [.none,.none] f fd):Qy P w K mg base CX0 16 f fd ["pages","table","low","high"] (YX P w cs ob):=by
 refine F.ok X6a (λvs H Q E h=>?_) (λah A outer s H vs Q E hr h=>?_)
 ·walk_at "n"
 obtain⟨p,d1,d2,st,c,tt,tc,rt,ae,R,lo,hi,rfl,hS,h1,h2,nd,lc,ht,ok,bw,bL,q⟩:=h;refine⟨_,(Qc (Ql 4 X6a.nd (Qt Qw (Qo xO hr (Qf (pv 0) (Qf (Qt Qw (pv 1) Qd (λ_ _=>rfl)) (Qf (pv 2) (Qf (pv 3) Qb))))) Qd (λ_ _=>rfl)))
  (Qe (Qn (Zo ["pages","table","low","high","rows"] rfl (Ye (N:=["pages","table","low","high","rows"]) (dsc:=Qg ZGa) rfl rfl (by decide +kernel)) (Jh (pv 4)) (λ_ _ _ _ _=>Jj) (λ_ _ _ _ _=>(Zf (Qf (Qt (r:=ZPb K) Qw (pv 0) Qd (λ_ _=>rfl)) (Qf (Qo xP hr (Qf (pv 2) (Qf (Qt (r:=ZPb K) Qw (pv 0) Qd (λ_ _=>rfl)) Qb))) Qb)))))))),?_⟩
 refine Qk (σ:=[Vo (.ref p),Vo (.ref tt),Vo lo,Vo hi,Vp]) rfl ?_
 walk_at "rd";have eC:=ok.rows;obtain⟨g,hg⟩:=XRc hS ht eC.row eC.up eC.len bw bL;refine⟨_,SqT.of h1,_,at1 _ _ _,p,d1,d2,st,c,rt,lo,hi,g,_,rfl,hS,hg,bw,bL,λr H1 y1 y2 xs s1 wq _ _ _ g1 gy re _=>?_⟩
 walk_at "rd";refine⟨_,SqT.of g1,_,at0 _ _,y1,rfl,⟨_,SqL.of gy⟩,?_⟩
 have ef:(Da rD R).filter (λd=>wi lo hi (Qx d))=Da rD (R.filter λx=>wi lo hi x.1):=by rw[filter_map];rfl
 rw[ef]at re;have sr:∀ x∈R.filter (λx=>wi lo hi x.1),ZJ x.1/\QUb x.2/\x.2.length < 60:=λx hx=>ok.ok x (mem_filter.mp hx).1
 have lf:(R.filter λx=>wi lo hi x.1).length<=100:=VJ (OU _ _) ok.len
 generalize R.filter (λx=>wi lo hi x.1)=Rf at re sr lf q ⊢
 have le:=Vn re;rw[UQ]at le;refine Zvb xs (λH i v=>∃ x,Rf[i]?=Vo x/\QEc H ae x v) (λH H' i v s ⟨x,e,a,b,ev,ha,hb⟩=>⟨x,e,a,b,ev,s.tup ha,s.dK hb⟩) (SqL.of gy) (Q2 #[0]) (λi x H2 R' hx s2 hR=>?_) λD H2 ys hD s2 g2 ly py=>?_
 ·have hi:=(List.getElem?_eq_some_iff.mp hx).1
  have bO:Rf[i]?=Vo (Rf[i]'#[0]):=IE _
  have td:=QD re (show(Da rD Rf)[i]?=Vo (rD (Rf[i]'#[0])) by rw[Ol,bO];rfl) hx
  obtain⟨b,k1,cv,eb,hb,w1,w2⟩:=TD.pair_of td;obtain⟨_,rfl⟩:=w1.flat;subst eb;walk_at "rd";refine⟨_,SqT.of (s2 _ _ hb),_,at0 _ _,_,SqT.of (s2 _ _ hb),_,at1 _ _ _,tt,tc,rt,ae,cv,_,rfl,(s1.trans s2) _ _ h1,(s1.trans s2) _ _ h2,nd,lc,w2.same s2,(sr _ (IF _)).2.1,λr H3 s3 pi g3=>⟨ZX,λp2 aP=>?_⟩⟩
  have s4:=Qi aP (.tup [(Rf[i]'#[0]).1,.ref r])
  exact hR _ _ ⟨_,bO,p2,r,rfl,Qa,s4 _ _ g3⟩ (s3.trans s4)
 ·exact q D H2 ys (s1.trans s2) (none_of s1 hD) g2 (JF #[0] λi y hy=>py i y hy)
inductive YY(P:Vg)(w:Vb)(_cs ob:Nat->Vh)(vs:List V)(H:Hp)(Q:VK)(E:XK):Prop
 | mk:∀ p d1 d2 st c tt tc rt col ae R,vs=[.ref p,.ref tt,.str col]->QK P w ob H p d1 d2 st c->H tt=Vo (.tup [.ref tc,rt])->H tc=Vo (.tup (Da V.str ae))->col∈ae->col.length<=40->ae.length<=60->Zq st (Da rD R) rt->ROk R->st.length+8 * R.length<=16000000->(∀ r b8 H' ai c' rt' R',QO [p,d1,d2] H H'->QK P w ob H' p d1 d2 ai c'->(∀ x∈QI st,x∈QI ai)->ai.length<=st.length+8 * R.length->H' r=Vo (.tup [.ref b8,rt'])->H' b8=Vo (.tup (Da V.str (ae.filter λz=>decide (z≠col))))->Vm (λr r'=>r'.1=r.1/\XI (QCa r.2 col .non) r'.2) R R'->Zq ai (Da rD R') rt'->Q (.ref r) H')->YY P w _cs ob vs H Q E
seal PE PT PW PA PS PSs PI PG QM PGs PO in
theorem Qlb(Z:Zs mg)(T:Tx K mg CT cs ob)(Jt:Cal P w K mg base 1 "has_column" ["table","column"] (Z7 K))(o9:Jgc P w K mg base 7 "built" ["pages","rows"] (J4a P w cs ob))(xQ:Cal P w K mg base 6 "cells_with" ["cells","column","value"] (Xy K))(xR:Cal P w K mg base 14 "rows_of" ["pages","root"] (Jta P w cs ob))(JE:MkX P w K mg base 1 "NoColumn" (cs 2) CT ["column"])(F:Fun K "drop_column" "drop_column" Z0 f fd):Qy P w K mg base CX0 15 f fd ["pages","table","column"] (YY P w cs ob):=by
 refine F.ok YT (λvs H Q E h=>?_) (λah A outer s H vs Q E hr h=>?_)
 ·walk_at "n"
 obtain⟨p,d1,d2,st,c,tt,tc,rt,col,ae,R,rfl,hS,h1,h2,hc,pF,lc,ht,ok,few,q⟩:=h;refine⟨_,(Qc (QG (Q8 (QR (Qo Jt hr (Qf (pv 1) (Qf (pv 2) Qb))) (λ_=>rfl))) (Qe (XE Zy rfl rfl rfl JE (k:=14) hr #[1] (Qf (pv 2) Qb))) Qr)
  (Qc (Ql 3 YT.nd (QX ZY rfl (Z.tuple) Jk (Qf (Zo ["pages","table","column","columns","rows"] rfl (Ye (N:=["pages","table","column","columns","rows"]) (dsc:=Qg Z0) rfl rfl (by decide +kernel)) (Xoa (Qt Qw (pv 1) Qd (λ_ _=>rfl))) (λ_ _ _ _ _=>(JMa (Qs JEa (pv 0) (pv 3) (Qv _)))) (λ_ _ _ _ _=>(pv 0))) Qb)))
  (Qc (XEa (j:=4) ["pages","table","column","columns","rows"] rfl YT.nd rfl rfl (Ye (N:=["pages","table","column","columns","rows"]) (dsc:=Qg Z0) rfl rfl (by decide +kernel)) (Jh (Qo xR hr (Qf (pv 0) (Qf (Qt Qw (pv 1) Qd (λ_ _=>rfl)) Qb)))) (λ_ _ _ _ _=>Jj) (λ_ _ _ _ _=>(Zf (Qf (Qt (r:=ZPb K) Qw (pv 0) Qd (λ_ _=>rfl)) (Qf (Qo xQ hr (Qf (Qt (r:=ZPb K) Qw (pv 0) Qd (λ_ _=>rfl)) (Qf (pv 3) (Qf YE Qb)))) Qb)))))
  (Qe (Qn (Zf (Qf (pv 3) (Qf (PE1.pe (XZa o9 hr (Qf (pv 0) (Qf (pv 4) Qb))) Zy) Qb)))))))),?_⟩
 refine Qk (σ:=[Vo (.ref p),Vo (.ref tt),Vo (.str col),Vp,Vp]) rfl ?_
 walk_at "rd";refine⟨tt,tc,rt,col,ae,rfl,h1,h2,_,rfl,?_⟩
 rw[decide_eq_true hc,if_neg (λz=>Dr z)]
 walk_at "rd";refine⟨_,SqT.of h1,_,at0 _ _,tc,rfl,⟨_,SqT.of h2⟩,Z0b (Da V.str ae) (λv=>decide (v≠.str col)) id (SqT.of h2) (Q2 (by simp;lia)) (λi x H2 R' hx s2 r=>?_) (λi x H2 R' hx _ s2 r=>by walk_at "rd";exact r) λD H1 hD s1 g1=>?_⟩
 ·obtain⟨z,_,rfl⟩:=mem_map.mp (Om hx)
  walk_at "rd";have e:(!decide (z=col))=decide (V.str z≠V.str col):=by
   by_cases e:z=col
   ·simp[e]
   ·simp[e]
  rw[e];exact r
 have e1:Da id ((Da V.str ae).filter λv=>decide (v≠.str col))=Da V.str (ae.filter λz=>decide (z≠col)):=by
  rw[map_id,filter_map];have:((λv=>decide (v≠V.str col)) ∘ V.str)=λz=>decide (z≠col):=by funext z;simp
  rw[this]
 rw[e1]at g1;refine⟨D,rfl,_,.inl ⟨SqL.of g1,λb8 nZ=>?_⟩⟩
 have s2:=Qi nZ (.tup (Da V.str (ae.filter λz=>decide (z≠col))))
 have g2:upd H1 b8 (.tup (Da V.str (ae.filter λz=>decide (z≠col)))) b8=_:=Qa
 generalize upd H1 b8 (.tup (Da V.str (ae.filter λz=>decide (z≠col))))=H2 at s2 g2 ⊢
 have aX:=s1.trans s2;have eC:=ok.rows;have lR:=ok.len;refine⟨_,SqT.of (aX _ _ h1),_,at1 _ _ _,?_⟩
 refine⟨p,d1,d2,st,c,rt,_,rfl,hS.same aX,ht,by simp;lia,λr H3 xs s3 pi g3 re=>⟨r,rfl,⟨_,SqL.of g3⟩,?_⟩⟩
 have le:=Vn re;rw[UQ]at le;have pG:=aX.trans s3;refine Zvb xs (λH i v=>∃ (x x':V×Cl),R[i]?=Vo x/\(x'.1=x.1/\XI (QCa x.2 col .non) x'.2)/\TD H 6 (rD x') v) (λH H' i v s ⟨x,x',e,h,t⟩=>⟨x,x',e,h,TD.sameT (λb xs e=>s.tup e) 6 t⟩) (SqL.of g3) (Q2 #[0]) (λi x H4 R' hx s4 hR=>?_) λD4 H4 ys hD4 s4 g4 ly py=>?_
 ·have hi:=(List.getElem?_eq_some_iff.mp hx).1
  have bO:R[i]?=Vo (R[i]'#[0]):=IE _
  have td:=QD re (show(Da rD R)[i]?=Vo (rD (R[i]'#[0])) by rw[Ol,bO];rfl) hx
  obtain⟨b,k1,cv,eb,hb,w1,w2⟩:=TD.pair_of td;obtain⟨_,rfl⟩:=w1.flat;subst eb;walk_at "rd";have pH:=ok.ok _ (IF (show i < R.length by lia))
  refine⟨_,SqT.of (s4 _ _ hb),_,at0 _ _,_,SqT.of (s4 _ _ hb),_,at1 _ _ _,cv,col,.non,_,rfl,w2.same s4,pH.2.1,pH.2.2,pF,rfl,λr5 H5 jd s5 hr5 t5 c5=>⟨ZX,λp2 aP=>?_⟩⟩
  have s6:=Qi aP (.tup [(R[i]'#[0]).1,.ref r5])
  exact hR _ _ ⟨_,((R[i]'#[0]).1,jd),bO,⟨rfl,c5⟩,TD.pair Qa (TD.ofV (Zyc pH.1)) (t5.same s6)⟩ (s5.trans s6)
 ·obtain⟨R2,l2,p2⟩:∃ R2:List (V×Cl),R2.length=R.length/\∀ (i:Nat) x',R2[i]?=Vo x'->∃ x y,R[i]?=Vo x/\ys[i]?=Vo y/\(x'.1=x.1/\XI (QCa x.2 col .non) x'.2)/\TD H4 6 (rD x') y:=by
   have mG:∀ i,i < R.length->∃ x' x y,R[i]?=Vo x/\ys[i]?=Vo y/\(x'.1=x.1/\XI (QCa x.2 col .non) x'.2)/\TD H4 6 (rD x') y:=λi hi=>by
    obtain⟨x,x',e,h,t⟩:=py i _ (IE (show i < ys.length by lia))
    exact⟨x',x,_,e,IE (show i < ys.length by lia),h,t⟩
   exact YUa R.length mG
  have pr:Vm (λr r'=>r'.1=r.1/\XI (QCa r.2 col .non) r'.2) R R2:=JF #[0] λi y hy=>by
   obtain⟨x,_,e,_,h,_⟩:=p2 i y hy;exact⟨x,e,h⟩
  have pt:Vm (λd v=>TD H4 6 d v) (Da rD R2) ys:=JF (by simp;lia) λi y hy=>by
   have hi:=(List.getElem?_eq_some_iff.mp hy).1
   have bD:R2[i]?=Vo (R2[i]'#[0]):=IE _
   obtain⟨x,y',e,e',h,t⟩:=p2 i _ bD;rw[hy]at e';cases e';exact⟨_,by rw[Ol,bD];rfl,t⟩
  have keys:R2.map Dw=R.map Dw:=IG (by simp;lia) λi a b=>by
   simp only[UQ]at a b;obtain⟨x,_,e,_,h,_⟩:=p2 i _ (IE a)
   rw[IE b]at e
   cases e;simp only[Dj];exact h.1
  have xS:((Da rD R2).map Qx).Pairwise λa b=>Pl.ltV a b=true:=by
   have:(Da rD R2).map Qx=R.map Dw:=by rw[Dv];exact keys
   rw[this,Dp];exact Dq (λ{a b} h=>h.2.2) ok.up
  have hU:=pG.trans s4;refine⟨p,d1,d2,st,c,D4,ys,_,rfl,hS.same hU,g4,pt,λd hd=>?_,by lia,by lia,.inl ⟨xS,λH5 bX c5 v5 dA j8 dC l5 t5=>⟨ZX,λp6 pI=>?_⟩⟩⟩
  ·obtain⟨x',aC,rfl⟩:=mem_map.mp hd
   have:x'.1∈R.map Dw:=by rw[<- keys];exact mem_map.mpr ⟨x',aC,rfl⟩
   obtain⟨x,hx,e⟩:=mem_map.mp this;exact⟨x'.1,_,rfl,by rw[<- e];exact(ok.ok x hx).1⟩
  ·have s6:=Qi pI (.tup [.ref b8,v5])
   exact q p6 b8 _ bX c5 v5 R2 ((hU.x _).trans (dA.trans (s6.x _))) (j8.same s6) dC #[0] Qa (s6 _ _ (XG (hS.same hU) dA _ _ ((s3.trans s4) _ _ g2))) pr t5
inductive JAa(P:Vg)(w:Vb)(_cs ob:Nat->Vh)(vs:List V)(H:Hp)(Q:VK)(E:XK):Prop
 | mk:∀ p d1 d2 st c tt tc rt k d ae ds R,vs=[.ref p,.ref tt,k,.ref d]->QK P w ob H p d1 d2 st c->H tt=Vo (.tup [.ref tc,rt])->H tc=Vo (.tup (Da V.str ae))->GK k->H d=Vo (.dK (dkC ds))->QUb ds->(∀ q∈ds,q.1∈ae/\GP q.2)->Zq st (Da rD R) rt->ROk R->st.length+16 * (R.length+2)<=16000000->(∀ r H' ai c' rt' aM cs,QO [p,d1,d2] H H'->QK P w ob H' p d1 d2 ai c'->(∀ x∈QI st,x∈QI ai)->ai.length<=st.length+16 * (R.length+2)->H' r=Vo (.tup [.ref tc,rt'])->XI ds cs->XF ltK k (rD (k,cs)) (Da rD R) aM->Zq ai aM rt'->Q (.ref r) H')->JAa P w _cs ob vs H Q E
seal PE PT PW PA PS PSs PI PG QM PGs PO in
theorem QHc(Z:Zs mg)(T:Tx K mg CT cs ob)(xT:Cal P w K mg base 4 "ask_key" ["key"] (Jya K))(YW:Cal P w K mg base 4 "in_order" ["values"] (J2 K))(xU:Cal P w K mg base 4 "ask_cell" ["table","column","value"] (Zra K))(xV:Jgc P w K mg base 15 "put" ["pages","root","key","cells"] (Quc P w cs ob))(pE:Cal P w K mg base 5 "cells_of" ["values"] (Xj K))(F:Fun K "put_row" "put_row" Yxa f fd):Qy P w K mg base CX0 16 f fd ["pages","table","key","cells"] (JAa P w cs ob):=by
 refine F.ok X5a (λvs H Q E h=>?_) (λah A outer s H vs Q E hr h=>?_)
 ·walk_at "n"
 obtain⟨p,d1,d2,st,c,tt,tc,rt,k,d,ae,ds,R,rfl,hS,h1,h2,hk,hd,hW,hds,ht,ok,few,q⟩:=h;refine⟨_,(Qc (QZ (Qo xT hr (Qf (pv 2) Qb)))
  (Qc (Zw Dc rfl (Jh (Qo YW hr (Qf (QX (XWa hr.hd) rfl (Z.list) XU (Qf (pv 3) Qb)) Qb))) (QW (i:=4) X5a.nd rfl (ON rfl)) (Qe (QZ (Qo xU hr (Qf (pv 1) (Qf (pv 4) (Qf (Y8 hr.u1 (pv 3) (pv 4) (λ_ _=>rfl)) Qb)))))))
  (Qe (Qn (Zf (Qf (Qt Qw (pv 1) Qd (λ_ _=>rfl)) (Qf (PE1.pe (XZa xV hr (Qf (pv 0) (Qf (Qt Qw (pv 1) Qd (λ_ _=>rfl)) (Qf (pv 2) (Qf (Qo pE hr (Qf (pv 3) Qb)) Qb))))) Zy) Qb))))))),?_⟩
 refine Qk (σ:=[Vo (.ref p),Vo (.ref tt),Vo k,Vo (.ref d),Vp]) rfl ?_
 walk_at "rd";refine⟨k,rfl,hk,λH1 s1=>?_⟩
 have ld:=hW.len;refine⟨d,_,rfl,s1 _ _ hd,by unfold dkC;rw[UQ];lia,λl hl=>?_⟩
 have ek:(dkC ds).map (λp=>kV p.1)=Da V.str (ds.map Dw):=by unfold dkC;rw[Dv,Dv];rfl
 rw[ek];have s2:=Qi hl (.lst (Da V.str (ds.map Dw)));have g2:upd H1 l (.lst (Da V.str (ds.map Dw))) l=_:=Qa;generalize upd H1 l (.lst (Da V.str (ds.map Dw)))=H2 at s2 g2 ⊢;refine⟨l,_,rfl,g2,λv hv=>?_,by simp;lia,λr H3 ys s3 pi g3 ly ri=>⟨r,rfl,⟨_,SqL.of g3⟩,?_⟩⟩
 ·obtain⟨z,hz,rfl⟩:=mem_map.mp hv
  obtain⟨x,hx,rfl⟩:=mem_map.mp hz;exact(hW.ok x hx).1
 have bK:=s1.trans (s2.trans s3);refine YG ys (λi σ' H'=>∃ x4,σ'=[Vo (.ref p),Vo (.ref tt),Vo k,Vo (.ref d),x4]/\Qj H H'/\H' r=Vo (.lst ys)) ⟨_,rfl,bK,g3⟩ (λi σ' H' _ h=>by obtain⟨_,_,_,h⟩:=h;exact SqL.of h) ?_ ?_
 ·rintro i x σ' H' hx ⟨x4,rfl,s',bO⟩
  obtain⟨z,hz,ez⟩:=mem_map.mp ((ri.mem x).mp (Om hx));obtain⟨⟨c',v'⟩,hm,rfl⟩:=mem_map.mp hz;subst ez;walk_at "rd";have vv:ZM (dkC ds) (.inr c')=Vo v':=by rw[Q7d,ZN Dw hW.nd hm];rfl
  exact⟨v',vv ▸ QHa.k (k:=.inr c') (s' _ _ hd),tt,tc,rt,c',ae,v',rfl,s' _ _ h1,s' _ _ h2,(hds _ hm).1,(hds _ hm).2,λbN bY=>⟨s'.trans bY,bY _ _ bO⟩⟩
 ·rintro σ' H' ⟨x4,rfl,s',bO⟩
  walk_at "rd";refine⟨_,SqT.of (s' _ _ h1),_,at0 _ _,_,SqT.of (s' _ _ h1),_,at1 _ _ _,d,ds,rfl,s' _ _ hd,hW,λr4 H4 ss s4 rP t4 c4=>?_⟩
  have su:=s'.trans s4;have lR:=ok.len;refine⟨p,d1,d2,st,c,rt,k,.ref r4,cD ss,_,rfl,hS.same su,ht,ok.rows,by simp;lia,hk.key,t4,by simp;lia,λH5 bX c5 v5 sv dA j8 dC l5 pJ t5=>⟨ZX,λp6 pI=>?_⟩⟩
  have s6:=Qi pI (.tup [.ref tc,v5]);exact q p6 _ bX c5 v5 sv ss ((su.x _).trans (dA.trans (s6.x _))) (j8.same s6) dC (by simpa using l5) Qa c4 pJ t5
theorem Z5a(h:ZJ v):∃ k:Key,v=kV k:=by
 cases v with
 | int n=>exact⟨.inl n,rfl⟩
 | str z=>exact⟨.inr z,rfl⟩
 | _=>exact h.elim
theorem ZDb(h:ZJ v):Pl.QH v:=by
 cases v with
 | int n=>exact h
 | str z=>exact h
 | _=>exact h.elim
theorem JHd{a b:Key}(h:kV a=kV b):a=b:=by
 cases a <;> cases b <;> cases h <;> rfl
def YIa:V->Bool | .int _=>true | _=>false
def JBa:V->Bool | .str _=>true | _=>false
theorem QJc{l:List V}(h:∀ v∈l,ZJ v):(l.filter YIa++l.filter JBa).Perm l:=by
 have e:l.filter JBa=l.filter (λv=>!YIa v):=filter_congr λv hv=>by
  have:=h v hv;cases v <;> first | rfl | exact this.elim
 rw[e];exact filter_append_perm _ _
theorem ZEb{K:VD}{k:Key}(q:Q (.bl (JBa (kV k))) H):XTb K [kV k,.ty "str"] H Q:=by
 cases k with
 | inl n=>exact Q3 (.int n) Xg q
 | inr z=>exact Q3 (.str z) Zu q
theorem QDa{H2:Hp}{d:Vh}{x y:HO}(n:H1 d=Vo y)(s2:Qj (upd H1 d x) H2):Qj H1 (upd H2 d y):=λb o hb=>by
 by_cases z:b=d
 ·subst z;rw[n]at hb;rw[Qa,hb]
 ·rw[Qh z];exact s2 b o (by rw[Qh z];exact hb)
theorem XWc(hk:∀ v∈ys,ZJ v)(ho:(∀ v∈ys,∃ n,v=.int n)\/∀ v∈ys,∃ z,v=.str z)(nd:ys.Nodup)(h:ys.Pairwise λa b=>ltP b a=false):ys.Pairwise λa b=>Pl.ltV a b=true:=by
 refine List.Pairwise.imp_of_mem (λ{a b} ha hb hab=>?_) (h.and nd)
 obtain⟨h1,h2⟩:=hab;have e:Pl.ltV b a=false:=by
  rcases ho with ho | ho
  ·obtain⟨x,rfl⟩:=ho a ha
   obtain⟨y,rfl⟩:=ho b hb;rw[Pl.Zgc];exact h1
  ·obtain⟨x,rfl⟩:=ho a ha
   obtain⟨y,rfl⟩:=ho b hb;rw[Pl.Zlb];exact h1
 cases e2:Pl.ltV a b with
 | true=>rfl
 | false=>exact(h2 (Pl.tri (ZDb (hk a ha)) (ZDb (hk b hb)) e2 e)).elim
structure JId(H:Hp)(ac:List (Key×V))(ks xs:List V):Prop where
 len:xs.length=ks.length
 at_:∀ (i:Nat) x,xs[i]?=Vo x->∃ a k v,x=.ref a/\ks[i]?=Vo (kV k)/\H a=Vo (.tup [kV k,v])/\(k,v)∈ac
 up:ks.Pairwise λa b=>Pl.ltV a b=true
 perm:ks.Perm (ac.map λp=>kV p.1)
theorem XXc{ac:List (Key×V)}{k:Key}{w':V}(h:(k,w')∈ac):∃ w,ZM ac k=Vo w/\(k,w)∈ac:=by
 unfold ZM;cases e:ac.find? λkv=>decide (kv.1=k) with
 | none =>
  have:=find?_eq_none.mp e _ h
  simp at this
 | some p =>
  have h1:=find?_some e
  have h2:=mem_of_find?_eq_some e
  have h1:p.1=k:=by simpa using h1
  exact⟨p.2,rfl,by rw[<- h1];exact h2⟩
inductive YZ(K:VD)(vs:List V)(H:Hp)(Q:VK)(E:XK):Prop
 | mk:∀ d ac,vs=[.ref d]->H d=Vo (.dK ac)->ac.length<=60->(∀ p∈ac,ZJ (kV p.1))->(ac.map Dw).Nodup->(∀ r H' xs ks,Qj H H'->H r=Vp->H' r=Vo (.lst xs)->JId H' ac ks xs->Q (.ref r) H')->YZ K vs H Q E
seal PE PT PW PA PS PSs PI PG QM PGs PO in
theorem Qmb(Z:Zs mg)(T:Tx K mg CT cs ob)(F:Fun K "_law_rising" "_law_rising" ZD f fd):Qy P w K mg base CX0 1 f fd ["_law_some"] (YZ K):=by
 refine F.ok YL (λvs H Q E h=>?_) (λah A outer s H vs Q E hr h=>?_)
 ·walk_at "n"
 obtain⟨d,ac,rfl,g1,l1,k1,xW,q⟩:=h;refine⟨_,(Qc (Ql 1 YL.nd (Qq ZZ rfl (Z.sorted) YC (Qf (ZZb (Zo ["_law_some","_law_keys"] rfl (Ye (N:=["_law_some","_law_keys"]) (dsc:=Qg ZD) rfl rfl (by decide +kernel)) (Xga (pv 0)) (λ_ _ _ _ _=>(JMa (Q8 (QR (Qq (r:=XTb K) QE rfl (Z.isinstance) Qu (Qf (pv 0) (Qf (Q4 rfl (Z.str) XT (v:=.ty "str") rfl) Qb))) (λ_=>rfl))))) (λ_ _ _ _ _=>(pv 0)))) Qb)))
  (Qc (Ql 1 YL.nd (Qm QOa (pv 1) (Qq ZZ rfl (Z.sorted) YC (Qf (ZZb (Zo ["_law_some","_law_keys"] rfl (Ye (N:=["_law_some","_law_keys"]) (dsc:=Qg ZD) rfl rfl (by decide +kernel)) (Xga (pv 0)) (λ_ _ _ _ _=>(JMa (QR (Qq (r:=XTb K) QE rfl (Z.isinstance) Qu (Qf (pv 0) (Qf (Q4 rfl (Z.str) XT (v:=.ty "str") rfl) Qb))) (λ_=>rfl)))) (λ_ _ _ _ _=>(pv 0)))) Qb))))
  (Qe (Qn (Zo ["_law_some","_law_keys"] rfl (Ye (N:=["_law_some","_law_keys"]) (dsc:=Qg ZD) rfl rfl (by decide +kernel)) (Jh (pv 1)) (λ_ _ _ _ _=>Jj) (λ_ _ _ _ _=>(Zf (Qf (pv 0) (Qf (Y8 hr.u1 (pv 1) (pv 0) (λ_ _=>rfl)) Qb))))))))),?_⟩
 refine Qk (σ:=[Vo (.ref d),Vp]) rfl ?_
 walk_at "rd";have kl:∀ v∈ac.map λq=>kV q.1,ZJ v:=λv hv=>by
  obtain⟨r,hr,rfl⟩:=mem_map.mp hv;exact k1 r hr
 have sw:(ac.map λq=>kV q.1).Nodup:=by
  have:=List.Pairwise.map (S:=(·≠·)) kV (λa b h e=>h (JHd e)) xW
  rw[Dv]at this;exact this
 refine⟨ac,g1,λob nf=>Ysb YIa (Q2 #[0]) Qa (λk v H3 R hm s3 hR=>?_) λD H2 hD s2 hy=>?_⟩
 ·walk_at "rd"
  refine ZEb ?_
  have e:(!JBa (kV k))=YIa (kV k):=by cases k <;> rfl
  exact⟨_,rfl,by rw[e];exact hR _ (Qj.refl _)⟩
 have dD:D≠d:=λz=>by rw[z,Qa]at hD;cases hD
 have lf:∀ p:V->Bool,((ac.map λq=>kV q.1).filter p).length<=60:=λp=>VJ (OU _ _) (by rw[UQ];lia)
 have kf:∀ p:V->Bool,∀ v∈(ac.map λq=>kV q.1).filter p,ZJ v/\p v=true:=λp v hv=>by
  obtain⟨h1,h2⟩:=mem_filter.mp hv;exact⟨kl v h1,h2⟩
 have i1:∀ v∈(ac.map λq=>kV q.1).filter YIa,∃ n,v=.int n:=λv hv=>by
  have:=(kf _ v hv).2;cases v <;> first | exact⟨_,rfl⟩ | cases this
 have i2:∀ v∈(ac.map λq=>kV q.1).filter JBa,∃ n,v=.str n:=λv hv=>by
  have:=(kf _ v hv).2;cases v <;> first | exact⟨_,rfl⟩ | cases this
 have t2:Qj H (upd H2 d (.dK ac)):=QDa g1 s2;refine⟨d,nf,ob,ac,s2 _ _ Qa,D,_,ltP,rfl,SqL.of (by rw[Qh dD];exact hy),by have:=lf YIa;lia,Y8c i1,λD2 H3 ys s3 cN jZ pm so=>?_⟩
 have g3:H3 d=Vo (.dK ac):=s3 _ _ Qa;have sy:D2≠d:=λz=>by rw[z,g3]at jZ;cases jZ
 refine⟨ac,g3,λqN xX=>Ysb JBa (Q2 #[0]) Qa (λk v H3 R hm s3 hR=>?_) λE1 H4 hE s4 xY=>?_⟩
 ·walk_at "rd"
  exact ZEb ⟨_,rfl,hR _ (Qj.refl _)⟩
 have dE:E1≠d:=λz=>by rw[z,Qa]at hE;cases hE
 have t4:Qj H (upd H4 d (.dK ac)):=(t2.trans s3).trans (QDa g3 s4);refine⟨d,xX,qN,ac,s4 _ _ Qa,E1,_,ltP,rfl,SqL.of (by rw[Qh dE];exact xY),by have:=lf JBa;lia,XOa i2,λD3 H5 zs s5 mx xZ je x8=>?_⟩
 have l2:ys.length<=ac.length:=by rw[pm.length_eq];exact VJ (OU _ _) (by rw[UQ];exact Uu _)
 have l3:zs.length<=ac.length:=by rw[je.length_eq];exact VJ (OU _ _) (by rw[UQ];exact Uu _)
 have g5:H5 d=Vo (.dK ac):=s5 _ _ Qa;have t5:=t4.trans s5;refine⟨D2,rfl,D3,rfl,ys,s5 _ _ (by rw[Qh sy];exact s4 _ _ (by rw[Qh sy];exact jZ)),zs,xZ,Q2 #[0],λp hp=>?_⟩
 have bf:(ys++zs).Perm (ac.map λp=>kV p.1):=(pm.append je).trans (QJc kl)
 have up:(ys++zs).Pairwise λa b=>Pl.ltV a b=true:=by
  rw[pairwise_append];refine⟨XWc (λv hv=>(kf _ v (pm.mem_iff.mp hv)).1) (.inl λv hv=>i1 v (pm.mem_iff.mp hv)) (pm.nodup_iff.mpr (sw.filter _)) so,XWc (λv hv=>(kf _ v (je.mem_iff.mp hv)).1) (.inr λv hv=>i2 v (je.mem_iff.mp hv)) (je.nodup_iff.mpr (sw.filter _)) x8,λa ha b hb=>?_⟩
  obtain⟨x,rfl⟩:=i1 a (pm.mem_iff.mp ha);obtain⟨y,rfl⟩:=i2 b (je.mem_iff.mp hb);exact Pl.YQc _ _
 have lk:(ys++zs).length<=60:=by rw[bf.length_eq,UQ];exact l1
 generalize ys++zs=ks at bf up lk ⊢;have s6:Qj H5 (upd H5 p (.lst ks)):=Qi hp _;have g6:upd H5 p (.lst ks) p=Vo (.lst ks):=Qa;have np:H p=Vp:=by
  cases e:H p with
  | none=>rfl
  | some o=>rw[t5 _ _ e]at hp;cases hp
 generalize upd H5 p (.lst ks)=H6 at s6 g6 ⊢;refine⟨⟨_,SqL.of g6⟩,Z9c ks (λH' i v=>∃ a k w,v=.ref a/\ks[i]?=Vo (kV k)/\H' a=Vo (.tup [kV k,w])/\(k,w)∈ac) (λH H' i v st ⟨a,k,w,e1,e2,e3,e4⟩=>⟨a,k,w,e1,e2,st _ _ e3,e4⟩) (SqL.of g6) (Q2 #[0]) (λi x H7 R hx s7 hR=>?_) λr H7 xs fg s7 ya le pe=>?_⟩
 ·obtain⟨⟨k,w'⟩,hm,ek⟩:=mem_map.mp (bf.mem_iff.mp (Om hx))
  obtain⟨w,hw,yb⟩:=XXc hm;subst ek;walk_at "rd";exact⟨w,hw ▸ QHa.k (k:=k) ((s6.trans s7) _ _ g5),ZX,λq1 gS=>hR _ _ ⟨q1,k,w,rfl,hx,Qa,yb⟩ (Qi gS _)⟩
 ·refine q r H7 xs ks (t5.trans (s6.trans s7)) ?_ ya ⟨le,pe,up,bf⟩
  cases e:H r with
  | none=>rfl
  | some o=>rw[(t5.trans s6) _ _ e]at fg;cases fg
theorem Zad{K:VD}(p:hV v=true)(q:Q (.bl false) H):XTb K [v,.ty "tuple"] H Q:=by
 cases v with
 | int n=>exact Q3 (.int n) YOb q
 | str z=>exact Q3 (.str z) YPb q
 | non=>exact Q3 .non YQb q
 | _=>cases p
theorem Xjb{K:VD}(p:hV v=true)(q:Q (.bl false) H):XTb K [v,.ty "bool"] H Q:=by
 cases v with
 | int n=>exact Q3 (.int n) JOa q
 | str z=>exact Q3 (.str z) Jnb q
 | non=>exact Q3 .non Jmb q
 | _=>cases p
inductive ZYa(aj:VD)(n:Nat)(vs:List V)(H:Hp)(Q:VK)(E:XK):Prop
 | mk:∀ x y d,vs=[x,y]->n<=60->TD H n d x->TD H n d y->(∀ H',Qj H H'->Q (.bl true) H')->ZYa aj n vs H Q E
def ZU(aj:VD):Nat->Sp
 | 0=>λ_ _ _ _=>False
 | n+1=>ZYa aj n
seal PE PT PW PA PS PSs PI PG QM PGs PO in
theorem JLb(Z:Zs mg)(T:Tx K mg CT cs ob){n:Nat}(IH:Cal P w K mg base (1+n) "_law_same" ["_law_found","_law_due"] (ZU K n))(F:Fun K "_law_same" "_law_same" Zaa f fd):Qy P w K mg base CX0 (1+n+1) f fd ["_law_found","_law_due"] (ZU K (n+1)):=by
 refine F.ok Qha (λvs H Q E h=>?_) (λah A outer s H vs Q E hr h=>?_)
 ·walk_at "n"
 obtain⟨x,y,d,rfl,hn,hx,hy,q⟩:=h;refine⟨_,(Qc (QG (QR (Qq QE rfl (Z.isinstance) Qu (Qf (pv 1) (Qf (Q4 rfl (Z.tuple) Jk (v:=.ty "tuple") rfl) Qb))) (λ_=>rfl)) (Qc (QG (PW.pt (Y3 (Q8 (QR (Qq QE rfl (Z.isinstance) Qu (Qf (pv 0) (Qf (Q4 rfl (Z.tuple) Jk (v:=.ty "tuple") rfl) Qb))) (λ_=>rfl))) (J5 (Qs JEa (Qq QJ rfl (Z.len) Zk (Qf (pv 0) Qb)) (Qq QJ rfl (Z.len) Zk (Qf (pv 1) Qb)) (Qv _))))) (Qe (Qn JU)) Qr)
  (Qc (Zw Dc rfl (YUc true true rfl (Z.zip) (pv 0) (pv 1)) (XDb (n:=2) rfl (XA (QW (i:=2) Qha.nd rfl (ON rfl)) (XA (QW (i:=3) Qha.nd rfl (ON rfl)) ZLb))) (Qe (QG (Q8 (QR (Jl IH (k:=(1+n)) hr #[0] rfl (Qf (pv 2) (Qf (pv 3) Qb))) (λ_=>rfl))) (Qe (Qn JU)) Qr)))
  (Qe (Qn JU)))) Qr)
  (Qe (Qn (XO (Y4 ZK (Qq QE rfl (Z.isinstance) Qu (Qf (pv 0) (Qf (Q4 rfl (Z.bool) Xca (v:=.ty "bool") rfl) Qb))) (Qq QE rfl (Z.isinstance) Qu (Qf (pv 1) (Qf (Q4 rfl (Z.bool) Xca (v:=.ty "bool") rfl) Qb))) (Qv _)) (J6 (Y4 (Jid (hr.units)) (pv 0) (pv 1) (Qv _))))))),?_⟩
 refine Qk (σ:=[Vo x,Vo y,Vp,Vp]) rfl ?_
 walk_at "rd";cases d with
 | v z =>
  obtain⟨hz,rfl⟩:=hx.flat;obtain⟨_,e⟩:=hy.flat;rw[e];refine Zad hz ⟨_,rfl,?_⟩
  rw[if_neg Uh];refine Xjb hz (Xjb hz ⟨rfl,?_⟩)
  rw[if_pos rfl];exact Ypd hn hx hx (by rw[decide_eq_true rfl];exact q _ (Qj.refl _))
 | l ds =>
  cases hx.h
 | t ds =>
  obtain⟨m,a,xs,em,rfl,ha,rx⟩:=hx.tup;obtain⟨m',b,ys,xw,rfl,hb,ry⟩:=hy.tup;obtain rfl:m'=m:=by lia
  subst em;have lx:=Vn rx;have ly:=Vn ry;refine Q3 (.tup hb) Xf ⟨_,rfl,?_⟩
  rw[if_pos rfl];refine Q3 (.tup ha) Xf ⟨_,rfl,?_⟩
  rw[if_neg (λz=>Dr z)]
  refine⟨a,rfl,xs,.inr (SqT.of ha),b,rfl,ys,.inr (SqT.of hb),?_⟩
  rw[if_neg (λz=>z #[0])]
  refine⟨a,rfl,b,rfl,xs,ha,ys,hb,Zjc (K:=K) xs ys #[0] (λi σ' H'=>Qj H H'/\∃ x2 x3,σ'=[Vo (.ref a),Vo (.ref b),x2,x3]) ⟨Qj.refl _,_,_,rfl⟩ (λi σ' H' h=>⟨h.1 _ _ ha,h.1 _ _ hb⟩) ?_ ?_⟩
  ·rintro i x y T σ' H' aC fU ⟨sm,x2,x3,rfl⟩ hT
   have st:=sm.trans (Qi hT (.tup [x,y]));walk_at "rd";refine⟨[x,y],SqT.of Qa,rfl,x,[y],rfl,y,[],rfl,rfl,?_⟩
   have hi:=(List.getElem?_eq_some_iff.mp aC).1
   have hd:ds[i]?=Vo (ds[i]'#[0]):=IE _
   exact⟨x,y,_,rfl,by lia,(QD rx hd aC).same st,(QD ry hd fU).same st,λH2 s2=>⟨_,rfl,by rw[if_neg (λz=>Dr z)];exact⟨st.trans s2,_,rfl⟩⟩⟩
  ·rintro σ' H' ⟨sm,x2,x3,rfl⟩
   walk_at "rd";exact q _ sm
theorem Xkb{K:VD}:UW K (.type "dict") (.type "dict")=Vo true:=by rfl
theorem ltS.tr{a b c:Str}(h1:ltS a b)(h2:ltS b c):ltS a c:=by
 unfold ltS at *;rw[Pl.Zlb]at *;exact decide_eq_true (List.lt_trans (of_decide_eq_true h1) (of_decide_eq_true h2))
theorem YVa(up:ae.Pairwise ltS)(pm:ae.Perm L)(hl:∀ z∈ae,z.length<=40){ys:List V}(mI:ys.Perm (Da V.str L))(so:ys.Pairwise λa b=>ltP b a=false):ys=Da V.str ae:=by
 have mem:∀ v,v∈ys↔v∈Da V.str ae:=λv=>by rw[mI.mem_iff];exact((pm.map V.str).mem_iff).symm
 have hs:∀ v∈ys,∃ z,v=.str z/\z.length<=40:=λv hv=>by
  obtain⟨z,hz,rfl⟩:=mem_map.mp ((mem v).mp hv);exact⟨z,rfl,hl z hz⟩
 have yc:ae.Nodup:=Dq (λ{a b} h e=>by subst e;exact ltS.irr _ h) up
 have nd:ys.Nodup:=by
  refine(mI.trans (pm.map V.str).symm).nodup_iff.mpr ?_
  exact List.Pairwise.map (S:=(·≠·)) V.str (λa b h e=>h (V.str.inj e)) yc
 refine Pl.Z8c.uniq (λv hv=>?_) (XWc (λv hv=>?_) (.inr λv hv=>?_) nd so) (by rw[Dp];exact up) mem
 ·obtain⟨z,rfl,h⟩:=hs v hv;exact h
 ·obtain⟨z,rfl,h⟩:=hs v hv;exact h
 ·obtain⟨z,rfl,h⟩:=hs v hv;exact⟨z,rfl⟩
theorem JJd{cs:Cl}(h:∀ p∈cs,hV p.2=true)(c:Str):hV (Z6 cs c)=true:=by
 unfold Z6;cases e:cs.find? λp=>decide (p.1=c) with
 | none=>rfl
 | some p=>exact h p (mem_of_find?_eq_some e)
inductive Yb(aj:VD)(vs:List V)(H:Hp)(Q:VK)(E:XK):Prop
 | mk:∀ l d ae ds,vs=[.ref l,.ref d]->H l=Vo (.lst (Da V.str ae))->H d=Vo (.dK (dkC ds))->ae.length<=60->(∀ r H' xs,Qj H H'->H r=Vp->H' r=Vo (.lst xs)->Vm (λc v=>∃ a,v=V.ref a/\H' a=Vo (.tup [.str c,Z6 ds c])) ae xs->Q (.ref r) H')->Yb aj vs H Q E
seal PE PT PW PA PS PSs PI PG QM PGs PO in
theorem Y8a(Z:Zs mg)(T:Tx K mg CT cs ob)(F:Fun K "_law_spelled" "_law_spelled" YM f fd):Qy P w K mg base CX0 1 f fd ["_law_columns_here","_law_row_here"] (Yb K):=by
 refine F.ok J8 (λvs H Q E h=>?_) (λah A outer s H vs Q E hr h=>?_)
 ·walk_at "n"
 obtain⟨l,d,ae,ds,rfl,hl,hd,lc,q⟩:=h;refine⟨_,(Qc (Ql 2 J8.nd (Zj Qb))
  (Qc (Zw Dc rfl (Jh (pv 0)) (QW (i:=3) J8.nd rfl (ON rfl)) (Qe (QZ (YF De Df Dg ZB (pv 2) (Qf (Zf (Qf (pv 3) (Qf (Ygb hr.u1 (pv 1) (pv 3) ⟨rfl,rfl,rfl,rfl⟩) Qb))) Qb)))))
  (Qe (Qn (pv 2))))),?_⟩
 refine Qk (σ:=[Vo (.ref l),Vo (.ref d),Vp,Vp]) rfl ?_
 walk_at "rd";refine⟨Uy _,λff bW=>?_⟩
 have s0:=Qi bW (.lst []);have ba:upd H ff (.lst []) ff=Vo (.lst []):=Qa;generalize upd H ff (.lst [])=H0 at s0 ba ⊢;refine⟨⟨_,SqL.of (s0 _ _ hl)⟩,YG (Da V.str ae) (λi σ' H'=>∃ xs x3,σ'=[Vo (.ref l),Vo (.ref d),Vo (.ref ff),x3]/\Qj H H'/\H' ff=Vo (.lst xs)/\Vm (λc v=>∃ a,v=V.ref a/\H' a=Vo (.tup [.str c,Z6 ds c])) (ae.take i) xs) ⟨[],_,rfl,s0,ba,.nil⟩ (λi σ' H' _ h=>by obtain⟨_,_,_,h,_⟩:=h;exact SqL.of (h _ _ hl)) ?_ ?_⟩
 ·rintro i x σ' H' hx ⟨xs,x3,rfl,s',hf,pr⟩
  rw[Ol]at hx
  cases hc:ae[i]? with
  | none=>rw[hc]at hx;cases hx
  | some c =>
  rw[hc]at hx;cases hx;walk_at "rd";have li:=(List.getElem?_eq_some_iff.mp hc).1
  have lp:=Vn pr;rw[Og]at lp;refine⟨.inl ⟨rfl,_,SqL.of hf⟩,.inl ⟨_,.inl (s' _ _ hd)⟩,_,QHa.k (k:=.inr c) (s' _ _ hd),ZX,λp hp=>?_⟩
  rw[Xbb];have s2:=Qi hp (.tup [.str c,Z6 ds c]);have g2:upd H' p (.tup [.str c,Z6 ds c]) p=_:=Qa;generalize upd H' p (.tup [.str c,Z6 ds c])=H2 at s2 g2 ⊢;have sl:=Zza (zs:=xs++[.ref p]) (s2 _ _ hf);refine⟨xs,s2 _ _ hf,QA #[0],Zd (s'.trans s2) bW,xs++[.ref p],Qa,?_⟩
  rw[Iq,hc];exact XW (Paired.mapP pr λc v ⟨a,e,h⟩=>⟨a,e,sl.tup (s2 _ _ h)⟩) (.cons ⟨p,rfl,sl.tup g2⟩ .nil)
 ·rintro σ' H' ⟨xs,x3,rfl,s',hf,pr⟩
  walk_at "rd";rw[UQ,IW]at pr;exact q ff H' xs s' bW hf pr
inductive QEa(aj:VD)(vs:List V)(H:Hp)(Q:VK)(E:XK):Prop
 | mk:∀ f u xs,∀ ps:Cl,vs=[.ref f,.ref u]->H f=Vo (.dK (dkC ps))->H u=Vo (.lst xs)->Vm (λ(p:Str×V) v=>∃ a,v=V.ref a/\H a=Vo (.tup [.str p.1,p.2])) ps xs->(∀ p∈ps,hV p.2=true)->ps.length<=60->(∀ H',Qj H H'->Q (.bl true) H')->QEa aj vs H Q E
seal PE PT PW PA PS PSs PI PG QM PGs PO in
theorem JMb(Z:Zs mg)(T:Tx K mg CT cs ob)(J4:∀ n,Cal P w K mg base (1+n) "_law_same" ["_law_found","_law_due"] (ZU K n))(F:Fun K "_law_dict" "_law_dict" Zba f fd):Qy P w K mg base CX0 10 f fd ["_law_found","_law_due"] (QEa K):=by
 refine F.ok Jo (λvs H Q E h=>?_) (λah A outer s H vs Q E hr h=>?_)
 ·walk_at "n"
 obtain⟨f,u,xs,ps,rfl,hf,hu,pr,hv,lp,q⟩:=h;refine⟨_,(Qc (QG (PW.pt (Y3 (Q8 (QR (Qq QE rfl (Z.isinstance) Qu (Qf (pv 0) (Qf (Q4 rfl (Z.dict) ZCa (v:=.ty "dict") rfl) Qb))) (λ_=>rfl))) (J5 (Qs JEa (Qq ZXc rfl (Z.len) Zk (Qf (pv 0) Qb)) (Qq QJ rfl (Z.len) Zk (Qf (pv 1) Qb)) (Qv _))))) (Qe (Qn JU)) Qr)
  (Qc (Ql 2 Jo.nd Qd)
  (Qc (Znc (Zw Dc rfl (Xuc (pv 0)) (XDb (n:=2) rfl (XA (QW (i:=3) Jo.nd rfl (ON rfl)) (XA (QW (i:=4) Jo.nd rfl (ON rfl)) ZLb))) (Qc (QG (PW.pt (Y3 (Q8 (QR (Qq QE rfl (Z.isinstance) Qu (Qf (pv 3) (Qf (Q4 rfl (Z.str) XT (v:=.ty "str") rfl) Qb))) (λ_=>rfl))) (Y3 (Qs JEa (pv 3) (Qt Qw (Qt Q0 (pv 1) (pv 2) (λ_ _=>rfl)) Qd (λ_ _=>rfl)) (Qv _)) (J5 (Q8 (QR (Jl (J4 8) (k:=9) hr #[1] rfl (Qf (pv 4) (Qf (Qt Qw (Qt Q0 (pv 1) (pv 2) (λ_ _=>rfl)) Qd (λ_ _=>rfl)) Qb))) (λ_=>rfl))))))) (Qe (Qn JU)) Qr)
  (Qe (Ql 2 Jo.nd (Qm QQ (pv 2) Qd))))))
  (Qe (Qn JU))))),?_⟩
 refine Qk (σ:=[Vo (.ref f),Vo (.ref u),Vp,Vp,Vp]) rfl ?_
 walk_at "rd";have lx:=Vn pr;refine Q3 (.dK hf) Xkb ⟨_,rfl,(if_neg (λz=>Dr z)).mpr ⟨_,hf,_,.inl (SqL.of hu),?_⟩⟩
 have ld:(dkC ps).length=ps.length:=by unfold dkC;rw[UQ]
 rw[if_neg (λz=>z #[0])]
 refine⟨_,hf,λob nf=>?_⟩
 have fu:f≠u:=Jd hf hu (by intro z;cases z)
 refine Jvc (λi σ' H'=>∃ x3 x4,σ'=[Vo (.ref f),Vo (.ref u),Vo (.int i),x3,x4]/\Qj (upd H f (.frz ob (.dK (dkC ps)))) H') ⟨_,_,rfl,Qj.refl _⟩ (λi σ' H' _ h=>by obtain⟨_,_,_,h⟩:=h;exact h _ _ Qa) ?_ ?_
 ·rintro i k v σ' H' p aK ⟨x3,x4,rfl,s'⟩ hp
  unfold dkC at aK;rw[Ol]at aK
  cases hc:ps[i]? with
  | none=>rw[hc]at aK;cases aK
  | some pc =>
  rw[hc]at aK;cases aK;have li:=(List.getElem?_eq_some_iff.mp hc).1
  have hx:xs[i]?=Vo (xs[i]'#[0]):=IE _
  obtain⟨a,ea,ha⟩:=QD pr hc hx;have s2:=Qi hp (.tup [kV (.inr pc.1),pc.2]);have g2:upd H' p (.tup [kV (.inr pc.1),pc.2]) p=_:=Qa;generalize upd H' p (.tup [kV (.inr pc.1),pc.2])=H2 at s2 g2 ⊢;have aX:=s'.trans s2;have sB:H2 u=Vo (.lst xs):=aX _ _ (by rw[Qh (VR fu)];exact hu)
  have j9:H2 a=Vo (.tup [.str pc.1,pc.2]):=aX _ _ (by rw[Qh (Jd ha hf (by intro z;cases z))];exact ha)
  have sC:=hv pc (Om hc);have bV:atI xs (i:Int)=Vo (.ref a):=by rw[<- ea];exact Za hx
  walk_at "rd";refine⟨_,SqT.of g2,rfl,_,_,rfl,_,_,rfl,rfl,?_⟩
  walk_at "rd";refine Q3 (.str pc.1) Zu ⟨_,rfl,(if_neg (λz=>Dr z)).mpr ⟨_,SqL.of sB,_,bV,a,rfl,_,SqT.of j9,_,at0 _ _,?_⟩⟩
  refine⟨rfl,(if_neg (not_not_intro rfl)).mpr ⟨_,SqL.of sB,_,bV,a,rfl,_,SqT.of j9,_,at1 _ _ _,pc.2,pc.2,.v pc.2,rfl,by decide,TD.ofV sC,TD.ofV sC,λH3 s3=>⟨_,rfl,(if_neg (λz=>Dr z)).mpr ⟨_,_,⟨by lia,rfl,rfl⟩,aX.trans s3⟩⟩⟩⟩
 ·rintro σ' H' ⟨x3,x4,rfl,s'⟩
  walk_at "rd";refine⟨f,nf,ob,_,s' _ _ Qa,q _ (QDa hf s')⟩
inductive Yc(aj:VD)(vs:List V)(H:Hp)(Q:VK)(E:XK):Prop
 | mk:∀ tt tc rt l ae L,vs=[.ref tt,.ref l]->H tt=Vo (.tup [.ref tc,rt])->H tc=Vo (.tup (Da V.str ae))->H l=Vo (.lst (Da V.str L))->ae.Pairwise ltS->ae.Perm L->(∀ z∈ae,z.length<=40)->ae.length<=60->(∀ H',Qj H H'->Q (.bl true) H')->Yc aj vs H Q E
seal PE PT PW PA PS PSs PI PG QM PGs PO in
theorem Y9a(Z:Zs mg)(T:Tx K mg CT cs ob)(J4:∀ n,Cal P w K mg base (1+n) "_law_same" ["_law_found","_law_due"] (ZU K n))(F:Fun K "_law_columns" "_law_columns" YQ f fd):Qy P w K mg base CX0 10 f fd ["_law_found","_law_columns_here"] (Yc K):=by
 refine F.ok Y6a (λvs H Q E h=>?_) (λah A outer s H vs Q E hr h=>?_)
 ·walk_at "n"
 obtain⟨tt,tc,rt,l,ae,L,rfl,h1,h2,h3,up,pm,hz,lc,q⟩:=h;refine⟨_,(Qc (QG (PW.pt (Y3 (Q8 (QR (Qq QE rfl (Z.isinstance) Qu (Qf (pv 0) (Qf (Q4 rfl (Z.tuple) Jk (v:=.ty "tuple") rfl) Qb))) (λ_=>rfl))) (J5 (Qs JEa (Qq QJ rfl (Z.len) Zk (Qf (pv 0) Qb)) Qd (Qv _))))) (Qe (Qn JU)) Qr)
  (Qe (Qn (Jl (J4 8) (k:=9) hr #[1] rfl (Qf (Qt Qw (pv 0) Qd (λ_ _=>rfl)) (Qf (QX ZY rfl (Z.tuple) Jk (Qf (Qq ZZ rfl (Z.sorted) YC (Qf (pv 1) Qb)) Qb)) Qb)))))),?_⟩
 refine Qk (σ:=[Vo (.ref tt),Vo (.ref l)]) rfl ?_
 walk_at "rd";refine Q3 (.tup h1) Xf ⟨_,rfl,(if_neg (λz=>Dr z)).mpr ⟨_,.inr (SqT.of h1),(if_neg (λz=>z rfl)).mpr ⟨_,SqT.of h1,_,at0 _ _,?_⟩⟩⟩
 have ll:=pm.length_eq;refine⟨l,_,ltP,rfl,SqL.of h3,by rw[UQ];lia,XOa (λv hv=>by obtain⟨z,_,rfl⟩:=mem_map.mp hv;exact⟨z,rfl⟩),λD H1 ys s1 hD g1 mI so=>?_⟩
 obtain rfl:=YVa up pm hz mI so;refine⟨D,rfl,_,.inl ⟨SqL.of g1,λt ht=>?_⟩⟩
 have s2:=Qi ht (.tup (Da V.str ae));have ty:∀ {H':Hp} {a:Vh},H' a=Vo (.tup (Da V.str ae))->TD H' 7 (.t (ae.map λc=>Dt.v (.str c))) (.ref a):=λ{H' a} h=>TD.ofT h (JF #[2] λi y hy=>by
  rw[Ol]at hy
  cases hc:ae[i]? with
  | none=>rw[hc]at hy;cases hy
  | some c=>rw[hc]at hy;cases hy;exact⟨.v (.str c),by rw[Ol,hc];rfl,TD.ofV rfl⟩)
 exact⟨_,_,_,rfl,by decide,ty ((s1.trans s2) _ _ h2),ty Qa,λH' s'=>q H' ((s1.trans s2).trans s')⟩
inductive Zta(aj:VD)(vs:List V)(H:Hp)(Q:VK)(E:XK):Prop
 | mk:∀ c l L,vs=[.int c,.ref l]->H l=Vo (.lst (Da V.str L))->L.Nodup->L.length<=60->(∀ r H' ds,Qj H H'->H r=Vp->H' r=Vo (.dK (dkC ds))->NdC ds->ds.length<=L.length->(∀ p∈ds,p.1∈L/\GP p.2/\p.2≠.non)->Q (.ref r) H')->Zta aj vs H Q E
seal PE PT PW PA PS PSs PI PG QM PGs PO in
theorem Xlb(Z:Zs mg)(T:Tx K mg CT cs ob)(yd:Cal P w K mg base 3 "_law_plain" ["_law_cell_here"] (JT K))(QS:Cal P w K mg base 1 "_law_mix" ["_law_cell_here","_law_k"] (Zi K))(F:Fun K "_law_row" "_law_row" Jpa f fd):Qy P w K mg base CX0 4 f fd ["_law_cell_here","_law_columns_here"] (Zta K):=by
 refine F.ok Q9a (λvs H Q E h=>?_) (λah A outer s H vs Q E hr h=>?_)
 ·walk_at "n"
 obtain⟨c,l,L,rfl,hl,nd,lL,q⟩:=h;refine⟨_,(Qc (Ql 2 Q9a.nd QQa)
  (Qc (Zw Dc rfl (YA rfl (Z.range) (Qf (Qq QJ rfl (Z.len) Zk (Qf (pv 1) Qb)) Qb)) (QW (i:=3) Q9a.nd rfl (ON rfl)) (Qe (QG (PW.pt (Y3 (Qs ZK (Qm QF (Qm ZP (pv 0) Qd) Qd) Qd (Qv _)) (J5 (Qs Xra (Qm QF (Qo QS hr (Qf (pv 0) (Qf (Qm QQ Qd (pv 3)) Qb))) Qd) Qd (Qv _))))) (Qe (JLa hr.u1 (pv 2) (Qt Q0 (pv 1) (pv 3) (λ_ _=>rfl)) (Qo yd hr (Qf (Qo QS hr (Qf (pv 0) (Qf (Qm QQ Qd (pv 3)) Qb))) Qb)) rfl)) Qr)))
  (Qe (Qn (pv 2))))),?_⟩
 refine Qk (σ:=[Vo (.int c),Vo (.ref l),Vp,Vp]) rfl ?_
 walk_at "rd";intro p hp;have s0:=Qi hp (.dK []);have g0:upd H p (.dK []) p=_:=Qa;generalize upd H p (.dK [])=H0 at s0 g0 ⊢;refine⟨_,.inl (SqL.of (s0 _ _ hl)),by rw[UQ];lia,by rw[UQ];lia,?_⟩
 refine Jx (λi σ' H'=>∃ ds x3,σ'=[Vo (.int c),Vo (.ref l),Vo (.ref p),x3]/\Qj H H'/\H' p=Vo (.dK (dkC ds))/\NdC ds/\ds.length<=i/\(∀ p∈ds,p.1∈L.take i/\GP p.2/\p.2≠.non)) ⟨[],_,rfl,s0,g0,LR,Uy _,λp h=>nomatch h⟩ ?_ ?_
 ·rintro i σ' H' hi ⟨ds,x3,rfl,s',de,ay,ld,hds⟩
  rw[UQ]at hi;have hi:i < L.length:=by lia
  have sub:∀ q∈ds,q.1∈L.take (i+1)/\GP q.2/\q.2≠.non:=λq hq=>⟨(take_subset_take_left L (U6 i)) (hds q hq).1,(hds q hq).2⟩
  walk_at "rd";have dk:=s' _ _ hl;have hz:L[i]?=Vo L[i]:=IE hi
  have put:Zi K [V.int c,V.int (80+(0+(i:Int)))] H' (λx H1=>JT K [x] H1 (λv H1=>∃ x,SqL K H1 l x/\∃ x_1,atI x (0+(i:Int))=Vo x_1/\∃ x,Qyb H1 p x_1 v x/\Qj H x/\∃ cY,x p=Vo (HO.dK (dkC cY))/\NdC cY/\Of cY<=i+1/\∀ (p:Str×V),p∈cY->p.fst∈List.take (i+1) L/\GP p.snd/\p.snd≠V.non) E0) E0:=by
   refine⟨_,_,rfl,λm _ _=>⟨_,rfl,λv H2 gv nv s2=>⟨_,SqL.of (s2 _ _ dk),.str L[i],by rw[Int.zero_add];exact Za (by rw[Ol,hz];rfl),_,Qyb.k (k:=.inr L[i]) (s2 _ _ de) (by unfold dkC;rw[UQ];exact QA #[0]),Zd (s'.trans s2) hp,QCa ds L[i] v,by rw[Qa,ZCc],ZDc ay _ _,by have:=Xcb ds L[i] v;lia,λq hq=>?_⟩⟩⟩
   obtain⟨c',v'⟩:=q
   rcases Qjb.mp hq with ⟨rfl,rfl⟩ | ⟨_,hm⟩
   ·exact⟨by rw[Iq,hz];exact Ux _ (mem_singleton.mpr rfl),gv,nv⟩
   ·exact sub _ hm
  exact⟨by unfold Z0a;decide,Zm (λ_=>put) λ_=>⟨_,_,rfl,λm _ _=>⟨_,rfl,Zm (λ_=>put) λ_=>⟨s',ds,de,ay,by lia,sub⟩⟩⟩⟩
 ·rintro σ' H' ⟨ds,x3,rfl,s',de,ay,ld,hds⟩
  walk_at "rd";rw[UQ]at ld hds;have e:((L.length:Nat):Int).toNat=L.length:=by lia
  rw[e]at ld hds;rw[IW]at hds;exact q p H' ds s' hp de ay ld hds
inductive Yz(aj:VD)(vs:List V)(H:Hp)(Q:VK)(E:XK):Prop
 | mk:∀ d B,vs=[.ref d]->H d=Vo (.dK (kvB B))->(∀ x∈B,H x.2.2=Vo (.dK (dkC x.2.1))/\x.2.1.length<=60)->(∀ x∈B,x.2.2≠d)->(B.map (·.1)).Nodup->B.length<=60->(∀ r H' B',Qj H H'->H r=Vp->H' r=Vo (.dK (kvB B'))->B'.map (λx=>(x.1,x.2.1))=B.map (λx=>(x.1,x.2.1))->(∀ x∈B',H' x.2.2=Vo (.dK (dkC x.2.1))/\H x.2.2=Vp/\x.2.2≠r)->(B'.map (·.2.2)).Nodup->Q (.ref r) H')->Yz aj vs H Q E
seal PE PT PW PA PS PSs PI PG QM PGs PO in
theorem JOb(Z:Zs mg)(T:Tx K mg CT cs ob)(F:Fun K "_law_copy" "_law_copy" Xb f fd):Qy P w K mg base CX0 1 f fd ["_law_some"] (Yz K):=by
 refine F.ok Jfb (λvs H Q E h=>?_) (λah A outer s H vs Q E hr h=>?_)
 ·walk_at "n"
 obtain⟨d,B,rfl,hd,hB,n5,nd,lB,q⟩:=h;refine⟨_,(Qe (Qn (QX (X2b hr.hd) rfl (Z.dict) ZCa (Qf (ZZb (Zo ["_law_some"] rfl (Ye (N:=["_law_some"]) (dsc:=Qg Xb) rfl rfl (by decide +kernel)) (Xga (pv 0)) (λ_ _ _ _ _=>Jj) (λ_ _ _ _ _=>(Zf (Qf (pv 0) (Qf (QX XYa rfl (Z.dict) ZCa (Qf (Y8 hr.u1 (pv 1) (pv 0) (λ_ _=>rfl)) Qb)) Qb)))))) Qb)))),?_⟩
 refine Qk (σ:=[Vo (.ref d)]) rfl ?_
 walk_at "rd";have lk:(kvB B).length=B.length:=by unfold kvB;rw[UQ]
 refine⟨_,hd,λob nf=>Jwc (λi H' ys=>Qj (upd H d (.frz ob (.dK (kvB B)))) H'/\ys.length=i/\∃ B':Bk,B'.map (λx=>(x.1,x.2.1))=(B.take i).map (λx=>(x.1,x.2.1))/\Vm (λx v=>∃ a,v=V.ref a/\H' a=Vo (.tup [kV x.1,.ref x.2.2])) B' ys/\(∀ x∈B',H' x.2.2=Vo (.dK (dkC x.2.1))/\H x.2.2=Vp)/\(B'.map (·.2.2)).Nodup) (Q2 #[0]) (λD hD=>⟨Qi hD _,rfl,[],rfl,.nil,(λx h=>nomatch h),LR⟩) (λi H' ys h=>⟨h.1 _ _ Qa,h.2.1⟩) (λD i k v H' ys hD aK hy hP=>?_) λD H' ys hD hy hP=>?_⟩
 ·obtain⟨s',ly,B',eB,pr,eE,ay⟩:=hP
  unfold kvB at aK;rw[Ol]at aK
  cases hb:B[i]? with
  | none=>rw[hb]at aK;cases aK
  | some x =>
  rw[hb]at aK;cases aK;have hx:=hB x (Om hb);have ye:x.2.2≠d:=n5 x (Om hb);have aC:H' x.2.2=Vo (.dK (dkC x.2.1)):=s' _ _ (by rw[Qh ye];exact hx.1)
  have vv:ZM (kvB B) x.1=Vo (.ref x.2.2):=by
   unfold kvB;rw[JA,ZN (·.1) nd (Om hb)]
   rfl
  walk_at "rd";refine⟨_,.inl ⟨_,x.1,.inr ⟨ob,s' _ _ Qa⟩,rfl,vv.symm⟩,x.2.2,_,rfl,aC,by unfold dkC;rw[UQ];have:=hx.2;lia,λb dU=>⟨ZX,λt ht=>?_⟩⟩
  have s2:=Qi dU (.dK (dkC x.2.1));have g2:upd H' b (.dK (dkC x.2.1)) b=_:=Qa;generalize upd H' b (.dK (dkC x.2.1))=H2 at s2 g2 ht ⊢;have s3:=Qi ht (.tup [kV x.1,.ref b]);have g3:upd H2 t (.tup [kV x.1,.ref b]) t=_:=Qa;generalize upd H2 t (.tup [kV x.1,.ref b])=H3 at s3 g3 ⊢;have ka:=s2.trans s3;have sl:=Zza (zs:=ys++[.ref t]) (ka _ _ hy);have yf:H b=Vp:=by
   cases e:H b with
   | none=>rfl
   | some o =>
    by_cases z:b=d
    ·subst z;rw[s' _ _ Qa]at dU;cases dU
    ·rw[s' _ _ (by rw[Qh z];exact e)]at dU;cases dU
  refine⟨ka _ _ hy,Zd (s'.trans ka) hD,by simp[ly],B'++[(x.1,x.2.1,b)],?_,?_,?_,?_⟩
  ·rw[Ip,eB,Iq,hb,Ip];rfl
  ·exact XW (Paired.mapP pr λy v ⟨a,e,h⟩=>⟨a,e,sl.tup (ka _ _ h)⟩) (.cons ⟨t,rfl,sl.tup g3⟩ .nil)
  ·intro y fU
   rcases mem_append.mp fU with h | h
   ·exact⟨sl.dK (ka _ _ (eE y h).1),(eE y h).2⟩
   ·rw[mem_singleton.mp h];exact⟨sl.dK (s3 _ _ g2),yf⟩
  ·rw[Ip,Dd]
   refine⟨ay,by simp,λa ha c hc e=>?_⟩
   obtain⟨y,fU,rfl⟩:=mem_map.mp ha;have hc:c=b:=by simpa using hc
   subst hc;have:=(eE y fU).1;rw[show y.2.2=c from e,dU]at this
   cases this
 ·obtain⟨s',ly,B',eB,pr,eE,ay⟩:=hP
  rw[lk,IW]at eB;have nD:D≠d:=λz=>by rw[z,Qa]at hD;cases hD
  have t':Qj H (upd H' d (.dK (kvB B))):=QDa hd s';have kk:B'.map (·.1)=B.map (·.1):=by
   have:=congrArg (Da Dw) eB;rw[Dv,Dv]at this;exact this
  have lB':B'.length=B.length:=by
   have:=congrArg Of kk
   simpa using this
  have off:∀ x∈B',x.2.2≠d:=λx hx z=>by
   have:=(eE x hx).2;rw[z,hd]at this;cases this
  have mk:Jw [] (kvB B')=kvB B':=YHa (by unfold kvB;rw[LL,Dv];show(B'.map (·.1)).Nodup;rw[kk];exact nd)
  refine⟨d,nf,ob,_,s' _ _ Qa,D,ys,kvB B',rfl,by rw[Qh nD];exact hy,by rw[<- Vn pr];lia,?_,λD2 cN=>?_⟩
  ·unfold kvB
   refine JF (by rw[UQ];exact(Vn pr).symm) λi y fU=>?_
   have hi:=(List.getElem?_eq_some_iff.mp fU).1
   have hb:B'[i]?=Vo (B'[i]'(by rw[Vn pr];exact hi)):=IE _
   obtain⟨a,e,h⟩:=QD pr hb fU;exact⟨_,by rw[Ol,hb];rfl,a,e,by rw[Qh (Jd h (s' _ _ Qa) (by intro z;cases z))];exact h⟩
  ·rw[mk]
   have s5:=Qi cN (.dK (kvB B'));refine q D2 _ B' (t'.trans s5) (none_of t' cN) Qa eB (λx hx=>?_) ay
   have aC:upd H' d (.dK (kvB B)) x.2.2=Vo (.dK (dkC x.2.1)):=by rw[Qh (off x hx)];exact(eE x hx).1
   exact⟨s5 _ _ aC,(eE x hx).2,λz=>by rw[z,cN]at aC;cases aC⟩
inductive Xz(aj:VD)(vs:List V)(H:Hp)(Q:VK)(E:XK):Prop
 | mk:∀ f xs l d ae R B,vs=[.ref f,.ref l,.ref d]->H f=Vo (.lst xs)->Vm (QEc H ae) R xs->H l=Vo (.lst (Da V.str ae))->ae.length<=60->H d=Vo (.dK (kvB B))->(∀ x∈B,H x.2.2=Vo (.dK (dkC x.2.1))/\NdC x.2.1/\GK (kV x.1)/\∀ p∈x.2.1,hV p.2=true)->(B.map (·.1)).Nodup->B.length<=60->Fit B R->(∀ H',Qj H H'->Q (.bl true) H')->Xz aj vs H Q E
seal PE PT PW PA PS PSs PI PG QM PGs PO in
theorem QYb(Z:Zs mg)(T:Tx K mg CT cs ob)(yg:Cal P w K mg base 1 "_law_rising" ["_law_some"] (YZ K))(yh:Cal P w K mg base 10 "_law_dict" ["_law_found","_law_due"] (QEa K))(J4:∀ n,Cal P w K mg base (1+n) "_law_same" ["_law_found","_law_due"] (ZU K n))(yi:Cal P w K mg base 1 "_law_spelled" ["_law_columns_here","_law_row_here"] (Yb K))(F:Fun K "_law_reads" "_law_reads" Qia f fd):Qy P w K mg base CX0 11 f fd ["_law_found","_law_columns_here","_law_some"] (Xz K):=by
 refine F.ok JM (λvs H Q E h=>?_) (λah A outer s H vs Q E hr h=>?_)
 ·walk_at "n"
 obtain⟨f,xs,l,d,ae,R,B,rfl,hf,px,hl,lc,hd,hB,nd,lB,fit,q⟩:=h;refine⟨_,(Qc (Ql 3 JM.nd (Qo yg hr (Qf (pv 2) Qb)))
  (Qc (QG (PW.pt (Y3 (Q8 (QR (Qq QE rfl (Z.isinstance) Qu (Qf (pv 0) (Qf (Q4 rfl (Z.list) XU (v:=.ty "list") rfl) Qb))) (λ_=>rfl))) (J5 (Qs JEa (Qq QJ rfl (Z.len) Zk (Qf (pv 0) Qb)) (Qq QJ rfl (Z.len) Zk (Qf (pv 3) Qb)) (Qv _))))) (Qe (Qn JU)) Qr)
  (Qc (Zw Dc rfl (YUc false false rfl (Z.zip) (pv 0) (pv 3)) (XDb (n:=2) rfl (XA (QW (i:=4) JM.nd rfl (ON rfl)) (XA (QW (i:=5) JM.nd rfl (ON rfl)) ZLb))) (Qc (QG (PW.pt (Y3 (Q8 (QR (Qq QE rfl (Z.isinstance) Qu (Qf (pv 4) (Qf (Q4 rfl (Z.tuple) Jk (v:=.ty "tuple") rfl) Qb))) (λ_=>rfl))) (Y3 (Qs JEa (Qq QJ rfl (Z.len) Zk (Qf (pv 4) Qb)) Qd (Qv _)) (J5 (Q8 (QR (Jl (J4 8) (k:=10) hr #[1] rfl (Qf (Qt Qw (pv 4) Qd (λ_ _=>rfl)) (Qf (Qt Qw (pv 5) Qd (λ_ _=>rfl)) Qb))) (λ_=>rfl))))))) (Qe (Qn JU)) Qr)
  (Qe (QG (Q8 (QR (Qo yh hr (Qf (Qt Qw (pv 4) Qd (λ_ _=>rfl)) (Qf (Qo yi hr (Qf (pv 1) (Qf (Qt Qw (pv 5) Qd (λ_ _=>rfl)) Qb))) Qb))) (λ_=>rfl))) (Qe (Qn JU)) Qr))))
  (Qe (Qn JU))))),?_⟩
 refine Qk (σ:=[Vo (.ref f),Vo (.ref l),Vo (.ref d),Vp,Vp,Vp]) rfl ?_
 walk_at "rd";have lk:(kvB B).length=B.length:=by unfold kvB;rw[UQ]
 refine⟨d,kvB B,rfl,hd,by lia,λx hx=>?_,by unfold kvB;rw[Dv];exact nd,λp H1 ys ks s1 hp g1 ra=>?_⟩
 ·obtain⟨y,hy,rfl⟩:=mem_map.mp hx
  exact(hB y hy).2.2.1.key
 have lx:=Vn px;have lR:=fit.len;have kp:(kvB B).map (λx=>kV x.1)=B.map λx=>kV x.1:=by unfold kvB;rw[Dv];rfl
 have pm:=ra.perm;rw[kp]at pm;have ek:ks=R.map Dw:=by
  refine Pl.Z8c.uniq (λv hv=>?_) ra.up (by rw[Dp];exact Dq (λ{a b} h=>h.2.2) fit.up) λv=>(pm.mem_iff).trans (fit.pm.mem_iff).symm
  obtain⟨x,hx,rfl⟩:=mem_map.mp (pm.mem_iff.mp hv);exact(hB x hx).2.2.1.gp.pl
 have ly:ys.length=xs.length:=by rw[ra.len,ek,UQ];exact lx
 refine Q3 (.lst (s1 _ _ hf)) YRb ⟨_,rfl,(if_neg (λz=>Dr z)).mpr ⟨xs,.inl (SqL.of (s1 _ _ hf)),p,rfl,ys,.inl (SqL.of g1),(if_neg (λz=>z #[0])).mpr ⟨p,rfl,xs,s1 _ _ hf,ys,g1,?_⟩⟩⟩
 refine Zjc (K:=K) xs ys #[0] (λi σ' H'=>Qj H1 H'/\∃ x4 x5,σ'=[Vo (.ref f),Vo (.ref l),Vo (.ref d),Vo (.ref p),x4,x5]) ⟨Qj.refl _,_,_,rfl⟩ (λi σ' H' h=>⟨h.1 _ _ (s1 _ _ hf),h.1 _ _ g1⟩) ?_ ?_
 ·rintro i x y T σ' H' hx hy ⟨sm,x4,x5,rfl⟩ hT
  have st:=sm.trans (Qi hT (.tup [x,y]));have gT:upd H' T (.tup [x,y]) T=_:=Qa;generalize upd H' T (.tup [x,y])=H2 at st gT ⊢;have hi:=(List.getElem?_eq_some_iff.mp hx).1
  have bO:R[i]?=Vo (R[i]'#[0]):=IE _
  obtain⟨a,b,ex,ha,hb⟩:=QD px bO hx;obtain⟨a2,k,v,ey,hk,j9,hm⟩:=ra.at_ i y hy;obtain⟨z,hz,ez⟩:=mem_map.mp hm;cases ez;subst ex ey;rw[ek,Ol,bO]at hk
  have hk:(R[i]'#[0]).1=kV z.1:=Vr hk
  rw[hk]at ha;have mJ:=hB z hz;have hc:=fit.cs _ (IF (show i < R.length by lia)) z hz hk
  have aX:=s1.trans st;have kh:hV (kV z.1)=true:=mJ.2.2.1.gp.hv;walk_at "rd";refine⟨_,SqT.of gT,rfl,_,_,rfl,_,_,rfl,rfl,?_⟩
  walk_at "rd";refine Q3 (.tup (aX _ _ ha)) Xf ⟨_,rfl,(if_neg (λz=>Dr z)).mpr ⟨_,.inr (SqT.of (aX _ _ ha)),(if_neg (λz=>z rfl)).mpr ⟨_,SqT.of (aX _ _ ha),_,at0 _ _,_,SqT.of (st _ _ j9),_,at0 _ _,kV z.1,kV z.1,.v (kV z.1),rfl,by decide,TD.ofV kh,TD.ofV kh,λH3 s3=>⟨_,rfl,(if_neg (λz=>Dr z)).mpr ?_⟩⟩⟩⟩
  have bK:=aX.trans s3;refine⟨_,SqT.of (bK _ _ ha),_,at1 _ _ _,_,SqT.of ((st.trans s3) _ _ j9),_,at1 _ _ _,l,z.2.2,ae,z.2.1,rfl,bK _ _ hl,bK _ _ mJ.1,lc,λr4 H4 zs s4 rP g4 pz=>?_⟩
  have sD:=(bK.trans s4) _ _ hb;have eb:ae.map (λc=>((Ve c,Z6 (R[i]'#[0]).2 c):Key×V))=dkC (ae.map λc=>(c,Z6 z.2.1 c)):=by
   unfold dkC;rw[Dv];exact Ir λc _=>by rw[hc.get mJ.2.1];rfl
  rw[eb]at sD;refine⟨b,r4,zs,_,rfl,sD,g4,?_,λp hp=>?_,by rw[UQ];exact lc,λH5 s5=>⟨_,rfl,(if_neg (λz=>Dr z)).mpr ⟨st.trans (s3.trans (s4.trans s5)),_,rfl⟩⟩⟩
  ·refine JF (by rw[UQ];exact(Vn pz).symm) λj u hu=>?_
   have hj:=(List.getElem?_eq_some_iff.mp hu).1
   have sE:ae[j]?=Vo (ae[j]'(by rw[Vn pz];exact hj)):=IE _
   obtain⟨c4,e4,h4⟩:=QD pz sE hu;exact⟨_,by rw[Ol,sE];rfl,c4,e4,h4⟩
  ·obtain⟨c,_,rfl⟩:=mem_map.mp hp
   exact JJd mJ.2.2.2 c
 ·rintro σ' H' ⟨sm,x4,x5,rfl⟩
  walk_at "rd";exact q _ (s1.trans sm)
structure Fx(H:Hp)(st:StL)(nl kl hd cF cE lh dh:Vh)(nm:List Str)(ky:List V)(cG:V)(az:List Str)(Rh:List (V×Cl))(Bh:Bk):Prop where
 nl:H nl=Vo (.lst (Da V.str nm))
 kl:H kl=Vo (.lst ky)
 hd:H hd=Vo (.tup [.ref cF,.ref lh,.ref dh])
 tt:H cF=Vo (.tup [.ref cE,cG])
 tc:H cE=Vo (.tup (Da V.str az))
 lh:H lh=Vo (.lst (Da V.str az))
 dh:H dh=Vo (.dK (kvB Bh))
 bs:∀ x∈Bh,H x.2.2=Vo (.dK (dkC x.2.1))
 tr:Zq st (Da rD Rh) cG
abbrev FA(nl kl lh dh:Vh)(Bh:Bk):List Vh:=nl::kl::lh::dh::Bh.map (·.2.2)
abbrev MU(p d1 d2 lc d:Vh)(B:Bk):List Vh:=p::d1::d2::lc::d::B.map (·.2.2)
def Sc(K:VD)(H:Hp)(a:Vh)(ns:List Int)(S:List Vh):Prop:=(∀ H',SqL K H' a (Da V.int ns))\/∃ o,H a=Vo o/\(∀ H',H' a=Vo o->SqL K H' a (Da V.int ns))/\a∉S
theorem Sc.sq{K:VD}(h:Sc K H a ns S):SqL K H a (Da V.int ns):=by
 rcases h with h | ⟨o,h,g,_⟩
 ·exact h H
 ·exact g H h
theorem Sc.x{K:VD}{S':List Vh}(h:Sc K H a ns S)(s:QO S H H')(f:∀ z∈S',z∈S\/H z=Vp):Sc K H' a ns S':=by
 rcases h with h | ⟨o,h,g,n⟩
 ·exact .inl h
 ·refine .inr ⟨o,s _ _ n h,g,λz=>?_⟩
  rcases f a z with z | z
  ·exact n z
  ·rw[h]at z;cases z
theorem Sc.of{K:VD}(h:SqL K H a (Da V.int ns))(f:∀ o,H a=Vo o->a∉S):Sc K H a ns S:=by
 rcases h with h | h
 ·rcases h with h | ⟨o,h⟩
  ·exact .inr ⟨_,h,λH' h'=>.inl (.inl h'),f _ h⟩
  ·exact .inr ⟨_,h,λH' h'=>.inl (.inr ⟨o,h'⟩),f _ h⟩
 ·exact .inl λH'=>.inr h
theorem Fx.x(h:Fx H st nl kl hd cF cE lh dh nm ky cG az Rh Bh)(s:QO S H H')(t:Zt H H')(n:∀ z∈FA nl kl lh dh Bh,z∉S)(sub:∀ x∈QI st,x∈QI ai):Fx H' ai nl kl hd cF cE lh dh nm ky cG az Rh Bh :=
 ⟨s _ _ (n _ #[2]) h.nl,s _ _ (n _ #[2]) h.kl,t _ _ h.hd,t _ _ h.tt,t _ _ h.tc,s _ _ (n _ #[2]) h.lh,s _ _ (n _ #[2]) h.dh,λx hx=>s _ _ (n _ (by simp only[Lv,Dx];exact .inr (.inr (.inr (.inr ⟨x,hx,rfl⟩))))) (h.bs x hx),h.tr.mono sub⟩
theorem Fx.same(h:Fx H st nl kl hd cF cE lh dh nm ky cG az Rh Bh)(s:Qj H H'):Fx H' st nl kl hd cF cE lh dh nm ky cG az Rh Bh:=h.x (s.x []) s.t (λ_ _ h=>nomatch h) λ_ h=>h
theorem Fx.al(h:Fx H st nl kl hd cF cE lh dh nm ky cG az Rh Bh){z:Vh}(hz:z∈FA nl kl lh dh Bh):H z≠Vp:=by
 simp only[Lv,Dx]at hz
 rcases hz with rfl | rfl | rfl | rfl | ⟨x,hx,rfl⟩
 ·rw[h.nl];simp
 ·rw[h.kl];simp
 ·rw[h.lh];simp
 ·rw[h.dh];simp
 ·rw[h.bs x hx];simp
theorem Yvd{F S':List Vh}(aU:∀ z∈F,z∉S)(al:∀ z∈F,H z≠Vp)(f:∀ z∈S',z∈S\/H z=Vp):∀ z∈F,z∉S':=λz hz h=>by
 rcases f z h with h | h
 ·exact aU z hz h
 ·exact al z hz h
structure Cu(P:Vg)(w:Vb)(ob:Nat->Vh)(H:Hp)(p d1 d2:Vh)(st:StL)(c:Int)(tt tc lc d:Vh)(rt:V)(ae L:List Str)(R:List (V×Cl))(B:Bk):Prop where
 sa:QK P w ob H p d1 d2 st c
 tt:H tt=Vo (.tup [.ref tc,rt])
 tc:H tc=Vo (.tup (Da V.str ae))
 cl:H lc=Vo (.lst (Da V.str L))
 dd:H d=Vo (.dK (kvB B))
 bs:∀ x∈B,H x.2.2=Vo (.dK (dkC x.2.1))
 tr:Zq st (Da rD R) rt
 nd:(MU p d1 d2 lc d B).Nodup
section
variable{P:Vg}{w:Vb}{ob:Nat->Vh}{H H':Hp}{p d1 d2:Vh}{st ai:StL}{c c':Int}{tt tc lc d:Vh}{rt:V}{ae L:List Str}{R:List (V×Cl)}{B:Bk}
theorem Cu.same(h:Cu P w ob H p d1 d2 st c tt tc lc d rt ae L R B)(s:Qj H H'):Cu P w ob H' p d1 d2 st c tt tc lc d rt ae L R B:=⟨h.sa.same s,s _ _ h.tt,s _ _ h.tc,s _ _ h.cl,s _ _ h.dd,λx hx=>s _ _ (h.bs x hx),h.tr,h.nd⟩
theorem Cu.sameT(h:Cu P w ob H p d1 d2 st c tt tc lc d rt ae L R B)(s:QO (MU p d1 d2 lc d B) H H'):Zt H H':=λb xs e=>s _ _ (λz=>by
 obtain⟨dx,eo⟩:=h.sa.obj;have no:∀ {o:HO},H b=Vo o->(∀ ys,o≠.tup ys)->False:=λ{o} h1 h2=>by rw[e]at h1;exact h2 _ (Vr h1).symm
 simp only[Lv,Dx]at z
 rcases z with z | z | z | z | z | ⟨x,hx,z⟩
 ·subst z;exact no eo (λ_ z=>by cases z)
 ·subst z;exact no h.sa.num (λ_ z=>by cases z)
 ·subst z;exact no h.sa.tol (λ_ z=>by cases z)
 ·subst z;exact no h.cl (λ_ z=>by cases z)
 ·subst z;exact no h.dd (λ_ z=>by cases z)
 ·subst z;exact no (h.bs x hx) (λ_ z=>by cases z)) e
theorem Cu.fresh(h:Cu P w ob H p d1 d2 st c tt tc lc d rt ae L R B){r:Vh}(hr:H r=Vp):r∉MU p d1 d2 lc d B:=λz=>by
 obtain⟨dx,eo⟩:=h.sa.obj;have no:∀ {o:HO},H r=Vo o->False:=λ{o} h1=>by rw[hr]at h1;cases h1
 simp only[Lv,Dx]at z
 rcases z with z | z | z | z | z | ⟨x,hx,z⟩
 ·subst z;exact no eo
 ·subst z;exact no h.sa.num
 ·subst z;exact no h.sa.tol
 ·subst z;exact no h.cl
 ·subst z;exact no h.dd
 ·subst z;exact no (h.bs x hx)
end
structure Pu(n:Nat)(ae L:List Str)(R:List (V×Cl))(B:Bk):Prop where
 up:ae.Pairwise ltS
 pm:ae.Perm L
 wd:∀ z∈ae,GW z
 ll:L.length<=n
 bl:B.length<=n
 kn:(B.map (·.1)).Nodup
 ok:∀ x∈B,GK (kV x.1)/\NdC x.2.1/\x.2.1.length<=n/\∀ q∈x.2.1,q.1.length<=40/\hV q.2=true
 fit:Fit B R
section
variable{n:Nat}{ae L:List Str}{R:List (V×Cl)}{B:Bk}
theorem Pu.mono(h:Pu n ae L R B){m:Nat}(hm:n<=m):Pu m ae L R B:=⟨h.up,h.pm,h.wd,VJ h.ll hm,VJ h.bl hm,h.kn,λx hx=>let ⟨a,b,c,e⟩:=h.ok x hx;⟨a,b,VJ c hm,e⟩,h.fit⟩
theorem Pu.cl(h:Pu n ae L R B):ae.length<=n:=by rw[h.pm.length_eq];exact h.ll
theorem Pu.cn(h:Pu n ae L R B):ae.Nodup:=Dq (λ{a b} h e=>by subst e;exact ltS.irr _ h) h.up
theorem Pu.rok(h:Pu n ae L R B)(hn:n<=45):ROk R:=⟨h.fit.up,by rw[h.fit.len];have:=h.bl;lia,λr hr=>by
 have:r.1∈B.map (λx=>kV x.1):=h.fit.pm.mem_iff.mp (mem_map.mpr ⟨r,hr,rfl⟩)
 obtain⟨x,hx,e⟩:=mem_map.mp this;obtain⟨o1,o2,o3,o4⟩:=h.ok x hx;have cs:=h.fit.cs r hr x hx e.symm;have ok:QUb x.2.1:=⟨o2,by lia,o4⟩
 refine⟨by rw[<- e];exact o1.key,cs.ok ok,?_⟩
 have:=QBc cs.nd λa ha=>show a∈x.2.1.map Dw from by
  obtain⟨p,hp,rfl⟩:=mem_map.mp ha;exact mem_map.mpr ⟨p,((cs.mem p.1 p.2).mp hp).1,rfl⟩
 rw[UQ,UQ]at this
 lia⟩
theorem Pu.rows(h:Pu n ae L R B){H:Hp}(hB:∀ x∈B,H x.2.2=Vo (.dK (dkC x.2.1))):∀ x∈B,H x.2.2=Vo (.dK (dkC x.2.1))/\NdC x.2.1/\GK (kV x.1)/\∀ p∈x.2.1,hV p.2=true:=λx hx=>by
 obtain⟨o1,o2,o3,o4⟩:=h.ok x hx;exact⟨hB x hx,o2,o1,λp hp=>(o4 p hp).2⟩
end
theorem Xnb{cs:Nat->Vh}{p:Vh}{tt tc:Vh}{rt:V}{R:List (V×Cl)}{n:Nat}(pu:Pu n ae L R B)(hn:n<=45)(sa:QK P w ob H p d1 d2 st c)(h1:H tt=Vo (.tup [.ref tc,rt]))(h2:H tc=Vo (.tup (Da V.str ae)))(tr:Zq st (Da rD R) rt)
 (q:∀ r H' xs,Qj H H'->H' r=Vo (.lst xs)->Vm (QEc H' ae) R xs->Q (.ref r) H'):YX P w cs ob [.ref p,.ref tt,.non,.non] H Q E:=by
 have:=pu.cl;refine⟨p,d1,d2,st,c,tt,tc,rt,ae,R,.non,.non,rfl,sa,h1,h2,pu.cn,by lia,tr,pu.rok hn,.inl rfl,.inl rfl,λr H' xs s hr g pr=>q r H' xs s g ?_⟩
 have e:R.filter (λx=>wi .non .non x.1)=R:=filter_eq_self.mpr λx hx=>by
  have:=((pu.rok hn).ok x hx).1;unfold wi beh;rw[if_pos rfl];have e2:Pl.ltV x.1 .non=false:=by
   generalize x.1=y at this;cases y with
   | int i=>exact Pl.YOc i
   | str z=>exact Pl.YPc z
   | _=>exact this.elim
  rw[e2];rfl
 rwa [e]at pr
theorem QEc.same{x:V×Cl}(h:QEc H ae x v)(s:Qj H H'):QEc H' ae x v:=let ⟨a,b,e,h1,h2⟩:=h;⟨a,b,e,s _ _ h1,s _ _ h2⟩
theorem Pu.copy{n:Nat}{R:List (V×Cl)}{B':Bk}(h:Pu n ae L R B)(e:B'.map (λx=>(x.1,x.2.1))=B.map (λx=>(x.1,x.2.1))):Pu n ae ae R B':=by
 have mem:∀ x'∈B',∃ x∈B,x.1=x'.1/\x.2.1=x'.2.1:=λx' aC=>by
  have:(x'.1,x'.2.1)∈B.map (λx=>(x.1,x.2.1)):=by rw[<- e];exact mem_map.mpr ⟨x',aC,rfl⟩
  obtain⟨x,hx,ex⟩:=mem_map.mp this;injection ex with e1 e2
  exact⟨x,hx,e1,e2⟩
 have kk:B'.map (·.1)=B.map (·.1):=by
  have:=congrArg (Da Dw) e;rw[Dv,Dv]at this;exact this
 refine⟨h.up,.refl _,h.wd,h.cl,?_,by rw[kk];exact h.kn,λx' aC=>?_,h.fit.up,?_,λr hr x' aC er=>?_⟩
 ·have:=congrArg Of kk
  rw[UQ,UQ]at this;rw[this];exact h.bl
 ·obtain⟨x,hx,e1,e2⟩:=mem x' aC
  rw[<- e1,<- e2];exact h.ok x hx
 ·rw[Qkb,kk,<- Qkb];exact h.fit.pm
 ·obtain⟨x,hx,e1,e2⟩:=mem x' aC
  rw[<- e2];exact h.fit.cs r hr x hx (by rw[e1];exact er)
theorem Zbd(z:Str)(L:List Str):inV (.str z) (Da V.str L)=decide (z∈L):=by
 unfold inV;rw[any_map];rw[UC,DD,decide_eq_true_eq]
 constructor
 ·rintro⟨y,hy,e⟩
  have e:(y == z)=true:=e;rw[<- beq_iff_eq.mp e];exact hy
 ·exact λh=>⟨z,h,beq_self_eq_true z⟩
theorem JMc{k:Key}:(k,ds,a)∈Jc B k ds a:=by
 unfold Jc
 split
 ·rename_i h
  obtain⟨x,hx,e⟩:=any_eq_true.mp h;have e:=of_decide_eq_true e;exact mem_map.mpr ⟨x,hx,by rw[if_pos e,e]⟩
 ·simp
theorem XYc{k:Key}(nd:(B.map (·.1)).Nodup):ZM (kvB (Jc B k ds a)) k=Vo (.ref a):=by
 unfold kvB;rw[JA,ZN (·.1) (ZEc nd) (JMc (B:=B) (k:=k) (ds:=ds) (a:=a))]
 rfl
theorem Zcd{k:Key}{r:Vh}(kn:(B.map (·.1)).Nodup)(nd:(B.map (·.2.2)).Nodup)(hr:∀ x∈B,x.2.2≠r):((Jc B k ds r).map (·.2.2)).Nodup:=by
 unfold Jc
 split
 ·rename_i h
  clear h
  induction B with
  | nil=>exact LR
  | cons y B ih =>
   simp only[UO,LS]at kn nd ⊢;have sF:∀ x∈B,x.2.2≠r:=λx hx=>hr x (VO _ hx)
   refine⟨λz=>?_,ih kn.2 nd.2 sF⟩
   rw[Dv]at z;obtain⟨x,hx,e⟩:=mem_map.mp z;have e:(if x.1=k then (x.1,ds,r) else x).2.2=(if y.1=k then (y.1,ds,r) else y).2.2:=e
   by_cases h1:x.1=k
   ·by_cases h2:y.1=k
    ·exact kn.1 (mem_map.mpr ⟨x,hx,by rw[h1,h2]⟩)
    ·rw[if_pos h1,if_neg h2]at e
     exact hr y VN e.symm
   ·by_cases h2:y.1=k
    ·rw[if_neg h1,if_pos h2]at e
     exact sF x hx e
    ·rw[if_neg h1,if_neg h2]at e
     exact nd.1 (mem_map.mpr ⟨x,hx,e⟩)
 ·rw[Ip,Dd]
  refine⟨nd,by simp,λx hx y hy=>?_⟩
  have hy:y=r:=by simpa using hy
  subst hy;obtain⟨u,hu,rfl⟩:=mem_map.mp hx;exact hr u hu
theorem QK.mu{p z:Vh}{o o':HO}(h:QK P w ob H p d1 d2 st c)(hz:H z=Vo o)(nt:∀ xs,o≠.tup xs)(n:z∉[p,d1,d2]):QK P w ob (upd H z o') p d1 d2 st c:=by
 have go:∀ {a},a∈[p,d1,d2]->upd H z o' a=H a:=λ{a} ha=>Qh (λe=>n (by rw[<- e];exact ha))
 exact h.keep (λb xs e=>by rw[Qh (λe2=>by rw[e2,hz]at e;exact nt _ (Vr e))];exact e) (go #[2]) (go #[2]) (go #[2])
theorem QK.x2{p:Vh}(h:QK P w ob H p d1 d2 st c)(s:QO S H H')(t:Zt H H')(n:∀ z∈[p,d1,d2],z∉S):QK P w ob H' p d1 d2 st c:=by
 obtain⟨dx,eo⟩:=h.obj;exact h.keep t (by rw[eo];exact s _ _ (n _ #[2]) eo) (by rw[h.num];exact s _ _ (n _ #[2]) h.num) (by rw[h.tol];exact s _ _ (n _ #[2]) h.tol)
theorem Ywd(cl:Cl)(z:Str):YMa (dkC cl) (.inr z)=dkC (cl.filter λp=>decide (p.1≠z)):=by
 unfold dkC;rw[X1b];have:(λx:Str×V=>decide ((Ve x.1:Key)≠Ve z))=λp=>decide (p.1≠z):=by funext x;simp
 rw[this]
theorem Yxd{cl:Cl}{z:Str}(h:ZM (dkC cl) (.inr z)=Vp):cl.filter (λp=>decide (p.1≠z))=cl:=filter_eq_self.mpr λp hp=>decide_eq_true λe=>by
 rw[Q7d,Option.map_eq_none_iff,find?_eq_none]at h
 exact h p hp (decide_eq_true e)
theorem XZc(z:Str)(B:Bk):kvB (XL z B)=kvB B:=by unfold kvB XL;rw[Dv];rfl
theorem X0c(z:Str)(B:Bk):(XL z B).map (·.2.2)=B.map (·.2.2):=by unfold XL;rw[Dv];rfl
theorem QKc(z:Str)(B:Bk):(XL z B).map (·.1)=B.map (·.1):=by unfold XL;rw[Dv];rfl
theorem Pu.drop{n:Nat}{R R':List (V×Cl)}(h:Pu n ae L R B){z:Str}{j:Nat}(hj:L[j]?=Vo z)(p:Vm (λr r'=>r'.1=r.1/\XI (QCa r.2 z .non) r'.2) R R'):Pu n (ae.filter λy=>decide (y≠z)) (L.eraseIdx j) R' (XL z B):=by
 have Ln:L.Nodup:=h.pm.nodup_iff.mp h.cn;have e:=JVa id (by rw[map_id];exact Ln) hj
 refine⟨h.up.filter _,?_,λy hy=>h.wd y (mem_filter.mp hy).1,VJ (length_eraseIdx_le _ _) h.ll,by unfold XL;rw[UQ];exact h.bl,by rw[QKc];exact h.kn,λx hx=>?_,h.fit.drop p⟩
 ·rw[e]
  exact h.pm.filter _
 ·obtain⟨y,hy,rfl⟩:=mem_map.mp hx
  obtain⟨o1,o2,o3,o4⟩:=h.ok y hy;exact⟨o1,List.Nodup.sublist ((filter_sublist).map _) o2,VJ (OU _ _) o3,λq hq=>o4 q (mem_filter.mp hq).1⟩
inductive I26(P:Vg)(w:Vb)(K:VD)(ob:Nat->Vh)(a nl kl p d1 d2 lc d:Vh)(dr:Int)(ns:List Int)(nm:List Str)(ky:List V)(i:Nat)(σ':St)(H':Hp):Prop
 | mk:∀ (st:StL) (c:Int) (tt tc:Vh) (rt:V) (ae L:List Str) (R:List (V×Cl)) (B:Bk) (hd cF cE lh dh:Vh) (cG:V) (az:List Str) (Rh:List (V×Cl)) (Bh:Bk) (x9 eF cI dF:Option V),σ'=[Vo (.ref a),Vo (.ref nl),Vo (.ref kl),Vo (.int dr),Vo (.ref p),Vo (.ref tt),Vo (.ref lc),Vo (.ref d),Vo (.ref hd),x9,eF,cI,dF] ->
  Cu P w ob H' p d1 d2 st c tt tc lc d rt ae L R B->Pu i ae L R B->Fx H' st nl kl hd cF cE lh dh nm ky cG az Rh Bh->Pu 40 az az Rh Bh->(∀ z∈FA nl kl lh dh Bh,z∉MU p d1 d2 lc d B)->Sc K H' a ns (MU p d1 d2 lc d B)->st.length<=800 * i->I26 P w K ob a nl kl p d1 d2 lc d dr ns nm ky i σ' H'
inductive Qob(K:VD)(vs:List V)(H:Hp)(Q:VK)(E:XK):Prop
 | mk:∀ (a:Vh) (ns:List Int),vs=[.ref a]->SqL K H a (ns.map V.int)->ns.length<=63->(∀ H',Q (.bl true) H')->Qob K vs H Q E
seal PE PT PW PA PS PSs PI PG QM PGs PO in
theorem JKd(Z:Zs mg)(T:Tx K mg CT cs ob)(yj:Cal P w K mg base 2 "_law_names" ["_law_cell_here","_law_many"] (Xv K))(yk:Cal P w K mg base 4 "_law_pool" ["_law_cell_here"] (QBa K))(ym:Cal P w K mg base 1 "no_table" [] (YTa K))(sG:Cal P w K mg base 11 "_law_reads" ["_law_found","_law_columns_here","_law_some"] (Xz K))(pK:Cal P w K mg base 1 "_law_cell" ["_law_script","_law_k"] (Qwa K))(bj:Jud P w K mg base 16 "rows_in" ["pages","table","low","high"] [.none,.none] (YX P w cs ob))(yn:Cal P w K mg base 4 "_law_row" ["_law_cell_here","_law_columns_here"] (Zta K))(yo:Cal P w K mg base 16 "put_row" ["pages","table","key","cells"] (JAa P w cs ob))(yp:Cal P w K mg base 10 "_law_columns" ["_law_found","_law_columns_here"] (Yc K))(QS:Cal P w K mg base 1 "_law_mix" ["_law_cell_here","_law_k"] (Zi K))(yr:Cal P w K mg base 15 "drop_column" ["pages","table","column"] (YY P w cs ob))(yt:Cal P w K mg base 5 "put_column" ["table","column"] (Xw K))(yu:Cal P w K mg base 1 "_law_copy" ["_law_some"] (Yz K))(pL:MkV P w K mg base 1 "Pages" (ob 3) (JN P w ob))(F:Fun K "law" "law" Zxb f fd):Qy P w K mg base CX0 17 f fd ["_law_script"] (Qob K):=by
 refine F.ok ZI (λvs H Q E h=>?_) (λah A outer s H vs Q E hr h=>?_)
 ·walk_at "n"
 obtain⟨a,ns,rfl,kb,lns,q⟩:=h;refine⟨_,(Qc (Ql 1 ZI.nd (Qo yj hr (Qf (Qo pK hr (Qf (pv 0) (Qf Qd Qb))) (Qf Qd Qb))))
  (Qc (Ql 2 ZI.nd (Qo yk hr (Qf (Qo pK hr (Qf (pv 0) (Qf Qd Qb))) Qb)))
  (Qc (Ql 3 ZI.nd (Qm QF (Qo pK hr (Qf (pv 0) (Qf Qd Qb))) Qd))
  (Qc (Ql 4 ZI.nd (Jld pL (k:=16) hr #[1] rfl))
  (Qc (Ql 5 ZI.nd (QUd ym (k:=16) hr #[1] rfl))
  (Qc (Ql 6 ZI.nd (Zj Qb))
  (Qc (Ql 7 ZI.nd QQa)
  (Qc (Ql 8 ZI.nd (Zf (Qf (pv 5) (Qf (Zj Qb) (Qf QQa Qb)))))
  (Qc (Zw Dc rfl (Q7b rfl (Z.range) (Qf Qd (Qf (Qq (ZMc rfl) rfl (Z.min) Z3d (Qf (Qq QJ rfl (Z.len) Zk (Qf (pv 0) Qb)) (Qf Qd Qb))) Qb))) (QW (i:=9) ZI.nd rfl (ON rfl)) (Qc (Ql 10 ZI.nd (Qt Q0 (pv 1) (Qm QF (Qm ZP (Qt Q0 (pv 0) (pv 9) (λ_ _=>rfl)) Qd) Qd) (λ_ _=>rfl)))
  (Qc (QG (Qs ZK (Qm QF (Qt Q0 (pv 0) (pv 9) (λ_ _=>rfl)) Qd) Qd (Qv _)) (Qc (Ql 11 ZI.nd (Qt Q0 (pv 2) (Qm QF (Qm ZP (Qt Q0 (pv 0) (pv 9) (λ_ _=>rfl)) Qd) Qd) (λ_ _=>rfl)))
  (Qc (JLa hr.u1 (pv 7) (pv 11) (Qo yn hr (Qf (Qo QS hr (Qf (Qt Q0 (pv 0) (pv 9) (λ_ _=>rfl)) (Qf Qd Qb))) (Qf (pv 6) Qb))) rfl)
  (Qe (Ql 5 ZI.nd (Qo yo hr (Qf (pv 4) (Qf (pv 5) (Qf (pv 11) (Qf (QX XYa rfl (Z.dict) ZCa (Qf (Y8 hr.u1 (pv 7) (pv 11) (λ_ _=>rfl)) Qb)) Qb))))))))) (Qe (QG (Qs ZRc (pv 10) (pv 6) rfl) (Qc (Ql 5 ZI.nd (Qo yr hr (Qf (pv 4) (Qf (pv 5) (Qf (pv 10) Qb)))))
  (Qc (QZ (YF De PySem.F.slot_list_remove PySem.F.type_list_remove X8b (pv 6) (Qf (pv 10) Qb)))
  (Qe (Znc (Zw Dc rfl (Xga (pv 7)) (QW (i:=11) ZI.nd rfl (ON rfl)) (Qe (QZ (Yrc (Y8 hr.u1 (pv 7) (pv 11) (λ_ _=>rfl)) (pv 10) YE ⟨rfl,rfl,rfl,rfl⟩)))))))) (Qc (Ql 12 ZI.nd (Qo yt hr (Qf (pv 5) (Qf (pv 10) Qb))))
  (Qc (QG (Qs JEa (Qt Qw (pv 12) Qd (λ_ _=>rfl)) (Qt Qw (pv 5) Qd (λ_ _=>rfl)) (Qv _)) (Qe (Qn JU)) Qr)
  (Qc (Ql 5 ZI.nd (pv 12))
  (Qe (QZ (YF De Df Dg ZB (pv 6) (Qf (pv 10) Qb))))))))))
  (Qc (QG (Q8 (QR (Qo yp hr (Qf (pv 5) (Qf (pv 6) Qb))) (λ_=>rfl))) (Qe (Qn JU)) Qr)
  (Qc (QG (PW.pt (QKa (Qs ZK (Qm QF (Qt Q0 (pv 0) (pv 9) (λ_ _=>rfl)) Qd) Qd (Qv _)) (Y2 (Q8 (QR (Qo sG hr (Qf (Zuc bj Zvc hr (Qf (pv 4) (Qf (pv 5) Qb))) (Qf (Qq ZZ rfl (Z.sorted) YC (Qf (pv 6) Qb)) (Qf (pv 7) Qb)))) (λ_=>rfl)))))) (Qe (Qn JU)) Qr)
  (Qe (QG (Qs ZK (pv 9) (Qm QQ Qd (pv 3)) (Qv _)) (Qe (Ql 8 ZI.nd (Zf (Qf (pv 5) (Qf (Qq ZZ rfl (Z.sorted) YC (Qf (pv 6) Qb)) (Qf (Qo yu hr (Qf (pv 7) Qb)) Qb)))))) Qr)))))))
  (Qe (Qn (Qo sG hr (Qf (Zuc bj Zvc hr (Qf (pv 4) (Qf (Qt Qw (pv 8) Qd (λ_ _=>rfl)) Qb))) (Qf (Qt Qw (pv 8) Qd (λ_ _=>rfl)) (Qf (Qt Qw (pv 8) Qd (λ_ _=>rfl)) Qb))))))))))))))),?_⟩
 refine Qk (σ:=[Vo (.ref a),Vp,Vp,Vp,Vp,Vp,Vp,Vp,Vp,Vp,Vp,Vp,Vp]) rfl ?_
 walk_at "rd";refine⟨a,ns,0,rfl,kb,λc0=>⟨c0,8,rfl,by decide,λnl H1 nm s1 hnl g1 ln gw=>⟨a,ns,1,rfl,s1.seq kb,λc1=>⟨c1,rfl,λkl H2 ky s2 vT g2 lk gk=>⟨a,ns,2,rfl,(s1.trans s2).seq kb,λc2=>⟨_,rfl,?_⟩⟩⟩⟩⟩⟩
 have sJ:=s1.trans s2;intro x0 pM pN kc pO;refine⟨x0,pM,rfl,Qa,λd1 d2 H3 dx fs f1 f2 s3 fh=>?_⟩
 have sK:Qj H2 H3:=by rw[Y1]at s3;exact Xha pN kc s3
 walk_at "rd";refine⟨rfl,λtt tc H4 s4 h4 sL=>⟨Uy _,λlc sM d hd=>⟨Uy _,λlh jf dh hX=>⟨by show 3<=Vs;decide,λhh e8=>?_⟩⟩⟩⟩
 have s5:=Qi sM (.lst []);have g5:upd H4 lc (.lst []) lc=_:=Qa;generalize upd H4 lc (.lst [])=H5 at s5 g5 hd jf hX e8 ⊢;have s6:=Qi hd (.dK []);have g6:upd H5 d (.dK []) d=_:=Qa;generalize upd H5 d (.dK [])=H6 at s6 g6 jf hX e8 ⊢;have s7:=Qi jf (.lst []);have g7:upd H6 lh (.lst []) lh=_:=Qa;generalize upd H6 lh (.lst [])=H7 at s7 g7 hX e8 ⊢;have s8:=Qi hX (.dK []);have g8:upd H7 dh (.dK []) dh=_:=Qa;generalize upd H7 dh (.dK [])=H8 at s8 g8 e8 ⊢;have s9:=Qi e8 (.tup [.ref tt,.ref lh,.ref dh]);have g9:upd H8 hh (.tup [.ref tt,.ref lh,.ref dh]) hh=_:=Qa;generalize upd H8 hh (.tup [.ref tt,.ref lh,.ref dh])=H9 at s9 g9 ⊢;have ke:=s5.trans (s6.trans (s7.trans (s8.trans s9)));have sN:=s4.trans ke;have mK:=sK.trans sN;refine⟨_,.inl ((sJ.trans mK).seq kb),_,_,⟨rfl,rfl⟩,_,_,⟨rfl,rfl⟩,⟨by decide,by decide,by rw[UQ];split <;> lia,by rw[UQ];split <;> lia⟩,?_⟩
 have ne:∀ {H:Hp} {x y:Vh} {o:HO},H x=Vo o->H y=Vp->x≠y:=λ{H x y o} h1 h2 z=>by rw[z,h2]at h1;cases h1
 obtain⟨gQ,eo⟩:=fh.obj;have ie:∀ {x:Vh} {o:HO},H3 x=Vo o->x≠lc/\x≠d/\x≠lh/\x≠dh:=λ{x o} h=>⟨ne (s4 _ _ h) sM,ne (s5 _ _ (s4 _ _ h)) hd,ne ((s4.trans (s5.trans s6)) _ _ h) jf,ne ((s4.trans (s5.trans (s6.trans s7))) _ _ h) hX⟩
 have yv:lc≠d:=ne g5 hd;have pP:lc≠lh:=ne (s6 _ _ g5) jf;have pQ:lc≠dh:=ne ((s6.trans s7) _ _ g5) hX;have yw:d≠lh:=ne g6 jf;have yx:d≠dh:=ne (s7 _ _ g6) hX;have sO:∀ n,Pu n [] [] [] []:=λn=>⟨.nil,.nil,(λz h=>nomatch h),Uy _,Uy _,LR,(λx h=>nomatch h),Fit.nil⟩
 have sP:Cu P w ob H9 x0 d1 d2 [] 0 tt tc lc d .non [] [] [] []:=⟨fh.same sN,ke _ _ h4,ke _ _ sL,(s6.trans (s7.trans (s8.trans s9))) _ _ g5,(s7.trans (s8.trans s9)) _ _ g6,(λx h=>nomatch h),.inl ⟨rfl,rfl⟩,by
  have n1:=ie eo;have n2:=ie fh.num;have n3:=ie fh.tol;have a1:=fh.pd1;have a2:=fh.pd2;have a3:=fh.d12;simp[a1,a2,a3,n1.1,n1.2.1,n2.1,n2.2.1,n3.1,n3.2.1,yv]⟩
 have sQ:Fx H9 [] nl kl hh tt tc lh dh nm ky .non [] [] []:=⟨(s2.trans mK) _ _ g1,mK _ _ g2,g9,ke _ _ h4,ke _ _ sL,(s8.trans s9) _ _ g7,s9 _ _ g8,(λx h=>nomatch h),.inl ⟨rfl,rfl⟩⟩
 have sI:=(Qi kc (.own x0)).trans (Qi (show upd H2 pM (.own x0) x0=Vp by rw[Qh (VR pO)];exact pN) (.ins (ob 3) pM []))
 have fr:∀ {x:Vh} {o:HO},H2 x=Vo o->x∉MU x0 d1 d2 lc d []:=λ{x o} h z=>by
  have n1:=ie (sK _ _ h);simp only[Lv,OJ,Lw,or_false]at z
  rcases z with z | z | z | z | z
  ·exact ne h pN z
  ·exact ne h (none_of sI f1) z
  ·exact ne h (none_of sI f2) z
  ·exact n1.1 z
  ·exact n1.2.1 z
 have yy:Sc K H9 a ns (MU x0 d1 d2 lc d []):=by
  refine(Sc.of (S:=MU x0 d1 d2 lc d []) (sJ.seq kb) λo ho=>fr ho).x (mK.x _) λz h=>.inl h
 have sR:∀ z∈FA nl kl lh dh [],z∉MU x0 d1 d2 lc d []:=by
  intro z hz;simp only[Lv,OJ,Lw,or_false]at hz;have n1:=ie eo;have n2:=ie fh.num;have n3:=ie fh.tol
  rcases hz with rfl | rfl | rfl | rfl
  ·exact fr (s2 _ _ g1)
  ·exact fr g2
  ·simp[n1.2.2.1.symm,n2.2.2.1.symm,n3.2.2.1.symm,pP.symm,yw.symm]
  ·simp[n1.2.2.2.symm,n2.2.2.2.symm,n3.2.2.2.symm,pQ.symm,yx.symm]
 refine Jx (λi σ' H'=>I26 P w K ob a nl kl x0 d1 d2 lc d (c2 % 40) ns nm ky i σ' H') ⟨[],0,tt,tc,.non,[],[],[],[],hh,tt,tc,lh,dh,.non,[],[],[],Vp,Vp,Vp,Vp,rfl,sP,sO 0,sQ,sO 40,sR,yy,Uy _⟩ ?_ ?_
 ·rintro i σ' H' hi ⟨st,c,tt,tc,rt,ae,L,R,B,hd,cF,cE,lh,dh,cG,az,Rh,Bh,x9,eF,cI,dF,rfl,cu,pu,fx,fV,aU,sc,lst⟩
  have mf:3+i < ns.length/\i < 40:=by
   rw[UQ]at hi
   split at hi <;> lia
  clear sP sQ sR;obtain⟨n,hn⟩:∃ n,ns[3+i]?=Vo n:=⟨_,IE mf.1⟩
  have bV:atI (Da V.int ns) (3+(i:Int))=Vo (.int n):=by
   have:=Za (xs:=Da V.int ns) (j:=3+i) (v:=.int n) (by rw[Ol,hn];rfl)
   rwa [show((3+i:Nat):Int)=3+(i:Int) by lia]at this
  refine QSd λRc pR=>?_
  have rest:∀ (H5:Hp) (st:StL) (c:Int) (tt tc:Vh) (rt:V) (ae L:List Str) (R:List (V×Cl)) (B:Bk) (eF cI dF:Option V),Cu P w ob H5 x0 d1 d2 st c tt tc lc d rt ae L R B->Pu (i+1) ae L R B->Fx H5 st nl kl hd cF cE lh dh nm ky cG az Rh Bh->(∀ z∈FA nl kl lh dh Bh,z∉MU x0 d1 d2 lc d B)->Sc K H5 a ns (MU x0 d1 d2 lc d B)->st.length<=800 * (i+1)->Rc [Vo (.ref a),Vo (.ref nl),Vo (.ref kl),Vo (.int (c2 % 40)),Vo (.ref x0),Vo (.ref tt),Vo (.ref lc),Vo (.ref d),Vo (.ref hd),Vo (.int (3+(i:Int))),eF,cI,dF] H5:=by
   intro H5 st c tt tc rt ae L R B eF cI dF cu pu fx aU sc lst;refine pR _ _ ?_
   clear pR;walk_at "rd";have l40:=pu.cl;have hz:∀ z∈ae,z.length<=40:=λz h=>by have:=(pu.wd z h).2.1;lia
   have kg:∀ {H6:Hp} {Rq:VK},Qj H5 H6->(∀ D H7,Qj H6 H7->H6 D=Vp->H7 D=Vo (.lst (Da V.str ae))->Rq (.ref D) H7)->Z7b K [V.ref lc] H6 Rq:=λ{H6 Rq} s r =>
    ⟨lc,_,ltP,rfl,SqL.of (s _ _ cu.cl),by rw[UQ];have:=pu.ll;lia,XOa (λv hv=>by obtain⟨z,_,rfl⟩:=mem_map.mp hv;exact⟨z,rfl⟩),λD H7 ys s7 hD g7 pm so=>by
     obtain rfl:=YVa pu.up pu.pm hz pm so;exact r D H7 s7 hD g7⟩
   have last:∀ H6,Qj H5 H6->(if 3+(i:Int)=3+c2 % 40 then Z7b K [V.ref lc] H6 (λx H1=>Yz K [V.ref d] H1 (λcY H1=>[V.ref tt,x,cY].length<=Vs/\∀ (p:Vh),H1 p=Vp->I26 P w K ob a nl kl x0 d1 d2 lc d (c2 % 40) ns nm ky (i+1) [Vo (.ref a),Vo (.ref nl),Vo (.ref kl),Vo (.int (c2 % 40)),Vo (.ref x0),Vo (.ref tt),Vo (.ref lc),Vo (.ref d),Vo (.ref p),Vo (.int (3+(i:Int))),eF,cI,dF] (upd H1 p (HO.tup [V.ref tt,x,cY]))) E0) else I26 P w K ob a nl kl x0 d1 d2 lc d (c2 % 40) ns nm ky (i+1) [Vo (.ref a),Vo (.ref nl),Vo (.ref kl),Vo (.int (c2 % 40)),Vo (.ref x0),Vo (.ref tt),Vo (.ref lc),Vo (.ref d),Vo (.ref hd),Vo (.int (3+(i:Int))),eF,cI,dF] H6):=λH6 s6=>by
    refine Zm (λ_=>kg s6 λD H7 s7 hD g7=>?_) λ_=>⟨st,c,tt,tc,rt,ae,L,R,B,hd,cF,cE,lh,dh,cG,az,Rh,Bh,_,eF,cI,dF,rfl,cu.same s6,pu,fx.same s6,fV,aU,sc.x (s6.x _) (λz h=>.inl h),lst⟩
    have mL:=cu.same (s6.trans s7);refine⟨d,B,rfl,mL.dd,(λx hx=>⟨mL.bs x hx,by have:=(pu.ok x hx).2.2.1;lia⟩),(λx hx z=>?_),pu.kn,by have:=pu.bl;lia,λr H8 B' s8 rS g8 eB eE ay=>⟨by show 3<=Vs;decide,λp hp=>?_⟩⟩
    ·have:=cu.nd
     simp only[LS]at this;exact this.2.2.2.2.1 (mem_map.mpr ⟨x,hx,z⟩)
    have s9:=Qi hp (.tup [.ref tt,.ref D,.ref r]);have pS:=(s6.trans s7).trans (s8.trans s9);have f9:=fx.same pS;have c9:=cu.same pS;refine⟨st,c,tt,tc,rt,ae,L,R,B,p,tt,tc,D,r,rt,ae,R,B',_,eF,cI,dF,rfl,c9,pu,⟨f9.nl,f9.kl,Qa,c9.tt,c9.tc,(s8.trans s9) _ _ g7,s9 _ _ g8,λx hx=>s9 _ _ (eE x hx).1,c9.tr⟩,(pu.copy eB).mono #[0],λz bd=>?_,sc.x (pS.x _) (λz h=>.inl h),lst⟩
    simp only[Lv,Dx]at bd
    rcases bd with rfl | rfl | rfl | rfl | ⟨x,hx,rfl⟩
    ·exact aU _ #[2]
    ·exact aU _ #[2]
    ·exact(cu.same s6).fresh hD
    ·exact mL.fresh rS
    ·exact mL.fresh (eE x hx).2.1
   refine⟨tt,tc,rt,lc,ae,L,rfl,cu.tt,cu.tc,cu.cl,pu.up,pu.pm,hz,by lia,λH6 s6=>⟨_,rfl,(if_neg (λz=>Dr z)).mpr ⟨_,s6.seq sc.sq,_,bV,n,rfl,Zm (λ_=>?_) λ_=>last H6 s6⟩⟩⟩
   have mM:=cu.same s6;refine Xnb pu #[0] mM.sa mM.tt mM.tc mM.tr λr H7 xs s7 g7 pr=>kg (s6.trans s7) λD H8 s8 hD g8=>?_
   have sS:=cu.same (s6.trans (s7.trans s8));exact⟨r,xs,D,d,ae,R,B,rfl,s8 _ _ g7,Paired.mapP pr λx v h=>h.same s8,g8,by lia,sS.dd,pu.rows sS.bs,pu.kn,by have:=pu.bl;lia,pu.fit,λH9 s9=>⟨_,rfl,(if_neg (λz=>Dr z)).mpr (last H9 (s6.trans (s7.trans (s8.trans s9))))⟩⟩
  clear pR;walk_at "rd";obtain⟨nv,sT⟩:=J1a (l:=Da V.str nm) (k:=n / 2 % 8) #[0] (by rw[UQ];lia)
  obtain⟨z,hz,ez⟩:=mem_map.mp (JCb sT);subst ez;refine⟨_,sc.sq,_,bV,n,rfl,by unfold Z0a;decide,_,SqL.of fx.nl,_,sT,_,sc.sq,_,bV,n,rfl,Zm (λhev=>?_) λhodd=>?_⟩
  ·obtain⟨v,hv⟩:=J1a (l:=ky) (k:=n / 2 % 24) #[0] #[0]
   have pU:=gk v (JCb hv);obtain⟨kk,rfl⟩:=Z5a pU.key;refine⟨_,sc.sq,_,bV,n,rfl,by unfold Z0a;decide,_,SqL.of fx.kl,_,hv,_,sc.sq,_,bV,?_⟩
   have Ln:L.Nodup:=pu.pm.nodup_iff.mp pu.cn;have lL:=pu.ll;have lB:=pu.bl;refine⟨_,_,rfl,λm _ _=>⟨m,lc,L,rfl,cu.cl,Ln,by lia,λr H2 ds s2 cW g2 sU ld hds=>?_⟩⟩
   have bn:=cu.same s2;have lk:(kvB B).length=B.length:=by unfold kvB;rw[UQ]
   refine⟨_,Qyb.k (k:=kk) bn.dd (by rw[lk];exact QA #[0]),?_⟩
   rw[Q8d B kk ds r];have ay:=cu.nd;simp only[LS,Lv,not_or]at ay;have mO:d∉[x0,d1,d2]:=λz=>by
    simp only[Lv,Lw,or_false]at z
    rcases z with z | z | z
    ·exact ay.1.2.2.2.1 z.symm
    ·exact ay.2.1.2.2.1 z.symm
    ·exact ay.2.2.1.2.1 z.symm
   have fW:=cu.fresh cW;simp only[Lv,not_or]at fW;have rB:∀ x∈B,x.2.2≠r:=λx hx z=>fW.2.2.2.2.2 (mem_map.mpr ⟨x,hx,z⟩)
   have dB:∀ x∈B,x.2.2≠d:=λx hx z=>ay.2.2.2.2.1 (mem_map.mpr ⟨x,hx,z⟩)
   have fO:QO (MU x0 d1 d2 lc d B) H' (upd H2 d (.dK (kvB (Jc B kk ds r)))):=(s2.x _).upd #[2]
   have ki:=bn.sa.mu (o':=.dK (kvB (Jc B kk ds r))) bn.dd (λ_ z=>by cases z) mO
   have g3:upd H2 d (.dK (kvB (Jc B kk ds r))) d=_:=Qa;have t3:Zt H2 (upd H2 d (.dK (kvB (Jc B kk ds r)))):=λb xs e=>by rw[Qh (Jd e bn.dd (by intro z;cases z))];exact e
   have r3:upd H2 d (.dK (kvB (Jc B kk ds r))) r=Vo (.dK (dkC ds)):=by rw[Qh fW.2.2.2.2.1];exact g2
   have c3:upd H2 d (.dK (kvB (Jc B kk ds r))) lc=Vo (.lst (Da V.str L)):=by rw[Qh (λz=>ay.2.2.2.1.1 z)];exact bn.cl
   have b3:∀ x∈B,upd H2 d (.dK (kvB (Jc B kk ds r))) x.2.2=Vo (.dK (dkC x.2.1)):=λx hx=>by rw[Qh (dB x hx)];exact bn.bs x hx
   have n3:∀ {b:Vh},upd H2 d (.dK (kvB (Jc B kk ds r))) b=Vp->H' b=Vp:=λ{b} h=>none_of s2 (by
    by_cases z:b=d
    ·rw[z,Qa]at h;cases h
    ·rwa [Qh z]at h)
   generalize upd H2 d (.dK (kvB (Jc B kk ds r)))=H3 at fO ki g3 t3 r3 c3 b3 n3 ⊢;refine⟨.ref r,XYc pu.kn ▸ QHa.k g3,r,_,rfl,r3,by unfold dkC;rw[UQ];lia,λD hD=>?_⟩
   have s4:=Qi hD (.dK (dkC ds));have g4:upd H3 D (.dK (dkC ds)) D=_:=Qa;generalize upd H3 D (.dK (dkC ds))=H4 at s4 g4 ⊢;have pV:=ki.same s4;have hW:QUb ds:=⟨sU,by lia,λq hq=>⟨by have:=(pu.wd _ (pu.pm.mem_iff.mpr (hds q hq).1)).2.1;lia,(hds q hq).2.1.hv⟩⟩
   have lR:=pu.fit.len;refine⟨x0,d1,d2,st,c,tt,tc,rt,kV kk,D,ae,ds,R,rfl,pV,s4 _ _ (t3 _ _ bn.tt),s4 _ _ (t3 _ _ bn.tc),pU,g4,hW,λq hq=>⟨pu.pm.mem_iff.mpr (hds q hq).1,(hds q hq).2.1⟩,cu.tr,pu.rok #[0],by lia,λr5 H5 bX c5 sV sv cs5 dA j8 dC l5 g5 cs pJ t5=>?_⟩
   obtain⟨R',rfl,pW⟩:=pu.fit.put (a:=r) cs pJ;have off:∀ {z:Vh},z∉MU x0 d1 d2 lc d B->z∉[x0,d1,d2]:=λ{z} h e=>h (by simp only[Lv,Lw,or_false]at e ⊢;rcases e with e | e | e <;> simp[e])
   have yz:=XG pV dA;have pY:∀ x∈B,x.2.2∉[x0,d1,d2]:=λx hx z=>by
    have hm:x.2.2∈B.map (·.2.2):=mem_map.mpr ⟨x,hx,rfl⟩;simp only[Lv,Lw,or_false]at z
    rcases z with z | z | z
    ·exact ay.1.2.2.2.2 (by rw[<- z];exact hm)
    ·exact ay.2.1.2.2.2 (by rw[<- z];exact hm)
    ·exact ay.2.2.1.2.2 (by rw[<- z];exact hm)
   have sW:∀ z∈MU x0 d1 d2 lc d (Jc B kk ds r),z∈MU x0 d1 d2 lc d B\/H' z=Vp:=λz bd=>by
    simp only[Lv,Dx]at bd ⊢
    rcases bd with h | h | h | h | h | ⟨x,hx,h⟩
    ·exact .inl (.inl h)
    ·exact .inl (.inr (.inl h))
    ·exact .inl (.inr (.inr (.inl h)))
    ·exact .inl (.inr (.inr (.inr (.inl h))))
    ·exact .inl (.inr (.inr (.inr (.inr (.inl h)))))
    ·rcases XJ hx with e | ⟨_,hB⟩
     ·subst e;subst h;exact .inr cW
     ·exact .inl (.inr (.inr (.inr (.inr (.inr ⟨x,hB,h⟩)))))
   have dG:QO (MU x0 d1 d2 lc d B) H' H5:=(fO.trans (s4.x _)).trans (dA.mono λz bd=>by simp only[Lv,Lw,or_false]at bd ⊢;rcases bd with e | e | e <;> simp[e])
   have yA:Cu P w ob H5 x0 d1 d2 bX c5 r5 tc lc d sV ae L R' (Jc B kk ds r):=by
    refine⟨j8,g5,yz _ _ (s4 _ _ (t3 _ _ bn.tc)),pV.lst dA (s4 _ _ c3),dA _ _ mO (s4 _ _ g3),λx hx=>?_,t5,?_⟩
    ·rcases XJ hx with e | ⟨_,hB⟩
     ·subst e;exact dA _ _ (off (cu.fresh cW)) (s4 _ _ r3)
     ·exact dA _ _ (pY x hB) (s4 _ _ (b3 x hB))
    ·have fP:∀ {z:Vh},z≠r->z∉B.map (·.2.2)->z∉(Jc B kk ds r).map (·.2.2):=λ{z} h1 h2 h3=>by
      obtain⟨x,hx,rfl⟩:=mem_map.mp h3
      rcases XJ hx with e | ⟨_,hB⟩
      ·subst e;exact h1 rfl
      ·exact h2 (mem_map.mpr ⟨x,hB,rfl⟩)
     simp only[LS,Lv,not_or];exact⟨⟨ay.1.1,ay.1.2.1,ay.1.2.2.1,ay.1.2.2.2.1,fP (VR fW.1) ay.1.2.2.2.2⟩,⟨ay.2.1.1,ay.2.1.2.1,ay.2.1.2.2.1,fP (VR fW.2.1) ay.2.1.2.2.2⟩,⟨ay.2.2.1.1,ay.2.2.1.2.1,fP (VR fW.2.2.1) ay.2.2.1.2.2⟩,⟨ay.2.2.2.1.1,fP (VR fW.2.2.2.1) ay.2.2.2.1.2⟩,fP (VR fW.2.2.2.2.1) ay.2.2.2.2.1,Zcd pu.kn ay.2.2.2.2.2 rB⟩
   have pb:=XUc B kk ds r;refine rest H5 bX c5 r5 tc sV ae L R' (Jc B kk ds r) _ _ _ yA ⟨pu.up,pu.pm,pu.wd,by lia,by lia,ZEc pu.kn,λx hx=>?_,pW⟩ (fx.x dG (cu.sameT dG) aU dC) (Yvd aU (λz bd=>fx.al bd) sW) (sc.x dG sW) #[0]
   rcases XJ hx with e | ⟨_,hB⟩
   ·subst e;exact⟨pU,sU,by show ds.length<=i+1;lia,hW.ok⟩
   ·exact(pu.mono (U6 i)).ok x hB
  ·refine⟨_,.inl (SqL.of cu.cl),rfl,all_eq_true.mpr (λv hv=>by obtain⟨y,_,rfl⟩:=mem_map.mp hv;rfl),?_⟩
   rw[Zbd];refine Zm (λmP=>?_) λaY=>?_
   ·have mP:z∈L:=of_decide_eq_true mP
    have Ln:L.Nodup:=pu.pm.nodup_iff.mp pu.cn;have gz:=gw z hz;have lB:=pu.bl;have lR:=pu.fit.len;have lC:=pu.cl;have ay:=cu.nd;simp only[LS,Lv,not_or]at ay;have mO:d∉[x0,d1,d2]:=λz=>by
     simp only[Lv,Lw,or_false]at z
     rcases z with z | z | z
     ·exact ay.1.2.2.2.1 z.symm
     ·exact ay.2.1.2.2.1 z.symm
     ·exact ay.2.2.1.2.1 z.symm
    have pY:∀ x∈B,x.2.2∉[x0,d1,d2]:=λx hx z=>by
     have hm:x.2.2∈B.map (·.2.2):=mem_map.mpr ⟨x,hx,rfl⟩;simp only[Lv,Lw,or_false]at z
     rcases z with z | z | z
     ·exact ay.1.2.2.2.2 (by rw[<- z];exact hm)
     ·exact ay.2.1.2.2.2 (by rw[<- z];exact hm)
     ·exact ay.2.2.1.2.2 (by rw[<- z];exact hm)
    have dB:∀ x∈B,x.2.2≠d:=λx hx e=>ay.2.2.2.2.1 (mem_map.mpr ⟨x,hx,e⟩)
    have sX:∀ x∈B,x.2.2≠lc:=λx hx e=>ay.2.2.2.1.2 (by rw[<- e];exact mem_map.mpr ⟨x,hx,rfl⟩)
    have ig:lc≠d:=ay.2.2.2.1.1;refine⟨x0,d1,d2,st,c,tt,tc,rt,z,ae,R,rfl,cu.sa,cu.tt,cu.tc,pu.pm.mem_iff.mpr mP,by have:=gz.2.1;lia,by lia,cu.tr,pu.rok #[0],by lia,λr b8 H2 bC sY fF R2 cU cP cj l2 g2 mQ pr t2=>?_⟩
    have bn:Cu P w ob H2 x0 d1 d2 bC sY r b8 lc d fF (ae.filter λy=>decide (y≠z)) L R2 B:=⟨cP,g2,mQ,cu.sa.lst cU cu.cl,cU _ _ mO cu.dd,λx hx=>cU _ _ (pY x hx) (cu.bs x hx),t2,cu.nd⟩
    obtain⟨j,hj⟩:=mem_iff_getElem?.mp mP;refine⟨.inl ⟨rfl,_,SqL.of bn.cl⟩,lc,L,z,j,rfl,rfl,bn.cl,hj,λi' bx e=>?_,kvB B,by rw[Qh (VR ig)];exact bn.dd,λfX nf=>?_⟩
    ·obtain⟨b1,e1⟩:=List.getElem?_eq_some_iff.mp hj
     obtain⟨b2,e2⟩:=List.getElem?_eq_some_iff.mp e
     exact pairwise_iff_getElem.mp Ln i' j b2 b1 bx (e2.trans e1.symm)
    have gR:QO (lc::d::B.map (·.2.2)) H2 (upd (upd H2 lc (.lst (Da V.str (L.eraseIdx j)))) d (.frz fX (.dK (kvB B)))):=((QO.refl _ _).upd #[2]).upd #[2]
    have l4:upd (upd H2 lc (.lst (Da V.str (L.eraseIdx j)))) d (.frz fX (.dK (kvB B))) lc=Vo (.lst (Da V.str (L.eraseIdx j))):=by rw[Qh ig,Qa]
    have d4:upd (upd H2 lc (.lst (Da V.str (L.eraseIdx j)))) d (.frz fX (.dK (kvB B))) d=_:=Qa;have b4:∀ x∈B,upd (upd H2 lc (.lst (Da V.str (L.eraseIdx j)))) d (.frz fX (.dK (kvB B))) x.2.2=Vo (.dK (dkC x.2.1)):=λx hx=>by rw[Qh (dB x hx),Qh (sX x hx)];exact bn.bs x hx
    generalize upd (upd H2 lc (.lst (Da V.str (L.eraseIdx j)))) d (.frz fX (.dK (kvB B)))=H4 at gR l4 d4 b4 ⊢;have lk:(kvB B).length=B.length:=by unfold kvB;rw[UQ]
    refine Xbc (λm σ' bN=>∃ cI,σ'=[Vo (.ref a),Vo (.ref nl),Vo (.ref kl),Vo (.int (c2 % 40)),Vo (.ref x0),Vo (.ref r),Vo (.ref lc),Vo (.ref d),Vo (.ref hd),Vo (.int (3+(i:Int))),Vo (.str z),cI,dF]/\QO (lc::d::B.map (·.2.2)) H2 bN/\bN lc=Vo (.lst (Da V.str (L.eraseIdx j)))/\bN d=Vo (.frz fX (.dK (kvB B)))/\∀ (k:Nat) x,B[k]?=Vo x->bN x.2.2=Vo (.dK (dkC (if k < m then x.2.1.filter (λp=>decide (p.1≠z)) else x.2.1)))) ⟨_,rfl,gR,l4,d4,λk x hx=>b4 x (Om hx)⟩ (λm σ' bN _ h=>by obtain⟨_,_,_,_,h,_⟩:=h;exact h) ?_ ?_
    ·rintro m k v σ' bN aK ⟨cI,rfl,sx,hl,kj,hb⟩
     unfold kvB at aK;rw[Ol]at aK
     cases hbm:B[m]? with
     | none=>rw[hbm]at aK;cases aK
     | some x =>
     rw[hbm]at aK;cases aK;have mR:=Om hbm;have fi:=hb m x hbm;rw[if_neg (VA m)]at fi;have vv:ZM (kvB B) x.1=Vo (.ref x.2.2):=by
      unfold kvB;rw[JA,ZN (·.1) pu.kn mR]
      rfl
     have km:∀ (k':Nat) y,B[k']?=Vo y->k'≠m->y.2.2≠x.2.2:=λk' y hy bU e=>by
      obtain⟨b1,e1⟩:=List.getElem?_eq_some_iff.mp hy
      obtain⟨b2,e2⟩:=List.getElem?_eq_some_iff.mp hbm
      have nB:=pairwise_iff_getElem.mp ay.2.2.2.2.2;have l1:k' < (B.map (·.2.2)).length:=by rw[UQ];exact b1
      have l2:m < (B.map (·.2.2)).length:=by rw[UQ];exact b2
      rcases Nat.lt_or_gt_of_ne bU with h | h
      ·exact nB k' m l1 l2 h (by rw[Dj,Dj,e1,e2];exact e)
      ·exact nB m k' l2 l1 h (by rw[Dj,Dj,e1,e2];exact e.symm)
     have dH:∀ (k':Nat) y,B[k']?=Vo y->k'≠m->(if k' < m+1 then y.2.1.filter (λp=>decide (p.1≠z)) else y.2.1)=if k' < m then y.2.1.filter (λp=>decide (p.1≠z)) else y.2.1:=λk' y _ bU=>by
      by_cases h:k' < m
      ·rw[if_pos h,if_pos #[0]]
      ·rw[if_neg h,if_neg #[0]]
     walk_at "rd";refine⟨_,.inl ⟨_,x.1,.inr ⟨fX,kj⟩,rfl,vv.symm⟩,x.2.2,rfl,.inl ⟨_,.inl fi⟩,_,fi,.inr z,rfl,λv' fz=>?_,λom=>?_⟩
     ·rw[Ywd]
      refine⟨sx.upd (by simp only[Lv];exact .inr (.inr (mem_map.mpr ⟨x,mR,rfl⟩))),by rw[Qh (VR (sX x mR))];exact hl,by rw[Qh (VR (dB x mR))];exact kj,λk' y hy=>?_⟩
      by_cases bU:k'=m
      ·subst bU
       rw[hbm]at hy;cases hy;rw[Qa,if_pos (UT _)]
      ·rw[Qh (km k' y hy bU),dH k' y hy bU]
       exact hb k' y hy
     ·refine⟨sx,hl,kj,λk' y hy=>?_⟩
      by_cases bU:k'=m
      ·subst bU
       rw[hbm]at hy;cases hy;rw[if_pos (UT _),Yxd om];exact fi
      ·rw[dH k' y hy bU]
       exact hb k' y hy
    ·rintro σ' bN ⟨cI,rfl,sx,hl,kj,hb⟩
     rw[lk]at hb;have pZ:QO (lc::d::B.map (·.2.2)) H2 (upd bN d (.dK (kvB B))):=sx.upd #[2]
     have sZ:∀ z∈lc::d::B.map (·.2.2),z∈MU x0 d1 d2 lc d B:=λz h=>by simp only[Lv]at h ⊢;exact .inr (.inr (.inr h))
     have p7:=bn.sameT (pZ.mono sZ);have dG:QO (MU x0 d1 d2 lc d B) H' (upd bN d (.dK (kvB B))):=(cU.mono λz bd=>by simp only[Lv,Lw,or_false]at bd ⊢;rcases bd with e | e | e <;> simp[e]).trans (pZ.mono sZ)
     have n3:∀ z∈[x0,d1,d2],z∉lc::d::B.map (·.2.2):=λz bd=>by
      simp only[Lv,Lw,or_false]at bd
      rcases bd with rfl | rfl | rfl
      ·simp only[Lv,not_or];exact ay.1.2.2
      ·simp only[Lv,not_or];exact ay.2.1.2
      ·simp only[Lv,not_or];exact ay.2.2.1
     have p8:MU x0 d1 d2 lc d (XL z B)=MU x0 d1 d2 lc d B:=by unfold MU;rw[X0c]
     refine⟨d,nf,fX,kvB B,kj,rest _ bC sY r b8 fF _ (L.eraseIdx j) R2 (XL z B) _ _ _ ⟨bn.sa.x2 pZ p7 n3,p7 _ _ g2,p7 _ _ mQ,by rw[Qh ig];exact hl,by rw[XZc];exact Qa,λx hx=>?_,t2,by rw[p8];exact cu.nd⟩ ((pu.drop hj pr).mono (U6 i)) (fx.x dG (cu.sameT dG) aU cj) (by rw[p8];exact aU) (by rw[p8];exact sc.x dG λz h=>.inl h) #[0]⟩
     obtain⟨y,hy,rfl⟩:=mem_map.mp hx;obtain⟨k',bU⟩:=mem_iff_getElem?.mp hy;have:=hb k' y bU;rw[if_pos (List.getElem?_eq_some_iff.mp bU).1]at this
     rw[Qh (dB y hy)];exact this
   ·have aY:z∉L:=λh=>aY (decide_eq_true h)
    have gz:=gw z hz;have lL:=pu.ll;refine⟨tt,tc,rt,z,ae,rfl,cu.tt,cu.tc,λh=>aY (pu.pm.mem_iff.mp h),gz,λy hy=>by have:=(pu.wd y hy).2.1;lia,by have:=pu.cl;lia,λr b8 H2 aL s2 g2 mQ mF ko=>⟨r,rfl,_,SqT.of g2,_,at1 _ _ _,_,SqT.of (s2 _ _ cu.tt),_,at1 _ _ _,?_,(if_neg (not_not_intro rfl)).mpr ⟨.inl ⟨rfl,_,SqL.of (s2 _ _ cu.cl)⟩,_,s2 _ _ cu.cl,by rw[UQ];exact QA #[0],?_⟩⟩⟩
    ·rcases cu.tr.sc with e | ⟨n',e⟩ <;> rw[e] <;> rfl
    have bn:=cu.same s2;have ay:=cu.nd;simp only[LS,Lv,not_or]at ay;have yB:lc∉[x0,d1,d2]:=λz=>by
     simp only[Lv,Lw,or_false]at z
     rcases z with z | z | z
     ·exact ay.1.2.2.1 z.symm
     ·exact ay.2.1.2.1 z.symm
     ·exact ay.2.2.1.1 z.symm
    have e3:Da V.str L++[V.str z]=Da V.str (L++[z]):=by rw[Ip];rfl
    rw[e3];have dG:QO (MU x0 d1 d2 lc d B) H' (upd H2 lc (.lst (Da V.str (L++[z])))):=(s2.x _).upd #[2]
    have t3:Zt H2 (upd H2 lc (.lst (Da V.str (L++[z])))):=Jy bn.cl;refine rest _ st c r b8 rt aL (L++[z]) R B _ _ _ ⟨bn.sa.mu bn.cl (λ_ z=>by cases z) yB,t3 _ _ g2,t3 _ _ mQ,Qa,by rw[Qh (λe=>ay.2.2.2.1.1 e.symm)];exact bn.dd,λx hx=>by rw[Qh (λe=>ay.2.2.2.1.2 (by rw[<- e];exact mem_map.mpr ⟨x,hx,rfl⟩))];exact bn.bs x hx,cu.tr,cu.nd⟩ ⟨mF,?_,λy hy=>?_,by rw[On,OH];lia,by have:=pu.bl;lia,pu.kn,(pu.mono (U6 i)).ok,pu.fit⟩ (fx.x dG (cu.sameT dG) aU λ_ h=>h) aU (sc.x dG λz h=>.inl h) #[0]
    ·have n1:aL.Nodup:=Dq (λ{a b} h e=>by subst e;exact ltS.irr _ h) mF
     have n2:(L++[z]).Nodup:=by
      rw[Dd];refine⟨pu.pm.nodup_iff.mp pu.cn,by simp,λx hx y hy=>?_⟩
      have hy:y=z:=by simpa using hy
      subst hy;exact λe=>aY (by rw[<- e];exact hx)
     refine(perm_ext_iff_of_nodup n1 n2).mpr λy=>?_
     rw[ko,IV,DB,pu.pm.mem_iff]
    ·rcases(ko y).mp hy with h | h
     ·exact pu.wd y h
     ·rw[h];exact gz
 ·rintro σ' H' ⟨st,c,tt,tc,rt,ae,L,R,B,hd,cF,cE,lh,dh,cG,az,Rh,Bh,x9,eF,cI,dF,rfl,cu,pu,fx,fV,aU,sc,lst⟩
  walk_at "rd";refine⟨_,SqT.of fx.hd,_,at0 _ _,Xnb fV #[1] cu.sa fx.tt fx.tc fx.tr λr H1 xs s1 g1 pr=>⟨_,SqT.of (s1 _ _ fx.hd),_,at1 _ _ _,_,SqT.of (s1 _ _ fx.hd),_,Za (j:=2) rfl,?_⟩⟩
  have f1:=fx.same s1;have:=fV.cl;exact⟨r,xs,lh,dh,az,Rh,Bh,rfl,g1,pr,f1.lh,by lia,f1.dh,fV.rows f1.bs,fV.kn,by have:=fV.bl;lia,fV.fit,λH2 _=>q H2⟩
theorem JLd{K:VD}(hl:ns.length<=63)(_:∀ i∈ns,Ii i<=2 ^ 20)(hS:SqL K H a (ns.map V.int)):Qob K [.ref a] H (λv _=>v=.bl true) λ_ _ _=>False :=
 ⟨a,ns,rfl,hS,hl,λ_=>rfl⟩
theorem Zv{α:Type}{C:List α->Prop}(h:∀ a,C [a]):∀ us:List α,us.length=1->C us:=λus hl=>by
 match us,hl with
 | [_],_=>exact h _
theorem Zb{α:Type}{C:List α->Prop}(h:∀ a b,C [a,b]):∀ us:List α,us.length=2->C us:=λus hl=>by
 match us,hl with
 | [_,_],_=>exact h _ _
theorem Zva{α:Type}{C:List α->Prop}(h:∀ a b c,C [a,b,c]):∀ us:List α,us.length=3->C us:=λus hl=>by
 match us,hl with
 | [_,_,_],_=>exact h _ _ _
theorem Xqb{α:Type}{C:List α->Prop}(h:∀ a b c d,C [a,b,c,d]):∀ us:List α,us.length=4->C us:=λus hl=>by
 match us,hl with
 | [_,_,_,_],_=>exact h _ _ _ _
theorem Yyd{α:Type}{C:List α->Prop}(h:C []):∀ us:List α,us.length=0->C us:=λus hl=>by
 match us,hl with
 | [],_=>exact h
theorem cq0{P:Vg}{w:Vb}{K:VD}{mg:Str->Option Va}{base h:Vq}(X:K.In h)(G:h.Ns VE mg){k:Nat}{f:Vh}{fd:U0}{ps:List Str}{sp:Sp}{x:Str}(F:Qy P w K mg base CX0 k f fd ps sp)(b:ZA K fd ps [])(kk:UP K (.ref f)=true)(a:LA K VE x=Vo (Vo (.ref f))):Cal P w K mg base k x ps sp:=⟨_,_,F,b,kk,Dz X G a⟩
theorem cq1{P:Vg}{w:Vb}{K:VD}{mg:Str->Option Va}{base h:Vq}(X:K.In h)(G:h.Ns VE mg){k:Nat}{f:Vh}{fd:U0}{ps:List Str}{sp:Sp}{x:Str}(F:Qy P w K mg base (CX1 P w) k f fd ps sp)(b:ZA K fd ps [])(kk:UP K (.ref f)=true)(a:LA K VE x=Vo (Vo (.ref f))):Jgc P w K mg base k x ps sp:=⟨_,_,F,b,kk,Dz X G a⟩
theorem mq1{P:Vg}{w:Vb}{K:VD}{mg:Str->Option Va}{base:Vq}{k:Nat}{C f:Vh}{fd:U0}{ps:List Str}{sp:Sp}{m:Str}(F:Qy P w K mg base (CX1 P w) k f fd ps sp)(b:ZA K fd ps [])(a:UF K (.ref C) m=Vo (Vo (.ref f)))(j:UG K (.ref f)=true)(kk:UP K (.ref f)=true):MeV P w K mg base k C m sp:=⟨_,_,_,⟨a,j,kk⟩,F,b⟩
theorem JMd{l:W.OpenLaw}{K:VD}{h:Vq}{fa:Vh}(X:K.In h)(G:h.Ns VE mg)(pq:mg "law"=Vo (.ref fa))
 {f1 f2 f3 f4 f5 f6 f7 f8 f9 mS kq kt mT p9 qb qc tf tj tm tq tD tE tF tG tH tI tJ tK tL tO tP tQ qd qf qg tR tS tT tU tV tW tX tY qh tZ uc ud ue uf ug uk qi ul um uo uq ur qj ut uu uv uw ux uA uB uC uD uE mU uF uG uH uI uJ uK uL uM uN:Vh} {d1 d2 d3 d4 d5 d6 d7 d8 d9 yC yD d12 yE yF yG yH yI yJ yK yL yM yO yP yQ yR yS yT yU yV yW yX yY yZ y0 y3 y4 y6 y7 y8 y9 za zb zc zd ze zf zg zh zi zj zk zl zm zn zo zp zq zr zu zv zw zx zy zz zA zB zC zD zE zF zG zH zI zJ zK zL zM zN:U0}
 (ta:UV K (.builtin "object.__class__") "__get__"=Vo (Vo (.builtin "getset_descriptor.__get__"))) (tb:W.takesIn K (.builtin "object.__class__")=Vo true)
 {O0:Vh} (oa0:LA K VE "Page"=Vo (Vo (.ref O0))) (of0:W.YI K O0 ["level","rows","heads","entries","told_by_number","number_by_told","count"]=true)
 {O1:Vh} (oa1:LA K VE "Leaf"=Vo (Vo (.ref O1))) (of1:W.YI K O1 ["level","rows","heads","entries","told_by_number","number_by_told","count"]=true)
 (om1:UK K O1=true) (ok1:UP K (.ref O1)=true)
 {O2:Vh} (oa2:LA K VE "Twig"=Vo (Vo (.ref O2))) (of2:W.YI K O2 ["level","rows","heads","entries","told_by_number","number_by_told","count"]=true)
 (om2:UK K O2=true) (ok2:UP K (.ref O2)=true)
 {O3:Vh} (oa3:LA K VE "Pages"=Vo (Vo (.ref O3))) (of3:W.YI K O3 ["level","rows","heads","entries","told_by_number","number_by_told","count"]=true)
 (om3:UK K O3=true) (ok3:UP K (.ref O3)=true)
 (oo:W.Xdc K [O0,O1,O2,O3] Ysd=true)
 {CT:Vh} {uO:Bool} {uP yq:Str} {yN:Vh} {uQ:List Va} {uR:List Str} {ku:List Va} {uS:Bool} {kx:Option Bool} {uT:Option Vh} {uU uV uW uX uY:Option Va}
 (t1:LA K VE "TableError"=Vo (Vo (.ref CT))) (t2:K.lookup CT=Vo (Ly uP yq CT yN uQ W.bmV uO uR ku uS kx uT uU uV uW uX uY "ValueError.__new__")) (t3:Lz K yN=true) (t4:LA K yN "__init__"=Vo Vp) (t5:W.tailIn K W.bmV W.bmV=true)
 (t6:UV K (.ref CT) "__getattribute__"=Vo (Vo (.builtin "type.__getattribute__"))) (t7:W.readsIn K CT (.type "type")=true) (t8:W.findCls K (.ref CT) (.type "type") "__init__"=Vo (.val (.builtin "ValueError.__init__")))
 (t9:W.tailIn K W.bmV (.ref CT::W.bmV)=true)
 {C0:Vh} {kz uZ:Str} {qk:Vh} {kA:List Va} {kB:List Str} {fY:List Va} {kC:Bool} {fZ:Option Bool} {kD:Option Vh} {kE kF kG kH kI:Option Va}
 (p0:LA K VE "NoPage"=Vo (Vo (.ref C0))) (q0:K.lookup C0=Vo (Ly kz uZ C0 qk kA (.ref CT::W.bmV) true kB fY kC fZ kD kE kF kG kH kI "ValueError.__new__")) (r0:Lz K qk=true) (u0:W.YH K C0 ["number","key","column"]=true)
 (o0:UP K (.ref C0)=true)
 {C1:Vh} {kJ u7:Str} {ql:Vh} {kK:List Va} {kL:List Str} {gc:List Va} {kM:Bool} {gd:Option Bool} {kO:Option Vh} {kP kQ kR kT kU:Option Va}
 (p1:LA K VE "NotRising"=Vo (Vo (.ref C1))) (q1:K.lookup C1=Vo (Ly kJ u7 C1 ql kK (.ref CT::W.bmV) true kL gc kM gd kO kP kQ kR kT kU "ValueError.__new__")) (r1:Lz K ql=true) (u1:W.YH K C1 ["number","key","column"]=true)
 (o1:UP K (.ref C1)=true)
 {C2:Vh} {kW vb:Str} {qm:Vh} {kX:List Va} {kY:List Str} {ge:List Va} {kZ:Bool} {gf:Option Bool} {k6:Option Vh} {k7 k8 k9 lu lw:Option Va}
 (p2:LA K VE "NoColumn"=Vo (Vo (.ref C2))) (q2:K.lookup C2=Vo (Ly kW vb C2 qm kX (.ref CT::W.bmV) true kY ge kZ gf k6 k7 k8 k9 lu lw "ValueError.__new__")) (r2:Lz K qm=true) (u2:W.YH K C2 ["number","key","column"]=true)
 (o2:UP K (.ref C2)=true)
 {C3:Vh} {lE vc:Str} {qo:Vh} {lF:List Va} {lG:List Str} {gg:List Va} {lH:Bool} {gh:Option Bool} {lI:Option Vh} {lJ lK lN lO lP:Option Va}
 (p3:LA K VE "ColumnThere"=Vo (Vo (.ref C3))) (q3:K.lookup C3=Vo (Ly lE vc C3 qo lF (.ref CT::W.bmV) true lG gg lH gh lI lJ lK lN lO lP "ValueError.__new__")) (r3:Lz K qo=true) (u3:W.YH K C3 ["number","key","column"]=true)
 (o3:UP K (.ref C3)=true)
 {C4:Vh} {ii qq:Str} {lQ:Vh} {ij:List Va} {ik:List Str} {dI:List Va} {il:Bool} {dJ:Option Bool} {im:Option Vh} {io ip iq ir iu:Option Va}
 (p4:LA K VE "BadKey"=Vo (Vo (.ref C4))) (q4:K.lookup C4=Vo (Ly ii qq C4 lQ ij (.ref CT::W.bmV) true ik dI il dJ im io ip iq ir iu "ValueError.__new__")) (r4:Lz K lQ=true) (u4:W.YH K C4 ["number","key","column"]=true)
 (i4:LA K lQ "__init__"=Vo Vp)
 {C5:Vh} {ix qr:Str} {lS:Vh} {iy:List Va} {iz:List Str} {dL:List Va} {iA:Bool} {dM:Option Bool} {iB:Option Vh} {iC iD iE iF iG:Option Va}
 (p5:LA K VE "BadValue"=Vo (Vo (.ref C5))) (q5:K.lookup C5=Vo (Ly ix qr C5 lS iy (.ref CT::W.bmV) true iz dL iA dM iB iC iD iE iF iG "ValueError.__new__")) (r5:Lz K lS=true) (u5:W.YH K C5 ["number","key","column"]=true)
 (i5:LA K lS "__init__"=Vo Vp)
 {C6:Vh} {iH qt:Str} {lT:Vh} {iI:List Va} {iJ:List Str} {dO:List Va} {iK:Bool} {dP:Option Bool} {iL:Option Vh} {iM iN iO iP iQ:Option Va}
 (p6:LA K VE "BadWord"=Vo (Vo (.ref C6))) (q6:K.lookup C6=Vo (Ly iH qt C6 lT iI (.ref CT::W.bmV) true iJ dO iK dP iL iM iN iO iP iQ "ValueError.__new__")) (r6:Lz K lT=true) (u6:W.YH K C6 ["number","key","column"]=true)
 (i6:LA K lT "__init__"=Vo Vp)
 (tt:W.Y7c K [C0,C1,C2,C3,C4,C5,C6]=true) (tu:W.Jgd K [C0,C1,C2,C3,C4,C5,C6]=true)
 (a1:UF K (.ref C1) "__init__"=Vo (Vo (.ref f1))) (j1:UG K (.ref f1)=true)
 (F1:Fun K "__init__" "NotRising.__init__" JB f1 d1)
 (a2:UF K (.ref C2) "__init__"=Vo (Vo (.ref f2))) (j2:UG K (.ref f2)=true)
 (F2:Fun K "__init__" "NoColumn.__init__" J7 f2 d2)
 (a3:UF K (.ref C3) "__init__"=Vo (Vo (.ref f3))) (j3:UG K (.ref f3)=true)
 (F3:Fun K "__init__" "ColumnThere.__init__" Jb f3 d3)
 (a4:UF K (.ref C0) "__init__"=Vo (Vo (.ref f4))) (j4:UG K (.ref f4)=true)
 (F4:Fun K "__init__" "NoPage.__init__" Xm f4 d4)
 (a5:LA K VE "is_whole"=Vo (Vo (.ref f5)))
 (F5:Fun K "is_whole" "is_whole" Jfa f5 d5)
 (a6:LA K VE "is_sign"=Vo (Vo (.ref f6)))
 (F6:Fun K "is_sign" "is_sign" Yqa f6 d6)
 (a7:LA K VE "is_word"=Vo (Vo (.ref f7)))
 (F7:Fun K "is_word" "is_word" ZDa f7 d7)
 (a8:LA K VE "rank_of"=Vo (Vo (.ref f8)))
 (F8:Fun K "rank_of" "rank_of" Yra f8 d8)
 (a9:LA K VE "mixed_first"=Vo (Vo (.ref f9)))
 (F9:Fun K "mixed_first" "mixed_first" Xn f9 d9)
 (a10_0:UF K (.ref O0) "__init__"=Vo (Vo (.ref mS)))
 (j10:UG K (.ref mS)=true)
 (F10:Fun K "__init__" "Page.__init__" QVa mS yC)
 (e10:W.clI K O0 mS=true)
 (a11_0:UF K (.ref O0) "told"=Vo (Vo (.ref kq)))
 (a11_1:UF K (.ref O1) "told"=Vo (Vo (.ref kq)))
 (a11_2:UF K (.ref O2) "told"=Vo (Vo (.ref kq)))
 (j11:UG K (.ref kq)=true)
 (F11:Fun K "told" "Page.told" QWa kq yD)
 (a12_0:UF K (.ref O0) "first"=Vo (Vo (.ref kt)))
 (a12_1:UF K (.ref O1) "first"=Vo (Vo (.ref kt)))
 (a12_2:UF K (.ref O2) "first"=Vo (Vo (.ref kt)))
 (j12:UG K (.ref kt)=true)
 (F12:Fun K "first" "Page.first" XX kt d12)
 (a13_0:UF K (.ref O0) "under"=Vo (Vo (.ref mT)))
 (a13_1:UF K (.ref O1) "under"=Vo (Vo (.ref mT)))
 (j13:UG K (.ref mT)=true)
 (F13:Fun K "under" "Page.under" XY mT yE)
 (a14_1:UF K (.ref O1) "spread"=Vo (Vo (.ref p9)))
 (j14:UG K (.ref p9)=true)
 (F14:Fun K "spread" "Leaf.spread" Xo p9 yF)
 (a15_2:UF K (.ref O2) "under"=Vo (Vo (.ref qb)))
 (j15:UG K (.ref qb)=true)
 (F15:Fun K "under" "Twig.under" Yq qb yG)
 (a16_3:UF K (.ref O3) "__init__"=Vo (Vo (.ref qc)))
 (j16:UG K (.ref qc)=true)
 (F16:Fun K "__init__" "Pages.__init__" XZ qc yH)
 (a17:LA K VE "rows_with"=Vo (Vo (.ref tf)))
 (F17:Fun K "rows_with" "rows_with" QXa tf yI)
 (a18:LA K VE "no_table"=Vo (Vo (.ref tj)))
 (F18:Fun K "no_table" "no_table" Jga tj yJ)
 (a19:LA K VE "has_column"=Vo (Vo (.ref tm)))
 (F19:Fun K "has_column" "has_column" X7 tm yK)
 (a20:LA K VE "row_told"=Vo (Vo (.ref tq)))
 (F20:Fun K "row_told" "row_told" Jha tq yL)
 (a21:LA K VE "_law_cell"=Vo (Vo (.ref tD)))
 (F21:Fun K "_law_cell" "_law_cell" QYa tD yM)
 (a22:LA K VE "_law_mix"=Vo (Vo (.ref tE)))
 (F22:Fun K "_law_mix" "_law_mix" Jia tE yO)
 (a23:LA K VE "_law_sign"=Vo (Vo (.ref tF)))
 (F23:Fun K "_law_sign" "_law_sign" Q0a tF yP)
 (a24:LA K VE "_law_great"=Vo (Vo (.ref tG)))
 (F24:Fun K "_law_great" "_law_great" X9 tG yQ)
 (a25:LA K VE "_law_rising"=Vo (Vo (.ref tH)))
 (F25:Fun K "_law_rising" "_law_rising" ZD tH yR)
 (a26:LA K VE "_law_near"=Vo (Vo (.ref tI)))
 (F26:Fun K "_law_near" "_law_near" Q1a tI yS)
 (a27:LA K VE "_law_spelled"=Vo (Vo (.ref tJ)))
 (F27:Fun K "_law_spelled" "_law_spelled" YM tJ yT)
 (a28:LA K VE "_law_copy"=Vo (Vo (.ref tK)))
 (F28:Fun K "_law_copy" "_law_copy" Xb tK yU)
 (a29:LA K VE "is_number"=Vo (Vo (.ref tL)))
 (F29:Fun K "is_number" "is_number" Q2a tL yV)
 (a30:LA K VE "is_text"=Vo (Vo (.ref tO)))
 (F30:Fun K "is_text" "is_text" ZEa tO yW)
 (a31:LA K VE "before"=Vo (Vo (.ref tP)))
 (F31:Fun K "before" "before" X3a tP yX)
 (a32:LA K VE "mixed"=Vo (Vo (.ref tQ)))
 (F32:Fun K "mixed" "mixed" Jhb tQ yY)
 (a33_1:UF K (.ref O1) "__init__"=Vo (Vo (.ref qd)))
 (j33:UG K (.ref qd)=true)
 (F33:Fun K "__init__" "Leaf.__init__" Q3a qd yZ)
 (a34_2:UF K (.ref O2) "__init__"=Vo (Vo (.ref qf)))
 (j34:UG K (.ref qf)=true)
 (F34:Fun K "__init__" "Twig.__init__" Q4a qf y0)
 (a35_3:UF K (.ref O3) "kept"=Vo (Vo (.ref qg)))
 (j35:UG K (.ref qg)=true)
 (F35:Fun K "kept" "Pages.kept" Qaa qg y3)
 (a36:LA K VE "_law_text"=Vo (Vo (.ref tR)))
 (F36:Fun K "_law_text" "_law_text" Xc tR y4)
 (a37:LA K VE "_law_tall"=Vo (Vo (.ref tS)))
 (F37:Fun K "_law_tall" "_law_tall" Q5a tS y6)
 (a38:LA K VE "_law_names"=Vo (Vo (.ref tT)))
 (F38:Fun K "_law_names" "_law_names" Jn tT y7)
 (a39:LA K VE "is_key"=Vo (Vo (.ref tU)))
 (F39:Fun K "is_key" "is_key" X4a tU y8)
 (a40:LA K VE "is_plain"=Vo (Vo (.ref tV)))
 (F40:Fun K "is_plain" "is_plain" Jja tV y9)
 (a41:LA K VE "place_of"=Vo (Vo (.ref tW)))
 (F41:Fun K "place_of" "place_of" Jka tW za)
 (a42:LA K VE "is_behind_high"=Vo (Vo (.ref tX)))
 (F42:Fun K "is_behind_high" "is_behind_high" JC tX zb)
 (a43:LA K VE "level_of"=Vo (Vo (.ref tY)))
 (F43:Fun K "level_of" "level_of" Jla tY zc)
 (a44_3:UF K (.ref O3) "told_at"=Vo (Vo (.ref qh)))
 (j44:UG K (.ref qh)=true)
 (F44:Fun K "told_at" "Pages.told_at" J9 qh zd)
 (a45:LA K VE "_law_key"=Vo (Vo (.ref tZ)))
 (F45:Fun K "_law_key" "_law_key" Jma tZ ze)
 (a46:LA K VE "_law_plain"=Vo (Vo (.ref uc)))
 (F46:Fun K "_law_plain" "_law_plain" Qba uc zf)
 (a47:LA K VE "in_order"=Vo (Vo (.ref ud)))
 (F47:Fun K "in_order" "in_order" Jna ud zg)
 (a48:LA K VE "last_up_to"=Vo (Vo (.ref ue)))
 (F48:Fun K "last_up_to" "last_up_to" Yt ue zh)
 (a49:LA K VE "is_within"=Vo (Vo (.ref uf)))
 (F49:Fun K "is_within" "is_within" Q7a uf zi)
 (a50:LA K VE "is_looked_at"=Vo (Vo (.ref ug)))
 (F50:Fun K "is_looked_at" "is_looked_at" YN ug zj)
 (a51:LA K VE "page_of"=Vo (Vo (.ref uk)))
 (F51:Fun K "page_of" "page_of" Yta uk zk)
 (a52_3:UF K (.ref O3) "card"=Vo (Vo (.ref qi)))
 (j52:UG K (.ref qi)=true)
 (F52:Fun K "card" "Pages.card" Qca qi zl)
 (a53:LA K VE "cut"=Vo (Vo (.ref ul)))
 (F53:Fun K "cut" "cut" Xyc ul zm)
 (a54:LA K VE "ask_key"=Vo (Vo (.ref um)))
 (F54:Fun K "ask_key" "ask_key" Yua um zn)
 (a55:LA K VE "ask_cell"=Vo (Vo (.ref uo)))
 (F55:Fun K "ask_cell" "ask_cell" Joa uo zo)
 (a56:LA K VE "_law_pool"=Vo (Vo (.ref uq)))
 (F56:Fun K "_law_pool" "_law_pool" Q8a uq zp)
 (a57:LA K VE "_law_row"=Vo (Vo (.ref ur)))
 (F57:Fun K "_law_row" "_law_row" Jpa ur zq)
 (a58_3:UF K (.ref O3) "page"=Vo (Vo (.ref qj)))
 (j58:UG K (.ref qj)=true)
 (F58:Fun K "page" "Pages.page" Qda qj zr)
 (a59:LA K VE "heads_of"=Vo (Vo (.ref ut)))
 (F59:Fun K "heads_of" "heads_of" Jqa ut zu)
 (a60:LA K VE "put_column"=Vo (Vo (.ref uu)))
 (F60:Fun K "put_column" "put_column" Qea uu zv)
 (a61:LA K VE "cells_of"=Vo (Vo (.ref uv)))
 (F61:Fun K "cells_of" "cells_of" Qfa uv zw)
 (a62:LA K VE "crowned"=Vo (Vo (.ref uw)))
 (F62:Fun K "crowned" "crowned" Yva uw zx)
 (a63:LA K VE "cells_with"=Vo (Vo (.ref ux)))
 (F63:Fun K "cells_with" "cells_with" Qga ux zy)
 (a64:LA K VE "built"=Vo (Vo (.ref uA)))
 (F64:Fun K "built" "built" Jlb uA zz)
 (a65:LA K VE "_law_same"=Vo (Vo (.ref uB)))
 (F65:Fun K "_law_same" "_law_same" Zaa uB zA)
 (a66:LA K VE "_law_dict"=Vo (Vo (.ref uC)))
 (F66:Fun K "_law_dict" "_law_dict" Zba uC zB)
 (a67:LA K VE "_law_columns"=Vo (Vo (.ref uD)))
 (F67:Fun K "_law_columns" "_law_columns" YQ uD zC)
 (a68:LA K VE "_law_reads"=Vo (Vo (.ref uE)))
 (F68:Fun K "_law_reads" "_law_reads" Qia uE zD)
 (a69_0:UF K (.ref O0) "spread"=Vo (Vo (.ref mU)))
 (a69_2:UF K (.ref O2) "spread"=Vo (Vo (.ref mU)))
 (j69:UG K (.ref mU)=true)
 (F69:Fun K "spread" "Page.spread" Xq mU zE)
 (a70:LA K VE "looked_at"=Vo (Vo (.ref uF)))
 (F70:Fun K "looked_at" "looked_at" Zca uF zF)
 (a71:LA K VE "rows_of"=Vo (Vo (.ref uG)))
 (F71:Fun K "rows_of" "rows_of" Ywa uG zG)
 (a72:LA K VE "heads_with"=Vo (Vo (.ref uH)))
 (F72:Fun K "heads_with" "heads_with" Qja uH zH)
 (a73:LA K VE "stretch"=Vo (Vo (.ref uI)))
 (F73:Fun K "stretch" "stretch" ZFa uI zI)
 (a74:LA K VE "put"=Vo (Vo (.ref uJ)))
 (F74:Fun K "put" "put" Xzc uJ zJ)
 (a75:LA K VE "drop_column"=Vo (Vo (.ref uK)))
 (F75:Fun K "drop_column" "drop_column" Z0 uK zK)
 (a76:LA K VE "put_row"=Vo (Vo (.ref uL)))
 (F76:Fun K "put_row" "put_row" Yxa uL zL)
 (a77:LA K VE "rows_in"=Vo (Vo (.ref uM)))
 (F77:X9b K "rows_in" "rows_in" ZGa [.none,.none] uM zM)
 (a78:LA K VE "law"=Vo (Vo (.ref uN)))
 (F78:Fun K "law" "law" Zxb uN zN)
 (z1:LA K VE "all"=Vo Vp)
 (z2:LA K VE "bool"=Vo Vp)
 (z3:LA K VE "dict"=Vo Vp)
 (z4:LA K VE "int"=Vo Vp)
 (z5:LA K VE "isinstance"=Vo Vp)
 (z6:LA K VE "len"=Vo Vp)
 (z7:LA K VE "list"=Vo Vp)
 (z8:LA K VE "max"=Vo Vp)
 (z9:LA K VE "min"=Vo Vp)
 (z10:LA K VE "ord"=Vo Vp)
 (z11:LA K VE "range"=Vo Vp)
 (z12:LA K VE "sorted"=Vo Vp)
 (z13:LA K VE "str"=Vo Vp)
 (z14:LA K VE "tuple"=Vo Vp)
 (z15:LA K VE "zip"=Vo Vp)
 {jL:Tok} (g1:LA K VE "MOST_SIGNS"=Vo (Vo (.int (40) jL)))
 {qO:Tok} (g2:LA K VE "MOST_LETTERS"=Vo (Vo (.int (12) qO)))
 {zO:Tok} (g3:LA K VE "PERCENT"=Vo (Vo (.int (37) zO)))
 {nQ:Tok} (g4:LA K VE "MODULUS"=Vo (Vo (.int (2147483647) nQ)))
 {zP:Tok} (g5:LA K VE "TOP_LEVEL"=Vo (Vo (.int (6) zP)))
 : ∃ fd:U0,(∀ (s:VH) (v:Va),BindsTo s fd ⟨[v],[]⟩ [("_law_script",v)])/\∀ base:Vq,K.In base->base.Ns VE mg->Qy l.prog w K mg base CX0 17 fa fd ["_law_script"] (Qob K):=by
 have e:=pq.symm.trans (Dz X G a78);cases e;have k1:=F1.kp;have b1:=F1.binds (ps:=["self","key"]) λ_ _ _ _ _ _=>Zb λ_ _=>rfl
 have k2:=F2.kp;have b2:=F2.binds (ps:=["self","column"]) λ_ _ _ _ _ _=>Zb λ_ _=>rfl
 have k3:=F3.kp;have b3:=F3.binds (ps:=["self","column"]) λ_ _ _ _ _ _=>Zb λ_ _=>rfl
 have k4:=F4.kp;have b4:=F4.binds (ps:=["self","number"]) λ_ _ _ _ _ _=>Zb λ_ _=>rfl
 have zQ:=F10.kp;have zR:=F10.binds (ps:=["self","level","entries"]) λ_ _ _ _ _ _=>Zva λ_ _ _=>rfl
 have qu:=F11.kp;have qv:=F11.binds (ps:=["self"]) λ_ _ _ _ _ _=>Zv λ_=>rfl
 have qw:=F12.kp;have qx:=F12.binds (ps:=["self"]) λ_ _ _ _ _ _=>Zv λ_=>rfl
 have vd:=F13.kp;have ve:=F13.binds (ps:=["self"]) λ_ _ _ _ _ _=>Zv λ_=>rfl
 have zS:=F14.kp;have zT:=F14.binds (ps:=["self","pages"]) λ_ _ _ _ _ _=>Zb λ_ _=>rfl
 have zU:=F15.kp;have zV:=F15.binds (ps:=["self"]) λ_ _ _ _ _ _=>Zv λ_=>rfl
 have k16:=F16.kp;have zW:=F16.binds (ps:=["self"]) λ_ _ _ _ _ _=>Zv λ_=>rfl
 have k33:=F33.kp;have zX:=F33.binds (ps:=["self","rows"]) λ_ _ _ _ _ _=>Zb λ_ _=>rfl
 have k34:=F34.kp;have zY:=F34.binds (ps:=["self","level","heads"]) λ_ _ _ _ _ _=>Zva λ_ _ _=>rfl
 have zZ:=F35.kp;have z0:=F35.binds (ps:=["self","page"]) λ_ _ _ _ _ _=>Zb λ_ _=>rfl
 have k44:=F44.kp;have b44:=F44.binds (ps:=["self","number"]) λ_ _ _ _ _ _=>Zb λ_ _=>rfl
 have k52:=F52.kp;have b52:=F52.binds (ps:=["self","number"]) λ_ _ _ _ _ _=>Zb λ_ _=>rfl
 have k58:=F58.kp;have b58:=F58.binds (ps:=["self","number"]) λ_ _ _ _ _ _=>Zb λ_ _=>rfl
 have vf:=F65.kp;have vg:=F65.binds (ps:=["_law_found","_law_due"]) λ_ _ _ _ _ _=>Zb λ_ _=>rfl
 have vh:=F69.kp;have vi:=F69.binds (ps:=["self","pages"]) λ_ _ _ _ _ _=>Zb λ_ _=>rfl
 have vj:=F70.kp;have vk:=F70.binds (ps:=["pages","number","low","high"]) λ_ _ _ _ _ _=>Xqb λ_ _ _ _=>rfl
 have vm:=F72.kp;have vn:=F72.binds (ps:=["pages","number","row"]) λ_ _ _ _ _ _=>Zva λ_ _ _=>rfl
 have Z:Zs mg:=⟨DA X G z1,DA X G z2,DA X G z3,DA X G z4,DA X G z5,DA X G z6,DA X G z7,DA X G z8,DA X G z9,DA X G z10,DA X G z11,DA X G z12,DA X G z13,DA X G z14,DA X G z15,⟨_,Dz X G g1⟩,⟨_,Dz X G g2⟩,⟨_,Dz X G g3⟩,⟨_,Dz X G g4⟩,⟨_,Dz X G g5⟩⟩;have X0:W.XCl K C0 CT:=W.XCl.of ⟨kz,uZ,qk,kA,kB,fY,kC,fZ,kD,kE,kF,kG,kH,kI,q0,r0⟩ t9 u0 ta tb;have X1:W.XCl K C1 CT:=W.XCl.of ⟨kJ,u7,ql,kK,kL,gc,kM,gd,kO,kP,kQ,kR,kT,kU,q1,r1⟩ t9 u1 ta tb;have X2:W.XCl K C2 CT:=W.XCl.of ⟨kW,vb,qm,kX,kY,ge,kZ,gf,k6,k7,k8,k9,lu,lw,q2,r2⟩ t9 u2 ta tb;have X3:W.XCl K C3 CT:=W.XCl.of ⟨lE,vc,qo,lF,lG,gg,lH,gh,lI,lJ,lK,lN,lO,lP,q3,r3⟩ t9 u3 ta tb;have X4:W.XCl K C4 CT:=W.XCl.of ⟨ii,qq,lQ,ij,ik,dI,il,dJ,im,io,ip,iq,ir,iu,q4,r4⟩ t9 u4 ta tb;have X5:W.XCl K C5 CT:=W.XCl.of ⟨ix,qr,lS,iy,iz,dL,iA,dM,iB,iC,iD,iE,iF,iG,q5,r5⟩ t9 u5 ta tb;have X6:W.XCl K C6 CT:=W.XCl.of ⟨iH,qt,lT,iI,iJ,dO,iK,dP,iL,iM,iN,iO,iP,iQ,q6,r6⟩ t9 u6 ta tb;have T:Tx K mg CT (λi=>[C0,C1,C2,C3,C4,C5,C6].getD i 0) (λi=>[O0,O1,O2,O3].getD i 0):=⟨Dz X G oa0,
  Dz X G oa1,
  Dz X G oa2,
  Dz X G oa3,
  λi hi=>match i,hi with | 0,_=>ObC.of of0 ta tb | 1,_=>ObC.of of1 ta tb | 2,_=>ObC.of of2 ta tb | 3,_=>ObC.of of3 ta tb | m+4,h=>absurd h #[0],
  W.Jkd oo,
  ⟨Dz X G t1,⟨⟨uP,yq,yN,uQ,uO,uR,ku,uS,kx,uT,uU,uV,uW,uX,uY,t2,t3,t4⟩,t5⟩,t6,t7,t8⟩,
  Dz X G p0,
  Dz X G p1,
  Dz X G p2,
  Dz X G p3,
  Dz X G p4,
  ⟨⟨ii,qq,lQ,ij,true,ik,dI,il,dJ,im,io,ip,iq,ir,iu,q4,r4,i4⟩,t9⟩,
  Dz X G p5,
  ⟨⟨ix,qr,lS,iy,true,iz,dL,iA,dM,iB,iC,iD,iE,iF,iG,q5,r5,i5⟩,t9⟩,
  Dz X G p6,
  ⟨⟨iH,qt,lT,iI,true,iJ,dO,iK,dP,iL,iM,iN,iO,iP,iQ,q6,r6,i6⟩,t9⟩,
  λi hi=>match i,hi with | 0,_=>X0 | 1,_=>X1 | 2,_=>X2 | 3,_=>X3 | 4,_=>X4 | 5,_=>X5 | 6,_=>X6 | m+7,h=>absurd h #[0],
  λi hi=>match i,hi with | 0,_=>λf hf=>W.Jz u0 hf | 1,_=>λf hf=>W.Jz u1 hf | 2,_=>λf hf=>W.Jz u2 hf | 3,_=>λf hf=>W.Jz u3 hf | 4,_=>λf hf=>W.Jz u4 hf | 5,_=>λf hf=>W.Jz u5 hf | 6,_=>λf hf=>W.Jz u6 hf | m+7,h=>absurd h #[0],
  W.QJd tt,
  W.Jhd tu⟩
 have FL:=F78;obtain⟨_,_,kV,dc,pm,an,ah,ct,_,rfl,_,_⟩:=FL.ex;refine⟨Oo "law" "law" (Ym Zxb) (Z8 Zxb) (Qg Zxb) .none kV dc pm an ah ct,λs v=>.of_eq rfl,λbase _ _=>?_⟩
 have c0:=@cq0 l.prog w K mg base h X G;have c1:=@cq1 l.prog w K mg base h X G;have m1:=@mq1 l.prog w K mg base;have oR:MkX l.prog w K mg base 1 "NotRising" C1 CT ["key"]:=⟨_,_,_,J0a Z T F1,b1,X1,a1,j1,o1,Dz X G p1⟩;have JE:MkX l.prog w K mg base 1 "NoColumn" C2 CT ["column"]:=⟨_,_,_,Yya Z T F2,b2,X2,a2,j2,o2,Dz X G p2⟩;have Xx:MkX l.prog w K mg base 1 "ColumnThere" C3 CT ["column"]:=⟨_,_,_,ZKa Z T F3,b3,X3,a3,j3,o3,Dz X G p3⟩;have oB:MkX l.prog w K mg base 1 "NoPage" C0 CT ["number"]:=⟨_,_,_,X7a Z T F4,b4,X0,a4,j4,o0,Dz X G p0⟩;have QNc:=c0 (Y3b Z T  F5) (F5.binds λ_ _ _ _ _ _=>Zv λ_=>rfl) F5.kp a5
 have JOc:=c0 (Qxc Z T  F6) (F6.binds λ_ _ _ _ _ _=>Zv λ_=>rfl) F6.kp a6
 have JPc:=c0 (Qzc Z T  F7) (F7.binds λ_ _ _ _ _ _=>Zv λ_=>rfl) F7.kp a7
 have vo:=c0 (Qoc Z T  F8) (F8.binds λ_ _ _ _ _ _=>Zv λ_=>rfl) F8.kp a8
 have Q1b:=c0 (Qab Z T  F9) (F9.binds λ_ _ _ _ _ _=>Zv λ_=>rfl) F9.kp a9
 have aW:BaI l.prog w K mg base 1 "Page" (Jq K (λi=>[O0,O1,O2,O3].getD i 0)):=⟨O0,_,_,_,Dz X G oa0,ClI.of e10,zQ,Jpb Z T  F10,zR⟩
 have qZ:=m1 (Qka Z T  F11) qv a11_0 j11 qu;have oE:=m1 (Qka Z T  F11) qv a11_1 j11 qu;have oF:=m1 (Qka Z T  F11) qv a11_2 j11 qu;have rA:=m1 (Xr Z T  F12) qx a12_0 j12 qw;have oJ:=m1 (Xr Z T  F12) qx a12_1 j12 qw;have oK:=m1 (Xr Z T  F12) qx a12_2 j12 qw;have rF:=m1 (ZVa Z T  F13) ve a13_0 j13 vd;have rG:=m1 (ZVa Z T  F13) ve a13_1 j13 vd;have ZG:=m1 (Qdb Z T  F14) zT a14_1 j14 zS;have oS:=m1 (QNb Z T  F15) zV a15_2 j15 zU;have pL:MkV l.prog w K mg base 1 "Pages" O3 (JN l.prog w (λi=>[O0,O1,O2,O3].getD i 0)):=⟨_,_,_,⟨om3,a16_3,j16,ok3⟩,QJb Z T  F16,zW,Dz X G oa3⟩
 have Xrb:=c0 (Jub Z T  F17) (F17.binds λ_ _ _ _ _ _=>Zva λ_ _ _=>rfl) F17.kp a17
 have QOc:=c0 (Xfb Z T  F18) (F18.binds λ_ _ _ _ _ _=>Yyd rfl) F18.kp a18
 have qy:=c0 (QVb Z T  F19) (F19.binds λ_ _ _ _ _ _=>Zb λ_ _=>rfl) F19.kp a19
 have QPc:=c0 (Xib Z T  F20) (F20.binds λ_ _ _ _ _ _=>Zb λ_ _=>rfl) F20.kp a20
 have Xsb:=c0 (JBb Z T  F21) (F21.binds λ_ _ _ _ _ _=>Zb λ_ _=>rfl) F21.kp a21
 have JG:=c0 (Y5b Z T  F22) (F22.binds λ_ _ _ _ _ _=>Zb λ_ _=>rfl) F22.kp a22
 have Xtb:=c0 (JDb Z T  F23) (F23.binds λ_ _ _ _ _ _=>Zv λ_=>rfl) F23.kp a23
 have vp:=c0 (QRb Z T  F24) (F24.binds λ_ _ _ _ _ _=>Zv λ_=>rfl) F24.kp a24
 have Q2b:=c0 (Qmb Z T  F25) (F25.binds λ_ _ _ _ _ _=>Zv λ_=>rfl) F25.kp a25
 have Xub:=c0 (JGb Z T  F26) (F26.binds λ_ _ _ _ _ _=>Zb λ_ _=>rfl) F26.kp a26
 have Qqb:=c0 (Y8a Z T  F27) (F27.binds λ_ _ _ _ _ _=>Zb λ_ _=>rfl) F27.kp a27
 have Xvb:=c0 (JOb Z T  F28) (F28.binds λ_ _ _ _ _ _=>Zv λ_=>rfl) F28.kp a28
 have vq:=c0 (JAb Z T QNc F29) (F29.binds λ_ _ _ _ _ _=>Zv λ_=>rfl) F29.kp a29
 have vt:=c0 (Qyc Z T JOc F30) (F30.binds λ_ _ _ _ _ _=>Zb λ_ _=>rfl) F30.kp a30
 have XM:=c0 (JCc Z T vo F31) (F31.binds λ_ _ _ _ _ _=>Zb λ_ _=>rfl) F31.kp a31
 have Zdd:=c0 (XDc Z T Q1b F32) (F32.binds λ_ _ _ _ _ _=>Zv λ_=>rfl) F32.kp a32
 have oy:MkV l.prog w K mg base 2 "Leaf" O1 (Yv K (λi=>[O0,O1,O2,O3].getD i 0)):=⟨_,_,_,⟨om1,a33_1,j33,ok1⟩,Jqb Z T aW F33,zX,Dz X G oa1⟩
 have ow:MkV l.prog w K mg base 2 "Twig" O2 (Yw K (λi=>[O0,O1,O2,O3].getD i 0)):=⟨_,_,_,⟨om2,a34_2,j34,ok2⟩,Jrb Z T aW F34,zY,Dz X G oa2⟩
 have oM:=m1 (QLb Z T qZ oE oF F35) z0 a35_3 j35 zZ;have vw:=c0 (JEb Z T Xtb JG F36) (F36.binds λ_ _ _ _ _ _=>Zb λ_ _=>rfl) F36.kp a36
 have Xwb:=c0 (JFb Z T JG F37) (F37.binds λ_ _ _ _ _ _=>Zv λ_=>rfl) F37.kp a37
 have JSb:=c0 (QTb Z T JG F38) (F38.binds λ_ _ _ _ _ _=>Zb λ_ _=>rfl) F38.kp a38
 have X1c:=c0 (JGc Z T vq vt F39) (F39.binds λ_ _ _ _ _ _=>Zv λ_=>rfl) F39.kp a39
 have QQc:=c0 (Y4b Z T vq vt F40) (F40.binds λ_ _ _ _ _ _=>Zv λ_=>rfl) F40.kp a40
 have QRc:=c0 (YWb Z T XM F41) (F41.binds λ_ _ _ _ _ _=>Zb λ_ _=>rfl) F41.kp a41
 have JH:=c0 (J8a Z T XM F42) (F42.binds λ_ _ _ _ _ _=>Zb λ_ _=>rfl) F42.kp a42
 have QSc:=c0 (YTb Z T Zdd F43) (F43.binds λ_ _ _ _ _ _=>Zv λ_=>rfl) F43.kp a43
 have Zg:=m1 (Yza Z T oB F44) b44 a44_3 j44 k44;have QTc:=c0 (Y7b Z T vw Xwb vp F45) (F45.binds λ_ _ _ _ _ _=>Zv λ_=>rfl) F45.kp a45
 have JTb:=c0 (QSb Z T vw vp F46) (F46.binds λ_ _ _ _ _ _=>Zv λ_=>rfl) F46.kp a46
 have qz:=c0 (Y2b Z T XM vo F47) (F47.binds λ_ _ _ _ _ _=>Zv λ_=>rfl) F47.kp a47
 have JUb:=c0 (QOb Z T QRc F48) (F48.binds λ_ _ _ _ _ _=>Zb λ_ _=>rfl) F48.kp a48
 have Xxb:=c0 (Jyb Z T XM JH F49) (F49.binds λ_ _ _ _ _ _=>Zva λ_ _ _=>rfl) F49.kp a49
 have Qrb:=c0 (Y7a Z T JH XM F50) (F50.binds λ_ _ _ _ _ _=>Xqb λ_ _ _ _=>rfl) F50.kp a50
 have vx:=c0 (Qlc Z T ow oy F51) (F51.binds λ_ _ _ _ _ _=>Zb λ_ _=>rfl) F51.kp a51
 have ZS:=m1 (QMb Z T Zg F52) b52 a52_3 j52 k52;have Yzd:=c0 (JBd Z T QSc F53) (F53.binds λ_ _ _ _ _ _=>Zb λ_ _=>rfl) F53.kp a53
 have JQc:=c0 (QCc Z T X1c F54) (F54.binds λ_ _ _ _ _ _=>Zv λ_=>rfl) F54.kp a54
 have QUc:=c0 (Xgb Z T qy QQc JE F55) (F55.binds λ_ _ _ _ _ _=>Zva λ_ _ _=>rfl) F55.kp a55
 have Xyb:=c0 (JHb Z T QTc JG Xub F56) (F56.binds λ_ _ _ _ _ _=>Zv λ_=>rfl) F56.kp a56
 have QVc:=c0 (Xlb Z T JTb JG F57) (F57.binds λ_ _ _ _ _ _=>Zb λ_ _=>rfl) F57.kp a57
 have QL:=m1 (QKb Z T vx Zg F58) b58 a58_3 j58 k58;have qA:=c0 (YVb Z T Yzd vx rA oJ oK oM F59) (F59.binds λ_ _ _ _ _ _=>Zva λ_ _ _=>rfl) F59.kp a59
 have JVb:=c0 (QWb Z T qy JPc qz Xx F60) (F60.binds λ_ _ _ _ _ _=>Zb λ_ _=>rfl) F60.kp a60
 have vy:=c0 (Xhb Z T qz F61) (F61.binds λ_ _ _ _ _ _=>Zv λ_=>rfl) F61.kp a61
 have vA:=c0 (Qrc Z T qA F62) (F62.binds λ_ _ _ _ _ _=>Zva λ_ _ _=>rfl) F62.kp a62
 have JWb:=c0 (QXb Z T vy F63) (F63.binds λ_ _ _ _ _ _=>Zva λ_ _ _=>rfl) F63.kp a63
 have vB:=c1 (XHc Z T vA qA XM oR F64) (F64.binds λ_ _ _ _ _ _=>Zb λ_ _=>rfl) F64.kp a64
 have qB:∀ n,Cal l.prog w K mg base (1+n) "_law_same" ["_law_found","_law_due"] (ZU K n):=λn=>by
  induction n with
  | zero=>exact c0 ZIa vg vf a65
  | succ n ih=>exact c0 (JLb Z T  ih F65) vg vf a65
 have Xzb:=c0 (JMb Z T qB F66) (F66.binds λ_ _ _ _ _ _=>Zb λ_ _=>rfl) F66.kp a66
 have Qtb:=c0 (Y9a Z T qB F67) (F67.binds λ_ _ _ _ _ _=>Zb λ_ _=>rfl) F67.kp a67
 have JXb:=c0 (QYb Z T Q2b Xzb qB Qqb F68) (F68.binds λ_ _ _ _ _ _=>Zva λ_ _ _=>rfl) F68.kp a68
 have Xt:∀ n,MeV l.prog w K mg base (5+n) O2 "spread" (Js l.prog w (λi=>[C0,C1,C2,C3,C4,C5,C6].getD i 0) (λi=>[O0,O1,O2,O3].getD i 0) n):=λn=>by
  induction n with
  | zero=>exact⟨_,_,_,⟨a69_2,j69,vh⟩,ZIa,vi⟩
  | succ n ih=>exact⟨_,_,_,⟨a69_2,j69,vh⟩,Qeb Z T rF rG oS ZG QL ih F69,vi⟩
 have XAb:∀ n,Cal l.prog w K mg base (6+n) "looked_at" ["pages","number","low","high"] (Yy l.prog w (λi=>[C0,C1,C2,C3,C4,C5,C6].getD i 0) (λi=>[O0,O1,O2,O3].getD i 0) n):=λn=>by
  induction n with
  | zero=>exact c0 ZIa vk vj a70
  | succ n ih=>exact c0 (Jzb Z T Qrb QL ih F70) vk vj a70
 have JRc:=c0 (Qsc Z T Xt ZG QL F71) (F71.binds λ_ _ _ _ _ _=>Zb λ_ _=>rfl) F71.kp a71
 have JYb:∀ n,Cal l.prog w K mg base (6+n) "heads_with" ["pages","number","row"] (JR l.prog w (λi=>[C0,C1,C2,C3,C4,C5,C6].getD i 0) (λi=>[O0,O1,O2,O3].getD i 0) n):=λn=>by
  induction n with
  | zero=>exact c0 ZIa vn vm a72
  | succ n ih=>exact c0 (QPb Z T JUb qA Xrb QL ih F72) vn vm a72
 have JSc:=c0 (Qwc Z T XAb JH Xxb QL ZS F73) (F73.binds λ_ _ _ _ _ _=>Xqb λ_ _ _ _=>rfl) F73.kp a73
 have YAd:=c1 (JEd Z T vA vB JYb ZS F74) (F74.binds λ_ _ _ _ _ _=>Xqb λ_ _ _ _=>rfl) F74.kp a74
 have Q3b:=c0 (Qlb Z T qy vB JWb JRc JE F75) (F75.binds λ_ _ _ _ _ _=>Zva λ_ _ _=>rfl) F75.kp a75
 have JTc:=c0 (QHc Z T JQc qz QUc YAd vy F76) (F76.binds λ_ _ _ _ _ _=>Xqb λ_ _ _ _=>rfl) F76.kp a76
 have cm:Jud l.prog w K mg base 16 "rows_in" ["pages","table","low","high"] [.none,.none] (YX l.prog w (λi=>[C0,C1,C2,C3,C4,C5,C6].getD i 0) (λi=>[O0,O1,O2,O3].getD i 0)):=⟨_,_,QFc Z T JSc QPc F77,F77.binds (gs:=[.none,.none]) λ_ _ _ _ _ _ _ us hl=>(by
  match us,(show us.length=2 by simpa using hl) with
  | [_,_],_=>exact⟨_,rfl,rfl⟩),F77.kp,Dz X G a77⟩
 exact JKd Z T JSb Xyb QOc JXb Xsb cm QVc JTc Qtb JG Q3b JVb Xvb pL F78
end My
namespace PySem.W.Fast
def tw15174498863323507812:=0
def tw11271757390447174614:=0
def tw5403733419027243998:=0
def tw5063721271971054706:=0
def tw14738887998884014263:=0
def tw6513047212711935128:=0
def tw4300830904712321032:=0
def tw11850643427581267690:=0
def tw7115611267617650761:=0
def tw10837485487326206821:=0
def tw7166480943294258141:=0
def tw11282215725329558768:=0
def tw18041265164013418884:=0
def tw1171109225324650238:=0
def tw5422721952865823867:=0
def tw17857746254665005540:=0
def tw7531387169864574888:=0
def tw16149836184963040103:=0
def tw17301076544940914531:=0
def tw10559172013171881385:=0
def tw14251866997980349236:=0
def tw1906227627335057721:=0
def tw6764716498043494335:=0
def tw6666618847559506253:=0
def tw3452547740091098637:=0
def tw14482457818870946632:=0
def tw17370472749930562599:=0
def tw1268758955726628271:=0
def tw12115908220817095844:=0
def tw13072001273853752988:=0
def tw10093224217012910927:=0
def tw12592869581858449803:=0
def tw6955728847054020442:=0
def tw10897147914840816531:=0
def tw3431599239226527463:=0
def tw13835635483008101454:=0
def tw7164927788019191940:=0
def tw8026371902431046337:=0
def tw826875351592716798:=0
def tw5878136076917337405:=0
def tw10066905044583399948:=0
def tw16877573379084016867:=0
def tw2982545191769028602:=0
def tw16463703776132248350:=0
def tw12427202331731645399:=0
def tw11691561981754798860:=0
def tw4626185457424157606:=0
def tw8338383326339440284:=0
def tw5851954462613936946:=0
def tw14329562480198365743:=0
def tw844170752853507833:=0
def tw13762533104853786576:=0
def tw3519987600121250770:=0
def tw11005308062361600716:=0
def tw3588176619692729689:=0
def tw3881798044736084273:=0
def tw5084193906584923436:=0
def tw1512797357410709879:=0
def tw7591486536268969110:=0
def tw3667621715507349074:=0
def tw18258346544121783437:=0
def tw667855904401018051:=0
def tw2071491539322482659:=0
def tw741370674772214917:=0
def tw758240084070736574:=0
def tw8569535363570091337:=0
def tw13399357507555603083:=0
def tw10109713272897143963:=0
def tw12055880563510048971:=0
def tw2653341296943031184:=0
def tw1410900912678836066:=0
def tw4973863637118581152:=0
def tw11194235885412500437:=0
def tw2402555946821804594:=0
def tw15294130603550688148:=0
def tw15874576921376281480:=0
def tw5230633148703584091:=0
def tw5411584698428840658:=0
def tw7416707601374129318:=0
def tw11087322283384536593:=0
def tw15463863522846344529:=0
def tw5965171730120705109:=0
def tw17855405170519197294:=0
def tw1054808804092422090:=0
def tw16496963856266823973:=0
def tw10491152644113461243:=0
def tw12881933182339947358:=0
def tw10776320567630137759:=0
def tw12392308125678550750:=0
def tw7216191550336878010:=0
def tw13651077914753659641:=0
def tw8616685215248213829:=0
def tw11892395553799267003:=0
def tw4528279656217942051:=0
def tw15224265844661464703:=0
def tw13210298248947198738:=0
def tw5674485937239027453:=0
def tw17809310978668549349:=0
def tw12538219667631973332:=0
def tw17188184329490008244:=0
def tw15705854204553008121:=0
def tw3279914632313587263:=0
def tw5791217920887148865:=0
def tw17924482834267075114:=0
def tw5315487039763483839:=0
def tw1144028806353306853:=0
def tw9110725224472224509:=0
def tw804700203750660881:=0
def tw10350128744747247489:=0
def tw3095127963612981767:=0
def tw7176938092003828980:=0
def tw5714859574958567212:=0
def tw5495008777162151690:=0
def tw8320278182506626196:=0
def tw7796826782627243970:=0
def tw17723863742309446314:=0
def tw14605956840433839551:=0
def tw5435840749285677841:=0
def tw16623769645826071978:=0
def tw3637663388917762558:=0
def tw14327286514335481505:=0
def tw13617561262016005775:=0
def tw7062939921381539363:=0
def tw10774162650911466319:=0
def tw10850294238491870885:=0
def tw9553341718011347013:=0
def tw7395296160101519408:=0
def tw5234350733677871364:=0
def tw4259876412015226940:=0
def tw14530187870637921100:=0
def tw11395504953093705337:=0
def tw4115446252105954786:=0
def tw1309007950853995723:=0
def tw17316079415245655033:=0
def tw6708700046639980367:=0
def tw12365407748654687449:=0
def tw2826480274711619919:=0
def tw11089169904507450072:=0
def tw22323242237792007:=0
def tw4180811804389272388:=0
def tw12255214305538013567:=0
def tw17784696739021375400:=0
def tw8250400183793267688:=0
def tw18260704892754578938:=0
def tw6417041695315416572:=0
def tw13060012296015678564:=0
def tw1975824418940528505:=0
def tw3496194548947966633:=0
def tw15834470462293126224:=0
def tw570041492193898186:=0
def tw10159920070092345321:=0
def tw1918599254447906803:=0
def tw16638220665177307439:=0
def tw10863507568705101395:=0
def tw3010730847499372409:=0
def tw12888900878409279168:=0
def tw14631913143676645531:=0
def tw4401258161135148238:=0
def tw14664993642394143876:=0
def tw854301786632986770:=0
def tw50577836289107392:=0
def tw18317574527584889320:=0
def tw201653949162006075:=0
def tw2799139966790659873:=0
def tw10200626266087158769:=0
def tw11399712161294092528:=0
def tw9931732896959221917:=0
def tw1776495364954125662:=0
def tw6808721841883032708:=0
def tw11302271159375187789:=0
def tw14936058534234979929:=0
def tw5157361523031519486:=0
def tw5491048478646373545:=0
def tw11327079287436675338:=0
def tw3270329348584257496:=0
def tw33856273611295153:=0
def tw50496014684957992:=0
def tw8947183745217085430:=0
def tw7814147598817281816:=0
def tw1844206822661768416:=0
def tw16281678547414627704:=0
def tw12106764791059516083:=0
def tw11639762600960418636:=0
def tw12075488757664863294:=0
def tw7393824876385416307:=0
def tw12759188620107301265:=0
def tw11585170141071791353:=0
def tw4945973594581942761:=0
def tw18443128299705660825:=0
def tw511971278425894899:=0
def tw4530309633494835676:=0
def tw12451353985933906216:=0
def tw14841496293511076097:=0
def tw17564770150076642709:=0
def tw99091931390585087:=0
def tw13553690439886102300:=0
def tw7444235666763038290:=0
def tw3845832391932844592:=0
def tw10564079144251128375:=0
def tw17842423908757779895:=0
def tw12741865557459787587:=0
def tw1370354502458529174:=0
def tw13709774431252210276:=0
def tw18145257319165779200:=0
def tw4447737311525384512:=0
def tw15295631662102587719:=0
def tw2955878048412810715:=0
def tw10271000135288165958:=0
def tw9775129062379252398:=0
def tw5422376312574867418:=0
def tw14157391684316690582:=0
def tw13024181132845807899:=0
def tw3476793735424033365:=0
def tw6670892677174820115:=0
def tw3773776033566774199:=0
def tw4975954237942250113:=0
def tw9397738357109529349:=0
def tw6448070408196255150:=0
def tw8661921427309078631:=0
def tw1522578891607127208:=0
def tw6256659575125183492:=0
def tw8856721439606682675:=0
def tw4435970824079980536:=0
def tw1090448968520916217:=0
def tw5628882932706666064:=0
def tw3483481519549765947:=0
def tw12025963341924425087:=0
def tw3481469651283816975:=0
def tw9828688119805148693:=0
def tw11003071140713944422:=0
def tw15318621482016367600:=0
def tw2874471663589859415:=0
def tw3072963192503130711:=0
def tw10925184791621866135:=0
def tw6185121094409431265:=0
def tw10986989394650398005:=0
def tw9207066034656753732:=0
def tw8904092063934730364:=0
def tw16408517082484556619:=0
def tw5401878508936821332:=0
def tw14023163730355541958:=0
def tw3567424299678680273:=0
def tw9698488105252219360:=0
def tw14155360626474578757:=0
def tw14675920690668067568:=0
def tw1130571292338692819:=0
def tw9331630829892262119:=0
def tw15925315223806139743:=0
def tw6962316485310667137:=0
def tw10021042324114997690:=0
def tw217279971550325468:=0
def tw17082592929648170055:=0
def tw12503063027745984966:=0
def tw824667976827334221:=0
def tw9013435325099752098:=0
def tw1278275036302060387:=0
def tw1181058297230718757:=0
def tw18238870517131635301:=0
def tw10496340502717141278:=0
def tw15658967120637903403:=0
def tw6038397292790975431:=0
def tw13886219375274710263:=0
def tw17925243071071134270:=0
def tw5931383843147483611:=0
def tw12561907216734319483:=0
def tw7387458078186599910:=0
def tw318164477753808494:=0
def tw7936492078307574910:=0
def tw10541930617605560086:=0
def tw970046879856557057:=0
def tw6638003333558632835:=0
def tw14509151082631305388:=0
def tw13864955186477446180:=0
def tw13190312218605911834:=0
def tw17361672466170647607:=0
def tw7771074564802014335:=0
def tw370503218589176153:=0
def tw12569562506321159557:=0
def tw5633335147806607857:=0
def tw12113608010693319004:=0
def tw1586489609592084732:=0
def tw16734318576437377841:=0
def tw13024711420668493915:=0
def tw6129323930554505809:=0
def tw14755703873217354816:=0
def tw15599057285463387838:=0
def tw17449644128750272804:=0
def tw7863948496471240269:=0
def tw15358450111550904552:=0
def tw16189107110061732419:=0
def tw15405922994102518717:=0
def tw16184385084200309782:=0
def tw2657558600896292695:=0
def tw15026516135158949340:=0
def tw16482714761707274501:=0
def tw11819272881252419782:=0
def tw13367133069124975929:=0
def tw2393189663399153684:=0
def tw12731427508208471152:=0
def tw18253138091926329360:=0
def tw10397089756434585183:=0
def tw7304472175463047211:=0
def tw10512956301473804820:=0
def tw14800268897198754203:=0
def tw8695067288281141481:=0
def tw7156171986489616851:=0
def tw15778870890568243821:=0
def tw542102093519359860:=0
def tw9790813994843360987:=0
def tw3120412829996458046:=0
def tw9690969626911522557:=0
def tw9689724103107002975:=0
def tw5392073687631492965:=0
def tw16947561925365594938:=0
def tw7148538576477467016:=0
def tw5004158368999273113:=0
def tw13564684345304991137:=0
def tw17023242442739198277:=0
def tw69019247254569189:=0
def tw2016238080073258686:=0
def tw18180494739651312249:=0
def tw3368676353109881314:=0
def tw17341247988623899386:=0
def tw13039932856073707440:=0
def tw1605554783228860330:=0
def tw4835775534838314954:=0
def tw1948003086812898552:=0
def tw6326848687030775488:=0
def tw10029869749111894769:=0
def tw5243914028709258471:=0
def tw13955390986446312495:=0
def tw12883610240704664217:=0
def tw15296768988584098174:=0
def tw12519421026895641544:=0
def tw8858194768189325654:=0
def tw15444207622195958383:=0
def tw15483958173567985621:=0
def tw15423709288693681583:=0
def tw3844254837711209967:=0
def tw2992303506752559618:=0
def tw18084989788012841226:=0
def tw12852059915178853345:=0
def tw7203400519143743668:=0
def tw6240064336760553923:=0
def tw10795934618483142519:=0
def tw4395200851476480869:=0
def tw68155695435066551:=0
def tw5940475819858075563:=0
def tw12360460545474784459:=0
def tw13219373584180422094:=0
def tw5256698276716993762:=0
def tw3967107307306759277:=0
def tw9803883406309652811:=0
def tw14833903450855335966:=0
def tw12094670458641928611:=0
def tw17312813241808369950:=0
def tw14558780125236297616:=0
def tw2603347504402750841:=0
def tw3334962248039440387:=0
def tw4193486341606127308:=0
def tw9260002015559654705:=0
def tw7270796862800522294:=0
def tw2856255633484093375:=0
def tw16061017956903726299:=0
def tw7664797225666995557:=0
def tw10637977581657486959:=0
def tw7709825190489777752:=0
def tw14808567503905645137:=0
def tw4675446744236086899:=0
def tw9663056526782231858:=0
def tw7016252345867202599:=0
def tw4157078766968094755:=0
def tw14869048225794996164:=0
def tw8858300471778085821:=0
def tw4648402890186315277:=0
def tw11590021904947492324:=0
def tw1258627194179442715:=0
def tw17576659647493663026:=0
def tw14082987568523637699:=0
def tw15006056899725133718:=0
def tw7688554396984660861:=0
def tw8440881146528991717:=0
def tw5719656523115028729:=0
def tw6816211607101972634:=0
def tw16792863942286864213:=0
def tw14564259194291489225:=0
def tw10987469343038176209:=0
def tw10782152120577288084:=0
def tw17678930982938858273:=0
def tw675738035575929711:=0
def tw16741104930683780049:=0
def tw8518693826138665251:=0
def tw14517249532407462462:=0
def tw1004613933199874822:=0
def tw5225976504916667722:=0
def tw5759343294245637384:=0
def tw11992331144566663318:=0
def tw4486251239392782412:=0
def tw9461413501726242261:=0
def tw1822040321703904722:=0
def tw10975807452185910593:=0
def tw6883946897414372660:=0
def tw2030490926244247903:=0
def tw4275639235454301971:=0
def tw12946872469708604710:=0
def tw5532117881241101223:=0
def tw5765281893086657829:=0
def tw13058978627860342913:=0
def tw16319899297646473948:=0
def tw12245666158107693945:=0
def tw14516621647604587536:=0
def tw1756395890906994105:=0
def tw2159411156050552187:=0
def tw10898918612399133344:=0
def tw7525274169999990203:=0
def tw8062124379392583216:=0
def tw17807690915755617835:=0
def tw14079496259637476018:=0
def tw12033288119407956519:=0
def tw5132718516396296376:=0
def tw11167780533029560062:=0
def tw15910388412283056662:=0
def tw2569248734430900934:=0
def tw1801343401902242612:=0
def tw18108735915744271812:=0
def tw8805987877407864838:=0
def tw7946521730198857968:=0
def tw17513664898061584373:=0
def tw2650934765884028844:=0
def tw14717880876136376172:=0
def tw18048215683729786601:=0
def tw292575186971254817:=0
def tw4943212620910299670:=0
def tw2330583153586573330:=0
def tw7778489426681571764:=0
def tw4709978843690900639:=0
def tw17095063357689288908:=0
def tw16706398893216836112:=0
def tw16572761323416377268:=0
def tw2271155379092629123:=0
def tw16419478028888533746:=0
def tw10112976899044158235:=0
def tw15328678294428956235:=0
def tw3151414803413645524:=0
def tw17106506401668549377:=0
def tw8723644371065919803:=0
def tw2956439385779847543:=0
def tw12840409858322268619:=0
def tw17143368505910236623:=0
def tw12149252887471868406:=0
end PySem.W.Fast
open PySem PySem.W PyProof.Rows
local macro_rules | `(tactic| walk_at "fn") => `(tactic| exact L2.ZXd (by k_is) (by k_is) (by k_is))
set_option maxRecDepth 100000 in
set_option maxHeartbeats 0 in
theorem PySem.Challenge.cw_twigtable_k26_columns_holds : PySem.Challenge.rw_twigtable_k26_columns.Holds := by
 w_on;o_law;k_head;(case hw=>w_witness2)
 k_fill
 refine L2.Yyc (l:=PySem.Challenge.rw_twigtable_k26_columns) (n:=63) (k:=17) (x:="_law_script") (CX:=λ_=>L2.CX0) (sp:=My.Qob) rfl #[1] rfl ⟨rfl,by decide,by decide⟩ (λw h Y=>W.kIn_of Y) ?F ?S ?C
 case F =>
  intro w mg fa h KX G jx;refine' My.JMd KX G jx ?ta ?tb ?oa0 ?of0 ?oa1 ?of1 ?om1 ?ok1 ?oa2 ?of2 ?om2 ?ok2 ?oa3 ?of3 ?om3 ?ok3 ?oo ?t1 ?t2 ?t3 ?t4 ?t5 ?t6 ?t7 ?t8 ?t9 ?p0 ?q0 ?r0 ?u0 ?o0 ?p1 ?q1 ?r1 ?u1 ?o1 ?p2 ?q2 ?r2 ?u2 ?o2 ?p3 ?q3 ?r3 ?u3 ?o3 ?p4 ?q4 ?r4 ?u4 ?i4 ?p5 ?q5 ?r5 ?u5 ?i5 ?p6 ?q6 ?r6 ?u6 ?i6 ?tt ?tu ?a1 ?j1 ?F1 ?a2 ?j2 ?F2 ?a3 ?j3 ?F3 ?a4 ?j4 ?F4 ?a5 ?F5 ?a6 ?F6 ?a7 ?F7 ?a8 ?F8 ?a9 ?F9 ?a10_0 ?j10 ?F10 ?e10 ?a11_0 ?a11_1 ?a11_2 ?j11 ?F11 ?a12_0 ?a12_1 ?a12_2 ?j12 ?F12 ?a13_0 ?a13_1 ?j13 ?F13 ?a14_1 ?j14 ?F14 ?a15_2 ?j15 ?F15 ?a16_3 ?j16 ?F16 ?a17 ?F17 ?a18 ?F18 ?a19 ?F19 ?a20 ?F20 ?a21 ?F21 ?a22 ?F22 ?a23 ?F23 ?a24 ?F24 ?a25 ?F25 ?a26 ?F26 ?a27 ?F27 ?a28 ?F28 ?a29 ?F29 ?a30 ?F30 ?a31 ?F31 ?a32 ?F32 ?a33_1 ?j33 ?F33 ?a34_2 ?j34 ?F34 ?a35_3 ?j35 ?F35 ?a36 ?F36 ?a37 ?F37 ?a38 ?F38 ?a39 ?F39 ?a40 ?F40 ?a41 ?F41 ?a42 ?F42 ?a43 ?F43 ?a44_3 ?j44 ?F44 ?a45 ?F45 ?a46 ?F46 ?a47 ?F47 ?a48 ?F48 ?a49 ?F49 ?a50 ?F50 ?a51 ?F51 ?a52_3 ?j52 ?F52 ?a53 ?F53 ?a54 ?F54 ?a55 ?F55 ?a56 ?F56 ?a57 ?F57 ?a58_3 ?j58 ?F58 ?a59 ?F59 ?a60 ?F60 ?a61 ?F61 ?a62 ?F62 ?a63 ?F63 ?a64 ?F64 ?a65 ?F65 ?a66 ?F66 ?a67 ?F67 ?a68 ?F68 ?a69_0 ?a69_2 ?j69 ?F69 ?a70 ?F70 ?a71 ?F71 ?a72 ?F72 ?a73 ?F73 ?a74 ?F74 ?a75 ?F75 ?a76 ?F76 ?a77 ?F77 ?a78 ?F78 ?z1 ?z2 ?z3 ?z4 ?z5 ?z6 ?z7 ?z8 ?z9 ?z10 ?z11 ?z12 ?z13 ?z14 ?z15 ?g1 ?g2 ?g3 ?g4 ?g5
  (case ta=>(first | rfl | kernel_rfl | decide +kernel))
  (case tb=>(first | rfl | kernel_rfl | decide +kernel))
  (case oa0=>k_is)
  (case of0=>(first | rfl | kernel_rfl | decide +kernel))
  (case oa1=>k_is)
  (case of1=>(first | rfl | kernel_rfl | decide +kernel))
  (case om1|ok1|oa2=>k_is)
  (case of2=>(first | rfl | kernel_rfl | decide +kernel))
  (case om2|ok2|oa3=>k_is)
  (case of3=>(first | rfl | kernel_rfl | decide +kernel))
  (case om3|ok3=>k_is)
  (case oo=>(first | rfl | kernel_rfl | decide +kernel))
  (case t1|t2=>k_is)
  (case t3=>(first | rfl | kernel_rfl | decide +kernel))
  (case t4=>(first | rfl | kernel_rfl | decide +kernel))
  (case t5=>(first | rfl | kernel_rfl | decide +kernel))
  (case t6=>(first | rfl | kernel_rfl | decide +kernel))
  (case t7=>(first | rfl | kernel_rfl | decide +kernel))
  (case t8=>(first | rfl | kernel_rfl | decide +kernel))
  (case t9=>(first | rfl | kernel_rfl | decide +kernel))
  (case p0|q0=>k_is)
  (case r0=>(first | rfl | kernel_rfl | decide +kernel))
  (case u0=>(first | rfl | kernel_rfl | decide +kernel))
  (case o0|p1|q1=>k_is)
  (case r1=>(first | rfl | kernel_rfl | decide +kernel))
  (case u1=>(first | rfl | kernel_rfl | decide +kernel))
  (case o1|p2|q2=>k_is)
  (case r2=>(first | rfl | kernel_rfl | decide +kernel))
  (case u2=>(first | rfl | kernel_rfl | decide +kernel))
  (case o2|p3|q3=>k_is)
  (case r3=>(first | rfl | kernel_rfl | decide +kernel))
  (case u3=>(first | rfl | kernel_rfl | decide +kernel))
  (case o3|p4|q4=>k_is)
  (case r4=>(first | rfl | kernel_rfl | decide +kernel))
  (case u4=>(first | rfl | kernel_rfl | decide +kernel))
  (case i4|p5|q5=>k_is)
  (case r5=>(first | rfl | kernel_rfl | decide +kernel))
  (case u5=>(first | rfl | kernel_rfl | decide +kernel))
  (case i5|p6|q6=>k_is)
  (case r6=>(first | rfl | kernel_rfl | decide +kernel))
  (case u6=>(first | rfl | kernel_rfl | decide +kernel))
  (case i6=>k_is)
  (case tt=>(first | rfl | kernel_rfl | decide +kernel))
  (case tu=>(first | rfl | kernel_rfl | decide +kernel))
  (case a1|j1|a2|j2|a3|j3|a4|j4|a5|a6|a7|a8|a9|a10_0|j10=>k_is)
  (case e10=>(first | rfl | kernel_rfl | decide +kernel))
  (case a11_0|a11_1|a11_2|j11|a12_0|a12_1|a12_2|j12|a13_0|a13_1|j13|a14_1|j14|a15_2|j15|a16_3|j16|a17|a18|a19|a20|a21|a22|a23|a24|a25|a26|a27|a28|a29|a30|a31|a32|a33_1|j33|a34_2|j34|a35_3|j35|a36|a37|a38|a39|a40|a41|a42|a43|a44_3|j44|a45|a46|a47|a48|a49|a50|a51|a52_3|j52|a53|a54|a55|a56|a57|a58_3|j58|a59|a60|a61|a62|a63|a64|a65|a66|a67|a68|a69_0|a69_2|j69|a70|a71|a72|a73|a74|a75|a76|a77=>k_is)
  (case F77=>exact L2.QWd (by k_is) (by k_is) (by k_is) (by k_is))
  (case a78|z1|z2|z3|z4|z5|z6|z7|z8|z9|z10|z11|z12|z13|z14|z15|g1|g2|g3|g4|g5=>k_is)
  (case F1 | F2 | F3 | F4 | F5 | F6 | F7 | F8 | F9 | F10 | F11 | F12 | F13 | F14 | F15 | F16 | F17 | F18 | F19 | F20 | F21 | F22 | F23 | F24 | F25 | F26 | F27 | F28 | F29 | F30 | F31 | F32 | F33 | F34 | F35 | F36 | F37 | F38 | F39 | F40 | F41 | F42 | F43 | F44 | F45 | F46 | F47 | F48 | F49 | F50 | F51 | F52 | F53 | F54 | F55 | F56 | F57 | F58 | F59 | F60 | F61 | F62 | F63 | F64 | F65 | F66 | F67 | F68 | F69 | F70 | F71 | F72 | F73 | F74 | F75 | F76 | F78=>walk_at "fn")
 case S=>exact λw H a ns hl hb hO hS=>My.JLd hl hb hS
 case C=>exact λ_ _ _ _ _ z=>z
end
